import PyProof.Rows.All
import Wide.All
import OpenK.AllK
import Wide.FinOn
import Lean
import PyProof.EqAt
import PyProof.EqKinds
import PyProof.TupleCall
import PyProof.NeKinds
import KE.BitLaws
import PyProof.SumWalkG
import PyProof.ConsumeWalk
import PyProof.WalksMore
import KE.KSortedM
import PyProof.Rows.SetFrom
import PyProof.CompUse
import PyProof.ZipIter
import PyProof.EnumMake
import KE.KSortTup
import PyProof.Draws
import PyProof.ListRange
import PyProof.SliceList
import PyProof.DictIter
import PyProof.Rows.DictUnroll
import KE.KDictSum
import PyProof.DictRoadsH
import PyProof.DictKinds
import PyProof.DictItems
import PyProof.DictItemsLoops
import PyProof.Rows.TupDisplay
import KE.KDictList
import PyProof.SeqI3
import PySem.Challenge.RW_sharesample_k36_whole_turns_are_right
set_option bootstrap.genMatcherCode false
set_option genSizeOf false
set_option genSizeOfSpec false
set_option Elab.async false
set_option linter.all false
set_option maxRecDepth 100000
local macro_rules | `(tactic| left) => `(tactic| first | assumption | exact Nat.zero_le _ | exact Int.natCast_nonneg _ | exact Int.ofNat_lt.mpr (by assumption) | exact Nat.le_of_lt (by assumption) | exact Nat.le_trans (by assumption) (by assumption) | exact Nat.lt_of_lt_of_le (by assumption) (by assumption) | lia | omega)
noncomputable section
abbrev aaa:=@PySem.wpAny_bind
abbrev aac:=@PySem.wpAny_pure
abbrev aad:=@List.mem_cons_of_mem
abbrev aae:=@of_decide_eq_true
abbrev aaf:=@List.mem_cons_self
abbrev aag:=@Bool.false_ne_true
abbrev aah:=@PySem.Heap.lt_size
abbrev aai:=@PySem.Heap.get?_push_of_some
abbrev aaj:=@Nat.lt_of_lt_of_le
abbrev aak:=@List.map_congr_left
abbrev aal:=@Nat.le_refl
abbrev aam:=@Nat.pow_le_pow_right
abbrev aan:=@Nat.ne_of_lt
abbrev aao:=@List.mem_append_right
abbrev aap:=@PySem.Heap.get?_push_size
abbrev aaq:=@List.mem_map_of_mem
abbrev aar:=@List.getElem?_eq_getElem
abbrev aas:=@Nat.lt_of_le_of_lt
abbrev aat:=@Option.some.inj
abbrev aau:=@Nat.le_trans
abbrev aav:=@Nat.ne_of_gt
abbrev aaw:=@Nat.lt_irrefl
abbrev aax:=@List.mem_of_getElem?
abbrev aay:=@PySem.wpAny_mono
abbrev aaz:=@List.of_mem_zip
abbrev aaA:=@Nat.mul_le_mul
abbrev aaB:=@PyProof.Rows.callWith_type1
abbrev aaC:=@PySem.wpAny_field
abbrev aaD:=@Ne.symm
abbrev aaE:=@PySem.wpAny_call_entry
abbrev aaJ:=@List.mergeSort_perm
abbrev aaK:=@Nat.zero_le
abbrev aaL:=@PySem.wpAny_holding
abbrev aaM:=@PySem.wpAny_seqItems
abbrev aaN:=@Nat.lt_succ_of_lt
abbrev aaO:=@PySem.wpAny_callSpecial?_slot
abbrev aaP:=@List.mem_append_left
abbrev aaQ:=@PySem.Heap.get?_update_other
abbrev aaR:=@List.nodup_nil
abbrev aaX:=@PySem.Heap.SameBut.update
abbrev aaY:=@List.length_map
abbrev aaZ:=@PySem.Heap.get?_update_self
abbrev aa0:=@if_pos
abbrev aa1:=@PySem.wpAny_truthy_bool
abbrev aa2:=@congrArg
abbrev aa3:=@PySem.F.slot_dict_keyiterator_next
abbrev aa4:=@decide_eq_false
abbrev aa5:=@Nat.lt_succ_self
abbrev aa6:=@PySem.sizeLine_eq
abbrev aa7:=@Nat.mul_le_mul_right
abbrev aa8:=@PySem.wpAny_newObj_type
abbrev aa9:=@PySem.wpAny_typeNameOfWhole_keyiter
abbrev aa_:=@PySem.mem_of_lookup
abbrev aba:=@PySem.wpAny_Call_Name_kw
abbrev abb:=@PySem.wpAny_setField_rec
abbrev abc:=@Rat.le_of_lt
abbrev abd:=@PySem.wpAny_passesOwn
abbrev abe:=@PySem.W.kia_one
abbrev abf:=@Int.mul_ne_zero
abbrev abg:=@PySem.wpAny_rule
abbrev abh:=@Array.getElem?_eq_getElem
abbrev abi:=@decide_eq_true
abbrev abj:=@Rat.mul_nonneg
abbrev abk:=@PySem.wpAny_isInstance
abbrev abl:=@PySem.wpAny_typeNameOf_keyiter
abbrev abm:=@Int.mul_fdiv_cancel_left
abbrev abo:=@List.cons.inj
abbrev abp:=@PySem.wpAny_specialOf
abbrev abq:=@Rat.mul_le_mul_of_nonneg_right
abbrev abr:=@PyProof.Rows.subscriptTail_builtinR
abbrev abu:=@PySem.Calls.callWith_builtin
abbrev abv:=@Array.getElem?_eq_none
abbrev abw:=@Nat.le_mul_of_pos_left
abbrev abx:=@PySem.F.slot_zip_next
abbrev aby:=@Nat.lt_trans
abbrev abz:=@List.length_filter_le
abbrev abA:=@PySem.call_meets
abbrev abB:=@List.getElem_mem
abbrev abC:=@PySem.wpAny_pyIter_zip
abbrev abD:=@Nat.pow_lt_pow_right
abbrev abE:=@PySem.wpAny_attempt
abbrev abF:=@Rat.mul_pos
abbrev abG:=@Nat.mul_le_mul_left
abbrev abH:=@PySem.SeqAt.EqAt.same
abbrev abI:=@PySem.codeAny_builtin
abbrev abJ:=@Nat.le_of_lt
abbrev abK:=@PySem.SeqAt.EqAt.int_int
abbrev abL:=@PySem.F.args_tuple_add_2
abbrev abM:=@PySem.F.slot_list_append
abbrev abN:=@Int.mul_le_mul
abbrev abO:=@PySem.F.entry_tuple_add
abbrev abP:=@PySem.F.plainAttrs_list
abbrev abQ:=@PySem.wpAny_dictEntries
abbrev abR:=@PySem.F.slot_tuple_add
abbrev abS:=@PySem.wpAny_nextOf_list_item
abbrev abT:=@Int.fmod_nonneg_of_pos
abbrev abU:=@Rat.intCast_lt_intCast
abbrev abV:=@Nat.le_of_dvd
abbrev abW:=@beq_self_eq_true
abbrev abX:=@List.ext_getElem
abbrev abY:=@PySem.wpAny_forIn_list
abbrev abZ:=@PySem.F.slot_tuple_lt
abbrev ab0:=@PySem.wpAny_nextOf_list_end
abbrev ab1:=@Eq.symm
abbrev ab2:=@PySem.isSubtype_tuple_tuple
abbrev ab3:=@PySem.codeAny_mono
abbrev ab4:=@PySem.SeqAt.EqAt.none_bool
abbrev ab5:=@PySem.SeqAt.EqAt.bool_none
abbrev ab6:=@PySem.SeqAt.EqAt.bool_bool
abbrev ab7:=@PySem.Calls.evalArgs_plain
abbrev ab8:=@PySem.wpAny_updateSeq_pair
abbrev ab9:=@PySem.F.slot_zip_next
abbrev ab_:=@PySem.wpAny_updateSeq
abbrev aca:=@PySem.SeqAt.EqAt.none_int
abbrev acb:=@PySem.SeqAt.EqAt.bool_int
abbrev acd:=@PySem.SeqAt.EqAt.int_none
abbrev ace:=@PySem.SeqAt.EqAt.int_bool
abbrev acf:=@Nat.add_le_add_left
abbrev acg:=@PySem.wpAny_setField
abbrev ach:=@Nat.le_succ
abbrev aci:=@Nat.mul_pos
abbrev acj:=@PySem.Calls.spliced_cons
abbrev ack:=@if_neg
abbrev acm:=@PySem.tupleKind_room_in1
abbrev acn:=@Int.fmod_lt_of_pos
abbrev acp:=@PySem.wpAny_tupleItemsOf
abbrev acq:=@PySem.wpAny_standAt
abbrev acr:=@PySem.wpAny_newList
abbrev acs:=@PySem.wpAny_onRaise
abbrev acu:=@PySem.W.mg_of
abbrev acv:=@PySem.Calls.spliced_nil
abbrev acw:=@Nat.le_succ_of_le
abbrev acx:=@List.getElem_inj
abbrev acB:=@Nat.le_add_right
abbrev acC:=@Eq.trans
abbrev acD:=@Rat.le_refl
abbrev acE:=@Int.mul_pos
abbrev acF:=@Int.le_refl
abbrev af:=List (List Int)
abbrev aa:=List Int
abbrev aN:=List Nat
abbrev au:=List PySem.Str
abbrev ao:=List PySem.Value
abbrev aw:=List PySem.Expr
abbrev aO:=List PySem.Addr
abbrev bq:=List PySem.Stmt
abbrev ai:=List Rat
abbrev aK:=Array PySem.Value
abbrev aq:=PySem.W.Frag
abbrev az:=PySem.Value->PySem.Shared->Prop
abbrev ak:=List (PySem.Addr×PySem.Obj)
abbrev aj:=PySem.Addr->Prop
abbrev a_:=PySem.Str->Option PySem.Value
abbrev aF:=PySem.Program
abbrev aE:=PySem.Around
namespace L2
open PySem PySem.Spec PyProof.Rows
noncomputable abbrev Key:=Sum Int Str
def Jm:Key->Value->Bool
 |.inl k,v=>Value.isInt k v
 |.inr x,v=>Value.isStrOf x v
def VM(w:World):Key->Int
 |.inl k=>hashInt k
 |.inr x=>hashStr w x
theorem ck:∀{k:Key} {v:Value},Jm k v=true->(∃i t,k=Sum.inl i/\v=Value.int i t)\/(∃x t,k=Sum.inr x/\v=Value.str x t)
 |.inl i,v,h=>by
  obtain⟨t,e⟩:=Value.isInt_shape (k:=i) (v:=v) h;exact .inl ⟨i,t,rfl,e⟩
 |.inr x,v,h=>by
  obtain⟨t,e⟩:=Value.isStrOf_shape (x:=x) (v:=v) h;exact .inr ⟨x,t,rfl,e⟩
theorem LU(a b:Int):decide ((Sum.inl a:Key)=Sum.inl b)=(a==b):=by
 by_cases e:a=b
 ·subst e;simp
 ·have h:¬ (Sum.inl a:Key)=Sum.inl b:=λq=>e (Sum.inl.inj q);rw[decide_eq_false h];exact(beq_eq_false_iff_ne.mpr e).symm
theorem LQ(a b:Str):decide ((Sum.inr a:Key)=Sum.inr b)=decide (a=b):=by
 by_cases e:a=b
 ·subst e;simp
 ·have h:¬ (Sum.inr a:Key)=Sum.inr b:=λq=>e (Sum.inr.inj q);rw[decide_eq_false h,decide_eq_false e]
theorem LS(a:Int)(b:Str):decide ((Sum.inl a:Key)=Sum.inr b)=false:=aa4 (λq=>nomatch q)
theorem LR(a:Str)(b:Int):decide ((Sum.inr a:Key)=Sum.inl b)=false:=aa4 (λq=>nomatch q)
def yY(prog:aF)(w:World):PySem.KeyKind prog w Key where
 is:=Jm
 hash:=VM w
 inj:=λv a b ha hb=>by
  rcases ck ha with ⟨i,t,rfl,rfl⟩|⟨x,t,rfl,rfl⟩
  ·rcases ck hb with ⟨j,u,rfl,e⟩|⟨y,u,rfl,e⟩
   ·injection e with e1 _;rw[e1]
   ·exact nomatch e
  ·rcases ck hb with ⟨j,u,rfl,e⟩|⟨y,u,rfl,e⟩
   ·exact nomatch e
   ·injection e with e1 _;rw[e1]
 byValue:=λk v h=>by
  rcases ck h with ⟨i,t,rfl,rfl⟩|⟨x,t,rfl,rfl⟩<;>rfl
 pyHash:=λhv h=>by
  rcases ck hv with ⟨i,t,rfl,rfl⟩|⟨x,t,rfl,rfl⟩
  ·exact wpAny_pyHash_int h
  ·exact wpAny_pyHash_str h
 eqBool:=λhu hv h=>by
  rcases ck hu with ⟨i,t,rfl,rfl⟩|⟨x,t,rfl,rfl⟩
  ·rcases ck hv with ⟨j,u,rfl,rfl⟩|⟨y,u,rfl,rfl⟩
   ·rw[LU]at h;exact wpAny_eqBool_int h
   ·rw[LS]at h;exact SeqAt.EqAt.int_str i t y u _ _ _ _ h
  ·rcases ck hv with ⟨j,u,rfl,rfl⟩|⟨y,u,rfl,rfl⟩
   ·rw[LR]at h;exact SeqAt.EqAt.str_int x t j u _ _ _ _ h
   ·rw[LQ]at h;exact wpAny_eqBool_str h
 «strs»:=λk x t v h=>by
  rcases ck h with ⟨i,u,rfl,e⟩|⟨y,u,rfl,e⟩
  ·exact nomatch e
  ·injection e with e1 _
   subst e1;cases v<;>rfl
end L2
namespace L2
open PySem PySem.Spec PyProof.Rows
inductive V where
 |cg|bl (b:Bool)|int (i:Int)|str (x:Str)|XB (b:Array UInt8)|RM (b:UInt64)|ref (a:Addr)|ty (n:String)
 deriving DecidableEq
abbrev ae:=List V
noncomputable def RelV:V->Value->Prop
 |.cg,u=>u=Value.none
 |.bl b,u=>u=Value.bool b
 |.int i,u=>∃t,u=Value.int i t
 |.str x,u=>∃t,u=Value.str x t
 |.XB b,u=>∃t,u=Value.bytes b t
 |.RM b,u=>∃t,u=Value.float b t
 |.ref a,u=>u=Value.ref a
 |.ty n,u=>u=Value.type n
abbrev Vals:ae->ao->Prop:=Paired RelV
theorem Vals.length{xs:ae}{us:ao}(r:Vals xs us):xs.length=us.length:=Paired.length r
theorem Vals.get:∀{xs:ae} {us:ao} {i:Nat} {x:V},Vals xs us->xs[i]?=some x->∃u,us[i]?=some u/\RelV x u
 |_,_,_,_,.nil,e=>by simp at e
 |_,_,0,_,.cons r _,e=>by simp at e;subst e;exact⟨_,rfl,r⟩
 |_,_,i+1,x,.cons _ t,e=>by
  obtain⟨u,h1,h2⟩:=Vals.get (i:=i) (x:=x) t (by simpa using e);exact⟨u,by simpa using h1,h2⟩
theorem Vals.append:∀{xs ys:ae} {us ws:ao},Vals xs us->Vals ys ws->Vals (xs++ys) (us++ws)
 |_,_,_,_,.nil,s=>s
 |_,_,_,_,.cons r t,s=>.cons r (Vals.append t s)
theorem Vals.take:∀{xs:ae} {us:ao} (n:Nat),Vals xs us->Vals (xs.take n) (us.take n)
 |_,_,0,_=>.nil
 |_,_,_+1,.nil=>.nil
 |_,_,n+1,.cons r t=>.cons r (Vals.take n t)
theorem Vals.drop:∀{xs:ae} {us:ao} (n:Nat),Vals xs us->Vals (xs.drop n) (us.drop n)
 |_,_,0,r=>r
 |_,_,_+1,.nil=>.nil
 |_,_,n+1,.cons _ t=>Vals.drop n t
def m9:Option V->Option Value->Prop
 |some v,some u=>RelV v u
 |none,none=>True
 |_,_=>False
def KV{κ:Type}:List (κ×V)->List (κ×Value)->Prop:=Paired λ(p:κ×V) (q:κ×Value)=>p.1=q.1/\RelV p.2 q.2
def kV:Key->V
 |.inl i=>.int i
 |.inr x=>.str x
inductive HO where
 |lst (xs:ae)
 |tup (xs:ae)
 |dK (oT:List (Key×V))|dT (oT:List (List Key×V))
 |set (S:Int->Bool) (n:Nat)
 |ins (C dx:Addr) (fs:List (Str×V))
 |own (x:Addr)
 |xd (fs:List (Str×V))
 |met (f x:Addr)
 |lz (lo hi:Int)
 |iI (o:Obj) (u:HO)
 |IP (ps:aK)
 |ext (φ:Heap->Prop)
noncomputable abbrev Hp:=Addr->Option HO
noncomputable def upd(H:Hp)(a:Addr)(o:HO):Hp:=λb=>if b=a then some o else H b
variable {H:Hp}
theorem aX{a:Addr}{o:HO}:upd H a o a=some o:=by unfold upd;rw[if_pos rfl]
theorem aY{a b:Addr}{o:HO}(h:b≠a):upd H a o b=H b:=by unfold upd;rw[if_neg h]
theorem cm{a b:Addr}{o:HO}(h:H a=some o)(h':H b=none):a≠b:=by
 intro e;subst e;rw[h]at h';cases h'
section
variable (P:aF)(w:World)
def cy(H:Hp)(h:Heap)(a:Addr):HO->Prop
 |.lst xs=>xs.length<=sizeLine/\∃(aI:ao) (n:Nat),Vals xs aI/\h.get? a=some { cls:=.type "list",data:=.seq aI.toArray n }
 |.tup xs=>xs.length<=sizeLine/\∃aI:ao,Vals xs aI/\IsTup h a aI.toArray
 |.dK oT=>oT.length<=sizeLine/\(a==sysModules)=false/\∃vs,KV oT vs/\h.DictOf (yY P w) a vs
 |.dT oT=>oT.length<=sizeLine/\(a==sysModules)=false/\∃xs:List (List Key×Addr×Value),
   Paired (λ(p:List Key×V) (q:List Key×Addr×Value)=>p.1=q.1/\H q.2.1=some (.tup (p.1.map kV))/\RelV p.2 q.2.2) oT xs /\
   ∃o es ep,h.get? a=some o/\o.ExactDict/\o.data=.dict es ep/\es.toList=xs.map (entryOfKey (tupleKind (yY P w)))/\(xs.map (·.1)).Nodup
 |.set S n=>h.SetOf (intKind P w) a S n
 |.ins C dx fs=>H dx=some (.own a)/\fs.length<=1000/\dx≠a/\h.get? a=some (PySem.W.instObj C dx) /\
   ∃mA,h.Ns1 dx mA/\(∀f,m9 (fs.lookup f) (mA f))/\PySem.Within mA (fs.map (·.1))
 |.own _=>∃o,h.get? a=some o
 |.xd fs=>∃mA,h.Ns1 a mA/\∀f,m9 (fs.lookup f) (mA f)
 |.lz lo hi=>∃t u v,h.get? a=some { cls:=.type "range",data:=.fields #[.int lo t,.int hi u,.int 1 v] }
 |.iI o u=>h.get? a=some o/\cy H h a u
 |.IP ps=>h.get? a=some { cls:=.none,data:=.fields ps }
 |.met f x=>h.get? a=some (PySem.W.methodObj (.ref f) (.ref x))
 |.ext φ=>φ h/\(∃o,h.get? a=some o)/\∀h1 h2:Heap,φ h1->(∀o,h1.get? a=some o->h2.get? a=some o)->φ h2
def mh(H:Hp)(h:Heap):Prop:=∀a o,H a=some o->cy P w H h a o
end
section
variable {P:aF}{w:World}{H H':Hp}{h h':Heap}{a:Addr}{o:HO}
theorem cy.lt(x:cy P w H h a o):a<h.objs.size:=by
 cases o with
 |lst xs=>obtain⟨_,_,_,_,e⟩:=x;exact aah e
 |tup xs=>obtain⟨_,_,_,p⟩:=x;exact p.lt
 |dK oT=>obtain⟨_,_,_,_,o,_,_,e,_⟩:=x;exact aah e
 |dT oT=>obtain⟨_,_,_,_,o,_,_,e,_⟩:=x;exact aah e
 |set S n=>obtain⟨o,_,_,_,e,_⟩:=x;exact aah e
 |ins C dx fs=>obtain⟨_,_,_,e,_⟩:=x;exact aah e
 |own y=>obtain⟨_,e⟩:=x;exact aah e
 |xd fs=>obtain⟨_,⟨_,_,_,e,_⟩,_⟩:=x;exact aah e
 |lz lo hi=>obtain⟨_,_,_,e⟩:=x;exact aah e
 |iI ob u=>obtain⟨e,_⟩:=x;exact aah e
 |IP ps=>exact aah (show h.get? a=some _ from x)
 |met f y=>exact aah (show h.get? a=some _ from x)
 |ext φ=>obtain⟨_,⟨_,e⟩,_⟩:=x;exact aah e
theorem Paired.Qi{α β:Type}{F G:α->β->Prop}:∀{l₁:List α} {l₂:List β},Paired F l₁ l₂->(∀a b,F a b->G a b)->Paired G l₁ l₂
 |_,_,.nil,_=>.nil
 |_,_,.cons r t,f=>.cons (f _ _ r) (Paired.Qi t f)
theorem cy.oq(x:cy P w H h a o)(k:∀b u,(b=a\/H b=some (.own a))->h.get? b=some u->h'.get? b=some u)
  (ho:∀b,H b=some (.own a)->H' b=some (.own a)) (ht:∀b xs,H b=some (.tup xs)->H' b=some (.tup xs)):cy P w H' h' a o:=by
 induction o with
 |lst xs=>obtain⟨z,aI,n,r,e⟩:=x;exact⟨z,aI,n,r,k _ _ (.inl rfl) e⟩
 |tup xs=>obtain⟨z,aI,r,ob,e,c⟩:=x;exact⟨z,aI,r,ob,k _ _ (.inl rfl) e,c⟩
 |dK oT=>obtain⟨z,y,vs,r,ob,es,ep,e,c⟩:=x;exact⟨z,y,vs,r,ob,es,ep,k _ _ (.inl rfl) e,c⟩
 |dT oT =>
  obtain⟨z,y,xs,r,ob,es,ep,e,c⟩:=x;exact⟨z,y,xs,Paired.Qi r λp q z=>⟨z.1,ht _ _ z.2.1,z.2.2⟩,ob,es,ep,k _ _ (.inl rfl) e,c⟩
 |set S n=>obtain⟨ob,es,ep,t,e,c⟩:=x;exact⟨ob,es,ep,t,k _ _ (.inl rfl) e,c⟩
 |ins C dx fs =>
  obtain⟨d,z,ne,e,mA,⟨od,es,ep,e2,c⟩,r⟩:=x;exact⟨ho _ d,z,ne,k _ _ (.inl rfl) e,mA,⟨od,es,ep,k _ _ (.inr d) e2,c⟩,r⟩
 |own y=>obtain⟨ob,e⟩:=x;exact⟨ob,k _ _ (.inl rfl) e⟩
 |xd fs=>obtain⟨mA,⟨od,es,ep,e,c⟩,r⟩:=x;exact⟨mA,⟨od,es,ep,k _ _ (.inl rfl) e,c⟩,r⟩
 |lz lo hi=>obtain⟨t,u,v,e⟩:=x;exact⟨t,u,v,k _ _ (.inl rfl) e⟩
 |iI ob u ih=>obtain⟨e,q⟩:=x;exact⟨k _ _ (.inl rfl) e,ih q⟩
 |IP ps =>
  have e:h.get? a=some { cls:=.none,data:=.fields ps }:=x;show h'.get? a=some { cls:=.none,data:=.fields ps };exact k a _ (.inl rfl) e
 |met f y =>
  have e:h.get? a=some (PySem.W.methodObj (.ref f) (.ref y)):=x;show h'.get? a=some (PySem.W.methodObj (.ref f) (.ref y));exact k a _ (.inl rfl) e
 |ext φ=>obtain⟨p,⟨o,e⟩,st⟩:=x;exact⟨st _ _ p λo q=>k _ _ (.inl rfl) q,⟨o,k _ _ (.inl rfl) e⟩,st⟩
theorem mh.lt(x:mh P w H h)(e:H a=some o):a<h.objs.size:=(x a o e).lt
theorem mh.fresh(x:mh P w H h)(e:h.objs.size<=a):H a=none:=by
 cases q:H a with
 |none=>rfl
 |some u=>exact absurd (aaj (x.lt q) e) (aaw _)
theorem mh.kept(x:mh P w H h)(k:∀b u,h.get? b=some u->h'.get? b=some u):mh P w H h':=λa o e =>
 (x a o e).oq (λb u _ q=>k b u q) (λ_ q=>q) λ_ _ q=>q
theorem mh.laid(x:mh P w H h)(k:∀b u,h.get? b=some u->h'.get? b=some u)(hp:h.objs.size<=a)(new:cy P w (upd H a o) h' a o):mh P w (upd H a o) h':=λb u e=>by
 have hn:=x.fresh hp;by_cases hb:b=a
 ·subst hb;rw[aX]at e;cases e;exact new
 ·rw[aY hb]at e;exact(x b u e).oq (λc v _ q=>k c v q) (λc q=>by rw[aY (cm q hn)];exact q) λc xs q=>by rw[aY (cm q hn)];exact q
end
def Rd(H:Hp)(a:Addr)(u:HO):Prop:=H a=some u\/∃o,H a=some (.iI o u)
theorem Rd.ok{P:aF}{w:World}{h:Heap}{a:Addr}{u:HO}(r:Rd H a u)(x:mh P w H h):cy P w H h a u:=by
 rcases r with r|⟨o,r⟩
 ·exact x a u r
 ·obtain⟨_,q⟩:=x a _ r;exact q
noncomputable def Ug:Option HO->Prop
 |some (.lst _)=>True
 |some (.dK _)=>True
 |some (.dT _)=>True
 |some (.set _ _)=>True
 |some (.ins _ _ _)=>True
 |some (.ext _)=>True
 |_=>False
section
variable {P:aF}{w:World}{H:Hp}{h h':Heap}{x e:Addr}{o':HO}
theorem mh.write(ok:mh P w H h)(mu:Ug (H x))(he:e=x\/H e=some (.own x))(k:∀b u,b≠e->h.get? b=some u->h'.get? b=some u)(Oe:∃u,h'.get? e=some u)
  (new:cy P w (upd H x o') h' x o'):mh P w (upd H x o') h':=λb u q=>by
 have P8:∀c y,H c=some (.own y)->c≠x:=λc y r z=>by subst z;rw[r]at mu;exact mu
 have VB:∀c xs,H c=some (.tup xs)->c≠x:=λc xs r z=>by subst z;rw[r]at mu;exact mu
 by_cases hb:b=x
 ·subst hb;rw[aX]at q;cases q;exact new
 ·rw[aY hb]at q;by_cases Mr:b=e
  ·have q':H b=some (.own x):=by
    rcases he with z|z
    ·exact absurd (Mr.trans z) hb
    ·rw[Mr];exact z
   rw[q]at q';cases q';obtain⟨v,hv⟩:=Oe;exact⟨v,by rw[Mr];exact hv⟩
  ·refine(ok b u q).oq (λc v hc r=>k c v ?_ r) (λc r=>by rw[aY (P8 c b r)];exact r) λc xs r=>by rw[aY (VB c xs r)];exact r
   rcases hc with rfl|hc
   ·exact Mr
   ·rintro rfl;rcases he with z|z
    ·exact P8 c b hc z
    ·rw[hc]at z;cases z;exact hb rfl
end
structure Un(fs ex:aO)(H H':Hp)(h h':Heap):Prop where
 keep:∀b o,h.get? b=some o->H b=none->b∉fs->b∉ex->h'.get? b=some o
 slot:∀b o,h.get? b=some o->H b=none->b∈fs->b∉ex->∃sl,h'.get? b=some { o with slots:=sl }
 free:∀b o,h.get? b=some o->H b=none->b∉ex->H' b=none
 there:∀b o,h.get? b=some o->b∉ex->∃o',h'.get? b=some o'
 rR:∀b xs,H b=some (.tup xs)->H' b=some (.tup xs)
 qp:∀b o u,H b=some (.iI o u)->H' b=some (.iI o u)
 rV:∀b ps,H b=some (.IP ps)->∃more,H' b=some (.IP (ps++more))
section
variable {fs fs' ex Xg:aO}{H H1 H2:Hp}{h h1 h2 h':Heap}{a x e:Addr}{o:HO}
theorem Un.any(u:Un fs ex H H1 h h1){b:Addr}{ob:Obj}(q:h.get? b=some ob)(n:H b=none)(hx:b∉ex):∃sl,h1.get? b=some { ob with slots:=sl }:=by
 by_cases hb:b∈fs
 ·exact u.slot b ob q n hb hx
 ·exact⟨ob.slots,u.keep b ob q n hb hx⟩
theorem Un.kept(k:∀b u,h.get? b=some u->h'.get? b=some u):Un fs ex H H h h' :=
 ⟨λb ob q _ _ _=>k b ob q,λb ob q _ _ _=>⟨ob.slots,k b ob q⟩,λ_ _ _ n _=>n,λb ob q _=>⟨ob,k b ob q⟩,λ_ _ q=>q,λ_ _ _ q=>q,λ_ ps q=>⟨#[],by rw[q];simp⟩⟩
theorem Un.refl:Un fs ex H H h h:=Un.kept λ_ _ q=>q
theorem Un.laid(k:∀b u,h.get? b=some u->h'.get? b=some u)(hp:h.objs.size<=a)(hn:H a=none):Un fs ex H (upd H a o) h h' where
 keep:=λb u q _ _ _=>k b u q
 slot:=λb u q _ _ _=>⟨u.slots,k b u q⟩
 free:=λb u q n _=>by rw[aY (Nat.ne_of_lt (Nat.lt_of_lt_of_le (Heap.lt_size q) hp))];exact n
 there:=λb u q _=>⟨u,k b u q⟩
 rR:=λb xs q=>by rw[aY (cm q hn)];exact q
 qp:=λb u xs q=>by rw[aY (cm q hn)];exact q
 rV:=λb ps q=>⟨#[],by rw[aY (cm q hn),q];simp⟩
theorem Un.write(mu:Ug (H x))(he:e=x\/H e=some (.own x))(k:∀b u,b≠e->h.get? b=some u->h'.get? b=some u)(Oe:∃u,h'.get? e=some u):Un fs ex H (upd H x o) h h':=by
 have hx:∀b,H b=none->b≠x:=λb n z=>by subst z;rw[n]at mu;exact mu
 have hb:∀b,H b=none->b≠e:=λb n z=>by
  subst z;rcases he with r|r
  ·exact hx b n r
  ·rw[n]at r;cases r
 have hm:∀b u,H b=some u->¬ Ug (some u)->b≠x:=λb u q nm z=>by subst z;rw[q]at mu;exact nm mu
 refine⟨λb u q n _ _=>k b u (hb b n) q,λb u q n _ _=>⟨u.slots,k b u (hb b n) q⟩,λb u q n _=>by rw[aY (hx b n)];exact n,λb u q _=>?_,
  λb xs q=>by rw[aY (hm b _ q λz=>z)];exact q,λb u xs q=>by rw[aY (hm b _ q λz=>z)];exact q,λb ps q=>⟨#[],by rw[aY (hm b _ q λz=>z),q];simp⟩⟩
 by_cases Mr:b=e
 ·subst Mr;exact Oe
 ·exact⟨u,k b u Mr q⟩
end
noncomputable def SG(h:Heap)(H:Hp):aO:=(List.range h.objs.size).filter λa=>(H a).isSome
def sN(h:Heap)(H:Hp):Heap:=PySem.W.hideAll h (SG h H)
theorem AQ(h:Heap)(H:Hp):(sN h H).objs.size=h.objs.size:=PySem.W.hideAll_size _ _
variable {o:Obj}
theorem D8{h:Heap}{b:Addr}(e:h.get? b=some o)(n:H b=none):(sN h H).get? b=some o :=
 PySem.W.hideAll_get _ e λhm=>by
  have q:(H b).isSome=true:=(List.mem_filter.mp hm).2;rw[n]at q;simp at q
theorem G8{h:Heap}{b:Addr}(e:(sN h H).get? b=some o):h.get? b=some o/\H b=none:=by
 have e':h.get? b=some o:=PySem.W.of_hideAll (SG h H) e;refine⟨e',?_⟩;cases q:H b with
 |none=>rfl
 |some x =>
  have hm:b∈SG h H:=List.mem_filter.mpr ⟨List.mem_range.mpr (aah e'),by simp[q]⟩;have z:(sN h H).get? b=none:=PySem.W.hideAll_none (SG h H) hm;rw[z]at e;cases e
noncomputable def Ip(g h:Heap)(L:Addr):ak:=(List.range h.objs.size).filterMap λa=>if a=L\/(g.get? a).isSome=true then none else(h.get? a).map λo=>(a,o)
def rest(g h:Heap)(L d:Addr):ak:=(Ip g h L).filter λp=>decide (p.1≠d)
end L2
namespace L2
open PySem PySem.Spec PyProof.Rows
structure Mod(K:aq)(mg:a_)(base:Heap):Prop where
 VL:K.In base
 glob:base.Ns mainGlobals mg
 blt:∃mb,base.Ns builtinsNs mb/\∀x:Str,x ≠ "__name__" -> mb x=bootBuiltins x
 nolimit:base.NoLimit
structure Cx where
 prog:aF
 w:World
 K:aq
 mg:a_
 base:Heap
 A:aE
 N:au
 s₀:Shared
 H₀:Hp
 env:Env
 outer:List Env
 stack:List Env
 ex:aO
 fn:Str->Bool
 calm:Bool
 pn:ak
 xe:az
noncomputable def Bv(l:List Env):aO:=l.filterMap (·.frame)
abbrev Cx.fs(X:Cx):aO:=Bv X.outer
def NI(sc:Scope)(x:Str):Prop:=sc.names.lookup x=some .local\/sc.names.lookup x=some .cell\/sc.names.lookup x=some .free
def Loc(sc:Scope)(x:Str):Prop:=sc.names.lookup x=some .local\/sc.names.lookup x=some .cell
noncomputable def Look(env:Env)(h:Heap)(m:a_)(x:Str)(u:Value):Prop :=
 (env.kindOf x=some .local/\m x=some u)\/((env.kindOf x=some .cell\/env.kindOf x=some .free)/\∃c,env.cells.lookup x=some c/\h.IsCell c (some u))
structure Cx.Ok(X:Cx):Prop where
 mod:Mod X.K X.mg X.base
 kind:X.env.scope.kind=.function
 glob:X.env.globals=mainGlobals
 blt:X.env.builtins=builtinsNs
 above:X.s₀.heap.objs.size<=X.env.locals
 inj:∀x y c,X.env.cells.lookup x=some c->X.env.cells.lookup y=some c->x=y
 has:∀x,(X.env.kindOf x=some .cell\/X.env.kindOf x=some .free)->∃c,X.env.cells.lookup x=some c
 Sh:∀x c,X.fn x=true->X.env.cells.lookup x=some c->X.s₀.heap.objs.size<=c
 hd:X.calm=true->X.A.handled=none
 frames:X.A.frames=some X.stack
 SR:X.stack=X.outer\/(X.stack=X.env::X.outer/\X.env.frame=some X.env.locals)
 Zm:∀b∈X.ex,b≠X.env.locals/\∀x c,X.env.cells.lookup x=some c->c≠b
 bs:∀b o,X.base.get? b=some o->X.s₀.heap.get? b=some o/\X.H₀ b=none
 JP:X.base.objs.size<=X.s₀.heap.objs.size
 Dh:∀b o,X.base.get? b=some o->b∉X.ex
 HG:∀b∈X.ex,b∉X.fs
 m5:X.s₀.heap.FunFrames X.base X.outer
 Oj:∀b∈X.fs,X.H₀ b=none
structure Inv(X:Cx)(pins:ak)(σ:List (Option V))(H:Hp)(s:Shared):Prop where
 ok:X.Ok
 os:s.os=X.s₀.os
 bare:AllBare s.gens
 base:Un X.fs X.ex X.H₀ H X.s₀.heap s.heap
 loc:∃m,s.heap.Ns X.env.locals m/\∀(i:Nat) (x:Str) (v:V),X.N[i]?=some x->σ[i]?=some (some v)->NI X.env.scope x->∃u,RelV v u/\Look X.env s.heap m x u
 cell:∀x c,X.env.cells.lookup x=some c->∃v,s.heap.IsCell c v
 free:H X.env.locals=none
 jO:∀x c,X.env.cells.lookup x=some c->H c=none
 pin:∀p∈X.pn++pins,s.heap.get? p.1=some p.2/\H p.1=none/\p.1≠X.env.locals/\p.1∉X.fs/\∀v,p.2.data≠.cell v
 cV:mh X.prog X.w H s.heap
 len:σ.length=X.N.length
variable {A:aE}{E:Value->Shared->Prop}{Q:Unit->Shared->Prop}{ch:aO}{t':Nat}
section
variable {X:Cx}{pins:ak}{σ:List (Option V)}{H H':Hp}{s:Shared}{h':Heap}
theorem Cx.Ok.VC(ok:X.Ok){b:Addr}{o:Obj}(e:X.base.get? b=some o):b∉X.fs:=λhb=>by
 have:=(ok.m5.mem hb).1;rw[e]at this;cases this
theorem Inv.bs(I:Inv X pins σ H s):∀b o,X.base.get? b=some o->s.heap.get? b=some o/\H b=none:=λb o e =>
 ⟨I.base.keep b o (I.ok.bs b o e).1 (I.ok.bs b o e).2 (I.ok.VC e) (I.ok.Dh b o e),I.base.free b o (I.ok.bs b o e).1 (I.ok.bs b o e).2 (I.ok.Dh b o e)⟩
theorem Inv.bk(I:Inv X pins σ H s):∀b o,X.base.get? b=some o->s.heap.get? b=some o:=λb o e=>(I.bs b o e).1
theorem Inv.mod(I:Inv X pins σ H s):Mod X.K X.mg X.base:=I.ok.mod
theorem Inv.AD(I:Inv X pins σ H s):X.K.In s.heap:=I.ok.mod.VL.keeps I.bk
theorem Inv.lt(I:Inv X pins σ H s):X.env.locals<s.heap.objs.size:=let ⟨_,hn,_⟩:=I.loc;hn.lt
theorem Inv.sz(I:Inv X pins σ H s):X.s₀.heap.objs.size<=s.heap.objs.size:=aau I.ok.above (abJ I.lt)
theorem Inv.Lv(I:Inv X pins σ H s){a:Addr}(h:s.heap.objs.size<=a):a∉X.fs:=λhb=>by
 obtain⟨_,o,ho,_⟩:=I.ok.m5.mem hb;exact absurd (aaj (aah ho) (aau I.sz h)) (aaw _)
theorem Inv.Nw(I:Inv X pins σ H s):∀x c,X.env.cells.lookup x=some c->c≠X.env.locals:=λx c e z=>by
 obtain⟨v,o,ho,hd⟩:=I.cell x c e;obtain⟨m,⟨o',es,ep,eO,Hw,_⟩,_⟩:=I.loc;rw[z,eO]at ho;cases ho;rw[Hw]at hd;cases hd
theorem Inv.m5(I:Inv X pins σ H s):s.heap.FunFrames X.base X.outer:=by
 have all:∀(l:List Env),(∀b∈Bv l,b∈X.fs)->X.s₀.heap.FunFrames X.base l->s.heap.FunFrames X.base l:=by
  intro l;induction l with
  |nil=>intro _ _;trivial
  |cons env r ih =>
   intro hs hl;obtain⟨hk,⟨L,o,hf,hn,ho,hd⟩,hr⟩:=hl;have hL:L∈X.fs:=hs L (by unfold Bv;rw[List.filterMap_cons,hf];exact aaf);obtain⟨sl,e⟩:=I.base.slot L o ho (I.ok.Oj L hL) hL λz=>I.ok.HG L z hL;exact⟨hk,⟨L,_,hf,hn,e,hd⟩,ih (λb hb=>hs b (by unfold Bv;rw[List.filterMap_cons,hf];exact aad _ hb)) hr⟩
 exact all X.outer (λ_ hb=>hb) I.ok.m5
theorem Inv.stack(I:Inv X pins σ H s):s.heap.FunFrames X.base X.stack:=by
 rcases I.ok.SR with e|⟨e,hf⟩
 ·rw[e];exact I.m5
 ·rw[e];obtain⟨m,hn,_⟩:=I.loc;refine .cons (by rw[I.ok.kind];decide) hf hn ?_ I.m5;exact Heap.get?_none_of_le (aau I.ok.JP I.ok.above)
theorem Inv.lO(I:Inv X pins σ H s):∀b∈Bv X.stack,b∈X.env.locals::X.fs:=λb hb=>by
 rcases I.ok.SR with e|⟨e,hf⟩
 ·rw[e]at hb;exact aad _ hb
 ·rw[e]at hb;unfold Bv at hb;rw[List.filterMap_cons,hf]at hb;exact hb
theorem Inv.yu(I:Inv X pins σ H s):∀b∈Bv X.stack,H b=none:=λb hb=>by
 rcases List.mem_cons.mp (I.lO b hb)with e|hb
 ·rw[e];exact I.free
 ·obtain⟨_,o,ho,_⟩:=I.ok.m5.mem hb;exact I.base.free b o ho (I.ok.Oj b hb) λz=>I.ok.HG b z hb
theorem Inv.step{g':Array GenState}{d':Drawn}(I:Inv X pins σ H s)
  (FC:∀b∈ch,(b∈X.ex\/X.s₀.heap.objs.size<=b)/\b≠X.env.locals/\(∀x c,X.env.cells.lookup x=some c->c≠b)/\∀p∈X.pn++pins,p.1≠b)
  (keep:∀b o,b≠X.env.locals->b∉X.fs->b∉ch->s.heap.get? b=some o->H b=none->h'.get? b=some o)
  (slot:∀b o,b≠X.env.locals->b∈X.fs->b∉ch->s.heap.get? b=some o->H b=none->∃sl,h'.get? b=some { o with slots:=sl }) (free:∀b o,b∉ch->s.heap.get? b=some o->H b=none->H' b=none)
  (there:∀b o,b∉ch->s.heap.get? b=some o->∃o',h'.get? b=some o')
  (rR:∀b xs,H b=some (.tup xs)->H' b=some (.tup xs)) (qp:∀b o u,H b=some (.iI o u)->H' b=some (.iI o u)) (rV:∀b ps,H b=some (.IP ps)->∃more,H' b=some (.IP (ps++more)))
  (ns:∀m,s.heap.Ns X.env.locals m->h'.Ns X.env.locals m) (cV:mh X.prog X.w H' h') (hg:AllBare g') :
  Inv X pins σ H' { s with heap:=h',gens:=g',drawn:=d',toks:=t' }:=by
 have Yn:∀b o,X.s₀.heap.get? b=some o->b≠X.env.locals:=λb o e=>aan (aaj (aah e) I.ok.above);have Jk:∀b o,X.s₀.heap.get? b=some o->b∉X.ex->b∉ch:=λb o e hx hb=>by
  rcases(FC b hb).1 with z|z
  ·exact hx z
  ·exact absurd (aaj (aah e) z) (aaw _)
 have cellK:∀x c,X.env.cells.lookup x=some c->∀v,s.heap.IsCell c v->h'.IsCell c v:=λx c e v bR=>by
  obtain⟨o,ho,hd⟩:=bR;have Qc:c∉ch:=λz=>(FC c z).2.2.1 x c e rfl;by_cases hc:c∈X.fs
  ·obtain⟨sl,q⟩:=slot c o (I.Nw x c e) hc Qc ho (I.jO x c e);exact⟨_,q,hd⟩
  ·exact⟨o,keep c o (I.Nw x c e) hc Qc ho (I.jO x c e),hd⟩
 refine⟨I.ok,I.os,hg,⟨λb o e n hb hx=>?_,λb o e n hb hx=>?_,λb o e n hx=>?_,λb o e hx=>?_,λb xs e=>rR b xs (I.base.rR b xs e),λb o xs e=>qp b o xs (I.base.qp b o xs e),λb ps e=>?_⟩,?_,λx c e=>?_,?_,λx c e=>?_,λp hp=>?_,cV,I.len⟩
 ·exact keep b o (Yn b o e) hb (Jk b o e hx) (I.base.keep b o e n hb hx) (I.base.free b o e n hx)
 ·obtain⟨sl,e1⟩:=I.base.slot b o e n hb hx;obtain⟨sl',e2⟩:=slot b _ (Yn b o e) hb (Jk b o e hx) e1 (I.base.free b o e n hx);exact⟨sl',e2⟩
 ·obtain⟨o',e1⟩:=I.base.there b o e hx;exact free b o' (Jk b o e hx) e1 (I.base.free b o e n hx)
 ·obtain⟨o',e1⟩:=I.base.there b o e hx;exact there b o' (Jk b o e hx) e1
 ·obtain⟨m1,e1⟩:=I.base.rV b ps e;obtain⟨m2,e2⟩:=rV b _ e1;exact⟨m1++m2,by rw[e2,Array.append_assoc]⟩
 ·obtain⟨m,hn,hl⟩:=I.loc;refine⟨m,ns m hn,λi x v e1 e2 e3=>?_⟩;obtain⟨u,r,l⟩:=hl i x v e1 e2 e3;refine⟨u,r,?_⟩;rcases l with l|⟨k,c,e,z⟩
  ·exact .inl l
  ·exact .inr ⟨k,c,e,cellK x c e _ z⟩
 ·obtain⟨v,z⟩:=I.cell x c e;exact⟨v,cellK x c e v z⟩
 ·obtain⟨m,⟨o,_,_,ho,_⟩,_⟩:=I.loc;exact free _ o (λz=>(FC _ z).2.1 rfl) ho I.free
 ·obtain⟨v,o,ho,hd⟩:=I.cell x c e;exact free c o (λz=>(FC c z).2.2.1 x c e rfl) ho (I.jO x c e)
 ·obtain⟨e,n,ne,nf,d⟩:=I.pin p hp;have Qc:p.1∉ch:=λz=>(FC p.1 z).2.2.2 p hp rfl;exact⟨keep p.1 p.2 ne nf Qc e n,free p.1 p.2 Qc e n,ne,nf,d⟩
theorem Inv.un(I:Inv X pins σ H s)(u:Un X.fs [] H H' s.heap h')(cV:mh X.prog X.w H' h'):Inv X pins σ H' { s with heap:=h',toks:=t' }:=by
 obtain⟨m,⟨o,es,ep,ho,r⟩,_⟩:=id I.loc;obtain⟨sl,hL⟩:=u.any ho I.free (by simp);exact I.step (g':=s.gens) (d':=s.drawn) (ch:=[]) (λ_ z=>nomatch z) (λb o _ hb _ e n=>u.keep b o e n hb (by simp)) (λb o _ hb _ e n=>u.slot b o e n hb (by simp)) (λb o _ e n=>u.free b o e n (by simp)) (λb o _ e=>u.there b o e (by simp)) u.rR u.qp u.rV (λm' hm=>by
  obtain⟨o',JK,kZ,eO,r'⟩:=hm;rw[ho]at eO;cases eO;exact⟨_,JK,kZ,hL,r'⟩) cV I.bare
theorem Inv.call{g':Array GenState}{d':Drawn}(I:Inv X pins σ H s)(u:Un (Bv X.stack) ch H H' s.heap h')(cV:mh X.prog X.w H' h')(hg:AllBare g')
  (FC:∀b∈ch,(b∈X.ex\/X.s₀.heap.objs.size<=b)/\b≠X.env.locals/\(∀x c,X.env.cells.lookup x=some c->c≠b)/\∀p∈X.pn++pins,p.1≠b) :
  Inv X pins σ H' { s with heap:=h',gens:=g',drawn:=d',toks:=t' }:=by
 obtain⟨m,⟨o,es,ep,ho,r⟩,_⟩:=id I.loc;obtain⟨sl,hL⟩:=u.any ho I.free λz=>(FC _ z).2.1 rfl;exact I.step (ch:=ch) FC (λb o hL hb hc e n=>u.keep b o e n (λz=>(List.mem_cons.mp (I.lO b z)).elim hL hb) hc) (λb o _ _ hc e n=>u.any e n hc) (λb o hc e n=>u.free b o e n hc) (λb o hc e=>u.there b o e hc) u.rR u.qp u.rV (λm' hm=>by
  obtain⟨o',JK,kZ,eO,r'⟩:=hm;rw[ho]at eO;cases eO;exact⟨_,JK,kZ,hL,r'⟩) cV hg
theorem Inv.turned{it:Addr}(I:Inv X pins σ H s)(k:∀b o,b≠it->s.heap.get? b=some o->h'.get? b=some o)(hn:H it=none)(hL:it≠X.env.locals)
  (h1:it∈X.ex\/X.s₀.heap.objs.size<=it) (h2:∀x c,X.env.cells.lookup x=some c->c≠it) (h3:∀p∈X.pn++pins,p.1≠it):Inv X pins σ H { s with heap:=h',toks:=t' }:=by
 have Ji:∀b u,H b=some u->b≠it:=λb u e z=>by rw[z,hn]at e;cases e
 refine I.step (g':=s.gens) (d':=s.drawn) (ch:=[it]) (λb hb=>?_) (λb o _ _ hc e _=>k b o (λz=>hc (by simp[z])) e) (λb o _ _ hc e _=>⟨o.slots,k b o (λz=>hc (by simp[z])) e⟩) (λ_ _ _ _ n=>n)
  (λb o hc e=>⟨o,k b o (λz=>hc (by simp[z])) e⟩) (λ_ _ e=>e) (λ_ _ _ e=>e) (λb ps e=>⟨#[],by rw[e];simp⟩) (λm hm=>?_) (λb u e=>?_) I.bare
 ·have e:b=it:=by simpa using hb
  subst e;exact⟨h1,hL,h2,h3⟩
 ·obtain⟨o,es,ep,ho,r⟩:=hm;exact⟨o,es,ep,k _ o (aaD hL) ho,r⟩
 ·refine(I.cV b u e).oq (λc v hc q=>k c v ?_ q) (λ_ q=>q) λ_ _ q=>q;rcases hc with z|z
  ·rw[z];exact Ji b u e
  ·exact Ji c _ z
theorem Inv.tok(I:Inv X pins σ H s)(t:Nat):Inv X pins σ H { s with toks:=t }:=I.un (h':=s.heap) (t':=t) Un.refl I.cV
theorem Inv.kept{t':Nat}(I:Inv X pins σ H s)(k:∀b u,s.heap.get? b=some u->h'.get? b=some u):Inv X pins σ H { s with heap:=h',toks:=t' }:=I.un (Un.kept k) (I.cV.kept k)
theorem Inv.laid{a:Addr}{o:HO}{t':Nat}(I:Inv X pins σ H s)(k:∀b u,s.heap.get? b=some u->h'.get? b=some u)(hp:s.heap.objs.size<=a)(new:cy X.prog X.w (upd H a o) h' a o):
  Inv X pins σ (upd H a o) { s with heap:=h',toks:=t' }:=I.un (Un.laid k hp (I.cV.fresh hp)) (I.cV.laid k hp new)
theorem Inv.write{x e:Addr}{o:HO}{t':Nat}(I:Inv X pins σ H s)(mu:Ug (H x))(he:e=x\/H e=some (.own x))(k:∀b u,b≠e->s.heap.get? b=some u->h'.get? b=some u)(Oe:∃u,h'.get? e=some u)
  (new:cy X.prog X.w (upd H x o) h' x o):Inv X pins σ (upd H x o) { s with heap:=h',toks:=t' }:=I.un (Un.write mu he k Oe) (I.cV.write mu he k Oe new)
theorem Inv.jw{Jd:ak}(I:Inv X pins σ H s)(h:∀p∈Jd,s.heap.get? p.1=some p.2/\H p.1=none/\p.1≠X.env.locals/\p.1∉X.fs/\∀v,p.2.data≠.cell v):Inv X Jd σ H s :=
 ⟨I.ok,I.os,I.bare,I.base,I.loc,I.cell,I.free,I.jO,λp hp=>(List.mem_append.mp hp).elim (λz=>I.pin p (aaP _ z)) (h p),I.cV,I.len⟩
theorem vg{N:au}(hN:N.Nodup){i j:Nat}{x:Str}(a:N[i]?=some x)(b:N[j]?=some x):i=j:=by
 obtain⟨h1,e1⟩:=List.getElem?_eq_some_iff.mp a;obtain⟨h2,e2⟩:=List.getElem?_eq_some_iff.mp b;exact(acx hN).mp (e1.trans e2.symm)
theorem Ai{M:Model}{i:Nat}{x:Str}{v:V}{u:Value}(I:Inv X pins σ H s)(hN:X.N.Nodup)(hi:X.N[i]?=some x)(hx:Loc X.env.scope x)(r:RelV v u)
  (h:∀s',Inv X pins (σ.set i (some v)) H s'->(∃a,Heap.SameBut a s.heap s'.heap/\(a=X.env.locals\/X.env.cells.lookup x=some a))->Q () s') (hf:X.fn x=true\/X.env.scope.names.lookup x=some .local:=by first|exact .inl rfl|exact .inr rfl|assumption):wpAny M A (storeName X.env x u) Q E s:=by
 obtain⟨m,hn,hl⟩:=id I.loc;have WK:(X.env.scope.kind==.class||(X.env.scope.kind==.module&&X.env.locals != X.env.globals))=false:=by rw[I.ok.kind];rfl
 have Q2:i<σ.length:=by rw[I.len];exact(List.getElem?_eq_some_iff.mp hi).1
 have Nw:=I.Nw;have tracked:∀{a:Addr} {h':Heap},(∃o,s.heap.get? a=some o/\H a=none)->Heap.SameBut a s.heap h'->mh X.prog X.w H h':=λ{a h'} ha hs b ob e=>by
  obtain⟨_,_,Jw⟩:=ha;refine(I.cV b ob e).oq (λc w' hc q=>(hs.2 c ?_).trans q) (λ_ q=>q) λ_ _ q=>q;rintro rfl;rcases hc with rfl|hc
  ·rw[Jw]at e;cases e
  ·rw[Jw]at hc;cases hc
 rcases hx with hk|hk
 ·refine wpAny_storeName_local hk hn (λh' wB hs=>?_) WK;obtain⟨oL,_,_,QW,_⟩:=id hn;refine h _ ⟨I.ok,I.os,I.bare,⟨λb o e n hb hx=>?_,λb o e n hb hx=>?_,I.base.free,λb o e hx=>?_,I.base.rR,I.base.qp,I.base.rV⟩,⟨_,wB,λj y v' e1 e2 e3=>?_⟩,λy c e=>?_,I.free,I.jO,λp hp=>?_,tracked ⟨oL,QW,I.free⟩ hs,by simpa using I.len⟩ ⟨_,hs,.inl rfl⟩
  ·exact(hs.2 b (aan (aaj (aah e) I.ok.above))).trans (I.base.keep b o e n hb hx)
  ·obtain⟨sl,e1⟩:=I.base.slot b o e n hb hx;exact⟨sl,(hs.2 b (aan (aaj (aah e) I.ok.above))).trans e1⟩
  ·obtain⟨o',e1⟩:=I.base.there b o e hx;exact⟨o',(hs.2 b (aan (aaj (aah e) I.ok.above))).trans e1⟩
  ·by_cases hj:j=i
   ·subst hj;rw[hi]at e1;cases e1;rw[List.getElem?_set_self Q2]at e2;cases e2;exact⟨u,r,.inl ⟨hk,by simp⟩⟩
   ·rw[List.getElem?_set_ne (Ne.symm hj)]at e2;obtain⟨u',r',q⟩:=hl j y v' e1 e2 e3;refine⟨u',r',?_⟩;rcases q with ⟨k,e⟩|⟨k,c,e,z⟩
    ·refine .inl ⟨k,?_⟩;have:y≠x:=λe=>hj (vg hN e1 (e▸hi));simp[this,e]
    ·exact .inr ⟨k,c,e,z.sameBut hs (Nw y c e)⟩
  ·obtain⟨w',z⟩:=I.cell y c e;exact⟨w',z.sameBut hs (Nw y c e)⟩
  ·obtain⟨e,n,ne,nf,d⟩:=I.pin p hp;exact⟨(hs.2 p.1 ne).trans e,n,ne,nf,d⟩
 ·have t_:X.fn x=true:=by
   rcases hf with z|z
   ·exact z
   ·rw[z]at hk;cases hk
  obtain⟨c,hc⟩:=I.ok.has x (.inl hk);obtain⟨w',z⟩:=I.cell x c hc;refine wpAny_storeName_cell I.ok.kind hk hc z (λh' wD hs=>?_);obtain⟨oc,YU,Wq⟩:=id z;refine h { s with heap:=h' } ⟨I.ok,I.os,I.bare,⟨λb o e n hb hx=>?_,λb o e n hb hx=>?_,I.base.free,λb o e hx=>?_,I.base.rR,I.base.qp,I.base.rV⟩,⟨m,hn.sameBut hs (aaD (Nw x c hc)),λj y v' e1 e2 e3=>?_⟩,λy c' e=>?_,I.free,I.jO,λp hp=>?_,tracked ⟨oc,YU,I.jO x c hc⟩ hs,by simpa using I.len⟩ ⟨c,hs,.inr hc⟩
  ·exact(hs.2 b (aan (aaj (aah e) (I.ok.Sh x c t_ hc)))).trans (I.base.keep b o e n hb hx)
  ·obtain⟨sl,e1⟩:=I.base.slot b o e n hb hx;exact⟨sl,(hs.2 b (aan (aaj (aah e) (I.ok.Sh x c t_ hc)))).trans e1⟩
  ·obtain⟨o',e1⟩:=I.base.there b o e hx;exact⟨o',(hs.2 b (aan (aaj (aah e) (I.ok.Sh x c t_ hc)))).trans e1⟩
  ·by_cases hj:j=i
   ·subst hj;rw[hi]at e1;cases e1;rw[List.getElem?_set_self Q2]at e2;cases e2;exact⟨u,r,.inr ⟨.inl hk,c,hc,wD⟩⟩
   ·rw[List.getElem?_set_ne (Ne.symm hj)]at e2;obtain⟨u',r',q⟩:=hl j y v' e1 e2 e3;refine⟨u',r',?_⟩;rcases q with q|⟨k,c',e,z'⟩
    ·exact .inl q
    ·refine .inr ⟨k,c',e,z'.sameBut hs ?_⟩;rintro rfl;exact hj (vg hN e1 (I.ok.inj _ _ _ e hc▸hi))
  ·by_cases Y7:c'=c
   ·subst Y7;exact⟨_,wD⟩
   ·obtain⟨w2,z2⟩:=I.cell y c' e;exact⟨w2,z2.sameBut hs Y7⟩
  ·obtain⟨e,n,ne,nf,d⟩:=I.pin p hp;refine⟨(hs.2 p.1 ?_).trans e,n,ne,nf,d⟩;intro q;rw[q,YU]at e;have q':oc=p.2:=aat e;exact d w' (by rw[<- q'];exact Wq)
theorem kE{M:Model}{i:Nat}{x:Str}{v:V}{u:Value}(I:Inv X pins σ H s)(hN:X.N.Nodup)(hi:X.N[i]?=some x)(hx:Loc X.env.scope x)(r:RelV v u)
  (h:∀s',Inv X pins (σ.set i (some v)) H s'->Q () s') (hf:X.fn x=true\/X.env.scope.names.lookup x=some .local:=by first|exact .inl rfl|exact .inr rfl|assumption):wpAny M A (storeName X.env x u) Q E s :=
 Ai I hN hi hx r (λs' I' _=>h s' I') hf
theorem Inv.Sg{s':Shared}(I:Inv X pins σ H s)(ho:s'.os=s.os)(u:Un (Bv X.stack) ch H H' s.heap s'.heap)(cV:mh X.prog X.w H' s'.heap)(hg:AllBare s'.gens)
  (FC:∀b∈ch,(b∈X.ex\/X.s₀.heap.objs.size<=b)/\b≠X.env.locals/\(∀x c,X.env.cells.lookup x=some c->c≠b)/\∀p∈X.pn++pins,p.1≠b):Inv X pins σ H' s':=by
 obtain⟨h',g',d',t',o'⟩:=s';have e:o'=s.os:=ho;subst e;exact I.call (g':=g') (t':=t') (d':=d') u cV hg FC
end
noncomputable abbrev XK:=Value->Option Addr->Hp->Prop
noncomputable abbrev St:=List (Option V)
noncomputable abbrev VK:=V->Hp->Prop
noncomputable abbrev TE:=St->Hp->VK->Prop
noncomputable abbrev TT:=St->Hp->(Bool->Hp->Prop)->Prop
noncomputable abbrev TA:=St->Hp->(ae->Hp->Prop)->Prop
structure Ends where
 nx:St->Hp->Prop
 rt:VK
 bk:St->Hp->Prop:=λ_ _=>False
 ct:St->Hp->Prop:=λ_ _=>False
noncomputable abbrev TS:=Ends->St->Hp->Prop
def EP(X:Cx)(pins:ak)(σ:St)(Q:VK)(u:Value)(s':Shared):Prop:=∃v H',Inv X pins σ H' s'/\RelV v u/\Q v H'
def TP(X:Cx)(pins:ak)(σ:St)(Q:Bool->Hp->Prop)(b:Bool)(s':Shared):Prop:=∃H',Inv X pins σ H' s'/\Q b H'
def AP(X:Cx)(pins:ak)(σ:St)(Q:ae->Hp->Prop)(us:ao)(s':Shared):Prop:=∃vs H',Inv X pins σ H' s'/\Vals vs us/\Q vs H'
def SP(X:Cx)(pins:ak)(D:Ends)(f:Flow)(s':Shared):Prop :=
 match f with
 |.next=>∃σ' H',Inv X pins σ' H' s'/\D.nx σ' H'
 |.brk=>∃σ' H',Inv X pins σ' H' s'/\D.bk σ' H'
 |.cont=>∃σ' H',Inv X pins σ' H' s'/\D.ct σ' H'
 |.ret u=>∃v σ' H',Inv X pins σ' H' s'/\RelV v u/\D.rt v H'
noncomputable def PE(X:Cx)(e:Expr)(t:TE):Prop :=
 ∀(pins:ak) (s:Shared) (σ:St) (H:Hp) (Q:VK),Inv X pins σ H s->t σ H Q->wpAny (model X.prog X.w) X.A (eval e X.env) (EP X pins σ Q) X.xe s
noncomputable def PT(X:Cx)(e:Expr)(t:TT):Prop :=
 ∀(pins:ak) (s:Shared) (σ:St) (H:Hp) (Q:Bool->Hp->Prop),Inv X pins σ H s->t σ H Q->wpAny (model X.prog X.w) X.A (isTrue e X.env (eval e X.env)) (TP X pins σ Q) X.xe s
noncomputable def PW(X:Cx)(e:Expr)(t:TT):Prop :=
 ∀(whole:Sem Value) (pins:ak) (s:Shared) (σ:St) (H:Hp) (Q:Bool->Hp->Prop),Inv X pins σ H s->t σ H Q->wpAny (model X.prog X.w) X.A (isTrue e X.env whole) (TP X pins σ Q) X.xe s
theorem PW.pt{X:Cx}{e:Expr}{t:TT}(h:PW X e t):PT X e t:=h _
noncomputable def PA(X:Cx)(es:aw)(t:TA):Prop :=
 ∀(pos:Pos) (pins:ak) (s:Shared) (σ:St) (H:Hp) (Q:ae->Hp->Prop),Inv X pins σ H s->t σ H Q->wpAny (model X.prog X.w) X.A (spliced (backTo pos (starEach es X.env))) (AP X pins σ Q) X.xe s
noncomputable def PS(X:Cx)(st:Stmt)(t:TS):Prop :=
 ∀(pins:ak) (s:Shared) (σ:St) (H:Hp) (D:Ends),Inv X pins σ H s->t D σ H->wpAny (model X.prog X.w) X.A (exec st X.env) (SP X pins D) X.xe s
noncomputable def nV(X:Cx)(st:bq)(t:TS):Prop :=
 ∀(pins:ak) (s:Shared) (σ:St) (H:Hp) (D:Ends),Inv X pins σ H s->t D σ H->wpAny (model X.prog X.w) X.A (execs st X.env) (SP X pins D) X.xe s
theorem de{α:Type}{t:Sem α}{Q Q':α->Shared->Prop}{M:Model}{s:Shared}(h:wpAny M A t Q E s)(hQ:∀a s,Q a s->Q' a s):wpAny M A t Q' E s:=aay h hQ λ_ _ x=>x
end L2
namespace L2
open PySem PySem.Spec PyProof.Rows
variable {E Q:Value->Shared->Prop}{H:Hp}{pos:Pos}{σ:L2.St}
section
variable {X:Cx}
theorem bin{a b:Expr}{ta tb:TE}(ha:PE X a ta)(hb:PE X b tb){pins:ak}{s:Shared}{R:V->V->Hp->Prop}(I:Inv X pins σ H s)(h:ta σ H λx H1=>tb σ H1 λy H2=>R x y H2)
  {α:Type} {Q:α->Shared->Prop} {f:Value->Value->Sem α}
  (hf:∀v u s2 x y H2,Inv X pins σ H2 s2->RelV x v->RelV y u->R x y H2->wpAny (model X.prog X.w) X.A (f v u) Q X.xe s2) :
  wpAny (model X.prog X.w) X.A (eval a X.env) (λv s₁=>wpAny (model X.prog X.w) X.A (eval b X.env) (λu s₂=>wpAny (model X.prog X.w) X.A (f v u) Q X.xe s₂) X.xe s₁) X.xe s:=by
 refine de (ha pins s σ H _ I h) λv s1 bR=>?_;obtain⟨x,H1,I1,r1,q1⟩:=bR;refine de (hb pins s1 σ H1 _ I1 q1) λu s2 bR=>?_;obtain⟨y,H2,I2,r2,q2⟩:=bR;exact hf v u s2 x y H2 I2 r1 r2 q2
noncomputable def ux(i:Nat):TE:=λσ H Q=>∃v,σ[i]?=some (some v)/\Q v H
noncomputable def tC(v:V):TE:=λ_ H Q=>Q v H
theorem xj{i:Nat}{x:Str}(hN:X.N[i]?=some x)(hv:NI X.env.scope x)(hd:(x==("__debug__" : Str))=false:=by decide)(Ea:(x==("__classdict__" : Str))=false:=by decide):PE X (.Name x pos) (ux i):=by
 intro pins s σ H Q I h;obtain⟨v,e,h⟩:=h;obtain⟨m,hn,hl⟩:=I.loc;obtain⟨u,r,l⟩:=hl i x v hN e hv;have fin:EP X pins σ Q u s:=⟨v,H,I,r,h⟩
 rcases l with ⟨hk,hm⟩|⟨hk,c,hc,hcell⟩
 ·exact wpAny_Name (wpAny_loadName_local I.ok.kind hk hn hm fin) hd
 ·rcases hk with hk|hk
  ·exact wpAny_Name (wpAny_loadName_cell I.ok.kind hk hc hcell fin) hd
  ·exact wpAny_Name (wpAny_loadName_free I.ok.kind hk hc hcell fin Ea) hd
theorem La{i j pos}:PE X (.Constant (.int i) j pos) (tC (.int i)):=λ_ _ _ H _ I h=>wpAny_Constant_int ⟨.int i,H,I.tok _,⟨_,rfl⟩,h⟩
theorem PU{b j pos}:PE X (.Constant (.bool b) j pos) (tC (.bl b)):=λ_ _ _ H _ I h=>Constant_bool ⟨.bl b,H,I,rfl,h⟩
theorem K_{j pos}:PE X (.Constant .none j pos) (tC .cg):=λ_ _ _ H _ I h=>Constant_none ⟨.cg,H,I,rfl,h⟩
def Gl(X:Cx)(x:Str):Prop:=X.env.kindOf x=some .globalImplicit
theorem y9{pins:ak}{s:Shared}{x:Str}{u:Value}(I:Inv X pins σ H s)(hg:Gl X x)(hm:X.mg x=some u)(h:Q u s)
  (hd:(x==("__debug__" : Str))=false:=by decide):wpAny (model X.prog X.w) X.A (eval (.Name x pos) X.env) Q E s :=
 Calls.Name_function_global I.ok.kind hg (Calls.loadGlobal_global (by rw[I.ok.glob];exact I.mod.glob.keeps I.bk) hm h) hd
theorem fJ{pins:ak}{s:Shared}{x:Str}{u:Value}(I:Inv X pins σ H s)(hg:Gl X x)(hm:X.mg x=none)(hv:bootBuiltins x=some u)(h:Q u s)
  (hn:x ≠ "__name__":=by decide) (hd:(x==("__debug__" : Str))=false:=by decide):wpAny (model X.prog X.w) X.A (eval (.Name x pos) X.env) Q E s:=by
 obtain⟨mb,h1,h2⟩:=I.mod.blt;exact Calls.Name_function_global I.ok.kind hg (Calls.loadGlobal_builtin (by rw[I.ok.glob];exact I.mod.glob.keeps I.bk) hm (by rw[I.ok.blt];exact h1.keeps I.bk) ((h2 x hn).trans hv) h) hd
theorem yR{x:Str}{v:V}{u:Value}(hg:Gl X x)(hm:X.mg x=some u)(r:RelV v u)(hd:(x==("__debug__" : Str))=false:=by decide):PE X (.Name x pos) (tC v) :=
 λ_ _ _ H _ I h=>y9 I hg hm ⟨v,H,I,r,h⟩ hd
theorem GV{x:Str}{v:V}{u:Value}(hg:Gl X x)(hm:X.mg x=none)(hv:bootBuiltins x=some u)(r:RelV v u)(hn:x ≠ "__name__":=by decide)(hd:(x==("__debug__" : Str))=false:=by decide):PE X (.Name x pos) (tC v) :=
 λ_ _ _ H _ I h=>fJ I hg hm hv ⟨v,H,I,r,h⟩ hn hd
variable {a b:Expr}{ta tb:TE}{pos:Pos}
noncomputable def tB(t:TE):TT:=λσ H Q=>t σ H λx H1=>∃c,x=.bl c/\Q c H1
theorem KU{e:Expr}{t:TE}(h:PE X e t)(he:∀whole,isTrue e X.env whole=(do let v <- whole;standAt e.pos;holding [v] (truthy v)):=by intro _;rfl):PT X e (tB t):=by
 intro pins s σ H Q I hw;refine isTrue_plain (de (h pins s σ H _ I hw) λv s1 bR=>?_) (he _);obtain⟨x,H1,I1,r1,q1⟩:=bR;obtain⟨d,rfl,q⟩:=q1;cases r1;exact aa1 ⟨H1,I1,q⟩
variable {tA SK:TT}{rest:aw}
noncomputable def OZ(t u:TT):TT:=λσ H Q=>t σ H λc H1=>if c=true then u σ H1 Q else Q false H1
noncomputable def X5(t u:TT):TT:=λσ H Q=>t σ H λc H1=>if c=true then Q true H1 else u σ H1 Q
noncomputable def UE(t:TT):TT:=λσ H Q=>t σ H λc H1=>Q (!c) H1
theorem GH(ha:PT X a tA):PW X (.BoolOp .And [a] pos) tA:=by
 intro wh pins s σ H Q I h;refine isTrue_and (de (ha pins s σ H Q I h) λc s1 e=>?_);cases c with
 |true=>exact isTrue_and_nil e
 |false=>exact e
theorem KR(ha:PT X a tA):PW X (.BoolOp .Or [a] pos) tA:=by
 intro wh pins s σ H Q I h;refine isTrue_or (de (ha pins s σ H Q I h) λc s1 e=>?_);cases c with
 |false=>exact isTrue_or_nil e
 |true=>exact e
theorem KS(ha:PT X a tA)(hb:PW X (.BoolOp .And (b::rest) pos) SK):PW X (.BoolOp .And (a::b::rest) pos) (OZ tA SK):=by
 intro wh pins s σ H Q I h;refine isTrue_and (de (ha pins s σ H _ I h) λc s1 ⟨H1,I1,q1⟩=>?_);cases c with
 |true=>exact hb wh pins s1 σ H1 Q I1 q1
 |false=>exact⟨H1,I1,q1⟩
theorem Py(ha:PT X a tA)(hb:PW X (.BoolOp .Or (b::rest) pos) SK):PW X (.BoolOp .Or (a::b::rest) pos) (X5 tA SK):=by
 intro wh pins s σ H Q I h;refine isTrue_or (de (ha pins s σ H _ I h) λc s1 ⟨H1,I1,q1⟩=>?_);cases c with
 |true=>exact⟨H1,I1,q1⟩
 |false=>exact hb wh pins s1 σ H1 Q I1 q1
theorem KW(ha:PT X a tA):PT X (.UnaryOp .Not a pos) (UE tA):=by
 intro pins s σ H Q I h;exact isTrue_not (ha pins s σ H (λc H1=>Q (!c) H1) I h)
noncomputable def IV(ta tb:TE):TE:=λσ H Q=>ta σ H λx H1=>∃c,x=.bl c/\if c=true then tb σ H1 Q else Q (.bl false) H1
noncomputable def OT(ta tb:TE):TE:=λσ H Q=>ta σ H λx H1=>∃c,x=.bl c/\if c=true then Q (.bl true) H1 else tb σ H1 Q
noncomputable def OU(ta:TE):TE:=λσ H Q=>ta σ H λx H1=>∃c,x=.bl c/\Q (.bl (!c)) H1
theorem CV{op}{t:TE}(h:PE X a t):PE X (.BoolOp op [a] pos) t:=λpins s σ H Q I hw=>BoolOp_one (h pins s σ H Q I hw)
theorem Lb(ha:PE X a ta)(hb:PE X (.BoolOp .And (b::rest) pos) tb):PE X (.BoolOp .And (a::b::rest) pos) (IV ta tb):=by
 intro pins s σ H Q I h;refine BoolOp_and (de (ha pins s σ H _ I h) λv s1 bR=>?_);obtain⟨x,H1,I1,r1,q1⟩:=bR;obtain⟨c,rfl,q1⟩:=q1;cases r1;refine aa1 ?_;cases c with
 |true=>exact hb pins s1 σ H1 Q I1 q1
 |false=>exact⟨.bl false,H1,I1,rfl,q1⟩
theorem PQ(ha:PE X a ta)(hb:PE X (.BoolOp .Or (b::rest) pos) tb):PE X (.BoolOp .Or (a::b::rest) pos) (OT ta tb):=by
 intro pins s σ H Q I h;refine BoolOp_or (de (ha pins s σ H _ I h) λv s1 bR=>?_);obtain⟨x,H1,I1,r1,q1⟩:=bR;obtain⟨c,rfl,q1⟩:=q1;cases r1;refine aa1 ?_;cases c with
 |false=>exact hb pins s1 σ H1 Q I1 q1
 |true=>exact⟨.bl true,H1,I1,rfl,q1⟩
theorem K9(ha:PE X a ta):PE X (.UnaryOp .Not a pos) (OU ta):=by
 intro pins s σ H Q I h;refine UnaryOp_ (de (ha pins s σ H _ I h) λv s1 bR=>?_);obtain⟨x,H1,I1,r1,q1⟩:=bR;obtain⟨c,rfl,q1⟩:=q1;cases r1;exact not_of (aa1 ⟨.bl (!c),H1,I1,rfl,q1⟩)
end
end L2
namespace L2
open PySem PySem.Spec PyProof.Rows
def dg(K:aq)(H:Hp)(a:Addr)(xs:ae):Prop :=
 Rd H a (.lst xs) \/
  ∃(o:Obj) (aI:aK) (n:Nat),K.lookup a=some o/\o.cls=.type "list" /\ o.dict=none/\o.data=.seq aI n/\aI.size<=sizeLine/\Vals xs aI.toList
def aU(K:aq)(H:Hp)(a:Addr)(xs:ae):Prop :=
 Rd H a (.tup xs) \/
  ∃(o:Obj) (aI:aK) (n:Nat),K.lookup a=some o/\o.cls=.type "tuple" /\ o.data=.seq aI n/\aI.size<=sizeLine/\Vals xs aI.toList
noncomputable def XJ:Value->Option V
 |.none=>some .cg
 |.bool b=>some (.bl b)
 |.int i _=>some (.int i)
 |.str x _=>some (.str x)
 |.bytes b _=>some (.XB b)
 |.float b _=>some (.RM b)
 |.ref a=>some (.ref a)
 |.type n=>some (.ty n)
 |_=>none
theorem RelV.abs{x:V}{u:Value}(r:RelV x u):XJ u=some x:=by
 cases x with
 |cg=>cases r;rfl
 |bl _=>cases r;rfl
 |int _=>obtain⟨t,rfl⟩:=r;rfl
 |str _=>obtain⟨t,rfl⟩:=r;rfl
 |XB _=>obtain⟨t,rfl⟩:=r;rfl
 |RM _=>obtain⟨t,rfl⟩:=r;rfl
 |ref _=>cases r;rfl
 |ty _=>cases r;rfl
theorem RelV.inj{x y:V}{u:Value}(r:RelV x u)(q:RelV y u):x=y:=aat (r.abs.symm.trans q.abs)
theorem Vals.inj:∀{xs ys:ae} {us:ao},Vals xs us->Vals ys us->xs=ys
 |_,_,_,.nil,.nil=>rfl
 |_,_,_,.cons r t,.cons r' t'=>by rw[r.inj r',Vals.inj t t']
variable {K:aq}
section
variable {X:Cx}{pins:ak}{σ:St}{H:Hp}{s:Shared}{a:Addr}{xs ys:ae}
theorem dg.of(h:H a=some (.lst xs)):dg K H a xs:=.inl (.inl h)
theorem aU.of(h:H a=some (.tup xs)):aU K H a xs:=.inl (.inl h)
theorem Inv.list(I:Inv X pins σ H s)(h:dg X.K H a xs):∃aI:ao,Vals xs aI/\PlainL s.heap a aI.toArray/\xs.length<=sizeLine:=by
 rcases h with h|⟨o,aI,n,hk,hc,hd,hs,hz,r⟩
 ·obtain⟨z,aI,n,r,e⟩:=h.ok I.cV;exact⟨aI,r,⟨_,n,e,rfl,rfl,rfl⟩,z⟩
 ·refine⟨aI.toList,r,⟨o,n,I.AD a o hk,hc,hd,by simpa using hs⟩,?_⟩;have e:=r.length;simp only[Array.length_toList]at e;left
theorem Inv.tuple(I:Inv X pins σ H s)(h:aU X.K H a xs):∃aI:ao,Vals xs aI/\IsTup s.heap a aI.toArray/\xs.length<=sizeLine:=by
 rcases h with h|⟨o,aI,n,hk,hc,hs,hz,r⟩
 ·obtain⟨z,aI,r,p⟩:=h.ok I.cV;exact⟨aI,r,p,z⟩
 ·refine⟨aI.toList,r,⟨o,I.AD a o hk,hc,n,by simpa using hs⟩,?_⟩;have e:=r.length;simp only[Array.length_toList]at e;left
theorem Inv.iX(I:Inv X pins σ H s)(h:dg X.K H a xs)(h':dg X.K H a ys):xs=ys:=by
 obtain⟨aI,r,⟨o,n,e,_,_,d⟩,_⟩:=I.list h;obtain⟨its',r',⟨o',n',e',_,_,d'⟩,_⟩:=I.list h';rw[e]at e';cases e';rw[d]at d';injection d' with d1 _;have:aI=its':=by simpa using congrArg Array.toList d1
 subst this;exact r.inj r'
theorem Inv.lL(I:Inv X pins σ H s)(h:aU X.K H a xs)(h':aU X.K H a ys):xs=ys:=by
 obtain⟨aI,r,⟨o,e,_,n,d⟩,_⟩:=I.tuple h;obtain⟨its',r',⟨o',e',_,n',d'⟩,_⟩:=I.tuple h';rw[e]at e';cases e';rw[d]at d';injection d' with d1 _;have:aI=its':=by simpa using congrArg Array.toList d1
 subst this;exact r.inj r'
end
noncomputable abbrev Cx.p6(X:Cx)(E:az):Cx:={ X with xe:=E }
abbrev Cx.P7(X:Cx):Cx:=X.p6 λ_ _=>False
theorem Cx.Ok.p6{X:Cx}(ok:X.Ok)(E:az):(X.p6 E).Ok :=
 ⟨ok.mod,ok.kind,ok.glob,ok.blt,ok.above,ok.inj,ok.has,ok.Sh,ok.hd,ok.frames,ok.SR,ok.Zm,ok.bs,ok.JP,ok.Dh,ok.HG,ok.m5,ok.Oj⟩
variable {E:Value->Shared->Prop}{X:Cx}
theorem Cx.Ok.iN(ok:(X.p6 E).Ok):X.Ok :=
 ⟨ok.mod,ok.kind,ok.glob,ok.blt,ok.above,ok.inj,ok.has,ok.Sh,ok.hd,ok.frames,ok.SR,ok.Zm,ok.bs,ok.JP,ok.Dh,ok.HG,ok.m5,ok.Oj⟩
section
variable {X:Cx}{pins:ak}{σ:St}{H:Hp}{s:Shared}{E:az}
theorem Inv.p6(I:Inv X pins σ H s)(E:az):Inv (X.p6 E) pins σ H s:=⟨I.ok.p6 E,I.os,I.bare,I.base,I.loc,I.cell,I.free,I.jO,I.pin,I.cV,I.len⟩
theorem Inv.iN(I:Inv (X.p6 E) pins σ H s):Inv X pins σ H s:=⟨I.ok.iN,I.os,I.bare,I.base,I.loc,I.cell,I.free,I.jO,I.pin,I.cV,I.len⟩
theorem SP.iN{D:Ends}{f:Flow}{s':Shared}(h:SP (X.p6 E) pins D f s'):SP X pins D f s':=by
 cases f with
 |next=>obtain⟨σ',H',I,q⟩:=h;exact⟨σ',H',I.iN,q⟩
 |brk=>obtain⟨σ',H',I,q⟩:=h;exact⟨σ',H',I.iN,q⟩
 |cont=>obtain⟨σ',H',I,q⟩:=h;exact⟨σ',H',I.iN,q⟩
 |ret u=>obtain⟨v,σ',H',I,r,q⟩:=h;exact⟨v,σ',H',I.iN,r,q⟩
theorem nV.P7{st:bq}{t:TS}(h:nV X.P7 st t):nV X st t:=λpins s σ H D I hw =>
 aay (h pins s σ H D (I.p6 _) hw) (λ_ _ q=>q.iN) λ_ _ z=>False.elim z
end
variable {H:Hp}{σ:L2.St}
section
variable {X:Cx}{st:Stmt}{rest:bq}{t u:TS}{e:Expr}{te:TE}{pos:Pos}
noncomputable def IU:TS:=λD σ H=>D.nx σ H
noncomputable def UB(t u:TS):TS:=λD σ H=>t { D with nx:=u D } σ H
theorem GI:nV X [] IU:=λ_ _ σ H _ I h=>wpAny_execs_nil ⟨σ,H,I,h⟩
theorem CF(h1:PS X st t)(h2:nV X rest u):nV X (st::rest) (UB t u):=by
 intro pins s σ H D I h;refine wpAny_execs_cons (de (h1 pins s σ H { D with nx:=u D } I h) λf s1 q=>?_);cases f with
 |next =>
  obtain⟨σ',H',I',q⟩:=q;exact h2 pins s1 σ' H' D I' q
 |ret v=>exact q
 |brk=>exact q
 |cont=>exact q
theorem Inv.quiet{pins:ak}{s:Shared}(I:Inv X pins σ H s):interactive X.env=false:=by simp[interactive,I.ok.kind]
noncomputable def OV(te:TE):TS:=λD σ H=>te σ H λ_ H1=>D.nx σ H1
theorem nu(he:PE X e te)(hs:swapsWith e none pos.line X.env=pure false:=by rfl):PS X (.Expr e pos) (OV te):=by
 intro pins s σ H D I h;exact wpAny_Expr_any (de (he pins s σ H _ I h) λv s1 ⟨x,H1,I1,r1,q1⟩=>⟨σ,H1,I1,q1⟩) I.quiet hs
noncomputable def UC(te:TE):TS:=λD σ H=>te σ H D.rt
theorem KZ(he:PE X e te):PS X (.Return (some e) pos) (UC te):=by
 intro pins s σ H D I h;exact wpAny_Return_some (de (he pins s σ H _ I h) λv s1 ⟨x,H1,I1,r1,q1⟩=>⟨x,σ,H1,I1,r1,q1⟩)
noncomputable def UH(c:TT)(t u:TS):TS:=λD σ H=>c σ H λb H1=>if b=true then t D σ H1 else u D σ H1
theorem PD{c:Expr}{a b:bq}{tc:TT}(hc:PT X c tc)(ha:nV X a t)(hb:nV X b u):PS X (.If c a b pos) (UH tc t u):=by
 intro pins s σ H D I h;refine wpAny_If (de (hc pins s σ H _ I h) λd s1 ⟨H1,I1,q1⟩=>?_);cases d with
 |true=>exact ha pins s1 σ H1 D I1 q1
 |false=>exact hb pins s1 σ H1 D I1 q1
end
noncomputable abbrev TG:=V->St->Hp->(St->Hp->Prop)->Prop
noncomputable abbrev Iv:=ae->St->Hp->(St->Hp->Prop)->Prop
def PG(X:Cx)(target:Expr)(t:TG):Prop :=
 ∀(pins:ak) (s:Shared) (σ:St) (H:Hp) (v:V) (u:Value) (Q:St->Hp->Prop),Inv X pins σ H s->RelV v u->t v σ H Q ->
  wpAny (model X.prog X.w) X.A (assign target X.env u) (λ_ s'=>∃σ' H',Inv X pins σ' H' s'/\Q σ' H') X.xe s
def Ow(X:Cx)(ts:aw)(t:Iv):Prop :=
 ∀(pins:ak) (s:Shared) (σ:St) (H:Hp) (vs:ae) (us:ao) (Q:St->Hp->Prop),Inv X pins σ H s->Vals vs us->t vs σ H Q ->
  wpAny (model X.prog X.w) X.A (assignInOrder ((assignEach ts X.env).map (·.2)) us) (λ_ s'=>∃σ' H',Inv X pins σ' H' s'/\Q σ' H') X.xe s
noncomputable abbrev Ue:=V->V->Hp->VK->Prop
def SA(X:Cx)(op:Operator)(t:Ue):Prop :=
 ∀(pins:ak) (s:Shared) (σ:St) (H:Hp) (x y:V) (v u:Value) (Q:VK),Inv X pins σ H s->RelV x v->RelV y u->t x y H Q ->
  wpAny (model X.prog X.w) X.A (inplaceOp op v u) (EP X pins σ Q) X.xe s
variable {es:aw}{te:TE}{tg:Expr}
section
variable {X:Cx}{pos:Pos}
noncomputable def rb(i:Nat):TG:=λv σ H Q=>Q (σ.set i (some v)) H
theorem sr{i:Nat}{x:Str}(hN:X.N.Nodup)(hi:X.N[i]?=some x)(hx:Loc X.env.scope x)(hf:X.fn x=true\/X.env.scope.names.lookup x=some .local:=by first|exact .inl rfl|exact .inr rfl|assumption):PG X (.Name x pos) (rb i):=by
 intro pins s σ H v u Q I r h;exact wpAny_assign_Name (kE I hN hi hx r (λs' I'=>⟨_,H,I',h⟩) hf)
noncomputable def ML:Iv:=λvs σ H Q=>vs=[]/\Q σ H
noncomputable def Em(t:TG)(u:Iv):Iv:=λvs σ H Q=>∃v r,vs=v::r/\t v σ H λσ' H'=>u r σ' H' Q
theorem yP:Ow X [] ML:=by
 intro pins s σ H vs us Q I r h;obtain⟨e,h⟩:=h;subst e;cases r;exact assignInOrder_nil ⟨σ,H,I,h⟩
theorem u_{e:Expr}{t:TG}{u:Iv}(h1:PG X e t)(h2:Ow X es u)
  (hs:(assignEach (e::es) X.env).map (·.2)=assign e X.env::(assignEach es X.env).map (·.2):=by rfl):Ow X (e::es) (Em t u):=by
 intro pins s σ H vs us Q I r h;obtain⟨v,vr,e1,h⟩:=h;subst e1;cases r with
 |cons r rr =>
  rw[hs];refine assignInOrder_cons (de (h1 pins s σ H _ _ _ I r h) λ_ s1 bR=>?_);obtain⟨σ1,H1,I1,q1⟩:=bR;exact h2 pins s1 σ1 H1 _ _ Q I1 rr q1
def W7(K:aq)(n:Nat)(t:Iv):TG:=λv σ H Q=>∃a xs,v=.ref a/\aU K H a xs/\xs.length=n/\t xs σ H Q
theorem CN{k:Nat}{t:Iv}{n:Nat}(hc:X.calm=true)(h:Ow X es t)
  (hn:(assignEach es X.env).length=n:=by rfl) (qY:(assignEach es X.env).findIdx? (·.1)=none:=by rfl):PG X (.Tuple es k pos) (W7 X.K n t):=by
 intro pins s σ H v u Q I r hw;obtain⟨a,xs,e1,hq,hl,hw⟩:=hw;subst e1;cases r;obtain⟨aI,rv,ht,hz⟩:=I.tuple hq;refine assign_Tuple_tuple (I.ok.hd hc) ht (by simp[hn,<- hl,rv.length]) qY λh' hx=>?_;have I1:Inv X pins σ H { s with heap:=h' }:=I.kept (t':=s.toks) λb o e=>hx b o (aan (aah e)) e;exact h pins _ σ H xs _ Q I1 (by simpa using rv) hw
noncomputable def UL(te:TE)(g:TG):TS:=λD σ H=>te σ H λx H1=>g x σ H1 D.nx
theorem K1{e:Expr}{g:TG}(he:PE X e te)(hg:PG X tg g)(hs:swapsWithSole [tg] e pos.line X.env=pure false:=by rfl)(hw:swappedStores [tg] e X.env=pure none:=by rfl)
  (h1:(assignEach [tg] X.env).map (·.2)=[assign tg X.env]:=by rfl):PS X (.Assign [tg] e pos) (UL te g):=by
 intro pins s σ H D I h;refine wpAny_Assign_stores (de (he pins s σ H _ I h) λv s1 bR=>?_) hs hw;obtain⟨x,H1,I1,r1,q1⟩:=bR;rw[h1];exact de (hg pins s1 σ H1 x v _ I1 r1 q1) λ_ s2 q=>q
noncomputable def UD(i j:Nat)(ta:TA):TS:=λD σ H=>ta σ H λvs H1=>∃v w,vs=[v,w]/\D.nx ((σ.set i (some v)).set j (some w)) H1
theorem K0{i j:Nat}{x y:Str}{a b:Expr}{ta:TA}{px py pt:Pos}{kt k2 NZ}(hc:X.calm=true)(hN:X.N.Nodup)(hi:X.N[i]?=some x)(hj:X.N[j]?=some y)(jx:i≠j)
  (hx:X.env.scope.names.lookup x=some .local) (hy:X.env.scope.names.lookup y=some .local) (ha:PA X [a,b] ta)
  (hw:swappedStores [.Tuple [.Name x px,.Name y py] kt pt] (.Tuple [a,b] k2 NZ) X.env=pure (some [x,y]))
  (hs:swapsWithSole [.Tuple [.Name x px,.Name y py] kt pt] (.Tuple [a,b] k2 NZ) pos.line X.env=pure false:=by rfl) :
  PS X (.Assign [.Tuple [.Name x px,.Name y py] kt pt] (.Tuple [a,b] k2 NZ) pos) (UD i j ta):=by
 intro pins s σ H D I h;rw[exec_Assign_arm];refine aaa (acq ?_);rw[hs];refine aaa (aac ?_);rw[if_neg (by decide)];refine aaa (Tuple_ (de (ha _ pins s σ H _ I h) λus s1 bR=>?_));obtain⟨vs,H1,I1,r1,q1⟩:=bR;obtain⟨v,w,e1,q1⟩:=q1;subst e1;obtain⟨u1,u2,rfl,rv,jH⟩:∃u1 u2,us=[u1,u2]/\RelV v u1/\RelV w u2:=by
  cases r1 with
  |cons p q =>
   cases q with
   |cons p' q' =>
    cases q';exact⟨_,_,rfl,p,p'⟩
 refine aa8 ?_ (by show 2<=sizeLine;decide);have I2:Inv X pins σ H1 { s1 with heap:=s1.heap.push { cls:=.type "tuple",data:=.seq [u1,u2].toArray } }:=I1.kept (t':=s1.toks) λb o e=>aai _ e;rw[hw];refine aaa (aac ?_);show wpAny (model X.prog X.w) X.A (do rule "assign.swapped-stores";let items <- unpackItems (.ref s1.heap.objs.size) 2 none;assignInOrder [λv=>bindName X.env y v,λv=>bindName X.env x v] items.reverse;pure Flow.next) _ _ _;refine aaa (abg (aaa (unpackItems_tuple (items:=#[u1,u2]) (I.ok.hd hc) (IsTup.new s1.heap _) λh' DT=>?_)));have I3:=I2.kept (h':=h') (t':=s1.toks) λb o e=>DT b o (aan (aah e)) e;show wpAny _ _ (assignInOrder [λv=>bindName X.env y v,λv=>bindName X.env x v] [u2,u1] >>= λ_=>pure Flow.next) _ _ _;refine aaa (assignInOrder_cons (wpAny_bindName (kE I3 hN hj (.inl hy) jH (λs2 I4=>?_) (.inr hy))));refine assignInOrder_cons (wpAny_bindName (kE I4 hN hi (.inl hx) rv (λs3 I5=>assignInOrder_nil (aac ?_)) (.inr hx)));rw[List.set_comm _ _ (Ne.symm jx)]at I5;exact⟨_,H1,I5,q1⟩
noncomputable def UK(i:Nat)(te:TE)(ti:Ue):TS:=λD σ H=>∃x,σ[i]?=some (some x)/\te σ H λy H1=>ti x y H1 λz H2=>D.nx (σ.set i (some z)) H2
theorem CJ{i:Nat}{x:Str}{e:Expr}{op:Operator}{ti:Ue}{pos':Pos}(hN:X.N.Nodup)(hi:X.N[i]?=some x)(hx:Loc X.env.scope x)(he:PE X e te)(ho:SA X op ti)(hf:X.fn x=true\/X.env.scope.names.lookup x=some .local:=by first|exact .inl rfl|exact .inr rfl|assumption):
  PS X (.AugAssign (.Name x pos') op e pos) (UK i te ti):=by
 intro pins s σ H D I h;obtain⟨v,e1,h⟩:=h;obtain⟨m,hn,hl⟩:=I.loc;have SD:NI X.env.scope x:=by rcases hx with k|k;exact .inl k;exact .inr (.inl k)
 obtain⟨u,r,l⟩:=hl i x v hi e1 SD;refine wpAny_AugAssign_Name ?_;have go:wpAny (model X.prog X.w) X.A (eval e X.env) (λw s₂=>wpAny (model X.prog X.w) X.A (inplaceOp op u w) (λr s₃=>wpAny (model X.prog X.w) X.A (storeName X.env x r) (λ_=>SP X pins D .next) X.xe s₃) X.xe s₂) X.xe s:=by
  refine de (he pins s σ H _ I h) λw s1 bR=>?_;obtain⟨y,H1,I1,r1,q1⟩:=bR;refine de (ho pins s1 σ H1 v y u w _ I1 r r1 q1) λz s2 bR=>?_;obtain⟨zv,H2,I2,r2,q2⟩:=bR;exact kE I2 hN hi hx r2 (λs3 I3=>⟨_,H2,I3,q2⟩) hf
 rcases l with ⟨hk,hm⟩|⟨hk,c,hc,hcell⟩
 ·exact wpAny_loadName_local I.ok.kind hk hn hm go
 ·rcases hk with hk|hk
  ·exact wpAny_loadName_cell I.ok.kind hk hc hcell go
  ·rcases hx with k|k
   ·have:X.env.scope.names.lookup x=some .free:=hk;rw[k]at this;cases this
   ·have:X.env.scope.names.lookup x=some .free:=hk;rw[k]at this;cases this
noncomputable def V1(f:Int->Int->Int):Ue:=λx y H Q=>∃i j,x=.int i/\y=.int j/\Q (.int (f i j)) H
theorem L7:SA X .Add (V1 λi j=>i+j):=by
 intro pins s σ H x y v u Q I r1 r2 h;obtain⟨i,j,e1,e2,q⟩:=h;subst e1;subst e2;obtain⟨t,rfl⟩:=r1;obtain⟨t',rfl⟩:=r2;exact iadd_int ⟨.int _,H,I.tok _,⟨_,rfl⟩,q⟩
theorem L5:SA X .Sub (V1 λi j=>i - j):=by
 intro pins s σ H x y v u Q I r1 r2 h;obtain⟨i,j,e1,e2,q⟩:=h;subst e1;subst e2;obtain⟨t,rfl⟩:=r1;obtain⟨t',rfl⟩:=r2;exact isub_int ⟨.int _,H,I.tok _,⟨_,rfl⟩,q⟩
end
section
variable {X:Cx}{pos:Pos}
noncomputable def Kc(c:TT)(tb:TS):TS:=λD σ H=>∃W:Nat->St->Hp->Prop,(∃m,W m σ H)/\∀m σ H,W m σ H ->
 c σ H λb H1=>if b=true then ∃N:St->Hp->Prop,(∀σ' H',N σ' H'->∃m',m'<m/\W m' σ' H')/\tb { D with nx:=N,ct:=N,bk:=D.nx } σ H1 else D.nx σ H1
theorem CG{c:Expr}{body:bq}{tc:TT}{tb:TS}(hp:PassesOwn (model X.prog X.w) X.A X.env X.xe)(hc:PT X c tc)(hb:nV X body tb):PS X (.While c body [] pos) (Kc tc tb):=by
 intro pins s σ H D I h;obtain⟨W,⟨m0,w0⟩,turn⟩:=h;refine wpAny_While (codeAny_whileLoop (λn s'=>∃σ' H',Inv X pins σ' H' s'/\W n σ' H') ?_ m0 ⟨σ,H,I,w0⟩);rintro n s1 ⟨σ1,H1,I1,w1⟩;refine abd hp (de (hc pins s1 σ1 H1 _ I1 (turn n σ1 H1 w1)) λb s2 ⟨H2,I2,q2⟩=>?_);cases b with
 |true =>
  obtain⟨N,hN,q2⟩:=q2;rw[if_pos rfl];refine abd hp (de (hb pins s2 σ1 H2 _ I2 q2) λf s3 q3=>?_);cases f with
  |next =>
   obtain⟨σ3,H3,I3,n3⟩:=q3;obtain⟨m',hm,w3⟩:=hN σ3 H3 n3;exact⟨m',hm,σ3,H3,I3,w3⟩
  |cont =>
   obtain⟨σ3,H3,I3,n3⟩:=q3;obtain⟨m',hm,w3⟩:=hN σ3 H3 n3;exact⟨m',hm,σ3,H3,I3,w3⟩
  |brk=>exact q3
  |ret v=>exact q3
 |false =>
  rw[if_neg Bool.false_ne_true];exact wpAny_execs_nil ⟨σ1,H2,I2,q2⟩
end
structure It where
 go:Nat->Hp->Prop
 wx:Nat->Hp->V->Hp->Prop
 stop:Nat->Hp->Prop
noncomputable def pT(X:Cx)(pins:ak)(H:Hp)(b:Addr):Prop :=
 H b=none/\b≠X.env.locals/\b∉X.fs/\(b∈X.ex\/X.s₀.heap.objs.size<=b)/\(∀x c,X.env.cells.lookup x=some c->c≠b)/\∀p∈X.pn++pins,p.1≠b
theorem Inv.Eo{pins:ak}{H':Hp}{s:Shared}{b:Addr}(I:Inv X pins σ H s)(hb:s.heap.objs.size<=b)(hn:H' b=none):pT X pins H' b:=by
 refine⟨hn,aav (aaj I.lt hb),I.Lv hb,.inr (aau I.sz hb),λx c e z=>?_,λp hp z=>?_⟩
 ·obtain⟨v,q⟩:=I.cell x c e;exact absurd (aaj q.lt (by rw[z];exact hb)) (aaw _)
 ·exact absurd (aaj (aah (I.pin p hp).1) (by rw[z];exact hb)) (aaw _)
structure Turn(P:aF)(w:World)(K:aq)(tg:Expr)(J:It)(fp:aO)(it:Addr)(tn:Nat->Heap->Prop):Prop where
 mem:it∈fp
 obj:∀i h,tn i h->∀b∈fp,∃o,h.get? b=some o/\∀v,o.data≠.cell v
 keep:∀i h h',tn i h->(∀b∈fp,∀o,h.get? b=some o->h'.get? b=some o)->tn i h'
 item:∀(X:Cx),X.prog=P->X.w=w->X.K=K->X.calm=true->∀(i:Nat) (pins:ak) (s:Shared) (σ:St) (H:Hp) (E:az),Inv X pins σ H s->(∀b∈fp,pT X pins H b)->tn i s.heap->J.go i H ->
  wpAny (model P w) X.A (pyNext (.ref it)) (λr s1=>∃u,r=some u /\
   wpAny (model P w) X.A (letOwnedTupleGo tg (.ref it) u) (λ_ s2=>∃x H',Inv X pins σ H' s2/\RelV x u/\J.wx i H x H'/\tn (i+1) s2.heap/\∀b∈fp,H' b=none) E s1) E s
 done:∀(X:Cx),X.prog=P->X.w=w->X.K=K->X.calm=true->∀(i:Nat) (pins:ak) (s:Shared) (σ:St) (H:Hp) (E:az),Inv X pins σ H s->(∀b∈fp,pT X pins H b)->tn i s.heap->J.stop i H ->
  wpAny (model P w) X.A (pyNext (.ref it)) (λr s1=>r=none/\Inv X pins σ H s1) E s
 self:∀(A:aE) (i:Nat) (s:Shared) (Q:az) (E:az),tn i s.heap->Q (.ref it) s->wpAny (model P w) A (pyIter (.ref it)) Q E s
noncomputable abbrev TI:=St->Hp->(It->Hp->Prop)->Prop
def Fh(X:Cx)(pins:ak)(σ:St)(tg:Expr)(R:It->Hp->Prop)(VS:Value)(s2:Shared):Prop :=
 ∃(it:Addr) (fp:aO) (tn:Nat->Heap->Prop) (J:It) (H':Hp),VS=.ref it/\Inv X pins σ H' s2/\Turn X.prog X.w X.K tg J fp it tn/\tn 0 s2.heap/\(∀b∈fp,pT X pins H' b)/\R J H'
def PI(X:Cx)(tg iter:Expr)(wi:TI):Prop :=
 ∀(pins:ak) (s:Shared) (σ:St) (H:Hp) (R:It->Hp->Prop),Inv X pins σ H s->wi σ H R ->
  wpAny (model X.prog X.w) X.A (eval iter X.env) (λv s1=>wpAny (model X.prog X.w) X.A (pyIter v) (Fh X pins σ tg R) X.xe s1) X.xe s
theorem Ej{M:Model}{A:aE}{s:Shared}{it:Addr}{u:Value}{o:Obj}{n:String}{vs:aK}{Q:Unit->Shared->Prop}(ho:s.heap.get? it=some o)(hc:o.cls=.type n)(hd:o.data=.fields vs)
    (hn:["enumerate","zip","dict_itemiterator","dict_reverseitemiterator","odict_iterator","itertools.zip_longest","itertools.pairwise"].contains n=false) (hQ:Q () s):wpAny M A (letOwnedTupleGo tg (.ref it) u) Q E s:=by
  unfold letOwnedTupleGo;cases tg<;>first
    |exact aac hQ
    | (cases u<;>first
        |exact aac hQ
        | (refine aaa (wpAny_load ho ?_)
           rw[hc,hd];show wpAny M A (if (["enumerate","zip","dict_itemiterator","dict_reverseitemiterator","odict_iterator","itertools.zip_longest","itertools.pairwise"].contains n&&vs[0]?==some (rawInt _))=true then _ else _) Q E s;rw[if_neg (by intro h;rw[hn,Bool.false_and]at h;cases h)];exact aac hQ))
def Oy(K:aq)(a:Addr):It :=
 ⟨λi H=>∃xs x,dg K H a xs/\xs[i]?=some x,λi H x H'=>H'=H/\∀xs,dg K H a xs->xs[i]?=some x,λi H=>∃xs,dg K H a xs/\xs.length<=i⟩
def Ox(K:aq)(a:Addr):It :=
 ⟨λi H=>∃xs x,aU K H a xs/\xs[i]?=some x,λi H x H'=>H'=H/\∀xs,aU K H a xs->xs[i]?=some x,λi H=>∃xs,aU K H a xs/\xs.length<=i⟩
noncomputable def Bq(lo:Int)(n:Nat):It:=⟨λi _=>i<n,λi H x H'=>H'=H/\x=.int (lo+i),λi _=>n<=i⟩
variable {P:aF}{w:World}
theorem Ag(a it:Addr):Turn P w K tg (Oy K a) [it] it (λi h=>h.IsListIter it a i) where
 mem:=by simp
 obj:=λi h st b hb=>by
  have e:b=it:=by simpa using hb
  subst e;obtain⟨o,e,c,d⟩:=st;exact⟨o,e,λv z=>by rw[d]at z;cases z⟩
 keep:=λi h h' st k=>st.at λo e=>k it (by simp) o e
 item:=by
  intro X hP hw hK hc i pins s σ H E I hf st hg;subst hP hw hK;obtain⟨xs,x,hq,hx⟩:=hg;obtain⟨aI,rv,p,hz⟩:=I.list hq;obtain⟨u,hu,ru⟩:=rv.get hx;obtain⟨f0,f1,f2,f3,f4,f5⟩:=hf it (by simp);refine wpAny_pyNext_list_item st p.isList (x:=u) (by simpa using hu) λh' p9 sb=>?_;have I1:Inv X pins σ H { s with heap:=h' }:=I.turned (t':=s.toks) (λb o hb e=>(sb.2 b hb).trans e) f0 f1 f3 f4 f5;obtain⟨o,e,c,d⟩:=id p9;exact⟨u,rfl,Ej (s:={ s with heap:=h' }) e c d (by decide) ⟨x,H,I1,ru,⟨rfl,λys hy=>by rw[I.iX hy hq];exact hx⟩,p9,λb hb=>(hf b hb).1⟩⟩
 done:=by
  intro X hP hw hK hc i pins s σ H E I hf st hg;subst hP hw hK;obtain⟨xs,hq,hx⟩:=hg;obtain⟨aI,rv,p,hz⟩:=I.list hq;obtain⟨f0,f1,f2,f3,f4,f5⟩:=hf it (by simp);have hl:=rv.length;exact wpAny_pyNext_list_end (I.ok.hd hc) st p.isList (by simp;left) λh' eb=>⟨rfl,I.turned (t':=s.toks) (λb o hb e=>eb b o hb e) f0 f1 f3 f4 f5⟩
 self:=λ_ _ _ _ _ st h=>wpAny_pyIter_listiter st h
theorem wK(a it:Addr):Turn P w K tg (Ox K a) [it] it (λi h=>h.IsTupleIter it a i) where
 mem:=by simp
 obj:=λi h st b hb=>by
  have e:b=it:=by simpa using hb
  subst e;obtain⟨o,e,c,d⟩:=st;exact⟨o,e,λv z=>by rw[d]at z;cases z⟩
 keep:=λi h h' st k=>st.at λo e=>k it (by simp) o e
 item:=by
  intro X hP hw hK hc i pins s σ H E I hf st hg;subst hP hw hK;obtain⟨xs,x,hq,hx⟩:=hg;obtain⟨aI,rv,p,hz⟩:=I.tuple hq;obtain⟨u,hu,ru⟩:=rv.get hx;obtain⟨f0,f1,f2,f3,f4,f5⟩:=hf it (by simp);refine wpAny_pyNext_tuple_item st (show s.heap.IsTuple a aI.toArray from p) (x:=u) (by simpa using hu) λh' p9 sb=>?_;have I1:Inv X pins σ H { s with heap:=h' }:=I.turned (t':=s.toks) (λb o hb e=>(sb.2 b hb).trans e) f0 f1 f3 f4 f5;obtain⟨o,e,c,d⟩:=id p9;exact⟨u,rfl,Ej (s:={ s with heap:=h' }) e c d (by decide) ⟨x,H,I1,ru,⟨rfl,λys hy=>by rw[I.lL hy hq];exact hx⟩,p9,λb hb=>(hf b hb).1⟩⟩
 done:=by
  intro X hP hw hK hc i pins s σ H E I hf st hg;subst hP hw hK;obtain⟨xs,hq,hx⟩:=hg;obtain⟨aI,rv,p,hz⟩:=I.tuple hq;obtain⟨f0,f1,f2,f3,f4,f5⟩:=hf it (by simp);have hl:=rv.length;exact wpAny_pyNext_tuple_end (I.ok.hd hc) st (show s.heap.IsTuple a aI.toArray from p) (by simp;left) λh' eb=>⟨rfl,I.turned (t':=s.toks) (λb o hb e=>eb b o hb e) f0 f1 f3 f4 f5⟩
 self:=λ_ _ _ _ _ st h=>wpAny_pyIter_tupleiter st h
theorem wL(it:Addr)(lo:Int)(n:Nat):Turn P w K tg (Bq lo n) [it] it (λi h=>IsRangeIter h it (lo+(i:Nat)*1) ((n:Int) - (i:Nat)) 1) where
 mem:=by simp
 obj:=λi h st b hb=>by
  have e:b=it:=by simpa using hb
  subst e;exact⟨_,st,λv z=>by
   have z':Data.fields _=Data.cell v:=z;cases z'⟩
 keep:=λi h h' st k=>k it (by simp) _ st
 item:=by
  intro X hP hw hK hc i pins s σ H E I hf st hg;subst hP hw hK;obtain⟨f0,f1,f2,f3,f4,f5⟩:=hf it (by simp);have W:=Walks.range (prog:=X.prog) (w:=X.w) (I.ok.hd hc) it lo 1 n;refine W.item i s _ _ hg st λv h' tk hv p9 kk=>?_;obtain⟨t,rfl⟩:=hv;have I1:Inv X pins σ H { s with heap:=h',toks:=tk }:=I.turned (λb o hb e=>kk b o (by simpa using hb) e) f0 f1 f3 f4 f5;refine⟨_,rfl,Ej (s:={ s with heap:=h',toks:=tk }) (n:="range_iterator") p9 rfl rfl (by decide) ⟨.int (lo+i),H,I1,⟨t,?_⟩,⟨rfl,rfl⟩,p9,λb hb=>(hf b hb).1⟩⟩;rw[Int.mul_one]
 done:=by
  intro X hP hw hK hc i pins s σ H E I hf st hg;subst hP hw hK;obtain⟨f0,f1,f2,f3,f4,f5⟩:=hf it (by simp);exact wpAny_pyNext_range_end (I.ok.hd hc) st (by have:n<=i:=hg;left) λh' eb=>⟨rfl,I.turned (t':=s.toks) (λb o hb e=>eb b o hb e) f0 f1 f3 f4 f5⟩
 self:=λ_ _ _ _ _ st h=>wpAny_pyIter_rangeiter st h
end L2
namespace L2
open PySem PySem.Spec PyProof.Rows
variable {H:Hp}{fp:aO}{lo:Int}{pos:Pos}{ta:TA}{σ:L2.St}
section
variable {X:Cx}{tg:Expr}
def QI(K:aq)(tl:TE):TI:=λσ H R=>tl σ H λx H1=>∃a,x=.ref a/\(∃xs,dg K H1 a xs)/\R (Oy K a) H1
def V6(K:aq)(tl:TE):TI:=λσ H R=>tl σ H λx H1=>∃a,x=.ref a/\(∃xs,aU K H1 a xs)/\R (Ox K a) H1
theorem yO{l:Expr}{tl:TE}(hl:PE X l tl):PI X tg l (QI X.K tl):=by
 intro pins s σ H R I h;refine de (hl pins s σ H _ I h) λv s1 bR=>?_;obtain⟨x,H1,I1,r1,q1⟩:=bR;obtain⟨a,e,⟨xs,hq⟩,q⟩:=q1;subst e;cases r1;obtain⟨aI,rv,p,hz⟩:=I1.list hq;refine wpAny_pyIter_list p.isList ?_;refine⟨s1.heap.objs.size,[s1.heap.objs.size],_,_,H1,rfl,I1.kept (t':=s1.toks) λb o e=>aai _ e,Ag a _,⟨_,aap _ rfl,rfl,rfl⟩,λb hb=>?_,q⟩;have e:b=s1.heap.objs.size:=by simpa using hb
 subst e;exact I1.Eo (aal _) (I1.cV.fresh (aal _))
theorem CM{l:Expr}{tl:TE}(hl:PE X l tl):PI X tg l (V6 X.K tl):=by
 intro pins s σ H R I h;refine de (hl pins s σ H _ I h) λv s1 bR=>?_;obtain⟨x,H1,I1,r1,q1⟩:=bR;obtain⟨a,e,⟨xs,hq⟩,q⟩:=q1;subst e;cases r1;obtain⟨aI,rv,p,hz⟩:=I1.tuple hq;refine wpAny_pyIter_tuple (show s1.heap.IsTuple a aI.toArray from p) ?_;refine⟨s1.heap.objs.size,[s1.heap.objs.size],_,_,H1,rfl,I1.kept (t':=s1.toks) λb o e=>aai _ e,wK a _,⟨_,aap _ rfl,rfl,rfl⟩,λb hb=>?_,q⟩;have e:b=s1.heap.objs.size:=by simpa using hb
 subst e;exact I1.Eo (aal _) (I1.cV.fresh (aal _))
theorem uV{pins:ak}{s:Shared}{R:It->Hp->Prop}{E:az}{hi:Int}{t u v:Tok}{tk:Nat}(I:Inv X pins σ H s)(h1:-(2 ^ 62)<=lo)(h2:lo<2 ^ 62)(h3:-(2 ^ 62)<=hi)(h4:hi<2 ^ 62)
  (q:R (Bq lo (hi - lo).toNat) H):wpAny (model X.prog X.w) X.A (pyIter (.ref s.heap.objs.size)) (Fh X pins σ tg R) E { s with heap:=s.heap.push { cls:=.type "range",data:=.fields #[.int lo t,.int hi u,.int 1 v] },toks:=tk }:=by
 refine wpAny_pyIter_range (IsRange.new ..) (small_one h1 h2 h3 h4) ?_;have I1:Inv X pins σ H { s with heap:=s.heap.push { cls:=.type "range",data:=.fields #[.int lo t,.int hi u,.int 1 v] },toks:=tk }:=I.kept λb o e=>aai _ e;refine⟨(s.heap.push { cls:=.type "range",data:=.fields #[.int lo t,.int hi u,.int 1 v] }).objs.size,[(s.heap.push { cls:=.type "range",data:=.fields #[.int lo t,.int hi u,.int 1 v] }).objs.size],_,_,H,rfl,
  I1.kept (t':=tk) λb o e=>aai _ e,wL _ lo (hi - lo).toNat,?_,λb hb=>?_,q⟩
 ·have e1:lo+((0:Nat):Int)*1=lo:=by simp
  have e2:(((hi - lo).toNat:Nat):Int) - ((0:Nat):Int)=Builtin.Range.rangeSize lo hi 1:=by rw[rangeSize_one];split<;>left
  show IsRangeIter _ _ (lo+((0:Nat):Int)*1) ((((hi - lo).toNat:Nat):Int) - ((0:Nat):Int)) 1;rw[e1,e2];exact aap _ rfl
 ·have e:b=(s.heap.push { cls:=.type "range",data:=.fields #[.int lo t,.int hi u,.int 1 v] }).objs.size:=by simpa using hb
  subst e;exact I1.Eo (aal _) (I1.cV.fresh (aal _))
def QH(ta:TA):TI:=λσ H R=>ta σ H λvs H1=>∃j:Int,vs=[.int j] /\ -(2 ^ 62)<=j/\j<2 ^ 62/\R (Bq 0 j.toNat) H1
theorem qM{a:Expr}{p:Pos}(hg:Gl X "range")(hm:X.mg "range" = none)(ha:PA X [a] ta)(hs:starEach [a] X.env=[(false,eval a X.env)]:=by rfl):PI X tg (.Call (.Name "range" p) [a] [] pos) (QH ta):=by
 intro pins s σ H R I h;refine Call_ (fJ I hg hm boot_range (aaB (de (ha pos pins s σ H _ I h) λus s1 bR=>?_) hs rfl));obtain⟨vs,H1,I1,r1,q1⟩:=bR;obtain⟨j,e,q1,q2,q⟩:=q1;subst e;cases r1 with
 |cons r rr =>
  cases rr;obtain⟨t,rfl⟩:=r;exact call_range_1 (uV I1 (by left) (by left) q1 q2 (by simpa using q))
noncomputable def UI(wi:TI)(g:TG)(tb:TS):TS:=λD σ H=>wi σ H λJ H1=>∃W:Nat->Nat->St->Hp->Prop,(∃m,W 0 m σ H1)/\∀i m σ H,W i m σ H ->
 (J.stop i H/\D.nx σ H)\/(J.go i H/\∃N:St->Hp->Prop,(∀σ' H',N σ' H'->∃m',m'<m/\W (i+1) m' σ' H')/\∀x H',J.wx i H x H'->g x σ H' λσ2 H2=>tb { D with nx:=N,ct:=N,bk:=D.nx } σ2 H2)
noncomputable def iS(fp:aO)(h:Heap):ak:=fp.filterMap λb=>(h.get? b).map λo=>(b,o)
theorem gW{h:Heap}{b:Addr}{o:Obj}(hb:b∈fp)(e:h.get? b=some o):(b,o)∈iS fp h:=List.mem_filterMap.mpr ⟨b,hb,by rw[e];rfl⟩
theorem qP{h:Heap}{p:Addr×Obj}(hp:p∈iS fp h):p.1∈fp/\h.get? p.1=some p.2:=by
 obtain⟨b,hb,e⟩:=List.mem_filterMap.mp hp;cases q:h.get? b with
 |none=>rw[q]at e;cases e
 |some o =>
  rw[q]at e;have e':(b,o)=p:=aat e;subst e';exact⟨hb,q⟩
theorem Inv.pinned{pins:ak}{s:Shared}(I:Inv X pins σ H s)(hf:∀b∈fp,pT X pins H b)(ho:∀b∈fp,∃o,s.heap.get? b=some o/\∀v,o.data≠.cell v):Inv X (pins++iS fp s.heap) σ H s :=
 I.jw λp hp=>(List.mem_append.mp hp).elim (λz=>I.pin p (aao _ z)) λz=>by
  obtain⟨hb,e⟩:=qP z;obtain⟨f0,f1,f2,_⟩:=hf p.1 hb;obtain⟨o,e',d⟩:=ho p.1 hb;rw[e]at e';cases e';exact⟨e,f0,f1,f2,d⟩
theorem Inv.kv{pins pl:ak}{s:Shared}(I:Inv X (pins++pl) σ H s):Inv X pins σ H s:=I.jw λp hp=>I.pin p (aao _ (aaP _ hp))
theorem sj{iter:Expr}{body:bq}{wi:TI}{g:TG}{tb:TS}(hp:PassesOwn (model X.prog X.w) X.A X.env X.xe)(hc:X.calm=true)(hi:PI X tg iter wi)(hg:PG X tg g)(hb:nV X body tb)
  (hs:∀x,foldedSetIterable iter X.env x=pure x:=by intro _;rfl):PS X (.For tg iter body [] pos) (UI wi g tb):=by
 intro pins s σ H D I h;refine wpAny_For (de (hi pins s σ H _ I h) λv s1 h1=>de h1 λVS s2 h2=>?_) hs;obtain⟨it,fp,tn,J,H2,e,I2,T,Ge,f2,W,⟨m0,w0⟩,turn⟩:=h2;subst e;have Kh:∀{H':Hp},(∀b∈fp,H' b=none)->∀b∈fp,pT X pins H' b:=λhn b hb=>⟨hn b hb,(f2 b hb).2⟩
 refine codeAny_forLoop_any (λn s'=>∃i σ' H',Inv X pins σ' H' s'/\tn i s'.heap/\(∀b∈fp,H' b=none)/\W i n σ' H') ?_ m0 ⟨0,σ,H2,I2,Ge,λb hb=>(f2 b hb).1,w0⟩;rintro n s3 ⟨i,σ3,H3,I3,st3,fr3,w3⟩;rcases turn i n σ3 H3 w3 with ⟨stop,qn⟩|⟨go,N,hN,step⟩
 ·refine abd hp (de (T.done X rfl rfl rfl hc i pins s3 σ3 H3 X.xe I3 (Kh fr3) st3 stop) λr s4 bR=>?_);obtain⟨hr,I4⟩:=bR;subst hr;exact wpAny_execs_nil ⟨σ3,H3,I4,qn⟩
 ·refine abd hp (de (T.item X rfl rfl rfl hc i pins s3 σ3 H3 X.xe I3 (Kh fr3) st3 go) λr s4 bR=>?_);obtain⟨u,hr,h4⟩:=bR;subst hr;refine abd hp (de h4 λ_ s5 bR=>?_);obtain⟨x,H5,I5,r5,y5,Kj,Xb⟩:=bR;have XT:=I5.pinned (Kh Xb) (T.obj _ _ Kj);refine abd hp (de (hg _ s5 σ3 H5 x u _ XT r5 (step x H5 y5)) λ_ s6 bR=>?_);obtain⟨σ6,H6,I6,q6⟩:=bR;refine abd hp (de (hb _ s6 σ6 H6 _ I6 q6) λf s7 q7=>?_);have again:∀{σ7:St} {H7:Hp},Inv X (pins++iS fp s5.heap) σ7 H7 s7->N σ7 H7->∃m,m<n/\∃i σ' H',Inv X pins σ' H' s7/\tn i s7.heap/\(∀b∈fp,H' b=none)/\W i m σ' H':=λ{σ7 H7} I7 n7=>by
   obtain⟨m',hm,w7⟩:=hN σ7 H7 n7;refine⟨m',hm,i+1,σ7,H7,I7.kv,T.keep _ _ _ Kj λb hb o e=>(I7.pin (b,o) (aao _ (aao _ (gW hb e)))).1,λb hb=>?_,w7⟩;obtain⟨o,e,d⟩:=T.obj _ _ Kj b hb;exact(I7.pin (b,o) (aao _ (aao _ (gW hb e)))).2.1
  cases f with
  |next=>obtain⟨σ7,H7,I7,n7⟩:=q7;exact again I7 n7
  |cont=>obtain⟨σ7,H7,I7,n7⟩:=q7;exact again I7 n7
  |brk=>obtain⟨σ7,H7,I7,q7⟩:=q7;exact⟨σ7,H7,I7.kv,q7⟩
  |ret v=>obtain⟨x7,σ7,H7,I7,r7,q7⟩:=q7;exact⟨x7,σ7,H7,I7.kv,r7,q7⟩
end
variable {K:aq}{xs:ae}
theorem Ep{a:Addr}{g:TG}{tb:TS}{D:Ends}(Pv:Nat->St->Hp->Prop)(h0:Pv 0 σ H)(hl:∀i σ H,i<=xs.length->Pv i σ H->dg K H a xs)
  (hs:∀i x σ H,xs[i]?=some x->Pv i σ H->g x σ H λσ2 H2=>tb { D with nx:=Pv (i+1),ct:=Pv (i+1),bk:=D.nx } σ2 H2) (hd:∀σ H,Pv xs.length σ H->D.nx σ H) :
  ∃W:Nat->Nat->St->Hp->Prop,(∃m,W 0 m σ H)/\∀i m σ H,W i m σ H ->
   ((Oy K a).stop i H/\D.nx σ H)\/((Oy K a).go i H/\∃N:St->Hp->Prop,(∀σ' H',N σ' H'->∃m',m'<m/\W (i+1) m' σ' H')/\∀x H',(Oy K a).wx i H x H'->g x σ H' λσ2 H2=>tb { D with nx:=N,ct:=N,bk:=D.nx } σ2 H2):=by
 refine⟨λi m σ H=>m=xs.length - i/\i<=xs.length/\Pv i σ H,⟨xs.length,by simp,aaK _,h0⟩,?_⟩;rintro i m σ H ⟨rfl,hi,p⟩;have q:=hl i σ H hi p;by_cases gM:i<xs.length
 ·refine .inr ⟨⟨xs,xs[i],q,by simp[gM]⟩,Pv (i+1),λσ' H' p'=>⟨xs.length - (i+1),by left,rfl,gM,p'⟩,λx H' y=>?_⟩;obtain⟨e,y⟩:=y;subst e;exact hs i x σ _ (y xs q) p
 ·have e:i=xs.length:=by left
  subst e;exact .inl ⟨⟨xs,q,aal _⟩,hd σ H p⟩
theorem HE{a:Addr}{g:TG}{tb:TS}{D:Ends}(Pv:Nat->St->Hp->Prop)(h0:Pv 0 σ H)(hl:∀i σ H,i<=xs.length->Pv i σ H->aU K H a xs)
  (hs:∀i x σ H,xs[i]?=some x->Pv i σ H->g x σ H λσ2 H2=>tb { D with nx:=Pv (i+1),ct:=Pv (i+1),bk:=D.nx } σ2 H2) (hd:∀σ H,Pv xs.length σ H->D.nx σ H) :
  ∃W:Nat->Nat->St->Hp->Prop,(∃m,W 0 m σ H)/\∀i m σ H,W i m σ H ->
   ((Ox K a).stop i H/\D.nx σ H)\/((Ox K a).go i H/\∃N:St->Hp->Prop,(∀σ' H',N σ' H'->∃m',m'<m/\W (i+1) m' σ' H')/\∀x H',(Ox K a).wx i H x H'->g x σ H' λσ2 H2=>tb { D with nx:=N,ct:=N,bk:=D.nx } σ2 H2):=by
 refine⟨λi m σ H=>m=xs.length - i/\i<=xs.length/\Pv i σ H,⟨xs.length,by simp,aaK _,h0⟩,?_⟩;rintro i m σ H ⟨rfl,hi,p⟩;have q:=hl i σ H hi p;by_cases gM:i<xs.length
 ·refine .inr ⟨⟨xs,xs[i],q,by simp[gM]⟩,Pv (i+1),λσ' H' p'=>⟨xs.length - (i+1),by left,rfl,gM,p'⟩,λx H' y=>?_⟩;obtain⟨e,y⟩:=y;subst e;exact hs i x σ _ (y xs q) p
 ·have e:i=xs.length:=by left
  subst e;exact .inl ⟨⟨xs,q,aal _⟩,hd σ H p⟩
theorem A2{n:Nat}{g:TG}{tb:TS}{D:Ends}(Pv:Nat->St->Hp->Prop)(h0:Pv 0 σ H)
  (hs:∀i σ H,i<n->Pv i σ H->g (.int (lo+i)) σ H λσ2 H2=>tb { D with nx:=Pv (i+1),ct:=Pv (i+1),bk:=D.nx } σ2 H2) (hd:∀σ H,Pv n σ H->D.nx σ H) :
  ∃W:Nat->Nat->St->Hp->Prop,(∃m,W 0 m σ H)/\∀i m σ H,W i m σ H ->
   ((Bq lo n).stop i H/\D.nx σ H)\/((Bq lo n).go i H/\∃N:St->Hp->Prop,(∀σ' H',N σ' H'->∃m',m'<m/\W (i+1) m' σ' H')/\∀x H',(Bq lo n).wx i H x H'->g x σ H' λσ2 H2=>tb { D with nx:=N,ct:=N,bk:=D.nx } σ2 H2):=by
 refine⟨λi m σ H=>m=n - i/\i<=n/\Pv i σ H,⟨n,by simp,aaK _,h0⟩,?_⟩;rintro i m σ H ⟨rfl,hi,p⟩;by_cases gM:i<n
 ·refine .inr ⟨gM,Pv (i+1),λσ' H' p'=>⟨n - (i+1),by left,rfl,gM,p'⟩,λx H' y=>?_⟩;obtain⟨e,y⟩:=y;subst e y;exact hs i σ _ gM p
 ·have e:i=n:=by left
  subst e;exact .inl ⟨aal _,hd σ H p⟩
end L2
namespace L2
open PySem PySem.Spec PyProof.Rows
noncomputable abbrev R2:=V->V->Hp->VK->Prop
def j7(X:Cx)(f:Value->Value->Sem Value)(r:R2):Prop :=
 ∀(pins:ak) (s:Shared) (σ:St) (H:Hp) (x y:V) (v u:Value) (Q:VK),Inv X pins σ H s->RelV x v->RelV y u->r x y H Q ->
  wpAny (model X.prog X.w) X.A (f v u) (EP X pins σ Q) X.xe s
def XM(X:Cx)(f:Value->Sem Value)(r:V->Hp->VK->Prop):Prop :=
 ∀(pins:ak) (s:Shared) (σ:St) (H:Hp) (x:V) (v:Value) (Q:VK),Inv X pins σ H s->RelV x v->r x H Q ->
  wpAny (model X.prog X.w) X.A (f v) (EP X pins σ Q) X.xe s
def fS(X:Cx)(f:Value)(r:ae->Hp->VK->Prop):Prop :=
 ∀(pins:ak) (s:Shared) (σ:St) (H:Hp) (xs:ae) (us:ao) (Q:VK),Inv X pins σ H s->Vals xs us->r xs H Q ->
  wpAny (model X.prog X.w) X.A (call f us) (EP X pins σ Q) X.xe s
noncomputable def IT(r:R2)(ta tb:TE):TE:=λσ H Q=>ta σ H λx H1=>tb σ H1 λy H2=>r x y H2 Q
noncomputable def tUn(r:V->Hp->VK->Prop)(ta:TE):TE:=λσ H Q=>ta σ H λx H1=>r x H1 Q
noncomputable def rI(C:Int->Int->Prop)(g:Int->Int->V):R2:=λx y H Q=>∃i j,x=.int i/\y=.int j/\C i j/\Q (g i j) H
noncomputable def CB(g:Int->Int->V):R2:=λx y H Q=>∃i j,x=.int i/\y=.int j/\Q (g i j) H
noncomputable def rU(g:Int->V):V->Hp->VK->Prop:=λx H Q=>∃i,x=.int i/\Q (g i) H
variable {H:Hp}{σ:L2.St}
section
variable {X:Cx}{a b c:Expr}{ta tb tc:TE}{pos:Pos}
theorem NF(ha:PE X a ta)(hb:PE X b tb){pins:ak}{s:Shared}{R:V->V->Hp->Prop}(I:Inv X pins σ H s)
  (h:ta σ H λx H1=>tb σ H1 λy H2=>R x y H2) {Q:az} {f:Value->Value->Sem Value}
  (hf:∀v u s2 x y H2,Inv X pins σ H2 s2->RelV x v->RelV y u->R x y H2->wpAny (model X.prog X.w) X.A (f v u) Q X.xe s2) :
  wpAny (model X.prog X.w) X.A (eval a X.env) (λv s₁=>wpAny (model X.prog X.w) X.A (eval b X.env) (λu s₂=>wpAny (model X.prog X.w) X.A (f v u) Q X.xe s₂) X.xe s₁) X.xe s:=by
 refine de (ha pins s σ H _ I h) λv s1 bR=>?_;obtain⟨x,H1,I1,r1,q1⟩:=bR;refine de (hb pins s1 σ H1 _ I1 q1) λu s2 bR=>?_;obtain⟨y,H2,I2,r2,q2⟩:=bR;exact hf v u s2 x y H2 I2 r1 r2 q2
theorem CU{op:Operator}{r:R2}(ho:j7 X (binaryOp op) r)(ha:PE X a ta)(hb:PE X b tb):PE X (.BinOp a op b pos) (IT r ta tb):=by
 intro pins s σ H Q I h;exact wpAny_BinOp (NF ha hb I h λv u s2 x y H2 I2 rx ry q=>ho pins s2 σ H2 x y v u Q I2 rx ry q)
theorem PN{op:UnaryOp}{r:V->Hp->VK->Prop}(ho:XM X (unaryOp op) r)(ha:PE X a ta):PE X (.UnaryOp op a pos) (tUn r ta):=by
 intro pins s σ H Q I h;exact UnaryOp_ (de (ha pins s σ H _ I h) λv s1 ⟨x,H1,I1,r1,q1⟩=>ho pins s1 σ H1 x v Q I1 r1 q1)
theorem Lq{f:Value->Value->Sem Value}{C:Int->Int->Prop}{g:Int->Int->Int}
  (rule:∀(i j:Int) (t u:Tok) (s:Shared) (Q:az) (E:az),C i j->Q (.int (g i j) s.toks) { s with toks:=s.toks+1 }->wpAny (model X.prog X.w) X.A (f (.int i t) (.int j u)) Q E s) :
  j7 X f (rI C λi j=>.int (g i j)):=by
 intro pins s σ H x y v u Q I rx ry h;obtain⟨i,j,rfl,rfl,hc,q⟩:=h;obtain⟨t,rfl⟩:=rx;obtain⟨t',rfl⟩:=ry;exact rule i j t t' s _ _ hc ⟨.int (g i j),H,I.tok _,⟨_,rfl⟩,q⟩
theorem Vw{f:Value->Value->Sem Value}{g:Int->Int->Int}
  (rule:∀(i j:Int) (t u:Tok) (s:Shared) (Q:az) (E:az),Q (.int (g i j) s.toks) { s with toks:=s.toks+1 }->wpAny (model X.prog X.w) X.A (f (.int i t) (.int j u)) Q E s) :
  j7 X f (CB λi j=>.int (g i j)):=by
 intro pins s σ H x y v u Q I rx ry h;obtain⟨i,j,rfl,rfl,q⟩:=h;obtain⟨t,rfl⟩:=rx;obtain⟨t',rfl⟩:=ry;exact rule i j t t' s _ _ ⟨.int (g i j),H,I.tok _,⟨_,rfl⟩,q⟩
theorem G4{f:Value->Value->Sem Value}{g:Int->Int->Bool}
  (rule:∀(i j:Int) (t u:Tok) (s:Shared) (Q:az) (E:az),Q (.bool (g i j)) s->wpAny (model X.prog X.w) X.A (f (.int i t) (.int j u)) Q E s) :
  j7 X f (CB λi j=>.bl (g i j)):=by
 intro pins s σ H x y v u Q I rx ry h;obtain⟨i,j,rfl,rfl,q⟩:=h;obtain⟨t,rfl⟩:=rx;obtain⟨t',rfl⟩:=ry;exact rule i j t t' s _ _ ⟨.bl (g i j),H,I,rfl,q⟩
theorem wJ(k:Nat):(0:Int)<=2 ^ k:=by
 rw[two_pow_cast];exact Int.natCast_nonneg _
theorem Lp:j7 X (binaryOp .Add) (CB λi j=>.int (i+j)):=Vw λ_ _ _ _ _ _ _ q=>add_int q
theorem G0:j7 X (binaryOp .Mod) (rI (λ_ j=>j≠0) λi j=>.int (i.fmod j)):=Lq λ_ _ _ _ _ _ _ hc q=>mod_int' hc q
theorem Lj:j7 X (binaryOp .RShift) (rI (λ_ j=>0<=j) λi j=>.int (i / 2 ^ j.toNat)):=Lq λi j _ _ _ _ _ hc q =>
 rshift_int hc (by rw[Int.fdiv_eq_ediv_of_nonneg i (wJ _)];exact q)
theorem Z9{f:Value->Sem Value}{g:Int->Int}
  (rule:∀(i:Int) (t:Tok) (s:Shared) (Q:az) (E:az),Q (.int (g i) s.toks) { s with toks:=s.toks+1 }->wpAny (model X.prog X.w) X.A (f (.int i t)) Q E s) :
  XM X f (rU λi=>.int (g i)):=by
 intro pins s σ H x v Q I rx h;obtain⟨i,rfl,q⟩:=h;obtain⟨t,rfl⟩:=rx;exact rule i t s _ _ ⟨.int (g i),H,I.tok _,⟨_,rfl⟩,q⟩
theorem J_:XM X (unaryOp .USub) (rU λi=>.int (-i)):=Z9 λ_ _ _ _ _ q=>neg_int q
end
variable {us:ao}
section
variable {X:Cx}{a b c:Expr}{ta tb tc:TE}{pos:Pos}
theorem PZ:j7 X (compareOp .Lt) (CB λi j=>.bl (decide (i<j))):=G4 λ_ _ _ _ _ _ _ q=>lt_int q
theorem P0:j7 X (compareOp .LtE) (CB λi j=>.bl (decide (i<=j))):=G4 λ_ _ _ _ _ _ _ q=>le_int q
theorem P4:j7 X (compareOp .Gt) (CB λi j=>.bl (decide (j<i))):=G4 λ_ _ _ _ _ _ _ q=>gt_int q
theorem P5:j7 X (compareOp .GtE) (CB λi j=>.bl (decide (j<=i))):=G4 λ_ _ _ _ _ _ _ q=>ge_int q
theorem j7.or{f:Value->Value->Sem Value}{r r':R2}(h:j7 X f r)(h':j7 X f r'):j7 X f (λx y H Q=>r x y H Q\/r' x y H Q):=by
 intro pins s σ H x y v u Q I rx ry q;rcases q with q|q
 ·exact h pins s σ H x y v u Q I rx ry q
 ·exact h' pins s σ H x y v u Q I rx ry q
theorem Dg(b:Expr){op:CmpOp}(h:op≠.In:=by decide)(h2:op≠.NotIn:=by decide):behindInMarks op b=false:=by
 have e1:(op==CmpOp.In)=false:=by cases op<;>first|rfl|exact absurd rfl h
 have e2:(op==CmpOp.NotIn)=false:=by cases op<;>first|rfl|exact absurd rfl h2
 cases b<;>simp[behindInMarks,e1,e2]
theorem yS{op:CmpOp}{r:R2}(ho:j7 X (compareOp op) r)(ha:PE X a ta)(hb:PE X b tb)(hm:behindInMarks op b=false):PE X (.Compare a [op] [b] pos) (IT r ta tb):=by
 intro pins s σ H Q I h;exact wpAny_Compare1 (NF ha hb I h λv u s2 x y H2 I2 rx ry q=>ho pins s2 σ H2 x y v u Q I2 rx ry q) hm
noncomputable def IS(t:TE):TT:=λσ H Q=>t σ H λx H'=>∃k,x=.bl k/\Q k H'
theorem yI{op:CmpOp}{r:R2}(ho:j7 X (compareOp op) r)(ha:PE X a ta)(hb:PE X b tb)(hm:behindInMarks op b=false):PT X (.Compare a [op] [b] pos) (IS (IT r ta tb)):=by
 intro pins s σ H Q I h;refine wpAny_isTrue_Compare1 (de (ha pins s σ H _ I h) λv s1 ⟨x,H1,I1,r1,q1⟩=>de (hb pins s1 σ H1 _ I1 q1) λu s2 ⟨y,H2,I2,r2,q2⟩ =>
  de (ho pins s2 σ H2 x y v u _ I2 r1 r2 q2) λc s3 ⟨z,H3,I3,r3,k,e,q3⟩=>?_) hm
 subst e;cases r3;exact aa1 ⟨H3,I3,q3⟩
theorem sH:(sizeLine:Nat)<2 ^ 63:=by rw[sizeLine_eq];decide
theorem vals1{x:V}(r:Vals [x] us):∃u,us=[u]/\RelV x u:=by
 cases r with
 |cons r1 r2=>cases r2;exact⟨_,rfl,r1⟩
theorem vals2{x y:V}(r:Vals [x,y] us):∃u w',us=[u,w']/\RelV x u/\RelV y w':=by
 cases r with
 |cons r1 r2 =>
  cases r2 with
  |cons r3 r4=>cases r4;exact⟨_,_,rfl,r1,r3⟩
theorem EU:fS X (.builtin "abs") (λxs H Q=>∃i,xs=[.int i]/\Q (.int (if i<0 then -i else i)) H):=by
 intro pins s σ H xs us Q I r h;obtain⟨i,rfl,q⟩:=h;obtain⟨u,rfl,t,rfl⟩:=vals1 r;exact call_abs_int λu tk=>⟨.int (if i<0 then -i else i),H,I.tok _,⟨_,rfl⟩,q⟩
theorem Bi:fS X (.type "int") (λxs H Q=>(∃i,xs=[.int i]/\Q (.int i) H)\/∃k,xs=[.bl k]/\Q (.int (if k then 1 else 0)) H):=by
 intro pins s σ H xs us Q I r h;rcases h with ⟨i,rfl,q⟩|⟨k,rfl,q⟩
 ·obtain⟨u,rfl,t,rfl⟩:=vals1 r;exact call_int_int ⟨.int i,H,I,⟨_,rfl⟩,q⟩
 ·obtain⟨u,rfl,r1⟩:=vals1 r;cases r1;exact call_int_bool ⟨.int (if k then 1 else 0),H,I.tok _,⟨_,rfl⟩,q⟩
end
end L2
namespace L2
open PySem PySem.Spec PyProof.Rows
structure acQ(h:Heap)(x dx C:Addr)(mA:a_):Prop where
 obj:h.get? x=some (PySem.W.instObj C dx)
 ns:h.Ns1 dx mA
 ne:dx≠x
section
variable {prog:aF}{w:World}{A:aE}{E:az}{s:Shared}{K:aq}{x dx C f:Addr}{mA:a_}{name:Str}{v:Value}
end
theorem m9.some_of{v:V}{o:Option Value}(r:m9 (some v) o):∃u,o=some u/\RelV v u:=by
 cases o with
 |none=>exact(show False from r).elim
 |some u=>exact⟨u,rfl,r⟩
theorem m9.none_of{o:Option Value}(r:m9 none o):o=none:=by
 cases o with
 |none=>rfl
 |some u=>exact(show False from r).elim
section
variable {P:aF}{w:World}{H H':Hp}{h h':Heap}{a C dx:Addr}{fs fs':List (Str×V)}
end
structure Cls(K:aq)(C:Addr):Prop where
 pg:PySem.W.plainGet K C Str.empty=true
 hd:PySem.W.hasDictIn K C=true
 po:PySem.W.plainOver K C=true
 sa:PySem.W.findIn K (.ref C) "__setattr__" = some (some (.builtin "object.__setattr__"))
structure Con(K:aq)(C:Addr)(f:Str)(v:V)(u:Value):Prop where
 at_:PySem.W.findIn K (.ref C) f=some (some u)
 rel:RelV v u
 get:PySem.W.specialIn K u "__get__" = some none
 cp:PySem.W.copiedNames.contains f=false
structure Meth(K:aq)(C:Addr)(m:Str)(f:Addr):Prop where
 at_:PySem.W.findIn K (.ref C) m=some (some (.ref f))
 fn:PySem.W.isFn K (.ref f)=true
 kp:PySem.W.keepIn K (.ref f)=true
section
variable {X:Cx}{pins:ak}{σ:St}{H:Hp}{s:Shared}{a C dx:Addr}{fs:List (Str×V)}{f:Str}{v:V}{A:aE}{E:az}
end
section
variable {X:Cx}{o e value:Expr}{f:Str}{pos pos' aab:Pos}{ta tv:TE}
end
section
variable {X:Cx}{pins:ak}{σ:St}{H:Hp}{s:Shared}{A:aE}{E:az}{Q:az}{c:Value}{b:Bool}
inductive pL(K:aq)(H:Hp):V->Value->Prop where
 |cg:pL K H .cg (.type "NoneType")
 |bl (x:Bool):pL K H (.bl x) (.type "bool")
 |int (i:Int):pL K H (.int i) (.type "int")
 |str (x:Str):pL K H (.str x) (.type "str")
 |RM (x:UInt64):pL K H (.RM x) (.type "float")
 |lst {a:Addr} {xs:ae} (e:H a=some (.lst xs)):pL K H (.ref a) (.type "list")
 |iI {a:Addr} {o:Obj} {xs:ae} (e:H a=some (.iI o (.lst xs))):pL K H (.ref a) (.type "list")
 |tup {a:Addr} {xs:ae} (e:H a=some (.tup xs)):pL K H (.ref a) (.type "tuple")
 |dK {a:Addr} {oT:List (Key×V)} (e:H a=some (.dK oT)):pL K H (.ref a) (.type "dict")
 |dT {a:Addr} {oT:List (List Key×V)} (e:H a=some (.dT oT)):pL K H (.ref a) (.type "dict")
 |ins {a C dx:Addr} {fs:List (Str×V)} (e:H a=some (.ins C dx fs)) (cl:Cls K C) (ha:PySem.W.findIn K (.ref C) "__class__" = some (some (.builtin "object.__class__")))
   (hn:PySem.W.specialIn K (.builtin "object.__class__") "__get__" = some (some (.builtin "getset_descriptor.__get__"))) (htk:PySem.W.takesIn K (.builtin "object.__class__")=some true)
   (hm:PySem.W.mroIn K C (.type "object")=some true):pL K H (.ref a) (.ref C)
end
end L2
namespace L2
open PySem PySem.Spec PyProof.Rows
structure gm(k:Nat)(A:aE):Prop where
 hd:A.handled=none
 dp:A.depth+3*k+5<recursionLimit
 un:A.units+16*k+200<cLine
variable {A:aE}
theorem gm.mono{j k:Nat}(r:gm k A)(h:j<=k):gm j A:=⟨r.hd,by have:=r.dp;left,by have:=r.un;left⟩
theorem gm.deeper{k:Nat}{A:aE}(r:gm (k+1) A)(env:Env):gm k (A.deeper env) :=
 ⟨r.hd,by have:=r.dp;show A.depth+1+3*k+5<_;left,by have:=r.un;show A.units+3+16*k+200<_;left⟩
theorem gm.depth{k:Nat}{A:aE}(r:gm k A):A.depth<recursionLimit:=by have:=r.dp;left
theorem gm.units{k:Nat}{A:aE}(r:gm k A):A.units+64<cLine:=by have:=r.un;left
noncomputable def Kd:TA:=λ_ H Q=>Q [] H
noncomputable def B6(ta:TE)(tr:TA):TA:=λσ H Q=>ta σ H λx H1=>tr σ H1 λxs H2=>Q (x::xs) H2
section
variable {X:Cx}{e:Expr}{es:aw}{te:TE}{t:TA}{pos:Pos}
theorem eT:PA X [] Kd:=λ_ _ _ _ H Q I h=>acv ⟨[],H,I,.nil,h⟩
theorem cO(ha:PE X e te)(hr:PA X es t)(hs:starEach (e::es) X.env=(false,eval e X.env)::starEach es X.env:=by rfl):PA X (e::es) (B6 te t):=by
 intro pos pins s σ H Q I h;rw[hs];show wpAny _ _ (spliced ((false,eval e X.env)::backTo pos (starEach es X.env))) _ _ s;refine acj (de (ha pins s σ H _ I h) λu s1 bR=>?_);obtain⟨x,H1,I1,r1,q1⟩:=bR;exact de (hr pos pins s1 σ H1 _ I1 q1) λus s2 ⟨xs,H2,I2,r2,q2⟩=>⟨x::xs,H2,I2,.cons r1 r2,q2⟩
def UA(t:TA):TE:=λσ H Q=>t σ H λxs H1=>xs.length<=sizeLine/\∀p,H1 p=none->Q (.ref p) (upd H1 p (.tup xs))
def UG(t:TA):TE:=λσ H Q=>t σ H λxs H1=>xs.length<=sizeLine/\∀p,H1 p=none->Q (.ref p) (upd H1 p (.lst xs))
theorem K7{x1}(h:PA X es t):PE X (.Tuple es x1 pos) (UA t):=by
 intro pins s σ H Q I hq;refine wpAny_Tuple_spliced (de (h pos pins s σ H _ I hq) λus s1 ⟨xs,H1,I1,r,z,q⟩=>⟨by rw[<- r.length];exact z,?_⟩);have hf:H1 s1.heap.objs.size=none:=I1.cV.fresh (aal _);refine⟨.ref s1.heap.objs.size,upd H1 s1.heap.objs.size (.tup xs),I1.laid (t':=s1.toks) (λb u e=>aai _ e) (aal _) ?_,rfl,q _ hf⟩;exact⟨z,us,r,⟨_,aap _ rfl,rfl,_,rfl⟩⟩
theorem CW(h:PA X es t):PE X (.List es pos) (UG t):=by
 intro pins s σ H Q I hq;refine wpAny_List_spliced (de (h pos pins s σ H _ I hq) λus s1 ⟨xs,H1,I1,r,z,q⟩=>⟨by rw[<- r.length];exact z,?_⟩);have hf:H1 s1.heap.objs.size=none:=I1.cV.fresh (aal _);refine⟨.ref s1.heap.objs.size,upd H1 s1.heap.objs.size (.lst xs),I1.laid (t':=s1.toks) (λb u e=>aai _ e) (aal _) ?_,rfl,q _ hf⟩;exact⟨z,us,0,r,aap _ rfl⟩
end
noncomputable abbrev Sp:=ae->Hp->VK->XK->Prop
noncomputable abbrev Bz:=List Env->Hp->Shared->XK->az
structure IC(P:aF)(w:World)(K:aq)(mg:a_)(base:Heap)(A:aE)(outer:List Env)(s:Shared)(H:Hp):Prop where
 frames:A.frames=some outer
 mod:Mod K mg base
 bs:∀b o,base.get? b=some o->s.heap.get? b=some o/\H b=none
 JP:base.objs.size<=s.heap.objs.size
 m5:s.heap.FunFrames base outer
 Oj:∀b∈Bv outer,H b=none
 cV:mh P w H s.heap
 bare:AllBare s.gens
def CE(outer:List Env)(P:aF)(w:World)(H:Hp)(s:Shared)(Q:VK)(u:Value)(s':Shared):Prop :=
 ∃v H',s'.os=s.os/\AllBare s'.gens/\Un (Bv outer) [] H H' s.heap s'.heap/\mh P w H' s'.heap/\RelV v u/\Q v H'
noncomputable def CR(CX:Bz)(outer:List Env)(P:aF)(w:World)(H:Hp)(s:Shared)(Q:VK)(E:XK)(r:Result)(s':Shared):Prop :=
 match r with
 |.ok (.ret u)=>CE outer P w H s Q u s'
 |.ok _=>False
 |.error e=>CX outer H s E e s'
structure jK(P:aF)(w:World)(K:aq)(mg:a_)(base:Heap)(CX:Bz)(k:Nat)(f:Addr)(fd:FuncData)(ps:au)(sp:Sp):Prop where
 len:∀vs H Q E,sp vs H Q E->vs.length=ps.length
 run:∀(A:aE) (outer:List Env) (s:Shared) (H:Hp) (args:Args) (us:ao) (vs:ae) (Q:VK) (E:XK),gm k A->IC P w K mg base A outer s H->BindsTo s fd args (ps.zip us)->Vals vs us->sp vs H Q E ->
  codeAny (model P w) A (.call (.ref f) args) (CR CX outer P w H s Q E) s
theorem jK.mono{P:aF}{w:World}{K:aq}{mg:a_}{base:Heap}{CX:Bz}{j k:Nat}{f:Addr}{fd:FuncData}{ps:au}{sp:Sp}(F:jK P w K mg base CX j f fd ps sp)(h:j<=k):
  jK P w K mg base CX k f fd ps sp:=⟨F.len,λA outer s H args us vs Q E hr=>F.run A outer s H args us vs Q E (hr.mono h)⟩
variable {Q:VK}
section
variable {X:Cx}{pins:ak}{σ:St}{H:Hp}{s s':Shared}
theorem Inv.Xk(I:Inv X pins σ H s):IC X.prog X.w X.K X.mg X.base X.A X.stack s H :=
 ⟨I.ok.frames,I.ok.mod,I.bs,aau I.ok.JP I.sz,I.stack,I.yu,I.cV,I.bare⟩
theorem Inv.after{u:Value}(I:Inv X pins σ H s)(h:CE X.stack X.prog X.w H s Q u s'):EP X pins σ Q u s':=by
 obtain⟨v,H',os,bare,un,cV,r,q⟩:=h;obtain⟨hh,g,d,t,Vu⟩:=s';obtain rfl:Vu=s.os:=os;exact⟨v,H',I.call (h':=hh) (g':=g) (d':=d) (t':=t) (ch:=[]) un cV bare (λb z=>absurd z (by simp)),r,q⟩
end
noncomputable def OX(sp:Sp)(fN:ae)(E:XK)(t:TA):TE:=λσ H Q=>t σ H λvs H1=>sp (vs++fN) H1 Q E
noncomputable def Binds(K:aq)(fd:FuncData)(ps:au)(ds:ao):Prop :=
 ∀(s:Shared) (us:ao),K.In s.heap->(us++ds).length=ps.length->BindsTo s fd ⟨us,[]⟩ (ps.zip (us++ds))
variable {K:aq}{N ps:au}
theorem Binds.all{fd:FuncData}(h:∀us:ao,us.length=ps.length->bindArgs fd ⟨us,[]⟩=pure (ps.zip us)):Binds K fd ps []:=λs us _ hl=>by
 rw[List.append_nil]at hl ⊢;exact .of_eq (h us hl)
def Passes(CX:Bz)(X:Cx)(E:XK):Prop:=∀(pins:ak) (σ:St) (H:Hp) (s:Shared) (e:Value) (s':Shared),Inv X pins σ H s->CX X.stack H s E e s'->X.xe e s'
variable {H:Hp}{us:ao}{vs:ae}
section
variable {X:Cx}{CX:Bz}{k:Nat}{f C:Addr}{fd:FuncData}{ps:au}{sp:Sp}{fN:ae}{ds:ao}{E:XK}{x m:Str}{p pos apos:Pos}{e o:Expr}{es:aw}{ta:TE}{t:TA}
theorem KG{pins:ak}{σ:St}{s:Shared}(F:jK X.prog X.w X.K X.mg X.base CX k f fd ps sp)(hr:gm k X.A)(hb:Binds X.K fd ps ds)(hd:Vals fN ds)(hx:Passes CX X E)
  (I:Inv X pins σ H s) (r:Vals vs us) (h:sp (vs++fN) H Q E):wpAny (model X.prog X.w) X.A (call (.ref f) us) (EP X pins σ Q) X.xe s:=by
 have r2:Vals (vs++fN) (us++ds):=r.append hd;have hl:(us++ds).length=ps.length:=by rw[<- r2.length];exact F.len _ _ _ _ h
 refine wpAny_call (ab3 (F.run X.A X.stack s H ⟨us,[]⟩ (us++ds) (vs++fN) Q E hr I.Xk (hb s us I.AD hl) r2 h) λr s' hq=>?_);cases r with
 |error e=>exact hx pins σ H s e s' I hq
 |ok fl =>
  cases fl with
  |ret u=>exact I.after hq
  |next=>exact False.elim hq
  |brk=>exact False.elim hq
  |cont=>exact False.elim hq
theorem GU(F:jK X.prog X.w X.K X.mg X.base CX k f fd ps sp)(hr:gm k X.A)(hg:Gl X x)(hm:X.mg x=some (.ref f))(hk:PySem.W.keepIn X.K (.ref f)=true)(hb:Binds X.K fd ps ds)(hd:Vals fN ds)(hx:Passes CX X E)
  (ha:PA X (e::es) t) (Mn:(x==("__debug__" : Str))=false:=by decide) (he:starEach (e::es) X.env=(false,eval e X.env)::starEach es X.env:=by rfl) (hpl:(backTo pos (starEach es X.env)).any (·.1)=false:=by rfl) :
  PE X (.Call (.Name x p) (e::es) [] pos) (OX sp fN E t):=by
 intro pins s σ H Q I h;refine aba (y9 I hg hm ?_ Mn);refine PySem.W.callWith_K (h₀:=X.base) I.ok.mod.VL hk (de (ha pos pins s σ H _ I h) λus s1 ⟨vs,H1,I1,r,q⟩=>⟨I1.AD,?_⟩) he hpl;exact KG F hr hb hd hx I1 r q
structure Mk(K:aq)(C f:Addr):Prop where
 makes:PySem.W.makesIn K C=true
 init:PySem.W.findIn K (.ref C) "__init__" = some (some (.ref f))
 fn:PySem.W.isFn K (.ref f)=true
 kp:PySem.W.keepIn K (.ref C)=true
end
section
variable {X:Cx}{CX:Bz}{k:Nat}{f C:Addr}{fd:FuncData}{ps ks:au}{sp:Sp}{E:XK}{x m:Str}{p pos apos aaS:Pos}{e o:Expr}{es:aw}{kws:List Keyword}{te ta:TE}{t tk:TA}{nm:Option Str}
structure XQ(K:aq)(fd:FuncData)(ps ks:au)(g:ao->ao->ao)(gV:ae->ae->ae):Prop where
 to:∀(s:Shared) (us ws:ao),K.In s.heap->(g us ws).length=ps.length->BindsTo s fd ⟨us,ks.zip ws⟩ (ps.zip (g us ws))
 rel:∀{vs:ae} {us:ao} {zs:ae} {ws:ao},Vals vs us->Vals zs ws->Vals (gV vs zs) (g us ws)
variable {g:ao->ao->ao}{gV:ae->ae->ae}
end
structure jF(N P:au)(sc:Scope):Prop where
 kind:sc.kind=.function
 co:sc.isCoroutine=false
 gen:sc.isGenerator=false
 nd:N.Nodup
 pre:N.take P.length=P
 par:∀x∈P,sc.names.lookup x=some .local\/sc.names.lookup x=some .cell
 Lx:∀y∈sc.names,y.2≠.free
theorem rF{kindOf:Str->Option NameKind}{x:Str}:∀{binds:List (Str×Value)} {m:a_},(∀v,(x,v)∉binds)->bindL kindOf binds m x=m x
 |[],_,_=>rfl
 | (n,v)::r,m,h=>by
  unfold bindL;rw[rF λw hw=>h w (List.mem_cons_of_mem _ hw)];split
  ·have:x≠n:=by rintro rfl;exact h v aaf
   simp[this]
  ·rfl
theorem rH{kindOf:Str->Option NameKind}{x:Str}:∀{binds:List (Str×Value)} {m:a_},(∀v,(x,v)∉binds)->bindC kindOf binds m x=m x
 |[],_,_=>rfl
 | (n,v)::r,m,h=>by
  unfold bindC;rw[rH λw hw=>h w (List.mem_cons_of_mem _ hw)];split
  ·rfl
  ·have:x≠n:=by rintro rfl;exact h v aaf
   simp[this]
theorem rG{kindOf:Str->Option NameKind}{x:Str}{v:Value}:∀{P:au} {vs:ao} {i:Nat} {m:a_},P.Nodup->P[i]?=some x->vs[i]?=some v->kindOf x=some .local ->
  bindL kindOf (P.zip vs) m x=some v
 |[],_,_,_,_,h,_,_=>by simp at h
 |_::_,[],_,_,_,_,h,_=>by simp at h
 |p::P,w::vs,0,m,nd,h1,h2,hk=>by
  simp at h1 h2;subst h1;subst h2;show bindL kindOf ((p,w)::P.zip vs) m p=_;unfold bindL;rw[rF λv hv=>(List.nodup_cons.mp nd).1 (List.of_mem_zip hv).1,if_pos hk];simp
 |p::P,w::vs,i+1,m,nd,h1,h2,hk=>by
  show bindL kindOf ((p,w)::P.zip vs) m x=_;unfold bindL;exact rG (i:=i) (List.nodup_cons.mp nd).2 (by simpa using h1) (by simpa using h2) hk
theorem rJ{kindOf:Str->Option NameKind}{x:Str}{v:Value}:∀{P:au} {vs:ao} {i:Nat} {m:a_},P.Nodup->P[i]?=some x->vs[i]?=some v->kindOf x≠some .local ->
  bindC kindOf (P.zip vs) m x=some v
 |[],_,_,_,_,h,_,_=>by simp at h
 |_::_,[],_,_,_,_,h,_=>by simp at h
 |p::P,w::vs,0,m,nd,h1,h2,hk=>by
  simp at h1 h2;subst h1;subst h2;show bindC kindOf ((p,w)::P.zip vs) m p=_;unfold bindC;rw[rH λv hv=>(List.nodup_cons.mp nd).1 (List.of_mem_zip hv).1,if_neg hk];simp
 |p::P,w::vs,i+1,m,nd,h1,h2,hk=>by
  show bindC kindOf ((p,w)::P.zip vs) m x=_;unfold bindC;exact rJ (i:=i) (List.nodup_cons.mp nd).2 (by simpa using h1) (by simpa using h2) hk
noncomputable def start(N:au)(vs:ae):St:=vs.map some++List.replicate (N.length - vs.length) none
noncomputable def xR(CX:Bz)(P:aF)(w:World)(K:aq)(mg:a_)(base:Heap)(N:au)(qual:Str)(scope:Scope)(f:Addr)(cd:Value)(A:aE)(outer:List Env)(s:Shared)(H:Hp)(E:XK):Cx where
 prog:=P
 w:=w
 K:=K
 mg:=mg
 base:=base
 A:=A.deeper (envOfC qual scope s.heap.objs.size f cd)
 N:=N
 s₀:=s
 H₀:=H
 env:=envOfC qual scope s.heap.objs.size f cd
 outer:=outer
 stack:=envOfC qual scope s.heap.objs.size f cd::outer
 ex:=[]
 calm:=true
 fn:=λ_=>true
 pn:=[]
 xe:=λe s'=>wpAny (model P w) (A.deeper (envOfC qual scope s.heap.objs.size f cd)) (leaving (envOfC qual scope s.heap.objs.size f cd) e) (λ_ U5=>CX outer H s E e U5) (λe' U5=>CX outer H s E e' U5) s'
theorem v9{sc:Scope}{n:Nat}{x:Str}(h:sc.names.lookup x=some .cell):∃c,(cellsFrom n sc.names []).lookup x=some c:=by
 have q:=PySem.W.cellsFrom_some sc.names n [] (.inl h);exact Option.isSome_iff_exists.mp q
variable {P:aF}{base:Heap}{mg:Str->Option Value}{qual:Str}{scope:Scope}{w:World}
theorem AK{CX:Bz}{f:Addr}{cd:Value}{outer:List Env}{s s1:Shared}{E:XK}  
  (S:jF N ps scope) (hd:A.handled=none) (e0:IC P w K mg base A outer s H) (hl:vs.length=ps.length) (r:Vals vs us)
  (x:InCallC s s.heap.objs.size (bindL (envOfC qual scope s.heap.objs.size f cd).kindOf (ps.zip us) λ_=>none) (cellsFrom (s.heap.objs.size+1) scope.names []) (bindC (envOfC qual scope s.heap.objs.size f cd).kindOf (ps.zip us) λ_=>none) s1) :
  Inv (xR CX P w K mg base N qual scope f cd A outer s H E) [] (start N vs) H s1:=by
 have hpl:ps.length<=N.length:=by have:=aa2 List.length S.pre;rw[List.length_take]at this;left
 obtain⟨h1,tk,rfl,hk⟩:=x.done;have P_:∀b:Addr,b∉(xR CX P w K mg base N qual scope f cd A outer s H E).ex:=λb z=>absurd (show b∈([]:aO) from z) (by simp);refine⟨⟨e0.mod,S.kind,rfl,rfl,aal _,λy z c h1 h2=>?_,λy hy=>?_,λy c _ h=>?_,λ_=>hd,Around.frames_deeper e0.frames,.inr ⟨rfl,rfl⟩,λb z=>absurd z (P_ b),e0.bs,e0.JP,λb _ _=>P_ b,λb z=>absurd z (P_ b),e0.m5,e0.Oj⟩,
  rfl,e0.bare,Un.kept hk,⟨_,x.toInCall.ns,λi y v h1 h2 h3=>?_⟩,λy c h=>⟨_,x.cell y c h⟩,e0.cV.fresh (aal _),λy c h=>?_,λp hp=>absurd (show p∈([]:ak) from hp) (by simp),e0.cV.kept hk,?_⟩
 ·exact name_of_addr x.apart (aa_ h1) (aa_ h2)
 ·have hy:scope.names.lookup y=some .cell\/scope.names.lookup y=some .free:=hy;rcases hy with hy|hy
  ·exact v9 hy
  ·exact absurd rfl (S.Lx _ (aa_ hy))
 ·exact abJ (x.above y c (aa_ h))
 ·have hi:i<vs.length:=by
   unfold start at h2;by_cases hi:i<vs.length
   ·exact hi
   ·rw[List.getElem?_append_right (by simpa using hi)]at h2;rw[List.getElem?_replicate]at h2;split at h2<;>cases h2
  have ha:vs[i]?=some v:=by
   unfold start at h2;rw[List.getElem?_append_left (by simpa using hi),List.getElem?_map]at h2;cases e:vs[i]? with
   |none=>rw[e]at h2;cases h2
   |some a=>rw[e]at h2;cases h2;rfl
  obtain⟨u,hu,rv⟩:=r.get ha;have hp:ps[i]?=some y:=by
   rw[<- S.pre,List.getElem?_take_of_lt (by left)];exact h1
  have Yo:ps.Nodup:=by rw[<- S.pre];exact S.nd.sublist (List.take_sublist _ _)
  refine⟨u,rv,?_⟩;rcases S.par y (aax hp)with k|k
  ·exact .inl ⟨k,rG Yo hp hu k⟩
  ·obtain⟨c,e⟩:=v9 (n:=s.heap.objs.size+1) k;refine .inr ⟨.inl k,c,e,?_⟩;have q:=x.cell y c e;rw[rJ Yo hp hu (by show scope.names.lookup y≠_;rw[k];decide)]at q;exact q
 ·exact e0.cV.fresh (abJ (x.above y c (aa_ h)))
 ·unfold start;show _=N.length;rw[List.length_append,List.length_map,List.length_replicate];left
theorem RJ{CX:Bz}{k:Nat}{f:Addr}{name:Str}{params:Arguments}{body:bq}{dV kV doc pm jP ct oc:Value}{an od:Option Addr}
  {Fs:Array (Option Value)} {sp:Sp} (lk:K.lookup f=some ⟨oc,od,.func (PySem.W.fnOf name qual params body scope dV kV doc pm an jP ct),Fs⟩) (Ea:PySem.W.codeIn K jP qual=true) (S:jF N ps scope)
  (len:∀vs H Q E,sp vs H Q E->vs.length=ps.length)
  (Eb:∀(A:aE) (outer:List Env) (s:Shared) (H:Hp) (vs:ae) (Q:VK) (E:XK),gm k (A.deeper (envOfC qual scope s.heap.objs.size f jP))->sp vs H Q E ->
   ∃t,nV (xR CX P w K mg base N qual scope f jP A outer s H E) body t/\t { nx:=λ_ H'=>Q .cg H',rt:=Q } (start N vs) H) :
  jK P w K mg base CX (k+1) f (PySem.W.fnOf name qual params body scope dV kV doc pm an jP ct) ps sp:=by
 refine⟨len,λA outer s H args us vs Q E hr e0 hb r Fx=>?_⟩;have hl:=len _ _ _ _ Fx;have KX:K.In s.heap:=e0.mod.VL.keeps λb o e=>(e0.bs b o e).1;have lim:s.heap.NoLimit:=e0.mod.nolimit.keeps λb o e=>(e0.bs b o e).1;have Q0:∀y∈ps.zip us,scope.names.lookup y.1=some .local\/(scope.names.lookup y.1=some .cell/\((cellsFrom (s.heap.objs.size+1) scope.names []).lookup y.1).isSome=true):=λ⟨n,v⟩ hy=>by
  rcases S.par n (aaz hy).1 with q|q
  ·exact .inl q
  ·exact .inr ⟨q,PySem.W.cellsFrom_some _ _ _ (.inl q)⟩
 refine codeAny_call_function hr.depth (KX _ _ lk) rfl S.co S.gen rfl (PySem.W.codeRec_of KX Ea) (hb _ _ _ _ ?_);refine wpAny_newFunctionEnv_cells S.kind Q0 λenv he s1 x=>?_;subst he;refine⟨lim.keeps x.toInCall.keep,codeAny_func ?_⟩;obtain⟨t,ht,hq⟩:=Eb A outer s H vs Q E (hr.deeper _) Fx;have I:Inv (xR CX P w K mg base N qual scope f jP A outer s H E) [] (start N vs) H s1:=AK S hr.hd e0 hl r x;refine aay (ht [] s1 (start N vs) H _ I hq) (λfl s' hs=>?_) λe s' hs=>hs;have fin:∀{σ':St} {H':Hp} {v:V} {u:Value},Inv (xR CX P w K mg base N qual scope f jP A outer s H E) [] σ' H' s'->RelV v u->Q v H'->CE outer P w H s Q u s' :=
  λ{σ' H' v u} J rv q=>⟨v,H',J.os,J.bare,J.base,J.cV,rv,q⟩
 cases fl with
 |ret u =>
  obtain⟨v,σ',H',J,rv,q⟩:=hs;exact fin J rv q
 |next =>
  obtain⟨σ',H',J,q⟩:=hs;exact fin (v:=V.cg) (u:=Value.none) J rfl q
 |brk =>
  obtain⟨_,_,_,q⟩:=hs;exact False.elim q
 |cont =>
  obtain⟨_,_,_,q⟩:=hs;exact False.elim q
end L2
namespace L2
open PySem PySem.Spec PyProof.Rows
section
variable {X:Cx}{x:Str}{p pos:Pos}{e:Expr}{es:aw}{t:TA}{id T:String}{r:ae->Hp->VK->Prop}
noncomputable def OY(r:ae->Hp->VK->Prop)(t:TA):TE:=λσ H Q=>t σ H λvs H1=>r vs H1 Q
theorem eM(hc:fS X (.builtin id) r)(hg:Gl X x)(hm:X.mg x=none)(hv:bootBuiltins x=some (.builtin id))(ha:PA X (e::es) t)(hn:x ≠ "__name__":=by decide)(Mn:(x==("__debug__" : Str))=false:=by decide)
  (he:starEach (e::es) X.env=(false,eval e X.env)::starEach es X.env:=by rfl) (hpl:(backTo pos (starEach es X.env)).any (·.1)=false:=by rfl):PE X (.Call (.Name x p) (e::es) [] pos) (OY r t):=by
 intro pins s σ H Q I h;refine aba (fJ I hg hm hv ?_ hn Mn);exact PyProof.Rows.callWith_builtin1 (de (ha pos pins s σ H _ I h) λus s1 ⟨vs,H1,I1,r1,q1⟩=>hc pins s1 σ H1 vs us Q I1 r1 q1) he hpl
theorem lU(hc:fS X (.type T) r)(hg:Gl X x)(hm:X.mg x=none)(hv:bootBuiltins x=some (.type T))(ha:PA X (e::es) t)(hn:x ≠ "__name__":=by decide)(Mn:(x==("__debug__" : Str))=false:=by decide)
  (he:starEach (e::es) X.env=(false,eval e X.env)::starEach es X.env:=by rfl) (hpl:(backTo pos (starEach es X.env)).any (·.1)=false:=by rfl):PE X (.Call (.Name x p) (e::es) [] pos) (OY r t):=by
 intro pins s σ H Q I h;refine aba (fJ I hg hm hv ?_ hn Mn);exact aaB (de (ha pos pins s σ H _ I h) λus s1 ⟨vs,H1,I1,r1,q1⟩=>hc pins s1 σ H1 vs us Q I1 r1 q1) he hpl
end
end L2
namespace HT
open PySem PyProof.Rows
noncomputable def lexLt:aa->aa->Bool
 |[],[]=>false
 |[],_::_=>true
 |_::_,[]=>false
 |x::xs,y::ys=>if x=y then lexLt xs ys else decide (x<y)
theorem dH(x y:Int)(xs ys:aa):lexLt (x::xs) (y::ys)=if x=y then lexLt xs ys else decide (x<y):=rfl
theorem jN:lexLt [] []=false:=rfl
theorem oS(y:Int)(ys:aa):lexLt [] (y::ys)=true:=rfl
theorem cT(x:Int)(xs:aa):lexLt (x::xs) []=false:=rfl
theorem vR(A:aE)(s:Shared)(a:Int)(t:Tok)(c:Int)(u:Tok):∃e,SeqAt.EqAt A s (.int a t) (.int c u) e/\(e=true ↔ a=c) :=
 ⟨(a==c),abK a t c u,by simp⟩
theorem Cz(A:aE)(s:Shared)(a:Int)(t:Tok)(c:Int)(u:Tok)(prog:aF)(w:World)(E:az)(Q:az)(h:Q (.bool (decide (a<c))) s):
  wpAny (model prog w) A (richCompare .Lt (.int a t) (.int c u)) Q E s :=
 (PyProof.Rows.lt_int h:wpAny (model prog w) A (compareOp .Lt (.int a t) (.int c u)) Q E s)
section
open PySem.SeqAt
open PySem.AutoSeq1 (wpAny_loadPart')
open PySem.MeetsSeq PySem.MeetsSeq2 PySem.MeetsSeq3
theorem jM(l b:Addr)(items di:aK)(n n2:Nat)(dd zN:Option Addr)(sl yA:Array (Option Value))(ns ms:aa)(hi:IntsAre items.toList ns)(hj:IntsAre di.toList ms):
  Meets (Builtin.«tuple.__lt__» ⟨[.ref l,.ref b],[]⟩)
   (λ_ R s=>s.heap.get? l=some { cls:=.type "tuple",dict:=dd,data:=.seq items n,slots:=sl }/\s.heap.get? b=some { cls:=.type "tuple",dict:=zN,data:=.seq di n2,slots:=yA } /\
    R (.ok (.ret (.bool (lexLt ns ms)))) s) :=
 .of_wp λprog w A R s h=>by
  obtain⟨hp,g,d,tk,os⟩:=s;obtain⟨hl,hb,h⟩:=h;have f2:=AutoSeq1.sub_tuple_tuple;have z1:items.size=ns.length:=by rw[<- hi.length];simp
  have z2:di.size=ms.length:=by rw[<- hj.length];simp
  wp_walk using wpAny_loadPart' hl,wpAny_loadPart' hb,wpAny_forIn_list _ (λrest b s'=>b.1=none/\s'=⟨hp,g,d,tk,os⟩/\∃(vs ws:ao) (lA Br:aa),rest=vs.zip ws /\
   IntsAre vs lA/\IntsAre ws Br/\lA.length+di.size=Br.length+items.size/\R (.ok (.ret (.bool (lexLt lA Br)))) ⟨hp,g,d,tk,os⟩) _
  case turn =>
   rintro ⟨y,x⟩ rest b s' ⟨qm,rfl,vs,ws,lA,Br,hz,Ma,Js,hlen,hR⟩;cases Ma with
   |nil=>rw[List.zip_nil_left]at hz;cases hz
   |cons a t hvi' =>
    cases Js with
    |nil=>rw[List.zip_nil_right]at hz;cases hz
    |cons c u hwi' =>
     rw[List.zip_cons_cons]at hz;injection hz with V7 DY
     injection V7 with hy hx
     subst hy hx;rw[dH]at hR;simp only[List.length_cons]at hlen;obtain⟨e,he,D7⟩:=vR A.in1 ⟨hp,g,d,tk,os⟩ a t c u;refine aaa (he prog w _ _ ?_);cases e with
     |true =>
      rw[if_pos (D7.mp rfl)]at hR
      wp_walk
      exact⟨rfl,rfl,_,_,_,_,DY,hvi',hwi',by left,hR⟩
     |false =>
      rw[if_neg (λq=>absurd (D7.mpr q) Bool.false_ne_true)]at hR;have Wf:=Cz A.in1 ⟨hp,g,d,tk,os⟩ a t c u prog w
      wp_walk using Wf
      exact⟨_,rfl,by simpa using hR⟩
  case fin =>
   rintro ⟨b1,b2⟩ s' ⟨qm,rfl,vs,ws,lA,Br,hz,Ma,Js,hlen,hR⟩;simp only at qm;subst qm;have hv:lexLt lA Br=decide (items.size<di.size):=by
    cases Ma with
    |nil =>
     cases Js with
     |nil =>
      simp only[List.length_nil]at hlen;rw[jN];exact(aa4 (by left)).symm
     |cons c u hw =>
      simp only[List.length_nil,List.length_cons]at hlen;rw[oS];exact(abi (by left)).symm
    |cons a t hv =>
     cases Js with
     |nil =>
      simp only[List.length_nil,List.length_cons]at hlen;rw[cT];exact(aa4 (by left)).symm
     |cons c u hw =>
      rw[List.zip_cons_cons]at hz;cases hz
   rw[hv]at hR
   wp_walk
   exact⟨_,rfl,by simpa [Builtin.Tuple.tupleCompareSizes]using hR⟩
  case h =>
   exact⟨rfl,rfl,items.toList,di.toList,ns,ms,rfl,hi,hj,by left,h⟩
end
variable {Q:Value->Shared->Prop}
section
variable {prog:aF}{w:World}{A:aE}{E:az}{s:Shared}
theorem xq{l b:Addr}{items di:aK}{ns ms:aa}(hl:IsTup s.heap l items)(hb:IsTup s.heap b di)(hi:IntsAre items.toList ns)(hj:IntsAre di.toList ms)
  (hu:A.units<cLine) (h:Q (.bool (lexLt ns ms)) s):wpAny (model prog w) A (compareOp .Lt (.ref l) (.ref b)) Q E s:=by
 obtain⟨⟨cls,dd,data,sl⟩,ho,hc,n,hd⟩:=id hl;obtain⟨⟨Ia,zN,data2,yA⟩,sL,hc2,n2,hd2⟩:=id hb;simp only at hc hd hc2 hd2;subst hc hd hc2 hd2;exact richCompare_meets_room (op:=.Lt) ⟨_,ho,rfl⟩ ⟨_,sL,rfl⟩ abZ PySem.F.entry_tuple_lt (PySem.F.args_tuple_lt_2 _ _) (jM l b items di n n2 dd zN sl yA ns ms hi hj)
  ⟨ho,sL,show Value.bool (lexLt ns ms)≠Value.notImplemented/\Q (.bool (lexLt ns ms)) s from⟨(λx=>nomatch x),h⟩⟩ hu
theorem Ic{t b:Addr}{vs ws:ao}(ht:IsTup s.heap t vs.toArray)(hb:IsTup s.heap b ws.toArray)(hv:vs≠[])
  (h1:ws=[]->Q (.ref t) s) (h2:ws≠[]->Q (.ref s.heap.objs.size) { s with heap:=s.heap.push { cls:=.type "tuple",data:=.seq (vs++ws).toArray } })
  (hsz:vs.length+ws.length<=sizeLine):wpAny (model prog w) A (binaryOp .Add (.ref t) (.ref b)) Q E s:=by
 obtain⟨⟨cls,dd,data,sl⟩,ho,hc,n,hd⟩:=id ht;obtain⟨⟨Ia,zN,data2,yA⟩,sL,hc2,n2,hd2⟩:=id hb;simp only at hc hd hc2 hd2;subst hc hd hc2 hd2;have e:vs.toArray++ws.toArray=(vs++ws).toArray:=by simp
 by_cases hw:ws=[]
 ·exact concat_meets ⟨_,ho,rfl⟩ ⟨_,sL,rfl⟩ noFill_tuple_add seq_tuple_add abR abO (abL _ _)
   (tuple_addW1 t b vs.toArray ws.toArray n n2 dd zN sl yA (by simpa using hv) (by simp[hw])) ⟨ho,sL,h1 hw⟩
 ·refine concat_meets ⟨_,ho,rfl⟩ ⟨_,sL,rfl⟩ noFill_tuple_add seq_tuple_add abR abO (abL _ _)
   (tuple_addW2 t b vs.toArray ws.toArray n n2 dd zN sl yA (by simpa using hv) (by simpa using hw) (by rw[List.size_toArray,List.size_toArray];exact hsz)) ⟨ho,sL,?_⟩
  rw[e];exact h2 hw
noncomputable def xf(n d:Nat):Option Int->Nat
 |none=>d
 |some v=>if v<0 then(v+(n:Int)).toNat else min v.toNat n
end
end HT
namespace L2
open PySem PySem.Spec PyProof.Rows
noncomputable abbrev TO:=St->Hp->(Option Int->Hp->Prop)->Prop
noncomputable def PO(X:Cx)(e:Option Expr)(t:TO):Prop :=
 ∀(pins:ak) (s:Shared) (σ:St) (H:Hp) (Q:Option Int->Hp->Prop),Inv X pins σ H s->t σ H Q ->
  wpAny (model X.prog X.w) X.A (evalPart e X.env) (λu s'=>∃o H',Inv X pins σ H' s'/\IsPart u o/\Q o H') X.xe s
noncomputable def Gb:TO:=λ_ H Q=>Q none H
noncomputable def OS(t:TE):TO:=λσ H Q=>t σ H λx H1=>∃i,x=.int i/\Q (some i) H1
theorem intsAre_of{ns:aa}:∀{us:ao},Vals (ns.map V.int) us->IntsAre us ns:=by
 induction ns with
 |nil=>intro us r;rw[List.map_nil]at r;cases r;exact .nil
 |cons n ns ih =>
  intro us r;rw[List.map_cons]at r;cases r with
  |cons r1 r2 =>
   obtain⟨t,e⟩:=r1;subst e;exact .cons n t (ih r2)
section
variable {X:Cx}{e:Expr}{te:TE}{lo hi:Option Expr}{tl th:TO}{pos p2:Pos}
theorem yL:PO X none Gb:=by
 intro pins s σ H Q I h;rw[evalPart_none];exact aac ⟨none,H,I,.none,h⟩
theorem yK(h:PE X e te):PO X (some e) (OS te):=by
 intro pins s σ H Q I hw;rw[evalPart_some];refine de (h pins s σ H _ I hw) λu s1 bR=>?_;obtain⟨x,H1,I1,r1,q1⟩:=bR;obtain⟨i,rfl,q⟩:=q1;obtain⟨t,rfl⟩:=r1;exact⟨some i,H1,I1,.int i t,q⟩
def XN(X:Cx)(r:V->Option Int->Option Int->Hp->VK->Prop):Prop :=
 ∀(pins:ak) (s:Shared) (σ:St) (H:Hp) (x:V) (v vl vu:Value) (lo hi:Option Int) (sl:Addr) (Q:VK),Inv X pins σ H s->RelV x v->s.heap.IsSliceOf sl vl vu .none->IsPart vl lo->IsPart vu hi->r x lo hi H Q ->
  ∃T id,typeLookup (.type T) "__getitem__" = pure (some (.builtin id))/\s.TypeIs v T/\wpAny (model X.prog X.w) X.A (getItem v (.ref sl)) (EP X pins σ Q) X.xe s
noncomputable def tSl(r:V->Option Int->Option Int->Hp->VK->Prop)(te:TE)(tl th:TO):TE:=λσ H Q=>te σ H λx H1=>tl σ H1 λl H2=>th σ H2 λu H3=>r x l u H3 Q
theorem CT{r:V->Option Int->Option Int->Hp->VK->Prop}(hr:XN X r)(he:PE X e te)(hl:PO X lo tl)(hu:PO X hi th):PE X (.Subscript e (.Slice lo hi none p2) pos) (tSl r te tl th):=by
 intro pins s σ H Q I h;refine Subscript_ (de (he pins s σ H _ I h) λv s1 bR=>?_);obtain⟨x,H1,I1,r1,q1⟩:=bR;refine wpAny_Slice (de (hl pins s1 σ H1 _ I1 q1) λvl s2 ⟨l,H2,I2,pl,q2⟩=>de (hu pins s2 σ H2 _ I2 q2) λvu s3 bR=>?_);obtain⟨u,H3,I3,pu,q3⟩:=bR;rw[evalPart_none];refine aac ?_;have I4:Inv X pins σ H3 { s3 with heap:=s3.heap.push { cls:=.type "slice",data:=.fields #[vl,vu,.none] } }:=I3.kept (t':=s3.toks) λb ob q=>aai _ q;obtain⟨T,id,hT,ht,hg⟩:=hr pins { s3 with heap:=s3.heap.push { cls:=.type "slice",data:=.fields #[vl,vu,.none] } } σ H3 x v vl vu l u s3.heap.objs.size Q I4 r1 (Heap.IsSliceOf.new ..) pl pu q3;show wpAny (model X.prog X.w) X.A (subscriptTail e (.Slice lo hi none p2) v (.ref s3.heap.objs.size)) (EP X pins σ Q) X.xe { s3 with heap:=s3.heap.push { cls:=.type "slice",data:=.fields #[vl,vu,.none] } };exact tail_any (ops:=[.ref s3.heap.objs.size,v]) ht hT hg (by with_unfolding_all rfl)
def HZ(xs:ae)(lo hi:Option Int):ae:=(xs.drop (HT.xf xs.length 0 lo)).take (HT.xf xs.length xs.length hi - HT.xf xs.length 0 lo)
theorem vU(xs:ae)(lo hi:Option Int):(HZ xs lo hi).length<=xs.length:=by
 unfold HZ;rw[List.length_take,List.length_drop];left
def Pn(K:aq):R2:=λx y H Q=>∃a b xs ys,x=.ref a/\y=.ref b/\aU K H a xs/\aU K H b ys/\xs≠[]/\xs.length+ys.length<=sizeLine /\
 (ys=[]->Q (.ref a) H)/\(ys≠[]->∀p,H p=none->Q (.ref p) (upd H p (.tup (xs++ys))))
theorem Vals.sx{xs:ae}{us:ao}(r:Vals xs us):us=[] ↔ xs=[]:=by
 cases r with
 |nil=>simp
 |cons _ _=>simp
theorem G1:j7 X (binaryOp .Add) (Pn X.K):=by
 intro pins s σ H x y v u Q I rx ry h;obtain⟨a,b,xs,ys,rfl,rfl,ha,hb,hx,hz,q1,q2⟩:=h;cases rx;cases ry;obtain⟨aI,r1,p1,_⟩:=I.tuple ha;obtain⟨mU,r2,p2,_⟩:=I.tuple hb;refine HT.Ic p1 p2 (λz=>hx (r1.sx.mp z)) (λz=>⟨.ref a,H,I,rfl,q1 (r2.sx.mp z)⟩) (λz=>?_) (by rw[<- r1.length,<- r2.length];exact hz);refine⟨.ref s.heap.objs.size,_,I.laid (t':=s.toks) (o:=.tup (xs++ys)) (λb ob q=>aai _ q) (aal _) ?_,rfl,q2 (λw=>z (r2.sx.mpr w)) _ (I.cV.fresh (aal _))⟩;exact⟨by rw[List.length_append];exact hz,_,r1.append r2,IsTup.new _ _⟩
end
end L2
namespace L2
open PySem PySem.Spec PyProof.Rows
noncomputable def Bs(n:Nat)(i:Int):Option Nat:=if 0<=i then(if i<n then some i.toNat else none)else if -(n:Int)<=i then some (i+n).toNat else none
def Ov{α:Type}(xs:List α)(i:Int):Option α:=(Bs xs.length i).bind λj=>xs[j]?
theorem zf{n:Nat}{i:Int}{j:Nat}(h:Bs n i=some j):seqIndex? i n=some j/\j<n /\ -(n:Int)<=i/\i<n:=by
 unfold Bs at h;by_cases h0:0<=i
 ·rw[if_pos h0]at h;by_cases h1:i<n
  ·rw[if_pos h1]at h;have e:i.toNat=j:=aat h;exact⟨by rw[seqIndex_of h0 h1,e],by left,by left,h1⟩
  ·rw[if_neg h1]at h;cases h
 ·rw[if_neg h0]at h;by_cases h1:-(n:Int)<=i
  ·rw[if_pos h1]at h;have e:(i+n).toNat=j:=aat h;exact⟨by rw[seqIndex_neg (by left) h1,e],by left,h1,by left⟩
  ·rw[if_neg h1]at h;cases h
theorem zZ{α:Type}{xs:List α}{i:Int}{v:α}(h:Ov xs i=some v):∃j,seqIndex? i xs.length=some j/\xs[j]?=some v/\j<xs.length /\ -(xs.length:Int)<=i/\i<xs.length:=by
 unfold Ov at h;cases e:Bs xs.length i with
 |none=>rw[e]at h;cases h
 |some j =>
  rw[e]at h;obtain⟨h1,h2,h3,h4⟩:=zf e;exact⟨j,h1,h,h2,h3,h4⟩
def nU(b:Expr):Prop:=∀o i,subscripted b false o i=operate [o,i] (getItem o i)
def IA(X:Cx)(r:R2):Prop :=
 ∀(value slice:Expr) (pins:ak) (s:Shared) (σ:St) (H:Hp) (x y:V) (v u:Value) (Q:VK),Inv X pins σ H s->RelV x v->RelV y u->r x y H Q ->
  subscripted slice false v u=operate [v,u] (getItem v u)->wpAny (model X.prog X.w) X.A (subscriptTail value slice v u) (EP X pins σ Q) X.xe s
def XO(X:Cx)(id:String)(r:V->ae->Hp->VK->Prop):Prop :=
 ∀(pins:ak) (s:Shared) (σ:St) (H:Hp) (x:V) (xs:ae) (v:Value) (us:ao) (Q:VK),Inv X pins σ H s->RelV x v->Vals xs us->r x xs H Q ->
  wpAny (model X.prog X.w) X.A (call (.builtin id) (v::us)) (EP X pins σ Q) X.xe s
variable {H:Hp}{σ:L2.St}
section
variable {X:Cx}{a b:Expr}{ta tb:TE}{pos:Pos}
theorem IA.or{r r':R2}(h:IA X r)(h':IA X r'):IA X (λx y H Q=>r x y H Q\/r' x y H Q):=by
 intro value slice pins s σ H x y v u Q I rx ry q hs;rcases q with q|q
 ·exact h value slice pins s σ H x y v u Q I rx ry q hs
 ·exact h' value slice pins s σ H x y v u Q I rx ry q hs
theorem CY{r:R2}(hr:IA X r)(ha:PE X a ta)(hb:PE X b tb)(hs:nU b):PE X (.Subscript a b pos) (IT r ta tb):=by
 intro pins s σ H Q I h;exact Subscript_ (NF ha hb I h λv u s2 x y H2 I2 rx ry q=>hr a b pins s2 σ H2 x y v u Q I2 rx ry q (hs _ _))
def Vh(K:aq):R2:=λx y H Q=>∃p xs i v,x=.ref p/\y=.int i/\dg K H p xs/\Ov xs i=some v/\Q v H
def Vf(K:aq):R2:=λx y H Q=>∃p xs i v,x=.ref p/\y=.int i/\aU K H p xs/\Ov xs i=some v/\Q v H
theorem Hj:IA X (Vh X.K):=by
 intro value slice pins s σ H x y v u Q I rx ry h hs;obtain⟨p,xs,i,z,rfl,rfl,hq,he,q⟩:=h;cases rx;obtain⟨t,rfl⟩:=ry;obtain⟨aI,r,pl,hz⟩:=I.list hq;obtain⟨j,h1,h2,h3,h4,h5⟩:=zZ he;obtain⟨w,ew,jH⟩:=r.get h2;have hl:=r.length;have hn:=sH;have fin:EP X pins σ Q w s:=⟨z,H,I,jH,q⟩
 by_cases h0:0<=i
 ·have hj:i.toNat=j:=by
   rw[seqIndex_of h0 h5]at h1;exact aat h1
  exact item_listR pl.isList h0 (by left) (by rw[hj];simpa using ew) fin hs
 ·have hj:(i+(aI.toArray.size:Int)).toNat=j:=by
   rw[seqIndex_neg (by left) h4]at h1;rw[List.size_toArray,<- hl];exact aat h1
  exact abr (x:=w) pl.isList.typeIs slot_list_getitem.lookup
   (wpAny_getItem_list_neg (Q:=λr s'=>r=w/\EP X pins σ Q r s') pl.isList (by left) (by rw[List.size_toArray]<;>omega) (by left) (by rw[hj];simpa using ew) ⟨rfl,fin⟩) hs
theorem LV:IA X (Vf X.K):=by
 intro value slice pins s σ H x y v u Q I rx ry h hs;obtain⟨p,xs,i,z,rfl,rfl,hq,he,q⟩:=h;cases rx;obtain⟨t,rfl⟩:=ry;obtain⟨aI,r,pl,hz⟩:=I.tuple hq;obtain⟨j,h1,h2,h3,h4,h5⟩:=zZ he;obtain⟨w,ew,jH⟩:=r.get h2;have hl:=r.length;have hn:=sH;have fin:EP X pins σ Q w s:=⟨z,H,I,jH,q⟩
 exact abr (x:=w) pl.typeIs slot_tuple_getitem.lookup
  (getItem_tuple (j:=j) (Q:=λr s'=>r=w/\EP X pins σ Q r s') pl (by left) (by left) (by rw[List.size_toArray,<- hl];exact h1) (by simpa using ew) ⟨rfl,fin⟩) hs
theorem rY(lo hi:Option Int)(n:Nat):(sliceBounds lo hi none n).1=((HT.xf n 0 lo:Nat):Int)/\(sliceBounds lo hi none n).2.1=((HT.xf n n hi:Nat):Int)/\(sliceBounds lo hi none n).2.2=1:=by
 refine⟨?_,?_,rfl⟩
 ·cases lo with
  |none=>simp[sliceBounds,HT.xf]
  |some i =>
   simp only[sliceBounds,HT.xf,Option.getD_none,show(1:Int)>0 by decide,if_true];by_cases h:i<0
   ·simp only[h,if_true]<;>left
   ·simp only[h,if_false]<;>left
 ·cases hi with
  |none=>simp[sliceBounds,HT.xf]
  |some i =>
   simp only[sliceBounds,HT.xf,Option.getD_none,show(1:Int)>0 by decide,if_true];by_cases h:i<0
   ·simp only[h,if_true]<;>left
   ·simp only[h,if_false]<;>left
theorem qa(aI:ao)(lo hi:Option Int):slicePick aI.toArray lo hi none=((aI.drop (HT.xf aI.length 0 lo)).take (HT.xf aI.length aI.length hi - HT.xf aI.length 0 lo)).toArray:=by
 obtain⟨h1,h2,h3⟩:=rY lo hi aI.toArray.size;unfold slicePick;rw[h1,h2,h3];simp only[sliceRange_one,pick_run,List.size_toArray]<;>rfl
def Vc(K:aq):V->Option Int->Option Int->Hp->VK->Prop:=λx lo hi H Q=>∃a xs,x=.ref a/\dg K H a xs/\∀p,H p=none->Q (.ref p) (upd H p (.lst (HZ xs lo hi)))
theorem yy:XN X (Vc X.K):=by
 intro pins s σ H x v vl vu lo hi sl Q I rx hs pl pu h;obtain⟨a,xs,rfl,hx,q⟩:=h;cases rx;obtain⟨aI,r,ht,hz⟩:=I.list hx;have hlen:=r.length;refine⟨"list",_,slot_list_getitem.lookup,ht.isList.typeIs,?_⟩;refine wpAny_getItem_list_slice ht.isList hs pl pu .none (by simp) ?_ (by rw[List.size_toArray]<;>omega);rw[qa,<- hlen];refine⟨.ref s.heap.objs.size,_,I.laid (t':=s.toks) (o:=.lst (HZ xs lo hi)) (λb ob q=>aai _ q) (aal _) ?_,rfl,q _ (I.cV.fresh (aal _))⟩;exact⟨aau (vU xs lo hi) hz,_,0,(r.drop (HT.xf xs.length 0 lo)).take (HT.xf xs.length xs.length hi - HT.xf xs.length 0 lo),aap _ rfl⟩
noncomputable def i7:V->Bool
 |.cg=>true
 |.bl _=>true
 |.int _=>true
 |.str _=>true
 |_=>false
noncomputable def FF:V->V->Bool
 |.cg,.cg=>true
 |.bl a,.bl b=>a==b
 |.bl a,.int b=>(if a then 1 else 0)==b
 |.int a,.bl b=>a==(if b then 1 else 0)
 |.int a,.int b=>a==b
 |.str a,.str b=>a==b
 |_,_=>false
theorem Ng{A:aE}{s:Shared}{y x:V}{u v:Value}(ry:RelV y u)(rx:RelV x v)(fy:i7 y=true)(fx:i7 x=true):SeqAt.EqAt A s u v (FF y x):=by
 cases y with
 |cg =>
  cases ry;cases x with
  |cg=>cases rx;exact abH _
  |bl b=>cases rx;exact ab4 b
  |int b=>obtain⟨t,rfl⟩:=rx;exact aca b t
  |str b=>obtain⟨t,rfl⟩:=rx;exact SeqAt.EqAt.none_str b t
  |_=>exact absurd (show false=true from fx) aag
 |bl a =>
  cases ry;cases x with
  |cg=>cases rx;exact ab5 a
  |bl b=>cases rx;exact ab6 a b
  |int b=>obtain⟨t,rfl⟩:=rx;exact acb a b t
  |str b=>obtain⟨t,rfl⟩:=rx;exact SeqAt.EqAt.bool_str a b t
  |_=>exact absurd (show false=true from fx) aag
 |int a =>
  obtain⟨t',rfl⟩:=ry;cases x with
  |cg=>cases rx;exact acd a t'
  |bl b=>cases rx;exact ace a t' b
  |int b=>obtain⟨t,rfl⟩:=rx;exact abK a t' b t
  |str b=>obtain⟨t,rfl⟩:=rx;exact SeqAt.EqAt.int_str a t' b t
  |_=>exact absurd (show false=true from fx) aag
 |str a =>
  obtain⟨t',rfl⟩:=ry;cases x with
  |cg=>cases rx;exact SeqAt.EqAt.str_none a t'
  |bl b=>cases rx;exact SeqAt.EqAt.str_bool a t' b
  |int b=>obtain⟨t,rfl⟩:=rx;exact SeqAt.EqAt.str_int a t' b t
  |str b=>obtain⟨t,rfl⟩:=rx;exact SeqAt.EqAt.str_str a t' b t
  |_=>exact absurd (show false=true from fx) aag
 |_=>exact absurd (show false=true from fy) aag
def xM(x:V)(u:Value):Bool:=match u with
 |.none=>FF .cg x
 |.bool b=>FF (.bl b) x
 |.int i _=>FF (.int i) x
 |.str z _=>FF (.str z) x
 |_=>false
theorem Ex{x y:V}{u:Value}(r:RelV y u)(f:i7 y=true):xM x u=FF y x:=by
 cases y with
 |cg=>cases r;rfl
 |bl b=>cases r;rfl
 |int i=>obtain⟨t,rfl⟩:=r;rfl
 |str z=>obtain⟨t,rfl⟩:=r;rfl
 |_=>exact absurd (show false=true from f) aag
theorem lq{x:V}:∀{xs:ae} {us:ao},Vals xs us->xs.all i7=true->us.any (xM x)=xs.any λy=>FF y x
 |_,_,.nil,_=>rfl
 |y::xs,u::us,.cons r t,f=>by
  rw[List.all_cons,Bool.and_eq_true]at f;rw[List.any_cons,List.any_cons,Ex r f.1,lq t f.2]
theorem iV{A:aE}{s:Shared}{x:V}{v:Value}(rx:RelV x v)(fx:i7 x=true):∀{xs:ae} {us:ao},Vals xs us->xs.all i7=true->∀u∈us,SeqAt.EqAt A s u v (xM x u)
 |_,_,.nil,_=>λu hu=>by cases hu
 |y::xs,u::us,.cons r t,f=>λu' hu=>by
  rw[List.all_cons,Bool.and_eq_true]at f;rcases List.mem_cons.mp hu with rfl|hu
  ·rw[Ex r f.1];exact Ng r rx f.1 fx
  ·exact iV rx fx t f.2 u' hu
def Tu(x:V)(xs:ae):Bool:=xs.any λy=>FF y x
def SY(K:aq)(neg:Bool):R2:=λx y H Q=>∃p xs,y=.ref p/\(dg K H p xs\/aU K H p xs)/\i7 x=true/\xs.all i7=true/\Q (.bl (if neg then !Tu x xs else Tu x xs)) H
theorem Aw:j7 X (compareOp .In) (SY X.K false):=by
 intro pins s σ H x y v u Q I rx ry h;obtain⟨p,xs,rfl,hq,fx,fs,q⟩:=h;cases ry;rcases hq with hq|hq
 ·obtain⟨aI,r,pl,hz⟩:=I.list hq;refine SeqAt.in_listAt (xM x) pl.isList (λw hw=>iV rx fx r fs w (by simpa using hw)) ⟨.bl _,H,I,rfl,?_⟩;rw[show aI.toArray.any (xM x)=aI.any (xM x) by simp,lq r fs];exact q
 ·obtain⟨aI,r,pl,hz⟩:=I.tuple hq;refine SeqAt.in_tupleAt (xM x) pl (λw hw=>iV rx fx r fs w (by simpa using hw)) ⟨.bl _,H,I,rfl,?_⟩;rw[show aI.toArray.any (xM x)=aI.any (xM x) by simp,lq r fs];exact q
theorem sv:j7 X (compareOp .NotIn) (SY X.K true):=by
 intro pins s σ H x y v u Q I rx ry h;obtain⟨p,xs,rfl,hq,fx,fs,q⟩:=h;cases ry;rcases hq with hq|hq
 ·obtain⟨aI,r,pl,hz⟩:=I.list hq;refine SeqAt.notIn_listAt (xM x) pl.isList (λw hw=>iV rx fx r fs w (by simpa using hw)) ⟨.bl _,H,I,rfl,?_⟩;rw[show aI.toArray.any (xM x)=aI.any (xM x) by simp,lq r fs];exact q
 ·obtain⟨aI,r,pl,hz⟩:=I.tuple hq;refine SeqAt.notIn_tupleAt (xM x) pl (λw hw=>iV rx fx r fs w (by simpa using hw)) ⟨.bl _,H,I,rfl,?_⟩;rw[show aI.toArray.any (xM x)=aI.any (xM x) by simp,lq r fs];exact q
theorem tE:fS X (.builtin "len") (λxs H Q=>∃p ys,xs=[.ref p]/\(dg X.K H p ys\/aU X.K H p ys)/\Q (.int ys.length) H):=by
 intro pins s σ H xs us Q I r h;obtain⟨p,ys,rfl,hq,q⟩:=h;obtain⟨u,rfl,rx⟩:=vals1 r;cases rx;have hn:=sH;rcases hq with hq|hq
 ·obtain⟨aI,r',pl,hz⟩:=I.list hq;have hlen:=r'.length;exact Calls.call_len_list pl.isList (by simp only[List.size_toArray]<;>omega) ⟨.int ys.length,H,I.tok _,⟨s.toks+1,by rw[List.size_toArray,hlen]⟩,q⟩
 ·obtain⟨aI,r',pl,hz⟩:=I.tuple hq;have hlen:=r'.length;exact len_tuple pl (by simp only[List.size_toArray]<;>omega) ⟨.int ys.length,H,I.tok _,⟨s.toks+1,by rw[List.size_toArray,hlen]⟩,q⟩
theorem tx:fS X (.type "list") (λxs H Q=>∃p ys,xs=[.ref p]/\(dg X.K H p ys\/aU X.K H p ys)/\∀l,H l=none->Q (.ref l) (upd H l (.lst ys))):=by
 intro pins s σ H xs us Q I r h;obtain⟨p,ys,rfl,hq,q⟩:=h;obtain⟨u,rfl,rx⟩:=vals1 r;cases rx;have fin:∀(aI:ao),Vals ys aI->ys.length<=sizeLine->∀(h':Heap) (c':Nat),(∀b o',s.heap.get? b=some o'->h'.get? b=some o') ->
   h'.get? s.heap.objs.size=some { cls:=.type "list",dict:=none,data:=.seq aI.toArray c',slots:=#[] }->EP X pins σ Q (.ref s.heap.objs.size) { s with heap:=h' }:=λaI r' hz h' c' kp e =>
  ⟨.ref s.heap.objs.size,_,I.laid (t':=s.toks) kp (aal _) (show cy X.prog X.w _ h' _ (.lst ys) from⟨hz,aI,c',r',e⟩),rfl,q _ (I.cV.fresh (aal _))⟩
 rcases hq with hq|hq
 ·obtain⟨aI,r',pl,hz⟩:=I.list hq;have hlen:=r'.length;obtain⟨o,ho,hc,n,hd⟩:=pl.isList;exact call_list_seq p (.inl rfl) ho hc hd (λh' c' kp e=>fin aI r' hz h' c' kp e) (by simp only[List.size_toArray]<;>omega)
 ·obtain⟨aI,r',pl,hz⟩:=I.tuple hq;have hlen:=r'.length;obtain⟨o,ho,hc,n,hd⟩:=pl;exact call_list_seq p (.inr rfl) ho hc hd (λh' c' kp e=>fin aI r' hz h' c' kp e) (by simp only[List.size_toArray]<;>omega)
theorem qu:fS X (.type "tuple") (λxs H Q=>∃p ys,xs=[.ref p]/\((dg X.K H p ys/\∀l,H l=none->Q (.ref l) (upd H l (.tup ys)))\/(aU X.K H p ys/\Q (.ref p) H))):=by
 intro pins s σ H xs us Q I r h;obtain⟨p,ys,rfl,h⟩:=h;obtain⟨u,rfl,rx⟩:=vals1 r;cases rx;rcases h with ⟨hq,q⟩|⟨hq,q⟩
 ·obtain⟨aI,r',pl,hz⟩:=I.list hq;have hlen:=r'.length;refine call_tuple_list pl.isList (λh' kp=>?_) (by simp only[List.size_toArray]<;>omega);have I1:Inv X pins σ H { s with heap:=h' }:=I.kept (t':=s.toks) kp;have I2:Inv X pins σ (upd H h'.objs.size (.tup ys)) { s with heap:=h'.push { cls:=.type "tuple",data:=.seq aI.toArray } } :=
   I1.laid (t':=s.toks) (λb o e=>aai _ e) (aal _) (show cy X.prog X.w _ _ _ (.tup ys) from⟨hz,aI,r',IsTup.new _ _⟩)
  exact⟨.ref h'.objs.size,_,I2,rfl,q _ (I1.cV.fresh (aal _))⟩
 ·obtain⟨aI,r',pl,hz⟩:=I.tuple hq;exact call_tuple_same pl ⟨.ref p,H,I,rfl,q⟩
def SE(K:aq)(T:String)(x:V)(H:Hp):Prop:=match x with
 |.str _=>T = "str"
 |.int _=>T = "int"
 |.ref p=>(T = "list" /\ ∃xs,dg K H p xs)\/(T = "tuple" /\ ∃o,K.lookup p=some o/\o.cls=.type "tuple" /\ o.dict=none) \/
   (T = "dict" /\ ((∃oT,H p=some (.dK oT))\/∃oT,H p=some (.dT oT)))\/(T = "set" /\ ∃S n,H p=some (.set S n))
 |_=>False
theorem BU{pins:ak}{s:Shared}{T:String}{x:V}{v:Value}(I:Inv X pins σ H s)(r:RelV x v)(ty:SE X.K T x H):
  s.TypeIs v T/\∀a,v=.ref a->∃ob,s.heap.get? a=some ob/\ob.dict=none:=by
 cases x with
 |str z =>
  obtain⟨t,rfl⟩:=r;cases (show T = "str" from ty);exact⟨typeIs_str s z t,λ_ e=>nomatch e⟩
 |int i =>
  obtain⟨t,rfl⟩:=r;cases (show T = "int" from ty);exact⟨typeIs_int s i t,λ_ e=>nomatch e⟩
 |ref p =>
  cases r;rcases ty with ⟨rfl,xs,hq⟩|⟨rfl,o,hk,hc,hd⟩|⟨rfl,hk⟩|⟨rfl,S,n,hk⟩
  ·obtain⟨aI,_,pl,_⟩:=I.list hq;refine⟨pl.isList.typeIs,λa e=>?_⟩;cases e;obtain⟨o,n,e,c,hd,_⟩:=pl;exact⟨o,e,hd⟩
  ·refine⟨⟨o,I.AD p o hk,hc⟩,λa e=>?_⟩;cases e;exact⟨o,I.AD _ o hk,hd⟩
  ·have z:∃o,s.heap.get? p=some o/\o.ExactDict:=by
    rcases hk with ⟨oT,hk⟩|⟨oT,hk⟩
    ·obtain⟨_,_,_,_,o,_,_,e,ex,_⟩:=I.cV p _ hk;exact⟨o,e,ex⟩
    ·obtain⟨_,_,_,_,o,_,_,e,ex,_⟩:=I.cV p _ hk;exact⟨o,e,ex⟩
   obtain⟨o,e,ex⟩:=z;refine⟨⟨o,e,ex.1⟩,λa e2=>?_⟩;cases e2;exact⟨o,e,ex.2.1⟩
  ·obtain⟨o,_,_,_,e,ex,_⟩:=I.cV p _ hk;refine⟨⟨o,e,ex.1⟩,λa e2=>?_⟩;cases e2;exact⟨o,e,ex.2.1⟩
 |_=>exact False.elim ty
def tBM(K:aq)(T:String)(r:V->ae->Hp->VK->Prop)(to:TE)(t:TA):TE:=λσ H Q=>to σ H λx H1=>SE K T x H1/\t σ H1 λxs H2=>r x xs H2 Q
variable {o e:Expr}{es:aw}{to:TE}{t:TA}{name:Str}{apos s9:Pos}{T id:String}{r:V->ae->Hp->VK->Prop}
theorem CZ(pa:PlainAttrs T)(slot:Slot T name id)(Wc:typeOf (.builtin id)=pure (.type "method_descriptor"))(hm:XO X id r)(ho:PE X o to)(ha:PA X (e::es) t)
  (Ec:attributeBase o name X.env (eval o X.env)=eval o X.env:=by rfl)
  (hfew:((backTo s9 (starEach (e::es) X.env)).all (λx=>!x.1)&&(backToKw s9 (keywordEach [] X.env)).all (λx=>x.1.isSome)
   && decide ((e::es).length+([]:List Keyword).length+(if ([]:List Keyword).isEmpty then 0 else 1)<30))=true:=by rfl)
  (hline:(apos.endLine==s9.line)=true:=by rfl) (hs:starEach (e::es) X.env=(false,eval e X.env)::starEach es X.env:=by rfl) (Mg:(backTo s9 (starEach es X.env)).any (·.1)=false:=by rfl) :
  PE X (.Call (.Attribute o name apos) (e::es) [] s9) (tBM X.K T r to t):=by
 intro pins s σ H Q I h;refine wpAny_Call_method_late Ec hfew hline rfl (de (ho pins s σ H _ I h) λv s1 bR=>?_);obtain⟨x,H1,I1,r1,ty,q1⟩:=bR;obtain⟨h1,h2⟩:=BU I1 r1 ty;refine⟨T,id,pa,slot,Wc,h1,h2,?_⟩;have hA:=ha s9 pins s1 σ H1 _ I1 q1;rw[hs]at hA ⊢;refine abu (by show(false||(backTo s9 (starEach es X.env)).any (·.1))=false;rw[Mg]<;>rfl) (ab7 ?_);exact de hA λus s2 ⟨vs,H2,I2,r2,q2⟩=>hm pins s2 σ H2 x vs v us Q I2 r1 r2 q2
/- xs.append(e),list.index on a module's tuple .. are XO facts of 06m -/
end
end L2
namespace L2
open PySem PySem.Spec PyProof.Rows
def Uh(X:Cx)(id:String)(r:V->ae->Hp->VK->Prop):Prop :=
 ∀(pins:ak) (s:Shared) (σ:St) (H:Hp) (x:V) (xs:ae) (v:Value) (us:ao) (Q:VK),Inv X pins σ H s->RelV x v->Vals xs us->r x xs H Q ->
  wpAny (model X.prog X.w) X.A (call (.builtin id) (v::us)) (EP X pins σ Q) X.xe s
theorem Vals.one:∀{x:V} {us:ao},Vals [x] us->∃u,us=[u]/\RelV x u
 |_,_,.cons r .nil=>⟨_,rfl,r⟩
theorem Vals.rep{xs:ae}{us:ao}(h:Vals xs us):∀k:Nat,Vals (List.replicate k xs).flatten (List.replicate k us).flatten
 |0=>.nil
 |k+1=>by
  rw[List.replicate_succ,List.replicate_succ,List.flatten_cons,List.flatten_cons];exact Vals.append h (Vals.rep h k)
theorem foldl_rep(aI:ao):∀(k:Nat) (acc:ao),
  List.foldl (λx1 x2=>x1++x2) acc.toArray (List.replicate k aI.toArray)=(acc++(List.replicate k aI).flatten).toArray
 |0,acc=>by simp
 |k+1,acc=>by
  have e:acc.toArray++aI.toArray=(acc++aI).toArray:=by simp
  have e2:(acc++aI)++(List.replicate k aI).flatten=acc++(List.replicate (k+1) aI).flatten:=by
   rw[List.replicate_succ,List.flatten_cons,List.append_assoc]
  rw[<- e2,<- foldl_rep aI k (acc++aI),<- e,List.replicate_succ,List.foldl_cons]
variable {aI:ao}{t':Nat}
section
variable {X:Cx}{pins:ak}{σ:St}{H:Hp}{s:Shared}{l b:Addr}{xs ys zs:ae}
theorem Inv.jV{its':ao}{n:Nat}{f:aK->aK}(I:Inv X pins σ H s)(hH:H l=some (.lst xs))
  (e:s.heap.get? l=some { cls:=.type "list",data:=.seq aI.toArray n }) (hf:f aI.toArray=its'.toArray) (hv:Vals ys its') (hz:ys.length<=sizeLine) :
  Inv X pins σ (upd H l (.lst ys)) { s with heap:=s.heap.update l (Obj.mapSeq f),toks:=t' }:=by
 have q:=PySem.IsL.update e f;rw[hf]at q;refine I.write (x:=l) (e:=l) (by rw[hH];exact trivial) (.inl rfl) (λb' u hb hu=>(aaQ s.heap (Obj.mapSeq f) (aaD hb)).trans hu) ⟨_,q⟩ ?_;exact⟨hz,its',_,hv,q⟩
theorem Inv.LM(I:Inv X pins σ H s)(hv:Vals ys aI)(hz:ys.length<=sizeLine):
  Inv X pins σ (upd H s.heap.objs.size (.lst ys)) { s with heap:=s.heap.push { cls:=.type "list",data:=.seq aI.toArray },toks:=t' } :=
 I.laid (λ_ _ q=>aai _ q) (aal _) ⟨hz,aI,0,hv,aap _ rfl⟩
theorem Inv.fresh(I:Inv X pins σ H s):H s.heap.objs.size=none:=I.cV.fresh (aal _)
theorem Inv.vo(I:Inv X pins σ H s)(hH:H l=some (.lst xs)):xs.length<=sizeLine/\∃(aI:ao) (n:Nat),Vals xs aI/\xs.length=aI.length/\s.heap.get? l=some { cls:=.type "list",data:=.seq aI.toArray n }:=by
 obtain⟨z,aI,n,r,e⟩:=I.cV l _ hH;exact⟨z,aI,n,r,r.length,e⟩
theorem vf{n:Nat}(h:n<=sizeLine):Builtin.List.listTooLong n=false:=by
 unfold Builtin.List.listTooLong;exact aa4 (by left)
end
section
variable {X:Cx}
def yH:V->ae->Hp->VK->Prop:=λx vs H Q=>∃l xs y,x=.ref l/\vs=[y]/\H l=some (.lst xs)/\xs.length<sizeLine/\Q .cg (upd H l (.lst (xs++[y])))
theorem qS:Uh X "list.append" yH:=by
 intro pins s σ H x vs v us Q I rx rv h;obtain⟨l,xs,y,rfl,rfl,hH,hz,q⟩:=h;cases rx;obtain⟨u,rfl,ru⟩:=rv.one;obtain⟨z,aI,n,r,hl,e⟩:=I.vo hH;refine abA F.slot_list_append ⟨_,e,rfl⟩ F.entry_list_append (F.args_list_append_2 _ _) (PySem.list_append l aI.toArray n u (by rw[List.size_toArray];left)) ⟨e,?_⟩;refine⟨.cg,_,I.jV (its':=aI++[u]) hH e (by simp) (r.append (.cons ru .nil)) ?_,rfl,q⟩;rw[List.length_append,List.length_singleton];left
def GC:V->ae->Hp->VK->Prop:=λx vs H Q=>∃l b xs zs,x=.ref l/\vs=[.ref b]/\H l=some (.lst xs)/\H b=some (.lst zs)/\xs.length+zs.length<=sizeLine/\Q .cg (upd H l (.lst (xs++zs)))
theorem Ax:Uh X "list.extend" GC:=by
 intro pins s σ H x vs v us Q I rx rv h;obtain⟨l,b,xs,zs,rfl,rfl,hH,hB,hz,q⟩:=h;cases rx;obtain⟨u,rfl,ru⟩:=rv.one;cases ru;obtain⟨z,aI,n,r,hl,e⟩:=I.vo hH;obtain⟨z2,mU,n2,r2,vF,e2⟩:=I.vo hB;have hsz:aI.toArray.size+mU.toArray.size<=sizeLine:=by rw[List.size_toArray,List.size_toArray];left
 have D0:¬ (!aI.toArray.isEmpty&&Builtin.List.listTooLong (aI.toArray.size+mU.toArray.size))=true:=by
  rw[vf hsz,Bool.and_false];exact aag
 refine abA F.slot_list_extend ⟨_,e,rfl⟩ F.entry_list_extend (F.args_list_extend_2 _ _)
  (AutoSeq1.list_extend_list_list_0 l aI.toArray n b mU.toArray n2 D0 (by rw[List.size_toArray];left) (by left)) ⟨e,e2,?_⟩
 refine⟨.cg,_,I.jV (its':=aI++mU) hH e (by simp) (r.append r2) ?_,rfl,q⟩;rw[List.length_append];left
def Vj:R2:=λx y H Q=>∃l b xs zs,x=.ref l/\y=.ref b/\H l=some (.lst xs)/\H b=some (.lst zs)/\xs.length+zs.length<=sizeLine/\∀p,H p=none->Q (.ref p) (upd H p (.lst (xs++zs)))
theorem Lo:j7 X (binaryOp .Add) Vj:=by
 intro pins s σ H x y v u Q I rx ry h;obtain⟨l,b,xs,zs,rfl,rfl,hH,hB,hz,q⟩:=h;cases rx;cases ry;obtain⟨z,aI,n,r,hl,e⟩:=I.vo hH;obtain⟨z2,mU,n2,r2,vF,e2⟩:=I.vo hB;refine PySem.P.add_list e e2 ?_ (by rw[List.size_toArray,List.size_toArray];left);have ea:aI.toArray++mU.toArray=(aI++mU).toArray:=by simp
 rw[ea];exact⟨.ref _,_,I.LM (t':=s.toks) (r.append r2) (by rw[List.length_append];left),rfl,q _ I.fresh⟩
def Vd:R2:=λx y H Q=>∃l k xs,x=.ref l/\y=.int k/\H l=some (.lst xs) /\ -(2 ^ 63)<=k/\k<2 ^ 63/\xs.length*k.toNat<=sizeLine /\
 ∀p,H p=none->Q (.ref p) (upd H p (.lst (List.replicate k.toNat xs).flatten))
theorem len_rep{α:Type}(xs:List α)(k:Nat):(List.replicate k xs).flatten.length=k*xs.length:=by
 induction k with
 |zero=>simp
 |succ k ih=>rw[List.replicate_succ,List.flatten_cons,List.length_append,ih,Nat.succ_mul,Nat.add_comm]
theorem Ll:j7 X (binaryOp .Mult) Vd:=by
 intro pins s σ H x y v u Q I rx ry h;obtain⟨l,k,xs,rfl,rfl,hH,h1,h2,hz,q⟩:=h;cases rx;obtain⟨t,rfl⟩:=ry;obtain⟨z,aI,n,r,hl,e⟩:=I.vo hH;have hlen:aI.toArray.size*k.toNat<=sizeLine:=by rw[List.size_toArray,<- hl];exact hz
 have mY:¬ aI.toArray.size*k.toNat>(2 ^ 63 - 1) / 8:=by
  have:(sizeLine:Nat)<=(2 ^ 63 - 1) / 8:=by decide
  left
 have WG:¬ (!Builtin.List.listFitsIndex k)=true:=by
  rw[fitsIndex_both h1 h2];exact aag
 have D0:¬ Builtin.List.listTooLong (aI.toArray.size*k.toNat)=true:=by
  rw[vf hlen];exact aag
 have Ww:List.foldl (λx1 x2=>x1++x2) #[] (List.replicate (if aI.toArray.isEmpty=true then 0 else k.toNat) aI.toArray)=(List.replicate k.toNat aI).flatten.toArray:=by
  have f0:∀m:Nat,List.foldl (λx1 x2=>x1++x2) #[] (List.replicate m aI.toArray)=(List.replicate m aI).flatten.toArray:=λm=>by
   have:=foldl_rep aI m [];rw[List.nil_append]at this;exact this
  rw[f0];cases aI with
  |nil=>simp
  |cons a r'=>rw[if_neg (by simp)]
 refine wpAny_binaryOp_repeat_ref (T:="list") (U:="int") (by decide) ⟨_,e,rfl⟩ (λs'=>typeIs_int s' k t) noFill_list_mul F.fills_int_mul F.slot_int_rmul repeat_list F.slot_int_index.lookup
  (abA F.slot_int_rmul (typeIs_int s k t) F.entry_int_rmul (F.args_int_rmul_2 _ _) (int___rmul___int_list k t l aI.toArray n)
   ⟨e,rfl,⟨_,e,rfl⟩,abA F.slot_list_mul ⟨_,e,rfl⟩ F.entry_list_mul (F.args_list_mul_2 _ _) (AutoListH.list___mul___list_int_3 l aI.toArray n k t WG mY D0) ⟨e,?_⟩⟩)
 rw[Ww];exact⟨.ref _,_,I.LM (t':=s.toks) (r.rep k.toNat) (by rw[len_rep,Nat.mul_comm];exact hz),rfl,q _ I.fresh⟩
end
section
variable {prog:aF}{w:World}{A:aE}{E:az}{s:Shared}
set_option maxRecDepth 100000 in
end
section
variable {X:Cx}
end
end L2
namespace Att
open PySem PySem.W PySem.Calls PyProof.Rows
theorem mV{P:Params}{h:Heap}:∀(ns:aa) (vs:ao),WellAll P h vs (ns.map WData.int)->IntsAre vs ns:=by
 intro ns;induction ns with
 |nil =>
  intro vs w;rw[List.map_nil]at w;cases w;exact .nil
 |cons n ns ih =>
  intro vs w;rw[List.map_cons]at w;cases w with
  |cons a b =>
   cases a;exact .cons _ _ (ih _ b)
theorem Ak{l:OpenLaw}{n:Nat}(hn:l.most=some n){P:Params}{h:Heap}{args:List WData}{vals:ao}
  (Ht:l.row.toRowW.claim.pre args=true) (V9:WellAll P h vals args) :
  ∃a vs ns,vals=[Value.ref a]/\args=[WData.list (ns.map WData.int)]/\h.get? a=some { cls:=.type "list",data:=.seq vs.toArray }/\IntsAre vs ns/\ns.length<=n:=by
 have hsh:WShape.hasAll [] args [.list .int]=true:=(pre_splitW Ht).1;have hc:l.pre.holds [] { args:=args }=true:=(pre_splitW Ht).2;obtain⟨d,r,rfl,h1,h2⟩:=hasAllW_cons hsh;obtain rfl:=hasAllW_nil h2;obtain⟨xs,rfl,h3⟩:=hasW_list h1;obtain⟨ns,rfl⟩:=items_int h3;have hlen:ns.length<=n:=by
  unfold OpenLaw.pre at hc;have h4:(WTm.not (.lt (.lit (.int (n:Int))) (.len (.arg 0)))).holds [] { args:=[.list (ns.map .int)] }=true:=by
   have h4:=(holds_andW hc).1;rw[hn]at h4;exact h4
  have h5:=condW_of h4 (w_not (w_lt w_lit (w_len_list (w_arg rfl))));rw[List.length_map]at h5;refine Nat.le_of_not_lt λq=>?_;have q':(n:Int)<((ns.length:Nat):Int):=by left
  first
   | (rw[decide_eq_true q']at h5;exact absurd h5 (by decide))
   | (simp at h5;left)
 cases V9 with
 |cons w1 w2 =>
  cases w2;cases w1 with
  |list ho xH=>exact⟨_,_,ns,rfl,rfl,ho,mV ns _ xH,hlen⟩
theorem Ar(l:OpenLaw)(args:List WData):l.row.toRowW.claim.post args (.bool true) args=true :=
 postW_of (r:=l.row.toRowW) (X:=(true==true))
  (show WShape.has [] (.bool true) .bool=true by first|rfl|decide|simp[WShape.has,WShape.arms,WShape.armsAll])
  (show(WTm.eq .res (.lit (.bool true))).value [] { args:=args,res:=some (.bool true),after:=args }=some (.bool (true==true)) from w_eq_bool (w_res rfl) w_lit) rfl
theorem wc{l:OpenLaw}{n:Nat}{q:aF}{loose:au}{XP:(a_)->Heap->Prop}{YP:World->Heap->Prop}{d:DefRec}
  (hn:l.most=some n) (Q8:d.params.defaults=[])
  (call:∀(w:World) (s₀ s₁:Shared) (mg mb:a_) (fa:Addr) (o:Obj) (pm cd doc:Value) (a:Addr) (vs:ao) (ns:aa),
   Ground q loose [] XP w s₀ mg mb s₁.heap->YP w s₁.heap ->
   s₁.heap.get? fa=some o->o.data=.func (docDef d.name d.params d.body d.scope pm cd doc)->s₁.heap.CodeRec cd d.name->mg d.name=some (.ref fa) ->
   s₁.heap.get? a=some { cls:=.type "list",data:=.seq vs.toArray }->IntsAre vs ns->ns.length<=n->s₁.gens = #[] ->
   codeAny (model l.prog w) callerA (.call (.ref fa) ⟨[.ref a],[]⟩) (λr s'=>r=.ok (.ret (.bool true))/\OldK s₁.heap s'.heap/\s'.os=s₁.os/\AllBare s'.gens) s₁) :
  WalkO q loose XP YP l.row.toRowW d [] (λf vs=>PySem.call f vs):=by
 intro w s₀ s₁ mg mb G Y fa o pm cd doc dV kV ho hd Ea hD hmg hg args vals as Ht abn hrd V9 hlo;obtain rfl:dV=.none:=Dflts.none hD Q8;obtain rfl:kV=.none:=Dflts.noKw hD;obtain⟨a,vs,ns,rfl,rfl,Mh,hints,hlen⟩:=Ak hn Ht V9;refine enter_call (ab3 (call w s₀ s₁ mg mb fa o pm cd doc a vs ns G Y ho (fd_plain hd) Ea hmg Mh hints hlen hg) λr s' hq=>?_);obtain⟨rfl,h2,h3,h4⟩:=hq;exact⟨.inl ⟨.bool true,.bool true,[],rfl,λ_=>rfl,.bool true,Ar l _,λ_=>⟨List.Pairwise.nil,λ_ hm=>(nomatch hm)⟩⟩,h2,h3,h4⟩
section
variable {prog:aF}{w:World}{A:aE}{E:az}{s:Shared}{K:Frag}
end
end Att
namespace L2
open PySem PySem.Spec PyProof.Rows
theorem lG:∀{vs:ao} {ns:aa},IntsAre vs ns->Vals (ns.map V.int) vs
 |_,_,.nil=>.nil
 |_,_,.cons n t h=>.cons ⟨t,rfl⟩ (lG h)
def Iz(H:Hp):Prop:=∀b,H b=none\/∃o xs,H b=some (.iI o (.lst xs))
theorem DD{P:aF}{w:World}{K:aq}{mg mb:a_}{CX:Bz}{k:Nat}{fa a:Addr}{fd:FuncData}{x:Str}{sp:Sp}{s₁:Shared}{vs:ao}{ns:aa}
  (KX:K.In s₁.heap) (Bt:s₁.heap.Ns mainGlobals mg) (hb:s₁.heap.Ns builtinsNs mb) (hbb:∀x:Str,x ≠ "__name__" -> mb x=bootBuiltins x) (WA:s₁.heap.NoLimit) (hg:s₁.gens = #[])
  (ha:s₁.heap.get? a=some { cls:=.type "list",data:=.seq vs.toArray }) (hi:IntsAre vs ns) (hl:ns.length<=sizeLine) (hr:gm k callerA)
  (F:∀base:Heap,K.In base->base.Ns mainGlobals mg->jK P w K mg base CX k fa fd [x] sp) (Rf:∀(s:Shared) (u:Value),BindsTo s fd ⟨[u],[]⟩ [(x,u)])
  (Fx:∀H:Hp,Iz H->dg K H a (ns.map V.int)->sp [.ref a] H (λv _=>v=.bl true) λ_ _ _=>False)
  (WT:∀H e s',CX [] H s₁ (λ_ _ _=>False) e s'->False) :
  codeAny (model P w) callerA (.call (.ref fa) ⟨[.ref a],[]⟩) (λr s'=>r=.ok (.ret (.bool true))/\OldK s₁.heap s'.heap/\s'.os=s₁.os/\AllBare s'.gens) s₁:=by
 have rv:=lG hi;have VI:=hi.length;have core:∀H:Hp,Iz H->dg K H a (ns.map V.int)->mh P w H s₁.heap->(∀b,H b≠none->b=a)->(H a≠none->K.lookup a=none) ->
   codeAny (model P w) callerA (.call (.ref fa) ⟨[.ref a],[]⟩) (λr s'=>r=.ok (.ret (.bool true))/\OldK s₁.heap s'.heap/\s'.os=s₁.os/\AllBare s'.gens) s₁:=by
  intro H hO hS cV hA hK;have zW:∀{b:Addr} {o:Obj},s₁.heap.get? b=some o->H b=none->(sN s₁.heap H).get? b=some o:=λe n=>D8 e n;have P_:∀{b:Addr} {o:Obj} {es:Array DictEntry} {ep:Nat},s₁.heap.get? b=some o->o.data=.dict es ep->H b=none:=λ{b o es ep} e d=>by
   cases q:H b with
   |none=>rfl
   |some u =>
    have e':b=a:=hA b (by rw[q];simp);subst e';rw[ha]at e;cases e;have d':Data.seq vs.toArray _=Data.dict es ep:=d;cases d'
  have Th:∀{b:Addr} {m:a_},s₁.heap.Ns b m->(sN s₁.heap H).Ns b m:=λ{b m} ⟨o,es,ep,e,d,r⟩=>⟨o,es,ep,zW e (P_ e d),d,r⟩
  have Zc:K.In (sN s₁.heap H):=λb o e=>zW (KX b o e) (by
   cases q:H b with
   |none=>rfl
   |some u =>
    have e':b=a:=hA b (by rw[q];simp);subst e';rw[hK (by rw[q];simp)]at e;cases e)
  have hM:Mod K mg (sN s₁.heap H):=⟨Zc,Th Bt,⟨mb,Th hb,hbb⟩,let ⟨mc,h1,h2⟩:=WA;⟨mc,Th h1,h2⟩⟩
  have e0:IC P w K mg (sN s₁.heap H) callerA [] s₁ H:=⟨rfl,hM,λb o e=>G8 e,Nat.le_of_eq (AQ _ _),trivial,λb hb=>absurd (show b∈([]:aO) from hb) (by simp),cV,.of_eq hg⟩
  refine ab3 ((F _ Zc (Th Bt)).run callerA [] s₁ H ⟨[.ref a],[]⟩ [.ref a] [.ref a] _ _ hr e0 (Rf s₁ (.ref a)) (.cons rfl .nil) (Fx H hO hS)) λr s' h=>?_;cases r with
  |error e=>exact(WT H e s' h).elim
  |ok fl =>
   cases fl with
   |next=>exact False.elim h
   |brk=>exact False.elim h
   |cont=>exact False.elim h
   |ret u =>
    obtain⟨v,H',os,bare,un,Wo,r',q⟩:=h;have q':v=.bl true:=q;subst q';obtain rfl:u=Value.bool true:=r';refine⟨rfl,OldK.of_keep λb o e=>?_,os,bare⟩;cases q:H b with
    |none=>exact un.keep b o e q (by intro z;exact absurd (show b∈([]:aO) from z) (by simp)) (by simp)
    |some u =>
     rcases hO b with z|⟨ob,xs,z⟩
     ·rw[q]at z;cases z
     ·have z2:=un.qp b ob _ z;obtain⟨e1,_⟩:=cV b _ z;obtain⟨e2,_⟩:=Wo b _ z2;rw[e]at e1;cases e1;exact e2
 cases hk:K.lookup a with
 |some o =>
  have e:=KX a o hk;rw[ha]at e;cases e;refine core (λ_=>none) (λ_=>.inl rfl) (.inr ⟨_,vs.toArray,_,hk,rfl,rfl,rfl,by rw[List.size_toArray,VI];exact hl,by simpa using rv⟩) (λb u z=>by have z':(none:Option HO)=some u:=z;cases z') (λb z=>absurd rfl z) λz=>absurd rfl z
 |none =>
  refine core (λb=>if b=a then some (.iI { cls:=.type "list",data:=.seq vs.toArray } (.lst (ns.map V.int)))else none) (λb=>?_) (.inl (.inr ⟨{ cls:=.type "list",data:=.seq vs.toArray },aa0 rfl⟩)) (λb u z=>?_) (λb z=>?_) λ_=>hk
  ·by_cases hb:b=a
   ·exact .inr ⟨_,_,aa0 hb⟩
   ·exact .inl (ack hb)
  ·by_cases hb:b=a
   ·have z':=(aa0 hb).symm.trans z;cases z';subst hb;exact⟨ha,by rw[List.length_map];exact hl,vs,_,rv,ha⟩
   ·have z':=(ack hb).symm.trans z;cases z'
  ·by_cases hb:b=a
   ·exact hb
   ·exact absurd (ack hb) z
end L2
namespace L2
open PySem PySem.Spec PyProof.Rows
theorem FT{l:PySem.W.OpenLaw}{n k:Nat}{q:aF}{loose:au}{XP:(a_)->Heap->Prop}{YP:World->Heap->Prop}{d:DefRec}{K:Params->aq}{CX:World->Bz}{sp:World->Sp}{x:Str}
  (hn:l.most=some n) (Ob:n<=sizeLine) (Q8:d.params.defaults=[]) (hr:gm k callerA)
  (hY:∀(w:World) (h:Heap),YP w h->(K w.params).In h)
  (F:∀(w:World) (mg:a_) (fa:Addr) (h:Heap),(K w.params).In h->h.Ns mainGlobals mg->mg d.name=some (.ref fa) ->
   ∃fd:FuncData,(∀(s:Shared) (u:Value),BindsTo s fd ⟨[u],[]⟩ [(x,u)]) /\
    ∀base:Heap,(K w.params).In base->base.Ns mainGlobals mg->jK l.prog w (K w.params) mg base (CX w) k fa fd [x] (sp w))
  (Fx:∀(w:World) (H:Hp) (a:Addr) (ns:aa),ns.length<=n->Iz H->dg (K w.params) H a (ns.map V.int)->sp w [.ref a] H (λv _=>v=.bl true) λ_ _ _=>False)
  (WT:∀(w:World) (H:Hp) (s:Shared) (e:Value) (s':Shared),CX w [] H s (λ_ _ _=>False) e s'->False) :
  PySem.W.WalkO q loose XP YP l.row.toRowW d [] (λf vs=>PySem.call f vs):=by
 refine Att.wc hn Q8 λw s₀ s₁ mg mb fa o pm cd doc a vs ns G Y ho hd Ea hmg Mh hints hlen hg=>?_;have KX:=hY w _ Y;obtain⟨fd,hb,hF⟩:=F w mg fa _ KX G.T.g hmg;exact DD KX G.T.g G.T.b G.T.builtins G.T.nolimit hg Mh hints (aau hlen Ob) hr hF hb (λH hO hS=>Fx w H a ns hlen hO hS) λH e s'=>WT w H s₁ e s'
end L2
namespace L2
open PySem PySem.Spec PyProof.Rows
noncomputable def fX(s:Stmt):Arguments:=match s with
 |.FunctionDef _ a _ _ _ _ _ _ _ _=>a
 |_=>{ posonlyargs:=[],args:=[],vararg:=none,kwonlyargs:=[],kw_defaults:=[],kwarg:=none,defaults:=[] }
noncomputable def dA(s:Stmt):bq:=match s with
 |.FunctionDef _ _ b _ _ _ _ _ _ _=>b
 |_=>[]
noncomputable def bL(s:Stmt):Scope:=match s with
 |.FunctionDef _ _ _ _ _ _ sc _ _ _=>sc
 |_=>{ kind:=.function,names:=[],isGenerator:=false,isCoroutine:=false }
noncomputable abbrev BA:Bz:=λ_ _ _ _ _ _=>False
noncomputable abbrev E0:XK:=λ_ _ _=>False
theorem PV{X:Cx}:Passes BA X E0:=λ_ _ _ _ _ _ _ h=>h.elim
structure IB(K:aq)(x qual:Str)(st:Stmt)(f:Addr)(fd:FuncData):Prop where
 ex:∃(oc:Value) (od:Option Addr) (kV doc pm:Value) (an:Option Addr) (jP ct:Value) (Fs:Array (Option Value)),
  fd=PySem.W.fnOf x qual (fX st) (dA st) (bL st) .none kV doc pm an jP ct/\K.lookup f=some ⟨oc,od,.func fd,Fs⟩/\PySem.W.codeIn K jP qual=true
 kp:PySem.W.keepIn K (.ref f)=true
variable {ps:au}{qual:Str}{st:Stmt}
section
variable {P:aF}{w:World}{K:aq}{mg:a_}{base:Heap}
theorem IB.ok{x:Str}{f:Addr}{fd:FuncData}{N:au}{k:Nat}{sp:Sp}(F:IB K x qual st f fd)(S:jF N ps (bL st))(len:∀vs H Q E,sp vs H Q E->vs.length=ps.length)
  (Eb:∀(jP:Value) (A:aE) (outer:List Env) (s:Shared) (H:Hp) (vs:ae) (Q:VK) (E:XK),gm k (A.deeper (envOfC qual (bL st) s.heap.objs.size f jP))->sp vs H Q E ->
   ∃t,nV (xR BA P w K mg base N qual (bL st) f jP A outer s H E).P7 (dA st) t/\t { nx:=λ_ H'=>Q .cg H',rt:=Q } (start N vs) H):jK P w K mg base BA (k+1) f fd ps sp:=by
 obtain⟨oc,od,kV,doc,pm,an,jP,ct,Fs,rfl,lk,Ea⟩:=F.ex;refine RJ lk Ea S len λA outer s H vs Q E hr Fx=>?_;obtain⟨t,h,q⟩:=Eb jP A outer s H vs Q E hr Fx;exact⟨t,h.P7,q⟩
theorem IB.binds{x:Str}{f:Addr}{fd:FuncData}(F:IB K x qual st f fd)
  (h:∀(kV doc pm:Value) (an:Option Addr) (jP ct:Value) (us:ao),us.length=ps.length->bindArgs (PySem.W.fnOf x qual (fX st) (dA st) (bL st) .none kV doc pm an jP ct) ⟨us,[]⟩=pure (ps.zip us)):Binds K fd ps []:=by
 obtain⟨oc,od,kV,doc,pm,an,jP,ct,Fs,rfl,lk,Ea⟩:=F.ex;exact .all (h kV doc pm an jP ct)
theorem MM{x:Str}{f:Addr}{oc:Value}{od an:Option Addr}{Fs:Array (Option Value)}{kV doc pm jP ct:Value}(l:K.lookup f=some ⟨oc,od,.func (PySem.W.fnOf x qual (fX st) (dA st) (bL st) .none kV doc pm an jP ct),Fs⟩)
  (c:PySem.W.codeIn K jP qual=true) (k:PySem.W.keepIn K (.ref f)=true):IB K x qual st f (PySem.W.fnOf x qual (fX st) (dA st) (bL st) .none kV doc pm an jP ct):=⟨⟨oc,od,kV,doc,pm,an,jP,ct,Fs,rfl,l,c⟩,k⟩
end
theorem DU{A:aE}{k:Nat}(hr:gm k A):A.units+1<cLine:=aas (acf (by decide:1<=64) _) hr.units
section
variable {X:Cx}
end
def aJ(H H':Hp):Prop:=∀b o,H b=some o->H' b=some o
theorem aJ.refl(H:Hp):aJ H H:=λ_ _ h=>h
variable {H H':Hp}
theorem aJ.trans{H1 H2:Hp}(a:aJ H H1)(b:aJ H1 H2):aJ H H2:=λc o h=>b c o (a c o h)
theorem aJ.free(e:aJ H H'){l:Addr}(h:H' l=Option.none):H l=Option.none:=by
 cases q:H l with
 |none=>rfl
 |some o =>
  rw[e l o q]at h;cases h
theorem aJ.seq{K:aq}{a:Addr}{xs:ae}(e:aJ H H')(h:dg K H a xs):dg K H' a xs:=by
 rcases h with (h|⟨o,h⟩)|h
 ·exact .inl (.inl (e _ _ h))
 ·exact .inl (.inr ⟨o,e _ _ h⟩)
 ·exact .inr h
end L2
set_option autoImplicit false
set_option linter.all false
set_option Elab.async false
set_option maxRecDepth 100000
set_option maxHeartbeats 4000000
section
namespace DI
open PySem (Str Expr Stmt Scope NameKind)
inductive Fl where|ow|fz|al|sc
 deriving DecidableEq
inductive D where
 |cg|bl (b:Bool)|int (i:Int)
 |tup (ds:List D)
 |lst (f:Fl) (ds:List D)
 |dy (f:Fl) (ks:af) (vs:List D)
 |dY (f:Fl) (ks:af) (vs:List D)
abbrev aC:=Option D
abbrev ab:=List D
mutual
noncomputable def aS(g:Fl->Fl):D->D
 |.tup ds=>.tup (aA g ds)
 |.lst f ds=>.lst (g f) (aA g ds)
 |.dy f ks vs=>.dy (g f) ks (aA g vs)
 |.dY f ks vs=>.dY (g f) ks (aA g vs)
 |.cg=>.cg
 |.bl b=>.bl b
 |.int i=>.int i
noncomputable def aA(g:Fl->Fl):ab->ab
 |[]=>[]
 |d::ds=>aS g d::aA g ds
end
theorem aQ(g:Fl->Fl):∀ds:ab,aA g ds=ds.map (aS g)
 |[]=>rfl
 |d::ds=>by rw[aA,aQ g ds];rfl
noncomputable def bo:Fl->Fl|.ow=>.al|f=>f
noncomputable def l5:Fl->Fl|.fz=>.al|f=>f
noncomputable def aW:Fl->Fl|.sc=>.sc|_=>.fz
noncomputable def xy:Fl->Bool|.sc=>true|_=>false
mutual
noncomputable def aR(p:Fl->Bool):D->Bool
 |.tup ds=>aM p ds
 |.lst f ds=>p f||aM p ds
 |.dy f ks vs=>p f||aM p vs
 |.dY f ks vs=>p f||aM p vs
 |_=>false
noncomputable def aM(p:Fl->Bool):ab->Bool
 |[]=>false
 |d::ds=>aR p d||aM p ds
end
noncomputable def bF:Fl->Bool|.al=>true|_=>false
noncomputable def cK:Fl->Bool|.ow=>true|_=>false
noncomputable def anyF:Fl->Bool:=λ_=>true
mutual
noncomputable def mF:D->D->Bool
 |.cg,.cg=>true
 |.bl a,.bl b=>a==b
 |.bl a,.int b=>(if a then 1 else 0)==b
 |.int a,.bl b=>a==(if b then 1 else 0)
 |.int a,.int b=>a==b
 |.tup a,.tup b=>fj a b
 |.lst _ a,.lst _ b=>fj a b
 |_,_=>false
noncomputable def fj:ab->ab->Bool
 |[],[]=>true
 |a::as,b::bs=>mF a b&&fj as bs
 |_,_=>false
end
noncomputable def cR:Nat->D->Bool
 |_,.cg=>true
 |_,.bl _=>true
 |_,.int _=>true
 |n+1,.tup ds=>ds.all (cR n)
 |n+1,.lst _ ds=>ds.all (cR n)
 |_,_=>false
noncomputable abbrev O(α:Type):=Option (Except Nat α)
abbrev av:=ab->O D
noncomputable def ok{α:Type}(a:α):O α:=some (.ok a)
noncomputable def bd{α β:Type}(x:O α)(f:α->O β):O β:=match x with
 |some (.ok a)=>f a
 |some (.error c)=>some (.error c)
 |none=>none
@[simp]theorem Tj{α:Type}{a:α}:((none:O α)=ok a)=False:=by simp[ok]
@[simp]theorem Vz{α:Type}{a b:α}:(ok a=ok b)=(a=b):=by simp[ok]
@[simp]theorem Xi{α:Type}{a:α}{c:Nat}:((some (.error c):O α)=ok a)=False:=by simp[ok]
@[simp]theorem Jq{α:Type}{p:Prop}[Decidable p]{a b:α}:((if p then ok a else none)=ok b)=(p/\a=b):=by
 by_cases h:p<;>simp[h]
@[simp]theorem V2{α:Type}{p:Prop}[Decidable p]{a b:α}:((if p then none else ok a)=ok b)=(¬ p/\a=b):=by
 by_cases h:p<;>simp[h]
theorem nk{α:Type}{a:α}{P:Prop}(h:(none:Option α)=some a):P:=nomatch h
theorem aG{α β:Type}{x:O α}{f:α->O β}{b:β}(h:bd x f=ok b):∃a,x=ok a/\f a=ok b:=by
 unfold bd at h
 match x,h with
 |some (.ok a),h=>exact⟨a,rfl,h⟩
 |some (.error c),h=>cases h
 |none,h=>cases h
inductive ID where|add|sub|mul|fdiv|mod|pow|shr|band
 deriving DecidableEq
inductive BB where|eq|ne|lt|le|gt|ge|wA|Ly
 deriving DecidableEq
inductive Ty where|int|bool|list|tuple
 deriving DecidableEq
inductive Bf where|len|abs|vy|list1|tuple1|gS|all1|cY
 deriving DecidableEq
inductive Tg where|nm(i:Nat)|tp(is:aN)
 deriving DecidableEq
inductive IK where|lz|seq|cz(p:Nat)
 deriving DecidableEq
inductive GK where|i(z:Int)|t(zs:aa)
 deriving DecidableEq
inductive CE where
 |cg|bl (b:Bool)|int (i:Int)|glo (x:Str) (i:Int)|glt (x:Str) (zs:aa)
 |v (i:Nat)
 |bin (op:ID) (a b:CE)
 |neg (a:CE)|not (a:CE)|and (es:List CE)|or (es:List CE)
 |cmp (op:BB) (a b:CE)
 |qW (a:CE) (t:Ty)
 |call (f:Nat) (es:List CE)
 |bf (f:Bf) (es:List CE)
 |ix (a b:CE)
 |jV (a:CE)
 |tup (es:List CE)|lst (es:List CE)
 |cz (p:Nat) (es:List CE)
 |comp (n:Nat) (t:Tg) (caps:aN) (ik:IK) (es bN:List CE) (elt:CE)
abbrev aD:=List CE
inductive CI where|lz(a:CE)|seq(a:CE)|qN(p:Nat)(es:aD)
inductive CS where
 |asg (t:Tg) (e:CE)|par (i j:Nat) (a b:CE)|ret (e:CE)|rs (c:Nat)|ex (e:CE)
 |mut (p i:Nat) (es:aD)|mu2 (p i:Nat) (k e:CE)|app (i:Nat) (e:CE)|aug (i:Nat) (op:Bool) (e:CE)
 |ifs (c:CE) (a b:List CS)
 |J4 (c:CE) (b:List CS)
 |fr (t:Tg) (it:CI) (b:List CS)
abbrev ah:=List CS
noncomputable abbrev bc:=List (aC)
noncomputable abbrev aT:=Nat->av
noncomputable def big:Nat:=2 ^ 9000
def eN(i j:Int):Bool:=decide (i.natAbs<2 ^ 64)||decide (j.natAbs<2 ^ 64)||(decide (i.natAbs<big)&&decide (j.natAbs<big))
def rq(j:Int):Bool:=decide (j≠0)&&decide (j.natAbs<big)
noncomputable def yJ(i j:Int):Bool:=decide (0<=j)&&decide (j<=1000000)&&decide (i.natAbs<2 ^ 64)
noncomputable def cP:Nat:=1000000
theorem o7{α:Type}{c:Prop}[inst:Decidable c]{v d:α}(h:(if c then ok v else none)=ok d):c/\v=d:=by
 cases inst with
 |isTrue hc=>exact⟨hc,Except.ok.inj (aat h)⟩
 |isFalse hc=>cases h
def cX:ID->D->D->O D
 |.add,.int i,.int j=>ok (.int (i+j))
 |.add,.lst f a,.lst g b=>if xy f=false/\xy g=false/\a.length+b.length<=cP then ok (.lst .ow (aA bo (a++b)))else none
 |.add,.tup a,.tup b=>if a.length+b.length<=cP then ok (.tup (aA bo (a++b)))else none
 |.sub,.int i,.int j=>ok (.int (i - j))
 |.mul,.int i,.int j=>if eN i j then ok (.int (i*j))else none
 |.mul,.lst f a,.int k=>if xy f=false/\a.length*k.toNat<=cP/\k<=cP /\ -cP<=k then ok (.lst .ow (aA bo (List.replicate k.toNat a).flatten))else none
 |.fdiv,.int i,.int j=>if rq j then ok (.int (i.fdiv j))else none
 |.mod,.int i,.int j=>if j≠0 then ok (.int (i.fmod j))else none
 |.pow,.int i,.int j=>if yJ i j then ok (.int (i ^ j.toNat))else none
 |.shr,.int i,.int j=>if 0<=j then ok (.int (i / 2 ^ j.toNat))else none
 |.band,.int i,.int j=>if j=1 then ok (.int (i % 2))else none
 |_,_,_=>none
def inD(x:D):ab->Bool
 |[]=>false
 |y::ys=>mF y x||inD x ys
noncomputable def iA:D->Bool
 |.cg=>true|.bl _=>true|.int _=>true|_=>false
noncomputable def DJ:D->Option (ab)
 |.tup ds=>some ds
 |.lst _ ds=>some ds
 |_=>none
def fm:BB->D->D->O D
 |.eq,a,b=>if cR 40 a&&cR 40 b then ok (.bl (mF a b))else none
 |.ne,a,b=>if cR 40 a&&cR 40 b then ok (.bl (!mF a b))else none
 |.lt,.int i,.int j=>ok (.bl (decide (i<j)))
 |.le,.int i,.int j=>ok (.bl (decide (i<=j)))
 |.gt,.int i,.int j=>ok (.bl (decide (j<i)))
 |.ge,.int i,.int j=>ok (.bl (decide (j<=i)))
 |.wA,a,b=>match DJ b with
  |some ds=>if iA a&&ds.all iA then ok (.bl (inD a ds))else none
  |none=>none
 |.Ly,a,b=>match DJ b with
  |some ds=>if iA a&&ds.all iA then ok (.bl (!inD a ds))else none
  |none=>none
 |_,_,_=>none
noncomputable def dv:Ty->D->Bool
 |.int,.int _=>true|.int,.bl _=>true
 |.bool,.bl _=>true
 |.list,.lst _ _=>true
 |.tuple,.tup _=>true
 |_,_=>false
noncomputable def Bs(n:Nat)(i:Int):Option Nat:=if 0<=i then(if i<n then some i.toNat else none)else if -(n:Int)<=i then some (i+n).toNat else none
def tJ(ds:ab)(i:Int):O D:=match(Bs ds.length i).bind λj=>ds[j]? with
 |some d=>ok (aS bo d)
 |none=>none
def AE:D->D->O D
 |.tup ds,.int i=>tJ ds i
 |.lst _ ds,.int i=>tJ ds i
 |_,_=>none
noncomputable def intsOf:ab->Option (aa)
 |[]=>some []
 |.int i::ds=>(intsOf ds).map (i :: ·)
 |_::_=>none
noncomputable def i_:ab->Option (List Bool)
 |[]=>some []
 |.bl i::ds=>(i_ ds).map (i :: ·)
 |_::_=>none
theorem dP:∀{ds:ab} {ns:aa},intsOf ds=some ns->ds=ns.map D.int
 |[],ns,h=>by simp[intsOf]at h;subst h;rfl
 |d::ds,ns,h=>by
  cases d<;>simp[intsOf]at h;obtain⟨ms,h1,rfl⟩:=h;rw[dP h1];rfl
theorem wa:∀{ds:ab} {bs:List Bool},i_ ds=some bs->ds=bs.map D.bl
 |[],bs,h=>by simp[i_]at h;subst h;rfl
 |d::ds,bs,h=>by
  cases d<;>simp[i_]at h;obtain⟨ms,h1,rfl⟩:=h;rw[wa h1];rfl
theorem bD:∀ns:aa,intsOf (ns.map D.int)=some ns
 |[]=>rfl
 |n::ns=>by simp[intsOf,bD ns]
theorem mf:∀bs:List Bool,i_ (bs.map D.bl)=some bs
 |[]=>rfl
 |b::bs=>by simp[i_,mf bs]
noncomputable def sortI(ns:aa):aa:=ns.mergeSort (λa b=>decide (a<=b))
def qI(ds:ab):O D:=match intsOf ds with
 |some ns=>if ns.length<64 then ok (.lst .ow ((sortI ns).map D.int))else none
 |none=>none
def m8:Bf->av
 |.len,xs=>match xs with
  |[.tup ds]=>ok (.int ds.length)
  |[.lst _ ds]=>ok (.int ds.length)
  |_=>none
 |.abs,xs=>match xs with
  |[.int i]=>ok (.int (if i<0 then -i else i))
  |_=>none
 |.vy,xs=>match xs with
  |[.int i]=>ok (.int i)
  |[.bl b]=>ok (.int (if b then 1 else 0))
  |_=>none
 |.list1,xs=>match xs with
  |[.lst _ ds]=>ok (.lst .ow (aA bo ds))
  |[.tup ds]=>ok (.lst .ow (aA bo ds))
  |_=>none
 |.tuple1,xs=>match xs with
  |[.lst _ ds]=>ok (.tup (aA bo ds))
  |[.tup ds]=>ok (.tup (aA bo ds))
  |_=>none
 |.gS,xs=>match xs with
  |[.lst _ ds]=>(match intsOf ds with
   |some ns=>ok (.int ns.sum)
   |none=>none)
  |_=>none
 |.all1,xs=>match xs with
  |[.lst _ ds]=>(match i_ ds with
   |some bs=>ok (.bl (bs.all id))
   |none=>none)
  |_=>none
 |.cY,xs=>match xs with
  |[.lst _ ds]=>qI ds
  |[.tup ds]=>qI ds
  |_=>none
noncomputable def sZ(ns:aa):aa:=ns.foldl (λ(m:aa) (k:Int)=>if m.any (· == k)then m else m++[k]) []
def y6:D->O D
 |.tup ds=>(match intsOf ds with
  |some ns=>if ns.length<4000 then ok (.int (sZ ns).length)else none
  |none=>none)
 |_=>none
noncomputable def iE:D->O Bool
 |.bl b=>ok b
 |_=>none
noncomputable def intD:D->O Int
 |.int i=>ok i
 |_=>none
noncomputable def C4:Option (aC)->Option (ab)
 |some (some (.lst .ow ds))=>some ds
 |_=>none
theorem GX{o:Option (aC)}{ds:ab}(h:C4 o=some ds):o=some (some (.lst .ow ds)):=by
 unfold C4 at h;split at h<;>cases h;rfl
theorem Hq{d:D}{i:Int}(h:intD d=ok i):d=.int i:=by
 cases d<;>simp[intD]at h;rw[h]
noncomputable def Hc:D->O D
 |.int i=>ok (.int (-i))
 |_=>none
def iz:aN->ab->bc->O bc
 |[],[],ρ=>ok ρ
 |i::is,d::ds,ρ=>if i<ρ.length then iz is ds (ρ.set i (some d))else none
 |_,_,_=>none
def b8:Tg->D->bc->O bc
 |.nm i,d,ρ=>if i<ρ.length then ok (ρ.set i (some d))else none
 |.tp is,.tup ds,ρ=>if aM cK ds then none else iz is ds ρ
 |_,_,_=>none
def kH:D->O (ab)
 |.lst _ ds=>ok (aA aW ds)
 |_=>none
def dI(Φ:aT):IK->ab->O (ab)
 |.cz p,xs=>bd (Φ p xs) kH
 |.lz,[.int n]=>if n<=cP /\ -cP<=n then ok ((List.range n.toNat).map λ(k:Nat)=>D.int (k:Int))else none
 |.seq,[.tup ds]=>ok (aA aW ds)
 |.seq,[.lst _ ds]=>ok (aA aW ds)
 |_,_=>none
def iC(bind:D->O bc)(test:bc->O Bool)(el:bc->O D):ab->O (ab)
 |[]=>ok []
 |x::xs=>bd (bind x) λρ=>bd (test ρ) λb=>if b then bd (el ρ) λy=>bd (iC bind test el xs) λys=>ok (y::ys)else iC bind test el xs
def bG(n:Nat)(caps:aN)(ρ:bc):bc:=List.replicate n none++caps.map λi=>(ρ[i]?.getD none).map (aS aW)
def yx(o:Option (aC)):O D:=match o with
 |some (some d)=>ok (aS bo d)
 |_=>none
theorem Cf{o:Option (aC)}{d:D}(h:yx o=ok d):∃d',o=some (some d')/\d=aS bo d':=by
 cases o with
 |none=>cases h
 |some z=>cases z with
  |none=>cases h
  |some z=>cases h;exact⟨z,rfl,rfl⟩
mutual
noncomputable def bp(Φ:aT):CE->bc->O D
 |.cg,_=>ok .cg
 |.bl b,_=>ok (.bl b)
 |.int i,_=>ok (.int i)
 |.glo _ i,_=>ok (.int i)
 |.glt _ zs,_=>ok (.tup (zs.map D.int))
 |.v i,ρ=>yx ρ[i]?
 |.bin op a b,ρ=>bd (bp Φ a ρ) λx=>bd (bp Φ b ρ) λy=>cX op x y
 |.neg a,ρ=>bd (bp Φ a ρ) Hc
 |.not a,ρ=>bd (bd (bp Φ a ρ) iE) λb=>ok (.bl (!b))
 |.and es,ρ=>rm Φ es ρ
 |.or es,ρ=>A5 Φ es ρ
 |.cmp op a b,ρ=>bd (bp Φ a ρ) λx=>bd (bp Φ b ρ) λy=>fm op x y
 |.qW a t,ρ=>bd (bp Φ a ρ) λx=>ok (.bl (dv t x))
 |.call f es,ρ=>bd (b9 Φ es ρ) λxs=>bd (Φ f (aA aW xs)) λr=>ok (aS l5 r)
 |.bf f es,ρ=>bd (b9 Φ es ρ) λxs=>m8 f xs
 |.ix a b,ρ=>bd (bp Φ a ρ) λx=>bd (bp Φ b ρ) λy=>AE x y
 |.jV a,ρ=>bd (bp Φ a ρ) λx=>y6 x
 |.cz p es,ρ=>bd (b9 Φ es ρ) λxs=>Φ p xs
 |.tup es,ρ=>bd (b9 Φ es ρ) λxs=>ok (.tup xs)
 |.lst es,ρ=>bd (b9 Φ es ρ) λxs=>ok (.lst .ow xs)
 |.comp n t caps ik es bN elt,ρ=>bd (b9 Φ es ρ) λxs=>bd (dI Φ ik xs) λitems =>
   bd (iC (λd=>b8 t d (bG n caps ρ)) (λρ'=>iB Φ bN ρ') (λρ'=>bp Φ elt ρ') items) λds=>if ds.length<=cP then ok (.lst .ow (aA l5 ds))else none
noncomputable def b9(Φ:aT):aD->bc->O (ab)
 |[],_=>ok []
 |e::es,ρ=>bd (bp Φ e ρ) λx=>bd (b9 Φ es ρ) λxs=>ok (x::xs)
noncomputable def iB(Φ:aT):aD->bc->O Bool
 |[],_=>ok true
 |e::es,ρ=>bd (bd (bp Φ e ρ) iE) λb=>if b then iB Φ es ρ else ok false
noncomputable def rm(Φ:aT):aD->bc->O D
 |[],_=>none
 |e::es,ρ=>bd (bd (bp Φ e ρ) iE) λc=>match es with
  |[]=>ok (.bl c)
  |_::_=>if c then rm Φ es ρ else ok (.bl false)
noncomputable def A5(Φ:aT):aD->bc->O D
 |[],_=>none
 |e::es,ρ=>bd (bd (bp Φ e ρ) iE) λc=>match es with
  |[]=>ok (.bl c)
  |_::_=>if c then ok (.bl true)else A5 Φ es ρ
end
def A4(Φ:aT)(e:CE)(ρ:bc):O Bool:=bd (bp Φ e ρ) iE
inductive Fo where|nx|rt(d:D)|bk|ct
noncomputable def cU{α β:Type}(n:Nat)(step:α->O (α ⊕ β))(a:α):O β:=match n with
 |0=>none
 |n+1=>bd (step a) λr=>match r with
  |.inl a'=>cU n step a'
  |.inr b=>ok b
open Classical in
noncomputable def fF{α β:Type}(step:α->O (α ⊕ β))(a:α):O β :=
 if h:∃n,cU n step a≠none then cU (Classical.choose h) step a else none
theorem iZ{α β:Type}(step:α->O (α ⊕ β)):∀(n m:Nat) (a:α),n<=m->cU n step a≠none->cU m step a=cU n step a
 |0,_,_,_,h=>absurd rfl h
 |n+1,0,_,hl,_=>by left
 |n+1,m+1,a,hl,h=>by
  unfold cU at h ⊢
  match hs:step a with
  |none=>rw[hs]at h;exact absurd rfl h
  |some (.error c)=>rfl
  |some (.ok (.inr b))=>rfl
  |some (.ok (.inl a')) =>
   rw[hs]at h;exact iZ step n m a' (by left) h
theorem lF{α β:Type}{step:α->O (α ⊕ β)}{a:α}{n:Nat}{r:Except Nat β}(h:cU n step a=some r):fF step a=some r:=by
 have hx:∃n,cU n step a≠none:=⟨n,by rw[h];simp⟩
 unfold fF;rw[dif_pos hx];have hc:=Classical.choose_spec hx;rcases Nat.le_total n (Classical.choose hx)with hl|hl
 ·rw[iZ step _ _ a hl (by rw[h];simp),h]
 ·rw[<- iZ step _ _ a hl hc,h]
theorem lW{α β:Type}{step:α->O (α ⊕ β)}{a:α}{r:Except Nat β}(h:fF step a=some r):∃n,cU n step a=some r:=by
 unfold fF at h;split at h
 ·exact⟨_,h⟩
 ·cases h
theorem n5{α β:Type}{step:α->O (α ⊕ β)}{a a':α}(h:step a=ok (.inl a')):fF step a=fF step a':=by
 match hr:fF step a' with
 |some r =>
  obtain⟨n,hn⟩:=lW hr;refine lF (n:=n+1) ?_;unfold cU;rw[h];exact hn
 |none =>
  match hq:fF step a with
  |none=>rfl
  |some r =>
   obtain⟨n,hn⟩:=lW hq
   match n,hn with
   |n+1,hn =>
    unfold cU at hn;rw[h]at hn;rw[lF (n:=n) hn]at hr;cases hr
theorem gO{α β:Type}{step:α->O (α ⊕ β)}{a:α}{b:β}(h:step a=ok (.inr b)):fF step a=ok b :=
 lF (n:=1) (by unfold cU;rw[h];rfl)
mutual
noncomputable def gN:CE->aN
 |.v i=>[i]
 |.bin _ a b=>gN a++gN b
 |.neg a=>gN a
 |.not a=>gN a
 |.and es=>cW es
 |.or es=>cW es
 |.cmp _ a b=>gN a++gN b
 |.qW a _=>gN a
 |.call _ es=>cW es
 |.bf _ es=>cW es
 |.ix a b=>gN a++gN b
 |.jV a=>gN a
 |.tup es=>cW es
 |.lst es=>cW es
 |.cz _ es=>cW es
 |.comp _ _ caps _ es _ _=>caps++cW es
 |_=>[]
noncomputable def cW:aD->aN
 |[]=>[]
 |e::es=>gN e++cW es
end
def iI(is:aN)(ρ:bc):bc:=ρ.mapIdx λi d=>if i∈is then d.map (aS aW)else d
def keep(e:CE)(d:D)(ρ:bc):D×bc:=if aR bF d then(aS aW d,iI (gN e) ρ)else(d,ρ)
def jY(Φ:aT)(e:CE)(ρ:bc):O (D×bc):=match e with
 |.v i=>match ρ[i]? with
  |some (some d)=>if aR cK d then ok (d,ρ.set i none)else ok (d,ρ)
  |_=>none
 |_=>bd (bp Φ e ρ) λd=>ok (keep e d ρ)
def cB(Φ:aT)(it:CI)(ρ:bc):O (ab×bc):=match it with
 |.qN p es=>bd (b9 Φ es ρ) λxs=>bd (Φ p xs) λd=>bd (kH d) λitems=>ok (items,if aM bF xs then iI (cW es) ρ else ρ)
 |.lz a=>bd (bp Φ a ρ) λx=>match x with
  |.int n=>if n<=cP /\ -cP<=n then ok ((List.range n.toNat).map λ(k:Nat)=>D.int (k:Int),ρ)else none
  |_=>none
 |.seq a=>bd (bp Φ a ρ) λx=>match x with
  |.tup ds=>ok (aA aW ds,if aR bF x then iI (gN a) ρ else ρ)
  |.lst f ds=>ok (aA aW ds,if aR bF x then iI (gN a) ρ else ρ)
  |_=>none
def iY(es:aD)(xs:ab)(ρ:bc):ab×bc:=if aM bF xs then(aA aW xs,iI (cW es) ρ)else(xs,ρ)
noncomputable def oI(Φ:aT)(p i:Nat)(r:ab×bc):O (Fo×bc):=match r.2[i]? with
 |some (some d)=>bd (Φ p (d::r.1)) λd'=>ok (.nx,r.2.set i (some d'))
 |_=>none
def Ds(Φ:aT)(p i:Nat)(ρ:bc)(kd d:D):O (Fo×bc):=match ρ[i]? with
 |some (some x)=>if aR anyF kd=false/\aR anyF d=false then bd (Φ p [x,kd,d]) λd'=>ok (.nx,ρ.set i (some d'))else none
 |_=>none
def dw(bind:D->bc->O bc)(body:bc->O (Fo×bc)):ab->bc->O (Fo×bc)
 |[],ρ=>ok (.nx,ρ)
 |d::ds,ρ=>bd (bind d ρ) λρ1=>bd (body ρ1) λr=>match r with
  | (.nx,ρ2)=>dw bind body ds ρ2
  | (.ct,ρ2)=>dw bind body ds ρ2
  | (.bk,ρ2)=>ok (.nx,ρ2)
  | (.rt d,ρ2)=>ok (.rt d,ρ2)
mutual
noncomputable def lD(Φ:aT):CS->bc->O (Fo×bc)
 |.asg t e,ρ=>bd (jY Φ e ρ) λr=>bd (b8 t r.1 r.2) λρ'=>ok (.nx,ρ')
 |.par i j a b,ρ=>bd (bp Φ a ρ) λx=>bd (bp Φ b ρ) λy=>if aR anyF x=false/\aR anyF y=false/\i<ρ.length/\j<ρ.length then ok (.nx,(ρ.set i (some x)).set j (some y))else none
 |.ret e,ρ=>bd (jY Φ e ρ) λr=>ok (.rt r.1,r.2)
 |.rs c,_=>some (.error c)
 |.ex e,ρ=>bd (bp Φ e ρ) λ_=>ok (.nx,ρ)
 |.mut p i es,ρ=>bd (b9 Φ es ρ) λxs=>oI Φ p i (iY es xs ρ)
 |.mu2 p i k e,ρ=>bd (bp Φ k ρ) λkd=>bd (bp Φ e (ρ.set i none)) λd=>Ds Φ p i ρ kd d
 |.app i e,ρ=>bd (jY Φ e ρ) λr=>match C4 r.2[i]? with
  |some ds=>if ds.length<cP then ok (.nx,r.2.set i (some (.lst .ow (ds++[r.1]))))else none
  |none=>none
 |.aug i op e,ρ=>bd (bd (bp Φ e ρ) intD) λb=>match ρ[i]? with
  |some (some (.int a))=>ok (.nx,ρ.set i (some (.int (if op then a+b else a - b))))
  |_=>none
 |.ifs c a b,ρ=>bd (A4 Φ c ρ) λk=>if k then bC Φ a ρ else bC Φ b ρ
 |.J4 c b,ρ=>fF (λρ=>bd (A4 Φ c ρ) λk=>if k then bd (bC Φ b ρ) λr=>match r with
   | (.nx,ρ')=>ok (.inl ρ')
   | (.ct,ρ')=>ok (.inl ρ')
   | (.bk,ρ')=>ok (.inr (.nx,ρ'))
   | (.rt d,ρ')=>ok (.inr (.rt d,ρ'))
  else ok (.inr (.nx,ρ))) ρ
 |.fr t it b,ρ=>bd (cB Φ it ρ) λr=>dw (λd ρ=>b8 t d ρ) (λρ=>bC Φ b ρ) r.1 r.2
noncomputable def bC(Φ:aT):ah->bc->O (Fo×bc)
 |[],ρ=>ok (.nx,ρ)
 |s::ss,ρ=>bd (lD Φ s ρ) λr=>match r with
  | (.nx,ρ')=>bC Φ ss ρ'
  |r=>ok r
end
noncomputable def si(Φ:aT)(n:Nat)(b:ah)(ds:ab):O D:=bd (bC Φ b (ds.map some++List.replicate (n - ds.length) none)) λr=>match r.1 with
 |.nx=>ok .cg
 |.rt d=>ok d
 |_=>none
noncomputable def p5:av
 |[.lst _ a,.lst _ b]=>ok (.lst .ow (List.zipWith (λx y=>.tup [x,y]) a b))
 |_=>none
end DI
end
section
namespace DI
open PySem PySem.Spec PyProof.Rows L2
noncomputable abbrev bg:=aN
noncomputable abbrev St:=L2.St
noncomputable abbrev kj:=Addr->ae->Prop
inductive Nd where|l(xs:ae)|d(cs:af)(as:aO)(xs:ae)(ep:Nat)
 |ej (cs:af) (as:aO) (xs:ae) (ep:Nat)
abbrev iJ:=bg->Addr->Nd->Fl->Prop
structure eP(T:kj)(as:aO)(cs:af):Prop where
 len:as.length=cs.length
 tup:∀(j:Nat) (a:Addr) (c:aa),as[j]?=some a->cs[j]?=some c->T a (c.map V.int)
variable {T T':kj}{as ch fp:aO}
theorem eP.imp{cs:af}(h:eP T as cs)(hT:∀p xs,T p xs->T' p xs):eP T' as cs:=⟨h.len,λj a c h1 h2=>hT _ _ (h.tup j a c h1 h2)⟩
def pS(T:kj)(a:Addr)(c:aa):Prop:=∃(h:Int) (lot:aa) (b:Addr),c=h::lot/\T a [.ref b,.int h]/\T b (lot.map V.int)
structure gK(T:kj)(as:aO)(cs:af):Prop where
 len:as.length=cs.length
 key:∀(j:Nat) (a:Addr) (c:aa),as[j]?=some a->cs[j]?=some c->pS T a c
theorem pS.imp{a:Addr}{c:aa}(h:pS T a c)(hT:∀p xs,T p xs->T' p xs):pS T' a c:=by obtain⟨x,y,b,e,h1,h2⟩:=h;exact⟨x,y,b,e,hT _ _ h1,hT _ _ h2⟩
theorem gK.imp{T T':kj}{as:aO}{cs:af}(h:gK T as cs)(hT:∀p xs,T p xs->T' p xs):gK T' as cs:=⟨h.len,λj a c h1 h2=>(h.key j a c h1 h2).imp hT⟩
mutual
inductive Rep(T:kj)(N:iJ):bg->V->D->Prop where
 |cg {q:bg}:Rep T N q .cg .cg
 |bl {q:bg} (b:Bool):Rep T N q (.bl b) (.bl b)
 |int {q:bg} (i:Int):Rep T N q (.int i) (.int i)
 |tup {q:bg} {p:Addr} {xs:ae} {ds:ab} (h:T p xs) (r:aB T N q 0 xs ds):Rep T N q (.ref p) (.tup ds)
 |lst {q:bg} {p:Addr} {xs:ae} {f:Fl} {ds:ab} (h:N q p (.l xs) f) (r:aB T N q 0 xs ds):Rep T N q (.ref p) (.lst f ds)
 |dy {q:bg} {p:Addr} {cs:af} {as:aO} {xs:ae} {ep:Nat} {f:Fl} {ds:ab} (h:N q p (.d cs as xs ep) f) (k:eP T as cs) (r:aB T N q 0 xs ds):Rep T N q (.ref p) (.dy f cs ds)
 |dY {q:bg} {p:Addr} {cs:af} {as:aO} {xs:ae} {ep:Nat} {f:Fl} {ds:ab} (h:N q p (.ej cs as xs ep) f) (k:gK T as cs) (r:aB T N q 0 xs ds):Rep T N q (.ref p) (.dY f cs ds)
inductive aB(T:kj)(N:iJ):bg->Nat->ae->ab->Prop where
 |nil {q:bg} {n:Nat}:aB T N q n [] []
 |cons {q:bg} {n:Nat} {v:V} {d:D} {vs:ae} {ds:ab} (h:Rep T N (n::q) v d) (t:aB T N q (n+1) vs ds):aB T N q n (v::vs) (d::ds)
end
variable {N:iJ}{ds ds' items:ab}
theorem Rep.Ab{q:bg}{v:V}(h:Rep T N q v (.tup ds)):∃p xs,v=.ref p/\T p xs/\aB T N q 0 xs ds:=by
 cases h with
 |tup a b=>exact⟨_,_,rfl,a,b⟩
theorem Rep.rM{q:bg}{v:V}{f:Fl}(h:Rep T N q v (.lst f ds)):∃p xs,v=.ref p/\N q p (.l xs) f/\aB T N q 0 xs ds:=by
 cases h with
 |lst a b=>exact⟨_,_,rfl,a,b⟩
mutual
theorem sO:∀d:D,aR (λ_=>false) d=false
 |.cg=>rfl
 |.bl _=>rfl
 |.int _=>rfl
 |.tup ds=>fL ds
 |.lst _ ds=>fL ds
 |.dy _ _ ds=>fL ds
 |.dY _ _ ds=>fL ds
theorem fL:∀ds:ab,aM (λ_=>false) ds=false
 |[]=>rfl
 |d::ds=>by show(aR _ d||aM _ ds)=false;rw[sO d,fL ds];rfl
end
theorem Ft{a b:Bool}(h:(a||b)=false):a=false/\b=false:=by cases a<;>cases b<;>first|exact⟨rfl,rfl⟩|cases h
variable {k' q':bg}{vs xs xs':ae}
section
variable {T T':kj}{N N':iJ}{g:Fl->Fl}{P:Fl->Bool}{C:bg->bg->Prop}{I:Nat->Nat->Prop}
mutual
theorem Rep.gen(hT:∀p xs,T p xs->T' p xs)(h0:I 0 0)(hI:∀n n',I n n'->I (n+1) (n'+1))(hC:∀k k' n n',C k k'->I n n'->C (n::k) (n'::k'))(hN:∀k k' p xs f,C k k'->P f=false->N k p xs f->N' k' p xs (g f)):
  ∀{k:bg} {v:V} {d:D},Rep T N k v d->∀{k':bg},C k k'->aR P d=false->Rep T' N' k' v (aS g d)
 |_,_,_,.cg,_,_,_=>.cg
 |_,_,_,.bl b,_,_,_=>.bl b
 |_,_,_,.int i,_,_,_=>.int i
 |_,_,_,.tup h r,_,c,e=>.tup (hT _ _ h) (aB.gen hT h0 hI hC hN r c h0 e)
 |_,_,_,.lst h r,_,c,e=>.lst (hN _ _ _ _ _ c (Ft e).1 h) (aB.gen hT h0 hI hC hN r c h0 (Ft e).2)
 |_,_,_,.dy h k r,_,c,e=>.dy (hN _ _ _ _ _ c (Ft e).1 h) (k.imp hT) (aB.gen hT h0 hI hC hN r c h0 (Ft e).2)
 |_,_,_,.dY h k r,_,c,e=>.dY (hN _ _ _ _ _ c (Ft e).1 h) (k.imp hT) (aB.gen hT h0 hI hC hN r c h0 (Ft e).2)
theorem aB.gen(hT:∀p xs,T p xs->T' p xs)(h0:I 0 0)(hI:∀n n',I n n'->I (n+1) (n'+1))(hC:∀k k' n n',C k k'->I n n'->C (n::k) (n'::k'))(hN:∀k k' p xs f,C k k'->P f=false->N k p xs f->N' k' p xs (g f)):
  ∀{k:bg} {n:Nat} {vs:ae} {ds:ab},aB T N k n vs ds->∀{k':bg} {n':Nat},C k k'->I n n'->aM P ds=false->aB T' N' k' n' vs (aA g ds)
 |_,_,_,_,.nil,_,_,_,_,_=>.nil
 |_,_,_,_,.cons h t,_,_,c,i,e=>.cons (Rep.gen hT h0 hI hC hN h (hC _ _ _ _ c i) (Ft e).1) (aB.gen hT h0 hI hC hN t c (hI _ _ i) (Ft e).2)
end
theorem Rep.map{q:bg}(hT:∀p xs,T p xs->T' p xs)(hN:∀c p xs f,N (c++q) p xs f->N' (c++q') p xs (g f)){k:bg}{v:V}{d:D}(h:Rep T N k v d)(c:bg)(e:k=c++q):Rep T' N' (c++q') v (aS g d) :=
 Rep.gen (P:=λ_=>false) (C:=λk k'=>∃c,k=c++q/\k'=c++q') (I:=λn n'=>n=n') hT rfl (λ_ _ e=>by rw[e]) (λ_ _ n _ ⟨c,e1,e2⟩ e=>⟨n::c,by rw[e1];rfl,by rw[e2,<- e];rfl⟩) (λ_ _ p xs f ⟨c,e1,e2⟩ _ h=>by subst e1;subst e2;exact hN c p xs f h) h ⟨c,e,rfl⟩ (sO d)
theorem aB.map{q:bg}(hT:∀p xs,T p xs->T' p xs)(hN:∀c p xs f,N (c++q) p xs f->N' (c++q') p xs (g f)){k:bg}{n:Nat}(h:aB T N k n vs ds)(c:bg)(e:k=c++q):aB T' N' (c++q') n vs (aA g ds) :=
 aB.gen (P:=λ_=>false) (C:=λk k'=>∃c,k=c++q/\k'=c++q') (I:=λn n'=>n=n') hT rfl (λ_ _ e=>by rw[e]) (λ_ _ n _ ⟨c,e1,e2⟩ e=>⟨n::c,by rw[e1];rfl,by rw[e2,<- e];rfl⟩) (λ_ _ p xs f ⟨c,e1,e2⟩ _ h=>by subst e1;subst e2;exact hN c p xs f h) h ⟨c,e,rfl⟩ rfl (fL ds)
theorem Rep.iW(hT:∀p xs,T p xs->T' p xs)(hN:∀k k' p xs f,N k p xs f->N' k' p xs (g f)){k:bg}{v:V}{d:D}(h:Rep T N k v d)(k':bg):Rep T' N' k' v (aS g d) :=
 Rep.gen (P:=λ_=>false) (C:=λ_ _=>True) (I:=λ_ _=>True) hT trivial (λ_ _ e=>e) (λ_ _ _ _ e _=>e) (λk k' p xs f _ _ h=>hN k k' p xs f h) h trivial (sO d)
theorem aB.iW(hT:∀p xs,T p xs->T' p xs)(hN:∀k k' p xs f,N k p xs f->N' k' p xs (g f)){k:bg}{n:Nat}(h:aB T N k n vs ds)(k':bg)(n':Nat):aB T' N' k' n' vs (aA g ds) :=
 aB.gen (P:=λ_=>false) (C:=λ_ _=>True) (I:=λ_ _=>True) hT trivial (λ_ _ e=>e) (λ_ _ _ _ e _=>e) (λk k' p xs f _ _ h=>hN k k' p xs f h) h trivial trivial (fL ds)
end
mutual
theorem d9:∀d:D,aS id d=d
 |.cg=>rfl
 |.bl _=>rfl
 |.int _=>rfl
 |.tup ds=>by rw[aS,dZ ds]
 |.lst f ds=>by rw[aS,dZ ds];rfl
 |.dy f ks vs=>by rw[aS,dZ vs];rfl
 |.dY f ks vs=>by rw[aS,dZ vs];rfl
theorem dZ:∀ds:ab,aA id ds=ds
 |[]=>rfl
 |d::ds=>by rw[aA,d9 d,dZ ds]
end
section
variable {T T':kj}{N N':iJ}
theorem Rep.imp{q:bg}(hT:∀p xs,T p xs->T' p xs)(hN:∀c p xs f,N (c++q) p xs f->N' (c++q') p xs f){v:V}{d:D}(h:Rep T N q v d):Rep T' N' q' v d:=by
 have:=Rep.map (g:=id) hT hN h [] rfl;rw[d9]at this;exact this
theorem aB.imp{q:bg}{n:Nat}(hT:∀p xs,T p xs->T' p xs)(hN:∀c p xs f,N (c++q) p xs f->N' (c++q') p xs f)(h:aB T N q n vs ds):aB T' N' q' n vs ds:=by
 have:=aB.map (g:=id) hT hN h [] rfl;rw[dZ]at this;exact this
theorem aB.length:∀{k:bg} {n:Nat} {vs:ae} {ds:ab},aB T N k n vs ds->vs.length=ds.length
 |_,_,_,_,.nil=>rfl
 |_,_,_,_,.cons _ t=>by simp[aB.length t]
theorem aB.get:∀{k:bg} {n j:Nat} {vs:ae} {ds:ab} {d:D},aB T N k n vs ds->ds[j]?=some d->∃v,vs[j]?=some v/\Rep T N ((n+j)::k) v d
 |_,_,_,_,_,_,.nil,e=>by simp at e
 |_,_,0,_,_,_,.cons h t,e=>by simp at e;subst e;exact⟨_,rfl,h⟩
 |_,n,j+1,_,_,_,.cons h t,e=>by
  obtain⟨v,h1,h2⟩:=aB.get (j:=j) t (by simpa using e);refine⟨v,by simpa using h1,?_⟩;have:n+1+j=n+(j+1):=by left
  rw[<- this];exact h2
theorem aB.vJ:∀{k:bg} {n j:Nat} {vs:ae} {ds:ab} {v:V},aB T N k n vs ds->vs[j]?=some v->∃d,ds[j]?=some d/\Rep T N ((n+j)::k) v d
 |_,_,_,_,_,_,.nil,e=>by simp at e
 |_,_,0,_,_,_,.cons h t,e=>by simp at e;subst e;exact⟨_,rfl,h⟩
 |_,n,j+1,_,_,_,.cons h t,e=>by
  obtain⟨v,h1,h2⟩:=aB.vJ (j:=j) t (by simpa using e);refine⟨v,by simpa using h1,?_⟩;have:n+1+j=n+(j+1):=by left
  rw[<- this];exact h2
theorem aB.nQ{k:bg}(hN:∀k k' p xs f,N k p xs f->N k' p xs f):∀{n m l:Nat} {vs ws:ae} {ds es:ab},aB T N k n vs ds->aB T N k m ws es->aB T N k l (vs++ws) (ds++es)
 |_,_,_,_,_,_,_,.nil,t=>by
  have:=aB.iW (T':=T) (N':=N) (g:=id) (λ_ _ h=>h) hN t;rw[dZ]at this;exact this _ _
 |_,_,_,_,_,_,_,.cons h t,u=>.cons (by
  have:=Rep.iW (T':=T) (N':=N) (g:=id) (λ_ _ h=>h) hN h;rw[d9]at this;exact this _) (aB.nQ hN t u)
end
def KL(K:aq)(a:Addr)(xs:ae):Prop :=
 ∃(o:Obj) (aI:aK) (n:Nat),K.lookup a=some o/\o.cls=.type "list" /\ o.dict=none/\o.data=.seq aI n/\aI.size<=sizeLine/\Vals xs aI.toList
def DO(p:Addr)(cs:af)(as:aO)(xs:ae)(ep:Nat)(h:Heap):Prop :=
 ∃(zs:List (aa×Addr×Value)) (o:Obj) (es:Array DictEntry),zs.map (·.1)=cs/\zs.map (·.2.1)=as/\Vals xs (zs.map (·.2.2))/\h.get? p=some o/\o.ExactDict/\o.data=.dict es ep /\
  es.toList=zs.map (λz=>⟨reduceHash (Builtin.Tuple.tupleHashOf (z.1.map hashInt)),.ref z.2.1,z.2.2⟩)/\cs.Nodup/\cs.length<=sizeLine/\(p==sysModules)=false
noncomputable def so:aa->Int
 |h::lot=>reduceHash (Builtin.Tuple.tupleHashOf [reduceHash (Builtin.Tuple.tupleHashOf (lot.map hashInt)),hashInt h])
 |[]=>0
def PJ(p:Addr)(cs:af)(as:aO)(xs:ae)(ep:Nat)(h:Heap):Prop :=
 ∃(zs:List (aa×Addr×Value)) (o:Obj) (es:Array DictEntry),zs.map (·.1)=cs/\zs.map (·.2.1)=as/\Vals xs (zs.map (·.2.2))/\h.get? p=some o/\o.ExactDict/\o.data=.dict es ep /\
  es.toList=zs.map (λz=>⟨so z.1,.ref z.2.1,z.2.2⟩)/\cs.Nodup/\cs.length<=sizeLine/\(p==sysModules)=false
noncomputable abbrev eB(H:Hp)(p:Addr)(n:Nd):Prop:=match n with
 |.l xs=>H p=some (.lst xs)
 |.d cs as xs ep=>H p=some (.ext (DO p cs as xs ep))
 |.ej cs as xs ep=>H p=some (.ext (PJ p cs as xs ep))
variable {H H' H1 H2:Hp}
theorem eB.ne{p:Addr}{n:Nd}(h:eB H p n):H p≠none:=by
 cases n with
 |l xs=>intro z;rw[show H p=some (.lst xs) from h]at z;cases z
 |d cs as xs ep=>intro z;rw[show H p=some (.ext (DO p cs as xs ep)) from h]at z;cases z
 |ej cs as xs ep=>intro z;rw[show H p=some (.ext (PJ p cs as xs ep)) from h]at z;cases z
theorem eB.at{p:Addr}{n:Nd}(e:∀o,H p=some o->H' p=some o)(h:eB H p n):eB H' p n:=by
 cases n with
 |l xs=>exact e _ h
 |d cs as xs ep=>exact e _ h
 |ej cs as xs ep=>exact e _ h
theorem eB.same{p:Addr}{n:Nd}(e:aJ H H')(h:eB H p n):eB H' p n:=h.at (e p)
theorem eB.some{H:Hp}{p:Addr}{n:Nd}(h:eB H p n):∃o,H p=some o/\(∀xs,o≠.tup xs)/\(∀a u,o≠.iI a u):=by
 cases n with
 |l xs=>exact⟨_,h,λ_ z=>(nomatch z),λ_ _ z=>(nomatch z)⟩
 |d cs as xs ep=>exact⟨_,h,λ_ z=>(nomatch z),λ_ _ z=>(nomatch z)⟩
 |ej cs as xs ep=>exact⟨_,h,λ_ z=>(nomatch z),λ_ _ z=>(nomatch z)⟩
def nd(K:aq)(R A:aj)(τ:Addr->Option bg)(H:Hp):iJ:=λq p n f=>match f with
 |.ow=>eB H p n/\τ p=some q
 |.fz=>eB H p n/\R p
 |.al=>eB H p n/\A p
 |.sc=>match n with
  |.l xs=>(∃o,H p=some (.iI o (.lst xs)))\/KL K p xs
  |.d _ _ _ _=>False
  |.ej _ _ _ _=>False
variable {A F G R R' R1:Addr->Prop}{K:aq}{τ τ':Addr->Option bg}
theorem nd.Cm{q:bg}{p:Addr}{n:Nd}(h:nd K R A τ H q p n .sc):∃xs,n=.l xs/\((∃o,H p=some (.iI o (.lst xs)))\/KL K p xs):=by
 cases n with
 |l xs=>exact⟨xs,rfl,h⟩
 |d _ _ _ _=>exact h.elim
 |ej _ _ _ _=>exact h.elim
theorem nd.sq{q:bg}{p:Addr}{f:Fl}(h:nd K R A τ H q p (.l xs) f):dg K H p xs:=by
 cases f with
 |ow=>exact dg.of h.1
 |fz=>exact dg.of h.1
 |al=>exact dg.of h.1
 |sc=>exact h.elim (λh=>.inl (.inr h)) .inr
theorem nd.lst{K:aq}{R A:aj}{τ:Addr->Option bg}{H:Hp}{q:bg}{p:Addr}{xs:ae}{f:Fl}(h:nd K R A τ H q p (.l xs) f)(hf:xy f=false):H p=some (.lst xs):=by
 cases f with
 |ow=>exact h.1
 |fz=>exact h.1
 |al=>exact h.1
 |sc=>cases hf
variable {ep k1 k2 n1 t':Nat}
theorem nd.dat{q:bg}{p:Addr}{cs:af}{f:Fl}(h:nd K R A τ H q p (.d cs as xs ep) f):H p=some (.ext (DO p cs as xs ep)):=by
 cases f with
 |ow=>exact h.1
 |fz=>exact h.1
 |al=>exact h.1
 |sc=>exact h.elim
theorem nd.pat{q:bg}{p:Addr}{cs:af}{f:Fl}(h:nd K R A τ H q p (.ej cs as xs ep) f):H p=some (.ext (PJ p cs as xs ep)):=by
 cases f with
 |ow=>exact h.1
 |fz=>exact h.1
 |al=>exact h.1
 |sc=>exact h.elim
theorem Rd.same{a:Addr}{u:HO}(e:aJ H H')(h:Rd H a u):Rd H' a u:=h.elim (λh=>.inl (e _ _ h)) λ⟨o,h⟩=>.inr ⟨o,e _ _ h⟩
theorem aU.same{K:aq}{H H':Hp}{a:Addr}{xs:ae}(e:aJ H H')(h:aU K H a xs):aU K H' a xs:=h.elim (λh=>.inl (Rd.same e h)) .inr
theorem nd.same{K:aq}{R A:aj}{τ:Addr->Option bg}{H H':Hp}{q:bg}{p:Addr}{n:Nd}{f:Fl}(e:aJ H H')(h:nd K R A τ H q p n f):nd K R A τ H' q p n f:=by
 cases f with
 |ow=>exact⟨h.1.same e,h.2⟩
 |fz=>exact⟨h.1.same e,h.2⟩
 |al=>exact⟨h.1.same e,h.2⟩
 |sc=>cases n with
  |l xs=>exact h.elim (λ⟨o,h⟩=>.inl ⟨o,e _ _ h⟩) .inr
  |d _ _ _ _=>exact h.elim
  |ej _ _ _ _=>exact h.elim
theorem Rd.there{a:Addr}{u:HO}(h:Rd H a u):H a≠none:=by
 rcases h with h|⟨o,h⟩<;>(rw[h];simp)
theorem aJ.ne(e:aJ H H'){a:Addr}(h:H a≠none):H' a≠none:=by
 cases q:H a with
 |none=>exact absurd q h
 |some o=>rw[e a o q];simp
structure SI(X:Cx)(F R:aj)(τ:Addr->Option bg)(ρ:bc)(σ:St)(H:Hp):Prop where
 len:ρ.length=σ.length
 rep:∀(i:Nat) (d:D),ρ[i]?=some (some d)->∃v,σ[i]?=some (some v)/\Rep (aU X.K H) (nd X.K R (λ_=>False) τ H) [i] v d
 rt:∀p,R p->τ p=none
 rh:∀p,R p->H p≠none
 rf:∀p,R p->F p\/X.H₀ p=none
 th:∀p q,τ p=some q->H p≠none
 t0:∀p q,τ p=some q->X.H₀ p=none
 same:aJ X.H₀ H
variable {X:Cx}{ρ:bc}{σ:L2.St}
theorem SI.go(S:SI X F R τ ρ σ H)(e:aJ H H'):SI X F R τ ρ σ H' :=
 ⟨S.len,λi d h=>let ⟨v,h1,h2⟩:=S.rep i d h;⟨v,h1,h2.imp (λ_ _ h=>aU.same e h) λ_ _ _ _ h=>nd.same e h⟩,S.rt,λp h=>aJ.ne e (S.rh p h),S.rf,λp q h=>aJ.ne e (S.th p q h),S.t0,S.same.trans e⟩
def jQ(G:aj)(τ:Addr->Option bg)(fv:aN)(p:Addr):Prop:=G p/\∀c i,τ p=some (c++[i])->i∈fv
variable {caps fv fv':aN}
theorem jQ.mono{p:Addr}(h:jQ G τ fv p)(hs:∀i∈fv,i∈fv'):jQ G τ fv' p:=⟨h.1,λc i e=>hs i (h.2 c i e)⟩
def gP(X:Cx)(F:aj)(p:Addr):Prop:=F p\/X.H₀ p=none
def bX(K:aq)(G R:aj)(τ:Addr->Option bg)(fv:aN)(H H':Hp)(v:V)(d:D):Prop :=
 ∃τt:Addr->Option bg,(∀p q,τt p=some q->H p=none)/\Rep (aU K H') (nd K R (jQ G τ fv) τt H') [] v d
def cx(K:aq)(G R:aj)(τ:Addr->Option bg)(fv:aN)(H H':Hp)(vs:ae)(ds:ab):Prop :=
 ∃τt:Addr->Option bg,(∀p q,τt p=some q->H p=none)/\aB (aU K H') (nd K R (jQ G τ fv) τt H') [] 0 vs ds
section
variable {K:aq}{G R:aj}{τ:Addr->Option bg}{fv fv':aN}{H H1 H2:Hp}{v:V}{d:D}{vs:ae}{ds:ab}
theorem bX.go(h:bX K G R τ fv H H1 v d)(e:aJ H1 H2):bX K G R τ fv H H2 v d :=
 let ⟨τt,h1,h2⟩:=h;⟨τt,h1,h2.imp (λ_ _ h=>aU.same e h) λ_ _ _ _ h=>nd.same e h⟩
theorem nd.mono{A':Addr->Prop}{τ:Addr->Option bg}{q:bg}{p:Addr}{xs:Nd}{f:Fl}(h:nd K R A τ H q p xs f)(hR:R p->R' p)(hA:A p->A' p)(ht:τ p=some q->τ' p=some q'):nd K R' A' τ' H q' p xs f:=by
 cases f with
 |ow=>exact⟨h.1,ht h.2⟩
 |fz=>exact⟨h.1,hR h.2⟩
 |al=>exact⟨h.1,hA h.2⟩
 |sc=>exact h
theorem bX.mono(h:bX K G R τ fv H H1 v d)(hs:∀i∈fv,i∈fv'):bX K G R τ fv' H H1 v d :=
 let ⟨τt,h1,h2⟩:=h;⟨τt,h1,h2.imp (λ_ _ h=>h) λ_ _ _ _ h=>h.mono id (λh=>h.mono hs) id⟩
theorem cx.mono(h:cx K G R τ fv H H1 vs ds)(hs:∀i∈fv,i∈fv'):cx K G R τ fv' H H1 vs ds :=
 let ⟨τt,h1,h2⟩:=h;⟨τt,h1,h2.imp (λ_ _ h=>h) λ_ _ _ _ h=>h.mono id (λh=>h.mono hs) id⟩
theorem bX.old{H0:Hp}(h:bX K G R τ fv H H1 v d)(e:aJ H0 H):bX K G R τ fv H0 H1 v d :=
 let ⟨τt,h1,h2⟩:=h;⟨τt,λp q z=>e.free (h1 p q z),h2⟩
theorem bX.int{i:Int}:bX K G R τ fv H H1 (.int i) (.int i):=⟨λ_=>none,λ_ _ h=>by simp at h,.int i⟩
theorem bX.bl{b:Bool}:bX K G R τ fv H H1 (.bl b) (.bl b):=⟨λ_=>none,λ_ _ h=>by simp at h,.bl b⟩
theorem bX.cg:bX K G R τ fv H H1 .cg .cg:=⟨λ_=>none,λ_ _ h=>by simp at h,.cg⟩
theorem bX.isInt{i:Int}(h:bX K G R τ fv H H1 v (.int i)):v=.int i:=by obtain⟨_,_,h⟩:=h;cases h;rfl
theorem bX.AJ{i:Bool}(h:bX K G R τ fv H H1 v (.bl i)):v=.bl i:=by obtain⟨_,_,h⟩:=h;cases h;rfl
def rZ:bg->bg
 |[]=>[]
 |[n]=>[n+1]
 |a::b::r=>a::rZ (b::r)
theorem uF(c:bg)(n:Nat):rZ (c++[n])=c++[n+1]:=by
 induction c with
 |nil=>rfl
 |cons a c ih =>
  cases c with
  |nil=>rfl
  |cons b c=>show a::rZ (b::c++[n])=_;rw[ih];rfl
theorem aB.shift{T:kj}{N N':iJ}(hN:∀c n p xs f,N (c++[n]) p xs f->N' (c++[n+1]) p xs f):∀{n:Nat} {vs:ae} {ds:ab},aB T N [] n vs ds->aB T N' [] (n+1) vs ds
 |_,_,_,.nil=>.nil
 |n,_,_,.cons h t=>.cons (h.imp (q:=[n]) (q':=[n+1]) (λ_ _ h=>h) λc p xs f h=>hN c n p xs f h) (aB.shift hN t)
theorem cx.nil:cx K G R τ fv H H1 [] []:=⟨λ_=>none,λ_ _ h=>by simp at h,.nil⟩
open Classical in
theorem cx.cons(e1:aJ H H1)(e2:aJ H1 H2)(h:bX K G R τ fv H H1 v d)(t:cx K G R τ fv H1 H2 vs ds):cx K G R τ fv H H2 (v::vs) (d::ds):=by
 obtain⟨τ1,f1,h1⟩:=h;obtain⟨τ2,f2,h2⟩:=t;refine⟨λp=>if H1 p=none then(τ2 p).map rZ else(τ1 p).map (· ++ [0]),λp q hq=>?_,.cons (h1.imp (q':=[0]) (λ_ _ h=>aU.same e2 h) λc p xs f h=>?_) (aB.shift (λc n p xs f h=>?_) h2)⟩
 ·by_cases hp:H1 p=none
  ·exact e1.free hp
  ·simp only[hp,if_false]at hq;cases q1:τ1 p with
   |none=>rw[q1]at hq;simp at hq
   |some k=>exact f1 p k q1
 ·have h':nd K R (jQ G τ fv) τ1 H2 (c++[]) p xs f:=nd.same e2 h;cases f with
  |ow =>
   have hp:H1 p≠none:=h.1.ne;refine⟨h'.1,?_⟩;simp only[hp,if_false];rw[h.2];simp
  |fz=>exact h'
  |al=>exact h'
  |sc=>exact h'
 ·cases f with
  |ow =>
   have hp:H1 p=none:=f2 p _ h.2;refine⟨h.1,?_⟩;simp only[hp,if_true];rw[h.2];simp[uF]
  |fz=>exact h
  |al=>exact h
  |sc=>exact h
end
def tD(X:Cx)(F:aj)(Φ:aT)(c:CE):TE:=λσ H Q=>∃R τ ρ d,SI X F R τ ρ σ H/\bp Φ c ρ=ok d/\∀v H',aJ H H'->bX X.K (gP X F) R τ (gN c) H H' v d->Q v H'
def uy(X:Cx)(F:aj)(Φ:aT)(cs:aD):TA:=λσ H Q=>∃R τ ρ ds,SI X F R τ ρ σ H/\b9 Φ cs ρ=ok ds/\∀vs H',aJ H H'->cx X.K (gP X F) R τ (cW cs) H H' vs ds->Q vs H'
def gL(X:Cx)(F:aj)(Φ:aT)(c:CE):TT:=λσ H Q=>∃R τ ρ b,SI X F R τ ρ σ H/\A4 Φ c ρ=ok b/\∀H',aJ H H'->Q b H'
theorem PE.imp{e:Expr}{t t':TE}(h:PE X e t)(hi:∀σ H Q,t' σ H Q->t σ H Q):PE X e t':=λpins s σ H Q I hw=>h pins s σ H Q I (hi σ H Q hw)
theorem PT.imp{e:Expr}{t t':TT}(h:PT X e t)(hi:∀σ H Q,t' σ H Q->t σ H Q):PT X e t':=λpins s σ H Q I hw=>h pins s σ H Q I (hi σ H Q hw)
theorem PW.imp{e:Expr}{t t':TT}(h:PW X e t)(hi:∀σ H Q,t' σ H Q->t σ H Q):PW X e t':=λwh pins s σ H Q I hw=>h wh pins s σ H Q I (hi σ H Q hw)
theorem PA.imp{es:aw}{t t':TA}(h:PA X es t)(hi:∀σ H Q,t' σ H Q->t σ H Q):PA X es t':=λpos pins s σ H Q I hw=>h pos pins s σ H Q I (hi σ H Q hw)
variable {st:Stmt}
theorem PS.imp{t t':TS}(h:PS X st t)(hi:∀D σ H,t' D σ H->t D σ H):PS X st t':=λpins s σ H D I hw=>h pins s σ H D I (hi D σ H hw)
theorem nV.imp{st:bq}{t t':TS}(h:nV X st t)(hi:∀D σ H,t' D σ H->t D σ H):nV X st t':=λpins s σ H D I hw=>h pins s σ H D I (hi D σ H hw)
theorem pA:∀(as bs:ab),fj as bs=true ↔ as.length=bs.length/\∀(j:Nat) (a b:D),as[j]?=some a->bs[j]?=some b->mF a b=true
 |[],[]=>by simp[fj]
 |[],b::bs=>by simp[fj]
 |a::as,[]=>by simp[fj]
 |a::as,b::bs=>by
  rw[fj,Bool.and_eq_true,pA as bs];constructor
  ·rintro ⟨h1,h2,h3⟩;refine⟨by simp[h2],λj x y hx hy=>?_⟩;cases j with
   |zero=>simp at hx hy;subst hx hy;exact h1
   |succ j=>exact h3 j x y (by simpa using hx) (by simpa using hy)
  ·rintro ⟨h2,h3⟩;exact⟨h3 0 a b rfl rfl,by simpa using h2,λj x y hx hy=>h3 (j+1) x y (by simpa using hx) (by simpa using hy)⟩
def RW(as bs:ab)(j:Nat):Bool:=match as[j]?,bs[j]? with
 |some a,some b=>mF a b
 |_,_=>false
theorem jZ(as bs:ab):((List.range (min as.length bs.length)).all (RW as bs)&&as.length==bs.length)=fj as bs:=by
 rw[Bool.eq_iff_iff,pA,Bool.and_eq_true,List.all_eq_true,beq_iff_eq];constructor
 ·rintro ⟨h1,h2⟩;refine⟨h2,λj a b ha hb=>?_⟩;have hj:j<as.length:=by
   by_cases h:j<as.length
   ·exact h
   ·rw[List.getElem?_eq_none (by left)]at ha;cases ha
  have:=h1 j (by rw[List.mem_range];left);unfold RW at this;rw[ha,hb]at this;exact this
 ·rintro ⟨h2,h1⟩;refine⟨λj hj=>?_,h2⟩;rw[List.mem_range]at hj;unfold RW;have ha:as[j]?=some as[j]:=aar (by left);have hb:bs[j]?=some bs[j]:=aar (by left);rw[ha,hb];exact h1 j _ _ ha hb
section
variable {X:Cx}{pins:ak}{σ:St}{H:Hp}{s:Shared}{N N':iJ}
theorem fg{n:Nat}(h:cR n (.tup ds)=true):∃m,n=m+1/\∀d∈ds,cR m d=true:=by
 cases n with
 |zero=>cases h
 |succ m=>exact⟨m,rfl,List.all_eq_true.mp h⟩
theorem fh{n:Nat}{f:Fl}(h:cR n (.lst f ds)=true):∃m,n=m+1/\∀d∈ds,cR m d=true:=by
 cases n with
 |zero=>cases h
 |succ m=>exact⟨m,rfl,List.all_eq_true.mp h⟩
theorem y7(I:Inv X pins σ H s){p:Addr}{ys:ae}(h:dg X.K H p xs)(h':aU X.K H p ys):False:=by
 obtain⟨aI,_,pl,_⟩:=I.list h;obtain⟨its',_,pt,_⟩:=I.tuple h';exact SeqAt.ne_of_list_tuple pl.isList pt rfl
theorem Ci(I:Inv X pins σ H s)(hN:∀q p xs f,N q p (.l xs) f->dg X.K H p xs)(FE:∀q p xs f,N' q p (.l xs) f->dg X.K H p xs):
  ∀(n:Nat) {k k':bg} {v:V} {d d':D},Rep (aU X.K H) N k v d->Rep (aU X.K H) N' k' v d'->cR n d=true->cR n d'=true->mF d d'=true:=by
 intro n;induction n with
 |zero =>
  intro k k' v d d' h h' ho eO;cases h with
  |cg=>cases h';rfl
  |bl b=>cases h';exact abW b
  |int i=>cases h';exact abW i
  |tup _ _=>obtain⟨m,hm,_⟩:=fg ho;left
  |lst _ _=>obtain⟨m,hm,_⟩:=fh ho;left
  |dy _ _=>simp[cR]at ho
  |dY _ _=>simp[cR]at ho
 |succ n ih =>
  have sub:∀{q q':bg} {xs:ae} {ds ds':ab},aB (aU X.K H) N q 0 xs ds->aB (aU X.K H) N' q' 0 xs ds'->(∀d∈ds,cR n d=true)->(∀d∈ds',cR n d=true)->fj ds ds'=true:=by
   intro q q' xs ds ds' r r' ho eO;rw[pA];refine⟨by rw[<- r.length,<- r'.length],λj a b ha hb=>?_⟩;obtain⟨v1,h1,r1⟩:=r.get ha;obtain⟨v2,h2,r2⟩:=r'.get hb;rw[h1]at h2;cases h2;exact ih r1 r2 (ho a (aax ha)) (eO b (aax hb))
  intro k k' v d d' h h' ho eO;cases h with
  |cg=>cases h';rfl
  |bl b=>cases h';exact abW b
  |int i=>cases h';exact abW i
  |tup h r =>
   obtain⟨m,hm,ho⟩:=fg ho;obtain rfl:n=m:=by left
   cases h' with
   |tup h' r' =>
    obtain⟨m,hm,eO⟩:=fg eO;obtain rfl:n=m:=by left
    obtain rfl:=I.lL h h';exact sub r r' ho eO
   |lst h' r'=>exact(y7 I (FE _ _ _ _ h') h).elim
   |dy _ _=>simp[cR]at eO
   |dY _ _=>simp[cR]at eO
  |lst h r =>
   obtain⟨m,hm,ho⟩:=fh ho;obtain rfl:n=m:=by left
   cases h' with
   |tup h' r'=>exact(y7 I (hN _ _ _ _ h) h').elim
   |lst h' r' =>
    obtain⟨m,hm,eO⟩:=fh eO;obtain rfl:n=m:=by left
    obtain rfl:=I.iX (hN _ _ _ _ h) (FE _ _ _ _ h');exact sub r r' ho eO
   |dy _ _=>simp[cR]at eO
   |dY _ _=>simp[cR]at eO
  |dy _ _=>simp[cR]at ho
  |dY _ _=>simp[cR]at ho
structure Alike(A:aE)(s:Shared)(u u':Value)(b:Bool):Prop where
 eq:SeqAt.EqAt A s u u' b
 rc:SeqAt.RcAt A s u u' b
 ne:SeqAt.RcNeAt A s u u' (!b)
theorem alike(I:Inv X pins σ H s)(hN:∀q p xs f,N q p (.l xs) f->dg X.K H p xs)(FE:∀q p xs f,N' q p (.l xs) f->dg X.K H p xs):
  ∀(n:Nat) (A:aE) {k k':bg} {v v':V} {u u':Value} {d d':D},Rep (aU X.K H) N k v d->Rep (aU X.K H) N' k' v' d'->cR n d=true->cR n d'=true->RelV v u->RelV v' u'->A.units+n<cLine ->
   Alike A s u u' (mF d d'):=by
 intro n;induction n with
 |zero =>
  intro A k k' v v' u u' d d' h h' ho eO r r' hu;cases h with
  |tup _ _=>obtain⟨m,hm,_⟩:=fg ho;left
  |lst _ _=>obtain⟨m,hm,_⟩:=fh ho;left
  |dy _ _=>simp[cR]at ho
  |dY _ _=>simp[cR]at ho
  |cg =>
   cases r;cases h' with
   |tup _ _=>obtain⟨m,hm,_⟩:=fg eO;left
   |lst _ _=>obtain⟨m,hm,_⟩:=fh eO;left
   |dy _ _=>simp[cR]at eO
   |dY _ _=>simp[cR]at eO
   |cg=>cases r';exact⟨abH _,SeqAt.RcAt.none_none,SeqAt.RcNeAt.none_none⟩
   |bl b=>cases r';exact⟨ab4 b,SeqAt.RcAt.none_bool b,SeqAt.RcNeAt.none_bool b⟩
   |int b=>obtain⟨t,rfl⟩:=r';exact⟨aca b t,SeqAt.RcAt.none_int b t,SeqAt.RcNeAt.none_int b t⟩
  |bl a =>
   cases r;cases h' with
   |tup _ _=>obtain⟨m,hm,_⟩:=fg eO;left
   |lst _ _=>obtain⟨m,hm,_⟩:=fh eO;left
   |dy _ _=>simp[cR]at eO
   |dY _ _=>simp[cR]at eO
   |cg=>cases r';exact⟨ab5 a,SeqAt.RcAt.bool_none a,SeqAt.RcNeAt.bool_none a⟩
   |bl b=>cases r';exact⟨ab6 a b,SeqAt.RcAt.bool_bool a b,SeqAt.RcNeAt.bool_bool a b⟩
   |int b=>obtain⟨t,rfl⟩:=r';exact⟨acb a b t,SeqAt.RcAt.bool_int a b t,SeqAt.RcNeAt.bool_int a b t⟩
  |int a =>
   obtain⟨t',rfl⟩:=r;cases h' with
   |tup _ _=>obtain⟨m,hm,_⟩:=fg eO;left
   |lst _ _=>obtain⟨m,hm,_⟩:=fh eO;left
   |dy _ _=>simp[cR]at eO
   |dY _ _=>simp[cR]at eO
   |cg=>cases r';exact⟨acd a t',SeqAt.RcAt.int_none a t',SeqAt.RcNeAt.int_none a t'⟩
   |bl b=>cases r';exact⟨ace a t' b,SeqAt.RcAt.int_bool a t' b,SeqAt.RcNeAt.int_bool a t' b⟩
   |int b=>obtain⟨t,rfl⟩:=r';exact⟨abK a t' b t,SeqAt.RcAt.int_int a t' b t,SeqAt.RcNeAt.int_int a t' b t⟩
 |succ n ih =>
  intro A k k' v v' u u' d d' h h' ho eO r r' hu;have fD:A.units<cLine:=by left
  have Wb:A.in1.units+n<cLine:=by show A.units+1+n<cLine;left
  have sub:∀{q q':bg} {xs xs':ae} {ds ds':ab} {aI its':ao},aB (aU X.K H) N q 0 xs ds->aB (aU X.K H) N' q' 0 xs' ds'->(∀d∈ds,cR n d=true)->(∀d∈ds',cR n d=true)->Vals xs aI->Vals xs' its' ->
    ∀(j:Nat) (h1:j<aI.toArray.size) (h2:j<its'.toArray.size),SeqAt.EqAt A.in1 s aI.toArray[j] its'.toArray[j] (RW ds ds' j):=by
   intro q q' xs xs' ds ds' aI its' rs tX hd Hw rv wz j h1 h2;have l1:ds.length=aI.length:=by rw[<- rs.length,rv.length]
   have l2:ds'.length=its'.length:=by rw[<- tX.length,wz.length]
   simp only[List.size_toArray]at h1 h2;have ea:ds[j]?=some ds[j]:=aar (by left);have eb:ds'[j]?=some ds'[j]:=aar (by left);obtain⟨w1,g1,p1⟩:=rs.get ea;obtain⟨w2,g2,p2⟩:=tX.get eb;obtain⟨u1,k1,z1⟩:=rv.get g1;obtain⟨u2,k2,z2⟩:=wz.get g2;have:=(ih A.in1 p1 p2 (hd _ (abB _)) (Hw _ (abB _)) z1 z2 Wb).eq;unfold RW;rw[ea,eb];rw[List.getElem?_eq_getElem h1]at k1;rw[List.getElem?_eq_getElem h2]at k2;cases k1;cases k2;simpa using this
  cases h with
  |cg =>
   cases r;cases h' with
   |dy _ _=>simp[cR]at eO
   |dY _ _=>simp[cR]at eO
   |cg=>cases r';exact⟨abH _,SeqAt.RcAt.none_none,SeqAt.RcNeAt.none_none⟩
   |bl b=>cases r';exact⟨ab4 b,SeqAt.RcAt.none_bool b,SeqAt.RcNeAt.none_bool b⟩
   |int b=>obtain⟨t,rfl⟩:=r';exact⟨aca b t,SeqAt.RcAt.none_int b t,SeqAt.RcNeAt.none_int b t⟩
   |tup h' rr=>cases r';obtain⟨aI,_,pt,_⟩:=I.tuple h';exact⟨SeqAt.EqAt.none_tuple pt fD,SeqAt.RcAt.none_tuple pt fD,SeqAt.RcNeAt.none_tuple pt fD⟩
   |lst h' rr=>cases r';obtain⟨aI,_,pt,_⟩:=I.list (FE _ _ _ _ h');exact⟨SeqAt.EqAt.none_list pt.isList fD,SeqAt.RcAt.none_list pt.isList fD,SeqAt.RcNeAt.none_list pt.isList fD⟩
  |bl a =>
   cases r;cases h' with
   |dy _ _=>simp[cR]at eO
   |dY _ _=>simp[cR]at eO
   |cg=>cases r';exact⟨ab5 a,SeqAt.RcAt.bool_none a,SeqAt.RcNeAt.bool_none a⟩
   |bl b=>cases r';exact⟨ab6 a b,SeqAt.RcAt.bool_bool a b,SeqAt.RcNeAt.bool_bool a b⟩
   |int b=>obtain⟨t,rfl⟩:=r';exact⟨acb a b t,SeqAt.RcAt.bool_int a b t,SeqAt.RcNeAt.bool_int a b t⟩
   |tup h' rr=>cases r';obtain⟨aI,_,pt,_⟩:=I.tuple h';exact⟨SeqAt.EqAt.bool_tuple a pt fD,SeqAt.RcAt.bool_tuple a pt fD,SeqAt.RcNeAt.bool_tuple a pt fD⟩
   |lst h' rr=>cases r';obtain⟨aI,_,pt,_⟩:=I.list (FE _ _ _ _ h');exact⟨SeqAt.EqAt.bool_list a pt.isList fD,SeqAt.RcAt.bool_list a pt.isList fD,SeqAt.RcNeAt.bool_list a pt.isList fD⟩
  |int a =>
   obtain⟨t',rfl⟩:=r;cases h' with
   |dy _ _=>simp[cR]at eO
   |dY _ _=>simp[cR]at eO
   |cg=>cases r';exact⟨acd a t',SeqAt.RcAt.int_none a t',SeqAt.RcNeAt.int_none a t'⟩
   |bl b=>cases r';exact⟨ace a t' b,SeqAt.RcAt.int_bool a t' b,SeqAt.RcNeAt.int_bool a t' b⟩
   |int b=>obtain⟨t,rfl⟩:=r';exact⟨abK a t' b t,SeqAt.RcAt.int_int a t' b t,SeqAt.RcNeAt.int_int a t' b t⟩
   |tup h' rr=>cases r';obtain⟨aI,_,pt,_⟩:=I.tuple h';exact⟨SeqAt.EqAt.int_tuple a t' pt fD,SeqAt.RcAt.int_tuple a t' pt fD,SeqAt.RcNeAt.int_tuple a t' pt fD⟩
   |lst h' rr=>cases r';obtain⟨aI,_,pt,_⟩:=I.list (FE _ _ _ _ h');exact⟨SeqAt.EqAt.int_list a t' pt.isList fD,SeqAt.RcAt.int_list a t' pt.isList fD,SeqAt.RcNeAt.int_list a t' pt.isList fD⟩
  | @tup _ p xs ds h rs =>
   cases r;obtain⟨aI,rv,pt,_⟩:=I.tuple h;have pt:s.heap.IsTuple p aI.toArray:=pt;cases h' with
   |dy _ _=>simp[cR]at eO
   |dY _ _=>simp[cR]at eO
   |cg=>cases r';exact⟨SeqAt.EqAt.tuple_none pt fD,SeqAt.RcAt.tuple_none pt fD,SeqAt.RcNeAt.tuple_none pt fD⟩
   |bl b=>cases r';exact⟨SeqAt.EqAt.tuple_bool b pt fD,SeqAt.RcAt.tuple_bool b pt fD,SeqAt.RcNeAt.tuple_bool b pt fD⟩
   |int b=>obtain⟨t,rfl⟩:=r';exact⟨SeqAt.EqAt.tuple_int b t pt fD,SeqAt.RcAt.tuple_int b t pt fD,SeqAt.RcNeAt.tuple_int b t pt fD⟩
   |lst h' rr=>cases r';obtain⟨its',_,pl,_⟩:=I.list (FE _ _ _ _ h');exact⟨SeqAt.EqAt.tuple_list pt pl.isList fD,SeqAt.RcAt.tuple_list pt pl.isList fD,SeqAt.RcNeAt.tuple_list pt pl.isList fD⟩
   | @tup _ p' xs' ds' h' tX =>
    cases r';obtain⟨m,hm,Ju⟩:=fg ho;obtain rfl:n=m:=by left
    obtain⟨m,hm,sL⟩:=fg eO;obtain rfl:n=m:=by left
    obtain⟨its',wz,S7,_⟩:=I.tuple h';have S7:s.heap.IsTuple p' its'.toArray:=S7;have key:=sub rs tX Ju sL rv wz;have l1:ds.length=aI.toArray.size:=by rw[List.size_toArray,<- rs.length,rv.length]
    have l2:ds'.length=its'.toArray.size:=by rw[List.size_toArray,<- tX.length,wz.length]
    have rc:SeqAt.RcAt A s (.ref p) (.ref p') (mF (.tup ds) (.tup ds')):=by
     have:=SeqAt.RcAt.tuples pt S7 fD key;rw[<- l1,<- l2,jZ]at this;exact this
    refine⟨?_,rc,?_⟩
    ·by_cases hp:p=p'
     ·subst hp;rw[Ci I hN FE (n+1) (Rep.tup h rs) (Rep.tup h' tX) ho eO];exact abH _
     ·exact SeqAt.EqAt.of_refs hp rc
    ·have:=SeqAt.RcNeAt.tuples pt S7 fD key;rw[<- l1,<- l2,jZ]at this;exact this
  | @lst _ p xs f ds h rs =>
   cases r;obtain⟨aI,rv,pl,_⟩:=I.list (hN _ _ _ _ h);have pl:=pl.isList;cases h' with
   |dy _ _=>simp[cR]at eO
   |dY _ _=>simp[cR]at eO
   |cg=>cases r';exact⟨SeqAt.EqAt.list_none pl fD,SeqAt.RcAt.list_none pl fD,SeqAt.RcNeAt.list_none pl fD⟩
   |bl b=>cases r';exact⟨SeqAt.EqAt.list_bool b pl fD,SeqAt.RcAt.list_bool b pl fD,SeqAt.RcNeAt.list_bool b pl fD⟩
   |int b=>obtain⟨t,rfl⟩:=r';exact⟨SeqAt.EqAt.list_int b t pl fD,SeqAt.RcAt.list_int b t pl fD,SeqAt.RcNeAt.list_int b t pl fD⟩
   |tup h' rr=>cases r';obtain⟨its',_,pt,_⟩:=I.tuple h';exact⟨SeqAt.EqAt.list_tuple pl pt fD,SeqAt.RcAt.list_tuple pl pt fD,SeqAt.RcNeAt.list_tuple pl pt fD⟩
   | @lst _ p' xs' f' ds' h' tX =>
    cases r';obtain⟨m,hm,Ju⟩:=fh ho;obtain rfl:n=m:=by left
    obtain⟨m,hm,sL⟩:=fh eO;obtain rfl:n=m:=by left
    obtain⟨its',wz,Jc,_⟩:=I.list (FE _ _ _ _ h');have Jc:=Jc.isList;have key:=sub rs tX Ju sL rv wz;have l1:ds.length=aI.toArray.size:=by rw[List.size_toArray,<- rs.length,rv.length]
    have l2:ds'.length=its'.toArray.size:=by rw[List.size_toArray,<- tX.length,wz.length]
    have two:SeqAt.RcAt A s (.ref p) (.ref p') (mF (.lst f ds) (.lst f' ds'))/\SeqAt.RcNeAt A s (.ref p) (.ref p') (!mF (.lst f ds) (.lst f' ds')):=by
     show SeqAt.RcAt A s (.ref p) (.ref p') (fj ds ds')/\SeqAt.RcNeAt A s (.ref p) (.ref p') (!fj ds ds');rw[<- jZ];by_cases hl:ds.length=ds'.length
     ·have e1:(ds.length==ds'.length)=true:=by simp[hl]
      rw[e1,Bool.and_true,<- hl,Nat.min_self];have hz:aI.toArray.size=its'.toArray.size:=by rw[<- l1,<- l2,hl]
      refine⟨?_,?_⟩
      ·have:=SeqAt.RcAt.lists pl Jc hz fD key;rw[<- l1]at this;exact this
      ·have:=SeqAt.RcNeAt.lists pl Jc hz fD key;rw[<- l1]at this;exact this
     ·have e1:(ds.length==ds'.length)=false:=by simp[hl]
      rw[e1,Bool.and_false];have hz:(aI.toArray.size != its'.toArray.size)=true:=by rw[<- l1,<- l2];simp[hl]
      exact⟨SeqAt.RcAt.lists_lengths pl Jc hz fD,SeqAt.RcNeAt.lists_lengths pl Jc hz fD⟩
    refine⟨?_,two.1,two.2⟩;by_cases hp:p=p'
    ·subst hp;rw[Ci I hN FE (n+1) (Rep.lst h rs) (Rep.lst h' tX) ho eO];exact abH _
    ·exact SeqAt.EqAt.of_refs hp two.1
  |dy _ _=>simp[cR]at ho
  |dY _ _=>simp[cR]at ho
end
structure Px where
 pe:Nat->Scope->au->Expr->Option (aw)
 pi:Nat->Scope->au->Expr->Option (aw)
 pm:Nat->Scope->au->Stmt->Option (Expr×aw)
 p2:Nat->Scope->au->Stmt->Option (Expr×aw):=λ_ _ _ _=>none
structure Sx where
 sc:Scope
 N:au
 fn:Nat->Option Str
 bl:au
 cs:List (Str×GK)
 px:Px
noncomputable def P6:ID->Operator
 |.add=>.Add|.sub=>.Sub|.mul=>.Mult|.fdiv=>.FloorDiv|.mod=>.Mod|.pow=>.Pow|.shr=>.RShift|.band=>.BitAnd
noncomputable def Vx:BB->CmpOp
 |.eq=>.Eq|.ne=>.NotEq|.lt=>.Lt|.le=>.LtE|.gt=>.Gt|.ge=>.GtE|.wA=>.In|.Ly=>.NotIn
noncomputable def tyName:Ty->String
 |.int=>"int" |.bool=>"bool" |.list=>"list" |.tuple=>"tuple"
noncomputable def tF:Bf->String
 |.len=>"len" |.abs=>"abs" |.vy=>"int" |.list1=>"list" |.tuple1=>"tuple" |.gS=>"sum" |.all1=>"all" |.cY=>"sorted"
noncomputable def J7(sc:Scope)(x:Str):Bool:=decide (sc.names.lookup x=some .local)||decide (sc.names.lookup x=some .cell)||decide (sc.names.lookup x=some .free)
noncomputable def i6(sc:Scope)(x:Str):Bool:=decide (sc.names.lookup x=some .globalImplicit)
noncomputable def oH(x:Str):Bool:=!(x==("__debug__" : Str))&&!(x==("__classdict__" : Str))&&decide (x≠("__name__" : Str))
noncomputable def qQ:Expr->Bool
 |.Set _ _ _=>false
 |_=>true
noncomputable def uU(sc outer:Scope):Scope :=
 { sc with names:=sc.names.map λ(n,k)=>if (k==.free&&outer.kind==.function&&outer.names.lookup n==some .cell)then(n,.cell)else(n,k) }
noncomputable def b7:Expr->au
 |.Name x _=>[x]
 |.Tuple es _ _=>es.filterMap λe=>match e with|.Name x _=>some x|_=>none
 |_=>[]
noncomputable def gk(S:Sx)(caps:aN):au:=caps.filterMap λi=>S.N[i]?
def Sx.inner(S:Sx)(target:Expr)(caps:aN)(sc:Scope):Sx:=⟨uU sc S.sc,b7 target++gk S caps,S.fn,S.bl,S.cs,S.px⟩
noncomputable def gX:Expr->Bool
 |.Tuple _ _ _=>true
 |_=>false
noncomputable def isNm:Expr->Bool
 |.Name _ _=>true
 |_=>false
noncomputable def prE:Expr->Bool
 |.Call ..=>true
 |.BinOp ..=>true
 |.Subscript ..=>true
 |.Compare ..=>true
 |.Dict ..=>true
 |_=>false
noncomputable def S_:Expr->Bool
 |.Call ..=>true
 |.Name ..=>true
 |_=>false
theorem aL{a b:Bool}(h:(a&&b)=true):a=true/\b=true:=by
 cases a<;>cases b<;>first|exact⟨rfl,rfl⟩|cases h
noncomputable def bx{α:Type}(o:Option α)(f:α->Bool):Bool:=match o with
 |some a=>f a
 |none=>false
theorem bB{α:Type}{o:Option α}{f:α->Bool}(h:bx o f=true):∃a,o=some a/\f a=true:=by
 cases o with
 |some a=>exact⟨a,rfl,h⟩
 |none=>cases h
noncomputable def vC:Expr->Option Const
 |.Constant c _ _=>some c
 |_=>none
theorem BP{e:Expr}{c:Const}(h:vC e=some c):∃j p,e=.Constant c j p:=by
 cases e<;>first | (cases h;done) | (cases h;exact⟨_,_,rfl⟩)
noncomputable def DM:Const->Bool
 |.none=>true
 |_=>false
theorem AG{c:Const}(h:DM c=true):c=.none:=by cases c<;>first|rfl|cases h
noncomputable def Jp(b:Bool):Const->Bool
 |.bool c=>decide (b=c)
 |_=>false
theorem DP{b:Bool}{c:Const}(h:Jp b c=true):c=.bool b:=by cases c<;>first | (cases h;done)|rw[of_decide_eq_true h]
noncomputable def DN(b:Int):Const->Bool
 |.int c=>decide (b=c)
 |_=>false
theorem AH{b:Int}{c:Const}(h:DN b c=true):c=.int b:=by cases c<;>first | (cases h;done)|rw[of_decide_eq_true h]
noncomputable def FX:Expr->Option Str
 |.Name x _=>some x
 |_=>none
theorem lH{e:Expr}{x:Str}(h:FX e=some x):∃p,e=.Name x p:=by
 cases e<;>first | (cases h;done) | (cases h;exact⟨_,rfl⟩)
noncomputable def OJ:Expr->Option (Expr×Operator×Expr)
 |.BinOp l o r _=>some (l,o,r)
 |_=>none
theorem F3{e l r:Expr}{o:Operator}(h:OJ e=some (l,o,r)):∃p,e=.BinOp l o r p:=by
 cases e<;>first | (cases h;done) | (cases h;exact⟨_,rfl⟩)
noncomputable def Ur:Expr->Option (UnaryOp×Expr)
 |.UnaryOp o e _=>some (o,e)
 |_=>none
theorem BN{e x:Expr}{o:UnaryOp}(h:Ur e=some (o,x)):∃p,e=.UnaryOp o x p:=by
 cases e<;>first | (cases h;done) | (cases h;exact⟨_,rfl⟩)
noncomputable def vBool:Expr->Option (BoolOp×aw)
 |.BoolOp o vs _=>some (o,vs)
 |_=>none
theorem ui{e:Expr}{o:BoolOp}{vs:aw}(h:vBool e=some (o,vs)):∃p,e=.BoolOp o vs p:=by
 cases e<;>first | (cases h;done) | (cases h;exact⟨_,rfl⟩)
noncomputable def one{α:Type}:List α->Option α
 |[]=>none
 |x::xs=>match xs with
  |[]=>some x
  |_::_=>none
theorem cS{α:Type}{l:List α}{x:α}(h:one l=some x):l=[x]:=by
 cases l with
 |nil=>cases h
 |cons y ys=>cases ys with
  |nil=>cases h;rfl
  |cons _ _=>cases h
def two{α:Type}:List α->Option (α×α)
 |[]=>none
 |x::xs=>(one xs).map λy=>(x,y)
theorem f_{α:Type}{l:List α}{x y:α}(h:two l=some (x,y)):l=[x,y]:=by
 cases l with
 |nil=>cases h
 |cons z zs=>cases zs with
  |nil=>cases h
  |cons w ws=>cases ws with
   |nil=>cases h;rfl
   |cons _ _=>cases h
noncomputable def Uu{α:Type}:List α->Option (α×List α)
 |[]=>none
 |x::xs=>some (x,xs)
theorem BS{α:Type}{l xs:List α}{x:α}(h:Uu l=some (x,xs)):l=x::xs:=by
 cases l with
 |nil=>cases h
 |cons y ys=>cases h;rfl
noncomputable def F2:Expr->Option (Expr×List CmpOp×aw)
 |.Compare l os rs _=>some (l,os,rs)
 |_=>none
theorem ye{e l:Expr}{os:List CmpOp}{rs:aw}(h:F2 e=some (l,os,rs)):∃p,e=.Compare l os rs p:=by
 cases e<;>first | (cases h;done) | (cases h;exact⟨_,rfl⟩)
noncomputable def wI:Expr->Option (Expr×aw×List Keyword)
 |.Call f as ks _=>some (f,as,ks)
 |_=>none
theorem Ae{e f:Expr}{as:aw}{ks:List Keyword}(h:wI e=some (f,as,ks)):∃p,e=.Call f as ks p:=by
 cases e<;>first | (cases h;done) | (cases h;exact⟨_,rfl⟩)
def fc(e:Expr):Option (Str×aw):=match wI e with
 |some (f,as,ks)=>match ks with
  |[]=>match FX f with
   |some x=>some (x,as)
   |none=>none
  |_::_=>none
 |none=>none
theorem dq{e:Expr}{x:Str}{as:aw}(h:fc e=some (x,as)):∃p pos,e=.Call (.Name x p) as [] pos:=by
 unfold fc at h;cases hv:wI e with
 |none=>rw[hv]at h;cases h
 |some z =>
  obtain⟨f,Ub,ks⟩:=z;rw[hv]at h;obtain⟨pos,rfl⟩:=Ae hv;cases ks with
  |cons _ _=>cases h
  |nil =>
   cases hn:FX f with
   |none=>replace h:(match FX f with|some x=>some (x,Ub)|none=>none)=some (x,as):=h;rw[hn]at h;cases h
   |some y =>
    replace h:(match FX f with|some x=>some (x,Ub)|none=>none)=some (x,as):=h;rw[hn]at h;obtain⟨p,rfl⟩:=lH hn;cases h;exact⟨p,pos,rfl⟩
noncomputable def n8:Expr->Option (Expr×Expr)
 |.Subscript a b _=>some (a,b)
 |_=>none
theorem ku{e a b:Expr}(h:n8 e=some (a,b)):∃p,e=.Subscript a b p:=by
 cases e<;>first | (cases h;done) | (cases h;exact⟨_,rfl⟩)
noncomputable def Ad:Expr->Option (aw)
 |.Tuple es _ _=>some es
 |_=>none
theorem kr{e:Expr}{es:aw}(h:Ad e=some es):∃n p,e=.Tuple es n p:=by
 cases e<;>first | (cases h;done) | (cases h;exact⟨_,_,rfl⟩)
noncomputable def wG:Expr->Option (aw)
 |.List es _=>some es
 |_=>none
theorem yd{e:Expr}{es:aw}(h:wG e=some es):∃p,e=.List es p:=by
 cases e<;>first | (cases h;done) | (cases h;exact⟨_,rfl⟩)
noncomputable def IL:Expr->Option (Expr×List Comprehension×Scope)
 |.ListComp e gs sc _=>some (e,gs,sc)
 |_=>none
theorem BO{e x:Expr}{gs:List Comprehension}{sc:Scope}(h:IL e=some (x,gs,sc)):∃p,e=.ListComp x gs sc p:=by
 cases e<;>first | (cases h;done) | (cases h;exact⟨_,rfl⟩)
theorem mx{a:Bool}(h:(!a)=true):a=false:=by cases a<;>first|rfl|cases h
def tq(S:Sx)(n:Nat)(t:Tg)(caps:aN)(target:Expr)(sc:Scope):Bool :=
 decide (sc.kind=.function)&&sc.names.all (λ(x,k)=>decide (k≠.cell)&&(decide (k≠.local)||decide (sc.names.lookup x=some .local))&&(decide (k≠.free)||decide (S.sc.names.lookup x=some .cell)||decide (S.sc.names.lookup x=some .free))) &&
 decide (n=(b7 target).length)&&(b7 target).all (λx=>decide (sc.names.lookup x=some .local))&&decide (b7 target++gk S caps).Nodup &&
 caps.all (λi=>match S.N[i]? with|some x=>decide (sc.names.lookup x=some .free)|none=>false) &&
 (match t with
  |.nm i=>decide (i=0)&&isNm target
  |.tp is=>bx (Ad target) λes=>decide (is=List.range es.length)&&es.all isNm)
mutual
noncomputable def cD(S:Sx):CE->Expr->Bool
 |.cz p es,e0=>prE e0&&bx (S.px.pe p S.sc S.bl e0) λxs=>bU S es xs
 |.cg,e0=>bx (vC e0) λc=>DM c
 |.bl b,e0=>bx (vC e0) λc=>Jp b c
 |.int i,e0=>bx (vC e0) λc=>DN i c
 |.v i,e0=>bx (FX e0) λx=>decide (S.N[i]?=some x)&&J7 S.sc x&&oH x
 |.glo x i,e0=>bx (FX e0) λy=>decide (y=x)&&i6 S.sc x&&decide ((x,GK.i i)∈S.cs)&&!(x==("__debug__" : Str))
 |.glt x zs,e0=>bx (FX e0) λy=>decide (y=x)&&i6 S.sc x&&decide ((x,GK.t zs)∈S.cs)&&!(x==("__debug__" : Str))
 |.bin op a b,e0=>bx (OJ e0) λz=>decide (z.2.1=P6 op)&&cD S a z.1&&cD S b z.2.2
 |.neg a,e0=>bx (Ur e0) λz=>decide (z.1=.USub)&&cD S a z.2
 |.not a,e0=>bx (Ur e0) λz=>decide (z.1=.Not)&&cD S a z.2
 |.and es,e0=>bx (vBool e0) λz=>decide (z.1=.And)&&bU S es z.2
 |.or es,e0=>bx (vBool e0) λz=>decide (z.1=.Or)&&bU S es z.2
 |.cmp op a b,e0=>bx (F2 e0) λz=>decide (z.2.1=[Vx op])&&cD S a z.1&&bx (one z.2.2) λr=>cD S b r&&qQ r
 |.qW a t,e0=>bx (fc e0) λz=>decide (z.1=("isinstance" : Str))&&i6 S.sc z.1&&decide (z.1∈S.bl)&&bx (two z.2) λy=>cD S a y.1&&bx (FX y.2) λx=>decide (x=(tyName t:Str))&&i6 S.sc x&&decide (x∈S.bl)
 |.call f es,e0=>bx (fc e0) λz=>decide (S.fn f=some z.1)&&i6 S.sc z.1&&oH z.1&&bx (Uu z.2) λy=>bU S es (y.1::y.2)
 |.bf f es,e0=>bx (fc e0) λz=>decide (z.1=(tF f:Str))&&i6 S.sc z.1&&decide (z.1∈S.bl)&&bx (Uu z.2) λy=>bU S es (y.1::y.2)
 |.jV a,e0=>bx (fc e0) λz=>decide (z.1=("len" : Str))&&i6 S.sc z.1&&decide (z.1∈S.bl)&&bx (one z.2) λy=>bx (fc y) λw=>decide (w.1=("set" : Str))&&i6 S.sc w.1&&decide (w.1∈S.bl)&&bx (one w.2) λu=>cD S a u
 |.ix a b,e0=>bx (n8 e0) λz=>cD S a z.1&&cD S b z.2
 |.tup es,e0=>bx (Ad e0) λxs=>bU S es xs&&decide (es.length<=1000)
 |.lst es,e0=>bx (wG e0) λxs=>bU S es xs&&decide (es.length<=1000)
 |.comp n t caps ik es bN elt,e0=>bx (IL e0) λz=>bx (one z.2.1) λg=>decide (g.is_async=0)&&tq S n t caps g.target z.2.2&&qQ g.iter&&decide (bN.length<=1)&&bU (S.inner g.target caps z.2.2) bN g.ifs&&cD (S.inner g.target caps z.2.2) elt z.1 &&
     (match ik with
      |.lz=>bx (fc g.iter) λw=>decide (w.1=("range" : Str))&&i6 S.sc w.1&&decide (w.1∈S.bl)&&bx (one w.2) λy=>bU S es [y]
      |.seq=>bU S es [g.iter]
      |.cz p=>S_ g.iter&&(decide (1100<=p)||gX g.target)&&bx (S.px.pi p S.sc S.bl g.iter) λxs=>bU S es xs)
noncomputable def bU(S:Sx):aD->aw->Bool
 |[],es=>match es with
  |[]=>true
  |_::_=>false
 |c::cs,es=>match es with
  |[]=>false
  |e::es=>cD S c e&&bU S cs es
end
def Gh(K:aq)(n:Nat)(m:av):Sp:=λvs H Q _=>∃(F:aj) (ds:ab) (r:D),vs.length=n/\aB (aU K H) (nd K F (λ_=>False) (λ_=>none) H) [] 0 vs ds/\m ds=ok r /\
 ∀v H',aJ H H'->(∃τt:Addr->Option bg,(∀p q,τt p=some q->H p=none)/\Rep (aU K H') (nd K (λp=>F p\/H p=none) (λ_=>False) τt H') [] v r)->Q v H'
structure NQ(X:Cx)(k:Nat)(x:Str)(m:av):Prop where
 ex:∃(f:Addr) (fd:FuncData) (ps:au),jK X.prog X.w X.K X.mg X.base BA k f fd ps (Gh X.K ps.length m)/\X.mg x=some (.ref f)/\PySem.W.keepIn X.K (.ref f)=true/\Binds X.K fd ps []/\∀ds r,m ds=ok r->ds.length=ps.length
noncomputable def kinds:List String:=["NoneType","bool","int","str","list","tuple","dict"]
def QD:Ty->String->Bool
 |.int,s=>s == "int" ||s == "bool"
 |t,s=>s==tyName t
theorem aJ.upd{H:Hp}{p:Addr}{o:HO}(h:H p=none):aJ H (upd H p o):=λb u e=>by
 rw[aY (by rintro rfl;rw[h]at e;cases e)];exact e
theorem vj{i j:Int}(h:eN i j=true):IntMulOk i j:=by
 unfold eN at h;simp only[Bool.or_eq_true,Bool.and_eq_true,decide_eq_true_eq]at h;rcases h with (h|h)|⟨h1,h2⟩
 ·exact .of_left (intBits_le h)
 ·exact .of_right (intBits_le h)
 ·have b1:Builtin.Int.intBits i<=9000:=intBits_le h1;have b2:Builtin.Int.intBits j<=9000:=intBits_le h2;unfold IntMulOk;have hb:Builtin.Int.intTooBig ((Builtin.Int.intBits i:Int)+(Builtin.Int.intBits j:Int))=false:=by
   unfold Builtin.Int.intTooBig;have:(bitsLine:Int)=134217728:=by decide
   exact aa4 (by left)
  rw[hb];simp
section
variable {K:aq}{R:aj}{τ τt:Addr->Option bg}{fv:aN}{H H':Hp}
theorem G3:j7 X (binaryOp .Add) (λx y H Q=>∃a b xs ys,x=.ref a/\y=.ref b/\aU X.K H a xs/\aU X.K H b ys/\xs.length+ys.length<=sizeLine/\(xs=[]->Q (.ref b) H)/\(ys=[]->Q (.ref a) H)/\∀p,H p=none->Q (.ref p) (upd H p (.tup (xs++ys)))):=by
 intro pins s σ H x y v u Q I rx ry h;obtain⟨a,b,xs,ys,rfl,rfl,ha,hb,hz,q0,q1,q2⟩:=h;cases rx;cases ry;by_cases hx:xs=[]
 ·subst hx;obtain⟨aI,r1,p1,_⟩:=I.tuple ha;obtain⟨mU,r2,p2,_⟩:=I.tuple hb;cases r1;obtain⟨⟨cls,dd,data,sl⟩,ho,hc,n,hd⟩:=id p1;obtain⟨⟨Ia,zN,data2,yA⟩,sL,hc2,n2,hd2⟩:=id p2;simp only at hc hd hc2 hd2;subst hc hd hc2 hd2;exact concat_meets ⟨_,ho,rfl⟩ ⟨_,sL,rfl⟩ noFill_tuple_add seq_tuple_add abR abO (abL _ _)
   (tuple_addW0 a b [].toArray mU.toArray n n2 dd zN sl yA rfl) ⟨ho,sL,⟨.ref b,H,I,rfl,q0 rfl⟩⟩
 ·exact G1 pins s σ H (.ref a) (.ref b) _ _ Q I rfl rfl ⟨a,b,xs,ys,rfl,rfl,ha,hb,hx,hz,q1,λ_=>q2⟩
theorem nd.ph(k k':bg)(p:Addr)(xs:Nd)(f:Fl)(h:nd K R A (λ_=>none) H k p xs f):nd K R A (λ_=>none) H k' p xs f:=by
 cases f with
 |ow=>exact nomatch h.2
 |fz=>exact h
 |al=>exact h
 |sc=>exact h
theorem Qb(Si:SI X F R τ ρ σ H)(fr:∀p q,τt p=some q->H p=none)(k k':bg)(p:Addr)(xs:Nd)(f:Fl)(h:nd K R (jQ (gP X F) τ fv) τt H' k p xs f):
  nd K R (jQ (gP X F) τ fv) (λ_=>none) H' k' p xs (bo f):=by
 cases f with
 |ow=>exact⟨h.1,.inr (Si.same.free (fr p _ h.2)),λc i e=>absurd (fr p _ h.2) (Si.th p _ e)⟩
 |fz=>exact h
 |al=>exact h
 |sc=>exact h
theorem aB.fe{k:bg}{n:Nat}(h:aB (aU K H') (nd K R (jQ (gP X F) τ fv) τt H') k n xs ds)(Si:SI X F R τ ρ σ H)(fr:∀p q,τt p=some q->H p=none){n':Nat}:
  aB (aU K H') (nd K R (jQ (gP X F) τ fv) (λ_=>none) H') k' n' xs (aA bo ds):=aB.iW (λ_ _ h=>h) (Qb Si fr) h _ _
theorem Rep.fe{k:bg}{v:V}{d:D}(h:Rep (aU K H') (nd K R (jQ (gP X F) τ fv) τt H') k v d)(Si:SI X F R τ ρ σ H)(fr:∀p q,τt p=some q->H p=none):
  Rep (aU K H') (nd K R (jQ (gP X F) τ fv) (λ_=>none) H') k' v (aS bo d):=Rep.iW (λ_ _ h=>h) (Qb Si fr) h _
theorem aB.rep{A:aj}{xs:ae}{ds:ab}(h:aB (aU K H) (nd K R A (λ_=>none) H) [] 0 xs (aA bo ds)):∀n:Nat,aB (aU K H) (nd K R A (λ_=>none) H) [] 0 (List.replicate n xs).flatten (aA bo (List.replicate n ds).flatten)
 |0=>.nil
 |n+1=>by
  rw[List.replicate_succ,List.replicate_succ,List.flatten_cons,List.flatten_cons,aQ,List.map_append,<- aQ,<- aQ];exact aB.nQ nd.ph h (aB.rep h n)
theorem bX.vi{p:Addr}(hp:H p=none)(e:aJ H H')(hl:H' p=some (.lst xs))(r:aB (aU K H') (nd K R (jQ G τ fv) (λ_=>none) H') [] 0 xs ds):bX K G R τ fv H H' (.ref p) (.lst .ow ds):=by
 refine⟨λq=>if q=p then some []else none,λq k hq=>?_,.lst ⟨hl,by simp⟩ (r.imp (λ_ _ h=>h) λc q xs f h=>?_)⟩
 ·by_cases tZ:q=p
  ·subst tZ;exact hp
  ·simp[tZ]at hq
 ·cases f with
  |ow=>exact nomatch h.2
  |fz=>exact h
  |al=>exact h
  |sc=>exact h
end
theorem Hh(K:aq):∀t:Ty,∀s∈kinds,PySem.W.kitOne K (.type s) (.type (tyName t))=some (QD t s):=by
 intro t s hs;simp only[kinds,List.mem_cons,List.not_mem_nil,or_false]at hs;cases t<;>rcases hs with rfl|rfl|rfl|rfl|rfl|rfl|rfl<;>rfl
structure PX(X:Cx)(sc:Scope)(bl:au)(k:Nat):Prop where
 sc:X.env.scope=sc
 calm:X.calm=true
 room:gm k X.A
 bl:∀x∈bl,X.mg x=none
theorem PX.gl{sc:Scope}{bl:au}{k:Nat}(L:PX X sc bl k){x:Str}(h:i6 sc x=true):Gl X x:=by
 unfold Gl;show X.env.scope.names.lookup x=some .globalImplicit;rw[L.sc];exact aae h
def mL(X:Cx)(F:aj)(Φ:aT):aD->aw->Prop
 |[],[]=>True
 |c::cs,a::as=>PE X a (tD X F Φ c)/\(∀es,starEach (a::es) X.env=(false,eval a X.env)::starEach es X.env)/\nU a/\mL X F Φ cs as
 |_,_=>False
structure we(K:aq)(H2:Hp)(vs:ae)(xs:ab)(H':Hp):Prop where
 n0:∃R0:aj,aB (aU K H2) (nd K R0 (λ_=>False) (λ_=>none) H2) [] 0 vs (aA aW xs)/\∀p o,R0 p->H2 p=some o->H' p=some o
 tp:∀a ys,aU K H2 a ys->aU K H' a ys
structure NH(K:aq)(J:It)(H2:Hp)(vs:ae)(xs items:ab):Prop where
 go:∀i H' R',we K H2 vs xs H'->aB (aU K H') (nd K R' (λ_=>False) (λ_=>none) H') [] 0 vs (aA aW xs)->i<items.length->J.go i H'
 wx:∀i H' R' x m_,we K H2 vs xs H'->aB (aU K H') (nd K R' (λ_=>False) (λ_=>none) H') [] 0 vs (aA aW xs)->i<items.length->J.wx i H' x m_->aJ H' m_/\∃d,items[i]?=some d/\Rep (aU K m_) (nd K R' (λ_=>False) (λ_=>none) m_) [] x d
 stop:∀i H' R',we K H2 vs xs H'->aB (aU K H') (nd K R' (λ_=>False) (λ_=>none) H') [] 0 vs (aA aW xs)->items.length<=i->J.stop i H'
structure x8(px:Px)(Φ:aT):Prop where
 e:∀(X:Cx) (sc:Scope) (bl:au) (k:Nat),PX X sc bl k->∀(p:Nat) (e:Expr) (args:aw),px.pe p sc bl e=some args->∀(F:aj) (cs:aD),mL X F Φ cs args->PE X e (tD X F Φ (.cz p cs))/\PT X e (gL X F Φ (.cz p cs))
 i:∀(X:Cx) (sc:Scope) (bl:au) (k:Nat),PX X sc bl k->∀(p:Nat) (e:Expr) (args:aw),px.pi p sc bl e=some args->∀(F:aj) (cs:aD) (tg:Expr),(decide (1100<=p)||gX tg)=true->mL X F Φ cs args ->
  ∀(pins:ak) (s:Shared) (σ:St) (H:Hp) (R:aj) (τ:Addr->Option bg) (ρ:bc) (xs:ab) (d:D) (items:ab),Inv X pins σ H s->SI X F R τ ρ σ H->b9 Φ cs ρ=ok xs->Φ p xs=ok d->kH d=ok items->∀Rr:It->Hp->Prop,
   (∀J H2 vs,aJ H H2->cx X.K (gP X F) R τ (cW cs) H H2 vs xs->NH X.K J H2 vs xs items->Rr J H2) ->
   wpAny (model X.prog X.w) X.A (eval e X.env) (λv s1=>wpAny (model X.prog X.w) X.A (pyIter v) (Fh X pins σ tg Rr) X.xe s1) X.xe s
def FG(K:aq):GK->Value->Prop
 |.i i,u=>RelV (.int i) u
 |.t zs,u=>∃(a:Addr) (o:Obj) (aI:aK) (n:Nat),u=.ref a/\K.lookup a=some o/\o.cls=.type "tuple" /\ o.data=.seq aI n/\aI.size<=sizeLine/\Vals (zs.map V.int) aI.toList
structure Lk(X:Cx)(S:Sx)(k:Nat)(Φ:aT):Prop where
 sc:X.env.scope=S.sc
 N:X.N=S.N
 nd:X.N.Nodup
 calm:X.calm=true
 room:gm k X.A
 bl:∀x∈S.bl,X.mg x=none
 fn:∀f x,S.fn f=some x->NQ X k x (Φ f)
 cs:∀x i,(x,i)∈S.cs->∃u,X.mg x=some u/\FG X.K i u
 pr:x8 S.px Φ
variable {S:Sx}{Φ:aT}
theorem Lk.pX{k:Nat}(L:Lk X S k Φ):PX X S.sc S.bl k:=⟨L.sc,L.calm,L.room,L.bl⟩
variable {Q:VK}{p' pos pos':Pos}
section
variable {X:Cx}{S:Sx}{k:Nat}{F:aj}{Φ:aT}
theorem Lk.gl(L:Lk X S k Φ){x:Str}(h:i6 S.sc x=true):Gl X x:=by
 unfold Gl;show X.env.scope.names.lookup x=some .globalImplicit;rw[L.sc];exact aae h
theorem Lk.SD(L:Lk X S k Φ){x:Str}(h:J7 S.sc x=true):NI X.env.scope x:=by
 unfold NI;rw[L.sc];unfold J7 at h;rw[Bool.or_eq_true,Bool.or_eq_true]at h;rcases h with (h|h)|h
 ·exact .inl (aae h)
 ·exact .inr (.inl (aae h))
 ·exact .inr (.inr (aae h))
theorem tD.intro{c:CE}{d:D}(Si:SI X F R τ ρ σ H)(e:bp Φ c ρ=ok d)(h:∀v H',aJ H H'->bX X.K (gP X F) R τ (gN c) H H' v d->Q v H'):tD X F Φ c σ H Q:=⟨R,τ,ρ,d,Si,e,h⟩
theorem UY(L:Lk X S k Φ){i:Nat}{x:Str}(h:cD S (.v i) (.Name x pos)=true):PE X (.Name x pos) (tD X F Φ (.v i)):=by
 replace h:=aL h;replace h:=And.intro (aL h.1) h.2;obtain⟨⟨h1,h2⟩,h3⟩:=h;unfold oH at h3;simp only[Bool.and_eq_true,Bool.not_eq_true']at h3;refine PE.imp (xj (i:=i) (by rw[L.N];exact aae h1) (L.SD h2) h3.1.1 h3.1.2) λσ H Q hq=>?_;obtain⟨R,τ,ρ,d,Si,ev,hq⟩:=hq;obtain⟨d',hd,rfl⟩:=Cf ev
 ·obtain⟨v,hv,hr⟩:=Si.rep i d' hd;refine⟨v,hv,hq v H (aJ.refl H) ⟨λ_=>none,λ_ _ h=>by simp at h,?_⟩⟩;refine Rep.map (q:=[i]) (q':=[]) (λ_ _ h=>h) (λc p xs f h=>?_) hr [] rfl;cases f with
  |ow =>
   refine⟨h.1,.inr (Si.t0 p _ h.2),λc' j e=>?_⟩;rw[h.2]at e;have e':=aat e;have:=aa2 List.getLast? e';simp at this;show _∈[i];simp[this]
  |fz=>exact h
  |al=>exact h.2.elim
  |sc=>exact h
theorem jA{op:ID}{x y d:D}(QU:op≠.add/\op≠.mul)(h:cX op x y=ok d):∃i j,x=.int i/\y=.int j:=by
 cases x with
 |int i=>cases y with
  |int j=>exact⟨i,j,rfl,rfl⟩
  |_=>cases op<;>first|exact nk h | (simp at QU;done)
 |_=>cases op<;>first|exact nk h | (simp at QU;done)
theorem Kz(L:Lk X S k Φ){op:ID}{a b:CE}{l r:Expr}(ha:PE X l (tD X F Φ a))(hb:PE X r (tD X F Φ b)):PE X (.BinOp l (P6 op) r pos) (tD X F Φ (.bin op a b)):=by
 have two:∀{σ:St} {H:Hp} {Q:VK} {r2:R2},(∃R τ ρ d,SI X F R τ ρ σ H/\bp Φ (.bin op a b) ρ=ok d/\(∀v H',aJ H H'->bX X.K (gP X F) R τ (gN (.bin op a b)) H H' v d->Q v H') /\
   ∀x y v u H',cX op x y=ok d->aJ H H'->bX X.K (gP X F) R τ (gN (.bin op a b)) H H' v x->bX X.K (gP X F) R τ (gN (.bin op a b)) H H' u y->r2 v u H' Q)->IT r2 (tD X F Φ a) (tD X F Φ b) σ H Q:=by
  rintro σ H Q r2 ⟨R,τ,ρ,d,Si,ev,hq,hr⟩;obtain⟨x,ex,ev⟩:=aG ev;obtain⟨y,ey,ev⟩:=aG ev;refine tD.intro Si ex λv H1 e1 r1=>tD.intro (Si.go e1) ey λu H2 e2 r2=>?_;exact hr x y v u H2 ev (e1.trans e2) ((r1.go e2).mono λi hi=>aaP _ hi) ((r2.old e1).mono λi hi=>aao _ hi)
 have AM:∀{C:Int->Int->Prop} {g:Int->Int->Int},j7 X (binaryOp (P6 op)) (rI C λi j=>.int (g i j))->(∀x y d,cX op x y=ok d->∃i j,x=.int i/\y=.int j/\C i j/\d=.int (g i j)) ->
   PE X (.BinOp l (P6 op) r pos) (tD X F Φ (.bin op a b)):=by
  intro C g ho hd;refine PE.imp (CU ho ha hb) λσ H Q hq=>?_;obtain⟨R,τ,ρ,d,Si,ev,hq⟩:=hq;refine two ⟨R,τ,ρ,d,Si,ev,hq,λx y v u H' eb e rv ru=>?_⟩;obtain⟨i,j,rfl,rfl,c,rfl⟩:=hd x y d eb;exact⟨i,j,rv.isInt,ru.isInt,c,hq _ H' e .int⟩
 cases op with
 |sub =>
  refine AM (C:=λ_ _=>True) (g:=λi j=>i - j) (Lq λ_ _ _ _ _ _ _ _ q=>sub_int q) λx y d h=>?_;obtain⟨i,j,rfl,rfl⟩:=jA (by simp) h;cases h;exact⟨_,_,rfl,rfl,trivial,rfl⟩
 |mod =>
  refine AM (C:=λ_ j=>j≠0) (g:=λi j=>i.fmod j) G0 λx y d h=>?_;obtain⟨i,j,rfl,rfl⟩:=jA (by simp) h;obtain⟨h1,h⟩:=o7 h;subst h;exact⟨_,_,rfl,rfl,h1,rfl⟩
 |fdiv =>
  refine AM (C:=λ_ j=>rq j=true) (g:=λi j=>i.fdiv j) (Lq λi j _ _ _ _ _ hc q=>?_) λx y d h=>?_
  ·unfold rq at hc;rw[Bool.and_eq_true]at hc;have h1:j≠0:=aae hc.1;have h2:j.natAbs<big:=aae hc.2;exact floordiv_int h1 q (.inl (PyProof.noPylong_of_log2 ((Nat.log2_lt (by left)).mpr h2)))
  ·obtain⟨i,j,rfl,rfl⟩:=jA (by simp) h;obtain⟨h1,h⟩:=o7 h;subst h;exact⟨_,_,rfl,rfl,h1,rfl⟩
 |pow =>
  refine AM (C:=λi j=>yJ i j=true) (g:=λi j=>i ^ j.toNat) (Lq λi j _ _ _ _ _ hc q=>?_) λx y d h=>?_
  ·unfold yJ at hc;simp only[Bool.and_eq_true,decide_eq_true_eq]at hc;exact pow_int_small hc.1.1 hc.1.2 hc.2 q
  ·obtain⟨i,j,rfl,rfl⟩:=jA (by simp) h;obtain⟨h1,h⟩:=o7 h;subst h;exact⟨_,_,rfl,rfl,h1,rfl⟩
 |shr =>
  refine AM (C:=λ_ j=>0<=j) (g:=λi j=>i / 2 ^ j.toNat) Lj λx y d h=>?_;obtain⟨i,j,rfl,rfl⟩:=jA (by simp) h;obtain⟨h1,h⟩:=o7 h;subst h;exact⟨_,_,rfl,rfl,h1,rfl⟩
 |band =>
  refine AM (C:=λ_ j=>j=1) (g:=λi _=>i % 2) (Lq λi j _ _ _ _ _ hc q=>by subst hc;exact and_int (by rw[bitAnd_m1];exact q)) λx y d h=>?_;obtain⟨i,j,rfl,rfl⟩:=jA (by simp) h;obtain⟨h1,h⟩:=o7 h;subst h;exact⟨_,_,rfl,rfl,h1,rfl⟩
 |mul =>
  have hi:j7 X (binaryOp .Mult) (rI (λi j=>eN i j=true) λi j=>.int (i*j)):=Lq λi j _ _ _ _ _ hc q=>mul_int q (vj hc);refine PE.imp (CU (hi.or Ll) ha hb) λσ H Q hq=>?_;obtain⟨R,τ,ρ,d,Si,ev,hq⟩:=hq;refine two ⟨R,τ,ρ,d,Si,ev,hq,λx y v u H' eb e rv ru=>?_⟩;cases y with
  |int j =>
   cases x with
   |int i =>
    obtain⟨h1,eb⟩:=o7 eb;subst eb;exact .inl ⟨i,j,rv.isInt,ru.isInt,h1,hq _ H' e .int⟩
   |lst f a =>
    obtain⟨hc,eb⟩:=o7 eb
    ·subst eb;obtain⟨τt,fr,rp⟩:=rv;obtain⟨p,xs,rfl,hn,rs⟩:=rp.rM;have hz:sizeLine=16777216:=aa6;have mY:cP=1000000:=rfl;refine .inr ⟨p,j,xs,rfl,ru.isInt,hn.lst hc.1,by left,by left,by rw[rs.length];left,λp' xC=>?_⟩;have es:aJ H' (upd H' p' (.lst (List.replicate j.toNat xs).flatten)):=aJ.upd xC;refine hq _ _ (e.trans es) (bX.vi (e.free xC) (e.trans es) (aX) ?_);exact(aB.rep (rs.fe Si fr) j.toNat).imp (λ_ _ h=>aU.same es h) λ_ _ _ _ h=>nd.same es h
   |_=>cases eb
  |_=>cases x<;>cases eb
 |add =>
  refine PE.imp (CU ((Lp.or Lo).or G3) ha hb) λσ H Q hq=>?_;obtain⟨R,τ,ρ,d,Si,ev,hq⟩:=hq;refine two ⟨R,τ,ρ,d,Si,ev,hq,λx y v u H' eb e rv ru=>?_⟩;have hz:sizeLine=16777216:=aa6;have mY:cP=1000000:=rfl;cases x with
  |int i =>
   cases y with
   |int j =>
    cases eb;exact .inl (.inl ⟨i,j,rv.isInt,ru.isInt,hq _ H' e .int⟩)
   |_=>cases eb
  |lst f a =>
   cases y with
   |lst g b =>
    obtain⟨hc,eb⟩:=o7 eb
    ·subst eb;obtain⟨τt,fr,rp⟩:=rv;obtain⟨Ul,Ol,Va⟩:=ru;obtain⟨p,xs,rfl,hn,rs⟩:=rp.rM;cases Va with
     | @lst _ p2 xs2 _ _ Ob Fq =>
      refine .inl (.inr ⟨p,p2,xs,xs2,rfl,rfl,hn.lst hc.1,Ob.lst hc.2.1,by rw[rs.length,Fq.length];left,λp' xC=>?_⟩);have es:aJ H' (upd H' p' (.lst (xs++xs2))):=aJ.upd xC;refine hq _ _ (e.trans es) (bX.vi (e.free xC) (e.trans es) (aX) ?_);rw[aQ,List.map_append,<- aQ,<- aQ];exact(aB.nQ nd.ph (n:=0) (m:=0) (rs.fe Si fr) (Fq.fe Si Ol)).imp (λ_ _ h=>aU.same es h) λ_ _ _ _ h=>nd.same es h
   |_=>cases eb
  |tup a =>
   cases y with
   |tup b =>
    obtain⟨hc,eb⟩:=o7 eb;subst eb;obtain⟨τt,fr,rp⟩:=rv;obtain⟨Ul,Ol,Va⟩:=ru;cases rp with
    | @tup _ p xs _ hn rs =>
     cases Va with
     | @tup _ p2 xs2 _ Ob Fq =>
      have hl:=rs.length;have vF:=Fq.length;refine .inr ⟨p,p2,xs,xs2,rfl,rfl,hn,Ob,by rw[hl,vF];left,λz=>?_,λz=>?_,λp' xC=>?_⟩
      ·subst z;cases rs;exact hq _ H' e ⟨λ_=>none,λ_ _ h=>by simp at h,.tup Ob (Fq.fe Si Ol)⟩
      ·subst z;cases Fq;refine hq _ H' e ⟨λ_=>none,λ_ _ h=>by simp at h,.tup hn ?_⟩;rw[List.append_nil];exact rs.fe Si fr
      ·have es:aJ H' (upd H' p' (.tup (xs++xs2))):=aJ.upd xC;refine hq _ _ (e.trans es) ⟨λ_=>none,λ_ _ h=>by simp at h,.tup (aU.of aX) ?_⟩;rw[aQ,List.map_append,<- aQ,<- aQ];exact(aB.nQ nd.ph (n:=0) (m:=0) (rs.fe Si fr) (Fq.fe Si Ol)).imp (λ_ _ h=>aU.same es h) λ_ _ _ _ h=>nd.same es h
   |_=>cases eb
  |_=>cases y<;>cases eb
end
section
variable {T T':kj}{N N':iJ}{P:Fl->Bool}
theorem Rep.without(hT:∀p xs,T p xs->T' p xs)(hN:∀k k' p xs f,P f=false->N k p xs f->N' k' p xs f){k:bg}{v:V}{d:D}(h:Rep T N k v d)(e:aR P d=false)(k':bg):Rep T' N' k' v d:=by
 have:=Rep.gen (g:=id) (P:=P) (N':=N') (C:=λ_ _=>True) (I:=λ_ _=>True) hT trivial (λ_ _ e=>e) (λ_ _ _ _ e _=>e) (λk k' p xs f _ e h=>hN k k' p xs f e h) h (k':=k') trivial e;rw[d9]at this;exact this
theorem aB.without(hT:∀p xs,T p xs->T' p xs)(hN:∀k k' p xs f,P f=false->N k p xs f->N' k' p xs f){k:bg}{n:Nat}(h:aB T N k n vs ds)(e:aM P ds=false)(k':bg)(n':Nat):aB T' N' k' n' vs ds:=by
 have:=aB.gen (g:=id) (P:=P) (N':=N') (C:=λ_ _=>True) (I:=λ_ _=>True) hT trivial (λ_ _ e=>e) (λ_ _ _ _ e _=>e) (λk k' p xs f _ e h=>hN k k' p xs f e h) h (k':=k') (n':=n') trivial trivial e;rw[dZ]at this;exact this
theorem Rep.km(hT:∀p xs,T p xs->T' p xs)(hN:∀k p xs f,P f=false->N k p xs f->N' k p xs f){k:bg}{v:V}{d:D}(h:Rep T N k v d)(e:aR P d=false):Rep T' N' k v d:=by
 have:=Rep.gen (g:=id) (P:=P) (N':=N') (C:=λa b=>a=b) (I:=λa b=>a=b) hT rfl (λ_ _ e=>by rw[e]) (λ_ _ _ _ a b=>by rw[a,b]) (λk k' p xs f c e h=>by subst c;exact hN k p xs f e h) h rfl e;rw[d9]at this;exact this
theorem aB.km(hT:∀p xs,T p xs->T' p xs)(hN:∀k p xs f,P f=false->N k p xs f->N' k p xs f){k:bg}{n:Nat}(h:aB T N k n vs ds)(e:aM P ds=false):aB T' N' k n vs ds:=by
 have:=aB.gen (g:=id) (P:=P) (N':=N') (C:=λa b=>a=b) (I:=λa b=>a=b) hT rfl (λ_ _ e=>by rw[e]) (λ_ _ _ _ a b=>by rw[a,b]) (λk k' p xs f c e h=>by subst c;exact hN k p xs f e h) h rfl rfl e;rw[dZ]at this;exact this
end
theorem Rep.sE{k:bg}{v:V}{d:D}(h:Rep (aU K H) (nd K R (λ_=>False) (λ_=>none) H) k v d):Rep (aU K H) (nd K R (λ_=>False) (λ_=>none) H) k' v d:=by
 have:=Rep.iW (g:=id) (λ_ _ h=>h) nd.ph h k';rw[d9]at this;exact this
def ic(X:Cx)(R:aj)(τ:Addr->Option bg)(H:Hp)(v:V)(d:D):Prop :=
 ∃τt:Addr->Option bg,(∀p q,τt p=some q->τ p=none/\¬ R p/\X.H₀ p=none/\H p≠none)/\Rep (aU X.K H) (nd X.K R (λ_=>False) τt H) [] v d
section
variable {X:Cx}{F R:aj}{τ:Addr->Option bg}{ρ:bc}{σ:St}{H H':Hp}
theorem SI.set{i:Nat}{v:V}{d:D}(Si:SI X F R τ ρ σ H)(r:ic X R τ H v d)(hi:i<ρ.length):∃τ',SI X F R τ' (ρ.set i (some d)) (σ.set i (some v)) H:=by
 obtain⟨τt,ht,rp⟩:=r;refine⟨λp=>match τt p with|some q=>some (q++[i])|none=>τ p,⟨by simp[Si.len],λj d' hj=>?_,λp hp=>?_,Si.rh,Si.rf,λp q hq=>?_,λp q hq=>?_,Si.same⟩⟩
 ·by_cases jx:j=i
  ·subst jx;rw[List.getElem?_set_self hi]at hj;cases hj;refine⟨v,List.getElem?_set_self (by rw[<- Si.len];exact hi),rp.imp (q':=[j]) (λ_ _ h=>h) λc p xs f h=>?_⟩;cases f with
   |ow=>rw[List.append_nil]at h;exact⟨h.1,by simp only[h.2]⟩
   |fz=>exact h
   |al=>exact h
   |sc=>exact h
  ·rw[List.getElem?_set_ne (Ne.symm jx)]at hj;obtain⟨w,hw,jH⟩:=Si.rep j d' hj;refine⟨w,by rw[List.getElem?_set_ne (Ne.symm jx)];exact hw,jH.imp (λ_ _ h=>h) λc p xs f h=>?_⟩;cases f with
   |ow =>
    refine⟨h.1,?_⟩;cases q:τt p with
    |none=>simp only[q];exact h.2
    |some k=>have:=(ht p k q).1;rw[h.2]at this;cases this
   |fz=>exact h
   |al=>exact h
   |sc=>exact h
 ·cases q:τt p with
  |none=>simp only[q];exact Si.rt p hp
  |some k=>exact absurd hp (ht p k q).2.1
 ·cases z:τt p with
  |none=>simp only[z]at hq;exact Si.th p q hq
  |some k=>exact(ht p k z).2.2.2
 ·cases z:τt p with
  |none=>simp only[z]at hq;exact Si.t0 p q hq
  |some k=>exact(ht p k z).2.2.1
theorem AS{k:bg}{v:V}{d:D}(h:Rep (aU X.K H) (nd X.K R (λ_=>False) τ H) k v d)(ho:aR cK d=false):ic X R τ H v d :=
 ⟨λ_=>none,λ_ _ h=>by simp at h,Rep.without (P:=cK) (λ_ _ h=>h) (λk k' p xs f hf h=>by
  cases f with
  |ow=>cases hf
  |fz=>exact h
  |al=>exact h.2.elim
  |sc=>exact h) h ho _⟩
open Classical in
theorem SI.move{i:Nat}{d:D}(Si:SI X F R τ ρ σ H)(hd:ρ[i]?=some (some d)):∃v τ',σ[i]?=some (some v)/\SI X F R τ' (ρ.set i none) σ H/\ic X R τ' H v d:=by
 obtain⟨v,hv,rp⟩:=Si.rep i d hd;refine⟨v,λp=>match τ p with|some q=>if q.getLast?=some i then none else some q|none=>none,hv,⟨by simp[Si.len],λj d' hj=>?_,λp hp=>?_,Si.rh,Si.rf,λp q hq=>?_,λp q hq=>?_,Si.same⟩,
  λp=>match τ p with|some q=>if q.getLast?=some i then(if H p=none then none else some q.dropLast)else none|none=>none,λp q hq=>?_,rp.imp (q:=[i]) (q':=[]) (λ_ _ h=>h) λc p xs f h=>?_⟩
 ·by_cases jx:j=i
  ·subst jx;rw[List.getElem?_set]at hj;simp at hj
  ·rw[List.getElem?_set_ne (Ne.symm jx)]at hj;obtain⟨w,hw,jH⟩:=Si.rep j d' hj;refine⟨w,hw,jH.imp (q:=[j]) (q':=[j]) (λ_ _ h=>h) λc p xs f h=>?_⟩;cases f with
   |ow =>
    refine⟨h.1,?_⟩;simp only[h.2];rw[if_neg (by simp;exact jx)]
   |fz=>exact h
   |al=>exact h
   |sc=>exact h
 ·simp only[Si.rt p hp]
 ·cases z:τ p with
  |none=>simp only[z]at hq;cases hq
  |some k=>exact Si.th p k z
 ·cases z:τ p with
  |none=>simp only[z]at hq;cases hq
  |some k=>exact Si.t0 p k z
 ·cases z:τ p with
  |none=>simp only[z]at hq;cases hq
  |some k =>
   simp only[z]at hq ⊢;by_cases hl:k.getLast?=some i
   ·rw[if_pos hl];exact⟨rfl,(λhR=>by have:=Si.rt p hR;rw[z]at this;cases this),Si.t0 p k z,Si.th p k z⟩
   ·rw[if_neg hl]at hq;cases hq
 ·cases f with
  |ow =>
   refine⟨h.1,?_⟩;have hn:H p≠none:=h.1.ne;simp only[h.2];rw[if_pos (by simp),if_neg hn];simp
  |fz=>exact h
  |al=>exact h.2.elim
  |sc=>exact h
theorem zA(is:aN)(ρ:bc)(j:Nat)(d:D)(h:(iI is ρ)[j]?=some (some d)):∃d',ρ[j]?=some (some d')/\d=(if j∈is then aS aW d' else d'):=by
 unfold iI at h;rw[List.getElem?_mapIdx]at h;cases q:ρ[j]? with
 |none=>rw[q]at h;exact nk h
 |some o =>
  rw[q]at h;cases o with
  |none=>simp at h
  |some d' =>
   refine⟨d',rfl,?_⟩;by_cases hj:j∈is
   ·simp[hj]at h ⊢;exact h.symm
   ·simp[hj]at h ⊢;exact h.symm
open Classical in
theorem zB(Si:SI X F R τ ρ σ H)(es:aJ H H'):
  ∃R' τ',(∀p,R p->R' p)/\SI X F R' τ' (iI fv ρ) σ H'/\∀τt:Addr->Option bg,(∀p q,τt p=some q->H p=none)->∀(k k':bg) (p:Addr) (xs:Nd) (f:Fl),nd X.K R (jQ (gP X F) τ fv) τt H' k p xs f->nd X.K R' (λ_=>False) (λ_=>none) H' k' p xs (aW f):=by
 have f9:=Si.go es;have fresh:∀p,H p=none->jQ (gP X F) τ fv p:=λp hp=>⟨.inr (Si.same.free hp),λc i e=>absurd hp (Si.th p _ e)⟩
 refine⟨λp=>R p\/(H' p≠none/\jQ (gP X F) τ fv p),λp=>if jQ (gP X F) τ fv p then none else τ p,λp h=>.inl h,⟨by simp[iI,Si.len],λj d' hj=>?_,λp hp=>?_,λp hp=>?_,λp hp=>?_,λp q hq=>?_,λp q hq=>?_,f9.same⟩,λτt fr k k' p xs f h=>?_⟩
 ·obtain⟨d0,h0,e0⟩:=zA _ _ _ _ hj;obtain⟨w,hw,jH⟩:=f9.rep j d0 h0;refine⟨w,hw,?_⟩;by_cases TB:j∈fv
  ·rw[if_pos TB]at e0;subst e0;refine Rep.map (q:=[j]) (q':=[j]) (λ_ _ h=>h) (λc p xs f h=>?_) jH [] rfl;cases f with
   |ow =>
    refine⟨h.1,.inr ⟨h.1.ne,.inr (Si.t0 p _ h.2),λc' i' e'=>?_⟩⟩;rw[h.2]at e';have:=aa2 List.getLast? (aat e');simp at this;subst this;exact TB
   |fz=>exact⟨h.1,.inl h.2⟩
   |al=>exact h.2.elim
   |sc=>exact h
  ·rw[if_neg TB]at e0;subst e0;refine jH.imp (q:=[j]) (q':=[j]) (λ_ _ h=>h) λc p xs f h=>?_;cases f with
   |ow =>
    refine⟨h.1,?_⟩;show(if jQ (gP X F) τ fv p then none else τ p)=some (c++[j]);rw[if_neg (λz=>TB (z.2 c j h.2))];exact h.2
   |fz=>exact⟨h.1,.inl h.2⟩
   |al=>exact h.2.elim
   |sc=>exact h
 ·rcases hp with hp|hp
  ·simp only[Si.rt p hp];split<;>rfl
  ·rw[if_pos hp.2]
 ·rcases hp with hp|hp
  ·exact f9.rh p hp
  ·exact hp.1
 ·rcases hp with hp|hp
  ·exact Si.rf p hp
  ·exact hp.2.1
 ·split at hq
  ·cases hq
  ·exact f9.th p q hq
 ·split at hq
  ·cases hq
  ·exact Si.t0 p q hq
 ·cases f with
  |ow=>exact⟨h.1,.inr ⟨h.1.ne,fresh p (fr p _ h.2)⟩⟩
  |fz=>exact⟨h.1,.inl h.2⟩
  |al=>exact⟨h.1,.inr ⟨h.1.ne,h.2⟩⟩
  |sc=>exact h
theorem sT{v:V}{d:D}(Si:SI X F R τ ρ σ H)(es:aJ H H')(r:bX X.K (gP X F) R τ fv H H' v d):
  ∃R' τ',(∀p,R p->R' p)/\SI X F R' τ' (iI fv ρ) σ H'/\Rep (aU X.K H') (nd X.K R' (λ_=>False) (λ_=>none) H') [] v (aS aW d):=by
 obtain⟨τt,fr,rp⟩:=r;obtain⟨R',τ',h1,h2,h3⟩:=zB (fv:=fv) Si es;exact⟨R',τ',h1,h2,Rep.iW (λ_ _ h=>h) (h3 τt fr) rp _⟩
theorem vK(Si:SI X F R τ ρ σ H)(es:aJ H H')(r:cx X.K (gP X F) R τ fv H H' vs ds):
  ∃R' τ',(∀p,R p->R' p)/\SI X F R' τ' (iI fv ρ) σ H'/\aB (aU X.K H') (nd X.K R' (λ_=>False) (λ_=>none) H') [] 0 vs (aA aW ds):=by
 obtain⟨τt,fr,rp⟩:=r;obtain⟨R',τ',h1,h2,h3⟩:=zB (fv:=fv) Si es;exact⟨R',τ',h1,h2,aB.iW (λ_ _ h=>h) (h3 τt fr) rp _ _⟩
theorem nq{v:V}{d:D}(h:Rep (aU X.K H) (nd X.K R (λ_=>False) (λ_=>none) H) [] v d):ic X R τ' H v d:=⟨λ_=>none,λ_ _ h=>by simp at h,h⟩
open Classical in
theorem Jn{e:CE}{v:V}{d:D}(Si:SI X F R τ ρ σ H)(es:aJ H H')(r:bX X.K (gP X F) R τ (gN e) H H' v d):
  ∃R' τ',(∀p,R p->R' p)/\SI X F R' τ' (keep e d ρ).2 σ H'/\ic X R' τ' H' v (keep e d ρ).1:=by
 unfold keep;by_cases ha:aR bF d=true
 ·rw[if_pos ha];obtain⟨R',τ',h1,h2,h3⟩:=sT Si es r;exact⟨R',τ',h1,h2,nq h3⟩
 ·obtain⟨τt,fr,rp⟩:=r;rw[if_neg ha];refine⟨R,τ,λ_ h=>h,Si.go es,λp=>if H' p=none then none else τt p,λp q hq=>?_,?_⟩
  ·dsimp only at hq;split at hq
   ·cases hq
   ·rename_i hn;have hf:=fr p q hq;refine⟨?_,λhR=>Si.rh p hR hf,Si.same.free hf,hn⟩;cases z:τ p with
    |none=>rfl
    |some k=>exact absurd hf (Si.th p k z)
  ·have TL:aR bF d=false:=by simpa using ha
   have st:∀{k:bg} {v:V} {d:D},Rep (aU X.K H') (nd X.K R (jQ (gP X F) τ (gN e)) τt H') k v d->aR bF d=false->Rep (aU X.K H') (nd X.K R (λ_=>False) (λp=>if H' p=none then none else τt p) H') k v d:=by
    intro k v d h ha;exact Rep.km (P:=bF) (λ_ _ h=>h) (λk p xs f hf h=>by
     cases f with
     |ow=>exact⟨h.1,by show(if H' p=none then none else τt p)=_;rw[if_neg (h.1.ne)];exact h.2⟩
     |fz=>exact h
     |al=>cases hf
     |sc=>exact h) h ha
   exact st rp TL
open Classical in
def tK(X:Cx)(F:aj)(Φ:aT)(c:CE):TE:=λσ H Q=>∃R τ ρ r,SI X F R τ ρ σ H/\jY Φ c ρ=ok r/\∀v H' R' τ',aJ H H'->(∀p,R p->R' p)->SI X F R' τ' r.2 σ H'->ic X R' τ' H' v r.1->Q v H'
end
section
variable {T T':kj}{N N':iJ}
theorem aB.child{q:bg}(hT:∀p xs,T p xs->T' p xs)(hN:∀c m p xs f,N (c++(m::q)) p xs f->N' (c++(m::q)) p xs f):∀{n:Nat} {vs:ae} {ds:ab},aB T N q n vs ds->aB T' N' q n vs ds
 |_,_,_,.nil=>.nil
 |n,_,_,.cons h t=>.cons (Rep.imp (q:=n::q) (q':=n::q) hT (λc p xs f h=>hN c n p xs f h) h) (aB.child hT hN t)
theorem aB.yw{q:bg}{v:V}{d:D}:∀{n:Nat} {vs:ae} {ds:ab},aB T N q n vs ds->Rep T N ((n+ds.length)::q) v d->aB T N q n (vs++[v]) (ds++[d])
 |n,_,_,.nil,h=>.cons (by simpa using h) .nil
 |n,_,_,.cons (ds:=ds) h t,h'=>.cons h (aB.yw t (by
   have e:n+(ds.length+1)=n+1+ds.length:=by left
   rw[List.length_cons,e]at h';exact h'))
end
variable {d0:D}{n':Nd}
section
variable {X:Cx}{F R:aj}{τ:Addr->Option bg}{ρ:bc}{σ:St}{H:Hp}
theorem SI.own{i:Nat}(Si:SI X F R τ ρ σ H)(hi:ρ[i]?=some (some (.lst .ow ds))):∃p xs,σ[i]?=some (some (.ref p))/\H p=some (.lst xs)/\xs.length=ds.length/\τ p=some [i]/\aB (aU X.K H) (nd X.K R (λ_=>False) τ H) [i] 0 xs ds:=by
 obtain⟨v,hv,rp⟩:=Si.rep i _ hi;cases rp with
 |lst h r=>exact⟨_,_,hv,h.1,r.length,h.2,r⟩
theorem lP{H:Hp}{p:Addr}{n:Nd}{o:HO}(hp:eB H p n){a:Addr}{ys:ae}(h:aU K H a ys):aU K (upd H p o) a ys:=by
 obtain⟨o0,DZ,QS,N_⟩:=eB.some hp;have nO:∀a u,H a=some u->u≠o0->a≠p:=λa u e h z=>by subst z;rw[DZ]at e;cases e;exact h rfl
 rcases h with (h|⟨o',h⟩)|h
 ·exact .inl (.inl (by rw[aY (nO a _ h λz=>QS _ z.symm)];exact h))
 ·exact .inl (.inr ⟨o',by rw[aY (nO a _ h λz=>N_ _ _ z.symm)];exact h⟩)
 ·exact .inr h
theorem SI.Pz{i m:Nat}{v:V}{d d1:D}{p:Addr}{n:Nd}{o:HO}(Si:SI X F R τ ρ σ H)(hi:ρ[i]?=some (some d0))(hv:σ[i]?=some (some (.ref p)))(hp:eB H p n)(ht:τ p=some [i])
  (rs:aB (aU X.K H) (nd X.K R (λ_=>False) τ H) [i] 0 xs ds) (rk:ic X R τ H v d) (wB:eB (upd H p o) p n')
  (mk:∀{N:iJ},N [i] p n' .ow->aB (aU X.K (upd H p o)) N [i] 0 xs' ds'->Rep (aU X.K (upd H p o)) N [i] (.ref p) d1)
  (hb:∀{N:iJ},aB (aU X.K (upd H p o)) N [i] 0 xs ds->Rep (aU X.K (upd H p o)) N (m::[i]) v d->aB (aU X.K (upd H p o)) N [i] 0 xs' ds') :
  ∃τ',SI X F R τ' (ρ.set i (some d1)) σ (upd H p o)/\τ' p=some [i]/\aB (aU X.K (upd H p o)) (nd X.K R (λ_=>False) τ' (upd H p o)) [i] 0 xs' ds':=by
 obtain⟨τt,hτ,rp⟩:=rk;have Od:i<ρ.length:=by
  by_cases z:i<ρ.length
  ·exact z
  ·rw[List.getElem?_eq_none (by left)]at hi;cases hi
 obtain⟨o0,DZ,QS,N_⟩:=eB.some hp;have nR:∀a,R a->a≠p:=λa ha e=>by subst e;rw[Si.rt _ ha]at ht;cases ht
 have nT:∀a q,τt a=some q->a≠p:=λa q e z=>by subst z;rw[(hτ _ q e).1]at ht;cases ht
 have nO:∀a u,H a=some u->u≠o0->a≠p:=λa u e h z=>by subst z;rw[DZ]at e;cases e;exact h rfl
 have keep:∀a,a≠p->(upd H p o) a=H a:=λa h=>aY h;have My:∀a ys,aU X.K H a ys->aU X.K (upd H p o) a ys:=λa ys h=>by
  rcases h with (h|⟨o',h⟩)|h
  ·exact .inl (.inl (by rw[keep a (nO a _ h λz=>QS _ z.symm)];exact h))
  ·exact .inl (.inr ⟨o',by rw[keep a (nO a _ h λz=>N_ _ _ z.symm)];exact h⟩)
  ·exact .inr h
 have TN:∀a (z:Nd),a≠p->eB H a z->eB (upd H p o) a z:=λa z ne h=>h.at λu e=>by rw[keep a ne];exact e
 have Y_:∀{τ1:Addr->Option bg} q q' a (z:Nd),nd X.K R (λ_=>False) τ1 H q a z .sc->∀τ2,nd X.K R (λ_=>False) τ2 (upd H p o) q' a z .sc:=λq q' a z h τ2=>by
  obtain⟨ys,rfl,h⟩:=h.Cm;exact h.elim (λ⟨o',w⟩=>.inl ⟨o',by rw[keep a (nO a _ w λz=>N_ _ _ z.symm)];exact w⟩) .inr
 have Zb:∀q a ys f,q≠[i]->nd X.K R (λ_=>False) τ H q a ys f->nd X.K R (λ_=>False) (λa=>match τt a with|some q=>some (q++[m,i])|none=>τ a) (upd H p o) q a ys f:=λq a ys f hq h=>by
  cases f with
  |ow =>
   have ne:a≠p:=λz=>by
    subst z;have:=h.2.symm.trans ht;exact hq (aat this)
   refine⟨TN a ys ne h.1,?_⟩;cases z:τt a with
   |none=>simp only[z];exact h.2
   |some k=>have:=(hτ a k z).1;rw[h.2]at this;cases this
  |fz=>exact⟨TN a ys (nR a h.2) h.1,h.2⟩
  |al=>exact h.2.elim
  |sc=>exact Y_ q q a ys h _
 have YO:(match τt p with|some q=>some (q++[m,i])|none=>τ p)=some [i]:=by
  cases z:τt p with
  |none=>exact ht
  |some k=>exact absurd rfl (nT p k z)
 have Za:aB (aU X.K (upd H p o)) (nd X.K R (λ_=>False) (λa=>match τt a with|some q=>some (q++[m,i])|none=>τ a) (upd H p o)) [i] 0 xs' ds':=hb (aB.child My (λc n a ys f h=>Zb _ a ys f (λz=>by
  have:=aa2 List.length z;simp at this) h) rs) (rp.imp (q:=[]) (q':=[m,i]) My λc a ys f h=>by
  cases f with
  |ow =>
   rw[List.append_nil]at h;exact⟨TN a ys (nT a _ h.2) h.1,by simp only[h.2]⟩
  |fz=>exact⟨TN a ys (nR a h.2) h.1,h.2⟩
  |al=>exact h.2.elim
  |sc=>exact Y_ _ _ a ys h _)
 refine⟨λa=>match τt a with|some q=>some (q++[m,i])|none=>τ a,⟨by simp[Si.len],λj d' hj=>?_,λa ha=>?_,λa ha=>?_,Si.rf,λa q hq=>?_,λa q hq=>?_,?_⟩,YO,Za⟩
 ·by_cases jx:j=i
  ·subst jx;rw[List.getElem?_set_self Od]at hj;cases hj;exact⟨.ref p,hv,mk ⟨wB,YO⟩ Za⟩
  ·rw[List.getElem?_set_ne (Ne.symm jx)]at hj;obtain⟨u,hu,ru⟩:=Si.rep j d' hj;refine⟨u,hu,ru.imp (q:=[j]) (q':=[j]) My λc a ys f h=>Zb _ a ys f (λz=>?_) h⟩;have:=aa2 List.getLast? z;simp at this;exact jx this
 ·cases z:τt a with
  |none=>simp only[z];exact Si.rt a ha
  |some k=>exact absurd ha (hτ a k z).2.1
 ·rw[keep a (nR a ha)];exact Si.rh a ha
 ·by_cases Y9:a=p
  ·subst Y9;rw[aX];simp
  ·rw[keep a Y9];cases z:τt a with
   |none=>simp only[z]at hq;exact Si.th a q hq
   |some k=>exact(hτ a k z).2.2.2
 ·cases z:τt a with
  |none=>simp only[z]at hq;exact Si.t0 a q hq
  |some k=>exact(hτ a k z).2.2.1
 ·intro a u e;have ne:a≠p:=λz=>by subst z;rw[Si.t0 _ _ ht]at e;cases e
  rw[keep a ne];exact Si.same a u e
theorem SI.PB{i m:Nat}{v:V}{d d1:D}{p:Addr}{n:Nd}{o:HO}(Si:SI X F R τ ρ σ H)(hi:ρ[i]?=some (some d0))(hv:σ[i]?=some (some (.ref p)))(hp:eB H p n)(ht:τ p=some [i])
  (rs:aB (aU X.K H) (nd X.K R (λ_=>False) τ H) [i] 0 xs ds) (rk:ic X R τ H v d) (wB:eB (upd H p o) p n')
  (mk:∀{N:iJ},N [i] p n' .ow->aB (aU X.K (upd H p o)) N [i] 0 xs' ds'->Rep (aU X.K (upd H p o)) N [i] (.ref p) d1)
  (hb:∀{N:iJ},aB (aU X.K (upd H p o)) N [i] 0 xs ds->Rep (aU X.K (upd H p o)) N (m::[i]) v d->aB (aU X.K (upd H p o)) N [i] 0 xs' ds') :
  ∃τ',SI X F R τ' (ρ.set i (some d1)) σ (upd H p o):=(Si.Pz hi hv hp ht rs rk wB mk hb).imp λ_ h=>h.1
theorem SI.put{i m:Nat}{v:V}{d:D}{g:ae->ae}{p:Addr}(Si:SI X F R τ ρ σ H)(hi:ρ[i]?=some (some (.lst .ow ds)))(hv:σ[i]?=some (some (.ref p)))(hp:H p=some (.lst xs))(ht:τ p=some [i])
  (rs:aB (aU X.K H) (nd X.K R (λ_=>False) τ H) [i] 0 xs ds) (rk:ic X R τ H v d)
  (hb:∀{N:iJ},aB (aU X.K (upd H p (.lst (g xs)))) N [i] 0 xs ds->Rep (aU X.K (upd H p (.lst (g xs)))) N (m::[i]) v d->aB (aU X.K (upd H p (.lst (g xs)))) N [i] 0 (g xs) ds') :
  ∃τ',SI X F R τ' (ρ.set i (some (.lst .ow ds'))) σ (upd H p (.lst (g xs))) :=
 Si.PB (n:=.l xs) (n':=.l (g xs)) hi hv hp ht rs rk aX (λh r=>.lst h r) hb
end
theorem j4{env:Env}:∀(names:List (Str×NameKind)) (acc:List (Str×Addr)),(∀x,(x,NameKind.free)∈names->∃c,env.cells.lookup x=some c) ->
  ∃cl,(forIn names acc (λ(y:Str×NameKind) (cs:List (Str×Addr))=>do
    let (name,kind):=y
    let mut cs:=cs
    if kind==.free then cs:=(name,<- cellOf env name)::cs
    pure (ForInStep.yield cs)):Sem (List (Str×Addr)))=pure cl /\
   (∀x c,cl.lookup x=some c->acc.lookup x=some c\/(env.cells.lookup x=some c/\(x,NameKind.free)∈names))/\(∀x,((x,NameKind.free)∈names\/(∃c,acc.lookup x=some c))->∃c,cl.lookup x=some c)
 |[],acc,_=>⟨acc,rfl,λx c h=>.inl h,λx h=>h.elim (λh=>nomatch h) id⟩
 | (n,kd)::names,acc,h=>by
  by_cases hk:kd=.free
  ·subst hk;obtain⟨c,hc⟩:=h n aaf;obtain⟨cl,e,h1,h2⟩:=j4 names ((n,c)::acc) (λx hx=>h x (aad _ hx));refine⟨cl,?_,λx c' hx=>?_,λx hx=>?_⟩
   ·rw[List.forIn_cons];have e0:cellOf env n=pure c:=by unfold cellOf;rw[hc]
    simp only[beq_self_eq_true,if_true,e0,pure_bind];exact e
   ·rcases h1 x c' hx with z|z
    ·by_cases QJ:x=n
     ·subst QJ;simp at z;subst z;exact .inr ⟨hc,aaf⟩
     ·rw[List.lookup_cons]at z;have:(x==n)=false:=by simpa using QJ
      rw[this]at z;exact .inl z
    ·exact .inr ⟨z.1,aad _ z.2⟩
   ·refine h2 x ?_;rcases hx with hx|⟨c',hx⟩
    ·rcases List.mem_cons.mp hx with z|z
     ·cases z;exact .inr ⟨c,by simp⟩
     ·exact .inl z
    ·by_cases QJ:x=n
     ·subst QJ;exact .inr ⟨c,by simp⟩
     ·refine .inr ⟨c',?_⟩;rw[List.lookup_cons];have:(x==n)=false:=by simpa using QJ
      rw[this];exact hx
  ·obtain⟨cl,e,h1,h2⟩:=j4 names acc (λx hx=>h x (aad _ hx));have hb:(kd==NameKind.free)=false:=by simpa using hk
   refine⟨cl,?_,λx c' hx=>(h1 x c' hx).imp id λz=>⟨z.1,aad _ z.2⟩,λx hx=>h2 x ?_⟩
   ·rw[List.forIn_cons];simp only[hb,Bool.false_eq_true,if_false,pure_bind];exact e
   ·rcases hx with hx|hx
    ·rcases List.mem_cons.mp hx with z|z
     ·cases z;exact absurd rfl hk
     ·exact .inl z
    ·exact .inr hx
variable {env:Env}
theorem xS{sc:Scope}(h:∀x,(x,NameKind.free)∈sc.names->∃c,env.cells.lookup x=some c):
  ∃cl,closureFor sc env=pure cl/\(∀x c,cl.lookup x=some c->env.cells.lookup x=some c)/\(∀x,(x,NameKind.free)∈sc.names->∃c,cl.lookup x=some c):=by
 obtain⟨cl,e,h1,h2⟩:=j4 (env:=env) sc.names [] h;refine⟨cl,?_,λx c hx=>(h1 x c hx).elim (λz=>by simp at z) (·.1),λx hx=>h2 x (.inl hx)⟩;unfold closureFor;simp only[bind_pure];exact e
variable {P prog:aF}{e1 e2 jJ iter o target tg:Expr}{w:World}
theorem s_{A:aE}{R:Result->Shared->Prop}{s:Shared}{elt:Expr}{ifs:aw}{scope:Scope}{it acc:Value}(I:Nat->Shared->Prop)
  (turn:∀n s,I n s->wpAny (model prog w) A (pyNext it) (λr s₁=>match r with
   |none=>R (.ok .next) s₁
   |some v=>wpAny (model prog w) A (letOwnedTupleGo target it v) (λ_ s₁=>wpAny (model prog w) A (assign target env v) (λ_ s₂ =>
     wpAny (model prog w) A (forIn ifs true λc r=>if r=true then do let ok <- isTrue c env (eval c env);pure (ForInStep.yield ok)else pure (ForInStep.yield r)) (λok s₃ =>
      if ok=true then wpAny (model prog w) A (eval elt env) (λx s₄ =>
       wpAny (model prog w) A (call (.builtin "list.append") [acc,x]) (λ_ s₅=>∃m,m<n/\I m s₅) (λ_ _=>False) s₄) (λ_ _=>False) s₃
      else ∃m,m<n/\I m s₃) (λ_ _=>False) s₂) (λ_ _=>False) s₁) (λ_ _=>False) s₁) (λ_ _=>False) s)
  (n:Nat) (h:I n s) :
  codeAny (model prog w) A (.compLoop (.ListComp elt [⟨target,iter,ifs,0⟩] scope pos) 0 it acc env) R s:=by
 refine codeAny_loop rfl I (λn s hI=>?_) n h;show wpAny _ A ((compTurn (.ListComp elt [⟨target,iter,ifs,0⟩] scope pos) 0 it acc env).onRaise (λx=>do noteFrame x env;theTreesLotGoes x)) _ _ s;refine wpAny_noted ?_;rw[compTurn_list];refine aaa (acq (aaa (aay (turn n s hI) (λr s₁ h₁=>?_) λ_ _ h'=>h'.elim)));cases r with
 |none=>exact aac h₁
 |some v =>
  refine aaa (aay h₁ (λ_ s₂ h₂=>?_) λ_ _ h'=>h'.elim);refine aaa (aay h₂ (λ_ s₂ h₂=>aaa (aay h₂ (λok s₃ h₃=>?_) λ_ _ h'=>h'.elim)) λ_ _ h'=>h'.elim);cases ok with
  |false=>exact aac ⟨rfl,h₃⟩
  |true =>
   exact aaa (aaa (aay h₃ (λx s₄ h₄=>aaa (aay h₄ (λ_ s₅ h₅=>aac (aac ⟨rfl,h₅⟩)) λ_ _ h'=>h'.elim)) λ_ _ h'=>h'.elim))
noncomputable def eE(X:Cx)(N':au)(scope:Scope)(cl:List (Str×Addr))(C:Addr)(s₀:Shared)(H₀:Hp)(fp:aO):Cx :=
 { X with N:=N',s₀:=s₀,H₀:=H₀,env:=compEnvC scope cl C X.env,outer:=X.stack,stack:=X.stack,ex:=fp,fn:=λ_=>false,pn:=[],xe:=λ_ _=>False }
theorem fI{env:Env}:∀{names:List (Str×NameKind)} {x:Str} {kd:NameKind},(names.map λ(n,k)=>if (k==NameKind.free&&env.scope.kind==.function&&env.kindOf n==some .cell)then(n,NameKind.cell)else(n,k)).lookup x=some kd ->
  names.lookup x=some kd\/(kd=.cell/\names.lookup x=some .free)
 |[],_,_,h=>by simp at h
 | (n,k)::r,x,kd,h=>by
  rw[List.map_cons]at h;cases hx:x==n with
  |true =>
   by_cases hc:(k==NameKind.free&&env.scope.kind==.function&&env.kindOf n==some .cell)=true
   ·simp only[hc,if_true,List.lookup_cons,hx]at h;cases h;simp only[Bool.and_eq_true,beq_iff_eq]at hc;refine .inr ⟨rfl,?_⟩;rw[List.lookup_cons,hx,hc.1.1]
   ·have wD:(k==NameKind.free&&env.scope.kind==.function&&env.kindOf n==some .cell)=false:=by simpa using hc
    simp only[wD,Bool.false_eq_true,if_false,List.lookup_cons,hx]at h;cases h;exact .inl (by rw[List.lookup_cons,hx])
  |false =>
   have:List.lookup x (r.map λ(n,k)=>if (k==NameKind.free&&env.scope.kind==.function&&env.kindOf n==some .cell)then(n,NameKind.cell)else(n,k))=some kd:=by
    by_cases hc:(k==NameKind.free&&env.scope.kind==.function&&env.kindOf n==some .cell)=true
    ·simp only[hc,if_true,List.lookup_cons,hx]at h;exact h
    ·have wD:(k==NameKind.free&&env.scope.kind==.function&&env.kindOf n==some .cell)=false:=by simpa using hc
     simp only[wD,Bool.false_eq_true,if_false,List.lookup_cons,hx]at h;exact h
   rw[List.lookup_cons,hx];exact fI this
theorem dh{env:Env}:∀{names:List (Str×NameKind)} {x:Str},names.lookup x=some .free ->
  (names.map λ(n,k)=>if (k==NameKind.free&&env.scope.kind==.function&&env.kindOf n==some .cell)then(n,NameKind.cell)else(n,k)).lookup x=some .free \/
  (names.map λ(n,k)=>if (k==NameKind.free&&env.scope.kind==.function&&env.kindOf n==some .cell)then(n,NameKind.cell)else(n,k)).lookup x=some .cell
 |[],_,h=>by simp at h
 | (n,k)::r,x,h=>by
  rw[List.map_cons];cases hx:x==n with
  |true =>
   rw[List.lookup_cons,hx]at h;cases h;by_cases hc:(NameKind.free==NameKind.free&&env.scope.kind==.function&&env.kindOf n==some .cell)=true
   ·simp only[hc,if_true,List.lookup_cons,hx];exact .inr trivial
   ·have wD:(NameKind.free==NameKind.free&&env.scope.kind==.function&&env.kindOf n==some .cell)=false:=by simpa using hc
    simp only[wD,Bool.false_eq_true,if_false,List.lookup_cons,hx];exact .inl trivial
  |false =>
   rw[List.lookup_cons,hx]at h;by_cases hc:(k==NameKind.free&&env.scope.kind==.function&&env.kindOf n==some .cell)=true
   ·simp only[hc,if_true,List.lookup_cons,hx];exact dh h
   ·have wD:(k==NameKind.free&&env.scope.kind==.function&&env.kindOf n==some .cell)=false:=by simpa using hc
    simp only[wD,Bool.false_eq_true,if_false,List.lookup_cons,hx];exact dh h
theorem dO{names:List (Str×NameKind)}{x:Str}{kd:NameKind}(h:names.lookup x=some kd):(x,kd)∈names:=aa_ h
structure ki(S:Sx)(n:Nat)(t:Tg)(caps:aN)(target:Expr)(sc:Scope):Prop where
 kind:sc.kind=.function
 Dj:∀y∈sc.names,y.2≠.cell
 loc:∀y∈sc.names,y.2=.local->sc.names.lookup y.1=some .local
 free:∀x,(x,NameKind.free)∈sc.names->S.sc.names.lookup x=some .cell\/S.sc.names.lookup x=some .free
 n:n=(b7 target).length
 tl:∀x∈b7 target,sc.names.lookup x=some .local
 nd:(b7 target++gk S caps).Nodup
 cP:∀i∈caps,∃x,S.N[i]?=some x/\sc.names.lookup x=some .free
 tg:(∃x p,t=.nm 0/\target=.Name x p)\/(∃es k p,t=.tp (List.range es.length)/\target=.Tuple es k p/\es.all isNm=true)
theorem rB{n:Nat}{t:Tg}{sc:Scope}(h:tq S n t caps target sc=true):ki S n t caps target sc:=by
 unfold tq at h;simp only[Bool.and_eq_true,decide_eq_true_eq,List.all_eq_true,Bool.or_eq_true]at h;obtain⟨⟨⟨⟨⟨⟨h1,h2⟩,h3⟩,h4⟩,h5⟩,h6⟩,h7⟩:=h;refine⟨h1,λy hy=>(h2 y hy).1.1,λy hy hk=>?_,λx hx=>?_,h3,h4,h5,λi hi=>?_,?_⟩
 ·rcases(h2 y hy).1.2 with z|z
  ·exact absurd hk z
  ·exact z
 ·rcases(h2 _ hx).2 with (z|z)|z
  ·exact absurd rfl z
  ·exact .inl z
  ·exact .inr z
 ·have:=h6 i hi;split at this
  ·rename_i x e;exact⟨x,e,aae this⟩
  ·cases this
 ·cases t with
  |nm i =>
   obtain⟨g1,g2⟩:=aL h7;obtain rfl:i=0:=aae g1;cases target<;>first | (cases g2;done)|exact .inl ⟨_,_,rfl,rfl⟩
  |tp is =>
   obtain⟨es,hv,g⟩:=bB h7;obtain⟨k,p,rfl⟩:=kr hv;obtain⟨g1,g2⟩:=aL g;obtain rfl:is=_:=aae g1;exact .inr ⟨es,k,p,rfl,rfl,g2⟩
theorem v_{S:Sx}:∀{caps:aN},(∀i∈caps,∃x,S.N[i]?=some x)->(gk S caps).length=caps.length/\∀(j i:Nat),caps[j]?=some i->(gk S caps)[j]?=S.N[i]?
 |[],_=>⟨rfl,λj i h=>by simp at h⟩
 |i::caps,h=>by
  obtain⟨x,hx⟩:=h i aaf;obtain⟨h1,h2⟩:=v_ (caps:=caps) λj hj=>h j (aad _ hj);have e:gk S (i::caps)=x::gk S caps:=by unfold gk;rw[List.filterMap_cons,hx]
  rw[e];refine⟨by simp[h1],λj k hj=>?_⟩;cases j with
  |zero=>simp at hj;subst hj;simp[hx]
  |succ j=>simp at hj ⊢;exact h2 j k hj
variable {base h' h₁:Heap}
section
variable {X:Cx}{S:Sx}{k:Nat}{Φ:aT}{pins:ak}{σ:St}{H2:Hp}{s₂:Shared}
noncomputable def qb(n:Nat)(caps:aN)(σ:St):St:=List.replicate n none++caps.map λi=>σ[i]?.getD none
noncomputable def eV(aI:ao)(n:Nat):Obj:={ cls:=.type "list",data:=.seq aI.toArray n }
theorem H_{n:Nat}{t:Tg}{sc:Scope}{cl:List (Str×Addr)}(L:Lk X S k Φ)(co:ki S n t caps target sc)(I2:Inv X pins σ H2 s₂)
  (mX:∀x c,cl.lookup x=some c->X.env.cells.lookup x=some c) (xE:∀x,(x,NameKind.free)∈sc.names->∃c,cl.lookup x=some c) (D_:∀b∈fp,pT X pins H2 b) (Mm:∀b∈fp,b<s₂.heap.objs.size) :
  (eE X (b7 target++gk S caps) sc cl (s₂.heap.objs.size+1) s₂ H2 fp).Ok:=by
 have QL:=I2.lO;refine⟨I2.ok.mod,co.kind,I2.ok.glob,I2.ok.blt,ach _,λx y c h1 h2=>I2.ok.inj x y c (mX x c h1) (mX y c h2),λx hx=>?_,(λ_ _ z=>by cases z),I2.ok.hd,I2.ok.frames,.inl rfl,λb hb=>⟨?_,λx c e=>(D_ b hb).2.2.2.2.1 x c (mX x c e)⟩,I2.bs,aau I2.ok.JP I2.sz,λb o e hb=>?_,λb hb z=>?_,I2.stack,I2.yu⟩
 ·have DT:(relabel sc X.env).names.lookup x=some .cell\/(relabel sc X.env).names.lookup x=some .free:=hx;rcases DT with DT|DT
  ·rcases fI DT with z|z
   ·exact absurd rfl (co.Dj _ (dO z))
   ·exact xE x (dO z.2)
  ·rcases fI DT with z|z
   ·exact xE x (dO z)
   ·cases z.1
 ·exact aan (aaN (Mm b hb))
 ·rcases(D_ b hb).2.2.2.1 with z|z
  ·exact I2.ok.Dh b o e z
  ·exact absurd (aaj (aah e) (aau I2.ok.JP z)) (aaw _)
 ·rcases List.mem_cons.mp (QL b z)with w|w
  ·exact(D_ b hb).2.1 w
  ·exact(D_ b hb).2.2.1 w
theorem DQ{n:Nat}{t:Tg}{sc:Scope}{cl:List (Str×Addr)}{tk:Nat}(L:Lk X S k Φ)(co:ki S n t caps target sc)(I2:Inv X pins σ H2 s₂)
  (mX:∀x c,cl.lookup x=some c->X.env.cells.lookup x=some c) (xE:∀x,(x,NameKind.free)∈sc.names->∃c,cl.lookup x=some c) (D_:∀b∈fp,pT X pins H2 b) (Mm:∀b∈fp,b<s₂.heap.objs.size)
  (Bt:h₁.Ns (s₂.heap.objs.size+1) λ_=>none) (old:∀b o,s₂.heap.get? b=some o->h₁.get? b=some o) (gY:h₁.get? s₂.heap.objs.size=some (eV [] 0)) :
  Inv (eE X (b7 target++gk S caps) sc cl (s₂.heap.objs.size+1) s₂ H2 fp) [(s₂.heap.objs.size,eV [] 0)] (qb n caps σ) H2 { s₂ with heap:=h₁,toks:=tk }:=by
 have mY:∀i∈caps,∃x,S.N[i]?=some x:=λi hi=>let ⟨x,e,_⟩:=co.cP i hi;⟨x,e⟩;obtain⟨cl1,cl2⟩:=v_ mY;refine⟨H_ L co I2 mX xE D_ Mm,rfl,I2.bare,Un.kept old,⟨_,Bt,λi x v e1 e2 e3=>?_⟩,λx c e=>?_,I2.cV.fresh (ach _),λx c e=>I2.jO x c (mX x c e),λp hp=>?_,I2.cV.kept old,?_⟩
 ·unfold qb at e2;have hi:n<=i:=by
   by_cases hi:i<n
   ·rw[List.getElem?_append_left (by simpa using hi),List.getElem?_replicate,if_pos hi]at e2;cases e2
   ·left
  have T5:(b7 target++gk S caps)[i]?=some x:=e1;rw[List.getElem?_append_right (by rw[<- co.n];exact hi),<- co.n]at T5;rw[List.getElem?_append_right (by simpa using hi),List.length_replicate,List.getElem?_map]at e2;cases hc:caps[i - n]? with
  |none=>rw[hc]at e2;cases e2
  |some ci =>
   rw[hc]at e2;rw[cl2 _ _ hc]at T5;obtain⟨x',Xg,TF⟩:=co.cP ci (aax hc);rw[Xg]at T5;cases T5;have e2':σ[ci]?=some (some v):=by
    have RX:σ[ci]?.getD none=some v:=aat e2;cases q:σ[ci]? with
    |none=>rw[q]at RX;cases RX
    |some o=>rw[q]at RX;simp at RX;rw[RX]
   have V_:NI X.env.scope x:=by
    unfold NI;rw[L.sc];rcases co.free x (dO TF)with z|z
    ·exact .inr (.inl z)
    ·exact .inr (.inr z)
   obtain⟨m,hn,hl⟩:=I2.loc;obtain⟨u,r,lk⟩:=hl ci x v (by rw[L.N];exact Xg) e2' V_;refine⟨u,r,.inr ⟨?_,?_⟩⟩
   ·rcases dh (env:=X.env) TF with z|z
    ·exact .inr z
    ·exact .inl z
   ·have hcx:∃c,X.env.cells.lookup x=some c/\s₂.heap.IsCell c (some u):=by
     rcases lk with ⟨z,_⟩|⟨_,z⟩
     ·have z':X.env.scope.names.lookup x=some .local:=z;rw[L.sc]at z';rcases co.free x (dO TF)with w|w<;>(rw[w]at z';cases z')
     ·exact z
    obtain⟨c,ec,o,ho,hd⟩:=hcx;obtain⟨c',Zr⟩:=xE x (dO TF);have:=mX x c' Zr;rw[ec]at this;cases this;exact⟨c,Zr,o,old _ _ ho,hd⟩
 ·obtain⟨v,o,ho,hd⟩:=I2.cell x c (mX x c e);exact⟨v,o,old _ _ ho,hd⟩
 ·have xC:p=(s₂.heap.objs.size,eV [] 0):=by simpa [eE]using hp
  subst xC;refine⟨gY,I2.cV.fresh (aal _),aan (aa5 _),λz=>?_,λv z=>by cases z⟩;rcases List.mem_cons.mp (I2.lO _ z)with w|w
  ·exact absurd w (aav I2.lt)
  ·exact I2.Lv (aal _) w
 ·show(qb n caps σ).length=(b7 target++gk S caps).length;unfold qb;rw[List.length_append,List.length_append,List.length_replicate,List.length_map,cl1,co.n]
end
theorem aB.snoc{T:kj}{N:iJ}{k:bg}:∀{n:Nat} {vs:ae} {ds:ab} {v:V} {d:D},aB T N k n vs ds->Rep T N ((n+ds.length)::k) v d->aB T N k n (vs++[v]) (ds++[d])
 |n,_,_,_,_,.nil,h=>.cons h .nil
 |n,_,_,_,_,.cons (ds:=ds) h t,r=>.cons h (aB.snoc t (by
  have e:n+(ds.length+1)=n+1+ds.length:=by left
  rw[List.length_cons,e]at r;exact r))
open Classical in
theorem cx.snoc{K:aq}{G R:aj}{τ:Addr->Option bg}{fv:aN}{H H1 H2:Hp}{v:V}{d:D}{vs:ae}{ds:ab}(e1:aJ H H1)(e2:aJ H1 H2)(h:cx K G R τ fv H H1 vs ds)(t:bX K G R τ fv H1 H2 v d):
  cx K G R τ fv H H2 (vs++[v]) (ds++[d]):=by
 obtain⟨τ1,f1,h1⟩:=h;obtain⟨τ2,f2,h2⟩:=t;refine⟨λp=>if H1 p=none then(τ2 p).map (· ++ [ds.length])else τ1 p,λp q hq=>?_,aB.snoc (h1.imp (q:=[]) (q':=[]) (λ_ _ h=>aU.same e2 h) λc p xs f h=>?_) ((Nat.zero_add ds.length).symm▸h2.imp (q:=[]) (q':=[ds.length]) (λ_ _ h=>h) λc p xs f h=>?_)⟩
 ·dsimp only at hq;by_cases hp:H1 p=none
  ·exact e1.free hp
  ·rw[if_neg hp]at hq;exact f1 p q hq
 ·have h':=nd.same e2 h;cases f with
  |ow =>
   refine⟨h'.1,?_⟩;show(if H1 p=none then(τ2 p).map (· ++ [ds.length])else τ1 p)=_;rw[if_neg (h.1.ne)];exact h.2
  |fz=>exact h'
  |al=>exact h'
  |sc=>exact h'
 ·cases f with
  |ow =>
   refine⟨h.1,?_⟩;show(if H1 p=none then(τ2 p).map (· ++ [ds.length])else τ1 p)=_;rw[if_pos (f2 p _ h.2),h.2];simp
  |fz=>exact h
  |al=>exact h
  |sc=>exact h
structure Yl(K:aq)(J:It)(R:aj)(H1:Hp)(items:ab):Prop where
 go:∀i H',aJ H1 H'->i<items.length->J.go i H'
 wx:∀i H' x m_,aJ H1 H'->i<items.length->J.wx i H' x m_->aJ H' m_/\∃d,items[i]?=some d/\Rep (aU K m_) (nd K R (λ_=>False) (λ_=>none) m_) [] x d
 stop:∀i H',aJ H1 H'->items.length<=i->J.stop i H'
variable {C i1 i2 it l1 l2:Addr}{s₂:Shared}
section
variable {X:Cx}{S:Sx}{k:Nat}{F:aj}{Φ:aT}
def lR(X:Cx)(F:aj)(τ:Addr->Option bg)(fv:aN)(H2:Hp)(p:Addr):Prop:=H2 p≠none/\jQ (gP X F) τ fv p
theorem w8{τt:Addr->Option bg}(Si:SI X F R τ ρ σ H)(fr:∀p q,τt p=some q->H p=none)(hs:∀i∈fv,i∈fv')(kp kq:bg)(p:Addr)(xs:Nd)(f:Fl)
  (h:nd X.K R (jQ (gP X F) τ fv) τt H2 kp p xs f):nd X.K (lR X F τ fv' H2) (λ_=>False) (λ_=>none) H2 kq p xs (aW f):=by
 cases f with
 |ow=>exact⟨h.1,h.1.ne,.inr (Si.same.free (fr p _ h.2)),λc i e=>absurd (fr p _ h.2) (Si.th p _ e)⟩
 |fz=>exact⟨h.1,h.1.ne,Si.rf p h.2,λc i e=>by rw[Si.rt p h.2]at e;cases e⟩
 |al=>exact⟨h.1,h.1.ne,h.2.mono hs⟩
 |sc=>exact h
theorem FQ{a:Addr}{q:bg}(hl:dg X.K H1 a xs)(rs:aB (aU X.K H1) (nd X.K R (λ_=>False) (λ_=>none) H1) q 0 xs items):Yl X.K (Oy X.K a) R H1 items where
 go:=λi H' e hi=>⟨xs,xs[i]'(by rw[rs.length];exact hi),e.seq hl,aar _⟩
 wx:=λi H' x m_ e hi y=>by
  obtain⟨rfl,y⟩:=y;obtain⟨d,hd,rd⟩:=rs.vJ (y xs (e.seq hl));refine⟨aJ.refl _,d,hd,?_⟩;have:=Rep.iW (g:=id) (λ_ _ h=>h) nd.ph rd [];rw[d9]at this;exact this.imp (λ_ _ h=>aU.same e h) λ_ _ _ _ h=>nd.same e h
 stop:=λi H' e hi=>⟨xs,e.seq hl,by rw[rs.length];exact hi⟩
theorem J0{a:Addr}{q:bg}(hl:aU X.K H1 a xs)(rs:aB (aU X.K H1) (nd X.K R (λ_=>False) (λ_=>none) H1) q 0 xs items):Yl X.K (Ox X.K a) R H1 items where
 go:=λi H' e hi=>⟨xs,xs[i]'(by rw[rs.length];exact hi),aU.same e hl,aar _⟩
 wx:=λi H' x m_ e hi y=>by
  obtain⟨rfl,y⟩:=y;obtain⟨d,hd,rd⟩:=rs.vJ (y xs (aU.same e hl));refine⟨aJ.refl _,d,hd,?_⟩;have:=Rep.iW (g:=id) (λ_ _ h=>h) nd.ph rd [];rw[d9]at this;exact this.imp (λ_ _ h=>aU.same e h) λ_ _ _ _ h=>nd.same e h
 stop:=λi H' e hi=>⟨xs,aU.same e hl,by rw[rs.length];exact hi⟩
theorem J1{lo:Int}{n:Nat}:Yl X.K (Bq lo n) R H1 ((List.range n).map λ(k:Nat)=>D.int (lo+(k:Int))) where
 go:=λi H' e hi=>by simpa [Bq]using hi
 wx:=λi H' x m_ e hi y=>by
  obtain⟨rfl,rfl⟩:=y;have o9:i<n:=by simpa using hi
  exact⟨aJ.refl _,.int (lo+i),by rw[List.getElem?_map,List.getElem?_range o9];rfl,.int _⟩
 stop:=λi H' e hi=>by simpa [Bq]using hi
theorem Cg{n:Nat}{t:Tg}{sc:Scope}{cl:List (Str×Addr)}(Si:SI X F R τ ρ σ H2)(hs:∀i∈caps,i∈fv):
  SI (eE X (b7 target++gk S caps) sc cl C s₂ H2 fp) (jQ (gP X F) τ fv) (lR X F τ fv H2) (λ_=>none) (bG n caps ρ) (qb n caps σ) H2:=by
 refine⟨by simp[bG,qb],λi d hi=>?_,λ_ _=>rfl,λp h=>h.1,λp h=>.inl h.2,λ_ _ h=>by simp at h,λ_ _ h=>by simp at h,aJ.refl _⟩;unfold bG at hi;have hn:n<=i:=by
  by_cases hn:i<n
  ·rw[List.getElem?_append_left (by simpa using hn),List.getElem?_replicate,if_pos hn]at hi;cases hi
  ·left
 rw[List.getElem?_append_right (by simpa using hn),List.length_replicate,List.getElem?_map]at hi;cases hc:caps[i - n]? with
 |none=>rw[hc]at hi;exact nk hi
 |some ci =>
  rw[hc]at hi;have o9:(ρ[ci]?.getD none).map (aS aW)=some d:=aat hi;have hr:∃d0,ρ[ci]?=some (some d0)/\aS aW d0=d:=by
   cases q:ρ[ci]? with
   |none=>rw[q]at o9;cases o9
   |some o =>
    cases o with
    |none=>rw[q]at o9;cases o9
    |some d0=>rw[q]at o9;exact⟨d0,rfl,aat o9⟩
  obtain⟨d0,h0,rfl⟩:=hr;obtain⟨v,hv,rv⟩:=Si.rep ci d0 h0;refine⟨v,?_,Rep.iW (λ_ _ h=>h) (λkp kq p xs f h=>?_) ((rv.imp (q:=[ci]) (q':=[ci]) (N':=λq p xs f=>nd X.K R (λ_=>False) τ H2 q p xs f/\(f=.ow->∃c,q=c++[ci])) (λ_ _ h=>h) λc p xs f h=>⟨h,λ_=>⟨c,rfl⟩⟩)) [i]⟩
  ·unfold qb;rw[List.getElem?_append_right (by simpa using hn),List.length_replicate,List.getElem?_map,hc];simp[hv]
  ·obtain⟨h,hq⟩:=h;cases f with
   |ow =>
    obtain⟨c,rfl⟩:=hq rfl;refine⟨h.1,h.1.ne,.inr (Si.t0 p _ h.2),λc' i' e=>?_⟩;rw[h.2]at e;have:=aa2 List.getLast? (aat e);simp at this;subst this;exact hs _ (aax hc)
   |fz=>exact⟨h.1,h.1.ne,Si.rf p h.2,λc i e=>by rw[Si.rt p h.2]at e;cases e⟩
   |al=>exact h.2.elim
   |sc=>exact h
theorem Dl:∀{es:aw},es.all isNm=true->∃xs:List (Str×Pos),es=xs.map λx=>Expr.Name x.1 x.2
 |[],_=>⟨[],rfl⟩
 |e::es,h=>by
  rw[List.all_cons,Bool.and_eq_true]at h;obtain⟨xs,rfl⟩:=Dl h.2;cases e<;>simp[isNm]at h;exact⟨(_,_)::xs,rfl⟩
theorem wW(xs:List (Str×Pos)):(xs.map λx=>Expr.Name x.1 x.2).filterMap (λe=>match e with|.Name x _=>some x|_=>none)=xs.map (·.1):=by
 induction xs with
 |nil=>rfl
 |cons x xs ih=>simp[ih]
def El(i:Nat):Nat->Iv
 |0=>ML
 |n+1=>Em (rb i) (El (i+1) n)
theorem yQ{X:Cx}(hN:X.N.Nodup):∀(xs:List (Str×Pos)) (i:Nat),(∀(j:Nat) x,xs[j]?=some x->X.N[i+j]?=some x.1/\X.env.scope.names.lookup x.1=some .local) ->
  Ow X (xs.map λx=>Expr.Name x.1 x.2) (El i xs.length)/\(assignEach (xs.map λx=>Expr.Name x.1 x.2) X.env).length=xs.length/\(assignEach (xs.map λx=>Expr.Name x.1 x.2) X.env).findIdx? (·.1)=none
 |[],_,_=>⟨yP,rfl,rfl⟩
 |x::xs,i,h=>by
  obtain⟨h1,h2,h3⟩:=yQ hN xs (i+1) λj y hy=>by
   have:=h (j+1) y (by simpa using hy)
   rwa [show i+(j+1)=i+1+j by left]at this
  obtain⟨g1,g2⟩:=h 0 x rfl;refine⟨u_ (sr hN g1 (.inl g2) (.inr g2)) h1 rfl,?_,?_⟩
  ·show(_::assignEach _ X.env).length=_;rw[List.length_cons,h2];rfl
  ·show(((false,assign (.Name x.1 x.2) X.env)::assignEach (xs.map λx=>Expr.Name x.1 x.2) X.env)).findIdx? (·.1)=none;rw[List.findIdx?_cons];simp[h3]
end
section
variable {X:Cx}{F R:aj}{τ:Addr->Option bg}{ρ:bc}{σ σ':St}{H:Hp}
theorem SI.Pb{i:Nat}{v:V}{d:D}(Si:SI X F R τ ρ σ H)(rp:Rep (aU X.K H) (nd X.K R (λ_=>False) (λ_=>none) H) [] v d)(hi:i<ρ.length):SI X F R τ (ρ.set i (some d)) (σ.set i (some v)) H:=by
 refine⟨by simp[Si.len],λj d' hj=>?_,Si.rt,Si.rh,Si.rf,Si.th,Si.t0,Si.same⟩;by_cases jx:j=i
 ·subst jx;rw[List.getElem?_set_self hi]at hj;cases hj;refine⟨v,List.getElem?_set_self (by rw[<- Si.len];exact hi),rp.imp (q':=[j]) (λ_ _ h=>h) λc p xs f h=>?_⟩;cases f with
  |ow=>exact nomatch h.2
  |fz=>exact h
  |al=>exact h
  |sc=>exact h
 ·rw[List.getElem?_set_ne (Ne.symm jx)]at hj;obtain⟨w,hw,jH⟩:=Si.rep j d' hj;exact⟨w,by rw[List.getElem?_set_ne (Ne.symm jx)];exact hw,jH⟩
theorem SI.sig(Si:SI X F R τ ρ σ H)(hl:σ'.length=σ.length)(h:∀(i:Nat) d,ρ[i]?=some (some d)->σ'[i]?=σ[i]?):SI X F R τ ρ σ' H :=
 ⟨by rw[hl];exact Si.len,λi d hi=>let ⟨v,hv,r⟩:=Si.rep i d hi;⟨v,by rw[h i d hi];exact hv,r⟩,Si.rt,Si.rh,Si.rf,Si.th,Si.t0,Si.same⟩
theorem oz{Q:St->Hp->Prop}(σ0:St)(hi:Nat):∀{m i:Nat} {vs:ae} {ds:ab} {kp:bg} {q:Nat} {σ:St} {ρ ρ':bc},i+m=hi->aB (aU X.K H) (nd X.K R (λ_=>False) (λ_=>none) H) kp q vs ds->SI X F R τ ρ σ H->iz (List.range' i m) ds ρ=ok ρ' ->
  σ.length=σ0.length->(∀j,hi<=j->σ[j]?=σ0[j]?)->(∀σ',σ'.length=σ0.length->(∀j,hi<=j->σ'[j]?=σ0[j]?)->SI X F R τ ρ' σ' H->Q σ' H)->El i m vs σ H Q
 |0,_,_,_,_,_,σ,_,_,_,.nil,Si,e,h1,h2,hq=>by
  cases e;exact⟨rfl,hq σ h1 h2 Si⟩
 |0,_,_,_,_,_,_,_,_,_,.cons _ _,_,e,_,_,_=>by cases e
 |m+1,_,_,_,_,_,_,_,_,_,.nil,_,e,_,_,_=>by cases e
 |m+1,i,_,_,_,_,σ,ρ,_,him,.cons (v:=v) (d:=d) h t,Si,e,h1,h2,hq=>by
  change (if _ then _ else _)=_ at e;split at e
  ·rename_i o9;have f9:=Si.Pb (i:=i) (Rep.sE h) o9;refine⟨_,_,rfl,oz σ0 hi (by left) t f9 e (by simpa using h1) (λj hj=>?_) hq⟩;rw[List.getElem?_set_ne (by left)];exact h2 j hj
  ·cases e
end
section
variable {X:Cx}{S:Sx}{k:Nat}{F:aj}{Φ:aT}
theorem Kb{n:Nat}{t:Tg}{sc:Scope}{cl:List (Str×Addr)}(Rc:X.calm=true)(co:ki S n t caps target sc):
  ∃g,PG (eE X (b7 target++gk S caps) sc cl C s₂ H2 fp) target g/\∀(F' R':aj) (x:V) (d:D) (σ':St) (m_:Hp) (Q:St->Hp->Prop) (ρb ρ1:bc),
   SI (eE X (b7 target++gk S caps) sc cl C s₂ H2 fp) F' R' (λ_=>none) ρb σ' m_->Rep (aU X.K m_) (nd X.K R' (λ_=>False) (λ_=>none) m_) [] x d->aR cK d=false->b8 t d ρb=ok ρ1 ->
   (∀σ2,σ2.length=σ'.length->(∀j,n<=j->σ2[j]?=σ'[j]?)->SI (eE X (b7 target++gk S caps) sc cl C s₂ H2 fp) F' R' (λ_=>none) ρ1 σ2 m_->Q σ2 m_)->g x σ' m_ Q:=by
 have Mj:∀x∈b7 target,(relabel sc X.env).names.lookup x=some .local:=λx hx=>lookup_relabel_local (co.tl x hx);rcases co.tg with ⟨x,p,rfl,rfl⟩|⟨es,kk,p,rfl,rfl,AR⟩
 ·have hn:n=1:=co.n;subst hn;refine⟨rb 0,sr co.nd rfl (.inl (Mj x (List.mem_singleton.mpr rfl:x∈[x]))) (.inr (Mj x (List.mem_singleton.mpr rfl:x∈[x]))),λF' R' v d σ' m_ Q ρb ρ1 Si rp _ e hq=>?_⟩;simp only[b8]at e;split at e
  ·rename_i hi;cases e;refine hq _ (by simp) (λj hj=>?_) (Si.Pb rp hi);rw[List.getElem?_set_ne (by left)]
  ·cases e
 ·obtain⟨xs,rfl⟩:=Dl AR;have hN:b7 (.Tuple (xs.map λx=>Expr.Name x.1 x.2) kk p)=xs.map (·.1):=wW xs;have hn:n=xs.length:=by rw[co.n,hN,List.length_map]
  have:=yQ (X:=eE X (b7 (.Tuple (xs.map λx=>Expr.Name x.1 x.2) kk p)++gk S caps) sc cl C s₂ H2 fp) co.nd xs 0 (λj y hy=>by
   refine⟨?_,Mj y.1 (by rw[hN];exact List.mem_map.mpr ⟨y,aax hy,rfl⟩)⟩;show(b7 (.Tuple (xs.map λx=>Expr.Name x.1 x.2) kk p)++gk S caps)[0+j]?=_;have hj:j<xs.length:=by
    by_cases hj:j<xs.length
    ·exact hj
    ·rw[List.getElem?_eq_none (by left)]at hy;cases hy
   rw[hN,Nat.zero_add,List.getElem?_append_left (by simpa using hj),List.getElem?_map,hy];rfl)
  obtain⟨h1,h2,h3⟩:=this;refine⟨_,CN Rc h1 h2 h3,λF' R' v d σ' m_ Q ρb ρ1 Si rp ho e hq=>?_⟩;cases d<;>try (simp[b8]at e;done)
  rename_i ds;simp only[b8]at e;split at e
  ·cases e
  ·cases rp with
   | @tup _ a ys _ hp rs =>
    rw[List.length_map]at e;have e':iz (List.range' 0 xs.length) ds ρb=ok ρ1:=by rw[<- List.range_eq_range'];exact e
    refine⟨a,ys,rfl,hp,?_,oz (X:=eE X (b7 (.Tuple (xs.map λx=>Expr.Name x.1 x.2) kk p)++gk S caps) sc cl C s₂ H2 fp) σ' n (by left) rs Si e' rfl (λ_ _=>rfl) hq⟩;rw[rs.length];have:∀(is:aN) (ds:ab) (ρ ρ':bc),iz is ds ρ=ok ρ'->ds.length=is.length:=by
     intro is;induction is with
     |nil=>intro ds ρ ρ' e;cases ds with|nil=>rfl|cons _ _=>cases e
     |cons i is ih=>intro ds ρ ρ' e;cases ds with
      |nil=>cases e
      |cons d ds =>
       change (if _ then _ else _)=_ at e;split at e
       ·simp[ih ds _ _ e]
       ·cases e
    rw[this _ _ _ _ e',List.length_range']
theorem Vt:∀f:Fl,cK (aW f)=false:=by intro f;cases f<;>rfl
mutual
theorem G_:∀d:D,aR cK (aS aW d)=false
 |.cg=>by simp[aS,aR]
 |.bl _=>by simp[aS,aR]
 |.int _=>by simp[aS,aR]
 |.tup ds=>by simp[aS,aR,fH ds]
 |.lst f ds=>by simp[aS,aR,fH ds,Vt]
 |.dy f ks vs=>by simp[aS,aR,fH vs,Vt]
 |.dY f ks vs=>by simp[aS,aR,fH vs,Vt]
theorem fH:∀ds:ab,aM cK (aA aW ds)=false
 |[]=>by simp[aA,aM]
 |d::ds=>by simp[aA,aM,G_ d,fH ds]
end
theorem zo{h:Heap}{a:Addr}{o:HO}(x:mh P w H h)(hn:H a=none)(new:cy P w (upd H a o) h a o):mh P w (upd H a o) h:=λb u e=>by
 by_cases hb:b=a
 ·subst hb;rw[aX]at e;cases e;exact new
 ·rw[aY hb]at e;exact(x b u e).oq (λc v _ q=>q) (λc q=>by rw[aY (cm q hn)];exact q) λc xs q=>by rw[aY (cm q hn)];exact q
structure CAt(X X':Cx)(F' R':aj)(n:Nat)(base:bc)(σ0:St)(fp:aO)(tn:Nat->Heap->Prop)(H2:Hp)(D:Addr)(items:List DI.D)(bind:DI.D->O bc)(test:bc->O Bool)(el:bc->O DI.D)(all:List DI.D)(m:Nat)(s':Shared):Prop where
 ex:∃(i:Nat) (vs:ae) (aI:ao) (nn:Nat) (σ':St) (H':Hp) (dn rest:List DI.D),m=items.length - i/\i<=items.length/\Inv X' [(D,eV aI nn)] σ' H' s'/\tn i s'.heap/\(∀b∈fp,H' b=none)/\Vals vs aI/\aJ H2 H' /\
  SI X' F' R' (λ_=>none) base σ' H'/\cx X.K (gP X' F') R' (λ_=>none) [] H2 H' vs dn/\iC bind test el (items.drop i)=ok rest/\dn++rest=all
end
theorem cx.go(h:cx K G R τ fv H H1 vs ds)(e:aJ H1 H2):cx K G R τ fv H H2 vs ds :=
 let ⟨τt,h1,h2⟩:=h;⟨τt,h1,h2.imp (λ_ _ h=>aU.same e h) λ_ _ _ _ h=>nd.same e h⟩
theorem oG:∀{ds:ab} {d:D},aM cK ds=false->d∈ds->aR cK d=false
 |[],_,_,h=>nomatch h
 |e::ds,d,h,hm=>by
  rw[aM,Bool.or_eq_false_iff]at h;rcases List.mem_cons.mp hm with rfl|z
  ·exact h.1
  ·exact oG h.2 z
theorem Aj{d:D}(h:kH d=ok items):∀d∈items,aR cK d=false:=by
 unfold kH at h;split at h
 ·cases h;exact λd hd=>oG (fH _) hd
 ·cases h
theorem xx{ik:IK}{xs:ab}(h:dI Φ ik xs=ok items):∀d∈items,aR cK d=false:=by
 cases ik with
 |cz p=>obtain⟨d,_,h⟩:=aG h;exact Aj h
 |lz =>
  cases xs with
  |nil=>cases h
  |cons x t=>cases x<;>first | (cases h;done) | (cases t with
   |cons _ _=>cases h
   |nil =>
    obtain⟨_,h⟩:=o7 h;subst h;intro d hd;obtain⟨k,_,rfl⟩:=List.mem_map.mp hd;rfl)
 |seq =>
  cases xs with
  |nil=>cases h
  |cons x t=>cases x<;>first | (cases h;done) | (cases t with
   |cons _ _=>cases h
   |nil=>cases h;exact λd hd=>oG (fH _) hd)
theorem xA{n:Nat}{i:Nat}{d:D}(h:(bG n caps ρ)[i]?=some (some d)):n<=i:=by
 unfold bG at h;by_cases hn:i<n
 ·rw[List.getElem?_append_left (by simpa using hn),List.getElem?_replicate,if_pos hn]at h;cases h
 ·left
variable {c' elt:CE}{bN cs es:aD}
section
variable {X:Cx}{S:Sx}{k:Nat}{F:aj}{Φ:aT}
theorem DA{n:Nat}{t:Tg}{sc:Scope}{cl:List (Str×Addr)}(L:Lk X S k Φ)(co:ki S n t caps target sc):
  Lk (eE X (b7 target++gk S caps) sc cl C s₂ H2 fp) (S.inner target caps sc) k Φ:=by
 refine⟨?_,rfl,co.nd,L.calm,L.room,L.bl,λf x h=>⟨(L.fn f x h).ex⟩,L.cs,L.pr⟩;show relabel sc X.env=uU sc S.sc;rw[<- L.sc];rfl
theorem vX(L:Lk X S k Φ){n:Nat}{t:Tg}{ik:IK}{ifs:aw}{sc:Scope}(co:ki S n t caps target sc)(Bt:qQ iter=true)
    (hE:∀(X':Cx) (F':aj),Lk X' (S.inner target caps sc) k Φ->PE X' jJ (tD X' F' Φ elt))
    (hC:(bN=[]/\ifs=[])\/∃c e,bN=[c]/\ifs=[e]/\∀(X':Cx) (F':aj),Lk X' (S.inner target caps sc) k Φ->PT X' e (gL X' F' Φ c))
    (hI:∀(pins:ak) (s:Shared) (σ:St) (H:Hp) (R:aj) (τ:Addr->Option bg) (ρ:bc) (xs items:ab),Inv X pins σ H s->SI X F R τ ρ σ H->b9 Φ es ρ=ok xs->dI Φ ik xs=ok items->∀Rr:It->Hp->Prop,
      (∀J H2,aJ H H2->Yl X.K J (lR X F τ (caps++cW es) H2) H2 items->Rr J H2)->wpAny (model X.prog X.w) X.A (eval iter X.env) (λv s1=>wpAny (model X.prog X.w) X.A (pyIter v) (Fh X pins σ target Rr) X.xe s1) X.xe s)
    {use:Option (Value->Sem Unit)} {Post:az} {pins:ak} {s:Shared} {d:D} {Xc:Pos} (I:Inv X pins σ H s) (Si:SI X F R τ ρ σ H) (ev:bp Φ (.comp n t caps ik es bN elt) ρ=ok d)
    (QT:∀(acc C:Addr) (H1:Hp) (s1:Shared) (m:a_),s1.heap.Ns C m->(C≠X.env.locals/\X.s₀.heap.objs.size<=C/\(∀x c,X.env.cells.lookup x=some c->c≠C)/\(∀p∈X.pn++pins,p.1≠C)/\H1 C=none)->(∀h',Heap.SameBut C s1.heap h'->Inv X pins σ H1 { s1 with heap:=h' })->aJ H H1 ->
      bX X.K (gP X F) R τ (gN (.comp n t caps ik es bN elt)) H H1 (.ref acc) d->compPost (model X.prog X.w) X.A X.xe use Post (.ref acc) C (.ok .next) s1) :
    wpAny (model X.prog X.w) X.A (comprehension (.ListComp jJ [⟨target,iter,ifs,0⟩] sc pos) sc X.env Xc (newList []) false (eval iter X.env) use) Post X.xe s:=by
  obtain⟨xs,cF,ev⟩:=aG ev;obtain⟨items,xN,ev⟩:=aG ev;obtain⟨ds,Nh,ev⟩:=aG ev;simp only[Jq]at ev;obtain⟨mY,rfl⟩:=ev;have QY:=xx xN;obtain⟨cl,Rb,mX,xE⟩:=xS (env:=X.env) (sc:=sc) (λx hx=>I.ok.has x (by
    show X.env.scope.names.lookup x=some .cell\/X.env.scope.names.lookup x=some .free;rw[L.sc];exact co.free x hx))
  have o_:∀x,foldedSetIterable iter X.env x=pure x:=by intro x;cases iter<;>first|rfl | (cases Bt;done)
  refine wpAny_comprehension_free (use:=use) rfl o_ Rb co.kind co.loc (aay (hI pins s σ H R τ ρ xs items I Si cF xN (λJ H2=>aJ H H2/\Yl X.K J (lR X F τ (caps++cW es) H2) H2 items) (λJ H2 e y=>⟨e,y⟩)) (λxv s₁ h₁=>aay h₁ (λVS s₂ h₂=>?_) λ_ _ e=>e) λ_ _ e=>e);obtain⟨it,fp,tn,J,H2,rfl,I2,T,Ge,f2,e2,yl⟩:=h₂;have wg:=Si.go e2;have Mm:∀b∈fp,b<s₂.heap.objs.size:=λb hb=>let ⟨o,ho,_⟩:=T.obj 0 _ Ge b hb;aah ho;refine aa8 (wpAny_newFunctionEnv co.Dj (by intro y hy;simp at hy) (λh₁ sM o8=>?_) co.kind);dsimp only at sM o8 ⊢;generalize WR:s₂.heap.push { cls:=.type "list",dict:=none,data:=.seq ([]:ao).toArray }=G2 at sM o8 ⊢;have Zd:G2.objs.size=s₂.heap.objs.size+1:=by rw[<- WR,Heap.size_push]
  have TM:s₂.heap.objs.size≠s₂.heap.objs.size+1:=aan (aa5 _);rw[Zd]at sM o8;have old:∀b o,s₂.heap.get? b=some o->h₁.get? b=some o:=λb o e=>o8.extBut b o (aan (aaN (aah e))) (aai _ (WR▸aai _ e));have gY:h₁.get? s₂.heap.objs.size=some (eV [] 0):=o8.extBut _ _ TM (aai _ (WR▸aap _ rfl))
  let X':=eE X (b7 target++gk S caps) sc cl (s₂.heap.objs.size+1) s₂ H2 fp
  let F':=jQ (gP X F) τ (caps++cW es)
  let R':=lR X F τ (caps++cW es) H2
  have L':Lk X' (S.inner target caps sc) k Φ:=DA L co;have I4:=λtk=>DQ (h₁:=h₁) (tk:=tk) L co I2 mX xE f2 Mm (by simpa using sM) old gY;have S4:SI X' F' R' (λ_=>none) (bG n caps ρ) (qb n caps σ) H2:=Cg (t:=t) wg (λi hi=>by simp[hi]);obtain⟨g,hg,D9⟩:=Kb (X:=X) (S:=S) (cl:=cl) (fp:=fp) (s₂:=s₂) (H2:=H2) (C:=s₂.heap.objs.size+1) L.calm co;have WS:s₂.heap.objs.size∉X'.fs:=λz=>by
    rcases List.mem_cons.mp (I2.lO _ z)with w|w
    · exact absurd w (aav I2.lt)
    · exact I2.Lv (aal _) w
  have Mp:∀x c,cl.lookup x=some c->c≠s₂.heap.objs.size:=λx c e=>by
    obtain⟨v,q⟩:=I2.cell x c (mX x c e);exact aan q.lt
  have Hv:∀b∈fp,b≠X'.env.locals/\b∉X'.fs/\(b∈X'.ex\/X'.s₀.heap.objs.size<=b)/\(∀x c,X'.env.cells.lookup x=some c->c≠b):=λb hb =>
    ⟨aan (aaN (Mm b hb)),λz=>by
      rcases List.mem_cons.mp (I2.lO b z)with w|w
      · exact(f2 b hb).2.1 w
      · exact(f2 b hb).2.2.1 w,.inl hb,λx c e=>(f2 b hb).2.2.2.2.1 x c (mX x c e)⟩
  have Q5:∀b∈fp,b≠s₂.heap.objs.size:=λb hb=>aan (Mm b hb);have fin:∀(vs:ae) (aI:ao) (nn:Nat) (σ':St) (H':Hp) (s1:Shared),Inv X' [(s₂.heap.objs.size,eV aI nn)] σ' H' s1->Vals vs aI->aJ H2 H'->cx X.K (gP X' F') R' (λ_=>none) [] H2 H' vs ds ->
      compPost (model X.prog X.w) X.A X.xe use Post (.ref s₂.heap.objs.size) (s₂.heap.objs.size+1) (.ok .next) s1:=by
    intro vs aI nn σ' H' s1 I1 rv sm Gv;obtain⟨m,hn,_⟩:=I1.loc;obtain⟨pD,nD,_,_,_⟩:=I1.pin (s₂.heap.objs.size,eV aI nn) (aao _ aaf);have bs:=I1.base;have Jk:∀b o,s₂.heap.get? b=some o->b≠s₂.heap.objs.size+1:=λb o e=>aan (aaN (aah e));have neD:∀b o,s₂.heap.get? b=some o->b≠s₂.heap.objs.size:=λb o e=>aan (aah e);have Ut:∀b u,H' b=some u->upd H' s₂.heap.objs.size (.lst vs) b=some u:=λb u e=>by rw[aY (cm e nD)];exact e
    have hlen:vs.length<=sizeLine:=by
      obtain⟨_,_,rr⟩:=Gv;have hz:sizeLine=16777216:=aa6;have hc:cP=1000000:=rfl;rw[rr.length];left
    have IX:∀h',Heap.SameBut (s₂.heap.objs.size+1) s1.heap h'->Inv X pins σ (upd H' s₂.heap.objs.size (.lst vs)) { s1 with heap:=h' }:=λh' DX=>by
      have un:Un (Bv X.stack) fp H2 (upd H' s₂.heap.objs.size (.lst vs)) s₂.heap h' :=
        ⟨λb o e n hb hx=>DX.extBut b o (Jk b o e) (bs.keep b o e n hb hx),
         λb o e n hb hx=>let ⟨sl,q⟩:=bs.slot b o e n hb hx;⟨sl,DX.extBut b _ (Jk b o e) q⟩,
         λb o e n hx=>by rw[aY (neD b o e)];exact bs.free b o e n hx,
         λb o e hx=>let ⟨o',q⟩:=bs.there b o e hx;⟨o',DX.extBut b _ (Jk b o e) q⟩,
         λb xs e=>Ut b _ (bs.rR b xs e),λb o u e=>Ut b _ (bs.qp b o u e),λb ps e=>let ⟨more,q⟩:=bs.rV b ps e;⟨more,Ut b _ q⟩⟩
      have Wn:mh X.prog X.w H' h':=λa o e=>(I1.cV a o e).oq (λb u hb q=>DX.extBut b u (by
        rintro rfl;have hf:H' (s₂.heap.objs.size+1)=none:=I1.free;rcases hb with z|z
        · rw[<- z,hf]at e;cases e
        · rw[hf]at z;cases z) q) (λ_ q=>q) λ_ _ q=>q
      have Wm:mh X.prog X.w (upd H' s₂.heap.objs.size (.lst vs)) h':=zo Wn nD ⟨hlen,aI,nn,rv,DX.extBut _ _ TM pD⟩;exact I2.Sg (ch:=fp) I1.os un Wm I1.bare λb hb=>⟨(f2 b hb).2.2.2.1,(f2 b hb).2.1,(f2 b hb).2.2.2.2.1,(f2 b hb).2.2.2.2.2⟩
    have eS:aJ H' (upd H' s₂.heap.objs.size (.lst vs)):=aJ.upd nD;obtain⟨τt,fr,rs⟩:=Gv;have VF:s₂.heap.objs.size+1≠s₂.heap.objs.size:=Nat.succ_ne_self _;refine QT s₂.heap.objs.size (s₂.heap.objs.size+1) _ s1 m hn ⟨aav (aaN I2.lt),acw I2.sz,λx c e=>?_,λp hp=>?_,?_⟩ IX ((e2.trans sm).trans eS) ⟨λq=>if q=s₂.heap.objs.size then some []else τt q,λq z hz=>?_,.lst ⟨aX,by simp⟩ (aB.map (q:=[]) (q':=[]) (λ_ _ h=>aU.same eS h) (λc p ys f h=>?_) rs [] rfl)⟩
    · obtain⟨v,z⟩:=I2.cell x c e
      exact aan (aaN z.lt)
    · exact aan (aaN (aah (I2.pin p hp).1))
    · rw[aY VF];exact I1.free
    · by_cases tZ:q=s₂.heap.objs.size
      · rw[tZ];exact e2.free (sm.free nD)
      · simp only[tZ,if_false]at hz;exact e2.free (fr q z hz)
    · have h':=nd.same eS h
      have XI:∀p,gP X' F' p->jQ (gP X F) τ (caps++cW es) p:=λp hp=>hp.elim id λz=>⟨.inr (wg.same.free z),λc i e=>absurd z (wg.th p _ e)⟩
      cases f with
      |ow =>
        have tZ:p≠s₂.heap.objs.size:=by
          intro z;subst z;exact h.1.ne nD
        refine⟨h'.1,?_⟩;show(if p=s₂.heap.objs.size then some []else τt p)=_;rw[if_neg tZ];exact h'.2
      |fz=>exact⟨h'.1,h'.2.2⟩
      |al=>exact⟨h'.1,XI p h'.2.1⟩
      |sc=>exact h'
  have tst:∀(P:ak) (ρ1:bc) (b:Bool) (σ2:St) (H5:Hp) (s6:Shared),iB Φ bN ρ1=ok b->Inv X' P σ2 H5 s6->SI X' F' R' (λ_=>none) ρ1 σ2 H5 ->
      wpAny (model X.prog X.w) X.A (forIn ifs true λc r=>if r=true then do let ok <- isTrue c X'.env (eval c X'.env);pure (ForInStep.yield ok)else pure (ForInStep.yield r)) (λVy s7=>Vy=b/\∃H7,Inv X' P σ2 H7 s7/\aJ H5 H7) (λ_ _=>False) s6:=by
    intro P ρ1 b σ2 H5 s6 eb I6 S6;rcases hC with ⟨rfl,rfl⟩|⟨c,e,rfl,rfl,hPT⟩
    · rw[iB]at eb;cases eb
      exact wpAny_tests_nil ⟨rfl,H5,I6,aJ.refl _⟩
    · rw[iB]at eb
      obtain⟨b',Xm,eb⟩:=aG eb;have hb:b'=b:=by
        cases b' with
        |true=>rw[if_pos rfl,iB]at eb;cases eb;rfl
        |false=>rw[if_neg (by simp)]at eb;cases eb;rfl
      subst hb;refine wpAny_tests_one (aay (hPT X' F' L' P s6 σ2 H5 (λZN H7=>ZN=b'/\aJ H5 H7) I6 ⟨R',_,ρ1,b',S6,Xm,λH7 e7=>⟨rfl,e7⟩⟩) (λZN s7 ⟨H7,I7,hb,e7⟩=>⟨hb,H7,I7,e7⟩) λ_ _ e=>e)
  have loop:∀tk,codeAny (model X.prog X.w) X.A (.compLoop (.ListComp jJ [⟨target,iter,ifs,0⟩] sc pos) 0 (.ref it) (.ref s₂.heap.objs.size) X'.env)
      (compPost (model X.prog X.w) X.A X.xe use Post (.ref s₂.heap.objs.size) (s₂.heap.objs.size+1)) { s₂ with heap:=h₁,toks:=tk }:=by
    intro tk;refine s_ (CAt X X' F' R' n (bG n caps ρ) (qb n caps σ) fp tn H2 s₂.heap.objs.size items (λd=>b8 t d (bG n caps ρ)) (λρ'=>iB Φ bN ρ') (λρ'=>bp Φ elt ρ') ds) ?_ items.length
      ⟨0,[],[],0,qb n caps σ,H2,[],ds,rfl,aaK _,I4 tk,T.keep _ _ _ Ge (λb _ o e=>old b o e),λb hb=>(f2 b hb).1,.nil,aJ.refl _,S4,.nil,by rw[List.drop_zero];exact Nh,rfl⟩
    rintro m s' ⟨i,vs,aI,nn,σ',H',dn,rest,hm,hi,I',p9,fr',rv,sm,f9,Gv,fM,eall⟩;have MN:∀b∈fp,pT X' [(s₂.heap.objs.size,eV aI nn)] H' b:=λb hb=>⟨fr' b hb,(Hv b hb).1,(Hv b hb).2.1,(Hv b hb).2.2.1,(Hv b hb).2.2.2,λp hp=>by
      have xC:p=(s₂.heap.objs.size,eV aI nn):=by simpa [X',eE]using hp
      rw[xC];exact(Q5 b hb).symm⟩
    by_cases gM:i<items.length
    · refine aay (T.item X' rfl rfl rfl L.calm i _ s' σ' H' (λ_ _=>False) I' MN p9 (yl.go i H' sm gM)) (λr s1 h4=>?_) λ_ _ e=>e
      obtain⟨u,hr,h4⟩:=h4;subst hr;refine aay h4 (λ_ s5 h5=>?_) λ_ _ e=>e;obtain⟨x,H5,I5,r5,y5,Kj,Xb⟩:=h5;obtain⟨e5,dd,hd,rd⟩:=yl.wx i H' x H5 sm gM y5;have XT:=I5.pinned (fp:=fp) (λb hb=>⟨Xb b hb,(MN b hb).2⟩) (T.obj _ _ Kj);have vH:items.drop i=dd::items.drop (i+1):=by
        rw[List.drop_eq_getElem_cons gM];rw[List.getElem?_eq_getElem gM]at hd;cases hd;rfl
      rw[vH,iC]at fM;obtain⟨ρ1,eb,fM⟩:=aG fM;obtain⟨bb,et,fM⟩:=aG fM;refine aay (hg _ s5 σ' H5 x u (λσ2 H6=>H6=H5/\σ2.length=σ'.length/\(∀j,n<=j->σ2[j]?=σ'[j]?)/\SI X' F' R' (λ_=>none) ρ1 σ2 H5) XT r5
        (D9 F' R' x dd σ' H5 _ (bG n caps ρ) ρ1 (f9.go e5) rd (QY dd (aax hd)) eb λσ2 g1 g2 g3=>⟨rfl,g1,g2,g3⟩)) (λ_ s6 h6=>?_) λ_ _ e=>e
      obtain⟨σ2,H6,I6,rfl,g1,g2,S6⟩:=h6;refine aay (tst _ ρ1 bb σ2 H6 s6 et I6 S6) (λVy s7 h7=>?_) λ_ _ e=>e;obtain⟨rfl,H7,I7,e7⟩:=h7;have Ux:∀{P:ak} {σ3:St} {H8:Hp} {s8:Shared},Inv X' (P++iS fp s5.heap) σ3 H8 s8->tn (i+1) s8.heap/\∀b∈fp,H8 b=none:=λ{P σ3 H8 s8} I8 =>
        ⟨T.keep _ _ _ Kj λb hb o e=>(I8.pin (b,o) (aao _ (aao _ (gW hb e)))).1,λb hb=>by
          obtain⟨o,e,_⟩:=T.obj _ _ Kj b hb;exact(I8.pin (b,o) (aao _ (aao _ (gW hb e)))).2.1⟩
      have JR:∀{H8:Hp},aJ H7 H8->SI X' F' R' (λ_=>none) (bG n caps ρ) σ2 H8:=λ{H8} e8=>(f9.go ((e5.trans e7).trans e8)).sig g1 λj d hj=>g2 j (xA hj);cases Vy with
      |false =>
        rw[if_neg (by simp)]at fM ⊢;exact⟨items.length - (i+1),by left,i+1,vs,aI,nn,σ2,H7,dn,rest,rfl,gM,I7.kv,(Ux I7).1,(Ux I7).2,rv,(sm.trans e5).trans e7,JR (aJ.refl _),Gv.go (e5.trans e7),fM,eall⟩
      |true =>
        rw[if_pos rfl]at fM ⊢;obtain⟨y,ey,fM⟩:=aG fM;obtain⟨ys,vP,fM⟩:=aG fM;cases fM;refine aay (hE X' F' L' _ s7 σ2 H7 (λv H8=>aJ H7 H8/\bX X.K (gP X' F') R' (λ_=>none) [] H7 H8 v y) I7 ⟨R',_,ρ1,y,S6.go e7,ey,λv H8 e8 r8=>⟨e8,?_⟩⟩) (λu8 s8 h8=>?_) λ_ _ e=>e
        · obtain⟨τt,fr,rr⟩:=r8
          exact⟨τt,fr,rr.imp (q:=[]) (q':=[]) (λ_ _ h=>h) λc p ys f h=>h.mono id (λh=>⟨h.1,λ_ _ e=>by cases e⟩) id⟩
        · obtain⟨v8,H8,I8,rv8,e8,r8⟩:=h8
          obtain⟨pD,nD,_,_,_⟩:=I8.pin (s₂.heap.objs.size,eV aI nn) (aao _ (aaP _ aaf));have hlen:aI.length<=1000000:=by
            obtain⟨_,_,rr⟩:=Gv;have h1:dn.length<=ds.length:=by rw[<- eall,List.length_append];left
            have hc:cP=1000000:=rfl;rw[<- rv.length,rr.length];left
          have hz:sizeLine=16777216:=aa6;refine abA abM ⟨_,pD,rfl⟩ PySem.F.entry_list_append (PySem.F.args_list_append_2 _ _) (PySem.list_append s₂.heap.objs.size aI.toArray nn u8 (by rw[List.size_toArray];left)) ⟨pD,?_⟩;have q:=PySem.IsL.update pD (λx=>x.push u8);have QR:aI.toArray.push u8=(aI++[u8]).toArray:=by simp
          rw[QR]at q;obtain⟨Tn,q'⟩:∃Tn,(s8.heap.update s₂.heap.objs.size (Obj.mapSeq λx=>x.push u8)).get? s₂.heap.objs.size=some (eV (aI++[u8]) Tn):=⟨_,q⟩
          have I8d:Inv X' (iS fp s5.heap) σ2 H8 s8:=I8.jw λp hp=>I8.pin p (aao _ (aao _ hp));have ZR:Inv X' (iS fp s5.heap) σ2 H8 { s8 with heap:=s8.heap.update s₂.heap.objs.size (Obj.mapSeq λx=>x.push u8),toks:=s8.toks } :=
            I8d.turned (it:=s₂.heap.objs.size) (λb o hb e=>(aaQ s8.heap (Obj.mapSeq λx=>x.push u8) (aaD hb)).trans e) nD TM (.inr (aal _)) Mp λp hp=>by
              have xC:p∈iS fp s5.heap:=by simpa [X',eE]using hp
              exact Q5 p.1 (qP xC).1
          have kp:=Ux (P:=[]) (by rw[List.nil_append];exact ZR);refine⟨items.length - (i+1),by left,i+1,vs++[v8],aI++[u8],Tn,σ2,H8,dn++[y],ys,rfl,gM,ZR.jw (λp hp=>?_),kp.1,kp.2,rv.append (.cons rv8 .nil),((sm.trans e5).trans e7).trans e8,JR e8,cx.snoc ((sm.trans e5).trans e7) e8 (Gv.go (e5.trans e7)) r8,vP,by rw[List.append_assoc];exact eall⟩;have xC:p=(s₂.heap.objs.size,eV (aI++[u8]) Tn):=by simpa using hp
          rw[xC];exact⟨q',nD,TM,WS,λv z=>by cases z⟩
    · refine aay (T.done X' rfl rfl rfl L.calm i _ s' σ' H' (λ_ _=>False) I' MN p9 (yl.stop i H' sm (by left))) (λr s1 h1=>?_) λ_ _ e=>e
      obtain⟨hr,I1⟩:=h1;subst hr;have Wv:items.drop i=[]:=List.drop_eq_nil_of_le (by left);rw[Wv,iC]at fM;cases fM;rw[List.append_nil]at eall;subst eall;exact fin vs aI nn σ' H' s1 I1 rv sm Gv
  have key:=λtk=>codeAny_compStart_list (loop tk) (T.self X.A 0 _ _ _ (T.keep _ _ _ Ge λb _ o e=>old b o e) (loop tk));rw[Zd];exact key _
theorem Gm(L:Lk X S k Φ){n:Nat}{t:Tg}{ik:IK}{ifs:aw}{sc:Scope}(co:ki S n t caps target sc)(Bt:qQ iter=true)
  (hE:∀(X':Cx) (F':aj),Lk X' (S.inner target caps sc) k Φ->PE X' jJ (tD X' F' Φ elt))
  (hC:(bN=[]/\ifs=[])\/∃c e,bN=[c]/\ifs=[e]/\∀(X':Cx) (F':aj),Lk X' (S.inner target caps sc) k Φ->PT X' e (gL X' F' Φ c))
  (hI:∀(pins:ak) (s:Shared) (σ:St) (H:Hp) (R:aj) (τ:Addr->Option bg) (ρ:bc) (xs items:ab),Inv X pins σ H s->SI X F R τ ρ σ H->b9 Φ es ρ=ok xs->dI Φ ik xs=ok items->∀Rr:It->Hp->Prop,
   (∀J H2,aJ H H2->Yl X.K J (lR X F τ (caps++cW es) H2) H2 items->Rr J H2)->wpAny (model X.prog X.w) X.A (eval iter X.env) (λv s1=>wpAny (model X.prog X.w) X.A (pyIter v) (Fh X pins σ target Rr) X.xe s1) X.xe s) :
  PE X (.ListComp jJ [⟨target,iter,ifs,0⟩] sc pos) (tD X F Φ (.comp n t caps ik es bN elt)):=by
 intro pins s σ H Q I hq;obtain⟨R,τ,ρ,d,Si,ev,hq⟩:=hq;rw[eval_ListComp];refine vX L co Bt hE hC hI (use:=none) (Post:=EP X pins σ Q) I Si ev λacc C H1 s1 m hn _ IX sm rt=>?_;exact⟨m,hn,λh' DX=>⟨.ref acc,H1,IX h' DX,rfl,hq _ _ sm rt⟩⟩
end
section
variable {X:Cx}{pins:ak}{s:Shared}{σ:L2.St}{H:Hp}
theorem oX{A:aE}{E:az}{l:Addr}{items:aK}{Q:az}{s:Shared}(hl:s.heap.IsList l items)
  (h:∀s₂:Shared,s₂={ s with heap:=s.heap.push { cls:=.type "list_iterator",data:=.fields #[.ref l,.int 0 0] } }->s₂.heap.IsListIter s.heap.objs.size l 0/\s₂.heap.IsList l items->(∀b∈[s.heap.objs.size,l],b<s₂.heap.objs.size)->l≠s.heap.objs.size->Q (.ref s.heap.objs.size) s₂) :
  wpAny (model prog w) A (pyIter (.ref l)) Q E s:=by
 have gM:l<s.heap.objs.size:=by obtain⟨_,e,_⟩:=hl;exact aah e
 refine wpAny_pyIter_list hl (h _ rfl ⟨⟨_,aap _ rfl,rfl,rfl⟩,hl.push _⟩ (λb hb=>?_) (aan gM));have hz:(s.heap.push { cls:=.type "list_iterator",data:=.fields #[.ref l,.int 0 0] }).objs.size=s.heap.objs.size+1:=Heap.size_push ..;have qm:b=s.heap.objs.size\/b=l:=by simpa using hb
 show b<_;rw[hz];rcases qm with e|e
 ·rw[e];exact aa5 _
 ·rw[e];exact aaN gM
theorem oW{o₀:Obj}{s:Shared}(hk:∀b o,b∉[s.heap.objs.size]->(s.heap.push o₀).get? b=some o->h'.get? b=some o):∀b o,s.heap.get? b=some o->h'.get? b=some o:=λb o e =>
 hk b o (λhm=>absurd ((by simpa using hm:b=s.heap.objs.size)▸aah e) (aaw _)) (aai _ e)
theorem du{h:Heap}{a:Addr}{aI:aK}(p:PlainL h a aI):h.IsList a aI:=let ⟨o,n,h1,h2,_,h4⟩:=p;⟨o,h1,h2,n,h4⟩
theorem mw(val:Nat->Int)(ns:aa)(hv:∀i,val i=ns.getD i 0):∀k,k<=ns.length->preSum val k=(ns.take k).sum
 |0,_=>by simp[preSum]
 |k+1,h=>by
  have hk:k<ns.length:=by left
  rw[preSum,mw val ns hv k (by left),hv k,List.take_add_one,List.sum_append];simp[List.getD,hk]
theorem Bg(hc:X.calm=true):fS X (.builtin "sum") (λxs H Q=>∃(p:Addr) (ns:aa),xs=[.ref p]/\dg X.K H p (ns.map V.int)/\Q (.int ns.sum) H):=by
 intro pins s σ H xs us Q I r h;obtain⟨p,ns,rfl,hq,q⟩:=h;obtain⟨u,rfl,ru⟩:=r.one;cases ru;obtain⟨aI,rv,pl,hz⟩:=I.list hq;have hlen:aI.length=ns.length:=by have:=rv.length;simpa using this.symm
 refine call_sum_walkG (oX (du pl) λs₂ e st D_ QZ=>?_);subst e;refine⟨_,_,_,_,_,_,λi=>ns.getD i 0,rfl,Walks.list (A:=X.A.in1) (I.ok.hd hc) _ p QZ aI.toArray,st,D_,λi v hP=>?_,λh' tk t' hk=>?_⟩
 ·have hv:aI[i]?=some v:=by simpa using hP
  have hi:i<aI.length:=by
   by_cases z:i<aI.length
   ·exact z
   ·rw[List.getElem?_eq_none (by left)]at hv;cases hv
  have hn:(ns.map V.int)[i]?=some (.int (ns.getD i 0)):=by
   rw[List.getElem?_map,List.getElem?_eq_getElem (by left)];simp[List.getD,show i<ns.length by left]
  obtain⟨u,hu,ru⟩:=rv.get hn;rw[hv]at hu;cases hu;exact ru
 ·refine⟨.int ns.sum,H,I.kept (t':=tk) (oW hk),⟨t',?_⟩,q⟩;have hz:preSum (λi=>ns.getD i 0) aI.toArray.size=ns.sum:=by
   rw[List.size_toArray,hlen,mw _ ns (λ_=>rfl) _ (Nat.le_refl _),List.take_length]
  rw[hz]
theorem range_all{α:Type}(l:List α)(f:α->Bool)(tr:Nat->Bool)(h:∀i a,l[i]?=some a->tr i=f a):(List.range l.length).all tr=l.all f:=by
 rw[Bool.eq_iff_iff,List.all_eq_true,List.all_eq_true];constructor
 ·intro z a ha;obtain⟨i,hi,e⟩:=List.mem_iff_getElem.mp ha;have:=z i (List.mem_range.mpr hi);rw[h i a (by rw[List.getElem?_eq_getElem hi,e])]at this;exact this
 ·intro z i hi;have hi:=List.mem_range.mp hi;rw[h i l[i] (List.getElem?_eq_getElem hi)];exact z _ (abB hi)
theorem Bj(hc:X.calm=true):fS X (.builtin "all") (λxs H Q=>∃(p:Addr) (bs:List Bool),xs=[.ref p]/\dg X.K H p (bs.map V.bl)/\Q (.bl (bs.all id)) H):=by
 intro pins s σ H xs us Q I r h;obtain⟨p,bs,rfl,hq,q⟩:=h;obtain⟨u,rfl,ru⟩:=r.one;cases ru;obtain⟨aI,rv,pl,hz⟩:=I.list hq;have hlen:aI.length=bs.length:=by have:=rv.length;simpa using this.symm
 refine call_all_walk (oX (du pl) λs₂ e st D_ QZ=>?_);subst e;refine⟨_,_,_,_,_,_,λi=>bs.getD i false,rfl,Walks.list (A:=X.A.in1) (I.ok.hd hc) _ p QZ aI.toArray,st,λi v s' Q' E' hP hQ=>?_,λh' tk hk=>?_⟩
 ·have hv:aI[i]?=some v:=by simpa using hP
  have hi:i<aI.length:=by
   by_cases z:i<aI.length
   ·exact z
   ·rw[List.getElem?_eq_none (by left)]at hv;cases hv
  have hn:(bs.map V.bl)[i]?=some (.bl (bs.getD i false)):=by
   rw[List.getElem?_map,List.getElem?_eq_getElem (by left)];simp[List.getD,show i<bs.length by left]
  obtain⟨u,hu,ru⟩:=rv.get hn;rw[hv]at hu;cases hu;cases ru;exact aa1 hQ
 ·refine⟨.bl (bs.all id),H,I.kept (t':=tk) (oW hk),?_,q⟩;show Value.bool _=Value.bool _;rw[List.size_toArray,hlen,range_all bs id _ λi a e=>by simp[List.getD,e]]
end
variable {ns:aa}
section
variable {prog:aF}{w:World}{A:aE}{E:az}{s:Shared}
theorem pI{l:Addr}{vs:ao}{Q:ao->Shared->Prop}{o:Obj}{n:Nat}(ho:s.heap.get? l=some o)(hc:o.cls=.type "tuple")(hd:o.data=.seq vs.toArray n)
  (h:Q vs { s with heap:=(s.heap.push (seqObj "list" #[] 0)).update s.heap.objs.size (Obj.mapSeq (· ++ vs.toArray)) }) (hsz:vs.length<=sizeLine):wpAny (model prog w) A (collect (.ref l)) Q E s:=by
 unfold collect;refine aaa (wpAny_runValue (abI entry_proto_collect' ?_));show wpAny _ _ (newList [] >>= λz=>again (.builtin "list.__iadd__" ⟨[z,.ref l],[]⟩)) _ _ s;refine aaa (acr (aac ⟨Code.quiet_builtin _ (by decide +kernel),abI entry_list_iadd' ?_⟩));have z1:(s.heap.push (seqObj "list" #[] 0)).get? l=some o:=aai _ ho;have z2:(s.heap.push (seqObj "list" #[] 0)).get? s.heap.objs.size=some (seqObj "list" #[] 0):=aap _ rfl;show wpAny _ _ (Builtin.List.listExtendWith (.ref s.heap.objs.size) (.ref l) (.ref s.heap.objs.size)) _ _ ({ s with heap:=s.heap.push (seqObj "list" #[] 0) }:Shared);unfold Builtin.List.listExtendWith;refine aaa (wpAny_typeOf (T:="tuple") ⟨o,z1,hc⟩ ?_);rw[aa0 (by rw[show(Value.type "tuple" == Value.type "tuple")=true from rfl,Bool.or_true])];refine aaa (listItems_at z1 hd (aaa (listItems_at z2 rfl ?_)));rw[if_neg (by simp)];refine aaa (listUpdate_at z2 rfl ?_ (aaK _) (by
  show(#[]++vs.toArray).size<=sizeLine+1;rw[Array.size_append,List.size_toArray];exact acw (by simpa using hsz)))
 refine aac ?_;show wpAny (model prog w) A (load s.heap.objs.size >>= λo=>match o.data with
   |.seq xs _=>pure xs.toList
   |_=>unsupported "internal:collect") Q E ({ s with heap:=(s.heap.push (seqObj "list" #[] 0)).update s.heap.objs.size (Obj.mapSeq (· ++ vs.toArray)) }:Shared)
 refine aaa (wpAny_load (get?_update_seq z2 _) ?_);show wpAny _ _ (pure ((#[]:aK)++vs.toArray).toList) Q E _;rw[show((#[]:aK)++vs.toArray).toList=vs by simp];exact aac h
theorem p_{l:Addr}{vs:ao}{Q:az}{o:Obj}{n:Nat}(ho:s.heap.get? l=some o)(hc:o.cls=.type "tuple")(hd:o.data=.seq vs.toArray n)(hI:IntsAre vs ns)(uc:vs.length<64)
  (h:∀(out:aK) (lA:aa),IntsAre out.toList lA->lA.Perm ns->lA.Pairwise (· <= ·)->Q (.ref (s.heap.objs.size+1)) { s with heap:=sortedAll s.heap vs out }):wpAny (model prog w) A (call (.builtin "sorted") [.ref l]) Q E s:=by
 refine Calls.call_function_entry kind_sorted plain_sorted entry_sorted (args_sorted1 _) ?_;unfold Builtin.«sorted»;have hz:vs.length<=sizeLine:=by rw[sizeLine_eq];left
 refine aaa (m:=checkCount "sorted" 1 1 _) (aac (aaa (pI ho hc hd (aaa (acr ?_)) hz)));have e1:((s.heap.push (seqObj "list" #[] 0)).update s.heap.objs.size (Obj.mapSeq (· ++ vs.toArray))).objs.size=s.heap.objs.size+1:=by rw[Heap.size_update,size_push']
 have e2:(((s.heap.push (seqObj "list" #[] 0)).update s.heap.objs.size (Obj.mapSeq (· ++ vs.toArray))).push (seqObj "list" vs.toArray 0)).get? (s.heap.objs.size+1)=some (seqObj "list" vs.toArray 0):=by
  rw[<- e1];exact aap _ rfl
 show wpAny _ _ _ _ _ ({ s with heap:=((s.heap.push (seqObj "list" #[] 0)).update s.heap.objs.size (Obj.mapSeq (· ++ vs.toArray))).push (seqObj "list" vs.toArray 0) }:Shared);rw[e1];refine aaa (aaL (aaE slot_list_sort ⟨_,e2,rfl⟩ entry_list_sort (list_sort_tree e2 hI uc λout lA a1 a2 a3=>⟨_,rfl,aac ⟨_,rfl,h out lA a1 a2 a3⟩⟩) (args_list_sort _)))
end
theorem sortI_perm(ns:aa):(sortI ns).Perm ns:=aaJ ..
theorem oy(ns:aa):(sortI ns).Pairwise (· <= ·):=by
 have:=List.pairwise_mergeSort (le:=λa b:Int=>decide (a<=b)) (by intro a b c;simp;left) (by intro a b;simp;left) ns;unfold sortI;simpa using this
theorem d_:∀{vs:ao} {ns:aa},Vals (ns.map V.int) vs->IntsAre vs ns
 |_,[],h=>by cases h;exact .nil
 |_,n::ns,h=>by
  cases h with
  |cons r t=>obtain⟨tk,rfl⟩:=r;exact .cons n tk (d_ t)
theorem tu:fS X (.builtin "sorted") (λxs H Q=>∃(p:Addr) (ns:aa),xs=[.ref p]/\(dg X.K H p (ns.map V.int)\/aU X.K H p (ns.map V.int))/\ns.length<64/\∀l,H l=none->Q (.ref l) (upd H l (.lst ((sortI ns).map V.int)))):=by
 intro pins s σ H xs us Q I r h;obtain⟨p,ns,rfl,hq,uc,q⟩:=h;obtain⟨u,rfl,ru⟩:=r.one;cases ru;have fin:∀(vs:ao) (out:aK) (lA:aa),IntsAre out.toList lA->lA.Perm ns->lA.Pairwise (· <= ·)->EP X pins σ Q (.ref (s.heap.objs.size+1)) { s with heap:=sortedAll s.heap vs out }:=by
  intro vs out lA h1 h2 h3;obtain rfl:lA=sortI ns:=PySem.W.ksm_same (h2.trans (sortI_perm ns).symm) h3 (oy ns);obtain⟨e,he⟩:=sortedAll_at s.heap vs out;have hn:H (s.heap.objs.size+1)=none:=I.cV.fresh (ach _);refine⟨.ref (s.heap.objs.size+1),upd H (s.heap.objs.size+1) (.lst ((sortI ns).map V.int)),I.laid (t':=s.toks) (λb u z=>sortedAll_old z) (ach _) ⟨?_,out.toList,e,lG h1,by simpa using he⟩,rfl,q _ hn⟩;rw[List.length_map,(sortI_perm ns).length_eq,sizeLine_eq];left
 rcases hq with hq|hq
 ·obtain⟨aI,rv,pl,hz⟩:=I.list hq;have hl:aI.length<64:=by rw[<- rv.length];simpa using uc
  exact sorted_ints (du pl) (d_ rv) hl λout lA h1 h2 h3=>fin aI out lA h1 h2 h3
 ·obtain⟨aI,rv,⟨o,ho,hc,n,hd⟩,hz⟩:=I.tuple hq;have hl:aI.length<64:=by rw[<- rv.length];simpa using uc
  exact p_ ho hc hd (d_ rv) hl λout lA h1 h2 h3=>fin aI out lA h1 h2 h3
theorem BW:isSubtype (.type "tuple") (.type "set")=pure false:=by rw[isSubtype_type];kernel_rfl
theorem uo:isSubtype (.type "tuple") (.type "frozenset")=pure false:=by rw[isSubtype_type];kernel_rfl
noncomputable abbrev mN(led:Bool):Obj:={ cls:=.type "set",dict:=none,data:=.set #[] 0 (.fresh 0 0 led) }
noncomputable abbrev dist(ns:aa):aa:=firstMet (λi=>ns.getD i 0) ns.length
section
variable {prog:aF}{w:World}{A:aE}{E:az}{s:Shared}
theorem w6{l:Addr}{aI:ao}{Q:az}(hh:A.handled=none)(hl:s.heap.IsTuple l aI.toArray)(hi:IntsAre aI ns)(hb:aI.length+1<scanBound)
  (h:∀(h':Heap) (tk:Nat),h'.SetOf (intKind prog w) s.heap.objs.size (λk=>(dist ns).any (· == k)) (dist ns).length->(∀b o,b<s.heap.objs.size->s.heap.get? b=some o->h'.get? b=some o)->Q (.ref s.heap.objs.size) { s with heap:=h',toks:=tk }) :
  wpAny (model prog w) A (call (.type "set") [.ref l]) Q E s:=by
 have Wu:aI.length=ns.length:=hi.length;obtain⟨c,tl,k1⟩:=F.called_set.mro;have k2:=F.called_set.made;have k3:=F.called_set.sub;have k4:=F.called_set.notType;have k5:=F.called_set.canCreate;have k6:=F.typeCall_set_1 (.ref l);refine wpAny_call (codeAny_of_tree (show wpAny _ _ (callAny (.type "set") _) _ _ _ from aac ⟨Code.quiet_builtin _ (by decide +kernel),abI F.entry_type_call ?_⟩));rw[Around.under_plain (weight_type_call_type "set" [.ref l] []) rfl]
 repeat (any_goals (first|assumption|wp_step))
 refine ab3 (code_set_new_1 (.ref l) (E:=E) (Q₁:=λz s₁=>∃led:Bool,z=.ref s.heap.objs.size/\s₁={ s with heap:=s.heap.push (mN led) }) λled=>⟨led,rfl,rfl⟩) λr s₁ hr=>?_;cases r with
 |error e=>exact hr
 |ok fl =>
  cases fl with
  |next=>exact hr.elim
  |brk=>exact hr.elim
  |cont=>exact hr.elim
  |ret z =>
   obtain⟨led,rfl,rfl⟩:=hr;have g1:(s.heap.push (mN led)).get? s.heap.objs.size=some (mN led):=aap _ rfl;have g2:Shared.TypeIs { s with heap:=s.heap.push (mN led) } (.ref s.heap.objs.size) "set":=⟨_,g1,rfl⟩
   have g3:=F.called_set.init.lookup;have g4:=F.called_set.init.bind (.ref s.heap.objs.size)
   repeat (any_goals (first|assumption|wp_step))
   refine ab3 (codeAny_call_builtin (R:=wants (λr s₂=>r=.none/\∃h' tk,s₂={ s with heap:=h',toks:=tk }/\h'.SetOf (intKind prog w) s.heap.objs.size (λk=>(dist ns).any (· == k)) (dist ns).length/\∀b o,b<s.heap.objs.size->s.heap.get? b=some o->h'.get? b=some o) E) F.called_set.init.plain F.entry_set_init (check_set_init_1 g2 ?_)) λr₂ s₂ vE=>?_
   ·obtain⟨ot,YT,Y6,nt,Y4⟩:=hl;obtain⟨oc,od,odt,Fs⟩:=ot;simp only at Y6 Y4;subst Y6;subst Y4;have u1:(s.heap.push (mN led)).get? l=some { cls:=.type "tuple",dict:=od,data:=.seq aI.toArray nt,slots:=Fs }:=aai _ YT;have u2:=BW;have u3:=uo;have u4:(Value.type "tuple" == Value.type "dict")=false:=by decide
    have u5:(s.heap.push (mN led)).IsTuple l aI.toArray:=⟨_,u1,rfl,nt,rfl⟩
    unfold Builtin.«set.__init__» noKeywords Builtin.Frozenset.updateFrom;generalize hPI:pyIter=PI
    wp_walk
    subst hPI;refine wpAny_pyIter_tuple u5 (aaa (wpAny_runValue ?_));have u6:l<s.heap.objs.size:=aah YT;have u7:A.in1.in1.in1.handled=none:=by simp[hh]
    have hz:(s.heap.push (mN led)).objs.size=s.heap.objs.size+1:=Heap.size_push ..;have u8:l≠(s.heap.push (mN led)).objs.size:=by rw[hz];exact aan (aaN u6)
    have u9:s.heap.objs.size∉[(s.heap.push (mN led)).objs.size,l]:=by
     rw[hz];intro m;simp at m;exact absurd m (aav u6)
    have v1:∀(i:Nat) (v:Value),aI.toArray[i]?=some v->∃t,v=.int ((λi=>ns.getD i 0) i) t:=λi v hv=>hi.int_at i v (by simpa using hv);refine codeAny_set_update_loopS ((Walks.tuple u7 _ l u8 aI.toArray).toS) s.heap.objs.size u9 (λi=>ns.getD i 0) v1 (by rw[List.size_toArray];exact hb) (aI.toArray.size - 0) 0 _ (by left) (aaK _) ⟨⟨_,aap _ rfl,rfl,rfl⟩,u5.push _⟩ ?hS0 ?hR
    case hS0 =>
     have y1:((s.heap.push (mN led)).push { cls:=.type "tuple_iterator",data:=.fields #[.ref l,.int 0 0] }).get? s.heap.objs.size=some (mN led):=aai _ g1;exact SetOf_congr ((setObjOf_fresh (knd:=intKind prog w) led).setOf y1 (by unfold scanBound;left)) (λ_=>rfl) rfl
    case hR =>
     intro s' hm AW;obtain⟨h',g',d',Uy,Vu⟩:=s';cases (show g'=s.gens from hm.gens);cases (show d'=s.drawn from hm.drawn);cases (show Vu=s.os from hm.os);have AW:h'.SetOf (intKind prog w) s.heap.objs.size (λk=>(dist ns).any (· == k)) (dist ns).length:=by
      have e:aI.toArray.size=ns.length:=by rw[List.size_toArray,Wu]
      rw[e]at AW;exact AW
     refine aac (show wpAny _ _ (ret Value.none) _ _ _ from aac ⟨rfl,h',Uy,rfl,AW,λb o hb e=>hm.heap b o (λm=>?_) (aai _ (aai _ e))⟩);rcases List.mem_cons.mp m with m|m
     ·exact aan hb m
     ·have m:b=(s.heap.push (mN led)).objs.size:=by simpa using m
      rw[hz]at m;exact aan (aaN hb) m
   ·cases r₂ with
    |error e=>exact vE
    |ok RL =>
     cases RL with
     |ret r =>
      obtain⟨rfl,h',tk,rfl,AW,D6⟩:=vE
      repeat (any_goals (first|assumption|wp_step))
      exact h _ _ AW D6
     |next=>exact vE.elim
     |brk=>exact vE.elim
     |cont=>exact vE.elim
end
theorem EI(ns:aa):dist ns=sZ ns:=by
 unfold dist firstMet sZ;have e:(List.range ns.length).map (λi=>ns.getD i 0)=ns:=by
  refine abX (by simp) λi h1 h2=>?_;simp at h1;simp[h1]
 rw[e];rfl
def rLs(K:aq):ae->Hp->VK->Prop:=λxs H Q=>∃(p:Addr) (ns:aa),xs=[.ref p]/\aU K H p (ns.map V.int)/\ns.length<4000/\Q (.int (sZ ns).length) H
theorem boot_set:bootBuiltins ("set" : Str)=some (.type "set"):=by decide +kernel
theorem GR{e:Expr}{t:TA}{p:Pos}(hc:X.calm=true)(WE:Gl X ("len" : Str))(hm1:X.mg ("len" : Str)=none)(hg2:Gl X ("set" : Str))(hm2:X.mg ("set" : Str)=none)(ha:PA X [e] t)
  (qY:∀es,starEach (e::es) X.env=(false,eval e X.env)::starEach es X.env):PE X (.Call (.Name ("len" : Str) p) [.Call (.Name ("set" : Str) p') [e] [] pos'] [] pos) (OY (rLs X.K) t):=by
 intro pins s σ H Q I h;refine aba (fJ I WE hm1 PySem.boot_len ?_ (by decide) (by decide));refine PyProof.Rows.callWith_builtin1 ?_ rfl rfl;show wpAny _ _ (spliced ((false,eval (.Call (.Name ("set" : Str) p') [e] [] pos') X.env)::[])) _ _ s;refine acj ?_;refine aba (fJ I hg2 hm2 boot_set ?_ (by decide) (by decide));refine aaB (de (ha pos' pins s σ H _ I h) λus s1 bR=>?_) (qY _) rfl;obtain⟨vs,H1,I1,r1,q1⟩:=bR;obtain⟨a,ns,rfl,hq,hl,q⟩:=q1;obtain⟨u,rfl,ru⟩:=r1.one;cases ru;obtain⟨aI,rv,it,hz⟩:=I1.tuple hq;have hle:aI.length=ns.length:=by rw[<- rv.length];simp
 refine w6 (I1.ok.hd hc) it (d_ rv) (by unfold scanBound;left) λh' tk hS kp=>acv ?_;rw[EI]at hS;obtain⟨o,es,ep,tb,g1,g2,g3,_,_,g6,g7,g8⟩:=hS;refine call_len_set g1 g2 g3 g7 (by unfold scanBound at g6;omega) ?_;exact⟨.int (sZ ns).length,H1,I1.kept (t':=tk+1+1) λb u z=>kp b u (aah z) z,⟨_,by rw[g8]⟩,q⟩
variable {args elts:aw}
section
variable {X:Cx}{S:Sx}{k:Nat}{F:aj}{Φ:aT}
theorem Lk.X4(L:Lk X S k Φ):X.A.units+40<cLine:=by have:=L.room.units;left
def S0(K:aq)(neg:Bool):R2:=λv u H Q=>∃(d d':D) (N N':iJ) (k k':bg),Rep (aU K H) N k v d/\Rep (aU K H) N' k' u d'/\(∀q p xs f,N q p (.l xs) f->dg K H p xs)/\(∀q p xs f,N' q p (.l xs) f->dg K H p xs)/\cR 40 d=true/\cR 40 d'=true /\
 Q (.bl (if neg then !mF d d' else mF d d')) H
theorem Ln(hu:X.A.units+40<cLine):j7 X (compareOp .Eq) (S0 X.K false):=by
 intro pins s σ H x y v u Q I rx ry h;obtain⟨d,d',N,N',k,k',r1,r2,n1,n2,o1,o2,q⟩:=h;exact(alike I n1 n2 40 X.A r1 r2 o1 o2 rx ry hu).rc X.prog X.w X.xe _ ⟨.bl _,H,I,rfl,q⟩
theorem Lm(hu:X.A.units+40<cLine):j7 X (compareOp .NotEq) (S0 X.K true):=by
 intro pins s σ H x y v u Q I rx ry h;obtain⟨d,d',N,N',k,k',r1,r2,n1,n2,o1,o2,q⟩:=h;exact(alike I n1 n2 40 X.A r1 r2 o1 o2 rx ry hu).ne X.prog X.w X.xe _ ⟨.bl _,H,I,rfl,q⟩
theorem Cy{N':iJ}{k:bg}{v v':V}{d d':D}(h:Rep T N k v d)(h':Rep T' N' k' v' d')(f:iA d=true)(f':iA d'=true):i7 v=true/\FF v v'=mF d d':=by
 cases h<;>first | (cases f;done) | (cases h'<;>first | (cases f';done)|exact⟨rfl,by simp[FF,mF]⟩)
theorem js{k:bg}{v:V}{d:D}(h:Rep T N k v d)(f:iA d=true):i7 v=true:=by
 cases h<;>first | (cases f;done)|rfl
theorem kK{T T':kj}{N N':iJ}{k':bg}{v:V}{d:D}(hv:Rep T' N' k' v d)(f:iA d=true):∀{k:bg} {n:Nat} {xs:ae} {ds:ab},aB T N k n xs ds->ds.all iA=true->xs.all i7=true/\Tu v xs=inD d ds
 |_,_,_,_,.nil,_=>⟨rfl,rfl⟩
 |_,_,_,_,.cons h t,fs=>by
  rw[List.all_cons,Bool.and_eq_true]at fs;obtain⟨h1,h2⟩:=kK hv f t fs.2;obtain⟨g1,g2⟩:=Cy h hv fs.1 f;refine⟨by rw[List.all_cons,g1,h1];rfl,?_⟩;unfold Tu at h2 ⊢;rw[List.any_cons,g2,h2];rfl
def KP(K:aq)(op:BB):R2:=match op with
 |.eq=>S0 K false
 |.ne=>S0 K true
 |.lt=>CB λi j=>.bl (decide (i<j))
 |.le=>CB λi j=>.bl (decide (i<=j))
 |.gt=>CB λi j=>.bl (decide (j<i))
 |.ge=>CB λi j=>.bl (decide (j<=i))
 |.wA=>SY K false
 |.Ly=>SY K true
theorem C8(L:Lk X S k Φ)(op:BB):j7 X (compareOp (Vx op)) (KP X.K op):=by
 cases op with
 |eq=>exact Ln L.X4
 |ne=>exact Lm L.X4
 |lt=>exact PZ
 |le=>exact P0
 |gt=>exact P4
 |ge=>exact P5
 |wA=>exact Aw
 |Ly=>exact sv
theorem Dk{op:CmpOp}{r:Expr}(h:qQ r=true):behindInMarks op r=false:=by
 cases r<;>first|rfl | (cases h;done)
theorem nH{op:BB}{x y d:D}(QU:op=.lt\/op=.le\/op=.gt\/op=.ge)(h:fm op x y=ok d):∃i j,x=.int i/\y=.int j:=by
 cases x with
 |int i=>cases y with
  |int j=>exact⟨i,j,rfl,rfl⟩
  |_=>rcases QU with rfl|rfl|rfl|rfl<;>exact nk h
 |_=>rcases QU with rfl|rfl|rfl|rfl<;>exact nk h
theorem vY{op:BB}{a b:CE}(hq:tD X F Φ (.cmp op a b) σ H Q):IT (KP X.K op) (tD X F Φ a) (tD X F Φ b) σ H Q:=by
 obtain⟨R,τ,ρ,d,Si,ev,hq⟩:=hq;obtain⟨x,ex,ev⟩:=aG ev;obtain⟨y,ey,ev⟩:=aG ev;refine tD.intro Si ex λv H1 e1 r1=>tD.intro (Si.go e1) ey λu H2 e2 r2=>?_;have e:=e1.trans e2;have rv:=r1.go e2;have ru:=r2;obtain⟨τ1,f1,p1⟩:=rv;obtain⟨τ2,f2,p2⟩:=ru;have sq:∀{A:aj} {τ:Addr->Option bg} (q:bg) (p:Addr) (xs:ae) (f:Fl),nd X.K R A τ H2 q p (.l xs) f->dg X.K H2 p xs:=λq p xs f h=>h.sq;cases op with
 |eq =>
  obtain⟨hc,ev⟩:=o7 ev
  ·subst ev;rw[Bool.and_eq_true]at hc;exact⟨x,y,_,_,_,_,p1,p2,sq,sq,hc.1,hc.2,hq _ H2 e .bl⟩
 |ne =>
  obtain⟨hc,ev⟩:=o7 ev
  ·subst ev;rw[Bool.and_eq_true]at hc;exact⟨x,y,_,_,_,_,p1,p2,sq,sq,hc.1,hc.2,hq _ H2 e .bl⟩
 |lt=>obtain⟨i,j,rfl,rfl⟩:=nH (by simp) ev;cases ev;exact⟨_,_,(r1.go e2).isInt,r2.isInt,hq _ H2 e .bl⟩
 |le=>obtain⟨i,j,rfl,rfl⟩:=nH (by simp) ev;cases ev;exact⟨_,_,(r1.go e2).isInt,r2.isInt,hq _ H2 e .bl⟩
 |gt=>obtain⟨i,j,rfl,rfl⟩:=nH (by simp) ev;cases ev;exact⟨_,_,(r1.go e2).isInt,r2.isInt,hq _ H2 e .bl⟩
 |ge=>obtain⟨i,j,rfl,rfl⟩:=nH (by simp) ev;cases ev;exact⟨_,_,(r1.go e2).isInt,r2.isInt,hq _ H2 e .bl⟩
 |wA =>
  simp only[fm]at ev;split at ev
  ·rename_i ds hi;split at ev
   ·rename_i hc;rw[Bool.and_eq_true]at hc;cases ev;cases p2 with
    |tup h rs=>cases hi;obtain⟨g1,g2⟩:=kK p1 hc.1 rs hc.2;exact⟨_,_,rfl,.inr h,js p1 hc.1,g1,by rw[g2];exact hq _ H2 e .bl⟩
    |lst h rs=>cases hi;obtain⟨g1,g2⟩:=kK p1 hc.1 rs hc.2;exact⟨_,_,rfl,.inl h.sq,js p1 hc.1,g1,by rw[g2];exact hq _ H2 e .bl⟩
    |_=>cases hi
   ·cases ev
  ·cases ev
 |Ly =>
  simp only[fm]at ev;split at ev
  ·rename_i ds hi;split at ev
   ·rename_i hc;rw[Bool.and_eq_true]at hc;cases ev;cases p2 with
    |tup h rs=>cases hi;obtain⟨g1,g2⟩:=kK p1 hc.1 rs hc.2;exact⟨_,_,rfl,.inr h,js p1 hc.1,g1,by rw[g2];exact hq _ H2 e .bl⟩
    |lst h rs=>cases hi;obtain⟨g1,g2⟩:=kK p1 hc.1 rs hc.2;exact⟨_,_,rfl,.inl h.sq,js p1 hc.1,g1,by rw[g2];exact hq _ H2 e .bl⟩
    |_=>cases hi
   ·cases ev
  ·cases ev
theorem B5{c:CE}{Q:Bool->Hp->Prop}(h:gL X F Φ c σ H Q):tB (tD X F Φ c) σ H Q:=by
 obtain⟨R,τ,ρ,b,Si,ev,hq⟩:=h;unfold A4 at ev;obtain⟨d,ed,et⟩:=aG ev;refine tD.intro Si ed λv H' e r=>?_;cases d<;>simp[iE]at et;cases et;exact⟨_,r.AJ,hq H' e⟩
theorem cG{c:CE}{e:Expr}(h:PE X e (tD X F Φ c))(he:∀whole,isTrue e X.env whole=(do let v <- whole;standAt e.pos;holding [v] (truthy v))):PT X e (gL X F Φ c) :=
 PT.imp (KU h he) λ_ _ _ h=>B5 h
theorem Ah{op:BB}{a b:CE}{Q:Bool->Hp->Prop}(h:gL X F Φ (.cmp op a b) σ H Q):IS (IT (KP X.K op) (tD X F Φ a) (tD X F Φ b)) σ H Q :=
 vY (B5 h)
theorem dictAt{pins:ak}{s:Shared}{p:Addr}{cs:af}(I:Inv X pins σ H s)(h:H p=some (.ext (DO p cs as xs ep))):∃o,s.heap.get? p=some o/\o.cls=.type "dict":=by
 obtain⟨⟨zs,o,es,_,_,_,ho,hx,_⟩,_⟩:=(show cy X.prog X.w H s.heap p (.ext (DO p cs as xs ep)) from I.cV p _ h)
 exact⟨o,ho,hx.1⟩
theorem GW{pins:ak}{s:Shared}{p:Addr}{cs:af}(I:Inv X pins σ H s)(h:H p=some (.ext (PJ p cs as xs ep))):∃o,s.heap.get? p=some o/\o.cls=.type "dict":=by
 obtain⟨⟨zs,o,es,_,_,_,ho,hx,_⟩,_⟩:=(show cy X.prog X.w H s.heap p (.ext (PJ p cs as xs ep)) from I.cV p _ h)
 exact⟨o,ho,hx.1⟩
theorem LP(L:Lk X S k Φ)(t:Ty):fS X (.builtin "isinstance") (λxs H Q=>∃(x:V) (d:D) (N:iJ) (k:bg),xs=[x,.ty (tyName t)]/\Rep (aU X.K H) N k x d/\(∀q p xs f,N q p (.l xs) f->dg X.K H p xs)/\(∀q p cs as xs ep f,N q p (.d cs as xs ep) f->H p=some (.ext (DO p cs as xs ep)))/\(∀q p cs as xs ep f,N q p (.ej cs as xs ep) f->H p=some (.ext (PJ p cs as xs ep)))/\Q (.bl (dv t d)) H):=by
 intro pins s σ H xs us Q I r h;obtain⟨x,d,N,k,rfl,rp,hN,hND,hNP,q⟩:=h;obtain⟨u,w',rfl,ru,jH⟩:=vals2 r;cases (show w'=Value.type (tyName t) from jH);have kt:=Hh X.K t;have fin:∀b:Bool,b=dv t d->∀tk,EP X pins σ Q (.bool b) { s with toks:=tk }:=λb e tk=>⟨.bl b,H,I.tok tk,rfl,by rw[e];exact q⟩
 cases rp with
 |cg=>cases ru;exact abe PySem.W.kitx_none I.AD True.intro (kt "NoneType" (by simp[kinds])) (λz=>nomatch z) (fin _ (by cases t<;>rfl))
 |bl b=>cases ru;exact abe PySem.W.kitx_bool I.AD True.intro (kt "bool" (by simp[kinds])) (λz=>nomatch z) (fin _ (by cases t<;>rfl))
 |int i=>obtain⟨t',rfl⟩:=ru;exact abe PySem.W.kitx_int I.AD True.intro (kt "int" (by simp[kinds])) (λz=>nomatch z) (fin _ (by cases t<;>rfl))
 |tup h _ =>
  cases ru;obtain⟨aI,_,⟨o,h1,h2,_⟩,_⟩:=I.tuple h;exact abe PySem.W.kitx_tuple I.AD ⟨o,h1,h2⟩ (kt "tuple" (by simp[kinds])) (λz=>nomatch z) (fin _ (by cases t<;>rfl))
 |lst h _ =>
  cases ru;obtain⟨aI,_,⟨o,n,h1,h2,_⟩,_⟩:=I.list (hN _ _ _ _ h);exact abe PySem.W.kitx_list I.AD ⟨o,h1,h2⟩ (kt "list" (by simp[kinds])) (λz=>nomatch z) (fin _ (by cases t<;>rfl))
 |dy h _ _ =>
  cases ru;obtain⟨o,h1,h2⟩:∃o,s.heap.get? _=some o/\o.cls=.type "dict":=dictAt I (hND _ _ _ _ _ _ _ h);exact abe PySem.W.kitx_dict I.AD ⟨o,h1,h2⟩ (kt "dict" (by simp[kinds])) (λz=>nomatch z) (fin _ (by cases t<;>rfl))
 |dY h _ _ =>
  cases ru;obtain⟨o,h1,h2⟩:∃o,s.heap.get? _=some o/\o.cls=.type "dict":=GW I (hNP _ _ _ _ _ _ _ h);exact abe PySem.W.kitx_dict I.AD ⟨o,h1,h2⟩ (kt "dict" (by simp[kinds])) (λz=>nomatch z) (fin _ (by cases t<;>rfl))
theorem Ih(t:Ty):bootBuiltins (tyName t:Str)=some (.type (tyName t)):=by
 cases t<;>decide +kernel
theorem qB(t:Ty):(tyName t:Str) ≠ "__name__" /\ ((tyName t:Str)==("__debug__" : Str))=false:=by
 cases t<;>decide +kernel
theorem Ky(L:Lk X S k Φ){a:CE}{t:Ty}{e:Expr}{p:Pos}(hf:i6 S.sc ("isinstance" : Str)=true)(WH:("isinstance" : Str)∈S.bl)(hg:i6 S.sc (tyName t:Str)=true)(WD:(tyName t:Str)∈S.bl)
  (ha:PE X e (tD X F Φ a)) (qY:∀es,starEach (e::es) X.env=(false,eval e X.env)::starEach es X.env):PE X (.Call (.Name ("isinstance" : Str) p) [e,.Name (tyName t:Str) p'] [] pos) (tD X F Φ (.qW a t)):=by
 have hT:PE X (.Name (tyName t:Str) p') (tC (.ty (tyName t))):=GV (L.gl hg) (L.bl _ WD) (Ih t) rfl (qB t).1 (qB t).2;refine PE.imp (eM (LP L t) (L.gl hf) (L.bl _ WH) PyProof.Rows.boot_isinstance (cO ha (cO hT eT) (qY _)) (he:=qY _)) λσ H Q hq=>?_;obtain⟨R,τ,ρ,d,Si,ev,hq⟩:=hq;obtain⟨x,ex,ev⟩:=aG ev;cases ev;refine tD.intro Si ex λv H1 e1 r1=>?_;obtain⟨τ1,f1,p1⟩:=r1;exact⟨v,x,_,_,rfl,p1,λq p xs f h=>h.sq,λq p cs as xs ep f h=>h.dat,λq p cs as xs ep f h=>h.pat,hq _ H1 e1 .bl⟩
theorem LW:@DI.Bs=@L2.Bs:=rfl
theorem Pc(L:Lk X S k Φ){a b:CE}{e i:Expr}(ha:PE X e (tD X F Φ a))(hb:PE X i (tD X F Φ b))(hp:nU i):PE X (.Subscript e i pos) (tD X F Φ (.ix a b)):=by
 refine PE.imp (CY (Hj.or LV) ha hb hp) λσ H Q hq=>?_;obtain⟨R,τ,ρ,d,Si,ev,hq⟩:=hq;obtain⟨x,ex,ev⟩:=aG ev;obtain⟨y,ey,ev⟩:=aG ev;refine tD.intro Si ex λv H1 e1 r1=>tD.intro (Si.go e1) ey λu H2 e2 r2=>?_;have ee:=e1.trans e2;have rv:=(r1.go e2).mono (fv':=gN (.ix a b)) λj hj=>aaP _ hj;have item:∀{q:bg} {xs:ae} {ds:ab} {τt:Addr->Option bg} {j:Int},(∀p q,τt p=some q->H p=none)->aB (aU X.K H2) (nd X.K R (jQ (gP X F) τ (gN (.ix a b))) τt H2) q 0 xs ds->tJ ds j=ok d->∃w,L2.Ov xs j=some w/\Q w H2:=by
  intro q xs ds τt j fr rs h;unfold tJ at h;split at h
  ·rename_i d' hd;cases h;cases hx:DI.Bs ds.length j with
   |none=>rw[hx]at hd;cases hd
   |some m =>
    rw[hx]at hd;obtain⟨w,hw,jH⟩:=rs.get (show ds[m]?=some d' from hd);refine⟨w,?_,hq w H2 ee ⟨λ_=>none,λ_ _ h=>by simp at h,jH.fe Si fr⟩⟩;unfold L2.Ov;rw[<- LW,rs.length,hx];exact hw
  ·cases h
 cases y with
 |int j =>
  obtain⟨τt,fr,rp⟩:=rv;cases r2.isInt;cases x with
  |tup ds =>
   cases rp with
   | @tup _ p xs _ h rs=>obtain⟨w,h1,h2⟩:=item fr rs ev;exact .inr ⟨p,xs,j,w,rfl,rfl,h,h1,h2⟩
  |lst f ds =>
   cases rp with
   | @lst _ p xs _ _ h rs=>obtain⟨w,h1,h2⟩:=item fr rs ev;exact .inl ⟨p,xs,j,w,rfl,rfl,h.sq,h1,h2⟩
  |_=>exact nk ev
 |_=>cases x<;>cases ev
theorem pw:∀(cs:aD) {ρ:bc} {ds:ab},b9 Φ cs ρ=ok ds->ds.length=cs.length
 |[],_,_,h=>by cases h;rfl
 |c::cs,_,_,h=>by
  obtain⟨x,_,h⟩:=aG h;obtain⟨xs,hx,h⟩:=aG h;cases h;simp[pw cs hx]
theorem Ku{es:aw}{n:Nat}(h:PA X es (uy X F Φ cs))(hl:cs.length<=1000):PE X (.Tuple es n pos) (tD X F Φ (.tup cs)):=by
 refine PE.imp (K7 h) λσ H Q hq=>?_;obtain⟨R,τ,ρ,d,Si,ev,hq⟩:=hq;obtain⟨ds,Nh,ev⟩:=aG ev;cases ev;refine⟨R,τ,ρ,ds,Si,Nh,λvs H1 e1 r1=>?_⟩;obtain⟨τt,fr,rs⟩:=r1;have hz:sizeLine=16777216:=aa6;refine⟨by rw[rs.length,pw cs Nh];left,λp hp=>?_⟩;have es:aJ H1 (upd H1 p (.tup vs)):=aJ.upd hp;exact hq _ _ (e1.trans es) ⟨τt,fr,.tup (aU.of aX) (rs.imp (λ_ _ h=>aU.same es h) λ_ _ _ _ h=>nd.same es h)⟩
theorem Kx{es:aw}(h:PA X es (uy X F Φ cs))(hl:cs.length<=1000):PE X (.List es pos) (tD X F Φ (.lst cs)):=by
 refine PE.imp (CW h) λσ H Q hq=>?_;obtain⟨R,τ,ρ,d,Si,ev,hq⟩:=hq;obtain⟨ds,Nh,ev⟩:=aG ev;cases ev;refine⟨R,τ,ρ,ds,Si,Nh,λvs H1 e1 r1=>?_⟩;obtain⟨τt,fr,rs⟩:=r1;have hz:sizeLine=16777216:=aa6;refine⟨by rw[rs.length,pw cs Nh];left,λp hp=>?_⟩;have es:aJ H1 (upd H1 p (.lst vs)):=aJ.upd hp;refine hq _ _ (e1.trans es) ⟨λq=>if q=p then some []else τt q,λq z hq=>?_,.lst ⟨aX,by simp⟩ (rs.imp (λ_ _ h=>aU.same es h) λc q xs f h=>?_)⟩
 ·by_cases tZ:q=p
  ·subst tZ;exact e1.free hp
  ·simp only[tZ,if_false]at hq;exact fr q z hq
 ·have h':=nd.same es h;cases f with
  |ow =>
   have tZ:q≠p:=by
    intro z;subst z;exact h.1.ne hp
   exact⟨h'.1,by simp only[tZ,if_false];exact h'.2⟩
  |fz=>exact h'
  |al=>exact h'
  |sc=>exact h'
theorem Gn(L:Lk X S k Φ){f:Nat}{x:Str}{y:Expr}{ys:aw}{p:Pos}(hf:S.fn f=some x)(hg:i6 S.sc x=true)(hn:oH x=true)(ha:PA X (y::ys) (uy X F Φ cs))
  (qY:∀es,starEach (y::es) X.env=(false,eval y X.env)::starEach es X.env) (hpl:∀pos,(backTo pos (starEach ys X.env)).any (·.1)=false):PE X (.Call (.Name x p) (y::ys) [] pos) (tD X F Φ (.call f cs)):=by
 obtain⟨a,fd,ps,Fo,hm,hk,hb,hl⟩:=(L.fn f x hf).ex;unfold oH at hn;simp only[Bool.and_eq_true,Bool.not_eq_true']at hn;refine PE.imp (GU Fo L.room (L.gl hg) hm hk hb .nil (PV (X:=X)) ha hn.1.1 (qY _) (hpl _)) λσ H Q hq=>?_;obtain⟨R,τ,ρ,d,Si,ev,hq⟩:=hq;obtain⟨xs,cF,ev⟩:=aG ev;obtain⟨r,er,ev⟩:=aG ev;cases ev;refine⟨R,τ,ρ,xs,Si,cF,λvs H1 e1 r1=>?_⟩;obtain⟨τt,fr,rs⟩:=r1;have fresh:∀p,H p=none->jQ (gP X F) τ (cW cs) p:=λp hp=>⟨.inr (Si.same.free hp),λc i e=>absurd hp (Si.th p _ e)⟩
 have hR:∀p,R p->jQ (gP X F) τ (cW cs) p:=λp hp=>⟨Si.rf p hp,λc i e=>by rw[Si.rt p hp]at e;cases e⟩
 rw[List.append_nil];refine⟨jQ (gP X F) τ (cW cs),aA aW xs,r,by rw[rs.length,<- hl _ _ er,aQ,List.length_map],aB.iW (λ_ _ h=>h) (λk k' p xs f h=>?_) rs _ _,er,λv H2 e2 rr=>?_⟩
 ·cases f with
  |ow=>exact⟨h.1,fresh p (fr p _ h.2)⟩
  |fz=>exact⟨h.1,hR p h.2⟩
  |al=>exact h
  |sc=>exact h
 ·obtain⟨τ2,Ol,rp⟩:=rr;refine hq v H2 (e1.trans e2) ⟨τ2,λp q h=>e1.free (Ol p q h),Rep.map (q:=[]) (q':=[]) (λ_ _ h=>h) (λc p xs f h=>?_) rp [] rfl⟩;cases f with
  |ow=>exact h
  |fz=>exact⟨h.1,h.2.elim id λz=>fresh p (e1.free z)⟩
  |al=>exact h.2.elim
  |sc=>exact h
def Yg(K:aq)(f:Bf):ae->Hp->VK->Prop:=match f with
 |.len=>λxs H Q=>∃p ys,xs=[.ref p]/\(dg K H p ys\/aU K H p ys)/\Q (.int ys.length) H
 |.abs=>λxs H Q=>∃i,xs=[.int i]/\Q (.int (if i<0 then -i else i)) H
 |.vy=>λxs H Q=>(∃i,xs=[.int i]/\Q (.int i) H)\/∃k,xs=[.bl k]/\Q (.int (if k then 1 else 0)) H
 |.list1=>λxs H Q=>∃p ys,xs=[.ref p]/\(dg K H p ys\/aU K H p ys)/\∀l,H l=none->Q (.ref l) (upd H l (.lst ys))
 |.tuple1=>λxs H Q=>∃p ys,xs=[.ref p]/\((dg K H p ys/\∀l,H l=none->Q (.ref l) (upd H l (.tup ys)))\/(aU K H p ys/\Q (.ref p) H))
 |.gS=>λxs H Q=>∃(p:Addr) (ns:aa),xs=[.ref p]/\dg K H p (ns.map V.int)/\Q (.int ns.sum) H
 |.all1=>λxs H Q=>∃(p:Addr) (bs:List Bool),xs=[.ref p]/\dg K H p (bs.map V.bl)/\Q (.bl (bs.all id)) H
 |.cY=>λxs H Q=>∃(p:Addr) (ns:aa),xs=[.ref p]/\(dg K H p (ns.map V.int)\/aU K H p (ns.map V.int))/\ns.length<64/\∀l,H l=none->Q (.ref l) (upd H l (.lst ((sortI ns).map V.int)))
theorem aB.one{k:bg}{n:Nat}{d:D}(h:aB T N k n vs [d]):∃v,vs=[v]/\Rep T N (n::k) v d:=by
 cases h with
 |cons h t=>cases t;exact⟨_,rfl,h⟩
theorem aB.two{k:bg}{n:Nat}{d e:D}(h:aB T N k n vs [d,e]):∃v w,vs=[v,w]/\Rep T N (n::k) v d/\Rep T N ((n+1)::k) w e:=by
 cases h with
 |cons h t=>obtain⟨w,rfl,h'⟩:=t.one;exact⟨_,_,rfl,h,h'⟩
theorem aB.ints1{k:bg}{n:Nat}{i:Int}(h:aB T N k n vs [.int i]):vs=[.int i]:=by
 obtain⟨v,rfl,z⟩:=h.one;cases z;rfl
noncomputable def Bf.one:Bf->Bool
 |_=>true
theorem JQ{f:Bf}{xs:ab}{d:D}(hf:f.one=true)(h:m8 f xs=ok d):∃x,xs=[x]:=by
 cases xs with
 |nil=>cases f<;>exact nk h
 |cons x xs=>cases xs with
  |nil=>exact⟨x,rfl⟩
  |cons y ys=>cases f<;>first | (cases hf;done) | (cases x<;>exact nk h)
theorem aB.ofInts{T:kj}{N:iJ}{k:bg}:∀{ns:aa} {n:Nat} {vs:ae},aB T N k n vs (ns.map D.int)->vs=ns.map V.int
 |[],_,_,h=>by cases h;rfl
 |i::ns,_,_,h=>by
  cases h with
  |cons h t=>cases h;rw[aB.ofInts t];rfl
theorem aB.Jf{T:kj}{N:iJ}{k:bg}:∀{ns:List Bool} {n:Nat} {vs:ae},aB T N k n vs (ns.map D.bl)->vs=ns.map V.bl
 |[],_,_,h=>by cases h;rfl
 |i::ns,_,_,h=>by
  cases h with
  |cons h t=>cases h;rw[aB.Jf t];rfl
theorem lY{T:kj}{N:iJ}{k:bg}:∀(ns:aa) {n:Nat},aB T N k n (ns.map V.int) (ns.map D.int)
 |[],_=>.nil
 |i::ns,_=>.cons (.int i) (lY ns)
theorem Ii{f:Bf}(hq:tD X F Φ (.bf f cs) σ H Q):OY (Yg X.K f) (uy X F Φ cs) σ H Q:=by
 obtain⟨R,τ,ρ,d,Si,ev,hq⟩:=hq;obtain⟨xs,cF,ev⟩:=aG ev;refine⟨R,τ,ρ,xs,Si,cF,λvs H1 e1 r1=>?_⟩;obtain⟨τt,fr,rs⟩:=r1;cases f with
 |len =>
  obtain⟨x,rfl⟩:=JQ rfl ev;obtain⟨v,rfl,rv⟩:=rs.one;cases x with
  |tup ds=>cases ev;obtain⟨_,_,rfl,h,r⟩:=rv.Ab;exact⟨_,_,rfl,.inr h,by rw[r.length];exact hq _ H1 e1 .int⟩
  |lst f ds=>cases ev;obtain⟨_,_,rfl,h,r⟩:=rv.rM;exact⟨_,_,rfl,.inl h.sq,by rw[r.length];exact hq _ H1 e1 .int⟩
  |_=>exact nk ev
 |abs =>
  obtain⟨x,rfl⟩:=JQ rfl ev;cases x with
  |int i=>cases ev;cases rs.ints1;exact⟨_,rfl,hq _ H1 e1 .int⟩
  |_=>exact nk ev
 |vy =>
  obtain⟨x,rfl⟩:=JQ rfl ev;obtain⟨v,rfl,rv⟩:=rs.one;cases x with
  |int i=>cases ev;cases rv;exact .inl ⟨_,rfl,hq _ H1 e1 .int⟩
  |bl i=>cases ev;cases rv;exact .inr ⟨_,rfl,hq _ H1 e1 .int⟩
  |_=>exact nk ev
 |list1 =>
  obtain⟨x,rfl⟩:=JQ rfl ev;obtain⟨v,rfl,rv⟩:=rs.one;cases x with
  |tup ds =>
   cases ev;obtain⟨_,_,rfl,h,r⟩:=rv.Ab;refine⟨_,_,rfl,.inr h,λl hl=>?_⟩;exact hq _ _ (e1.trans (aJ.upd hl)) (bX.vi (e1.free hl) (e1.trans (aJ.upd hl)) aX ((r.fe Si fr).imp (λ_ _ h=>aU.same (aJ.upd hl) h) λ_ _ _ _ h=>nd.same (aJ.upd hl) h))
  |lst f ds =>
   cases ev;obtain⟨_,_,rfl,h,r⟩:=rv.rM;refine⟨_,_,rfl,.inl h.sq,λl hl=>?_⟩;exact hq _ _ (e1.trans (aJ.upd hl)) (bX.vi (e1.free hl) (e1.trans (aJ.upd hl)) aX ((r.fe Si fr).imp (λ_ _ h=>aU.same (aJ.upd hl) h) λ_ _ _ _ h=>nd.same (aJ.upd hl) h))
  |_=>exact nk ev
 |tuple1 =>
  obtain⟨x,rfl⟩:=JQ rfl ev;obtain⟨v,rfl,rv⟩:=rs.one;cases x with
  |tup ds =>
   cases ev;obtain⟨_,_,rfl,h,r⟩:=rv.Ab;exact⟨_,_,rfl,.inr ⟨h,hq _ H1 e1 ⟨λ_=>none,λ_ _ h=>by simp at h,.tup h (r.fe Si fr)⟩⟩⟩
  |lst f ds =>
   cases ev;obtain⟨_,_,rfl,h,r⟩:=rv.rM;refine⟨_,_,rfl,.inl ⟨h.sq,λl hl=>?_⟩⟩;exact hq _ _ (e1.trans (aJ.upd hl)) ⟨λ_=>none,λ_ _ h=>by simp at h,.tup (aU.of aX) ((r.fe Si fr).imp (λ_ _ h=>aU.same (aJ.upd hl) h) λ_ _ _ _ h=>nd.same (aJ.upd hl) h)⟩
  |_=>exact nk ev
 |gS =>
  obtain⟨x,rfl⟩:=JQ rfl ev;obtain⟨v,rfl,rv⟩:=rs.one;cases x with
  |lst f ds =>
   have ev:(match intsOf ds with|some ns=>ok (.int ns.sum)|none=>none)=ok d:=ev;cases hn:intsOf ds with
   |none=>rw[hn]at ev;cases ev
   |some ns =>
    rw[hn]at ev;cases ev;cases dP hn;cases rv with
    |lst h r=>cases r.ofInts;exact⟨_,ns,rfl,h.sq,hq _ H1 e1 .int⟩
  |_=>exact nk ev
 |all1 =>
  obtain⟨x,rfl⟩:=JQ rfl ev;obtain⟨v,rfl,rv⟩:=rs.one;cases x with
  |lst f ds =>
   have ev:(match i_ ds with|some bs=>ok (.bl (bs.all id))|none=>none)=ok d:=ev;cases hn:i_ ds with
   |none=>rw[hn]at ev;cases ev
   |some ns =>
    rw[hn]at ev;cases ev;cases wa hn;cases rv with
    |lst h r=>cases r.Jf;exact⟨_,ns,rfl,h.sq,hq _ H1 e1 .bl⟩
  |_=>exact nk ev
 |cY =>
  obtain⟨x,rfl⟩:=JQ rfl ev;obtain⟨v,rfl,rv⟩:=rs.one;have fin:∀ds,qI ds=ok d->∃ns:aa,ds=ns.map D.int/\ns.length<64/\∀l,H1 l=none->Q (.ref l) (upd H1 l (.lst ((sortI ns).map V.int))):=by
   intro ds e;unfold qI at e;split at e
   ·rename_i ns hn;split at e
    ·rename_i uc;cases e;refine⟨ns,dP hn,uc,λl hl=>hq _ _ (e1.trans (aJ.upd hl)) (bX.vi (e1.free hl) (e1.trans (aJ.upd hl)) aX (lY _))⟩
    ·cases e
   ·cases e
  cases x with
  |tup ds =>
   obtain⟨ns,rfl,uc,q⟩:=fin ds ev;cases rv with
   |tup h r=>cases r.ofInts;exact⟨_,ns,rfl,.inr h,uc,q⟩
  |lst f ds =>
   obtain⟨ns,rfl,uc,q⟩:=fin ds ev;cases rv with
   |lst h r=>cases r.ofInts;exact⟨_,ns,rfl,.inl h.sq,uc,q⟩
  |_=>exact nk ev
theorem Pd(L:Lk X S k Φ){f:Bf}{y:Expr}{ys:aw}{p:Pos}(hg:i6 S.sc (tF f:Str)=true)(hb:(tF f:Str)∈S.bl)(ha:PA X (y::ys) (uy X F Φ cs))
  (qY:∀es,starEach (y::es) X.env=(false,eval y X.env)::starEach es X.env) (hpl:∀pos,(backTo pos (starEach ys X.env)).any (·.1)=false):PE X (.Call (.Name (tF f:Str) p) (y::ys) [] pos) (tD X F Φ (.bf f cs)):=by
 refine PE.imp (t:=OY (Yg X.K f) (uy X F Φ cs)) ?_ λσ H Q hq=>Ii hq;cases f with
 |len=>exact eM tE (L.gl hg) (L.bl _ hb) PySem.boot_len ha (he:=qY _) (hpl:=hpl _)
 |abs=>exact eM EU (L.gl hg) (L.bl _ hb) (by decide +kernel) ha (he:=qY _) (hpl:=hpl _)
 |vy=>exact lU Bi (L.gl hg) (L.bl _ hb) (by decide +kernel) ha (he:=qY _) (hpl:=hpl _)
 |list1=>exact lU tx (L.gl hg) (L.bl _ hb) (by decide +kernel) ha (he:=qY _) (hpl:=hpl _)
 |tuple1=>exact lU qu (L.gl hg) (L.bl _ hb) (by decide +kernel) ha (he:=qY _) (hpl:=hpl _)
 |gS=>exact eM (Bg L.calm) (L.gl hg) (L.bl _ hb) (by decide +kernel) ha (he:=qY _) (hpl:=hpl _)
 |cY=>exact eM tu (L.gl hg) (L.bl _ hb) (by decide +kernel) ha (he:=qY _) (hpl:=hpl _)
 |all1=>exact eM (Bj L.calm) (L.gl hg) (L.bl _ hb) (by decide +kernel) ha (he:=qY _) (hpl:=hpl _)
theorem Gk(L:Lk X S k Φ){a:CE}{e:Expr}{p:Pos}(hf:i6 S.sc ("len" : Str)=true)(WH:("len" : Str)∈S.bl)(hg:i6 S.sc ("set" : Str)=true)(WD:("set" : Str)∈S.bl)
  (ha:PE X e (tD X F Φ a)) (qY:∀es,starEach (e::es) X.env=(false,eval e X.env)::starEach es X.env):PE X (.Call (.Name ("len" : Str) p) [.Call (.Name ("set" : Str) p') [e] [] pos'] [] pos) (tD X F Φ (.jV a)):=by
 refine PE.imp (GR L.calm (L.gl hf) (L.bl _ WH) (L.gl hg) (L.bl _ WD) (cO ha eT (qY _)) qY) λσ H Q hq=>?_;obtain⟨R,τ,ρ,d,Si,ev,hq⟩:=hq;obtain⟨x,ex,ev⟩:=aG ev;refine tD.intro Si ex λv H1 e1 r1=>?_;obtain⟨τ1,f1,rv⟩:=r1;cases x with
 |tup ds =>
  simp only[y6]at ev;split at ev
  ·rename_i ns hn;split at ev
   ·rename_i hl;cases ev;cases dP hn;cases rv with
    |tup h r=>cases r.ofInts;exact⟨_,ns,rfl,h,hl,hq _ H1 e1 .int⟩
   ·cases ev
  ·cases ev
 |_=>exact nk ev
theorem Kv{a:CE}{e:Expr}(h:PE X e (tD X F Φ a)):PE X (.UnaryOp .Not e pos) (tD X F Φ (.not a)):=by
 refine PE.imp (K9 h) λσ H Q hq=>?_;obtain⟨R,τ,ρ,d,Si,ev,hq⟩:=hq;obtain⟨b,eb,ev⟩:=aG ev;obtain⟨x,ex,eb⟩:=aG eb;cases ev;refine tD.intro Si ex λv H1 e1 r1=>?_;cases x<;>simp[iE]at eb;cases eb;exact⟨_,r1.AJ,hq _ H1 e1 .bl⟩
theorem Ki{a:CE}{e:Expr}(h:PT X e (gL X F Φ a)):PT X (.UnaryOp .Not e pos) (gL X F Φ (.not a)):=by
 refine PT.imp (KW h) λσ H Q hq=>?_;obtain⟨R,τ,ρ,b,Si,ev,hq⟩:=hq;unfold A4 at ev;obtain⟨d,ed,ev⟩:=aG ev;obtain⟨c,ec,ed⟩:=aG ed;cases ed;have Xh:b=!c:=by
  have e2:ok (!c)=ok b:=ev;exact(Except.ok.inj (aat e2)).symm
 subst Xh;exact⟨R,τ,ρ,c,Si,ec,λH' e=>hq H' e⟩
theorem Kw{a:CE}{e:Expr}(h:PE X e (tD X F Φ a)):PE X (.UnaryOp .USub e pos) (tD X F Φ (.neg a)):=by
 refine PE.imp (PN J_ h) λσ H Q hq=>?_;obtain⟨R,τ,ρ,d,Si,ev,hq⟩:=hq;obtain⟨x,ex,ev⟩:=aG ev;refine tD.intro Si ex λv H1 e1 r1=>?_;cases x<;>simp[Hc]at ev;cases ev;exact⟨_,r1.isInt,hq _ H1 e1 .int⟩
theorem Im{c:CE}(hq:tD X F Φ (.and [c]) σ H Q):tD X F Φ c σ H Q:=by
 obtain⟨R,τ,ρ,d,Si,ev,hq⟩:=hq;obtain⟨b,eb,ev⟩:=aG ev;obtain⟨x,ex,eb⟩:=aG eb;cases ev;refine tD.intro Si ex λv H1 e1 r1=>?_;cases x<;>simp[iE]at eb;cases eb;rw[r1.AJ];exact hq _ H1 e1 .bl
theorem Li{c:CE}(hq:tD X F Φ (.or [c]) σ H Q):tD X F Φ c σ H Q:=by
 obtain⟨R,τ,ρ,d,Si,ev,hq⟩:=hq;obtain⟨b,eb,ev⟩:=aG ev;obtain⟨x,ex,eb⟩:=aG eb;cases ev;refine tD.intro Si ex λv H1 e1 r1=>?_;cases x<;>simp[iE]at eb;cases eb;rw[r1.AJ];exact hq _ H1 e1 .bl
theorem Fc{c:CE}{Q:Bool->Hp->Prop}(hq:gL X F Φ (.and [c]) σ H Q):gL X F Φ c σ H Q:=by
 obtain⟨R,τ,ρ,d,Si,ev,hq⟩:=hq;unfold A4 at ev;obtain⟨b,eb,ev⟩:=aG ev;obtain⟨x,ex,eb⟩:=aG eb;cases eb;cases ev;exact⟨R,τ,ρ,_,Si,ex,hq⟩
theorem GY{c:CE}{Q:Bool->Hp->Prop}(hq:gL X F Φ (.or [c]) σ H Q):gL X F Φ c σ H Q:=by
 obtain⟨R,τ,ρ,d,Si,ev,hq⟩:=hq;unfold A4 at ev;obtain⟨b,eb,ev⟩:=aG ev;obtain⟨x,ex,eb⟩:=aG eb;cases eb;cases ev;exact⟨R,τ,ρ,_,Si,ex,hq⟩
theorem Fd{c:CE}(hq:tD X F Φ (.and (c::c'::cs)) σ H Q):IV (tD X F Φ c) (tD X F Φ (.and (c'::cs))) σ H Q:=by
 obtain⟨R,τ,ρ,d,Si,ev,hq⟩:=hq;obtain⟨b,eb,ev⟩:=aG ev;obtain⟨x,ex,eb⟩:=aG eb;refine tD.intro Si ex λv H1 e1 r1=>?_;cases x<;>simp[iE]at eb;cases eb;refine⟨_,r1.AJ,?_⟩;cases b with
 |true =>
  rw[if_pos rfl]at ev ⊢;exact tD.intro (Si.go e1) ev λv H' e r=>hq v H' (e1.trans e) ((r.old e1).mono λi hi=>aao _ hi)
 |false =>
  rw[if_neg (by simp)]at ev ⊢;cases ev;exact hq _ H1 e1 .bl
theorem GZ{c:CE}(hq:tD X F Φ (.or (c::c'::cs)) σ H Q):OT (tD X F Φ c) (tD X F Φ (.or (c'::cs))) σ H Q:=by
 obtain⟨R,τ,ρ,d,Si,ev,hq⟩:=hq;obtain⟨b,eb,ev⟩:=aG ev;obtain⟨x,ex,eb⟩:=aG eb;refine tD.intro Si ex λv H1 e1 r1=>?_;cases x<;>simp[iE]at eb;cases eb;refine⟨_,r1.AJ,?_⟩;cases b with
 |false =>
  rw[if_neg (by simp)]at ev ⊢;exact tD.intro (Si.go e1) ev λv H' e r=>hq v H' (e1.trans e) ((r.old e1).mono λi hi=>aao _ hi)
 |true =>
  rw[if_pos rfl]at ev ⊢;cases ev;exact hq _ H1 e1 .bl
theorem Bo{c:CE}{Q:Bool->Hp->Prop}(hq:gL X F Φ (.and (c::c'::cs)) σ H Q):OZ (gL X F Φ c) (gL X F Φ (.and (c'::cs))) σ H Q:=by
 obtain⟨R,τ,ρ,d,Si,ev,hq⟩:=hq;unfold A4 at ev;obtain⟨x,ex,et⟩:=aG ev;obtain⟨b,eb,ev⟩:=aG ex;refine⟨R,τ,ρ,b,Si,eb,λH1 e1=>?_⟩;cases b with
 |true =>
  rw[if_pos rfl]at ev ⊢;exact⟨R,τ,ρ,d,Si.go e1,by unfold A4;rw[show bp Φ (.and (c'::cs)) ρ=ok x from ev];exact et,λH' e=>hq H' (e1.trans e)⟩
 |false =>
  rw[if_neg (by simp)]at ev ⊢;cases ev;cases et;exact hq H1 e1
theorem C6{c:CE}{Q:Bool->Hp->Prop}(hq:gL X F Φ (.or (c::c'::cs)) σ H Q):X5 (gL X F Φ c) (gL X F Φ (.or (c'::cs))) σ H Q:=by
 obtain⟨R,τ,ρ,d,Si,ev,hq⟩:=hq;unfold A4 at ev;obtain⟨x,ex,et⟩:=aG ev;obtain⟨b,eb,ev⟩:=aG ex;refine⟨R,τ,ρ,b,Si,eb,λH1 e1=>?_⟩;cases b with
 |false =>
  rw[if_neg (by simp)]at ev ⊢;exact⟨R,τ,ρ,d,Si.go e1,by unfold A4;rw[show bp Φ (.or (c'::cs)) ρ=ok x from ev];exact et,λH' e=>hq H' (e1.trans e)⟩
 |true =>
  rw[if_pos rfl]at ev ⊢;cases ev;cases et;exact hq H1 e1
theorem kD{Q:ae->Hp->Prop}(hq:uy X F Φ [] σ H Q):Kd σ H Q:=by
 obtain⟨R,τ,ρ,d,Si,ev,hq⟩:=hq;cases ev;exact hq _ H (aJ.refl H) .nil
theorem gC{c:CE}{Q:ae->Hp->Prop}(hq:uy X F Φ (c::cs) σ H Q):B6 (tD X F Φ c) (uy X F Φ cs) σ H Q:=by
 obtain⟨R,τ,ρ,d,Si,ev,hq⟩:=hq;obtain⟨x,ex,ev⟩:=aG ev;obtain⟨xs,cF,ev⟩:=aG ev;cases ev;refine tD.intro Si ex λv H1 e1 r1=>⟨R,τ,ρ,xs,Si.go e1,cF,λvs H2 e2 r2=>hq _ H2 (e1.trans e2) (cx.cons e1 e2 (r1.mono λi hi=>aaP _ hi) (r2.mono λi hi=>aao _ hi))⟩
theorem cw{c:CE}{e:Expr}(h:cD S c e=true)(es:aw)(env:Env):starEach (e::es) env=(false,eval e env)::starEach es env:=by
 cases e<;>first|rfl | (cases c<;>exact(aag h).elim)
theorem xT:∀{cs:aD} {es:aw},bU S cs es=true->∀(pos:Pos) (env:Env),(backTo pos (starEach es env)).any (·.1)=false
 |[],[],_,_,_=>rfl
 |[],_::_,h,_,_=>by exact(aag h).elim
 |_::_,[],h,_,_=>by exact(aag h).elim
 |c::cs,e::es,h,pos,env=>by
  replace h:=aL h;rw[cw h.1];have:=xT h.2 pos env;unfold backTo at this ⊢;simp only[List.map_cons,List.any_cons,Bool.false_or];exact this
theorem rC{c:CE}{e:Expr}(h:cD S c e=true):nU e:=by
 intro o i;cases e<;>first|rfl | (cases c<;>exact(aag h).elim)
theorem Cj{j:Nat}:PE X (.Constant .none j pos) (tD X F Φ .cg):=PE.imp K_ λσ H Q bR=>by obtain⟨R,τ,ρ,d,Si,ev,hq⟩:=bR;cases ev;exact hq _ H (aJ.refl H) .cg
theorem IZ{b:Bool}{j:Nat}:PE X (.Constant (.bool b) j pos) (tD X F Φ (.bl b)):=PE.imp PU λσ H Q bR=>by obtain⟨R,τ,ρ,d,Si,ev,hq⟩:=bR;cases ev;exact hq _ H (aJ.refl H) .bl
theorem Ck{i:Int}{j:Nat}:PE X (.Constant (.int i) j pos) (tD X F Φ (.int i)):=PE.imp La λσ H Q bR=>by obtain⟨R,τ,ρ,d,Si,ev,hq⟩:=bR;cases ev;exact hq _ H (aJ.refl H) .int
theorem LY(L:Lk X S k Φ){y:Expr}{p L4:Pos}(g1:i6 S.sc ("range" : Str)=true)(g2:("range" : Str)∈S.bl)(pa:PA X [y] (uy X F Φ es))(AR:bU S es [y]=true)
  (pins:ak) (s:Shared) (σ:St) (H:Hp) (R:aj) (τ:Addr->Option bg) (ρ:bc) (xs items:ab) (I:Inv X pins σ H s) (Si:SI X F R τ ρ σ H) (cF:b9 Φ es ρ=ok xs) (xN:dI Φ .lz xs=ok items) (Rr:It->Hp->Prop)
  (hR:∀J H2,aJ H H2->Yl X.K J (lR X F τ (caps++cW es) H2) H2 items->Rr J H2) :
  wpAny (model X.prog X.w) X.A (eval (.Call (.Name ("range" : Str) p) [y] [] L4) X.env) (λv s1=>wpAny (model X.prog X.w) X.A (pyIter v) (Fh X pins σ target Rr) X.xe s1) X.xe s:=by
 match es,AR with
 |[c],AR =>
  replace AR:=aL AR;refine qM (L.gl g1) (L.bl _ g2) pa (cw AR.1 _ _) pins s σ H Rr I ⟨R,τ,ρ,xs,Si,cF,λvs H1 e1 rv=>?_⟩;obtain⟨τt,fr,rs⟩:=rv;obtain⟨n,rfl⟩:∃n,xs=[.int n]:=by
   cases xs with
   |nil=>cases xN
   |cons x t=>cases x<;>first | (cases xN;done) | (cases t with|nil=>exact⟨_,rfl⟩|cons _ _=>cases xN)
  cases rs.ints1
  ·obtain⟨⟨c1,c2⟩,xN⟩:=o7 xN;subst xN;have mY:(cP:Int)=1000000:=rfl;refine⟨n,rfl,by left,by left,hR _ H1 e1 ?_⟩;have:=J1 (X:=X) (lo:=0) (n:=n.toNat) (R:=lR X F τ (caps++cW [c]) H1) (H1:=H1);simpa using this
 |[],AR=>exact(aag AR).elim
 |_::_::_,AR=>exact(aag (aL AR).2).elim
theorem LX(L:Lk X S k Φ){c:CE}{y:Expr}(pe:PE X y (tD X F Φ c))
  (pins:ak) (s:Shared) (σ:St) (H:Hp) (R:aj) (τ:Addr->Option bg) (ρ:bc) (xs items:ab) (I:Inv X pins σ H s) (Si:SI X F R τ ρ σ H) (cF:b9 Φ [c] ρ=ok xs) (xN:dI Φ .seq xs=ok items) (Rr:It->Hp->Prop)
  (hR:∀J H2,aJ H H2->Yl X.K J (lR X F τ (caps++cW [c]) H2) H2 items->Rr J H2) :
  wpAny (model X.prog X.w) X.A (eval y X.env) (λv s1=>wpAny (model X.prog X.w) X.A (pyIter v) (Fh X pins σ target Rr) X.xe s1) X.xe s:=by
 obtain⟨x,ex,cF⟩:=aG cF;obtain⟨xs',Xd,cF⟩:=aG cF;cases Xd;cases cF;have Y3:∀i∈gN c,i∈caps++cW [c]:=λi hi=>aao _ (aaP _ hi);cases x with
 |tup ds =>
  cases xN;refine CM pe pins s σ H Rr I (tD.intro Si ex λv H1 e1 rv=>?_);obtain⟨τt,fr,rp⟩:=rv;cases rp with
  | @tup _ p ys _ hp rs=>exact⟨p,rfl,⟨ys,hp⟩,hR _ H1 e1 (J0 (q:=[]) hp (aB.iW (λ_ _ h=>h) (w8 Si fr Y3) rs _ _))⟩
 |lst f ds =>
  cases xN;refine yO pe pins s σ H Rr I (tD.intro Si ex λv H1 e1 rv=>?_);obtain⟨τt,fr,rp⟩:=rv;cases rp with
  | @lst _ p ys _ _ hp rs=>exact⟨p,rfl,⟨ys,hp.sq⟩,hR _ H1 e1 (FQ (q:=[]) hp.sq (aB.iW (λ_ _ h=>h) (w8 Si fr Y3) rs _ _))⟩
 |_=>cases xN
theorem OA{xs:ab}{J:It}(Si:SI X F R τ ρ σ H)(hs:∀i∈fv,i∈fv')(r:cx X.K (gP X F) R τ fv H H2 vs xs)(y:NH X.K J H2 vs xs items):
  Yl X.K J (lR X F τ fv' H2) H2 items:=by
 obtain⟨τt,fr,rs⟩:=r;have at':∀H',aJ H2 H'->aB (aU X.K H') (nd X.K (lR X F τ fv' H2) (λ_=>False) (λ_=>none) H') [] 0 vs (aA aW xs):=λH' e =>
  (aB.iW (T':=aU X.K H2) (λ_ _ h=>h) (w8 Si fr hs) rs [] 0).imp (λ_ _ h=>aU.same e h) λ_ _ _ _ h=>nd.same e h
 have st:∀H',aJ H2 H'->we X.K H2 vs xs H':=λH' e=>⟨⟨_,at' H2 (aJ.refl H2),λp o _ h=>e p o h⟩,λ_ _ h=>aU.same e h⟩
 exact⟨λi H' e hi=>y.go i H' _ (st H' e) (at' H' e) hi,λi H' x m_ e hi hy=>y.wx i H' _ x m_ (st H' e) (at' H' e) hi hy,λi H' e hi=>y.stop i H' _ (st H' e) (at' H' e) hi⟩
theorem LZ(L:Lk X S k Φ){p:Nat}{y:Expr}(hp:S.px.pi p S.sc S.bl y=some args)(ht:(decide (1100<=p)||gX target)=true)(hs:mL X F Φ es args)
  (pins:ak) (s:Shared) (σ:St) (H:Hp) (R:aj) (τ:Addr->Option bg) (ρ:bc) (xs items:ab) (I:Inv X pins σ H s) (Si:SI X F R τ ρ σ H) (cF:b9 Φ es ρ=ok xs) (xN:dI Φ (.cz p) xs=ok items) (Rr:It->Hp->Prop)
  (hR:∀J H2,aJ H H2->Yl X.K J (lR X F τ (caps++cW es) H2) H2 items->Rr J H2) :
  wpAny (model X.prog X.w) X.A (eval y X.env) (λv s1=>wpAny (model X.prog X.w) X.A (pyIter v) (Fh X pins σ target Rr) X.xe s1) X.xe s:=by
 obtain⟨d,ed,ei⟩:=aG (show bd (Φ p xs) kH=ok items from xN);exact L.pr.i X _ _ k L.pX p y args hp F es target ht hs pins s σ H R τ ρ xs d items I Si cF ed ei Rr λJ H2 vs e2 r yz=>hR J H2 e2 (OA Si (λi hi=>by simp[hi]) r yz)
theorem vV{S':Sx}{ifs:aw}(h3:bN.length<=1)(h4:bU S' bN ifs=true)
  (xD:∀(X':Cx) (F':aj),Lk X' S' k Φ->∀(j:Nat) (c:CE) (e:Expr),bN[j]?=some c->ifs[j]?=some e->PE X' e (tD X' F' Φ c)/\PT X' e (gL X' F' Φ c)) :
  (bN=[]/\ifs=[])\/∃c e,bN=[c]/\ifs=[e]/\∀(X':Cx) (F':aj),Lk X' S' k Φ->PT X' e (gL X' F' Φ c):=by
 cases bN with
 |nil=>cases ifs with
  |nil=>exact .inl ⟨rfl,rfl⟩
  |cons _ _=>exact(aag h4).elim
 |cons c cs=>cases cs with
  |cons _ _=>simp at h3
  |nil=>cases ifs with
   |nil=>exact(aag h4).elim
   |cons e ifs=>cases ifs with
    |cons _ _=>exact(aag (aL h4).2).elim
    |nil=>exact .inr ⟨c,e,rfl,rfl,λX' F' L'=>(xD X' F' L' 0 c e rfl rfl).2⟩
def Sa(S:Sx)(ik:IK)(es:aD)(target iter:Expr):Bool:=match ik with
 |.lz=>bx (fc iter) λw=>decide (w.1=("range" : Str))&&i6 S.sc w.1&&decide (w.1∈S.bl)&&bx (one w.2) λy=>bU S es [y]
 |.seq=>bU S es [iter]
 |.cz p=>S_ iter&&(decide (1100<=p)||gX target)&&bx (S.px.pi p S.sc S.bl iter) λxs=>bU S es xs
theorem DL(L:Lk X S k Φ){ik:IK}(AR:∀l,bU S es l=true->PA X l (uy X F Φ es))
  (xD:∀l,bU S es l=true->∀(j:Nat) (c:CE) (e:Expr),es[j]?=some c->l[j]?=some e->PE X e (tD X F Φ c)/\PT X e (gL X F Φ c)) (hpe:∀l,bU S es l=true->mL X F Φ es l) (h6:Sa S ik es target iter=true) :
  ∀(pins:ak) (s:Shared) (σ:St) (H:Hp) (R:aj) (τ:Addr->Option bg) (ρ:bc) (xs items:ab),Inv X pins σ H s->SI X F R τ ρ σ H->b9 Φ es ρ=ok xs->dI Φ ik xs=ok items->∀(Rr:It->Hp->Prop),
   (∀J H2,aJ H H2->Yl X.K J (lR X F τ (caps++cW es) H2) H2 items->Rr J H2) ->
   wpAny (model X.prog X.w) X.A (eval iter X.env) (λv s1=>wpAny (model X.prog X.w) X.A (pyIter v) (Fh X pins σ target Rr) X.xe s1) X.xe s:=by
 cases ik with
 |lz =>
  obtain⟨⟨x,as⟩,hv,h6⟩:=bB h6;obtain⟨p,L4,rfl⟩:=dq hv;obtain⟨MD,g3⟩:=aL h6;obtain⟨MC,g2⟩:=aL MD;obtain⟨MB,g1⟩:=aL MC;obtain rfl:x=_:=aae MB;obtain⟨y,hu,HD⟩:=bB g3;obtain rfl:as=[y]:=cS hu;exact LY L g1 (aae g2) (AR _ HD) HD
 |seq =>
  have Wk:=xD _ h6;cases es with
  |nil=>exact(aag h6).elim
  |cons c cs=>cases cs with
   |cons _ _=>exact(aag (aL h6).2).elim
   |nil=>exact LX L (Wk 0 c _ rfl rfl).1
 |cz p =>
  obtain⟨h6,g3⟩:=aL h6;obtain⟨xs,ha,HD⟩:=bB g3;exact LZ L ha (aL h6).2 (hpe _ HD)
mutual
theorem bu:∀(c:CE) (X:Cx) (S:Sx) (F:aj) (L:Lk X S k Φ) (e:Expr),cD S c e=true->PE X e (tD X F Φ c)/\PT X e (gL X F Φ c)
 |.cz p cs,X,S,F,L,e,h=>by
  obtain⟨args,ha,hb⟩:=bB (aL h).2;exact L.pr.e X _ _ k L.pX p e args ha F cs (jo cs X S F L args hb)
 |.cg,X,S,F,L,e,h=>by
  obtain⟨c,hv,iH⟩:=bB h;obtain⟨j,p,rfl⟩:=BP hv;obtain rfl:=AG iH;exact⟨Cj,cG Cj λ_=>rfl⟩
 |.bl b,X,S,F,L,e,h=>by
  obtain⟨c,hv,iH⟩:=bB h;obtain⟨j,p,rfl⟩:=BP hv;obtain rfl:=DP iH;exact⟨IZ,cG IZ λ_=>rfl⟩
 |.int i,X,S,F,L,e,h=>by
  obtain⟨c,hv,iH⟩:=bB h;obtain⟨j,p,rfl⟩:=BP hv;obtain rfl:=AH iH;exact⟨Ck,cG Ck λ_=>rfl⟩
 |.v i,X,S,F,L,e,h=>by
  obtain⟨x,hv,h'⟩:=bB h;obtain⟨p,rfl⟩:=lH hv;have:=UY (F:=F) L h;exact⟨this,cG this λ_=>rfl⟩
 |.glo x i,X,S,F,L,e,h=>by
  obtain⟨y,hv,iH⟩:=bB h;obtain⟨pos,rfl⟩:=lH hv;obtain⟨mZ,h3⟩:=aL iH;obtain⟨qo,h2⟩:=aL mZ;obtain⟨Eh,h1⟩:=aL qo;obtain rfl:=aae Eh;obtain⟨u,hm,r⟩:=L.cs _ _ (aae h2);have this:PE X (.Name y pos) (tD X F Φ (.glo y i)):=PE.imp (yR (v:=.int i) (L.gl h1) hm r (mx h3)) λσ H Q bR=>by obtain⟨R,τ,ρ,d,Si,ev,hq⟩:=bR;cases ev;exact hq _ H (aJ.refl H) .int
  exact⟨this,cG this λ_=>rfl⟩
 |.glt x zs,X,S,F,L,e,h=>by
  obtain⟨y,hv,iH⟩:=bB h;obtain⟨pos,rfl⟩:=lH hv;obtain⟨mZ,h3⟩:=aL iH;obtain⟨qo,h2⟩:=aL mZ;obtain⟨Eh,h1⟩:=aL qo;obtain rfl:=aae Eh;obtain⟨u,hm,a,o,aI,n,rfl,q1,q2,q3,q4,q5⟩:=L.cs _ _ (aae h2);have this:PE X (.Name y pos) (tD X F Φ (.glt y zs)):=PE.imp (yR (v:=.ref a) (L.gl h1) hm rfl (mx h3)) λσ H Q bR=>by
   obtain⟨R,τ,ρ,d,Si,ev,hq⟩:=bR;cases ev;exact hq _ H (aJ.refl H) ⟨λ_=>none,λ_ _ h=>by simp at h,.tup (.inr ⟨o,aI,n,q1,q2,q3,q4,q5⟩) (lY zs)⟩
  exact⟨this,cG this λ_=>rfl⟩
 |.bin op a b,X,S,F,L,e,h=>by
  obtain⟨⟨l,o,r⟩,hv,iH⟩:=bB h;obtain⟨pos,rfl⟩:=F3 hv;obtain⟨mZ,h2⟩:=aL iH;obtain⟨qo,h1⟩:=aL mZ;obtain rfl:o=P6 op:=aae qo;have:=Kz (F:=F) (pos:=pos) L (op:=op) (bu a X S F L _ h1).1 (bu b X S F L _ h2).1;exact⟨this,cG this λ_=>rfl⟩
 |.neg a,X,S,F,L,e,h=>by
  obtain⟨⟨o,x⟩,hv,iH⟩:=bB h;obtain⟨pos,rfl⟩:=BN hv;obtain⟨mZ,h1⟩:=aL iH;obtain rfl:o=.USub:=aae mZ;have:=Kw (F:=F) (Φ:=Φ) (pos:=pos) (bu a X S F L _ h1).1;exact⟨this,cG this λ_=>rfl⟩
 |.not a,X,S,F,L,e,h=>by
  obtain⟨⟨o,x⟩,hv,iH⟩:=bB h;obtain⟨pos,rfl⟩:=BN hv;obtain⟨mZ,h1⟩:=aL iH;obtain rfl:o=.Not:=aae mZ;exact⟨Kv (bu a X S F L _ h1).1,Ki (bu a X S F L _ h1).2⟩
 |.and cs,X,S,F,L,e,h=>by
  obtain⟨⟨o,vs⟩,hv,iH⟩:=bB h;obtain⟨pos,rfl⟩:=ui hv;obtain⟨mZ,h1⟩:=aL iH;obtain rfl:o=.And:=aae mZ;exact⟨(lQ cs X S F L vs h1 pos).1,(lQ cs X S F L vs h1 pos).2.pt⟩
 |.or cs,X,S,F,L,e,h=>by
  obtain⟨⟨o,vs⟩,hv,iH⟩:=bB h;obtain⟨pos,rfl⟩:=ui hv;obtain⟨mZ,h1⟩:=aL iH;obtain rfl:o=.Or:=aae mZ;exact⟨(ou cs X S F L vs h1 pos).1,(ou cs X S F L vs h1 pos).2.pt⟩
 |.cmp op a b,X,S,F,L,e,h=>by
  obtain⟨⟨l,os,rs⟩,hv,iH⟩:=bB h;obtain⟨pos,rfl⟩:=ye hv;obtain⟨mZ,h2⟩:=aL iH;obtain⟨qo,h1⟩:=aL mZ;obtain⟨r,hr,W2⟩:=bB h2;obtain⟨RB,h3⟩:=aL W2;obtain rfl:os=[Vx op]:=aae qo;obtain rfl:rs=[r]:=cS hr;exact⟨PE.imp (yS (C8 L op) (bu a X S F L _ h1).1 (bu b X S F L _ RB).1 (Dk h3)) λ_ _ _ qo=>vY qo,PT.imp (yI (C8 L op) (bu a X S F L _ h1).1 (bu b X S F L _ RB).1 (Dk h3)) λ_ _ _ qo=>Ah qo⟩
 |.qW a t,X,S,F,L,e,h=>by
  obtain⟨⟨f,as⟩,hv,iH⟩:=bB h;obtain⟨p,pos,rfl⟩:=dq hv;obtain⟨mZ,h5⟩:=aL iH;obtain⟨qo,h2⟩:=aL mZ;obtain⟨Eh,h1⟩:=aL qo;obtain rfl:f=_:=aae Eh;obtain⟨⟨e,g⟩,hw,HB⟩:=bB h5;obtain rfl:as=[e,g]:=f_ hw;obtain⟨Ry,h6⟩:=aL HB;obtain⟨x,hn,MD⟩:=bB h6;obtain⟨p',rfl⟩:∃p,g=.Name x p:=lH hn;obtain⟨MC,h4⟩:=aL MD;obtain⟨MB,h3⟩:=aL MC;obtain rfl:=aae MB;have:=Ky (F:=F) (p:=p) (p':=p') (pos:=pos) L h1 (aae h2) h3 (aae h4) (bu a X S F L _ Ry).1 (λes=>cw Ry es _);exact⟨this,cG this λ_=>rfl⟩
 |.call f cs,X,S,F,L,e,h=>by
  obtain⟨⟨x,as⟩,hv,iH⟩:=bB h;obtain⟨p,pos,rfl⟩:=dq hv;obtain⟨mZ,h4⟩:=aL iH;obtain⟨qo,h3⟩:=aL mZ;obtain⟨h1,h2⟩:=aL qo;obtain⟨⟨y,ys⟩,hu,sQ⟩:=bB h4;obtain rfl:as=y::ys:=BS hu;cases cs with
  |nil=>exact(aag sQ).elim
  |cons c cs' =>
   have Rz:=aL sQ;have:=Gn (F:=F) (p:=p) (pos:=pos) L (aae h1) h2 h3 (fG (c::cs') X S F L (y::ys) sQ) (λes=>cw Rz.1 es _) (λpos=>xT Rz.2 pos _);exact⟨this,cG this λ_=>rfl⟩
 |.bf f cs,X,S,F,L,e,h=>by
  obtain⟨⟨x,as⟩,hv,iH⟩:=bB h;obtain⟨p,pos,rfl⟩:=dq hv;obtain⟨mZ,h4⟩:=aL iH;obtain⟨qo,h3⟩:=aL mZ;obtain⟨Eh,h2⟩:=aL qo;obtain rfl:x=_:=aae Eh;obtain⟨⟨y,ys⟩,hu,sQ⟩:=bB h4;obtain rfl:as=y::ys:=BS hu;cases cs with
  |nil=>exact(aag sQ).elim
  |cons c cs' =>
   have Rz:=aL sQ;have:=Pd (F:=F) (p:=p) (pos:=pos) L h2 (aae h3) (fG (c::cs') X S F L (y::ys) sQ) (λes=>cw Rz.1 es _) (λpos=>xT Rz.2 pos _);exact⟨this,cG this λ_=>rfl⟩
 |.jV a,X,S,F,L,e,h=>by
  obtain⟨⟨x,as⟩,hv,iH⟩:=bB h;obtain⟨p,pos,rfl⟩:=dq hv;obtain⟨mZ,h4⟩:=aL iH;obtain⟨qo,h2⟩:=aL mZ;obtain⟨Eh,h1⟩:=aL qo;obtain rfl:x=_:=aae Eh;obtain⟨y,hu,sQ⟩:=bB h4;obtain rfl:as=[y]:=cS hu;obtain⟨⟨z,bs⟩,hw,h4_3⟩:=bB sQ;obtain⟨p',pos',rfl⟩:=dq hw;obtain⟨WY,h5⟩:=aL h4_3;obtain⟨WX,h6⟩:=aL WY;obtain⟨WW,h3⟩:=aL WX;obtain rfl:z=_:=aae WW;obtain⟨u,Wa,HB⟩:=bB h5;obtain rfl:bs=[u]:=cS Wa;have:=Gk (F:=F) (p:=p) (p':=p') (pos:=pos) (pos':=pos') L h1 (aae h2) h3 (aae h6) (bu a X S F L _ HB).1 (λes=>cw HB es _);exact⟨this,cG this λ_=>rfl⟩
 |.ix a b,X,S,F,L,e,h=>by
  obtain⟨⟨l,r⟩,hv,iH⟩:=bB h;obtain⟨pos,rfl⟩:=ku hv;obtain⟨h1,h2⟩:=aL iH;have:=Pc (F:=F) (pos:=pos) L (bu a X S F L _ h1).1 (bu b X S F L _ h2).1 (rC h2);exact⟨this,cG this λ_=>rfl⟩
 |.tup cs,X,S,F,L,e,h=>by
  obtain⟨es,hv,iH⟩:=bB h;obtain⟨n,pos,rfl⟩:=kr hv;obtain⟨h1,h2⟩:=aL iH;have:=Ku (F:=F) (n:=n) (pos:=pos) (fG cs X S F L es h1) (aae h2);exact⟨this,cG this λ_=>rfl⟩
 |.lst cs,X,S,F,L,e,h=>by
  obtain⟨es,hv,iH⟩:=bB h;obtain⟨pos,rfl⟩:=yd hv;obtain⟨h1,h2⟩:=aL iH;have:=Kx (F:=F) (pos:=pos) (fG cs X S F L es h1) (aae h2);exact⟨this,cG this λ_=>rfl⟩
 |.comp n t caps ik es bN elt,X,S,F,L,e,h=>by
  obtain⟨⟨jJ,gens,sc⟩,hv,iH⟩:=bB h;obtain⟨pos,rfl⟩:=BO hv;obtain⟨⟨target,iter,ifs,a⟩,hg,mZ⟩:=bB iH;obtain rfl:gens=_:=cS hg;obtain⟨qo,h6⟩:=aL mZ;obtain⟨Eh,h5⟩:=aL qo;obtain⟨h_5,h4⟩:=aL Eh;obtain⟨h_6,h3⟩:=aL h_5;obtain⟨h_7,h2⟩:=aL h_6;obtain⟨h_8,h1⟩:=aL h_7;obtain rfl:a=0:=aae h_8;have xD:=λ(X':Cx) (F':aj) (L':Lk X' (S.inner target caps sc) k Φ)=>iQ bN X' _ F' L' ifs h4;have this:PE X (.ListComp jJ [⟨target,iter,ifs,0⟩] sc pos) (tD X F Φ (.comp n t caps ik es bN elt)) :=
   Gm L (rB h1) h2 (λX' F' L'=>(bu elt X' _ F' L' jJ h5).1) (vV (aae h3) h4 xD) (DL L (λl=>fG es X S F L l) (λl=>iQ es X S F L l) (λl=>jo es X S F L l) h6)
  exact⟨this,cG this λ_=>rfl⟩
theorem iQ:∀(cs:aD) (X:Cx) (S:Sx) (F:aj) (L:Lk X S k Φ) (es:aw),bU S cs es=true->∀(j:Nat) (c:CE) (e:Expr),cs[j]?=some c->es[j]?=some e->PE X e (tD X F Φ c)/\PT X e (gL X F Φ c)
 |[],X,S,F,L,_,_=>λj c e h _=>by simp at h
 |_::_,X,S,F,L,[],h=>by exact(aag h).elim
 |c::cs,X,S,F,L,e::es,h=>λj c' e' hc he=>by
  replace h:=aL h;cases j with
  |zero=>simp at hc he;subst hc he;exact bu c X S F L e h.1
  |succ j=>exact iQ cs X S F L es h.2 j c' e' (by simpa using hc) (by simpa using he)
theorem jo:∀(cs:aD) (X:Cx) (S:Sx) (F:aj) (L:Lk X S k Φ) (es:aw),bU S cs es=true->mL X F Φ cs es
 |[],X,S,F,L,[],_=>trivial
 |[],X,S,F,L,_::_,h=>by exact(aag h).elim
 |_::_,X,S,F,L,[],h=>by exact(aag h).elim
 |c::cs,X,S,F,L,e::es,h=>by
  replace h:=aL h;exact⟨(bu c X S F L e h.1).1,λl=>cw h.1 l _,rC h.1,jo cs X S F L es h.2⟩
theorem fG:∀(cs:aD) (X:Cx) (S:Sx) (F:aj) (L:Lk X S k Φ) (es:aw),bU S cs es=true->PA X es (uy X F Φ cs)
 |[],X,S,F,L,[],_=>PA.imp eT λ_ _ _ h=>kD h
 |[],X,S,F,L,_::_,h=>by exact(aag h).elim
 |_::_,X,S,F,L,[],h=>by exact(aag h).elim
 |c::cs,X,S,F,L,e::es,h=>by
  replace h:=aL h;exact PA.imp (cO (bu c X S F L e h.1).1 (fG cs X S F L es h.2) (cw h.1 es _)) λ_ _ _ h=>gC h
theorem lQ:∀(cs:aD) (X:Cx) (S:Sx) (F:aj) (L:Lk X S k Φ) (es:aw),bU S cs es=true->∀pos,PE X (.BoolOp .And es pos) (tD X F Φ (.and cs))/\PW X (.BoolOp .And es pos) (gL X F Φ (.and cs))
 |[],X,S,F,L,_,_,pos=>⟨λ_ _ _ _ _ _ ⟨_,_,_,_,_,ev,_⟩=>(by cases ev),λ_ _ _ _ _ _ _ bR=>by obtain⟨_,_,_,_,_,ev,_⟩:=bR;cases ev⟩
 |[c],X,S,F,L,[e],h,pos=>by
  replace h:=aL h;exact⟨PE.imp (CV (bu c X S F L e h.1).1) λ_ _ _ h=>Im h,PW.imp (GH (bu c X S F L e h.1).2) λ_ _ _ h=>Fc h⟩
 |[_],X,S,F,L,[],h,_=>by exact(aag h).elim
 |[_],X,S,F,L,_::_::_,h,_=>by exact(aag (aL h).2).elim
 |_::_::_,X,S,F,L,[],h,_=>by exact(aag h).elim
 |_::_::_,X,S,F,L,[_],h,_=>by exact(aag (aL h).2).elim
 |c::c'::cs,X,S,F,L,e::e'::es,h,pos=>by
  replace h:=aL h;have r:=lQ (c'::cs) X S F L (e'::es) h.2 pos;exact⟨PE.imp (Lb (bu c X S F L e h.1).1 r.1) λ_ _ _ h=>Fd h,PW.imp (KS (bu c X S F L e h.1).2 r.2) λ_ _ _ h=>Bo h⟩
theorem ou:∀(cs:aD) (X:Cx) (S:Sx) (F:aj) (L:Lk X S k Φ) (es:aw),bU S cs es=true->∀pos,PE X (.BoolOp .Or es pos) (tD X F Φ (.or cs))/\PW X (.BoolOp .Or es pos) (gL X F Φ (.or cs))
 |[],X,S,F,L,_,_,pos=>⟨λ_ _ _ _ _ _ ⟨_,_,_,_,_,ev,_⟩=>(by cases ev),λ_ _ _ _ _ _ _ bR=>by obtain⟨_,_,_,_,_,ev,_⟩:=bR;cases ev⟩
 |[c],X,S,F,L,[e],h,pos=>by
  replace h:=aL h;exact⟨PE.imp (CV (bu c X S F L e h.1).1) λ_ _ _ h=>Li h,PW.imp (KR (bu c X S F L e h.1).2) λ_ _ _ h=>GY h⟩
 |[_],X,S,F,L,[],h,_=>by exact(aag h).elim
 |[_],X,S,F,L,_::_::_,h,_=>by exact(aag (aL h).2).elim
 |_::_::_,X,S,F,L,[],h,_=>by exact(aag h).elim
 |_::_::_,X,S,F,L,[_],h,_=>by exact(aag (aL h).2).elim
 |c::c'::cs,X,S,F,L,e::e'::es,h,pos=>by
  replace h:=aL h;have r:=ou (c'::cs) X S F L (e'::es) h.2 pos;exact⟨PE.imp (PQ (bu c X S F L e h.1).1 r.1) λ_ _ _ h=>GZ h,PW.imp (Py (bu c X S F L e h.1).2 r.2) λ_ _ _ h=>C6 h⟩
end
theorem iP(L:Lk X S k Φ)(c:CE)(e:Expr)(h:cD S c e=true):PE X e (tD X F Φ c)/\PT X e (gL X F Φ c):=bu c X S F L e h
theorem kG(L:Lk X S k Φ)(cs:aD)(es:aw)(h:bU S cs es=true):mL X F Φ cs es:=jo cs X S F L es h
theorem yv(L:Lk X S k Φ)(cs:aD)(es:aw)(h:bU S cs es=true):PA X es (uy X F Φ cs):=fG cs X S F L es h
end
section
variable {X:Cx}{S:Sx}{k:Nat}{F:aj}{Φ:aT}
theorem wZ(L:Lk X S k Φ)(c:CE)(e:Expr)(h:cD S c e=true):PE X e (tK X F Φ c):=by
 by_cases hv:∃i,c=.v i
 ·obtain⟨i,rfl⟩:=hv;obtain⟨x,hx,ha⟩:=bB h;obtain⟨p,rfl⟩:=lH hx;obtain⟨hb,h3⟩:=aL ha;obtain⟨h1,h2⟩:=aL hb;unfold oH at h3;simp only[Bool.and_eq_true,Bool.not_eq_true']at h3;refine PE.imp (xj (i:=i) (by rw[L.N];exact aae h1) (L.SD h2) h3.1.1 h3.1.2) λσ H Q hq=>?_;obtain⟨R,τ,ρ,r,Si,ev,hq⟩:=hq;simp only[jY]at ev;split at ev
  ·rename_i d hd;split at ev
   ·cases ev;obtain⟨v,τ',hv,f9,rk⟩:=Si.move hd;exact⟨v,hv,hq v H R τ' (aJ.refl H) (λ_ h=>h) f9 rk⟩
   ·rename_i ho;cases ev;obtain⟨v,hv,rp⟩:=Si.rep i d hd;exact⟨v,hv,hq v H R τ (aJ.refl H) (λ_ h=>h) Si (AS rp (by simpa using ho))⟩
  ·cases ev
 ·refine PE.imp (iP (F:=F) L c e h).1 λσ H Q hq=>?_;obtain⟨R,τ,ρ,r,Si,ev,hq⟩:=hq;have Xh:bd (bp Φ c ρ) (λd=>ok (keep c d ρ))=ok r:=by
   cases c<;>first|exact ev|exact absurd ⟨_,rfl⟩ hv
  obtain⟨d,ed,er⟩:=aG Xh;cases er;refine tD.intro Si ed λv H' e' r'=>?_;obtain⟨R',τ',h1,h2,h3⟩:=Jn Si e' r';exact hq v H' R' τ' e' h1 h2 h3
end
structure Kp(R:aj)(H:Hp)(R':aj)(H':Hp):Prop where
 r:∀p,R p->R' p
 l:∀p (o:HO),R p->H p=some o->H' p=some o
 t:∀p xs,H p=some (.tup xs)->H' p=some (.tup xs)
 z:∀p o u,H p=some (.iI o u)->H' p=some (.iI o u)
theorem Kp.refl(R:aj)(H:Hp):Kp R H R H:=⟨λ_ h=>h,λ_ _ _ h=>h,λ_ _ h=>h,λ_ _ _ h=>h⟩
theorem Kp.of(e:aJ H H')(h:∀p,R p->R' p):Kp R H R' H':=⟨h,λp xs _ h=>e _ _ h,λp xs h=>e _ _ h,λp o u h=>e _ _ h⟩
theorem Kp.trans{R2:Addr->Prop}(a:Kp R H R1 H1)(b:Kp R1 H1 R2 H2):Kp R H R2 H2 :=
 ⟨λp h=>b.r p (a.r p h),λp xs h e=>b.l p xs (a.r p h) (a.l p xs h e),λp xs h=>b.t p xs (a.t p xs h),λp o u h=>b.z p o u (a.z p o u h)⟩
theorem Kp.SS(a:Kp R H R' H'){p:Addr}(h:aU K H p xs):aU K H' p xs:=by
 rcases h with (h|⟨o,h⟩)|h
 ·exact .inl (.inl (a.t p xs h))
 ·exact .inl (.inr ⟨o,a.z p o _ h⟩)
 ·exact .inr h
theorem Kp.nd{K:aq}{R R':aj}{H H':Hp}(a:Kp R H R' H'){q:bg}{p:Addr}{xs:Nd}{f:Fl}(h:DI.nd K R (λ_=>False) (λ_=>none) H q p xs f):DI.nd K R' (λ_=>False) (λ_=>none) H' q p xs f:=by
 cases f with
 |ow=>exact nomatch h.2
 |fz=>exact⟨h.1.at λo e=>a.l p o h.2 e,a.r p h.2⟩
 |al=>exact h.2.elim
 |sc =>
  obtain⟨ys,rfl,h⟩:=h.Cm;exact h.elim (λ⟨o,h⟩=>.inl ⟨o,a.z p o _ h⟩) .inr
theorem Kp.rep(a:Kp R H R' H'){k:bg}{v:V}{d:D}(h:Rep (aU K H) (DI.nd K R (λ_=>False) (λ_=>none) H) k v d):Rep (aU K H') (DI.nd K R' (λ_=>False) (λ_=>none) H') k v d :=
 h.imp (λ_ _ h=>a.SS h) λ_ _ _ _ h=>a.nd h
theorem Kp.Vb(a:Kp R H R' H'){k:bg}{n:Nat}{v:ae}{d:ab}(h:aB (aU K H) (DI.nd K R (λ_=>False) (λ_=>none) H) k n v d):aB (aU K H') (DI.nd K R' (λ_=>False) (λ_=>none) H') k n v d :=
 h.imp (λ_ _ h=>a.SS h) λ_ _ _ _ h=>a.nd h
def Ff(X:Cx)(F:aj)(H':Hp)(v:V)(d:D):Prop:=∃τt:Addr->Option bg,(∀p q,τt p=some q->X.H₀ p=none)/\Rep (aU X.K H') (nd X.K (gP X F) (λ_=>False) τt H') [] v d
theorem ic.ret{v:V}{d:D}(Si:SI X F R τ ρ σ H)(h:ic X R τ H v d):Ff X F H v d:=by
 obtain⟨τt,ht,rp⟩:=h;exact⟨τt,λp q e=>(ht p q e).2.2.1,rp.imp (λ_ _ h=>h) λ_ _ _ _ h=>h.mono (λh=>Si.rf _ h) id id⟩
def mM(X:Cx)(F:aj)(D:Ends)(R:aj)(H:Hp):Fo×bc->Prop
 | (.nx,ρ')=>∀σ' H' R' τ',SI X F R' τ' ρ' σ' H'->Kp R H R' H'->D.nx σ' H'
 | (.bk,ρ')=>∀σ' H' R' τ',SI X F R' τ' ρ' σ' H'->Kp R H R' H'->D.bk σ' H'
 | (.ct,ρ')=>∀σ' H' R' τ',SI X F R' τ' ρ' σ' H'->Kp R H R' H'->D.ct σ' H'
 | (.rt d,_)=>∀v H',aJ X.H₀ H'->Ff X F H' v d->D.rt v H'
def lN(X:Cx)(F:aj)(Φ:aT)(c:CS):TS:=λD σ H=>∃R τ ρ r,SI X F R τ ρ σ H/\lD Φ c ρ=ok r/\mM X F D R H r
def p8(X:Cx)(F:aj)(Φ:aT)(cs:ah):TS:=λD σ H=>∃R τ ρ r,SI X F R τ ρ σ H/\bC Φ cs ρ=ok r/\mM X F D R H r
noncomputable def LL(sc:Scope)(x:Str):Bool:=decide (sc.names.lookup x=some .local)||decide (sc.names.lookup x=some .cell)
def l_(S:Sx)(i:Nat):Expr->Bool
 |.Name x _=>decide (S.N[i]?=some x)&&LL S.sc x
 |_=>false
def Tp:Expr->Bool
 |.Name x _=>oH x
 |_=>true
def ER(S:Sx):aN->aw->Bool
 |[],es=>match es with
  |[]=>true
  |_::_=>false
 |i::is,es=>match es with
  |[]=>false
  |e::es=>l_ S i e&&ER S is es
def Ba(S:Sx):Tg->Expr->Bool
 |.nm i,e=>l_ S i e
 |.tp is,e=>bx (Ad e) λes=>ER S is es
noncomputable def jW:Expr->Bool
 |.ListComp _ _ _ _=>true
 |_=>false
noncomputable def isTup:Expr->Bool
 |.Tuple _ _ _=>true
 |_=>false
noncomputable def UT(S:Sx)(tg v:Expr):Bool:=match tg,v with
 |.Name x p,.ListComp _ _ sc pos=>(S.sc.names.lookup x==some .local)&&(p.line==pos.line)&&!(sc.names.any λ(n,k)=>n==x&&(k==.local||k==.cell))
 |_,_=>false
noncomputable def J9:Expr->Option (Str×Pos)
 |.Name x p=>some (x,p)
 |_=>none
theorem yc{e:Expr}{x:Str}{p:Pos}(h:J9 e=some (x,p)):e=.Name x p:=by
 cases e<;>first|exact nk h | (cases h;done) | (cases h;rfl)
def EO(S:Sx)(i j:Nat)(tg v:Expr):Bool :=
 bx (Ad tg) λts=>bx (two ts) λt=>bx (J9 t.1) λx=>bx (J9 t.2) λy=>bx (Ad v) λvs=>bx (two vs) λw =>
  decide (S.N[i]?=some x.1)&&decide (S.N[j]?=some y.1)&&decide (i≠j)&&decide (S.sc.names.lookup x.1=some .local)&&decide (S.sc.names.lookup y.1=some .local)&&decide (x.1≠y.1) &&
   decide (x.2.line=y.2.line)&&!([w.1,w.2].all (foldedForSure 8))&&!([w.1,w.2].all (constantsAlone 8))&&decide (([w.1,w.2].any λe=>match e with|.Starred ..=>true|_=>false)=false)
def Sb(S:Sx)(it:CI)(e:Expr):Bool:=match it with
 |.lz a=>bx (fc e) λw=>decide (w.1=("range" : Str))&&i6 S.sc w.1&&decide (w.1∈S.bl)&&bx (one w.2) λy=>cD S a y
 |.seq a=>cD S a e&&qQ e
 |.qN p es=>S_ e&&bx (S.px.pi p S.sc S.bl e) λxs=>bU S es xs
noncomputable def De:CI->Bool
 |.qN p _=>decide (1100<=p)
 |_=>true
noncomputable def BQ:Stmt->Option (aw×Expr)
 |.Assign ts v _=>some (ts,v)
 |_=>none
theorem rN{s:Stmt}{ts:aw}{v:Expr}(h:BQ s=some (ts,v)):∃p,s=.Assign ts v p:=by
 cases s<;>first|exact nk h | (cases h;done) | (cases h;exact⟨_,rfl⟩)
noncomputable def OF:Stmt->Option (Option Expr)
 |.Return v _=>some v
 |_=>none
theorem FW{s:Stmt}{v:Option Expr}(h:OF s=some v):∃p,s=.Return v p:=by
 cases s<;>first|exact nk h | (cases h;done) | (cases h;exact⟨_,rfl⟩)
noncomputable def OI:Stmt->Option Expr
 |.Expr v _=>some v
 |_=>none
theorem wH{s:Stmt}{v:Expr}(h:OI s=some v):∃p,s=.Expr v p:=by
 cases s<;>first|exact nk h | (cases h;done) | (cases h;exact⟨_,rfl⟩)
noncomputable def F4:Stmt->Option (Expr×Operator×Expr)
 |.AugAssign o p v _=>some (o,p,v)
 |_=>none
theorem yf{s:Stmt}{v:Expr}{p:Operator}(h:F4 s=some (o,p,v)):∃q,s=.AugAssign o p v q:=by
 cases s<;>first|exact nk h | (cases h;done) | (cases h;exact⟨_,rfl⟩)
noncomputable def OG:Stmt->Option (Expr×bq×bq)
 |.If t x y _=>some (t,x,y)
 |_=>none
theorem FY{s:Stmt}{t:Expr}{x y:bq}(h:OG s=some (t,x,y)):∃q,s=.If t x y q:=by
 cases s<;>first|exact nk h | (cases h;done) | (cases h;exact⟨_,rfl⟩)
noncomputable def OE:Stmt->Option (Expr×bq×bq)
 |.While t x y _=>some (t,x,y)
 |_=>none
theorem FV{s:Stmt}{t:Expr}{x y:bq}(h:OE s=some (t,x,y)):∃q,s=.While t x y q:=by
 cases s<;>first|exact nk h | (cases h;done) | (cases h;exact⟨_,rfl⟩)
noncomputable def OH:Stmt->Option (Expr×Expr×bq×bq)
 |.For tg it x y _=>some (tg,it,x,y)
 |_=>none
theorem FZ{s:Stmt}{it:Expr}{x y:bq}(h:OH s=some (tg,it,x,y)):∃q,s=.For tg it x y q:=by
 cases s<;>first|exact nk h | (cases h;done) | (cases h;exact⟨_,rfl⟩)
noncomputable def oe:Expr->Option (Expr×Str×Pos)
 |.Attribute o a p=>some (o,a,p)
 |_=>none
theorem n_{e:Expr}{a:Str}{p:Pos}(h:oe e=some (o,a,p)):e=.Attribute o a p:=by
 cases e<;>first|exact nk h | (cases h;done) | (cases h;rfl)
noncomputable def lJ:Expr->Option (Expr×aw×List Keyword×Pos)
 |.Call f as ks p=>some (f,as,ks,p)
 |_=>none
theorem lI{e f:Expr}{as:aw}{ks:List Keyword}{p:Pos}(h:lJ e=some (f,as,ks,p)):e=.Call f as ks p:=by
 cases e<;>first|exact nk h | (cases h;done) | (cases h;rfl)
noncomputable def isNil{α:Type}:List α->Bool
 |[]=>true
 |_::_=>false
theorem oY{α:Type}{l:List α}(h:isNil l=true):l=[]:=by cases l<;>first|rfl|cases h
noncomputable def Hn:Stmt->Bool
 |.Raise _ _ _=>true
 |_=>false
theorem zQ{i:Nat}{e:Expr}(h:l_ S i e=true):∃x p,e=.Name x p:=by
 cases e<;>first|exact⟨_,_,rfl⟩|exact(aag h).elim
theorem Ho{e:Expr}(h:isNm e=true):∃x p,e=.Name x p:=by cases e<;>first|exact nk h | (cases h;done)|exact⟨_,_,rfl⟩
theorem AI{e:Expr}(h:jW e=true):∃x g sc p,e=.ListComp x g sc p:=by cases e<;>first|exact nk h | (cases h;done)|exact⟨_,_,_,_,rfl⟩
mutual
noncomputable def R_(S:Sx):CS->Stmt->Bool
 |.asg t e,s0=>bx (BQ s0) λz=>bx (one z.1) λtg=>cD S e z.2&&Ba S t tg&&!(isTup z.2&&isTup tg)&&(!jW z.2||isNm tg)
 |.par i j a b,s0=>bx (BQ s0) λz=>bx (one z.1) λtg=>cD S (.tup [a,b]) z.2&&EO S i j tg z.2
 |.ret e,s0=>bx (OF s0) λz=>bx z λv=>cD S e v
 |.rs _,s0=>Hn s0
 |.mut p i es,s0=>bx (S.px.pm p S.sc S.bl s0) λz=>l_ S i z.1&&Tp z.1&&bU S es z.2
 |.mu2 p i k e,s0=>bx (S.px.p2 p S.sc S.bl s0) λz=>l_ S i z.1&&Tp z.1&&bU S [k,e] z.2
 |.app i e,s0=>bx (OI s0) λc=>bx (lJ c) λz=>isNil z.2.2.1&&bx (oe z.1) λa=>decide (a.2.1=("append" : Str))&&l_ S i a.1&&Tp a.1&&(a.2.2.endLine==z.2.2.2.line)&&bx (one z.2.1) λv=>cD S e v
 |.aug i op e,s0=>bx (F4 s0) λz=>l_ S i z.1&&Tp z.1&&decide (z.2.1=if op then .Add else .Sub)&&cD S e z.2.2
 |.ex e,s0=>bx (OI s0) λv=>cD S e v&&!jW v
 |.ifs c a b,s0=>bx (OG s0) λz=>cD S c z.1&&k7 S a z.2.1&&k7 S b z.2.2
 |.J4 c b,s0=>bx (OE s0) λz=>isNil z.2.2&&cD S c z.1&&k7 S b z.2.1
 |.fr t it b,s0=>bx (OH s0) λz=>isNil z.2.2.2&&Ba S t z.1&&Sb S it z.2.1&&(gX z.1||De it)&&k7 S b z.2.2.1
noncomputable def k7(S:Sx):ah->bq->Bool
 |[],ss=>match ss with
  |[]=>true
  |_::_=>false
 |c::cs,ss=>match ss with
  |[]=>false
  |s::ss=>R_ S c s&&k7 S cs ss
end
structure NP(px:Px)(Φ:aT):Prop where
 m:∀(X:Cx) (sc:Scope) (bl:au) (k:Nat),PX X sc bl k->X.N.Nodup->(∀x,X.fn x=true)->∀(p:Nat) (st:Stmt) (x:Str) (pos:Pos) (args:aw),px.pm p sc bl st=some (.Name x pos,args)->∀(i:Nat),X.N[i]?=some x->L2.Loc X.env.scope x->PE X (.Name x pos) (ux i) ->
  ∀(F:aj) (cs:aD),mL X F Φ cs args->PS X st (lN X F Φ (.mut p i cs))
 m2:∀(X:Cx) (sc:Scope) (bl:au) (k:Nat),PX X sc bl k->X.N.Nodup->(∀x,X.fn x=true)->∀(p:Nat) (st:Stmt) (x:Str) (pos:Pos) (args:aw),px.p2 p sc bl st=some (.Name x pos,args)->∀(i:Nat),X.N[i]?=some x->L2.Loc X.env.scope x->PE X (.Name x pos) (ux i) ->
  ∀(F:aj) (c1 c2:CE),mL X F Φ [c1,c2] args->PS X st (lN X F Φ (.mu2 p i c1 c2))
structure qw(X:Cx)(S:Sx)(k:Nat)(Φ:aT):Prop extends Lk X S k Φ where
 Er:∀x,X.fn x=true
 px:PassesOwn (model X.prog X.w) X.A X.env X.xe
 fk:S.sc.kind=.function
 pm:NP S.px Φ
section
variable {X:Cx}{S:Sx}{k:Nat}{F:aj}{Φ:aT}
theorem qw.loc(L:qw X S k Φ){x:Str}(h:LL S.sc x=true):L2.Loc X.env.scope x:=by
 unfold L2.Loc;rw[L.sc];unfold LL at h;rw[Bool.or_eq_true]at h;exact h.imp aae aae
theorem IW(L:qw X S k Φ){x:Str}{p:Pos}{l:Nat}{elt:Expr}{gens:List Comprehension}{sc:Scope}:swapsWith (.ListComp elt gens sc pos) (some (.Name x p)) l X.env=pure (UT S (.Name x p) (.ListComp elt gens sc pos)):=by
 have hb:X.env.blockKind=.function:=by unfold Env.blockKind;rw[L.sc,L.fk];rfl
 have hk:(X.env.kindOf x==some .local)=(S.sc.names.lookup x==some .local):=by
  unfold Env.kindOf;rw[L.sc]
 unfold swapsWith UT;simp only[hb,hk];rfl
theorem vZ{c:CE}{e:Expr}(h:cD S c e=true)(hc:jW e=false)(t:Option Expr)(l:Nat)(env:Env):swapsWith e t l env=pure false:=by
 cases e<;>first|rfl | (cases hc;done) | (cases c<;>exact(aag h).elim)
def W9:aN->Iv
 |[]=>ML
 |i::is=>Em (rb i) (W9 is)
theorem CP(L:qw X S k Φ){i:Nat}{e:Expr}(h:l_ S i e=true):PG X e (rb i):=by
 cases e<;>try (exact(aag h).elim;done)
 replace h:=aL h;exact sr L.nd (by rw[L.N];exact aae h.1) (L.loc h.2) (.inl (L.Er _))
theorem Ha{i:Nat}{e:Expr}(h:l_ S i e=true)(es:aw)(env:Env):assignEach (e::es) env=(false,assign e env)::assignEach es env:=by
 cases e<;>first|rfl | (exact(aag h).elim;done)
theorem CO(L:qw X S k Φ):∀{is:aN} {es:aw},ER S is es=true->Ow X es (W9 is)/\(assignEach es X.env).length=is.length/\(assignEach es X.env).findIdx? (·.1)=none
 |[],[],_=>⟨yP,rfl,rfl⟩
 |[],_::_,h=>by exact(aag h).elim
 |_::_,[],h=>by exact(aag h).elim
 |i::is,e::es,h=>by
  replace h:=aL h;obtain⟨h1,h2,h3⟩:=CO L h.2;have he:=Ha h.1 es X.env;refine⟨u_ (CP L h.1) h1 (by rw[he];rfl),by rw[he];simp[h2],?_⟩;rw[he,List.findIdx?_cons];simp[h3]
theorem uG{H:Hp}{R:aj}{Q:St->Hp->Prop}:∀{is:aN} {vs:ae} {ds:ab} {kp:bg} {n:Nat} {σ:St} {τ:Addr->Option bg} {ρ ρ':bc},aB (aU X.K H) (nd X.K R (λ_=>False) (λ_=>none) H) kp n vs ds->SI X F R τ ρ σ H->iz is ds ρ=ok ρ' ->
  (∀σ' τ',SI X F R τ' ρ' σ' H->Q σ' H)->W9 is vs σ H Q
 |[],_,_,_,_,σ,τ,_,_,.nil,Si,e,hq=>by
  cases e;exact⟨rfl,hq σ τ Si⟩
 |[],_,_,_,_,_,_,_,_,.cons _ _,_,e,_=>by cases e
 |_::_,_,_,_,_,_,_,_,_,.nil,_,e,_=>by cases e
 |i::is,_,_,_,_,σ,τ,ρ,_,.cons (v:=v) (d:=d) h t,Si,e,hq=>by
  change (if _ then _ else _)=_ at e;split at e
  ·rename_i hi;obtain⟨τ',f9⟩:=Si.set (i:=i) (nq (τ':=τ) (Rep.sE h)) hi;exact⟨_,_,rfl,uG t f9 e hq⟩
  ·cases e
theorem B3(L:qw X S k Φ){t:Tg}(h:Ba S t tg=true):∃g,PG X tg g/\∀(v:V) (σ:St) (H:Hp) (Q:St->Hp->Prop) (R:aj) (τ:Addr->Option bg) (ρ ρ':bc) (d:D),SI X F R τ ρ σ H->ic X R τ H v d->b8 t d ρ=ok ρ' ->
  (∀σ' τ',SI X F R τ' ρ' σ' H->Q σ' H)->g v σ H Q:=by
 cases t with
 |nm i =>
  refine⟨rb i,CP L h,λv σ H Q R τ ρ ρ' d Si rk e hq=>?_⟩;simp only[b8]at e;split at e
  ·rename_i hi;cases e;obtain⟨τ',f9⟩:=Si.set rk hi;exact hq _ τ' f9
  ·cases e
 |tp is =>
  obtain⟨es,hx,ha⟩:=bB h;obtain⟨nn,pp,rfl⟩:=kr hx;obtain⟨h1,h2,h3⟩:=CO L ha;refine⟨_,CN L.calm h1 h2 h3,λv σ H Q R τ ρ ρ' d Si rk e hq=>?_⟩;cases d<;>try (simp[b8]at e;done)
  rename_i ds;simp only[b8]at e;split at e
  ·cases e
  ·rename_i ho;obtain⟨τt,ht,rp⟩:=rk;cases rp with
   | @tup _ p xs _ hp rs =>
    have tX:aB (aU X.K H) (nd X.K R (λ_=>False) (λ_=>none) H) [] 0 xs ds:=aB.without (P:=cK) (λ_ _ h=>h) (λk k' p xs f hf h=>by
     cases f with
     |ow=>cases hf
     |fz=>exact h
     |al=>exact h.2.elim
     |sc=>exact h) rs (by simpa using ho) _ _
    refine⟨p,xs,rfl,hp,?_,uG tX Si e hq⟩;rw[rs.length];have:∀(is:aN) (ds:ab) (ρ ρ':bc),iz is ds ρ=ok ρ'->ds.length=is.length:=by
     intro is;induction is with
     |nil=>intro ds ρ ρ' e;cases ds with|nil=>rfl|cons _ _=>cases e
     |cons i is ih=>intro ds ρ ρ' e;cases ds with
      |nil=>cases e
      |cons d ds =>
       change (if _ then _ else _)=_ at e;split at e
       ·simp[ih ds _ _ e]
       ·cases e
    exact this _ _ _ _ e
end
section
variable {X:Cx}{S:Sx}{k:Nat}{F:aj}{Φ:aT}
theorem B8(L:qw X S k Φ){t:Tg}{e:CE}{v:Expr}(he:cD S e v=true)(ht:Ba S t tg=true)(hp:(isTup v&&isTup tg)=false)(Md:swapsWithSole [tg] v pos.line X.env=pure false):PS X (.Assign [tg] v pos) (lN X F Φ (.asg t e)):=by
 obtain⟨g,hg,D9⟩:=B3 (F:=F) L ht;have NU:(∃x p,tg=.Name x p)\/∃es n p,tg=.Tuple es n p:=by
  cases t with
  |nm i=>cases tg<;>first|exact .inl ⟨_,_,rfl⟩|exact(aag ht).elim
  |tp is=>cases tg<;>first|exact .inr ⟨_,_,_,rfl⟩|exact(aag ht).elim
 have each:(assignEach [tg] X.env).map (·.2)=[assign tg X.env]:=by
  rcases NU with ⟨x,p,rfl⟩|⟨es,n,p,rfl⟩<;>rfl
 have hw:swappedStores [tg] v X.env=pure none:=by
  rcases NU with ⟨x,p,rfl⟩|⟨es,n,p,rfl⟩
  ·first|rfl | (cases v<;>rfl)
  ·cases v<;>first|rfl|exact absurd hp (by simp[isTup])
 refine PS.imp (K1 (wZ (F:=F) L.toLk e v he) hg Md hw each) λD σ H hq=>?_;obtain⟨R,τ,ρ,r,Si,ev,hq⟩:=hq;obtain⟨r1,Bx,ev⟩:=aG ev;obtain⟨ρ',eρ,ev⟩:=aG ev;cases ev;exact⟨R,τ,ρ,r1,Si,Bx,λv H' R' τ' es hR f9 rk=>D9 v σ H' _ R' τ' r1.2 ρ' r1.1 f9 rk eρ λσ' BC NK=>hq σ' H' R' BC NK (Kp.of es hR)⟩
theorem Gg(L:qw X S k Φ){i n:Nat}{t:Tg}{ik:IK}{x:Str}{p O8:Pos}{gens:List Comprehension}{sc:Scope}
  (he:cD S (.comp n t caps ik es bN elt) (.ListComp jJ gens sc pos)=true) (hn:l_ S i (.Name x p)=true) (Md:swapsWith (.ListComp jJ gens sc pos) (some (.Name x p)) O8.line X.env=pure true) :
  PS X (.Assign [.Name x p] (.ListComp jJ gens sc pos) O8) (lN X F Φ (.asg (.nm i) (.comp n t caps ik es bN elt))):=by
 intro pins s σ H D I hq;obtain⟨R,τ,ρ,r,Si,ev,hq⟩:=hq;obtain⟨r1,Bx,ev⟩:=aG ev;obtain⟨ρ',eρ,ev⟩:=aG ev;cases ev;have Bx:bd (bp Φ (.comp n t caps ik es bN elt) ρ) (λd=>ok (keep (.comp n t caps ik es bN elt) d ρ))=ok r1:=Bx;obtain⟨d,ed,Bx⟩:=aG Bx;cases Bx;have hg:=CP L hn;rw[exec_Assign_Name_used _ _ _ _ Md];refine aaa (acq (aaa ?_));obtain⟨⟨e0,g0,s0⟩,hv0,L_⟩:=bB he;cases hv0;obtain⟨⟨target,iter,ifs,a⟩,WE,hz⟩:=bB L_;obtain rfl:gens=_:=cS WE;obtain⟨hz,h6⟩:=aL hz;obtain⟨hz,h5⟩:=aL hz;obtain⟨hz,h4⟩:=aL hz;obtain⟨hz,h3⟩:=aL hz;obtain⟨hz,h2⟩:=aL hz;obtain⟨hz,h1⟩:=aL hz;obtain rfl:a=0:=aae hz;have hC:=vV (aae h3) h4 (λ(X':Cx) (F':aj) (L':Lk X' (S.inner target caps sc) k Φ)=>iQ bN X' _ F' L' ifs h4);have run:wpAny (model X.prog X.w) X.A (comprehension (.ListComp jJ [⟨target,iter,ifs,0⟩] sc pos) sc X.env (firstIterPos [⟨target,iter,ifs,0⟩] pos) (newList []) false (eval iter X.env) (some (assign (.Name x p) X.env))) (λ_ s'=>SP X pins D .next s') X.xe s:=by
  refine vX (F:=F) (k:=k) L.toLk (rB h1) h2 (λX' F' L'=>(iP (F:=F') L' elt jJ h5).1) hC ?_ (use:=some (assign (.Name x p) X.env)) (Post:=λ_ s'=>SP X pins D .next s') I Si ed ?_
  ·exact DL L.toLk (λl=>yv (F:=F) L.toLk es l) (λl=>iQ es X S F L.toLk l) (λl=>kG L.toLk es l) h6
  ·intro acc C H1 s1 m Bt hc IX sm rt;obtain⟨c1,c2,c3,c4,c5⟩:=hc;obtain⟨R',τ',hR,f9,rk⟩:=Jn (e:=.comp n t caps ik es bN elt) Si sm rt;have I1:Inv X pins σ H1 s1:=IX s1.heap (.refl ..);obtain⟨oC,esC,epC,hoC,Y5,hrC⟩:=Bt;have cfs:C∉X.fs:=λz=>by
    obtain⟨_,o,ho,_⟩:=I1.ok.m5.mem z;exact absurd (aaj (aah ho) c2) (aaw _)
   have I2:Inv X ((C,oC)::pins) σ H1 s1:=I1.jw λq hq=>by
    rcases List.mem_cons.mp hq with rfl|hq
    ·exact⟨hoC,c5,c1,cfs,λv z=>by rw[Y5]at z;cases z⟩
    ·exact I1.pin q (aao _ hq)
   simp only[b8]at eρ;split at eρ
   ·rename_i hi;cases eρ;obtain⟨τ2,wg⟩:=f9.set rk hi;show wpAny _ _ (assign (.Name x p) X.env (.ref acc)) _ _ _;refine aay (hg ((C,oC)::pins) s1 σ H1 (.ref acc) (.ref acc) (λσ' H'=>σ'=σ.set i (some (.ref acc))/\H'=H1) I2 rfl ⟨rfl,rfl⟩) (λ_ s2 h2=>?_) λ_ _ z=>z;obtain⟨σ',H',I3,rfl,rfl⟩:=h2;have hC3:=(I3.pin (C,oC) (aao _ aaf)).1;refine⟨m,⟨oC,esC,epC,hC3,Y5,hrC⟩,λh' DX=>?_⟩;have I4:Inv X pins (σ.set i (some (.ref acc))) H' s2:=I3.jw λq hq=>I3.pin q (aao _ (aad _ hq));have I5:=I4.turned (t':=s2.toks) (h':=h') (it:=C) (λb o hb e=>(DX.2 b hb).trans e) c5 c1 (.inr c2) c3 c4;exact⟨_,H',I5,hq _ H' R' τ2 wg (Kp.of sm hR)⟩
   ·cases eρ
 exact aaa (aay run (λ_ s' h=>aac (aac h)) λ_ _ z=>z)
theorem Kk(L:qw X S k Φ){e:CE}{v:Expr}(he:cD S e v=true):PS X (.Return (some v) pos) (lN X F Φ (.ret e)):=by
 refine PS.imp (KZ (wZ (F:=F) L.toLk e v he)) λD σ H hq=>?_;obtain⟨R,τ,ρ,r,Si,ev,hq⟩:=hq;obtain⟨r1,Bx,ev⟩:=aG ev;cases ev;exact⟨R,τ,ρ,r1,Si,Bx,λv H' R' τ' es hR f9 rk=>hq v H' f9.same (rk.ret f9)⟩
theorem O7(L:qw X S k Φ){e:CE}{v:Expr}(he:cD S e v=true)(Wx:jW v=false):PS X (.Expr v pos) (lN X F Φ (.ex e)):=by
 refine PS.imp (nu (iP (F:=F) L.toLk e v he).1 (vZ he Wx _ _ _)) λD σ H hq=>?_;obtain⟨R,τ,ρ,r,Si,ev,hq⟩:=hq;obtain⟨d,ed,ev⟩:=aG ev;cases ev;exact tD.intro Si ed λv H' es rv=>hq σ H' R τ (Si.go es) (Kp.of es λ_ h=>h)
theorem mM.from{D:Ends}{r:Fo×bc}(h:mM X F D R H r)(kp:Kp R H R1 H1):mM X F D R1 H1 r:=by
 obtain⟨fo,ρ'⟩:=r;cases fo with
 |nx=>exact λσ' H' R' τ' Si k2=>h σ' H' R' τ' Si (kp.trans k2)
 |bk=>exact λσ' H' R' τ' Si k2=>h σ' H' R' τ' Si (kp.trans k2)
 |ct=>exact λσ' H' R' τ' Si k2=>h σ' H' R' τ' Si (kp.trans k2)
 |rt d=>exact h
theorem O6(L:qw X S k Φ){c:CE}{a b:ah}{t:Expr}{x y:bq}(hc:cD S c t=true)(ha:nV X x (p8 X F Φ a))(hb:nV X y (p8 X F Φ b)):PS X (.If t x y pos) (lN X F Φ (.ifs c a b)):=by
 refine PS.imp (PD (iP (F:=F) L.toLk c t hc).2 ha hb) λD σ H hq=>?_;obtain⟨R,τ,ρ,r,Si,ev,hq⟩:=hq;obtain⟨w,ew,ev⟩:=aG ev;refine⟨R,τ,ρ,w,Si,ew,λH1 e1=>?_⟩;cases w with
 |true=>rw[if_pos rfl]at ev ⊢;exact⟨R,τ,ρ,r,Si.go e1,ev,hq.from (Kp.of e1 λ_ h=>h)⟩
 |false=>rw[if_neg (by simp)]at ev ⊢;exact⟨R,τ,ρ,r,Si.go e1,ev,hq.from (Kp.of e1 λ_ h=>h)⟩
theorem B7(L:qw X S k Φ){c:CE}{b:ah}{t:Expr}{x:bq}(hc:cD S c t=true)(hb:nV X x (p8 X F Φ b)):PS X (.While t x [] pos) (lN X F Φ (.J4 c b)):=by
 refine PS.imp (CG L.px (iP (F:=F) L.toLk c t hc).2 hb) λD σ H hq=>?_;obtain⟨R,τ,ρ,r,Si,ev,hq⟩:=hq;obtain⟨n,hn⟩:=lW ev;refine⟨λm σ' H'=>∃R' τ' ρ',SI X F R' τ' ρ' σ' H'/\Kp R H R' H'/\cU m _ ρ'=ok r,⟨n,R,τ,ρ,Si,Kp.refl R H,hn⟩,?_⟩;rintro m σ1 H1 ⟨R1,τ1,ρ1,wj,k1,e1⟩;cases m with
 |zero=>simp[cU]at e1
 |succ m =>
  rw[cU]at e1;obtain⟨st,es,e1⟩:=aG e1;obtain⟨w,ew,es⟩:=aG es;refine⟨R1,τ1,ρ1,w,wj,ew,λH2 e2=>?_⟩;cases w with
  |false =>
   rw[if_neg (by simp)]at es ⊢;cases es;cases e1;exact hq σ1 H2 R1 τ1 (wj.go e2) (k1.trans (Kp.of e2 λ_ h=>h))
  |true =>
   rw[if_pos rfl]at es ⊢;obtain⟨⟨fo,ρ2⟩,eb,es⟩:=aG es;refine⟨λσ' H'=>∃R' τ' ρ',SI X F R' τ' ρ' σ' H'/\Kp R H R' H'/\cU m _ ρ'=ok r,λσ' H' h=>⟨m,aa5 m,h⟩,R1,τ1,ρ1,(fo,ρ2),wj.go e2,eb,?_⟩;have k2:Kp R H R1 H2:=k1.trans (Kp.of e2 λ_ h=>h);cases fo with
   |nx=>cases es;exact λσ' H' R' τ' f9 k3=>⟨R',τ',ρ2,f9,k2.trans k3,e1⟩
   |ct=>cases es;exact λσ' H' R' τ' f9 k3=>⟨R',τ',ρ2,f9,k2.trans k3,e1⟩
   |bk=>cases es;cases e1;exact λσ' H' R' τ' f9 k3=>hq σ' H' R' τ' f9 (k2.trans k3)
   |rt d=>cases es;cases e1;exact hq
def lu(X:Cx)(F:aj)(Φ:aT)(t:Tg)(b:ah)(R1:aj)(H1:Hp)(r:Fo×bc)(items:List DI.D)(i:Nat)(σ:St)(H:Hp):Prop :=
 ∃R' τ' ρ',SI X F R' τ' ρ' σ H/\Kp R1 H1 R' H/\dw (λd ρ=>b8 t d ρ) (λρ=>bC Φ b ρ) (items.drop i) ρ'=ok r
theorem pj{g:TG}{t:Tg}{b:ah}{D:Ends}{r:Fo×bc}{items:List DI.D}{q:bg}
  (D9:∀(v:V) (σ:St) (H:Hp) (Q:St->Hp->Prop) (R:aj) (τ:Addr->Option bg) (ρ ρ':bc) (d:DI.D),SI X F R τ ρ σ H->ic X R τ H v d->b8 t d ρ=ok ρ'->(∀σ' τ',SI X F R τ' ρ' σ' H->Q σ' H)->g v σ H Q)
  (rs:aB (aU X.K H1) (nd X.K R1 (λ_=>False) (λ_=>none) H1) q 0 xs items) (hq:mM X F D R1 H1 r) (i:Nat) (x:V) (σ:St) (H:Hp) (hx:xs[i]?=some x) (h:lu X F Φ t b R1 H1 r items i σ H) :
  g x σ H λσ2 H2=>p8 X F Φ b { D with nx:=lu X F Φ t b R1 H1 r items (i+1),ct:=lu X F Φ t b R1 H1 r items (i+1),bk:=D.nx } σ2 H2:=by
 obtain⟨R',τ',ρ',Si,kp,ef⟩:=h;obtain⟨d,hd,rd⟩:=rs.vJ hx;have hi:i<items.length:=by
  by_cases hi:i<items.length
  ·exact hi
  ·rw[List.getElem?_eq_none (by left)]at hd;cases hd
 have vH:items.drop i=d::items.drop (i+1):=by
  rw[List.drop_eq_getElem_cons hi];rw[List.getElem?_eq_getElem hi]at hd;cases hd;rfl
 rw[vH,dw]at ef;obtain⟨ρ1,e1,ef⟩:=aG ef;obtain⟨⟨fo,ρ2⟩,e2,ef⟩:=aG ef;refine D9 x σ H _ R' τ' ρ' ρ1 d Si (nq (Rep.sE (kp.rep rd))) e1 λσ' BC f9=>⟨R',BC,ρ1,(fo,ρ2),f9,e2,?_⟩
 cases fo with
 |nx=>exact λσ3 H3 R3 τ3 x5 k3=>⟨R3,τ3,ρ2,x5,kp.trans k3,ef⟩
 |ct=>exact λσ3 H3 R3 τ3 x5 k3=>⟨R3,τ3,ρ2,x5,kp.trans k3,ef⟩
 |bk=>cases ef;exact λσ3 H3 R3 τ3 x5 k3=>hq σ3 H3 R3 τ3 x5 (kp.trans k3)
 |rt d=>cases ef;exact hq
theorem nF{t:Tg}{b:ah}{D:Ends}{r:Fo×bc}{items:List DI.D}{n:Nat}(hn:n=items.length)(hq:mM X F D R1 H1 r)(σ:St)(H:Hp)(h:lu X F Φ t b R1 H1 r items n σ H):D.nx σ H:=by
 obtain⟨R',τ',ρ',Si,kp,ef⟩:=h;subst hn;rw[List.drop_length,dw]at ef;cases ef;exact hq σ H R' τ' Si kp
theorem zy(ρ:bc):iI [] ρ=ρ:=by
 unfold iI;apply List.ext_getElem?;intro i;rw[List.getElem?_mapIdx];cases ρ[i]? with
 |none=>rfl
 |some o=>simp
theorem zC{v:V}{d:DI.D}(Si:SI X F R τ ρ σ H)(es:aJ H H')(r:bX X.K (gP X F) R τ fv H H' v d):
  ∃R' τ',(∀p,R p->R' p)/\SI X F R' τ' (if aR bF d then iI fv ρ else ρ) σ H'/\Rep (aU X.K H') (nd X.K R' (λ_=>False) (λ_=>none) H') [] v (aS aW d):=by
 by_cases ha:aR bF d=true
 ·rw[if_pos ha];exact sT Si es r
 ·rw[if_neg ha];have r':bX X.K (gP X F) R τ [] H H' v d:=by
   obtain⟨τt,fr,rp⟩:=r;exact⟨τt,fr,Rep.km (P:=bF) (λ_ _ h=>h) (λk p xs f hf h=>by
    cases f with
    |ow=>exact h
    |fz=>exact h
    |al=>cases hf
    |sc=>exact h) rp (by simpa using ha)⟩
  have:=sT Si es r';rw[zy]at this;exact this
theorem En{ds:List DI.D}(Si:SI X F R τ ρ σ H)(es:aJ H H')(r:cx X.K (gP X F) R τ fv H H' vs ds):
  ∃R' τ',(∀p,R p->R' p)/\SI X F R' τ' (if aM bF ds then iI fv ρ else ρ) σ H'/\aB (aU X.K H') (nd X.K R' (λ_=>False) (λ_=>none) H') [] 0 vs (aA aW ds):=by
 by_cases ha:aM bF ds=true
 ·rw[if_pos ha];exact vK Si es r
 ·rw[if_neg ha];have r':cx X.K (gP X F) R τ [] H H' vs ds:=by
   obtain⟨τt,fr,rp⟩:=r;exact⟨τt,fr,aB.km (P:=bF) (λ_ _ h=>h) (λk p xs f hf h=>by
    cases f with
    |ow=>exact h
    |fz=>exact h
    |al=>cases hf
    |sc=>exact h) rp (by simpa using ha)⟩
  have:=vK Si es r';rw[zy]at this;exact this
def Z7(X:Cx)(F:aj)(Φ:aT)(p:Nat)(cs:aD):TI:=λσ H Rr=>∃R τ ρ xs d items,SI X F R τ ρ σ H/\b9 Φ cs ρ=ok xs/\Φ p xs=ok d/\kH d=ok items /\
 ∀J H2 vs,aJ H H2->cx X.K (gP X F) R τ (cW cs) H H2 vs xs->NH X.K J H2 vs xs items->Rr J H2
theorem Gf(L:qw X S k Φ){t:Tg}{p:Nat}{b:ah}{x:bq}(ht:Ba S t tg=true)(hi:S.px.pi p S.sc S.bl iter=some args)(hc:bU S cs args=true)(Me:S_ iter=true)(htu:(decide (1100<=p)||gX tg)=true)(hb:nV X x (p8 X F Φ b)):PS X (.For tg iter x [] pos) (lN X F Φ (.fr t (.qN p cs) b)):=by
 obtain⟨g,hg,D9⟩:=B3 (F:=F) L ht;have o_:∀y,foldedSetIterable iter X.env y=pure y:=by
  intro y;cases iter<;>first|rfl | (cases Me;done)
 have pi:PI X tg iter (Z7 X F Φ p cs):=λpins s σ H Rr I ⟨R,τ,ρ,xs,d,items,Si,cF,ed,ei,hR⟩ =>
  L.pr.i X _ _ k L.toLk.pX p iter args hi F cs tg htu (kG L.toLk cs args hc) pins s σ H R τ ρ xs d items I Si cF ed ei Rr hR
 refine PS.imp (sj L.px L.calm pi hg hb o_) λD σ H hq=>?_;obtain⟨R,τ,ρ,r,Si,ev,hq⟩:=hq;obtain⟨⟨items,ρ1⟩,ei,ef⟩:=aG ev;obtain⟨xs,cF,ei⟩:=aG ei;obtain⟨d,ed,ei⟩:=aG ei;obtain⟨VT,ei',ei⟩:=aG ei;cases ei;refine⟨R,τ,ρ,xs,d,items,Si,cF,ed,ei',λJ H2 vs e2 Gv yz=>?_⟩;obtain⟨R',τ',hR,f9,rs⟩:=En Si e2 Gv;have zm:=hq.from (Kp.of e2 hR);refine⟨λi m σ' H'=>m=items.length - i/\i<=items.length/\lu X F Φ t b R' H2 r items i σ' H',⟨_,rfl,aaK _,R',τ',_,f9,Kp.refl R' H2,by rw[List.drop_zero];exact ef⟩,?_⟩;rintro i m σ1 H1 ⟨rfl,Od,hf⟩;obtain⟨R1,τ1,ρ2,wj,k1,e1⟩:=id hf;have KH:=k1.Vb rs;have IY:we X.K H2 vs xs H1:=⟨⟨R',rs,k1.l⟩,λa ys h=>k1.SS h⟩
 by_cases gM:i<items.length
 ·refine .inr ⟨yz.go i H1 R1 IY KH gM,λσ' H'=>lu X F Φ t b R' H2 r items (i+1) σ' H',λσ' H' h=>⟨items.length - (i+1),by left,rfl,gM,h⟩,λv H3 hy=>?_⟩;obtain⟨e3,dd,hd,rd⟩:=yz.wx i H1 R1 v H3 IY KH gM hy;have vH:items.drop i=dd::items.drop (i+1):=by
   rw[List.drop_eq_getElem_cons gM];rw[List.getElem?_eq_getElem gM]at hd;cases hd;rfl
  rw[vH,dw]at e1;obtain⟨ρ3,eb,e1⟩:=aG e1;obtain⟨⟨fo,ρ4⟩,e4,e1⟩:=aG e1;have k3:Kp R' H2 R1 H3:=k1.trans (Kp.of e3 λ_ h=>h);refine D9 v σ1 H3 _ R1 τ1 ρ2 ρ3 dd (wj.go e3) (nq rd) eb λσ' BC NK=>⟨R1,BC,ρ3,(fo,ρ4),NK,e4,?_⟩
  cases fo with
  |nx=>exact λσ3 H4 R3 τ3 x5 k4=>⟨R3,τ3,ρ4,x5,k3.trans k4,e1⟩
  |ct=>exact λσ3 H4 R3 τ3 x5 k4=>⟨R3,τ3,ρ4,x5,k3.trans k4,e1⟩
  |bk=>cases e1;exact λσ3 H4 R3 τ3 x5 k4=>zm σ3 H4 R3 τ3 x5 (k3.trans k4)
  |rt d=>cases e1;exact zm
 ·exact .inl ⟨yz.stop i H1 R1 IY KH (by left),nF (n:=i) (by left) zm σ1 H1 hf⟩
theorem aB.ints{T:kj}{N:iJ}:∀(is:aa) {k:bg} {n:Nat},aB T N k n (is.map V.int) (is.map DI.D.int)
 |[],_,_=>.nil
 |i::is,_,_=>.cons (.int i) (aB.ints is)
theorem Km(L:qw X S k Φ){t:Tg}{it:CI}{b:ah}{x:bq}(ht:Ba S t tg=true)(hi:Sb S it iter=true)(hnp:(gX tg||De it)=true)(hb:nV X x (p8 X F Φ b)):PS X (.For tg iter x [] pos) (lN X F Φ (.fr t it b)):=by
 obtain⟨g,hg,D9⟩:=B3 (F:=F) L ht;have o_:∀y,foldedSetIterable iter X.env y=pure y:=by
  intro y;cases iter<;>first|rfl | (cases it<;>first|exact(aag hi).elim|exact(aag (aL hi).2).elim)
 have lz:∀{lo:Int} {n:Nat} {D:Ends} {R:aj} {τ:Addr->Option bg} {ρ:bc} {σ:St} {H H1:Hp} {r:Fo×bc},SI X F R τ ρ σ H->aJ H H1->mM X F D R H r ->
   dw (λd ρ=>b8 t d ρ) (λρ=>bC Φ b ρ) ((List.range n).map λ(k:Nat)=>DI.D.int (lo+(k:Int))) ρ=ok r ->
   ∃W:Nat->Nat->L2.St->Hp->Prop,(∃m,W 0 m σ H1)/\∀i m σ H,W i m σ H ->
    ((Bq lo n).stop i H/\D.nx σ H)\/((Bq lo n).go i H/\∃N:L2.St->Hp->Prop,(∀σ' H',N σ' H'->∃m',m'<m/\W (i+1) m' σ' H')/\∀x H',(Bq lo n).wx i H x H'->g x σ H' λσ2 H2=>p8 X F Φ b { D with nx:=N,ct:=N,bk:=D.nx } σ2 H2):=by
  intro lo n D R τ ρ σ H H1 r Si e1 hq ef;have rs:aB (aU X.K H1) (nd X.K R (λ_=>False) (λ_=>none) H1) [] 0 ((List.range n).map λ(k:Nat)=>V.int (lo+(k:Int))) ((List.range n).map λ(k:Nat)=>DI.D.int (lo+(k:Int))):=by
   have:=aB.ints (T:=aU X.K H1) (N:=nd X.K R (λ_=>False) (λ_=>none) H1) ((List.range n).map λ(k:Nat)=>lo+(k:Int)) (k:=[]) (n:=0);rw[List.map_map,List.map_map]at this;exact this
  have zm:=hq.from (Kp.of e1 (R':=R) λ_ h=>h);refine A2 (lu X F Φ t b R H1 r _) ⟨R,τ,ρ,Si.go e1,Kp.refl R H1,by rw[List.drop_zero];exact ef⟩ (λi σ' H' TC h=>?_) (λσ' H' h=>nF (by simp) zm σ' H' h);exact pj D9 rs zm i (.int (lo+i)) σ' H' (by rw[List.getElem?_map,List.getElem?_range TC];rfl) h
 intro pins s σ H D I QQ;cases it with
 |qN p cs =>
  obtain⟨Me,hz⟩:=aL hi;obtain⟨args,ha,Tv⟩:=bB hz;exact Gf L ht ha Tv Me (by rw[Bool.or_comm];exact hnp) hb pins s σ H D I QQ
 |lz a =>
  obtain⟨R,τ,ρ,r,Si,ev,hq⟩:=QQ;obtain⟨⟨items,ρ1⟩,ei,ef⟩:=aG ev;obtain⟨⟨y,as⟩,hv,hz⟩:=bB hi;obtain⟨p,L4,rfl⟩:=dq hv;obtain⟨YI,Tv⟩:=aL hz;obtain⟨hz3,h2⟩:=aL YI;obtain⟨hz4,h1⟩:=aL hz3;obtain rfl:y=_:=aae hz4;obtain⟨e,hu,h3⟩:=bB Tv;obtain rfl:as=[e]:=cS hu;have pa:PA X [e] (uy X F Φ [a]):=PA.imp (cO (iP (F:=F) L.toLk a e h3).1 eT (cw h3 _ _)) λ_ _ _ h=>by
   have:=gC h;obtain⟨R,τ,ρ,d,Si,ev,hq⟩:=this;exact⟨R,τ,ρ,d,Si,ev,λv H' e r=>kD (hq v H' e r)⟩
  refine sj L.px L.calm (qM (L.gl h1) (L.bl _ (aae h2)) pa (cw h3 _ _)) hg hb o_ pins s σ H D I ?_;obtain⟨d,ed,ei⟩:=aG ei;cases d<;>try (simp at ei;done)
  rename_i n;simp at ei;obtain⟨⟨c1,c2⟩,rfl,rfl⟩:=ei;have mY:(cP:Int)=1000000:=rfl;refine⟨R,τ,ρ,[.int n],Si,by show bd (bp Φ a ρ) _=_;rw[ed];rfl,λvs H1 e1 rv=>?_⟩;obtain⟨τt,fr,rs⟩:=rv;cases rs.ints1
  ·refine⟨n,rfl,by left,by left,?_⟩;refine lz (lo:=0) Si e1 hq ?_;simpa using ef
 |seq a =>
  obtain⟨R,τ,ρ,r,Si,ev,hq⟩:=QQ;obtain⟨⟨items,ρ1⟩,ei,ef⟩:=aG ev;replace hi:=aL hi;obtain⟨d,ed,ei⟩:=aG ei;have pe:=(iP (F:=F) L.toLk a iter hi.1).1;cases d<;>try (simp at ei;done)
  ·rename_i ds;simp at ei;obtain⟨rfl,rfl⟩:=ei;refine sj L.px L.calm (CM pe) hg hb o_ pins s σ H D I (tD.intro Si ed λv H1 e1 rv=>?_);obtain⟨R',τ',hR,f9,rp⟩:=zC Si e1 rv;rw[aS]at rp;cases rp with
   | @tup _ p xs _ hp rs =>
    have zm:=hq.from (Kp.of e1 hR);refine⟨p,rfl,⟨xs,hp⟩,HE (xs:=xs) (lu X F Φ t b R' H1 r (aA aW ds)) ⟨R',τ',_,f9,Kp.refl R' H1,by rw[List.drop_zero];exact ef⟩ (λi σ' H' _ h=>?_) (λi x σ' H' hx h=>pj D9 rs zm i x σ' H' hx h) (λσ' H' h=>nF (rs.length) zm σ' H' h)⟩;obtain⟨R2,τ2,ρ2,_,kp,_⟩:=h;exact kp.SS hp
  ·rename_i f ds;simp at ei;obtain⟨rfl,rfl⟩:=ei;refine sj L.px L.calm (yO pe) hg hb o_ pins s σ H D I (tD.intro Si ed λv H1 e1 rv=>?_);obtain⟨R',τ',hR,f9,rp⟩:=zC Si e1 rv;rw[aS]at rp;obtain⟨p,xs,rfl,hp,rs⟩:=rp.rM;have zm:=hq.from (Kp.of e1 hR);refine⟨p,rfl,⟨xs,hp.sq⟩,Ep (xs:=xs) (lu X F Φ t b R' H1 r (aA aW ds)) ⟨R',τ',_,f9,Kp.refl R' H1,by rw[List.drop_zero];exact ef⟩ (λi σ' H' _ h=>?_) (λi x σ' H' hx h=>pj D9 rs zm i x σ' H' hx h) (λσ' H' h=>nF (rs.length) zm σ' H' h)⟩;obtain⟨R2,τ2,ρ2,_,kp,_⟩:=h;exact(kp.nd hp).sq
theorem oU{ρ':bc}{p:Addr}{q:bg}{n:Nd}{o:HO}(Si:SI X F R' τ' ρ' σ H1)(es:aJ H H1)(hR:∀p,R p->R' p)(hp:eB H1 p n)(ht:τ' p=some q):Kp R H R' (upd H1 p o):=by
 obtain⟨o0,DZ,QS,N_⟩:=eB.some hp;exact⟨hR,λa u ha e=>by
  have ne:a≠p:=λz=>by subst z;rw[Si.rt _ (hR _ ha)]at ht;cases ht
  rw[aY ne];exact es _ _ e,λa zs e=>by
  have e1:=es _ _ e;have ne:a≠p:=λz=>by subst z;rw[DZ]at e1;cases e1;exact QS _ rfl
  rw[aY ne];exact e1,λa o u e=>by
  have e1:=es _ _ e;have ne:a≠p:=λz=>by subst z;rw[DZ]at e1;cases e1;exact N_ _ _ rfl
  rw[aY ne];exact e1⟩
theorem ic.go{v:V}{d:DI.D}(h:ic X R τ H v d)(e:aJ H H'):ic X R τ H' v d :=
 let ⟨τt,h1,h2⟩:=h;⟨τt,λp q z=>let ⟨a,b,c,d⟩:=h1 p q z;⟨a,b,c,aJ.ne e d⟩,h2.imp (λ_ _ h=>aU.same e h) λ_ _ _ _ h=>nd.same e h⟩
theorem To(L:qw X S k Φ){i:Nat}(h:l_ S i o=true)(hv:∀x p,o=.Name x p->oH x=true):∃x p,o=.Name x p/\X.N[i]?=some x/\L2.Loc X.env.scope x/\PE X o (ux i):=by
 cases o<;>try (exact(aag h).elim;done)
 rename_i x p;have hn:=hv x p rfl;replace h:=aL h;unfold oH at hn;simp only[Bool.and_eq_true,Bool.not_eq_true']at hn;have hN:X.N[i]?=some x:=by rw[L.N];exact aae h.1
 have hl:=L.loc h.2;exact⟨x,p,rfl,hN,hl,xj hN (hl.imp id .inl) hn.1.1 hn.1.2⟩
theorem HH{e:CE}{r:DI.D×bc}{i:Nat}{ds:List DI.D}(h:jY Φ e ρ=ok r)(ho:r.2[i]?=some (some (.lst .ow ds))):ρ[i]?=some (some (.lst .ow ds)):=by
 by_cases hv:∃j,e=.v j
 ·obtain⟨j,rfl⟩:=hv;simp only[jY]at h;split at h
  ·split at h
   ·cases h;by_cases jx:i=j
    ·subst jx;rw[List.getElem?_set]at ho;simp at ho
    ·rw[List.getElem?_set_ne (Ne.symm jx)]at ho;exact ho
   ·cases h;exact ho
  ·cases h
 ·have h':bd (bp Φ e ρ) (λd=>ok (keep e d ρ))=ok r:=by
   cases e<;>first|exact h|exact absurd ⟨_,rfl⟩ hv
  obtain⟨d,_,er⟩:=aG h';cases er;unfold keep at ho;split at ho
  ·obtain⟨d',h1,h2⟩:=zA _ _ _ _ ho;split at h2
   ·cases d'<;>simp[aS]at h2;rename_i f ds';cases f<;>simp[aW]at h2
   ·rw[h2];exact h1
  ·exact ho
theorem Ko(L:qw X S k Φ){i:Nat}{e:CE}{x:Str}{v:Expr}{p p1 p2:Pos}(hn:l_ S i (.Name x p)=true)(hx:oH x=true)(he:cD S e v=true)(AO:(p1.endLine==p2.line)=true):PS X (.Expr (.Call (.Attribute (.Name x p) ("append" : Str) p1) [v] [] p2) pos) (lN X F Φ (.app i e)):=by
 obtain⟨_,_,z,hN,hl,pe⟩:=To L hn (λy q e=>by cases e;exact hx);cases z;refine PS.imp (nu (CZ abP abM PySem.F.type_list_append qS pe (cO (wZ (F:=F) L.toLk e v he) eT (cw he _ _)) (hfew:=by rw[cw he];rfl) (hline:=AO) (hs:=cw he _ _))) λD σ H hq=>?_;obtain⟨R,τ,ρ,r,Si,ev,hq⟩:=hq;obtain⟨r1,Bx,ev⟩:=aG ev;split at ev
 ·rename_i ds ho;split at ev
  ·rename_i hc;cases ev;have ho:=GX ho;obtain⟨a,xs,hv,ha,hxl,Wd,_⟩:=Si.own (HH Bx ho);refine⟨.ref a,hv,.inl ⟨rfl,_,dg.of ha⟩,R,τ,ρ,r1,Si,Bx,λw H1 R1 τ1 es hR wj rk=>?_⟩;obtain⟨a1,IF,Mb,Jy,V8,DW,KH⟩:=wj.own ho;rw[hv]at Mb;cases Mb;have hz:sizeLine=16777216:=aa6;have mY:cP=1000000:=rfl;refine⟨a,IF,w,rfl,rfl,Jy,by left,?_⟩;obtain⟨τ2,wg⟩:=wj.put (m:=ds.length) (g:=λys=>ys++[w]) ho hv Jy DW KH rk λrs r=>aB.yw rs (by simpa using r);exact hq σ _ R1 τ2 wg (oU (n:=.l _) wj es hR Jy DW)
  ·cases ev
 ·cases ev
theorem Kn(L:qw X S k Φ){i:Nat}{b:Bool}{e:CE}{x:Str}{v:Expr}{p:Pos}(hn:l_ S i (.Name x p)=true)(hx:oH x=true)(he:cD S e v=true):PS X (.AugAssign (.Name x p) (if b then .Add else .Sub) v pos) (lN X F Φ (.aug i b e)):=by
 obtain⟨_,_,z,hN,hl,pe⟩:=To L hn (λy q e=>by cases e;exact hx);cases z;have ip:SA X (if b then .Add else .Sub) (V1 λy z=>if b then y+z else y - z):=by
  cases b
  ·exact L5
  ·exact L7
 refine PS.imp (CJ L.nd hN hl (iP (F:=F) L.toLk e v he).1 ip (.inl (L.Er _))) λD σ H hq=>?_;obtain⟨R,τ,ρ,r,Si,ev,hq⟩:=hq;obtain⟨n,en,ev⟩:=aG ev;obtain⟨d,ed,en⟩:=aG en;have en:=Hq en;subst en;split at ev
 ·rename_i a ho;cases ev;obtain⟨w,hw,jH⟩:=Si.rep i _ ho;cases jH;have hi:i<ρ.length:=by
   by_cases z:i<ρ.length
   ·exact z
   ·rw[List.getElem?_eq_none (by left)]at ho;cases ho
  refine⟨_,hw,tD.intro Si ed λu H1 e1 ru=>?_⟩;cases ru.isInt;refine⟨_,_,rfl,rfl,?_⟩;obtain⟨τ1,wj⟩:=(Si.go e1).set (i:=i) (v:=.int (if b then a+n else a - n)) (d:=.int (if b then a+n else a - n)) ⟨λ_=>none,λ_ _ h=>by simp at h,.int _⟩ hi;exact hq _ H1 R τ1 wj (Kp.of e1 λ_ h=>h)
 ·cases ev
end
section
variable {X:Cx}{S:Sx}{k:Nat}{F:aj}{Φ:aT}
theorem K3(x:Str)(p:Pos):(Expr.Name x p).pos=p:=rfl
theorem wX{x y:Str}{px py pt NZ:Pos}{kt:Nat}{a b:Expr}(hk:env.scope.kind=.function)(hx:env.scope.names.lookup x=some .local)(hy:env.scope.names.lookup y=some .local)(YJ:x≠y)(hl:px.line=py.line)
  (h1:[a,b].all (foldedForSure 8)=false) (h2:[a,b].all (constantsAlone 8)=false) (h3:([a,b].any λe=>match e with|.Starred ..=>true|_=>false)=false) :
  swappedStores [.Tuple [.Name x px,.Name y py] kt pt] (.Tuple [a,b] k2 NZ) env=pure (some [x,y]):=by
 have hb:env.blockKind=.function:=by unfold Env.blockKind;rw[hk];rfl
 have kx:env.kindOf x=some .local:=hx;have ky:env.kindOf y=some .local:=hy;have e1:([x,y].eraseDups.length != [x,y].length)=false:=by
  have:¬ (y==x)=true:=by simp;exact λz=>YJ z.symm
  have h':(y==x)=false:=by simpa using this
  simp[List.eraseDups_cons,List.filter,h',YJ]
 unfold swappedStores;simp only[hb,h3,List.filterMap_cons,List.filterMap_nil,kx,ky,hl,K3,List.head?_cons,Option.map_some,Option.getD_some,h1,h2];simp only[beq_self_eq_true,Bool.and_self,if_true];rw[if_neg (by simp)];refine(ack ?_).trans ?_
 ·intro z;exact aag (h3.symm.trans z)
 rw[if_neg (by
  rw[e1];simp),if_neg Bool.false_ne_true,if_neg Bool.false_ne_true]
theorem oB{kp:bg}{v:V}{d:DI.D}(h:Rep (aU X.K H) (nd X.K R A τ H) kp v d)(hf:aR anyF d=false):ic X R' τ' H v d :=
 ⟨λ_=>none,λ_ _ h=>by simp at h,Rep.without (P:=anyF) (λ_ _ h=>h) (λk k' p xs f hf h=>by cases hf) h hf _⟩
theorem Kl(L:qw X S k Φ){i j:Nat}{a b:CE}{v:Expr}(he:cD S (.tup [a,b]) v=true)(hp:EO S i j tg v=true):PS X (.Assign [tg] v pos) (lN X F Φ (.par i j a b)):=by
 obtain⟨ts,Mb,q1⟩:=bB hp;obtain⟨kt,pt,rfl⟩:=kr Mb;obtain⟨⟨t1,t2⟩,hv2,q2⟩:=bB q1;obtain rfl:ts=[t1,t2]:=f_ hv2;obtain⟨⟨x,px⟩,hv3,q3⟩:=bB q2;obtain rfl:t1=_:=yc hv3;obtain⟨⟨y,py⟩,hv4,q4⟩:=bB q3;obtain rfl:t2=_:=yc hv4;obtain⟨vs,hv5,q5⟩:=bB q4;obtain⟨k2,NZ,rfl⟩:=kr hv5;obtain⟨⟨ea,eb⟩,hv6,q6⟩:=bB q5;obtain rfl:vs=[ea,eb]:=f_ hv6
 ·obtain⟨q7,MH⟩:=aL q6;obtain⟨q8,h9⟩:=aL q7;obtain⟨q9,h8⟩:=aL q8;obtain⟨Vm,h7⟩:=aL q9;obtain⟨q11,h6⟩:=aL Vm;obtain⟨q12,h5⟩:=aL q11;obtain⟨q13,h4⟩:=aL q12;obtain⟨q14,h3⟩:=aL q13;obtain⟨h1,h2⟩:=aL q14;replace h1:S.N[i]?=some x:=aae h1;replace h2:S.N[j]?=some y:=aae h2;replace h3:=aae h3;replace h4:=aae h4;replace h5:=aae h5;replace h6:=aae h6;replace h7:=aae h7;replace h8:=mx h8;replace h9:=mx h9;replace MH:=aae MH;replace he:=aL he;have pa:=yv (F:=F) L.toLk [a,b] [ea,eb] he.1;refine PS.imp (K0 L.calm L.nd (by rw[L.N];exact h1) (by rw[L.N];exact h2) h3 (by rw[L.sc];exact h4) (by rw[L.sc];exact h5) pa (wX (by rw[L.sc];exact L.fk) (by rw[L.sc];exact h4) (by rw[L.sc];exact h5) h6 h7 h8 h9 MH)) λD σ H hq=>?_;obtain⟨R,τ,ρ,r,Si,ev,hq⟩:=hq;obtain⟨d1,ed1,ev⟩:=aG ev;obtain⟨d2,ed2,ev⟩:=aG ev;simp only[Jq]at ev;obtain⟨⟨f1,f2,l1,l2⟩,rfl⟩:=ev;refine⟨R,τ,ρ,[d1,d2],Si,by show bd (bp Φ a ρ) _=_;rw[ed1];show bd (bd (bp Φ b ρ) _) _=_;rw[ed2];rfl,λvs H1 e1 rv=>?_⟩;obtain⟨τt,fr,rs⟩:=rv;obtain⟨v1,v2,rfl,r1,r2⟩:=rs.two
  ·obtain⟨τ1,S1⟩:=(Si.go e1).set (i:=i) (oB r1 f1) l1;obtain⟨τ2,S2⟩:=S1.set (i:=j) (oB r2 f2) (by simpa using l2);exact⟨v1,v2,rfl,hq _ H1 R τ2 S2 (Kp.of e1 λ_ h=>h)⟩
mutual
theorem Kq(L:qw X S k Φ):∀(c:CS) (st:Stmt),R_ S c st=true->PS X st (lN X F Φ c)
 |.asg t e,st,h=>by
  obtain⟨⟨NU,v⟩,v1,q1⟩:=bB h;obtain⟨pos,rfl⟩:=rN v1;obtain⟨tg,v2,q2⟩:=bB q1;obtain rfl:NU=[tg]:=cS v2;obtain⟨q3,h4⟩:=aL q2;obtain⟨q4,h3⟩:=aL q3;obtain⟨h1,h2⟩:=aL q4;have h1:cD S e v=true:=h1;replace h3:(isTup v&&isTup tg)=false:=mx h3;cases hc:jW v with
  |false=>exact B8 L h1 h2 h3 (vZ h1 hc _ _ _)
  |true =>
   have h4:(!jW v||isNm tg)=true:=h4;rw[hc]at h4;obtain⟨x,p,rfl⟩:=Ho h4;obtain⟨jJ,gens,sc,OD,rfl⟩:=AI hc;cases e<;>try (exact(aag h1).elim)
   cases t with
   |tp is=>exact(aag h2).elim
   |nm i =>
    cases hb:UT S (.Name x p) (.ListComp jJ gens sc OD)with
    |true=>exact Gg L h1 h2 (by rw[IW L,hb])
    |false=>exact B8 L h1 h2 h3 (by
      show swapsWith (.ListComp jJ gens sc OD) (some (.Name x p)) pos.line X.env=_;rw[IW L,hb])
 |.par i j a b,st,h=>by
  obtain⟨⟨NU,v⟩,v1,q1⟩:=bB h;obtain⟨pos,rfl⟩:=rN v1;obtain⟨tg,v2,q2⟩:=bB q1;obtain rfl:NU=[tg]:=cS v2;exact Kl L (aL q2).1 (aL q2).2
 |.ret e,st,h=>by
  obtain⟨z,v1,q1⟩:=bB h;obtain⟨pos,rfl⟩:=FW v1;obtain⟨v,v2,q2⟩:=bB q1;obtain rfl:z=some v:=v2;exact Kk L q2
 |.rs c,st,h=>λ_ _ _ _ _ _ bR=>by obtain⟨R,τ,ρ,r,Si,ev,hq⟩:=bR;cases ev
 |.ex e,st,h=>by
  obtain⟨v,v1,q1⟩:=bB h;obtain⟨pos,rfl⟩:=wH v1;exact O7 L (aL q1).1 (mx (aL q1).2)
 |.mut p i es,st,h=>by
  obtain⟨⟨o,args⟩,ha,q1⟩:=bB h;obtain⟨q2,h3⟩:=aL q1;obtain⟨h1,h2⟩:=aL q2;obtain⟨x,pp,rfl,hN,hl,pe⟩:=To L h1 (λy q e=>by cases e;exact h2);exact L.pm.m X _ _ k L.toLk.pX L.nd L.Er p st x pp args ha i hN hl pe F es (kG L.toLk es args h3)
 |.mu2 p i k e,st,h=>by
  obtain⟨⟨o,args⟩,ha,q1⟩:=bB h;obtain⟨q2,h3⟩:=aL q1;obtain⟨h1,h2⟩:=aL q2;obtain⟨x,pp,rfl,hN,hl,pe⟩:=To L h1 (λy q e=>by cases e;exact h2);exact L.pm.m2 X _ _ _ L.toLk.pX L.nd L.Er p st x pp args ha i hN hl pe F k e (kG L.toLk [k,e] args h3)
 |.app i e,st,h=>by
  obtain⟨c,v1,q1⟩:=bB h;obtain⟨pos,rfl⟩:=wH v1;obtain⟨⟨fn,as,ks,p2⟩,v2,q2⟩:=bB q1;obtain rfl:c=_:=lI v2;obtain⟨q3,q4⟩:=aL q2;obtain rfl:ks=[]:=oY q3;obtain⟨⟨o,a,p1⟩,v3,q5⟩:=bB q4;obtain rfl:fn=_:=n_ v3;obtain⟨q6,q7⟩:=aL q5;obtain⟨v,v4,h4⟩:=bB q7;obtain rfl:as=[v]:=cS v4;obtain⟨q8,h5⟩:=aL q6;obtain⟨q9,h2⟩:=aL q8;obtain⟨Vm,h1⟩:=aL q9;obtain rfl:a=_:=aae Vm;obtain⟨x,p,rfl⟩:∃x p,o=.Name x p:=zQ h1;exact Ko L h1 h2 h4 h5
 |.aug i op e,st,h=>by
  obtain⟨⟨o,p,v⟩,v1,q1⟩:=bB h;obtain⟨pos,rfl⟩:=yf v1;obtain⟨q2,h4⟩:=aL q1;obtain⟨q3,h3⟩:=aL q2;obtain⟨h1,h2⟩:=aL q3;obtain rfl:p=_:=aae h3;obtain⟨x,pp,rfl⟩:∃x p,o=.Name x p:=zQ h1;exact Kn L h1 h2 h4
 |.ifs c a b,st,h=>by
  obtain⟨⟨t,x,y⟩,v1,q1⟩:=bB h;obtain⟨pos,rfl⟩:=FY v1;obtain⟨q2,h3⟩:=aL q1;obtain⟨h1,h2⟩:=aL q2;exact O6 L h1 (jn L a _ h2) (jn L b _ h3)
 |.J4 c b,st,h=>by
  obtain⟨⟨t,x,y⟩,v1,q1⟩:=bB h;obtain⟨pos,rfl⟩:=FV v1;obtain⟨q2,h3⟩:=aL q1;obtain⟨h1,h2⟩:=aL q2;obtain rfl:y=[]:=oY h1;exact B7 L h2 (jn L b _ h3)
 |.fr t it b,st,h=>by
  obtain⟨⟨tg,iter,x,y⟩,v1,q1⟩:=bB h;obtain⟨pos,rfl⟩:=FZ v1;obtain⟨q2,h5⟩:=aL q1;obtain⟨q3,h4⟩:=aL q2;obtain⟨q4,h3⟩:=aL q3;obtain⟨h1,h2⟩:=aL q4;obtain rfl:y=[]:=oY h1;exact Km L h2 h3 h4 (jn L b _ h5)
theorem jn(L:qw X S k Φ):∀(cs:ah) (O4:bq),k7 S cs O4=true->nV X O4 (p8 X F Φ cs)
 |[],[],_=>nV.imp GI λD σ H bR=>by obtain⟨R,τ,ρ,r,Si,ev,hq⟩:=bR;cases ev;exact hq σ H R τ Si (Kp.refl R H)
 |[],_::_,h=>by exact(aag h).elim
 |_::_,[],h=>by exact(aag h).elim
 |c::cs,st::O4,h=>by
  replace h:=aL h;have h1:PS X st (lN X F Φ c):=Kq L c st h.1;have h2:nV X O4 (p8 X F Φ cs):=jn L cs O4 h.2;refine nV.imp (CF h1 h2) λD σ H hq=>?_;obtain⟨R,τ,ρ,r,Si,ev,hq⟩:=hq;obtain⟨⟨fo,ρ1⟩,e1,ev⟩:=aG ev;refine⟨R,τ,ρ,(fo,ρ1),Si,e1,?_⟩;cases fo with
  |nx=>exact λσ' H' R' τ' f9 kp=>⟨R',τ',ρ1,r,f9,ev,hq.from kp⟩
  |bk=>cases ev;exact hq
  |ct=>cases ev;exact hq
  |rt d=>cases ev;exact hq
end
end
variable {mg:Str->Option Value}{ps:au}{qual:Str}
theorem vM{x:Str}{f:Addr}{fd:FuncData}{k:Nat}{N bl:au}{cs:List (Str×GK)}{px:Px}{Er:Nat->Option Str}{m:av}{body:ah}
  (Fu:IB K x qual st f fd) (Sc:jF N ps (bL st)) (Mo:k7 ⟨bL st,N,Er,bl,cs,px⟩ body (dA st)=true) (Me:x8 px Φ) (Wi:NP px Φ)
  (Hx:∀y∈bl,mg y=none) (xD:∀y i,(y,i)∈cs->∃u,mg y=some u/\FG K i u)
  (t_:∀g y,Er g=some y->∃(f:Addr) (fd:FuncData) (ps:au),jK P w K mg base BA k f fd ps (Gh K ps.length (Φ g))/\mg y=some (.ref f)/\PySem.W.keepIn K (.ref f)=true/\Binds K fd ps []/\∀ds r,Φ g ds=ok r->ds.length=ps.length)
  (hm:∀ds r,m ds=ok r->ds.length=ps.length/\si Φ N.length body ds=ok r):jK P w K mg base BA (k+1) f fd ps (Gh K ps.length m):=by
 refine Fu.ok (N:=N) Sc (λvs H Q E ⟨_,_,_,h,_⟩=>h) λjP A outer s H vs Q E hr Fx=>?_;obtain⟨F,ds,r,hl,rs,er,hq⟩:=Fx;obtain⟨TH,xB⟩:=hm ds r er
 let X:=(xR BA P w K mg base N qual (bL st) f jP A outer s H E).P7
 have L:qw X ⟨bL st,N,Er,bl,cs,px⟩ k Φ:=⟨⟨rfl,rfl,Sc.nd,rfl,hr,Hx,λg y h=>⟨t_ g y h⟩,xD,Me⟩,λ_=>rfl,PassesOwn.never,Sc.kind,Wi⟩
 refine⟨p8 X F Φ body,jn L body _ Mo,?_⟩;unfold si at xB;obtain⟨⟨fo,ρ'⟩,eb,xB⟩:=aG xB;have hpl:ps.length<=N.length:=by have:=aa2 List.length Sc.pre;rw[List.length_take]at this;left
 have Fw:vs.length=ds.length:=rs.length;refine⟨λp=>F p/\H p≠none,λ_=>none,_,(fo,ρ'),⟨?_,λi d hi=>?_,λ_ _=>rfl,λp h=>h.2,λp h=>.inl h.1,λ_ _ h=>by simp at h,λ_ _ h=>by simp at h,aJ.refl H⟩,eb,?_⟩
 ·unfold L2.start;simp[Fw]
 ·have Y1:i<ds.length:=by
   by_cases o9:i<ds.length
   ·exact o9
   ·rw[List.getElem?_append_right (by simpa using o9)]at hi;rw[List.getElem?_replicate]at hi;split at hi<;>simp at hi
  rw[List.getElem?_append_left (by simpa using Y1),List.getElem?_map]at hi;have hd:ds[i]?=some d:=by
   cases q:ds[i]? with
   |none=>rw[q]at hi;cases hi
   |some z=>rw[q]at hi;simp at hi;rw[hi]
  obtain⟨v,hv,rv⟩:=rs.get hd;refine⟨v,?_,rv.imp (q:=[0+i]) (q':=[i]) (λ_ _ h=>h) λc p xs f h=>?_⟩
  ·unfold L2.start;rw[List.getElem?_append_left (by rw[List.length_map,Fw];exact Y1),List.getElem?_map,hv];rfl
  ·cases f with
   |ow=>exact nomatch h.2
   |fz=>exact⟨h.1,h.2,h.1.ne⟩
   |al=>exact h.2.elim
   |sc=>exact h
 ·cases fo with
  |nx =>
   cases xB;exact λσ' H' R' τ' f9 kp=>hq .cg H' f9.same ⟨λ_=>none,λ_ _ h=>by simp at h,.cg⟩
  |bk=>simp at xB
  |ct=>simp at xB
  |rt d =>
   cases xB;exact λv H' es rr=>hq v H' es rr
structure Ent(P:aF)(w:World)(K:aq)(mg:a_)(base:Heap)(k:Nat)(y:Str)(m:av):Prop where
 ex:∃(f:Addr) (fd:FuncData) (ps:au),jK P w K mg base BA k f fd ps (Gh K ps.length m)/\mg y=some (.ref f)/\PySem.W.keepIn K (.ref f)=true/\Binds K fd ps []/\∀ds r,m ds=ok r->ds.length=ps.length
theorem Ent.up{k k':Nat}{y:Str}{m:av}(h:Ent P w K mg base k y m)(hk:k<=k'):Ent P w K mg base k' y m:=by
 obtain⟨f,fd,ps,h1,h2⟩:=h.ex;exact⟨f,fd,ps,h1.mono hk,h2⟩
theorem ent{x:Str}{f:Addr}{fd:FuncData}{k:Nat}{N bl:au}{cs:List (Str×GK)}{px:Px}{Er:Nat->Option Str}{m:av}{body:ah}
  (Fu:IB K x qual st f fd) (hmg:mg x=some (.ref f)) (hb:Binds K fd ps []) (Sc:jF N ps (bL st)) (Mo:k7 ⟨bL st,N,Er,bl,cs,px⟩ body (dA st)=true) (Me:x8 px Φ) (Wi:NP px Φ) (Hx:∀y∈bl,mg y=none) (xD:∀y i,(y,i)∈cs->∃u,mg y=some u/\FG K i u)
  (t_:∀g y,Er g=some y->Ent P w K mg base k y (Φ g)) (hm:∀ds r,m ds=ok r->ds.length=ps.length/\si Φ N.length body ds=ok r):Ent P w K mg base (k+1) x m :=
 ⟨f,fd,ps,vM Fu Sc Mo Me Wi Hx xD (λg y h=>(t_ g y h).ex) hm,hmg,Fu.kp,hb,λds r h=>(hm ds r h).1⟩
noncomputable def dM{α:Type}(P:α->Prop):List α->Prop
 |[]=>True
 |a::l=>P a/\dM P l
theorem dM.mem{α:Type}{P:α->Prop}:∀{l:List α},dM P l->∀a∈l,P a
 |[],_,_,h=>by cases h
 |_::_,h,_,hm=>(List.mem_cons.mp hm).elim (λe=>e▸h.1) (dM.mem h.2 _)
theorem dM.tab{β:Type}{P:Nat->β->Prop}:∀{l:List (Nat×β)},dM (λp=>P p.1 p.2) l->∀g y,l.lookup g=some y->P g y
 |[],_,_,_,h=>by cases h
 | (k,b)::l,h,g,y,e=>by
  rw[List.lookup_cons]at e;cases hg:g==k with
  |true=>rw[hg]at e;cases e;rw[eq_of_beq hg];exact h.1
  |false=>rw[hg]at e;exact dM.tab h.2 g y e
theorem dM.two{β γ:Type}{P:β->γ->Prop}{l:List (β×γ)}(h:dM (λp=>P p.1 p.2) l)(y:β)(i:γ)(hm:(y,i)∈l):P y i:=dM.mem h _ hm
theorem Qt{α:Type}{l:List α}(h:l.length=1):∃a,l=[a]:=List.length_eq_one_iff.mp h
theorem Qs{α:Type}{l:List α}(h:l.length=2):∃a b,l=[a,b]:=by
 cases l with
 |nil=>cases h
 |cons a l=>obtain⟨b,rfl⟩:=Qt (Nat.succ.inj h);exact⟨a,b,rfl⟩
theorem Qr{α:Type}{l:List α}(h:l.length=3):∃a b c,l=[a,b,c]:=by
 cases l with
 |nil=>cases h
 |cons a l=>obtain⟨b,c,rfl⟩:=Qs (Nat.succ.inj h);exact⟨a,b,c,rfl⟩
theorem VJ{α:Type}{l:List α}(h:l.length=4):∃a b c d,l=[a,b,c,d]:=by
 cases l with
 |nil=>cases h
 |cons a l=>obtain⟨b,c,d,rfl⟩:=Qr (Nat.succ.inj h);exact⟨a,b,c,d,rfl⟩
noncomputable def o5:ab->Option (aa)
 |[]=>some []
 |.int i::ds=>(o5 ds).map (i :: ·)
 |_::_=>none
theorem oZ:∀ns:aa,o5 (ns.map D.int)=some ns
 |[]=>rfl
 |n::ns=>by simp[o5,oZ ns]
theorem vd:∀{ds:ab} {ns:aa},o5 ds=some ns->ds=ns.map D.int
 |[],ns,h=>by simp[o5]at h;subst h;rfl
 |d::ds,ns,h=>by
  cases d<;>simp[o5]at h;obtain⟨ms,h1,rfl⟩:=h;rw[vd h1];rfl
def sF:av
 |[.lst .sc ds]=>match o5 ds with
  |some ns=>if ns.length<=63 then ok (.bl true)else none
  |none=>none
 |_=>none
theorem He(h:ns.length<=63):sF [.lst .sc (ns.map D.int)]=ok (.bl true):=by
 simp[sF,oZ,h]
theorem Dx{n:Nat}{b:ah}(h:∀ns:aa,ns.length<=63->si Φ n b [.lst .sc (ns.map D.int)]=ok (.bl true)):∀ds r,sF ds=ok r->ds.length=1/\si Φ n b ds=ok r:=by
 intro ds r e
 match ds,e with
 |[.lst .sc ds],e =>
  simp only[sF]at e;split at e
  ·rename_i ns Bt;split at e
   ·rename_i hl;cases e;obtain rfl:=vd Bt;exact⟨rfl,h ns hl⟩
   ·cases e
  ·cases e
theorem LO(K:aq)(H:Hp)(a:Addr)(ns:aa)(m:av)(hm:m [.lst .sc (ns.map D.int)]=ok (.bl true))(hO:Iz H)(hS:dg K H a (ns.map V.int)):Gh K 1 m [.ref a] H (λv _=>v=.bl true) λ_ _ _=>False:=by
 refine⟨λ_=>True,_,.bl true,rfl,.cons (.lst ?_ (aB.ints ns)) .nil,hm,λv H' _ bR=>by obtain⟨τt,_,rp⟩:=bR;cases rp;rfl⟩;rcases hS with (h|h)|h
 ·rcases hO a with z|⟨o,xs,z⟩
  ·rw[h]at z;cases z
  ·rw[h]at z;cases z
 ·exact .inl h
 ·exact .inr h
section
variable {X:Cx}{pins:ak}{σ:St}{H:Hp}{s:Shared}{h':Heap}
theorem yi(I:Inv X pins σ H s)(hf:∀b∈ch,pT X pins H b)(k:∀b u,b∉ch->s.heap.get? b=some u->h'.get? b=some u):Inv X pins σ H { s with heap:=h',toks:=t' }:=by
 have Ji:∀b u,H b=some u->b∉ch:=λb u e z=>by rw[(hf b z).1]at e;cases e
 refine I.step (g':=s.gens) (d':=s.drawn) (ch:=ch) (λb hb=>⟨(hf b hb).2.2.2.1,(hf b hb).2.1,(hf b hb).2.2.2.2.1,(hf b hb).2.2.2.2.2⟩) (λb o _ _ hc e _=>k b o hc e) (λb o _ _ hc e _=>⟨o.slots,k b o hc e⟩) (λ_ _ _ _ n=>n)
  (λb o hc e=>⟨o,k b o hc e⟩) (λ_ _ e=>e) (λ_ _ _ e=>e) (λb ps e=>⟨#[],by rw[e];simp⟩) (λm hm=>?_) (λb u e=>?_) I.bare
 ·obtain⟨o,es,ep,ho,r⟩:=hm;exact⟨o,es,ep,k _ o (λz=>(hf _ z).2.1 rfl) ho,r⟩
 ·refine(I.cV b u e).oq (λc v hc q=>k c v ?_ q) (λ_ q=>q) λ_ _ q=>q;rcases hc with z|z
  ·rw[z];exact Ji b u e
  ·exact Ji c _ z
theorem yj{T:Addr}{o:HO}(I:Inv X pins σ H s)(hf:∀b∈ch,pT X pins H b)(k:∀b u,b∉ch->s.heap.get? b=some u->h'.get? b=some u)(hT:s.heap.objs.size<=T)(new:cy X.prog X.w (upd H T o) h' T o):
  Inv X pins σ (upd H T o) { s with heap:=h',toks:=t' }:=by
 have Ji:∀b u,H b=some u->b∉ch:=λb u e z=>by rw[(hf b z).1]at e;cases e
 have hn:H T=none:=I.cV.fresh hT;have ne:∀b (u:Obj),s.heap.get? b=some u->b≠T:=λb u e z=>absurd (aah e) (by rw[z];exact Nat.not_lt.mpr hT);have up:∀b u,H b=some u->upd H T o b=some u:=λb u e=>by rw[aY (cm e hn)];exact e
 refine I.step (g':=s.gens) (d':=s.drawn) (ch:=ch) (λb hb=>⟨(hf b hb).2.2.2.1,(hf b hb).2.1,(hf b hb).2.2.2.2.1,(hf b hb).2.2.2.2.2⟩) (λb o _ _ hc e _=>k b o hc e) (λb o _ _ hc e _=>⟨o.slots,k b o hc e⟩) (λb u _ e n=>by rw[aY (ne b u e)];exact n)
  (λb o hc e=>⟨o,k b o hc e⟩) (λ_ _ e=>up _ _ e) (λ_ _ _ e=>up _ _ e) (λb ps e=>⟨#[],by rw[up _ _ e];simp⟩) (λm hm=>?_) (zo (λb u e=>?_) hn new) I.bare
 ·obtain⟨o,es,ep,ho,r⟩:=hm;exact⟨o,es,ep,k _ o (λz=>(hf _ z).2.1 rfl) ho,r⟩
 ·refine(I.cV b u e).oq (λc v hc q=>k c v ?_ q) (λ_ q=>q) λ_ _ q=>q;rcases hc with z|z
  ·rw[z];exact Ji b u e
  ·exact Ji c _ z
end
def XR(K:aq)(a b:Addr):It :=
  ⟨λi H=>∃xs ys x y,dg K H a xs/\dg K H b ys/\xs[i]?=some x/\ys[i]?=some y,
   λi H v H'=>∃T x y,(∀xs,dg K H a xs->xs[i]?=some x)/\(∀ys,dg K H b ys->ys[i]?=some y)/\H T=none/\v=.ref T/\H'=upd H T (.tup [x,y]),
   λi H=>∃xs ys,dg K H a xs/\dg K H b ys/\(xs.length<=i\/ys.length<=i)⟩
theorem rS{h:Heap}{T:Addr}{x y:V}{u v:Value}(rx:RelV x u)(ry:RelV y v)(e:h.get? T=some { cls:=.type "tuple",data:=.seq #[u,v] }):cy P w H h T (.tup [x,y]) :=
 ⟨by rw[sizeLine_eq];simp,[u,v],.cons rx (.cons ry .nil),⟨_,e,rfl,_,rfl⟩⟩
theorem bA{h:Heap}{a b:Addr}{o u:Obj}(ha:h.get? a=some o)(hb:h.get? b=some u)(hc:o.cls≠u.cls):a≠b:=λz=>by
 subst z;rw[ha]at hb;cases hb;exact hc rfl
theorem BV{tp:Pos}{a b z TI TO:Addr}(WO:TI≠TO)(Ei:i1≠i2):
  Turn P w K (.Tuple elts n1 tp) (XR K a b) [z,TI,TO,i1,i2] z (λi h=>IsZip h z TI TO .none/\IsPair h TI (.ref i1) (.ref i2)/\(∃x y,IsPair h TO x y)/\h.IsListIter i1 a i/\h.IsListIter i2 b i):=by
 have apart:∀{h:Heap} {x y:Value} {xs ys:aK} {i:Nat},IsZip h z TI TO .none->IsPair h TI (.ref i1) (.ref i2)->IsPair h TO x y->h.IsListIter i1 a i->h.IsListIter i2 b i->h.IsList a xs->h.IsList b ys->ZipApart z TI TO i1 i2 a b:=by
  intro h x y xs ys i hz hI hO l1 l2 ha hb;obtain⟨o1,e1,c1,_⟩:=l1;obtain⟨o2,e2,c2,_⟩:=l2;obtain⟨oa,ea,ca,_⟩:=ha;obtain⟨ob,eb,cb,_⟩:=hb;exact⟨bA hI hz (by simp),bA hO hz (by simp),bA e1 hz (by rw[c1];simp),bA e2 hz (by rw[c2];simp),WO,bA hI e1 (by rw[c1];simp),bA hI e2 (by rw[c2];simp),bA hO e1 (by rw[c1];simp),bA hO e2 (by rw[c2];simp),Ei,
   bA ea hz (by rw[ca];simp),bA ea hO (by rw[ca];simp),bA ea e1 (by rw[ca,c1];simp),bA ea e2 (by rw[ca,c2];simp),bA eb hz (by rw[cb];simp),bA eb hO (by rw[cb];simp),bA eb e1 (by rw[cb,c1];simp),bA eb e2 (by rw[cb,c2];simp)⟩
 refine⟨by simp,λi h st c hc=>?_,λi h h' st k=>?_,?_,?_,λA i s Q E st hQ=>abC st.1 hQ⟩
 ·obtain⟨hz,hI,⟨x,y,hO⟩,⟨o1,e1,_,d1⟩,⟨o2,e2,_,d2⟩⟩:=st;simp only[List.mem_cons,List.not_mem_nil,or_false]at hc;rcases hc with rfl|rfl|rfl|rfl|rfl
  ·exact⟨_,hz,λv q=>by cases q⟩
  ·exact⟨_,hI,λv q=>by cases q⟩
  ·exact⟨_,hO,λv q=>by cases q⟩
  ·exact⟨o1,e1,λv q=>by rw[d1]at q;cases q⟩
  ·exact⟨o2,e2,λv q=>by rw[d2]at q;cases q⟩
 ·obtain⟨hz,hI,⟨x,y,hO⟩,l1,l2⟩:=st;exact⟨k z (by simp) _ hz,k TI (by simp) _ hI,⟨x,y,k TO (by simp) _ hO⟩,l1.at λo e=>k i1 (by simp) o e,l2.at λo e=>k i2 (by simp) o e⟩
 ·intro X hP hw hK hc i pins s σ H E I hf st hg;subst hP hw hK;obtain⟨xs,ys,x,y,q1,q2,ex,ey⟩:=hg;obtain⟨hz,hI,⟨x0,y0,hO⟩,l1,l2⟩:=st;obtain⟨aI,rv,p,_⟩:=I.list q1;obtain⟨its',wz,p',_⟩:=I.list q2;obtain⟨u,hu,ru⟩:=rv.get ex;obtain⟨u',zk,U_⟩:=wz.get ey;have D:=apart hz hI hO l1 l2 p.isList p'.isList;refine wpAny_pyNext_zip_item D hz hI hO l1 l2 p.isList p'.isList (x:=u) (y:=u') (by simpa using hu) (by simpa using zk) λh1 z1 o1 a1 b1 t1 SQ k1=>⟨_,rfl,?_⟩
  refine wpAny_letOwnedTupleGo_zip z1 λh2 z2 Al=>?_;have Um:s.heap.objs.size≠z:=aav (aah hz);have kk:∀c o,c∉[z,TI,TO,i1,i2]->s.heap.get? c=some o->h2.get? c=some o:=λc o hc e=>by
   simp only[List.mem_cons,List.not_mem_nil,or_false,not_or]at hc;exact Al.extBut c o hc.1 (k1 c o hc.1 hc.2.2.1 hc.2.2.2.1 hc.2.2.2.2 e)
  have hT:h2.get? s.heap.objs.size=some { cls:=.type "tuple",data:=.seq #[u,u'] }:=Al.extBut _ _ Um t1;have hn:H s.heap.objs.size=none:=I.cV.fresh (aal _);refine⟨.ref s.heap.objs.size,upd H s.heap.objs.size (.tup [x,y]),yj (s:=s) (h':=h2) (t':=s.toks) I hf kk (aal _) (rS ru U_ hT),rfl,⟨_,x,y,λzs hz=>by rw[I.iX hz q1];exact ex,λzs hz=>by rw[I.iX hz q2];exact ey,hn,rfl,rfl⟩,⟨z2,Al.extBut _ _ D.TIz (k1 _ _ D.TIz D.TITO D.TIi1 D.TIi2 hI),⟨_,_,Al.extBut _ _ D.TOz o1⟩,a1.extBut Al.extBut D.i1z,b1.extBut Al.extBut D.i2z⟩,λc hc=>?_⟩;rw[aY]
  ·exact(hf c hc).1
  ·intro z;subst z;simp only[List.mem_cons,List.not_mem_nil,or_false]at hc;rcases hc with e|e|e|e|e
   ·exact absurd (aah hz) (by rw[<- e];exact aaw _)
   ·exact absurd (aah hI) (by rw[<- e];exact aaw _)
   ·exact absurd (aah hO) (by rw[<- e];exact aaw _)
   ·obtain⟨_,w,_⟩:=l1;exact absurd (aah w) (by rw[<- e];exact aaw _)
   ·obtain⟨_,w,_⟩:=l2;exact absurd (aah w) (by rw[<- e];exact aaw _)
 ·intro X hP hw hK hc i pins s σ H E I hf st hg;subst hP hw hK;obtain⟨xs,ys,q1,q2,hl⟩:=hg;obtain⟨hz,hI,⟨x0,y0,hO⟩,l1,l2⟩:=st;obtain⟨aI,rv,p,_⟩:=I.list q1;obtain⟨its',wz,p',_⟩:=I.list q2;have e1:=rv.length;have e2:=wz.length;refine wpAny_pyNext_zip_end (I.ok.hd hc) (apart hz hI hO l1 l2 p.isList p'.isList) hz hI hO l1 l2 p.isList p'.isList (by simp;left) λh1 k1=>⟨rfl,yi (t':=s.toks) I hf λc o hc e=>?_⟩
  simp only[List.mem_cons,List.not_mem_nil,or_false,not_or]at hc;exact k1 c o hc.1 hc.2.2.1 hc.2.2.2.1 hc.2.2.2.2 e
variable {ta:TA}
theorem K6{tp p:Pos}(hg:Gl X "zip")(hm:X.mg "zip" = none)(ha:PA X [e1,e2] ta)(hs:∀es,starEach (e1::es) X.env=(false,eval e1 X.env)::starEach es X.env)(Jt:∀es,starEach (e2::es) X.env=(false,eval e2 X.env)::starEach es X.env):
  PI X (.Tuple elts n1 tp) (.Call (.Name "zip" p) [e1,e2] [] pos) (λσ H R=>ta σ H λvs H1=>∃a b,vs=[.ref a,.ref b]/\(∃xs,dg X.K H1 a xs)/\(∃ys,dg X.K H1 b ys)/\R (XR X.K a b) H1):=by
 intro pins s σ H R I h;refine Call_ (fJ I hg hm boot_zip (aaB (de (ha pos pins s σ H _ I h) λus s1 bR=>?_) (hs _) (by rw[Jt];rfl)));obtain⟨vs,H1,I1,r1,q1⟩:=bR;obtain⟨a,b,e,⟨xs,q1⟩,⟨ys,q2⟩,q⟩:=q1;subst e;obtain⟨u,v,rfl,ru,rv⟩:=vals2 r1;cases ru;cases rv;obtain⟨aI,_,p1,_⟩:=I1.list q1;obtain⟨its',_,p2,_⟩:=I1.list q2;refine call_zip_2 p1.isList p2.isList λh' z t o l1 l2 sz k=>abC z ?_;refine⟨s1.heap.objs.size+4,[s1.heap.objs.size+4,s1.heap.objs.size+2,s1.heap.objs.size+3,s1.heap.objs.size,s1.heap.objs.size+1],_,_,H1,rfl,I1.kept (t':=s1.toks) k,BV (aan (aa5 _)) (aan (aa5 _)),⟨z,t,⟨_,_,o⟩,l1,l2⟩,λb hb=>?_,q⟩;have qm:s1.heap.objs.size<=b:=by
  simp only[List.mem_cons,List.not_mem_nil,or_false]at hb;rcases hb with rfl|rfl|rfl|rfl|rfl<;>first|exact acB .. |exact aal _
 exact I1.Eo qm (I1.cV.fresh qm)
def gj(sc:Scope)(bl:au)(e:Expr):Option (aw):=match fc e with
 |some z=>match two z.2 with
  |some _=>if z.1=("zip" : Str)/\i6 sc z.1=true/\z.1∈bl then some z.2 else none
  |none=>none
 |none=>none
theorem l8{sc:Scope}{bl:au}{e:Expr}(h:gj sc bl e=some args):∃p pos a b,e=.Call (.Name ("zip" : Str) p) [a,b] [] pos/\args=[a,b]/\i6 sc ("zip" : Str)=true/\("zip" : Str)∈bl:=by
 unfold gj at h;cases hv:fc e with
 |none=>rw[hv]at h;exact nk h
 |some z =>
  obtain⟨x,as⟩:=z;rw[hv]at h;obtain⟨p,pos,rfl⟩:=dq hv;have h:(match two as with|some _=>if x=("zip" : Str)/\i6 sc x=true/\x∈bl then some as else none|none=>none)=some args:=h;cases hw:two as with
  |none=>rw[hw]at h;exact nk h
  |some w =>
   obtain⟨a,b⟩:=w;rw[hw]at h;have h:(if x=("zip" : Str)/\i6 sc x=true/\x∈bl then some as else none)=some args:=h;obtain rfl:=f_ hw;by_cases hc:x=("zip" : Str)/\i6 sc x=true/\x∈bl
   ·rw[if_pos hc]at h;cases h;obtain⟨rfl,h1,h2⟩:=hc;exact⟨_,_,_,_,rfl,rfl,h1,h2⟩
   ·rw[if_neg hc]at h;cases h
theorem iU{a b:Expr}(h:mL X F Φ cs [a,b]):(∃c d,cs=[c,d]/\PE X a (tD X F Φ c)/\PE X b (tD X F Φ d))/\PA X [a,b] (uy X F Φ cs)/\(∀es,starEach (a::es) X.env=(false,eval a X.env)::starEach es X.env)/\(∀es,starEach (b::es) X.env=(false,eval b X.env)::starEach es X.env):=by
 match cs,h with
 |[c,d],h =>
  obtain⟨h1,h2,_,h3,h4,_,_⟩:=h;exact⟨⟨c,d,rfl,h1,h3⟩,PA.imp (cO h1 (PA.imp (cO h3 (PA.imp eT λ_ _ _ h=>kD h) (h4 _)) λ_ _ _ h=>gC h) (h2 _)) λ_ _ _ h=>gC h,h2,h4⟩
 |[],h=>exact h.elim
 |[_],h=>exact h.2.2.2.elim
 |_::_::_::_,h=>exact h.2.2.2.2.2.2.elim
theorem Rep.SJ{k:bg}{v:V}{d:D}(e:aJ H H')(h:Rep (aU K H) (nd K R (λ_=>False) (λ_=>none) H) k v d):Rep (aU K H') (nd K R (λ_=>False) (λ_=>none) H') k' v d :=
 (Rep.sE h (k':=k')).imp (λ_ _ h=>aU.same e h) λ_ _ _ _ h=>nd.same e h
variable {g:Fl}
theorem FP{p q:Addr}{f:Fl}{a b:ab}:NH K (XR K p q) H2 [.ref p,.ref q] [.lst f a,.lst g b] (aA aW (List.zipWith (λx y=>.tup [x,y]) a b)):=by
 have len:(aA aW (List.zipWith (λx y=>D.tup [x,y]) a b)).length=min a.length b.length:=by rw[aQ];simp
 have two:∀{H':Hp} {R':aj},aB (aU K H') (nd K R' (λ_=>False) (λ_=>none) H') [] 0 [.ref p,.ref q] (aA aW [.lst f a,.lst g b]) ->
   ∃xs ys,dg K H' p xs/\dg K H' q ys/\aB (aU K H') (nd K R' (λ_=>False) (λ_=>none) H') [0] 0 xs (aA aW a)/\aB (aU K H') (nd K R' (λ_=>False) (λ_=>none) H') [1] 0 ys (aA aW b):=by
  intro H' R' h;rw[aA,aS,aA,aS,aA]at h;cases h with
  |cons h t=>cases t with
   |cons h' t=>cases h with
    |lst h r=>cases h' with
     |lst h' r'=>exact⟨_,_,h.sq,h'.sq,r,r'⟩
 refine⟨λi H' R' _ h hi=>?_,λi H' R' x m_ _ h hi hy=>?_,λi H' R' _ h hi=>?_⟩
 ·obtain⟨xs,ys,h1,h2,r1,r2⟩:=two h;rw[len]at hi;have l1:=r1.length;have l2:=r2.length;rw[aQ,List.length_map]at l1 l2;exact⟨xs,ys,xs[i]'(by left),ys[i]'(by left),h1,h2,aar _,aar _⟩
 ·obtain⟨xs,ys,h1,h2,r1,r2⟩:=two h;obtain⟨T,u,v,g1,g2,hn,rfl,rfl⟩:=hy;obtain⟨d1,e1,p1⟩:=r1.vJ (g1 xs h1);obtain⟨d2,e2,p2⟩:=r2.vJ (g2 ys h2);have es:aJ H' (upd H' T (.tup [u,v])):=aJ.upd hn;refine⟨es,.tup [d1,d2],?_,.tup (aU.of aX) (.cons (p1.SJ es) (.cons (p2.SJ es) .nil))⟩;rw[aQ,List.getElem?_map]at e1 e2 ⊢;obtain⟨c1,q1,rfl⟩:=Option.map_eq_some_iff.mp e1;obtain⟨c2,q2,rfl⟩:=Option.map_eq_some_iff.mp e2;rw[List.getElem?_zipWith,q1,q2];simp[aS,aA]
 ·obtain⟨xs,ys,h1,h2,r1,r2⟩:=two h;rw[len]at hi;have l1:=r1.length;have l2:=r2.length;rw[aQ,List.length_map]at l1 l2;exact⟨xs,ys,h1,h2,by left⟩
theorem JZ{n:Nat}(hΦ:Φ n=p5){sc:Scope}{bl:au}{k:Nat}(L:PX X sc bl k){e:Expr}(he:gj sc bl e=some args)(ht:gX tg=true)(hs:mL X F Φ cs args)
  {pins:ak} {s:Shared} {xs:ab} {d:D} (I:Inv X pins σ H s) (Si:SI X F R τ ρ σ H) (cF:b9 Φ cs ρ=ok xs) (ed:Φ n xs=ok d) (ei:kH d=ok items) (Rr:It->Hp->Prop)
  (hR:∀J H2 vs,aJ H H2->cx X.K (gP X F) R τ (cW cs) H H2 vs xs->NH X.K J H2 vs xs items->Rr J H2) :
  wpAny (model X.prog X.w) X.A (eval e X.env) (λv s1=>wpAny (model X.prog X.w) X.A (pyIter v) (Fh X pins σ tg Rr) X.xe s1) X.xe s:=by
 obtain⟨p,pos,a,b,rfl,rfl,h1,h2⟩:=l8 he;cases tg<;>try (cases ht;done)
 obtain⟨_,pa,s1,s2⟩:=iU hs;refine K6 (L.gl h1) (L.bl _ h2) pa s1 s2 pins s σ H Rr I ⟨R,τ,ρ,xs,Si,cF,λvs H1 e1 rv=>?_⟩;have U7:=rv;obtain⟨τt,fr,rs⟩:=rv;rw[hΦ]at ed;unfold p5 at ed;split at ed
 ·cases ed;cases ei;obtain⟨v,w,rfl,rx,ry⟩:=rs.two;cases rx with
  |lst hx _=>cases ry with
   |lst hy _=>exact⟨_,_,rfl,⟨_,hx.sq⟩,⟨_,hy.sq⟩,hR _ H1 _ e1 U7 FP⟩
 ·cases ed
def qX(xs:ab):O D:=match xs with
 |[]=>none
 |x::xs=>match x with
  |.int a=>match xs with
   |[]=>none
   |y::ys=>match y with
    |.int b=>match ys with
     |[]=>if eN a b then ok (.int (a*b))else none
     |_::_=>none
    |_=>none
  |_=>none
theorem vD{x y d:D}(h:qX [x,y]=ok d):∃a b,x=.int a/\y=.int b/\eN a b=true/\d=.int (a*b):=by
 cases x<;>first|exact nk h | (cases h;done) | (cases y<;>first|exact nk h | (cases h;done)|skip)
 obtain⟨h1,h2⟩:=o7 h;exact⟨_,_,rfl,rfl,h1,h2.symm⟩
def nI(_:Scope)(_:au)(st:Stmt):Option (Expr×aw):=match F4 st with
 |some z=>if z.2.1=.Mult then some (z.1,[z.2.2])else none
 |none=>none
theorem xU{sc:Scope}{bl:au}(h:nI sc bl st=some (o,args)):∃v pos,st=.AugAssign o .Mult v pos/\args=[v]:=by
 unfold nI at h;cases hv:F4 st with
 |none=>rw[hv]at h;exact nk h
 |some z =>
  obtain⟨o',p,v⟩:=z;rw[hv]at h;obtain⟨pos,rfl⟩:=yf hv;replace h:(if p=.Mult then some (o',[v])else none)=some (o,args):=h;by_cases hp:p=.Mult
  ·rw[if_pos hp]at h;subst hp;cases h;exact⟨v,pos,rfl,rfl⟩
  ·rw[if_neg hp]at h;cases h
theorem L6:SA X .Mult (λx y H Q=>∃i j,x=.int i/\y=.int j/\eN i j=true/\Q (.int (i*j)) H):=by
 intro pins s σ H x y v u Q I r1 r2 h;obtain⟨i,j,e1,e2,hc,q⟩:=h;subst e1;subst e2;obtain⟨t,rfl⟩:=r1;obtain⟨t',rfl⟩:=r2;exact imul_int ⟨.int _,H,I.tok _,⟨_,rfl⟩,q⟩ (vj hc)
theorem Hr{n:Nat}(hΦ:Φ n=qX){sc:Scope}{bl:au}{k:Nat}(L:PX X sc bl k)(hN:X.N.Nodup)(t_:∀x,X.fn x=true){x:Str}(he:nI sc bl st=some (.Name x pos,args))
  {i:Nat} (hi:X.N[i]?=some x) (hl:L2.Loc X.env.scope x) (pe:PE X (.Name x pos) (ux i)) (hs:mL X F Φ cs args):PS X st (lN X F Φ (.mut n i cs)):=by
 obtain⟨v,pos',rfl,rfl⟩:=xU he;cases cs with
 |nil=>exact hs.elim
 |cons c cs=>cases cs with
  |cons _ _=>exact hs.2.2.2.elim
  |nil =>
   refine PS.imp (CJ hN hi hl hs.1 L6 (.inl (t_ _))) λD σ H hq=>?_;obtain⟨R,τ,ρ,r,Si,ev,hq⟩:=hq;obtain⟨xs,cF,ev⟩:=aG ev;obtain⟨y,ey,cF⟩:=aG cF;cases cF;have key:∃a b,y=.int b/\ρ[i]?=some (some (.int a))/\eN a b=true/\r=(.nx,ρ.set i (some (.int (a*b)))):=by
    have ev:oI Φ n i (iY [c] [y] ρ)=ok r:=ev;unfold oI at ev;split at ev
    ·rename_i d0 ho;obtain⟨d',h1,h2⟩:=aG ev;rw[hΦ]at h1;unfold iY at h1 ho h2;split at h1
     ·rename_i ha;obtain⟨a,b,e1,e2,_,_⟩:=vD (y:=aS aW y) h1;cases y<;>first | (cases e2;done) | (cases ha;done)
     ·rename_i ha;obtain⟨a,b,rfl,rfl,hm,rfl⟩:=vD h1;rw[if_neg ha]at ho;rw[if_neg ha]at h2;cases h2;exact⟨a,b,rfl,ho,hm,rfl⟩
    ·cases ev
   obtain⟨a,b,rfl,ho,hm,rfl⟩:=key;obtain⟨w,hw,jH⟩:=Si.rep i _ ho;cases jH;have o9:i<ρ.length:=by
    by_cases z:i<ρ.length
    ·exact z
    ·rw[List.getElem?_eq_none (by left)]at ho;cases ho
   refine⟨_,hw,tD.intro Si ey λu H1 e1 ru=>?_⟩;cases ru.isInt;refine⟨_,_,rfl,rfl,hm,?_⟩;obtain⟨τ1,wj⟩:=(Si.go e1).set (i:=i) (v:=.int (a*b)) (d:=.int (a*b)) ⟨λ_=>none,λ_ _ h=>by simp at h,.int _⟩ o9;exact hq _ H1 R τ1 wj (Kp.of e1 λ_ h=>h)
noncomputable def qj(ns:aa):Int:=ns.getD (argBest (λi j=>decide (ns.getD i 0<ns.getD j 0)) (ns.length - 1)) 0
section
variable {X:Cx}
theorem Bh(hc:X.calm=true):fS X (.builtin "min") (λxs H Q=>∃(p:Addr) (ns:aa),xs=[.ref p]/\dg X.K H p (ns.map V.int)/\0<ns.length/\Q (.int (qj ns)) H):=by
 intro pins s σ H xs us Q I r h;obtain⟨p,ns,rfl,hq,Bu,q⟩:=h;obtain⟨u,rfl,ru⟩:=r.one;cases ru;obtain⟨aI,rv,pl,hz⟩:=I.list hq;have hlen:aI.length=ns.length:=by have:=rv.length;simpa using this.symm
 have at_:∀(i:Nat) (v:Value),aI[i]?=some v->∃t,v=.int (ns.getD i 0) t:=λi v hv=>by
  have hi:i<aI.length:=by
   by_cases z:i<aI.length
   ·exact z
   ·rw[List.getElem?_eq_none (by left)]at hv;cases hv
  have hn:(ns.map V.int)[i]?=some (.int (ns.getD i 0)):=by
   rw[List.getElem?_map,List.getElem?_eq_getElem (by left)];simp[List.getD,show i<ns.length by left]
  obtain⟨u,hu,ru⟩:=rv.get hn;rw[hv]at hu;cases hu;exact ru
 refine call_min_walk (oX (du pl) λs₂ e st D_ QZ=>?_);subst e;refine⟨_,_,_,_,_,_,_,rfl,Walks.list (A:=X.A.in1) (I.ok.hd hc) _ p QZ aI.toArray,st,D_,by simp;left,CmpOf.ints_lt (λi=>ns.getD i 0) (λi v hP=>at_ i v (by simpa using hP)),λv h' tk hP hk=>?_⟩;obtain⟨t,rfl⟩:=at_ _ v (by simpa using hP);refine⟨.int (qj ns),H,I.kept (t':=tk) (oW hk),⟨t,?_⟩,q⟩;rw[hlen];rfl
end
def minD(xs:ab):O D:=match xs with
 |[]=>none
 |x::xs=>match xs with
  |[]=>match x with
   |.lst _ ds=>match intsOf ds with
    |some ns=>if 0<ns.length then ok (.int (qj ns))else none
    |none=>none
   |_=>none
  |_::_=>none
theorem minD_eq{xs:ab}{d:D}(h:minD xs=ok d):∃(f:Fl) (ns:aa),xs=[.lst f (ns.map D.int)]/\0<ns.length/\d=.int (qj ns):=by
 cases xs with
 |nil=>cases h
 |cons x t=>cases t with
  |cons _ _=>cases h
  |nil =>
   cases x<;>first|exact nk h | (cases h;done)|skip
   rename_i f ds;have h:(match intsOf ds with|some ns=>if 0<ns.length then ok (D.int (qj ns))else none|none=>none)=ok d:=h;cases hn:intsOf ds with
   |none=>rw[hn]at h;exact nk h
   |some ns =>
    rw[hn]at h;obtain⟨h1,h2⟩:=o7 h;cases dP hn;exact⟨f,ns,rfl,h1,h2.symm⟩
def l9(f:Str)(sc:Scope)(bl:au)(e:Expr):Option (aw):=match fc e with
 |some z=>match one z.2 with
  |some _=>if z.1=f/\i6 sc z.1=true/\z.1∈bl then some z.2 else none
  |none=>none
 |none=>none
theorem rE{f:Str}{sc:Scope}{bl:au}{e:Expr}(h:l9 f sc bl e=some args):∃p pos a,e=.Call (.Name f p) [a] [] pos/\args=[a]/\i6 sc f=true/\f∈bl:=by
 unfold l9 at h;cases hv:fc e with
 |none=>rw[hv]at h;exact nk h
 |some z =>
  obtain⟨x,as⟩:=z;rw[hv]at h;obtain⟨p,pos,rfl⟩:=dq hv;have h:(match one as with|some _=>if x=f/\i6 sc x=true/\x∈bl then some as else none|none=>none)=some args:=h;cases hw:one as with
  |none=>rw[hw]at h;exact nk h
  |some a =>
   rw[hw]at h;have h:(if x=f/\i6 sc x=true/\x∈bl then some as else none)=some args:=h;obtain rfl:=cS hw;by_cases hc:x=f/\i6 sc x=true/\x∈bl
   ·rw[if_pos hc]at h;cases h;obtain⟨rfl,h1,h2⟩:=hc;exact⟨_,_,_,rfl,rfl,h1,h2⟩
   ·rw[if_neg hc]at h;cases h
theorem LA{n:Nat}(hΦ:Φ n=minD){sc:Scope}{bl:au}{k:Nat}(L:PX X sc bl k){e:Expr}(he:l9 ("min" : Str) sc bl e=some args)(hs:mL X F Φ cs args):PE X e (tD X F Φ (.cz n cs))/\PT X e (gL X F Φ (.cz n cs)):=by
 obtain⟨p,pos,a,rfl,rfl,h1,h2⟩:=rE he;cases cs with
 |nil=>exact hs.elim
 |cons c cs=>cases cs with
  |cons _ _=>exact hs.2.2.2.elim
  |nil =>
   have pa:PA X [a] (uy X F Φ [c]):=PA.imp (cO hs.1 (PA.imp eT λ_ _ _ h=>kD h) (hs.2.1 _)) λ_ _ _ h=>gC h;have this:PE X (.Call (.Name ("min" : Str) p) [a] [] pos) (tD X F Φ (.cz n [c])):=by
    refine PE.imp (eM (Bh L.calm) (L.gl h1) (L.bl _ h2) PyProof.Rows.boot_min pa (he:=hs.2.1 _)) λσ H Q hq=>?_;obtain⟨R,τ,ρ,d,Si,ev,hq⟩:=hq;obtain⟨xs,cF,ev⟩:=aG ev;rw[hΦ]at ev;obtain⟨f,ns,rfl,hl,rfl⟩:=minD_eq ev;refine⟨R,τ,ρ,_,Si,cF,λvs H1 e1 r1=>?_⟩;obtain⟨τt,fr,rs⟩:=r1;obtain⟨v,rfl,rv⟩:=rs.one;cases rv with
    |lst h r=>cases r.ofInts;exact⟨_,ns,rfl,h.sq,hl,hq _ H1 e1 .int⟩
   exact⟨this,cG this λ_=>rfl⟩
section
variable {prog:aF}{w:World}{A:aE}{E:az}{s:Shared}
def tP(h:Heap)(vs:ao)(nss:af):Prop:=vs.length=nss.length/\∀(i:Nat) (ns:aa),nss[i]?=some ns->∃t aI,vs[i]?=some (.ref t)/\IsTup h t aI.toArray/\IntsAre aI ns/\ns≠[]
theorem vq{fin:Bool}{Q:Bool->Shared->Prop}:∀{aI Hi:ao} {ns ms:aa} (i:Nat),IntsAre aI ns->IntsAre Hi ms->fin=decide (aI.length<Hi.length)->Q (HT.lexLt ns ms) s->PySem.W.KatLex prog w A true fin Q (aI.zip Hi) i s
 |_,_,_,_,i,.nil,.nil,hf,h=>by subst hf;exact h
 |_,_,_,_,i,.nil,.cons _ _ _,hf,h=>by subst hf;exact h
 |_,_,_,_,i,.cons _ _ _,.nil,hf,h=>by subst hf;exact h
 |_,_,_,_,i,.cons (ns:=ns) a t h1,.cons (ns:=ms) b u h2,hf,h=>by
  rw[HT.dH]at h;refine PySem.W.kat_cons (wpAny_eqBool_int (PySem.W.kat_go (λe=>?_) λe=>?_))
  ·have e:a=b:=by simpa using e
   rw[if_pos e]at h;exact PySem.W.kat_yes (vq (i+1) h1 h2 (by rw[hf];simp) h)
  ·have e:¬ a=b:=by simpa using e
   rw[if_neg e]at h;refine PySem.W.kat_no ?_;rw[Bool.true_and];cases i==0 with
   |true=>exact oneLt_int h
   |false=>exact PySem.W.kat_one _ _ (lt_int h)
def Cu:af->Bool
 |[]=>true
 |a::r=>(match r with
  |[]=>true
  |b::_=>!HT.lexLt b a)&&Cu r
theorem tP.mono{h:Heap}{vs:ao}{nss:af}(k:∀b o,h.get? b=some o->h'.get? b=some o)(t:tP h vs nss):tP h' vs nss :=
 ⟨t.1,λi ns e=>let ⟨a,aI,e1,⟨o,ho,r⟩,e3⟩:=t.2 i ns e;⟨a,aI,e1,⟨o,k _ _ ho,r⟩,e3⟩⟩
end
noncomputable def bK(ns:aa):D:=.tup (ns.map D.int)
theorem aB.Su{T:kj}{N:iJ}{q:bg}:∀{n:Nat} {vs ws:ae} {ds es:ab},aB T N q n vs ds->aB T N q (n+ds.length) ws es->aB T N q n (vs++ws) (ds++es)
 |_,_,_,_,_,.nil,h=>h
 |n,_,_,_,_,.cons (ds:=ds) h t,h'=>.cons h (aB.Su t (by
   rw[List.length_cons,Nat.add_comm ds.length 1,<- Nat.add_assoc]at h';exact h'))
theorem jm{p a:Addr}{ys:ae}{o:HO}(hp:H p=some (.lst xs))(h:aU K H a ys):aU K (upd H p o) a ys:=by
 rcases h with (h|⟨o',h⟩)|h
 ·exact .inl (.inl (by rw[aY (λz=>by subst z;rw[hp]at h;cases h)];exact h))
 ·exact .inl (.inr ⟨o',by rw[aY (λz=>by subst z;rw[hp]at h;cases h)];exact h⟩)
 ·exact .inr h
theorem yW{n i:Nat}{xs:ab}{r:Fo×bc}(ev:oI Φ n i (iY cs xs ρ)=ok r)(ha:aM bF xs=false):∃d d',ρ[i]?=some (some d)/\Φ n (d::xs)=ok d'/\r=(.nx,ρ.set i (some d')):=by
 unfold iY at ev;rw[if_neg (by rw[ha];exact Bool.false_ne_true)]at ev;unfold oI at ev;split at ev
 ·rename_i d hd;obtain⟨d',h1,h2⟩:=aG ev;cases h2;exact⟨d,d',hd,h1,rfl⟩
 ·cases ev
theorem Dq{n i:Nat}{xs:ab}{r:Fo×bc}(ev:oI Φ n i (iY cs xs ρ)=ok r)(ha:aM bF xs=true):∃d d',Φ n (d::aA aW xs)=ok d':=by
 unfold iY at ev;rw[if_pos ha]at ev;unfold oI at ev;split at ev
 ·rename_i d hd;obtain⟨d',h1,h2⟩:=aG ev;exact⟨d,d',h1⟩
 ·cases ev
def C5:D->Option (ab)
 |.lst f ds=>if cK f then some ds else none
 |_=>none
theorem xk{d:D}(h:C5 d=some ds):d=.lst .ow ds:=by
 cases d<;>first|exact nk h | (cases h;done)|skip
 rename_i f es;have h:(if cK f then some es else none)=some ds:=h;cases f<;>first | (cases h;rfl) | (cases h;done)
def A3(xs:ab):O D:=match two xs with
 |some z=>match C5 z.1 with
  |some ds=>match C5 z.2 with
   |some es=>if aM anyF es=false/\ds.length+es.length<=cP then ok (.lst .ow (ds++es))else none
   |none=>none
  |none=>none
 |none=>none
theorem zI{x y d:D}(h:A3 [x,y]=ok d):∃ds es,x=.lst .ow ds/\y=.lst .ow es/\aM anyF es=false/\ds.length+es.length<=cP/\d=.lst .ow (ds++es):=by
 have h:(match C5 x with|some ds=>(match C5 y with|some es=>if aM anyF es=false/\ds.length+es.length<=cP then ok (.lst .ow (ds++es))else none|none=>none)|none=>none)=ok d:=h;cases h1:C5 x with
 |none=>rw[h1]at h;exact nk h
 |some ds=>cases h2:C5 y with
  |none=>rw[h1,h2]at h;cases h
  |some es =>
   rw[h1,h2]at h;obtain⟨⟨h3,h4⟩,h5⟩:=o7 h;exact⟨ds,es,xk h1,xk h2,h3,h4,h5.symm⟩
def mm(m:Str)(st:Stmt):Option (Expr×aw):=match OI st with
 |some c=>match lJ c with
  |some z=>match oe z.1 with
   |some y=>if y.2.1=m/\z.2.2.1=[]/\(y.2.2.endLine==z.2.2.2.line)=true then some (y.1,z.2.1)else none
   |none=>none
  |none=>none
 |none=>none
theorem n9{m:Str}{as:aw}(h:mm m st=some (o,as)):∃p1 p2 pos,st=.Expr (.Call (.Attribute o m p1) as [] p2) pos/\(p1.endLine==p2.line)=true:=by
 unfold mm at h;cases h1:OI st with
 |none=>rw[h1]at h;exact nk h
 |some c =>
  obtain⟨pos,rfl⟩:=wH h1;rw[h1]at h;cases h2:lJ c with
  |none=>simp only[h2]at h;cases h
  |some z =>
   obtain⟨f,Ub,ks,p2⟩:=z;obtain rfl:=lI h2;simp only[h2]at h;cases h3:oe f with
   |none=>simp only[h3]at h;cases h
   |some y =>
    obtain⟨o',a,p1⟩:=y;obtain rfl:=n_ h3;simp only[h3]at h;by_cases hc:a=m/\ks=[]/\(p1.endLine==p2.line)=true
    ·rw[if_pos hc]at h;cases h;obtain⟨rfl,rfl,hl⟩:=hc;exact⟨p1,p2,pos,rfl,hl⟩
    ·rw[if_neg hc]at h;cases h
def xV(_:Scope)(_:au)(st:Stmt):Option (Expr×aw):=match mm ("extend" : Str) st with
 |some z=>match one z.2 with
  |some _=>some z
  |none=>none
 |none=>none
theorem Nf{n:Nat}(hΦ:Φ n=A3){sc:Scope}{bl:au}{k:Nat}(L:PX X sc bl k)(hN:X.N.Nodup)(t_:∀x,X.fn x=true){x:Str}(he:xV sc bl st=some (.Name x pos,args))
  {i:Nat} (hi:X.N[i]?=some x) (hl:L2.Loc X.env.scope x) (pe:PE X (.Name x pos) (ux i)) (hs:mL X F Φ cs args):PS X st (lN X F Φ (.mut n i cs)):=by
 unfold xV at he;cases h1:mm ("extend" : Str) st with
 |none=>rw[h1]at he;exact nk he
 |some z =>
  rw[h1]at he;obtain⟨o,as⟩:=z;cases h2:one as with
  |none=>simp only[h2]at he;cases he
  |some v =>
   simp only[h2]at he;cases he;obtain rfl:=cS h2;obtain⟨p1,p2,pos',rfl,AO⟩:=n9 h1;cases cs with
   |nil=>exact hs.elim
   |cons c cs=>cases cs with
    |cons _ _=>exact hs.2.2.2.elim
    |nil =>
     refine PS.imp (nu (CZ abP PySem.F.slot_list_extend PySem.F.type_list_extend Ax pe (cO hs.1 eT (hs.2.1 _)) (hfew:=by rw[hs.2.1];rfl) (hline:=AO) (hs:=hs.2.1 _))) λD σ H hq=>?_;obtain⟨R,τ,ρ,r,Si,ev,hq⟩:=hq;obtain⟨xs,cF,ev⟩:=aG ev;obtain⟨y,ey,cF⟩:=aG cF;cases cF;have key:∃ds es,y=.lst .ow es/\ρ[i]?=some (some (.lst .ow ds))/\aM anyF es=false/\ds.length+es.length<=cP/\r=(.nx,ρ.set i (some (.lst .ow (ds++es)))):=by
      cases hz:aM bF [y]with
      |true =>
       obtain⟨d,d',h⟩:=Dq ev hz;rw[hΦ]at h;obtain⟨ds,es,_,h3,_⟩:=zI h;cases y<;>first|exact nk h3 | (cases h3;done)|skip
       rename_i f JK;cases f<;>cases h3
      |false =>
       obtain⟨d,d',h,h',rfl⟩:=yW ev hz;rw[hΦ]at h';obtain⟨ds,es,rfl,rfl,h3,h4,rfl⟩:=zI h';exact⟨ds,es,rfl,h,h3,h4,rfl⟩
     obtain⟨ds,es,rfl,ho,hf,hc,rfl⟩:=key;obtain⟨a,xs,hv,ha,hxl,Wd,_⟩:=Si.own ho;refine⟨.ref a,hv,.inl ⟨rfl,_,dg.of ha⟩,tD.intro Si ey λu H1 e1 ru=>?_⟩;have wj:=Si.go e1;obtain⟨a1,IF,Mb,Jy,V8,DW,KH⟩:=wj.own ho;rw[hv]at Mb;cases Mb;obtain⟨τt,fr,rp⟩:=ru;obtain⟨b,zs,rfl,hb,rz⟩:=rp.rM;have hz:sizeLine=16777216:=aa6;have mY:cP=1000000:=rfl;have hzl:=rz.length;refine⟨a,b,IF,zs,rfl,rfl,Jy,hb.1,by left,?_⟩;obtain⟨τ2,wg⟩:=wj.put (m:=0) (g:=λys=>ys++zs) (v:=.int 0) (d:=.int 0) ho hv Jy DW KH ⟨λ_=>none,λ_ _ h=>by simp at h,.int 0⟩ λrs _=>aB.Su rs (rz.without (P:=anyF) (λ_ _ h=>jm Jy h) (λ_ _ _ _ _ h=>by cases h) hf _ _);exact hq σ _ R τ2 wg (oU (n:=.l _) wj e1 (λ_ h=>h) Jy DW)
noncomputable def qA(J:Nat)(d:D):Nat->ab->ab
 |_,[]=>[]
 |n,x::xs=>(if n=J then d else x)::qA J d (n+1) xs
theorem aB.qA{T T':kj}{N N':iJ}{q:bg}{J:Nat}{d:D}(hT:∀p xs,T p xs->T' p xs)(hN:∀c m p xs f,m≠J->N (c++(m::q)) p xs f->N' (c++(m::q)) p xs f):∀{n:Nat} {vs:ae} {ds:ab},aB T N q n vs ds->(∀k v,vs[k]?=some v->n+k=J->Rep T' N' (J::q) v d)->aB T' N' q n vs (DI.qA J d n ds)
 |_,_,_,.nil,_=>.nil
 |n,_,_,.cons (d:=x) h t,hj=>by
  refine .cons ?_ (aB.qA hT hN t λk v e z=>hj (k+1) v e (by left));by_cases hn:n=J
  ·rw[if_pos hn];subst hn;exact hj 0 _ rfl rfl
  ·rw[if_neg hn];exact h.imp (q:=n::q) (q':=n::q) hT λc p xs f h=>hN c n p xs f hn h
section
variable {X:Cx}{F R:aj}{τ:Addr->Option bg}{ρ:bc}{σ:St}{H:Hp}
theorem SI.Tq{p a:Addr}{q q0:bg}{n:Nd}{f:Fl}{o:HO}(Si:SI X F R τ ρ σ H)(hp:H p=some (.lst xs))(ht:τ p=some q0)(hq:q≠q0)(h:nd X.K R (λ_=>False) τ H q a n f):nd X.K R (λ_=>False) τ (upd H p o) q a n f:=by
 have low:∀{a:Addr} {z:Nd},a≠p->eB H a z->eB (upd H p o) a z:=λne h=>h.at λu e=>by rw[aY ne];exact e
 cases f with
 |ow=>exact⟨low (λz=>by subst z;exact hq (aat (h.2.symm.trans ht))) h.1,h.2⟩
 |fz=>exact⟨low (λz=>by subst z;rw[Si.rt _ h.2]at ht;cases ht) h.1,h.2⟩
 |al=>exact h.2.elim
 |sc =>
  obtain⟨ys,rfl,h⟩:=h.Cm;exact h.elim (λ⟨o',w⟩=>.inl ⟨o',by rw[aY (λz=>by subst z;rw[hp]at w;cases w)];exact w⟩) .inr
theorem SI.clr{i j:Nat}{d1:D}{p:Addr}{ys:ae}(Si:SI X F R τ ρ σ H)(hi:ρ[i]?=some (some d0))(hp:H p=some (.lst xs))(ht:τ p=some [j,i])
  {v:V} (hv:σ[i]?=some (some v)) (hb:Rep (aU X.K (upd H p (.lst ys))) (nd X.K R (λ_=>False) τ (upd H p (.lst ys))) [i] v d1):SI X F R τ (ρ.set i (some d1)) σ (upd H p (.lst ys)):=by
 have Od:i<ρ.length:=by
  by_cases z:i<ρ.length
  ·exact z
  ·rw[List.getElem?_eq_none (by left)]at hi;cases hi
 have there:∀a,H a≠none->upd H p (.lst ys) a≠none:=λa h=>by
  by_cases z:a=p
  ·rw[z,aX];simp
  ·rw[aY z];exact h
 refine⟨by simp[Si.len],λm d hm=>?_,Si.rt,λa ha=>there a (Si.rh a ha),Si.rf,λa q e=>there a (Si.th a q e),Si.t0,λa u e=>?_⟩
 ·by_cases z:m=i
  ·subst z;rw[List.getElem?_set_self Od]at hm;cases hm;exact⟨v,hv,hb⟩
  ·rw[List.getElem?_set_ne (Ne.symm z)]at hm;obtain⟨v,h1,h2⟩:=Si.rep m d hm;refine⟨v,h1,h2.imp (q:=[m]) (q':=[m]) (λ_ _ h=>jm hp h) λc a n f h=>Si.Tq hp ht (λe=>?_) h⟩;have:=aa2 List.getLast? e;simp at this;exact z this
 ·rw[aY (λz=>by subst z;rw[Si.t0 _ _ ht]at e;cases e)];exact Si.same a u e
end
variable {ys:aK}
section
variable {prog:aF}{w:World}{A:aE}{E:az}{s:Shared}
theorem um{l:Addr}:∀{s:Shared} {i:Nat} {Q E:az},s.heap.IsTupleIter it l i->(∀o,s.heap.get? it=some o->o.cls=.type "tuple_iterator" -> o.data=.fields #[.ref l,.int i 0]->wpAny (model prog w) A.in1 (Builtin.«tuple_iterator.__next__» ⟨[.ref it],[]⟩) (λfin s'=>∃v,fin=.done (.ret v)/\Q v s') E s)->wpAny (model prog w) A (Builtin.SmallTypes.nextOf (.ref it)) Q E s:=by
 intro s i Q E hit h;obtain⟨o,ho,hc,hd⟩:=id hit;unfold Builtin.SmallTypes.nextOf;exact aaa (aaO (name:=Str.ofString "__next__") hit.typeIs F.slot_tuple_iterator_next (aaE F.slot_tuple_iterator_next hit.typeIs F.entry_tuple_iterator_next (aay (h o ho hc hd) (λfin s' ⟨v,e,q⟩=>⟨v,e,aac q⟩) λ_ _ e=>e) (F.args_tuple_iterator_next_1 _)))
def Ends(prog:aF)(w:World)(A:aE)(it:Addr)(S:Heap->Prop):Prop:=∀(s:Shared) (Q E:az),S s.heap->(∀h' e,Heap.ExtBut it s.heap h'->(∃o,h'.get? e=some o/\o.cls=.type "StopIteration")->E (.ref e) { s with heap:=h' })->wpAny (model prog w) A (Builtin.SmallTypes.nextOf (.ref it)) Q E s
theorem qE(hh:A.handled=none){l:Addr}{items:aK}{i:Nat}(hi:items[i]?=none):Ends prog w A it (λh=>h.IsTupleIter it l i/\h.IsTuple l items):=by
 intro s Q E st hE;refine um st.1 λo ho hc hd=>?_;obtain⟨ol,Wl,_,nl,TH⟩:=id st.2;show wpAny _ _ (field (.ref it) 0 >>= _) _ _ _;refine aaa (aaC ho hd (x:=.ref l) rfl ?_);rw[if_neg (show ¬ (Value.ref l==Value.none)=true from Bool.false_ne_true)];refine aaa (aaC ho hd (x:=.int i 0) rfl (aaa (aaM Wl TH ?_)));simp only[Int.toNat_natCast,hi];refine aaa (abg (aaa (acg ho hd (by simp) ?_)));show wpAny _ _ (newExc (.type "StopIteration") [] >>= _) _ _ _;refine aaa ?_;simp only[newExc,newTuple];refine aaa (aa8 (aaa (m:=firstArgMember _ _) (wpAny_of_eq (a:=Value.none) (by first|rfl | (simp only[firstArgMember];rfl)) (aa8 ?_ (by size_fits)))) (by size_fits));simp only[raiseNew];refine aaa (wpAny_handled ?_);rw[show A.in1.in1.handled=none from hh];exact aaa (aac (wpAny_throw (hE _ _ (((aaX ..).extBut.push _).push _) ⟨_,aap _ rfl,rfl⟩)))
theorem mG(hh:A.handled=none)(it l:Addr)(Bu:l≠it)(items:aK):Draws prog w A it [it,l] items.size (λi v=>items[i]?=some v) (λi h=>h.IsTupleIter it l i/\h.IsTuple l items):=by
 refine⟨λ_ _ st=>let ⟨o,ho,_⟩:=st.1;⟨o,ho⟩,λ_ _ _ st hk=>?_,λi s Q E hi st hQ=>?_,λs Q E st hE=>?_⟩
 ·obtain⟨⟨o,ho,r⟩,o',eO,r'⟩:=st;exact⟨⟨o,hk it (by simp) o ho,r⟩,o',hk l (by simp) o' eO,r'⟩
 ·refine um st.1 λo ho hc hd=>?_;obtain⟨ol,Wl,_,nl,TH⟩:=id st.2;show wpAny _ _ (field (.ref it) 0 >>= _) _ _ _;refine aaa (aaC ho hd (x:=.ref l) rfl ?_);rw[if_neg (show ¬ (Value.ref l==Value.none)=true from Bool.false_ne_true)];refine aaa (aaC ho hd (x:=.int i 0) rfl (aaa (aaM Wl TH ?_)));simp only[Int.toNat_natCast,show items[i]?=some items[i] by simp[hi]];refine aaa (acg ho hd (by simp) (aac ⟨_,rfl,hQ _ _ s.toks (by simp[hi]) ⟨?_,st.2.extBut (aaX ..).extBut Bu⟩ (aaX ..)⟩));exact⟨_,aaZ _ ho (Obj.isFreed_of_fields (Obj.data_mapFields hd _)),(Obj.cls_mapFields ..).trans hc,by rw[Obj.data_mapFields hd];simp[rawInt]⟩
 ·exact qE hh (by simp) s Q E st hE
structure x9(z TI TO i1 i2:Addr)(f1 f2:aO):Prop where
 n1:TI≠z/\TO≠z/\i1≠z/\i2≠z
 n2:TI≠TO/\TI≠i1/\TI≠i2/\TO≠i1/\TO≠i2/\i1≠i2
 f1:z∉f1/\TO∉f1/\i2∉f1
 f2:z∉f2/\TO∉f2/\i1∉f2
theorem eD{c:Addr}{n i:Nat}{P:Nat->Value->Prop}{St:Nat->Heap->Prop}{h:Heap}(D:Draws prog w A it fp n P St)(hs:Heap.SameBut c h h')(hc:c∉fp)(st:St i h):St i h':=D.frame i h h' st λb hb o e=>hs.extBut b o (λz=>hc (z▸hb)) e
section
variable {z TI TO i1 i2:Addr}{f1 f2:aO}{n1 n2 k:Nat}{P1 P2:Nat->Value->Prop}{S1 S2:Nat->Heap->Prop}{a b:Value}
theorem Aa{Q:az}(D1:Draws prog w A i1 f1 n1 P1 S1)(D2:Draws prog w A i2 f2 n2 P2 S2)(ap:x9 z TI TO i1 i2 f1 f2)(hz:IsZip s.heap z TI TO .none)(zp:IsPair s.heap TI (.ref i1) (.ref i2))(FD:IsPair s.heap TO a b)(IY:S1 k s.heap)(Ge:S2 k s.heap)(l1:k<n1)(l2:k<n2)
  (hQ:∀x y h' tk,P1 k x->P2 k y->IsZip h' z TI TO (rawInt s.heap.objs.size)->IsPair h' TO x y->S1 (k+1) h'->S2 (k+1) h'->IsPair h' s.heap.objs.size x y->(∀c o,c≠z->c≠TO->c≠i1->c≠i2->s.heap.get? c=some o->h'.get? c=some o)->Q (.ref s.heap.objs.size) { s with heap:=h',toks:=tk }) :
  wpAny (model prog w) A (Builtin.«zip.__next__» ⟨[.ref z],[]⟩) (λfin s'=>∃v,fin=.done (.ret v)/\Q v s') E s:=by
 obtain⟨⟨TIz,TOz,i1z,i2z⟩,⟨TITO,TIi1,TIi2,TOi1,TOi2,i12⟩,⟨zf1,TOf1,i2f1⟩,zf2,TOf2,i1f2⟩:=ap;show wpAny _ _ (field (.ref z) 2 >>= _) _ _ _;refine aaa (aaC hz rfl (x:=.bool false) rfl (aaa (aaC hz rfl (x:=.ref TI) rfl (aaa (aaM zp rfl ?_)))));show wpAny _ _ (Builtin.SmallTypes.ownedTupleIsFree (.ref z) >>= _) _ _ _;unfold Builtin.SmallTypes.ownedTupleIsFree;refine aaa (aaa (aaC hz rfl (x:=.none) rfl (aac ?_)));simp only[if_true];refine aaa (abg (aaa (aaC hz rfl (x:=.ref TO) rfl (aaa (abb hz (by simp) λg1 z1 e1=>aaa ?_)))));replace z1:IsZip g1 z TI TO .ellipsis:=z1;simp only[List.zipIdx_cons,List.zipIdx_nil,List.forIn_cons,List.forIn_nil];refine aaa (aaa (acs ?_));show wpAny _ _ (Builtin.SmallTypes.nextOf (.ref i1) >>= _) _ _ _;refine aaa (D1.item k _ _ _ l1 (eD D1 e1 zf1 IY) λx g2 tk p1 O5 e2=>aac ?_);have t2:IsPair g2 TO a b:=e2.extBut _ _ TOi1 (e1.extBut _ _ TOz FD);refine aaa (aaM t2 rfl (aaa (ab8 t2 λg3 t3 e3=>aaa (wpAny_letGo (aac (aaa (aaa (acs ?_))))))));replace t3:IsPair g3 TO x b:=t3;show wpAny _ _ (Builtin.SmallTypes.nextOf (.ref i2) >>= _) _ _ _;refine aaa (D2.item k _ _ _ l2 (eD D2 e3 TOf2 (eD D2 e2 i1f2 (eD D2 e1 zf2 Ge))) λy g4 Uy p2 UU e4=>aac ?_);have t4:IsPair g4 TO x b:=e4.extBut _ _ TOi2 t3;refine aaa (aaM t4 rfl (aaa (ab8 t4 λg5 t5 e5=>aaa (wpAny_letGo (aac (aac ?_))))));replace t5:IsPair g5 TO x y:=t5;refine aaa (aaM t5 rfl (aaa (wpAny_newTuple ?_)));have sz:g5.objs.size=s.heap.objs.size:=by rw[e5.1,e4.1,e3.1,e2.1,e1.1]
 have kp:∀c o,c≠z->c≠TO->c≠i1->c≠i2->s.heap.get? c=some o->g5.get? c=some o:=λc o c1 c2 c3 c4 e=>e5.extBut _ _ c2 (e4.extBut _ _ c4 (e3.extBut _ _ c2 (e2.extBut _ _ c3 (e1.extBut _ _ c1 e))));have z5:IsZip g5 z TI TO .ellipsis:=e5.extBut _ _ (aaD TOz) (e4.extBut _ _ (aaD i2z) (e3.extBut _ _ (aaD TOz) (e2.extBut _ _ (aaD i1z) z1)));have zl:z<g5.objs.size:=aah z5;show wpAny _ _ (Builtin.SmallTypes.ownedTupleHandOut (.ref z) (.ref g5.objs.size) >>= _) _ _ _;unfold Builtin.SmallTypes.ownedTupleHandOut;refine aaa (aaa (abb (aai _ z5) (by simp) λg7 z7 e7=>?_));replace z7:IsZip g7 z TI TO (rawInt g5.objs.size):=z7;refine abb z7 (by simp) λg8 z8 e8=>aac ⟨_,rfl,?_⟩;replace z8:IsZip g8 z TI TO (rawInt g5.objs.size):=z8;have up:∀c o,c≠z->g5.get? c=some o->g8.get? c=some o:=λc o c1 e=>e8.extBut _ _ c1 (e7.extBut _ _ c1 (aai _ e));have t8:IsPair g8 g5.objs.size x y:=e8.extBut _ _ (aav zl) (e7.extBut _ _ (aav zl) (aap _ rfl));have f8:∀{fp:aO},z∉fp->∀c∈fp,∀o,g5.get? c=some o->g8.get? c=some o:=λhf c hc o e=>up c o (λq=>hf (q▸hc)) e;have s1:S1 (k+1) g8:=D1.frame _ _ _ (eD D1 e5 TOf1 (eD D1 e4 i2f1 (eD D1 e3 TOf1 O5))) (f8 zf1);have s2:S2 (k+1) g8:=D2.frame _ _ _ (eD D2 e5 TOf2 UU) (f8 zf2);show Q (.ref g5.objs.size) _;rw[sz]at z8 t8 ⊢;exact hQ x y g8 Uy p1 p2 z8 (up _ _ TOz t5) s1 s2 t8 λc o c1 c2 c3 c4 e=>up c o c1 (kp c o c1 c2 c3 c4 e)
theorem BG{Q:PySem.Fin->Shared->Prop}(D1:Draws prog w A i1 f1 n1 P1 S1)(D2:Draws prog w A i2 f2 n2 P2 S2)(ap:x9 z TI TO i1 i2 f1 f2)(hz:IsZip s.heap z TI TO .none)(zp:IsPair s.heap TI (.ref i1) (.ref i2))(FD:IsPair s.heap TO a b)(IY:S1 k s.heap)(Ge:S2 k s.heap)(hl:Ends prog w A i1 (S1 k)\/(k<n1/\Ends prog w A i2 (S2 k)))
  (hE:∀h' e tk,(∀c o,c≠z->c≠TO->c≠i1->c≠i2->s.heap.get? c=some o->h'.get? c=some o)->(∃o,h'.get? e=some o/\o.cls=.type "StopIteration")->E (.ref e) { s with heap:=h',toks:=tk }) :
  wpAny (model prog w) A (Builtin.«zip.__next__» ⟨[.ref z],[]⟩) Q E s:=by
 obtain⟨⟨TIz,TOz,i1z,i2z⟩,⟨TITO,TIi1,TIi2,TOi1,TOi2,i12⟩,⟨zf1,TOf1,i2f1⟩,zf2,TOf2,i1f2⟩:=ap;have ends:∀{g:Heap} {e:Addr} {tk:Nat},IsZip g z TI TO .ellipsis->(∃o,g.get? e=some o/\o.cls=.type "StopIteration")->(∀c o,c≠z->c≠TO->c≠i1->c≠i2->s.heap.get? c=some o->g.get? c=some o)->wpAny (model prog w) A (setField (.ref z) 0 .none) (λ_ s'=>E (.ref e) s') E ({ s with heap:=g,toks:=tk }:Shared):=by
  intro g e tk zg ⟨o,ho,hc⟩ kp;refine abb zg (by simp) λg' _ e'=>hE g' e tk (λc o c1 c2 c3 c4 x=>e'.extBut _ _ c1 (kp c o c1 c2 c3 c4 x)) ⟨o,e'.extBut _ _ (λq=>?_) ho,hc⟩;subst q;rw[zg]at ho;cases ho;simp at hc
 show wpAny _ _ (field (.ref z) 2 >>= _) _ _ _;refine aaa (aaC hz rfl (x:=.bool false) rfl (aaa (aaC hz rfl (x:=.ref TI) rfl (aaa (aaM zp rfl ?_)))));show wpAny _ _ (Builtin.SmallTypes.ownedTupleIsFree (.ref z) >>= _) _ _ _;unfold Builtin.SmallTypes.ownedTupleIsFree;refine aaa (aaa (aaC hz rfl (x:=.none) rfl (aac ?_)));simp only[if_true];refine aaa (abg (aaa (aaC hz rfl (x:=.ref TO) rfl (aaa (abb hz (by simp) λg1 z1 e1=>aaa ?_)))));replace z1:IsZip g1 z TI TO .ellipsis:=z1;simp only[List.zipIdx_cons,List.zipIdx_nil,List.forIn_cons,List.forIn_nil];refine aaa (aaa (acs ?_));show wpAny _ _ (Builtin.SmallTypes.nextOf (.ref i1) >>= _) _ _ _;rcases hl with d1|⟨l1,d2⟩
 ·exact aaa (d1 _ _ _ (eD D1 e1 zf1 IY) λg2 e e2 he=>ends (e2 _ _ (aaD i1z) z1) he λc o c1 _ c3 _ x=>e2 _ _ c3 (e1.extBut _ _ c1 x))
 ·refine aaa (D1.item k _ _ _ l1 (eD D1 e1 zf1 IY) λx g2 tk p1 O5 e2=>aac ?_);have t2:IsPair g2 TO a b:=e2.extBut _ _ TOi1 (e1.extBut _ _ TOz FD);refine aaa (aaM t2 rfl (aaa (ab8 t2 λg3 t3 e3=>aaa (wpAny_letGo (aac (aaa (aaa (acs ?_))))))));show wpAny _ _ (Builtin.SmallTypes.nextOf (.ref i2) >>= _) _ _ _;exact aaa (d2 _ _ _ (eD D2 e3 TOf2 (eD D2 e2 i1f2 (eD D2 e1 zf2 Ge))) λg4 e e4 he=>ends (e4 _ _ (aaD i2z) (e3.extBut _ _ (aaD TOz) (e2.extBut _ _ (aaD i1z) z1))) he λc o c1 c2 c3 c4 x=>e4 _ _ c4 (e3.extBut _ _ c2 (e2.extBut _ _ c3 (e1.extBut _ _ c1 x))))
end
theorem VE(l1 l2:Addr)(xs ys:aK):Meets (Builtin.«zip.__new__» ⟨[.type "zip",.ref l1,.ref l2],[]⟩) (λ_ R s=>s.heap.IsTuple l1 xs/\s.heap.IsList l2 ys /\
   ∀h',IsZip h' (s.heap.objs.size+4) (s.heap.objs.size+2) (s.heap.objs.size+3) .none->IsPair h' (s.heap.objs.size+2) (.ref s.heap.objs.size) (.ref (s.heap.objs.size+1))->IsPair h' (s.heap.objs.size+3) .none .none->h'.IsTupleIter s.heap.objs.size l1 0->h'.IsListIter (s.heap.objs.size+1) l2 0->(∀c o,s.heap.get? c=some o->h'.get? c=some o) ->
   R (.ok (.ret (.ref (s.heap.objs.size+4)))) { s with heap:=h' }) :=
 .of_wp λprog w A R s h=>by
  obtain⟨hp,g,d,tk,os⟩:=s;obtain⟨wC,vF,h⟩:=h;have QL:=sub_zip;have a1:Heap.IsTuple (Shared.heap ⟨hp,g,d,tk,os⟩) l1 xs:=wC;have a2:Heap.IsList (Shared.heap ⟨hp.push { cls:=.type "tuple_iterator",data:=.fields #[.ref l1,.int 0 0] },g,d,tk,os⟩) l2 ys:=Heap.IsList.push vF _
  wp_walk using wpAny_pyIter_tuple a1,wpAny_pyIter_list a2
  refine⟨_,rfl,?_⟩;have q:∀(h:Heap) (o:Obj),(h.push o).objs.size=h.objs.size+1:=λh o=>Heap.size_push ..;simp only[q]at h ⊢;have at_:∀{h:Heap} {o:Obj} {n:Nat},h.objs.size=n->o.isFreed=false->(h.push o).get? n=some o:=λe f=>by subst e;exact aap _ f
  have up:∀{h:Heap} {o o':Obj} {n:Nat},h.get? n=some o->(h.push o').get? n=some o:=λe=>aai _ e;refine h _ (at_ (by simp only[q]) rfl) (up (up (at_ (by simp only[q]) rfl))) (up (at_ (by simp only[q]) rfl)) ⟨_,up (up (up (up (at_ rfl rfl)))),rfl,rfl⟩ ⟨_,up (up (up (at_ (by simp only[q]) rfl))),rfl,rfl⟩ λc o e=>up (up (up (up (up e))))
theorem Be{xs:aK}{Q:az}(h1:s.heap.IsTuple l1 xs)(h2:s.heap.IsList l2 ys)
  (h:∀h',IsZip h' (s.heap.objs.size+4) (s.heap.objs.size+2) (s.heap.objs.size+3) .none->IsPair h' (s.heap.objs.size+2) (.ref s.heap.objs.size) (.ref (s.heap.objs.size+1))->IsPair h' (s.heap.objs.size+3) .none .none->h'.IsTupleIter s.heap.objs.size l1 0->h'.IsListIter (s.heap.objs.size+1) l2 0->(∀c o,s.heap.get? c=some o->h'.get? c=some o)->Q (.ref (s.heap.objs.size+4)) { s with heap:=h' }) :
  wpAny (model prog w) A (call (.type "zip") [.ref l1,.ref l2]) Q E s :=
 callType_new F.called_zip (by decide) (F.typeCall_zip_2 _ _) (F.newCall_zip_2 _ _) (λobj=>F.args_object_init_3 obj _ _) F.entry_zip_new (VE l1 l2 xs ys) ⟨h1,h2,λh' z t o a b k=>⟨⟨_,z,rfl⟩,h h' z t o a b k⟩⟩
end
def XS(K:aq)(a b:Addr):It :=
  ⟨λi H=>∃xs ys x y,aU K H a xs/\dg K H b ys/\xs[i]?=some x/\ys[i]?=some y,
   λi H v H'=>∃T x y,(∀xs,aU K H a xs->xs[i]?=some x)/\(∀ys,dg K H b ys->ys[i]?=some y)/\H T=none/\v=.ref T/\H'=upd H T (.tup [x,y]),
   λi H=>∃xs ys,aU K H a xs/\dg K H b ys/\(xs.length<=i\/ys.length<=i)⟩
theorem Af{tp:Pos}{a b z TI TO:Addr}(WO:TI≠TO)(Ei:i1≠i2)(haO:a≠TO):
  Turn P w K (.Tuple elts n1 tp) (XS K a b) [z,TI,TO,i1,i2] z (λi h=>IsZip h z TI TO .none/\IsPair h TI (.ref i1) (.ref i2)/\(∃x y,IsPair h TO x y)/\h.IsTupleIter i1 a i/\h.IsListIter i2 b i):=by
 have apart:∀{h:Heap} {x y:Value} {xs ys:aK} {i:Nat},IsZip h z TI TO .none->IsPair h TI (.ref i1) (.ref i2)->IsPair h TO x y->h.IsTupleIter i1 a i->h.IsListIter i2 b i->h.IsTuple a xs->h.IsList b ys->x9 z TI TO i1 i2 [i1,a] [i2,b]/\a≠i1/\b≠i2:=by
  intro h x y xs ys i hz hI hO ⟨o1,e1,c1,_⟩ ⟨o2,e2,c2,_⟩ ⟨oa,ea,ca,_⟩ ⟨ob,eb,cb,_⟩;have u1:a≠i1:=bA ea e1 (by rw[ca,c1];simp);have u2:b≠i2:=bA eb e2 (by rw[cb,c2];simp);have v1:a≠z:=bA ea hz (by rw[ca];simp);have v2:a≠i2:=bA ea e2 (by rw[ca,c2];simp);have v3:b≠z:=bA eb hz (by rw[cb];simp);have v4:b≠TO:=bA eb hO (by rw[cb];simp);have v5:b≠i1:=bA eb e1 (by rw[cb,c1];simp);have w1:i1≠z:=bA e1 hz (by rw[c1];simp);have w2:i2≠z:=bA e2 hz (by rw[c2];simp);have w3:TO≠i1:=bA hO e1 (by rw[c1];simp);have w4:TO≠i2:=bA hO e2 (by rw[c2];simp);have no:∀{c p q:Addr},c≠p->c≠q->c∉[p,q]:=λh1 h2 m=>by
   simp only[List.mem_cons,List.not_mem_nil,or_false]at m;exact m.elim h1 h2
  exact⟨⟨⟨bA hI hz (by simp),bA hO hz (by simp),w1,w2⟩,⟨WO,bA hI e1 (by rw[c1];simp),bA hI e2 (by rw[c2];simp),w3,w4,Ei⟩,⟨no (aaD w1) (aaD v1),no w3 (aaD haO),no (aaD Ei) (aaD v2)⟩,no (aaD w2) (aaD v3),no w4 (aaD v4),no Ei (aaD v5)⟩,u1,u2⟩
 refine⟨by simp,λi h st c hc=>?_,λi h h' st k=>?_,?_,?_,λA i s Q E st hQ=>abC st.1 hQ⟩
 ·obtain⟨hz,hI,⟨x,y,hO⟩,⟨o1,e1,_,d1⟩,⟨o2,e2,_,d2⟩⟩:=st;simp only[List.mem_cons,List.not_mem_nil,or_false]at hc;rcases hc with rfl|rfl|rfl|rfl|rfl
  ·exact⟨_,hz,λv q=>by cases q⟩
  ·exact⟨_,hI,λv q=>by cases q⟩
  ·exact⟨_,hO,λv q=>by cases q⟩
  ·exact⟨o1,e1,λv q=>by rw[d1]at q;cases q⟩
  ·exact⟨o2,e2,λv q=>by rw[d2]at q;cases q⟩
 ·obtain⟨hz,hI,⟨x,y,hO⟩,⟨o,ho,r⟩,l2⟩:=st;exact⟨k z (by simp) _ hz,k TI (by simp) _ hI,⟨x,y,k TO (by simp) _ hO⟩,⟨o,k i1 (by simp) o ho,r⟩,l2.at λo e=>k i2 (by simp) o e⟩
 ·intro X hP hw hK hc i pins s σ H E I hf st hg;subst hP hw hK;obtain⟨xs,ys,x,y,q1,q2,ex,ey⟩:=hg;obtain⟨hz,hI,⟨x0,y0,hO⟩,l1,l2⟩:=st;obtain⟨aI,rv,p,_⟩:=I.tuple q1;obtain⟨its',wz,p',_⟩:=I.list q2;obtain⟨u,hu,ru⟩:=rv.get ex;obtain⟨u',zk,U_⟩:=wz.get ey;obtain⟨ap,n1,n2⟩:=apart hz hI hO l1 l2 p p'.isList;have hh:X.A.in1.handled=none:=I.ok.hd hc;have lt:∀{vs:ao} {v:Value},vs[i]?=some v->i<vs.toArray.size:=λ{vs v} e=>by
   by_cases z:i<vs.length
   ·simpa using z
   ·rw[List.getElem?_eq_none (by left)]at e;cases e
  have hT:s.TypeIs (.ref z) "zip":=⟨_,hz,rfl⟩
  unfold pyNext;refine aaa (abE (aaO (name:=Str.ofString "__next__") hT ab9 (aaE ab9 hT F.entry_zip_next (Aa (mG hh i1 a n1 aI.toArray) (Draws.list hh i2 b n2 its'.toArray) ap hz hI hO ⟨l1,p⟩ ⟨l2,p'.isList⟩ (lt hu) (lt zk) λv v' h1 tk w1 w2 z1 o1 a1 b1 t1 k1=>aac ⟨_,rfl,?_⟩) (F.args_zip_next_1 _))));obtain rfl:u=v:=by simpa [hu]using w1
  obtain rfl:u'=v':=by simpa [zk]using w2
  refine wpAny_letOwnedTupleGo_zip z1 λh2 z2 Al=>?_;have Um:s.heap.objs.size≠z:=aav (aah hz);have kk:∀c o,c∉[z,TI,TO,i1,i2]->s.heap.get? c=some o->h2.get? c=some o:=λc o hc e=>by
   simp only[List.mem_cons,List.not_mem_nil,or_false,not_or]at hc;exact Al.extBut c o hc.1 (k1 c o hc.1 hc.2.2.1 hc.2.2.2.1 hc.2.2.2.2 e)
  have hT:h2.get? s.heap.objs.size=some { cls:=.type "tuple",data:=.seq #[u,u'] }:=Al.extBut _ _ Um t1;have hn:H s.heap.objs.size=none:=I.cV.fresh (aal _);refine⟨.ref s.heap.objs.size,upd H s.heap.objs.size (.tup [x,y]),yj (s:=s) (h':=h2) (t':=tk) I hf kk (aal _) (rS ru U_ hT),rfl,⟨_,x,y,λzs hz=>by rw[I.lL hz q1];exact ex,λzs hz=>by rw[I.iX hz q2];exact ey,hn,rfl,rfl⟩,⟨z2,Al.extBut _ _ ap.n1.1 (k1 _ _ ap.n1.1 ap.n2.1 ap.n2.2.1 ap.n2.2.2.1 hI),⟨_,_,Al.extBut _ _ ap.n1.2.1 o1⟩,?_,b1.1.extBut Al.extBut ap.n1.2.2.2⟩,λc hc=>?_⟩
  ·obtain⟨o,ho,r⟩:=a1.1;exact⟨o,Al.extBut _ _ ap.n1.2.2.1 ho,r⟩
  ·rw[aY]
   ·exact(hf c hc).1
   ·intro z;subst z;simp only[List.mem_cons,List.not_mem_nil,or_false]at hc;rcases hc with e|e|e|e|e
    ·exact absurd (aah hz) (by rw[<- e];exact aaw _)
    ·exact absurd (aah hI) (by rw[<- e];exact aaw _)
    ·exact absurd (aah hO) (by rw[<- e];exact aaw _)
    ·obtain⟨_,w,_⟩:=l1;exact absurd (aah w) (by rw[<- e];exact aaw _)
    ·obtain⟨_,w,_⟩:=l2;exact absurd (aah w) (by rw[<- e];exact aaw _)
 ·intro X hP hw hK hc i pins s σ H E I hf st hg;subst hP hw hK;obtain⟨xs,ys,q1,q2,hl⟩:=hg;obtain⟨hz,hI,⟨x0,y0,hO⟩,l1,l2⟩:=st;obtain⟨aI,rv,p,_⟩:=I.tuple q1;obtain⟨its',wz,p',_⟩:=I.list q2;have e1:xs.length=aI.toArray.size:=by rw[rv.length];simp
  have e2:ys.length=its'.toArray.size:=by rw[wz.length];simp
  obtain⟨ap,n1,n2⟩:=apart hz hI hO l1 l2 p p'.isList;have hh:X.A.in1.handled=none:=I.ok.hd hc;have hT:s.TypeIs (.ref z) "zip":=⟨_,hz,rfl⟩
  unfold pyNext;refine aaa (abE (aaO (name:=Str.ofString "__next__") hT ab9 (aaE ab9 hT F.entry_zip_next (BG (mG hh i1 a n1 aI.toArray) (Draws.list hh i2 b n2 its'.toArray) ap hz hI hO ⟨l1,p⟩ ⟨l2,p'.isList⟩ (by
   by_cases z:aI.toArray.size<=i
   ·exact .inl (qE hh (abv z))
   ·exact .inr ⟨by left,λs Q E st hE=>ab0 hh st.1 st.2 (abv (by left)) hE⟩) λh1 e tk k1 he=>?_) (F.args_zip_next_1 _))))
  obtain⟨o,ho,hc⟩:=he;refine aaa (abk (T:="StopIteration") (b:=true) ⟨o,ho,hc⟩ isSubtype_stop (aac ⟨rfl,yi (t':=tk) I hf λc o hc e=>?_⟩));simp only[List.mem_cons,List.not_mem_nil,or_false,not_or]at hc;exact k1 c o hc.1 hc.2.2.1 hc.2.2.2.1 hc.2.2.2.2 e
theorem GO{tp p:Pos}(hg:Gl X "zip")(hm:X.mg "zip" = none)(ha:PA X [e1,e2] ta)(hs:∀es,starEach (e1::es) X.env=(false,eval e1 X.env)::starEach es X.env)(Jt:∀es,starEach (e2::es) X.env=(false,eval e2 X.env)::starEach es X.env):
  PI X (.Tuple elts n1 tp) (.Call (.Name "zip" p) [e1,e2] [] pos) (λσ H R=>ta σ H λvs H1=>∃a b,vs=[.ref a,.ref b]/\(∃xs,aU X.K H1 a xs)/\(∃ys,dg X.K H1 b ys)/\R (XS X.K a b) H1):=by
 intro pins s σ H R I h;refine Call_ (fJ I hg hm boot_zip (aaB (de (ha pos pins s σ H _ I h) λus s1 bR=>?_) (hs _) (by rw[Jt];rfl)));obtain⟨vs,H1,I1,r1,q1⟩:=bR;obtain⟨a,b,e,⟨xs,q1⟩,⟨ys,q2⟩,q⟩:=q1;subst e;obtain⟨u,v,rfl,ru,rv⟩:=vals2 r1;cases ru;cases rv;obtain⟨aI,_,p1,_⟩:=I1.tuple q1;obtain⟨its',_,p2,_⟩:=I1.list q2;have la:a<s1.heap.objs.size:=by obtain⟨o,ho,_⟩:=p1;exact aah ho
 refine Be p1 p2.isList λh' z t o l1 l2 k=>abC z ?_;refine⟨s1.heap.objs.size+4,[s1.heap.objs.size+4,s1.heap.objs.size+2,s1.heap.objs.size+3,s1.heap.objs.size,s1.heap.objs.size+1],_,_,H1,rfl,I1.kept (t':=s1.toks) k,Af (aan (aa5 _)) (aan (aa5 _)) (aan (aaj la (acB ..))),⟨z,t,⟨_,_,o⟩,l1,l2⟩,λb hb=>?_,q⟩;have qm:s1.heap.objs.size<=b:=by
  simp only[List.mem_cons,List.not_mem_nil,or_false]at hb;rcases hb with rfl|rfl|rfl|rfl|rfl<;>first|exact acB .. |exact aal _
 exact I1.Eo qm (I1.cV.fresh qm)
noncomputable def iL:av
 |[.tup a,.lst _ b]=>ok (.lst .ow (List.zipWith (λx y=>.tup [x,y]) a b))
 |_=>none
theorem BH{p q:Addr}{a b:ab}:NH K (XS K p q) H2 [.ref p,.ref q] [.tup a,.lst g b] (aA aW (List.zipWith (λx y=>.tup [x,y]) a b)):=by
 have len:(aA aW (List.zipWith (λx y=>D.tup [x,y]) a b)).length=min a.length b.length:=by rw[aQ];simp
 have two:∀{H':Hp} {R':aj},aB (aU K H') (nd K R' (λ_=>False) (λ_=>none) H') [] 0 [.ref p,.ref q] (aA aW [.tup a,.lst g b]) ->
   ∃xs ys,aU K H' p xs/\dg K H' q ys/\aB (aU K H') (nd K R' (λ_=>False) (λ_=>none) H') [0] 0 xs (aA aW a)/\aB (aU K H') (nd K R' (λ_=>False) (λ_=>none) H') [1] 0 ys (aA aW b):=by
  intro H' R' h;rw[aA,aS,aA,aS,aA]at h;cases h with
  |cons h t=>cases t with
   |cons h' t=>cases h with
    |tup h r=>cases h' with
     |lst h' r'=>exact⟨_,_,h,h'.sq,r,r'⟩
 refine⟨λi H' R' _ h hi=>?_,λi H' R' x m_ _ h hi hy=>?_,λi H' R' _ h hi=>?_⟩
 ·obtain⟨xs,ys,h1,h2,r1,r2⟩:=two h;rw[len]at hi;have l1:=r1.length;have l2:=r2.length;rw[aQ,List.length_map]at l1 l2;exact⟨xs,ys,xs[i]'(by left),ys[i]'(by left),h1,h2,aar _,aar _⟩
 ·obtain⟨xs,ys,h1,h2,r1,r2⟩:=two h;obtain⟨T,u,v,g1,g2,hn,rfl,rfl⟩:=hy;obtain⟨d1,e1,p1⟩:=r1.vJ (g1 xs h1);obtain⟨d2,e2,p2⟩:=r2.vJ (g2 ys h2);have es:aJ H' (upd H' T (.tup [u,v])):=aJ.upd hn;refine⟨es,.tup [d1,d2],?_,.tup (aU.of aX) (.cons (p1.SJ es) (.cons (p2.SJ es) .nil))⟩;rw[aQ,List.getElem?_map]at e1 e2 ⊢;obtain⟨c1,q1,rfl⟩:=Option.map_eq_some_iff.mp e1;obtain⟨c2,q2,rfl⟩:=Option.map_eq_some_iff.mp e2;rw[List.getElem?_zipWith,q1,q2];simp[aS,aA]
 ·obtain⟨xs,ys,h1,h2,r1,r2⟩:=two h;rw[len]at hi;have l1:=r1.length;have l2:=r2.length;rw[aQ,List.length_map]at l1 l2;exact⟨xs,ys,h1,h2,by left⟩
theorem FO{n:Nat}(hΦ:Φ n=iL){sc:Scope}{bl:au}{k:Nat}(L:PX X sc bl k){e:Expr}(he:gj sc bl e=some args)(ht:gX tg=true)(hs:mL X F Φ cs args)
  {pins:ak} {s:Shared} {xs:ab} {d:D} (I:Inv X pins σ H s) (Si:SI X F R τ ρ σ H) (cF:b9 Φ cs ρ=ok xs) (ed:Φ n xs=ok d) (ei:kH d=ok items) (Rr:It->Hp->Prop)
  (hR:∀J H2 vs,aJ H H2->cx X.K (gP X F) R τ (cW cs) H H2 vs xs->NH X.K J H2 vs xs items->Rr J H2) :
  wpAny (model X.prog X.w) X.A (eval e X.env) (λv s1=>wpAny (model X.prog X.w) X.A (pyIter v) (Fh X pins σ tg Rr) X.xe s1) X.xe s:=by
 obtain⟨p,pos,a,b,rfl,rfl,h1,h2⟩:=l8 he;cases tg<;>try (cases ht;done)
 obtain⟨_,pa,s1,s2⟩:=iU hs;refine GO (L.gl h1) (L.bl _ h2) pa s1 s2 pins s σ H Rr I ⟨R,τ,ρ,xs,Si,cF,λvs H1 e1 rv=>?_⟩;have U7:=rv;obtain⟨τt,fr,rs⟩:=rv;rw[hΦ]at ed;unfold iL at ed;split at ed
 ·cases ed;cases ei;obtain⟨v,w,rfl,rx,ry⟩:=rs.two;cases rx with
  |tup hx _=>cases ry with
   |lst hy _=>exact⟨_,_,rfl,⟨_,hx⟩,⟨_,hy.sq⟩,hR _ H1 _ e1 U7 BH⟩
 ·cases ed
noncomputable abbrev tO(h:Heap)(z TI TO a:Addr)(f:Bool):Prop :=
 h.get? z=some { cls:=.type "zip",dict:=none,data:=.fields #[rawInt a,.bool f,.bool false,.ref TI,.ref TO],slots:=#[] }
variable {oa:Obj}
section
variable {prog:aF}{w:World}{A:aE}{E:az}{s:Shared}
theorem BD{a:Addr}{o:Obj}{Q:Option Obj->Shared->Prop}(ho:s.heap.get? a=some o)(h:Q (some o) s):wpAny (model prog w) A (loadIfAlive a) Q E s:=by
 have h':Q (s.heap.get? a) s:=by rw[ho];exact h
 exact λ_ _ _=>h'
theorem x_{z TI TO a:Addr}{f:Bool}{Q:Bool->Shared->Prop}(hz:tO s.heap z TI TO a f)(ha:s.heap.get? a=some oa)(hQ:∀h',tO h' z TI TO a true->Heap.SameBut z s.heap h'->Q false { s with heap:=h' }):
  wpAny (model prog w) A (Builtin.SmallTypes.ownedTupleIsFree (.ref z)) Q E s:=by
 unfold Builtin.SmallTypes.ownedTupleIsFree;refine aaa (aaC hz rfl (x:=rawInt a) rfl ?_);show wpAny _ _ (loadIfAlive ((a:Int).toNat) >>= _) _ _ _;rw[Int.toNat_natCast];refine aaa (BD ha ?_);simp only[Option.isNone_some,Bool.false_eq_true,if_false];refine aaa (aaC hz rfl (x:=.bool f) rfl ?_);cases f with
 |true =>
  rw[if_neg (show ¬ ((Value.bool true != Value.bool true)=true) from Bool.false_ne_true)];exact aac (hQ s.heap hz (Heap.SameBut.refl _ _))
 |false =>
  rw[if_pos (show(Value.bool false != Value.bool true)=true from rfl)];exact aaa (abb hz (by simp) λh₃ Q7 mB=>aac (hQ h₃ Q7 mB))
theorem uf{z TI TO a:Addr}{f:Bool}{xs:aK}{x y:Value}{Q:az}(D:ZipApart z TI TO i1 i2 l1 l2)
  (hz:tO s.heap z TI TO a f) (ha:s.heap.get? a=some oa) (zp:IsPair s.heap TI (.ref i1) (.ref i2))
  (h1:s.heap.IsListIter i1 l1 k1) (h2:s.heap.IsListIter i2 l2 k2) (wC:s.heap.IsList l1 xs) (vF:s.heap.IsList l2 ys) (hx:xs[k1]?=some x) (hy:ys[k2]?=some y)
  (hQ:∀h',tO h' z TI TO a true->h'.IsListIter i1 l1 (k1+1)->h'.IsListIter i2 l2 (k2+1)->IsPair h' s.heap.objs.size x y->h'.objs.size=s.heap.objs.size+1 ->
   (∀c o,c≠z->c≠i1->c≠i2->s.heap.get? c=some o->h'.get? c=some o)->Q (.ref s.heap.objs.size) { s with heap:=h' }) :
  wpAny (model prog w) A (Builtin.«zip.__next__» ⟨[.ref z],[]⟩) (λfin s'=>∃v,fin=.done (.ret v)/\Q v s') E s:=by
 show wpAny _ _ (field (.ref z) 2 >>= _) _ _ _;refine aaa (aaC hz rfl (x:=.bool false) rfl ?_);show wpAny _ _ (field (.ref z) 3 >>= _) _ _ _;refine aaa (aaC hz rfl (x:=.ref TI) rfl ?_);refine aaa (aaM zp rfl ?_);show wpAny _ _ (Builtin.SmallTypes.ownedTupleIsFree (.ref z) >>= _) _ _ _;refine aaa (x_ hz ha λh₁ Jr fK=>?_);simp only[Bool.false_eq_true,if_false];refine aaa ?_;rw[<- Array.forIn_toList];simp only[List.forIn_cons,List.forIn_nil];refine aaa (aaa (aaL ?_));show wpAny _ _ (Builtin.SmallTypes.nextOf (.ref i1) >>= _) _ _ _;refine aaa (abS (h1.extBut fK.extBut D.i1z) (wC.extBut fK.extBut D.l1z) hx λh₂ Jz i3=>aac ?_);refine aac ?_;refine aaa (aaa (aaL ?_));show wpAny _ _ (Builtin.SmallTypes.nextOf (.ref i2) >>= _) _ _ _;refine aaa (abS ((h2.extBut fK.extBut D.i2z).extBut i3.extBut D.i12.symm) ((vF.extBut fK.extBut D.l2z).extBut i3.extBut D.l2i1) hy λh₃ RA mB=>aac ?_);refine aac ?_;refine aac ?_;have hsz:h₃.objs.size=s.heap.objs.size:=by rw[mB.1,i3.1,fK.1]
 refine aaa (wpAny_newTuple ?_ (by show 2<=_;rw[sizeLine_eq];decide));refine aac ⟨_,rfl,?_⟩;show Q (.ref h₃.objs.size) _;have gM:∀{c o},h₃.get? c=some o->c≠h₃.objs.size:=λe=>aan (aah e);have hk:∀c o,c≠z->c≠i1->c≠i2->s.heap.get? c=some o->(h₃.push { cls:=.type "tuple",data:=.seq #[x,y] }).get? c=some o:=λc o c1 c2 c3 e=>aai _ (mB.extBut _ _ c3 (i3.extBut _ _ c2 (fK.extBut _ _ c1 e)));rw[hsz];refine hQ _ (aai _ (mB.extBut _ _ D.i2z.symm (i3.extBut _ _ D.i1z.symm Jr))) ((Jz.extBut mB.extBut D.i12).at λo e=>aai _ e) (RA.at λo e=>aai _ e) ?_ (by rw[Heap.size_push,hsz]) hk;rw[<- hsz];exact aap _ rfl
theorem wF{z TI TO a:Addr}{f:Bool}{xs:aK}{Q:Fin->Shared->Prop}(hh:A.handled=none)(D:ZipApart z TI TO i1 i2 l1 l2)
  (hz:tO s.heap z TI TO a f) (ha:s.heap.get? a=some oa) (zp:IsPair s.heap TI (.ref i1) (.ref i2))
  (h1:s.heap.IsListIter i1 l1 k1) (h2:s.heap.IsListIter i2 l2 k2) (wC:s.heap.IsList l1 xs) (vF:s.heap.IsList l2 ys) (vG:xs[k1]?=none\/ys[k2]?=none)
  (hE:∀h' e,(∀c o,c≠z->c≠i1->c≠i2->s.heap.get? c=some o->h'.get? c=some o)->(∃o,h'.get? e=some o/\o.cls=.type "StopIteration")->E (.ref e) { s with heap:=h' }) :
  wpAny (model prog w) A (Builtin.«zip.__next__» ⟨[.ref z],[]⟩) Q E s:=by
 show wpAny _ _ (field (.ref z) 2 >>= _) _ _ _;refine aaa (aaC hz rfl (x:=.bool false) rfl ?_);show wpAny _ _ (field (.ref z) 3 >>= _) _ _ _;refine aaa (aaC hz rfl (x:=.ref TI) rfl ?_);refine aaa (aaM zp rfl ?_);show wpAny _ _ (Builtin.SmallTypes.ownedTupleIsFree (.ref z) >>= _) _ _ _;refine aaa (x_ hz ha λh₁ Jr fK=>?_);simp only[Bool.false_eq_true,if_false];refine aaa ?_;rw[<- Array.forIn_toList];simp only[List.forIn_cons,List.forIn_nil];refine aaa (aaa (aaL ?_));show wpAny _ _ (Builtin.SmallTypes.nextOf (.ref i1) >>= _) _ _ _;cases hx:xs[k1]? with
 |none =>
  refine aaa (ab0 hh (h1.extBut fK.extBut D.i1z) (wC.extBut fK.extBut D.l1z) hx λh₂ e i3 he=>?_);exact hE h₂ e (λc o c1 c2 c3 x=>i3 _ _ c2 (fK.extBut _ _ c1 x)) he
 |some x =>
  have hy:ys[k2]?=none:=by rcases vG with h|h;rw[hx]at h;cases h;exact h
  refine aaa (abS (h1.extBut fK.extBut D.i1z) (wC.extBut fK.extBut D.l1z) hx λh₂ Jz i3=>aac ?_);refine aac ?_;refine aaa (aaa (aaL ?_));show wpAny _ _ (Builtin.SmallTypes.nextOf (.ref i2) >>= _) _ _ _;refine aaa (ab0 hh ((h2.extBut fK.extBut D.i2z).extBut i3.extBut D.i12.symm) ((vF.extBut fK.extBut D.l2z).extBut i3.extBut D.l2i1) hy λh₃ e mB he=>?_);exact hE h₃ e (λc o c1 c2 c3 x=>mB _ _ c3 (i3.extBut _ _ c2 (fK.extBut _ _ c1 x))) he
theorem nX{z TI TO a:Addr}{f:Bool}{xs:aK}{x y:Value}{Q:Option Value->Shared->Prop}(D:ZipApart z TI TO i1 i2 l1 l2)
  (hz:tO s.heap z TI TO a f) (ha:s.heap.get? a=some oa) (zp:IsPair s.heap TI (.ref i1) (.ref i2))
  (h1:s.heap.IsListIter i1 l1 k1) (h2:s.heap.IsListIter i2 l2 k2) (wC:s.heap.IsList l1 xs) (vF:s.heap.IsList l2 ys) (hx:xs[k1]?=some x) (hy:ys[k2]?=some y)
  (hQ:∀h',tO h' z TI TO a true->h'.IsListIter i1 l1 (k1+1)->h'.IsListIter i2 l2 (k2+1)->IsPair h' s.heap.objs.size x y->h'.objs.size=s.heap.objs.size+1 ->
   (∀c o,c≠z->c≠i1->c≠i2->s.heap.get? c=some o->h'.get? c=some o)->Q (some (.ref s.heap.objs.size)) { s with heap:=h' }) :
  wpAny (model prog w) A (pyNext (.ref z)) Q E s:=by
 have hT:s.TypeIs (.ref z) "zip":=⟨_,hz,rfl⟩
 unfold pyNext;exact aaa (abE (aaO (name:=Str.ofString "__next__") hT abx
  (aaE abx hT PySem.F.entry_zip_next
   (uf D hz ha zp h1 h2 wC vF hx hy λh' a1 a2 a3 a4 a5 a6=>aac (hQ h' a1 a2 a3 a4 a5 a6)) (PySem.F.args_zip_next_1 _))))
theorem pZ{z TI TO a:Addr}{f:Bool}{xs:aK}{Q:Option Value->Shared->Prop}(hh:A.handled=none)(D:ZipApart z TI TO i1 i2 l1 l2)
  (hz:tO s.heap z TI TO a f) (ha:s.heap.get? a=some oa) (zp:IsPair s.heap TI (.ref i1) (.ref i2))
  (h1:s.heap.IsListIter i1 l1 k1) (h2:s.heap.IsListIter i2 l2 k2) (wC:s.heap.IsList l1 xs) (vF:s.heap.IsList l2 ys) (vG:xs[k1]?=none\/ys[k2]?=none)
  (hQ:∀h',(∀c o,c≠z->c≠i1->c≠i2->s.heap.get? c=some o->h'.get? c=some o)->Q none { s with heap:=h' }):wpAny (model prog w) A (pyNext (.ref z)) Q E s:=by
 have hT:s.TypeIs (.ref z) "zip":=⟨_,hz,rfl⟩
 unfold pyNext;refine aaa (abE (aaO (name:=Str.ofString "__next__") hT abx
  (aaE abx hT PySem.F.entry_zip_next (wF hh D hz ha zp h1 h2 wC vF vG λh' e hk he=>?_) (PySem.F.args_zip_next_1 _))))
 obtain⟨o,ho,hc⟩:=he;refine aaa (abk (T:="StopIteration") (b:=true) ⟨o,ho,hc⟩ isSubtype_stop ?_);exact aac (hQ _ hk)
end
theorem JY:typeLookup (.type "zip") "__len__" = pure none:=by rw[typeLookup_type,builtinLookup_eq_fast];kernel_rfl
theorem Oz:typeLookup (.type "zip") "__length_hint__" = pure none:=by rw[typeLookup_type,builtinLookup_eq_fast];kernel_rfl
section
variable {prog:aF}{w:World}{A:aE}{E:az}{s:Shared}
theorem FK{z:Addr}(hT:s.TypeIs (.ref z) "zip"){Q:Bool->Shared->Prop}(h:Q true s):wpAny (model prog w) A (Builtin.List.listLengthHint (.ref z)) Q E s:=by
 unfold Builtin.List.listLengthHint;refine aaa (abp hT JY ?_);refine wpAny_ite_split (λsP=>absurd sP (by decide)) (λ_=>?_);refine wpAny_ite_split (λsP=>absurd sP (by decide)) (λ_=>?_);refine aaa (abp hT Oz ?_);exact aac h
end
structure Zl(h:Heap)(z TI TO i1 i2 l1 l2 S:Addr)(xs ys:aK)(i:Nat):Prop where
 st:(IsZip h z TI TO .none/\∃a b,IsPair h TO a b)\/∃a f oa,tO h z TI TO a f/\h.get? a=some oa/\S<a
 ti:IsPair h TI (.ref i1) (.ref i2)
 w1:h.IsListIter i1 l1 i
 w2:h.IsListIter i2 l2 i
 q1:h.IsList l1 xs
 q2:h.IsList l2 ys
structure Below(z TI TO i1 i2 l1 l2 S:Addr):Prop where
 D:ZipApart z TI TO i1 i2 l1 l2
 z:z<S
 TI:TI<S
 TO:TO<S
 i1:i1<S
 i2:i2<S
 l1:l1<S
 l2:l2<S
section
variable {prog:aF}{w:World}{A:aE}{E:az}{s:Shared}{z TI TO i1 i2 l1 l2 S:Addr}{xs ys:aK}{i:Nat}
theorem Zl.keep{h:Heap}(B:Below z TI TO i1 i2 l1 l2 S)(Z:Zl h z TI TO i1 i2 l1 l2 S xs ys i)(hk:∀b o,b≠S->h.get? b=some o->h'.get? b=some o):Zl h' z TI TO i1 i2 l1 l2 S xs ys i:=by
 have n:∀{b},b<S->b≠S:=λh=>aan h;refine⟨?_,hk _ _ (n B.TI) Z.ti,Z.w1.at λo e=>hk _ o (n B.i1) e,Z.w2.at λo e=>hk _ o (n B.i2) e,Z.q1.at λo e=>hk _ o (n B.l1) e,Z.q2.at λo e=>hk _ o (n B.l2) e⟩;rcases Z.st with ⟨h1,a,b,h2⟩|⟨a,f,oa,h1,h2,h3⟩
 ·exact .inl ⟨hk _ _ (n B.z) h1,a,b,hk _ _ (n B.TO) h2⟩
 ·exact .inr ⟨a,f,oa,hk _ _ (n B.z) h1,hk _ _ (aav h3) h2,h3⟩
theorem FI{x y:Value}{Q:Option Value->Shared->Prop}(B:Below z TI TO i1 i2 l1 l2 S)(Z:Zl s.heap z TI TO i1 i2 l1 l2 S xs ys i)(hS:S<s.heap.objs.size)(hx:xs[i]?=some x)(hy:ys[i]?=some y)
  (hQ:∀h',Zl h' z TI TO i1 i2 l1 l2 S xs ys (i+1)->IsPair h' s.heap.objs.size x y->h'.objs.size=s.heap.objs.size+1->(∀c o,c≠z->c≠TO->c≠i1->c≠i2->s.heap.get? c=some o->h'.get? c=some o)->Q (some (.ref s.heap.objs.size)) { s with heap:=h' }) :
  wpAny (model prog w) A (pyNext (.ref z)) Q E s:=by
 have D:=B.D;rcases Z.st with ⟨hz,a,b,FD⟩|⟨a,f,oa,hz,ha,hSa⟩
 ·refine wpAny_pyNext_zip_item D hz Z.ti FD Z.w1 Z.w2 Z.q1 Z.q2 hx hy λh' z1 o1 a1 b1 t1 SQ k1=>hQ h' ?_ t1 SQ k1;exact⟨.inr ⟨s.heap.objs.size,false,_,z1,t1,hS⟩,k1 _ _ D.TIz D.TITO D.TIi1 D.TIi2 Z.ti,a1,b1,Z.q1.at λo e=>k1 _ o D.l1z D.l1TO D.l1i1 D.l1i2 e,Z.q2.at λo e=>k1 _ o D.l2z D.l2TO D.l2i1 D.l2i2 e⟩
 ·refine nX D hz ha Z.ti Z.w1 Z.w2 Z.q1 Z.q2 hx hy λh' z1 a1 b1 t1 SQ k1=>hQ h' ?_ t1 SQ λc o c1 _ c3 c4 e=>k1 c o c1 c3 c4 e;have n:∀{b},b<S->a≠b:=λh=>aav (aby h hSa);exact⟨.inr ⟨a,true,oa,z1,k1 _ _ (n B.z) (n B.i1) (n B.i2) ha,hSa⟩,k1 _ _ D.TIz D.TIi1 D.TIi2 Z.ti,a1,b1,Z.q1.at λo e=>k1 _ o D.l1z D.l1i1 D.l1i2 e,Z.q2.at λo e=>k1 _ o D.l2z D.l2i1 D.l2i2 e⟩
theorem FL{Q:Option Value->Shared->Prop}(hh:A.handled=none)(B:Below z TI TO i1 i2 l1 l2 S)(Z:Zl s.heap z TI TO i1 i2 l1 l2 S xs ys i)(vG:xs[i]?=none\/ys[i]?=none)
  (hQ:∀h',(∀c o,c≠z->c≠TO->c≠i1->c≠i2->s.heap.get? c=some o->h'.get? c=some o)->Q none { s with heap:=h' }):wpAny (model prog w) A (pyNext (.ref z)) Q E s:=by
 have D:=B.D;rcases Z.st with ⟨hz,a,b,FD⟩|⟨a,f,oa,hz,ha,hSa⟩
 ·exact wpAny_pyNext_zip_end hh D hz Z.ti FD Z.w1 Z.w2 Z.q1 Z.q2 vG hQ
 ·exact pZ hh D hz ha Z.ti Z.w1 Z.w2 Z.q1 Z.q2 vG λh' k=>hQ h' λc o c1 _ c3 c4 e=>k c o c1 c3 c4 e
end
structure Sv(xs ys:aK)(lo:Addr)(h:Heap)(as:aO):Prop where
 above:∀a∈as,lo<a
 nd:as.Nodup
 pairs:∀(j:Nat) (a:Addr),as[j]?=some a->∃x y,xs[j]?=some x/\ys[j]?=some y/\IsPair h a x y
section
variable {prog:aF}{w:World}{A:aE}{s:Shared}{R:Result->Shared->Prop}{z TI TO i1 i2 l1 l2 S:Addr}{xs ys:aK}
theorem FH(hh:A.handled=none)(B:Below z TI TO i1 i2 l1 l2 S)(hn:min xs.size ys.size<=sizeLine)(res:Value) 
  (hR:∀h' tk acc c as,(∀b o,b≠S->b≠z->b≠TO->b≠i1->b≠i2->h₁.get? b=some o->h'.get? b=some o)->h'.get? S=some { cls:=.type "list",dict:=none,data:=.seq acc c,slots:=#[] }->as.length=min xs.size ys.size->Sv xs ys S h' as ->
   acc.toList=as.map Value.ref->R (.ok (.ret res)) { s with heap:=h',toks:=tk }) :
  ∀(k i:Nat) (h:Heap) (tk c:Nat) (acc:aK) (as:aO),min xs.size ys.size - i=k->i<=min xs.size ys.size->Zl h z TI TO i1 i2 l1 l2 S xs ys i->(∀b o,b≠S->b≠z->b≠TO->b≠i1->b≠i2->h₁.get? b=some o->h.get? b=some o) ->
   h.get? S=some { cls:=.type "list",dict:=none,data:=.seq acc c,slots:=#[] }->acc.toList=as.map Value.ref->as.length=i->Sv xs ys S h as ->
   codeAny (model prog w) A (.builtin "list.extend.loop" ⟨[.ref S,.ref z,res],[]⟩) R { s with heap:=h,toks:=tk }:=by
 have nz:S≠z:=aav B.z;have nO:S≠TO:=aav B.TO;have n1:S≠i1:=aav B.i1;have n2:S≠i2:=aav B.i2;have X3:∀{a:Addr},S<a->a≠z/\a≠TO/\a≠i1/\a≠i2:=λh=>⟨aav (aby B.z h),aav (aby B.TO h),aav (aby B.i1 h),aav (aby B.i2 h)⟩
 intro k;induction k with
 |zero =>
  intro i h tk c acc as hk hi Z D5 hS gY Ro hG;refine abI PySem.F.entry_extend_loop ?_;rw[Around.under_plainId PySem.F.plain_extend_loop _];show wpAny _ A.in1 (pyNext (.ref z) >>= _) _ _ _;have vG:xs[i]?=none\/ys[i]?=none:=by
   rcases Nat.le_total xs.size ys.size with q|q
   ·exact .inl (abv (by left))
   ·exact .inr (abv (by left))
  refine aaa (FL (s:={ s with heap:=h,toks:=tk }) (A:=A.in1) hh B Z vG λh' he=>?_);refine aac (hR h' tk acc c as (λb o h1 h2 h3 h4 h5 e=>he b o h2 h3 h4 h5 (D5 b o h1 h2 h3 h4 h5 e)) (he S _ nz nO n1 n2 hS) (by left) ⟨hG.above,hG.nd,λj a hj=>?_⟩ gY);obtain⟨x,y,e1,e2,e3⟩:=hG.pairs j a hj;obtain⟨a1,a2,a3,a4⟩:=X3 (hG.above a (aax hj));exact⟨x,y,e1,e2,he a _ a1 a2 a3 a4 e3⟩
 |succ k ih =>
  intro i h tk c acc as hk hi Z D5 hS gY Ro hG;have gM:i<min xs.size ys.size:=by left
  have hx:xs[i]?=some (xs[i]'(by left)):=abh _;have hy:ys[i]?=some (ys[i]'(by left)):=abh _;have hsz:acc.size=i:=by rw[<- Array.length_toList,gY,List.length_map,Ro]
  have WQ:S<h.objs.size:=aah hS;refine abI PySem.F.entry_extend_loop ?_;rw[Around.under_plainId PySem.F.plain_extend_loop _];show wpAny _ A.in1 (pyNext (.ref z) >>= _) _ _ _;refine aaa (FI (s:={ s with heap:=h,toks:=tk }) B Z WQ hx hy λh' Z' ht hz Oc=>?_);dsimp only at ht hz Oc ⊢;have AW:=Oc S _ nz nO n1 n2 hS;have up:∀b o,b≠S->h'.get? b=some o->(h'.update S (Obj.mapSeq (·.push (Value.ref h.objs.size)))).get? b=some o:=λb o hb e=>(aaQ _ _ (aaD hb)).trans e;show wpAny _ A.in1 (updateSeq S (·.push (Value.ref h.objs.size)) >>= _) _ _ _;refine aaa ?_;refine ab_ AW rfl (aac ⟨plainId_quiet PySem.F.plain_extend_loop _,ih (i+1) _ tk _ (acc.push (Value.ref h.objs.size)) (as++[h.objs.size]) (by left) gM (Z'.keep B up)
   (λb o h1 h2 h3 h4 h5 e=>up b o h1 (Oc b o h2 h3 h4 h5 (D5 b o h1 h2 h3 h4 h5 e))) (aaZ _ AW rfl) (by rw[Array.toList_push,gY,List.map_append];rfl) (by rw[List.length_append,Ro];rfl) ⟨?_,?_,?_⟩⟩) (by rw[hsz];left) (by show(acc.push (Value.ref h.objs.size)).size<=sizeLine+1;rw[Array.size_push,hsz];left)
  ·intro a ha;rcases List.mem_append.mp ha with ha|ha
   ·exact hG.above a ha
   ·rw[List.mem_singleton.mp ha];exact WQ
  ·refine List.nodup_append.mpr ⟨hG.nd,List.nodup_cons.mpr ⟨List.not_mem_nil,aaR⟩,λa ha b hb e=>?_⟩;rw[List.mem_singleton.mp hb]at e;subst e;obtain⟨j,hj⟩:=List.mem_iff_getElem?.mp ha;obtain⟨_,_,_,_,e⟩:=hG.pairs j _ hj;exact absurd (aah e) (aaw _)
  ·intro j b hj;rcases Nat.lt_trichotomy j as.length with q|q|q
   ·rw[List.getElem?_append_left q]at hj;obtain⟨x',y',e1,e2,e3⟩:=hG.pairs j b hj;have hb:=hG.above b (aax hj);obtain⟨a1,a2,a3,a4⟩:=X3 hb;exact⟨x',y',e1,e2,up b _ (aav hb) (Oc b _ a1 a2 a3 a4 e3)⟩
   ·subst q;have hb:h.objs.size=b:=by simpa using hj
    subst hb;exact⟨_,_,by rw[Ro];exact hx,by rw[Ro];exact hy,up _ _ (aav WQ) ht⟩
   ·have QX:(as++[h.objs.size])[j]?=none:=List.getElem?_eq_none (by rw[List.length_append,List.length_singleton];left);rw[QX]at hj;exact nk hj
theorem z_(hh:A.handled=none)(B:Below z TI TO i1 i2 l1 l2 S)(hn:min xs.size ys.size<=sizeLine)(Z:Zl s.heap z TI TO i1 i2 l1 l2 S xs ys 0)(L_:IsZip s.heap z TI TO .none)(res:Value)(c₀:Nat)(hS:s.heap.get? S=some { cls:=.type "list",data:=.seq #[] c₀ })
  (hR:∀h' tk acc c as,(∀b o,b≠S->b≠z->b≠TO->b≠i1->b≠i2->s.heap.get? b=some o->h'.get? b=some o)->h'.get? S=some { cls:=.type "list",dict:=none,data:=.seq acc c,slots:=#[] }->as.length=min xs.size ys.size->Sv xs ys S h' as ->
   acc.toList=as.map Value.ref->R (.ok (.ret res)) { s with heap:=h',toks:=tk }) :
  wpAny (model prog w) A.in1 (Builtin.List.listExtendWith (.ref S) (.ref z) res)
   (λfin s'=>match fin with|.done f=>R (.ok f) s'|.again c'=>c'.quiet=true/\codeAny (model prog w) A c' R s') (λe s'=>R (.error e) s') s:=by
 have hSz:S≠z:=aav B.z;have hT:s.TypeIs (.ref z) "zip":=⟨_,L_,rfl⟩
 unfold Builtin.List.listExtendWith;refine aaa (wpAny_typeOf (T:="zip") hT ?_);have h1:Builtin.List.listSameRef (.ref S) (.ref z)=false:=by simp[Builtin.List.listSameRef,hSz]
 have h2:(Value.type "zip" == Value.type "list")=false:=by decide
 have h3:(Value.type "zip" == Value.type "tuple")=false:=by decide
 simp only[h1,h2,h3,Bool.or_false,Bool.false_eq_true,if_false];refine aaa (abC L_ ?_);refine aaa (aaL (FK hT ?_));refine wpAny_ite_split (λ_=>?_) (λsP=>absurd rfl sP);refine aaa (abg ?_);refine aaa ?_;show wpAny _ _ (updateSeq S (·.push .none) >>= λ_=>updateSeq S (·.pop)) _ _ _;refine aaa (ab_ hS rfl ?_);have zq:=aaZ (Obj.mapSeq (·.push Value.none)) hS rfl;refine ab_ (hz:=by seq_fits) zq rfl ?_;have Rt:=aaZ (Obj.mapSeq (·.pop)) zq rfl;have N1:∀b o,b≠S->s.heap.get? b=some o->((s.heap.update S (Obj.mapSeq (·.push Value.none))).update S (Obj.mapSeq (·.pop))).get? b=some o:=λb o hb e=>(aaQ _ _ (aaD hb)).trans ((aaQ _ _ (aaD hb)).trans e);refine aac ⟨plainId_quiet PySem.F.plain_extend_loop _,?_⟩;exact FH hh B hn res (s:=s) (h₁:=s.heap) hR (min xs.size ys.size) 0 _ s.toks _ #[] [] (Nat.sub_zero _) (aaK _) (Z.keep B N1) (λb o h1 _ _ _ _ e=>N1 b o h1 e) Rt rfl rfl ⟨(λ_ ha=>nomatch ha),aaR,λj a hj=>by simp at hj⟩
theorem FJ(hh:A.handled=none)(B:Below z TI TO i1 i2 l1 l2 S)(hn:min xs.size ys.size<=sizeLine)(Z:Zl s.heap z TI TO i1 i2 l1 l2 S xs ys 0)(L_:IsZip s.heap z TI TO .none)(hS:s.heap.get? S=some { cls:=.type "list",data:=.seq #[] })
  (hR:∀h' tk acc c as,(∀b o,b≠S->b≠z->b≠TO->b≠i1->b≠i2->s.heap.get? b=some o->h'.get? b=some o)->h'.get? S=some { cls:=.type "list",dict:=none,data:=.seq acc c,slots:=#[] }->as.length=min xs.size ys.size->Sv xs ys S h' as ->
   acc.toList=as.map Value.ref->R (.ok (.ret .none)) { s with heap:=h',toks:=tk }) :
  wpAny (model prog w) A.in1 (Builtin.«list.__init__» ⟨[.ref S,.ref z],[]⟩)
   (λfin s'=>match fin with|.done f=>R (.ok f) s'|.again c'=>c'.quiet=true/\codeAny (model prog w) A c' R s') (λe s'=>R (.error e) s') s:=by
 show wpAny _ _ (do let old <- Builtin.List.listItems (.ref S);Builtin.List.listUpdate (.ref S) (λ_=>#[]);letGo old.toList.reverse;Builtin.List.listExtendWith (.ref S) (.ref z) .none) _ _ s;refine aaa ?_;unfold Builtin.List.listItems;refine aaa (aaM hS rfl (aac ?_));show wpAny _ _ (updateSeq S (λ_=>#[]) >>= λ_=>letGo (#[]:aK).toList.reverse >>= λ_=>Builtin.List.listExtendWith (.ref S) (.ref z) .none) _ _ s;refine aaa (ab_ hS rfl ?_);have zq:=aaZ (Obj.mapSeq (λ_=>(#[]:aK))) hS rfl;have N1:∀b o,b≠S->s.heap.get? b=some o->(s.heap.update S (Obj.mapSeq (λ_=>(#[]:aK)))).get? b=some o :=
  λb o hb e=>(aaQ _ _ (aaD hb)).trans e
 refine aaa (wpAny_letGo ?_);refine z_ hh B hn (Z.keep B N1) (N1 _ _ (aan B.z) L_) .none _ zq λh' tk acc c as hk AW hl hG gY=>?_;exact hR h' tk acc c as (λb o h1 h2 h3 h4 h5 e=>hk b o h1 h2 h3 h4 h5 (N1 b o h1 e)) AW hl hG gY
end
section
variable {prog:aF}{w:World}{A:aE}{E:az}{s:Shared}{z TI TO i1 i2 l1 l2:Addr}{xs ys:aK}
theorem FN{Q:az}(hh:A.handled=none)(D:ZipApart z TI TO i1 i2 l1 l2)(hn:min xs.size ys.size<=sizeLine)(hz:IsZip s.heap z TI TO .none)(zp:IsPair s.heap TI (.ref i1) (.ref i2)){a b:Value}(FD:IsPair s.heap TO a b)(h1:s.heap.IsListIter i1 l1 0)(h2:s.heap.IsListIter i2 l2 0)(q1:s.heap.IsList l1 xs)(q2:s.heap.IsList l2 ys)
  (hQ:∀h' tk acc c as,(∀b o,b≠z->b≠TO->b≠i1->b≠i2->s.heap.get? b=some o->h'.get? b=some o)->h'.get? s.heap.objs.size=some { cls:=.type "list",dict:=none,data:=.seq acc c,slots:=#[] }->as.length=min xs.size ys.size->Sv xs ys s.heap.objs.size h' as ->
   acc.toList=as.map Value.ref->Q (.ref s.heap.objs.size) { s with heap:=h',toks:=tk }) :
  wpAny (model prog w) A (call (.type "list") [.ref z]) Q E s:=by
 refine callType_codes (Q₁:=λobj s₁=>obj=.ref s.heap.objs.size/\s₁={ s with heap:=s.heap.push { cls:=.type "list",data:=.seq #[] } }) PySem.F.called_list (PySem.F.typeCall_list_1 _) PySem.F.entry_list_init
  (code_list_new _ ⟨rfl,rfl⟩) λobj s₁ h₁=>?_
 obtain⟨rfl,rfl⟩:=h₁;have hS:(s.heap.push { cls:=.type "list",data:=.seq #[] }).get? s.heap.objs.size=some { cls:=.type "list",data:=.seq #[] }:=aap _ rfl;have up:∀b o,s.heap.get? b=some o->(s.heap.push { cls:=.type "list",data:=.seq #[] }).get? b=some o:=λb o e=>aai _ e;have B:Below z TI TO i1 i2 l1 l2 s.heap.objs.size:=⟨D,aah hz,aah zp,aah FD,(by obtain⟨_,e,_⟩:=h1;exact aah e),(by obtain⟨_,e,_⟩:=h2;exact aah e),(by obtain⟨_,e,_⟩:=q1;exact aah e),(by obtain⟨_,e,_⟩:=q2;exact aah e)⟩
 refine⟨⟨_,hS,rfl⟩,PySem.F.args_list_init_2 _ _,FJ (A:=A.in1) hh B hn ⟨.inl ⟨up _ _ hz,a,b,up _ _ FD⟩,up _ _ zp,h1.at λo e=>up _ o e,h2.at λo e=>up _ o e,q1.at λo e=>up _ o e,q2.at λo e=>up _ o e⟩ (up _ _ hz) hS λh' tk acc c as hk AW hl hG gY=>?_⟩;exact⟨rfl,hQ h' tk acc c as (λb o h2 h3 h4 h5 e=>hk b o (aan (aah e)) h2 h3 h4 h5 (up b o e)) AW hl hG gY⟩
end
theorem Inv.Qx{pins:ak}{s:Shared}(I:Inv X pins σ H s)(k:∀b u,s.heap.get? b=some u->h'.get? b=some u)(up:∀b u,H b=some u->H' b=some u)
  (nw:∀b u,H' b=some u->H b=some u\/(s.heap.objs.size<=b/\cy X.prog X.w H' h' b u)):Inv X pins σ H' { s with heap:=h',toks:=t' }:=by
 refine I.step (g':=s.gens) (d':=s.drawn) (ch:=[]) (λb hb=>nomatch hb) (λb o _ _ _ e _=>k b o e) (λb o _ _ _ e _=>⟨o.slots,k b o e⟩) (λb u _ e n=>?_)
  (λb o _ e=>⟨o,k b o e⟩) (λ_ _ e=>up _ _ e) (λ_ _ _ e=>up _ _ e) (λb ps e=>⟨#[],by rw[up _ _ e];simp⟩) (λm hm=>?_) (λb u e=>?_) I.bare
 ·cases q:H' b with
  |none=>rfl
  |some v =>
   rcases nw b v q with z|⟨z,_⟩
   ·rw[n]at z;exact nk z
   ·exact absurd (aah e) (Nat.not_lt.mpr z)
 ·obtain⟨o,es,ep,ho,r⟩:=hm;exact⟨o,es,ep,k _ o ho,r⟩
 ·rcases nw b u e with e|⟨_,e⟩
  ·exact(I.cV b u e).oq (λc v _ q=>k c v q) (λ_ q=>up _ _ q) λ_ _ q=>up _ _ q
  ·exact e
def qk(H:Hp):List (Addr×V×V)->Hp
 |[]=>H
 |q::r=>upd (qk H r) q.1 (.tup [q.2.1,q.2.2])
theorem kN{H:Hp}{b:Addr}{u:HO}(e:H b=some u):∀{r:List (Addr×V×V)},(∀q∈r,H q.1=none)->qk H r b=some u
 |[],_=>e
 |q::r,h=>by
  have hn:b≠q.1:=λz=>by rw[z,h q List.mem_cons_self]at e;cases e
  show upd (qk H r) q.1 _ b=_;rw[aY hn];exact kN e λq hq=>h q (aad _ hq)
theorem za{H:Hp}:∀{r:List (Addr×V×V)},(r.map (·.1)).Nodup->∀q∈r,qk H r q.1=some (.tup [q.2.1,q.2.2])
 |[],_,_,h=>nomatch h
 |q'::r,hn,q,h=>by
  show upd (qk H r) q'.1 _ q.1=_;have wB:=List.nodup_cons.mp hn;rcases List.mem_cons.mp h with rfl|h
  ·exact aX
  ·have:q.1≠q'.1:=λz=>wB.1 (by show q'.1∈_;rw[<- z];exact aaq h);rw[aY this];exact za wB.2 q h
theorem vv{H:Hp}{b:Addr}{u:HO}:∀{r:List (Addr×V×V)},qk H r b=some u->H b=some u\/∃q∈r,q.1=b/\u=.tup [q.2.1,q.2.2]
 |[],e=>.inl e
 |q::r,e=>by
  replace e:upd (qk H r) q.1 (.tup [q.2.1,q.2.2]) b=some u:=e;by_cases z:b=q.1
  ·subst z;rw[aX]at e;cases e;exact .inr ⟨q,aaf,rfl,rfl⟩
  ·rw[aY z]at e;rcases vv e with h|⟨q',h1,h2⟩
   ·exact .inl h
   ·exact .inr ⟨q',aad _ h1,h2⟩
def tLZ(K:aq)(ta:TA):TE:=λσ H Q=>ta σ H λvs H1=>∃a b xs ys,vs=[.ref a,.ref b]/\dg K H1 a xs/\dg K H1 b ys /\
 ∀(l:Addr) (r:List (Addr×V×V)),H1 l=none->(∀q∈r,H1 q.1=none)->(r.map (·.1)).Nodup->l∉r.map (·.1)->r.map (·.2)=xs.zip ys->Q (.ref l) (upd (qk H1 r) l (.lst (r.map λq=>V.ref q.1)))
theorem GQ{p:Pos}(hc:X.calm=true)(FA:Gl X "list")(hml:X.mg "list" = none)(hg:Gl X "zip")(hm:X.mg "zip" = none)(ha:PA X [e1,e2] ta)(hs:∀es,starEach (e1::es) X.env=(false,eval e1 X.env)::starEach es X.env)(Jt:∀es,starEach (e2::es) X.env=(false,eval e2 X.env)::starEach es X.env):
  PE X (.Call (.Name "list" p') [.Call (.Name "zip" p) [e1,e2] [] pos] [] pos') (tLZ X.K ta):=by
 intro pins s σ H Q I h;refine aba (fJ I FA hml boot_list ?_);refine aaB ?_;show wpAny _ _ (spliced ((false,eval (.Call (.Name "zip" p) [e1,e2] [] pos) X.env)::backTo pos' (starEach [] X.env))) _ _ s;refine acj ?_;refine Call_ (fJ I hg hm boot_zip (aaB (de (ha pos pins s σ H _ I h) λus s1 bR=>?_) (hs _) (by rw[Jt];rfl)));obtain⟨vs,H1,I1,r1,q1⟩:=bR;obtain⟨a,b,xs,ys,e,q1,q2,hq⟩:=q1;subst e;obtain⟨u,v,rfl,ru,rv⟩:=vals2 r1;cases ru;cases rv;obtain⟨aI,rx,p1,YI⟩:=I1.list q1;obtain⟨its',ry,p2,Tv⟩:=I1.list q2;refine call_zip_2 p1.isList p2.isList λh' z t o l1 l2 sz k=>acv ?_;have wC:h'.IsList a aI.toArray:=p1.isList.at λo e=>k _ o e;have vF:h'.IsList b its'.toArray:=p2.isList.at λo e=>k _ o e;have cls:∀{x y:Addr} {o u:Obj},h'.get? x=some o->h'.get? y=some u->o.cls≠u.cls->x≠y:=λh1 h2 h3=>bA h1 h2 h3;have al:@LT.lt Nat _ a s1.heap.objs.size:=by obtain⟨_,e,_⟩:=p1.isList;exact aah e
 have bl:@LT.lt Nat _ b s1.heap.objs.size:=by obtain⟨_,e,_⟩:=p2.isList;exact aah e
 have D:ZipApart (s1.heap.objs.size+4) (s1.heap.objs.size+2) (s1.heap.objs.size+3) s1.heap.objs.size (s1.heap.objs.size+1) a b:=by
  constructor<;>first|exact aan (by left)|exact aav (by left)
 have lx:=rx.length;have ly:=ry.length;have hn:min aI.toArray.size its'.toArray.size<=sizeLine:=by simp;left
 refine FN (s:={ s1 with heap:=h' }) (I1.ok.hd hc) D hn z t o l1 l2 wC vF λh'' tk acc c as hk hS hl hG gY=>?_;dsimp only at hk hS hG ⊢;have hlen:as.length=(xs.zip ys).length:=by rw[hl,List.length_zip];simp;left
 have keep:∀b o,s1.heap.get? b=some o->h''.get? b=some o:=λb o e=>by
  have:@LT.lt Nat _ b s1.heap.objs.size:=aah e;exact hk b o (aan (by left)) (aan (by left)) (aan (by left)) (aan (by left)) (k b o e)
 have fresh:∀c,s1.heap.objs.size<=c->H1 c=none:=λc h=>I1.cV.fresh h;have hS5:h'.objs.size=s1.heap.objs.size+5:=sz
 let r:List (Addr×V×V):=as.zip (xs.zip ys)
 have r1:r.map (·.1)=as:=List.map_fst_zip (by left);have r2:r.map (·.2)=xs.zip ys:=List.map_snd_zip (by left);have sP:∀c∈as,@LT.lt Nat _ h'.objs.size c:=hG.above;have We:∀q∈r,H1 q.1=none:=λq hq=>fresh _ (by have:=sP q.1 (by rw[<- r1];exact aaq hq);left);have AO:H1 h'.objs.size=none:=fresh _ (by left);have Mi:h'.objs.size∉r.map (·.1):=by rw[r1];exact λz=>absurd (sP _ z) (aaw _)
 have Fz:(r.map (·.1)).Nodup:=by rw[r1];exact hG.nd
 have D3:(as.map V.ref)=r.map λq=>V.ref q.1:=by rw[<- r1,List.map_map];rfl
 refine⟨.ref h'.objs.size,upd (qk H1 r) h'.objs.size (.lst (r.map λq=>V.ref q.1)),?_,rfl,hq _ r AO We Fz Mi r2⟩;refine Inv.Qx (s:=s1) (t':=tk) I1 keep (λb u e=>?_) λb u e=>?_
 ·rw[aY λz=>by rw[z,AO]at e;cases e];exact kN e We
 ·by_cases zb:b=h'.objs.size
  ·subst zb;rw[aX]at e;cases e;refine .inr ⟨by left,?_,acc.toList,c,?_,by rw[Array.toArray_toList];exact hS⟩
   ·rw[<- D3,List.length_map,hlen,List.length_zip];left
   ·rw[<- D3,gY];clear gY D3 hG hl hlen r1 sP Fz r r2 We Mi hS hk keep;induction as with
    |nil=>exact .nil
    |cons a as ih=>exact .cons rfl ih
  ·rw[aY zb]at e;rcases vv e with e|⟨q,hq,rfl,rfl⟩
   ·exact .inl e
   ·have hm:q.1∈as:=by rw[<- r1];exact aaq hq
    refine .inr ⟨by have:=sP _ hm;left,?_⟩;obtain⟨j,hj⟩:=List.mem_iff_getElem?.mp hq;have WC:as[j]?=some q.1/\(xs.zip ys)[j]?=some q.2:=by
     have:=List.getElem?_zip_eq_some.mp hj;exact this
    obtain⟨x,y,ex,ey,hp⟩:=hG.pairs j q.1 WC.1;obtain⟨e1,e2⟩:xs[j]?=some q.2.1/\ys[j]?=some q.2.2:=List.getElem?_zip_eq_some.mp WC.2;obtain⟨u1,Wb,U9⟩:=rx.get e1;obtain⟨u2,hu2,U8⟩:=ry.get e2;rw[List.getElem?_toArray,Wb]at ex;rw[List.getElem?_toArray,hu2]at ey;cases ex;cases ey;exact rS U9 U8 hp
noncomputable def pairD(x y:D):D:=.tup [x,y]
def Qp(xs:ab):O D:=match two xs with
 |some z=>match z.1 with
  |.lst _ a=>match z.2 with
   |.lst _ b=>ok (.lst .ow (aA bo (List.zipWith pairD a b)))
   |_=>none
  |_=>none
 |none=>none
theorem LH{x y d:D}(h:Qp [x,y]=ok d):∃f a g b,x=.lst f a/\y=.lst g b/\d=.lst .ow (aA bo (List.zipWith pairD a b)):=by
 cases x<;>first|exact nk h | (cases h;done)|skip
 cases y<;>first|exact nk h | (cases h;done)|skip
 cases h;exact⟨_,_,_,_,rfl,rfl,rfl⟩
def zR(sc:Scope)(bl:au)(e:Expr):Option (aw):=match fc e with
 |some z=>match one z.2 with
  |some i=>if z.1=("list" : Str)/\i6 sc z.1=true/\z.1∈bl then gj sc bl i else none
  |none=>none
 |none=>none
theorem ES{sc:Scope}{bl:au}{e:Expr}(h:zR sc bl e=some args):∃p pos i,e=.Call (.Name ("list" : Str) p) [i] [] pos/\i6 sc ("list" : Str)=true/\("list" : Str)∈bl/\gj sc bl i=some args:=by
 unfold zR at h;cases hv:fc e with
 |none=>rw[hv]at h;exact nk h
 |some z =>
  obtain⟨x,as⟩:=z;rw[hv]at h;obtain⟨p,pos,rfl⟩:=dq hv;have h2:(match one as with|some i=>if x=("list" : Str)/\i6 sc x=true/\x∈bl then gj sc bl i else none|none=>none)=some args:=h;clear h;cases hw:one as with
  |none=>rw[hw]at h2;exact nk h2
  |some a =>
   rw[hw]at h2;have h3:(if x=("list" : Str)/\i6 sc x=true/\x∈bl then gj sc bl a else none)=some args:=h2;clear h2;obtain rfl:=cS hw;by_cases hc:x=("list" : Str)/\i6 sc x=true/\x∈bl
   ·rw[if_pos hc]at h3;obtain⟨rfl,h1,h2⟩:=hc;exact⟨_,_,_,rfl,h1,h2,h3⟩
   ·rw[if_neg hc]at h3;cases h3
theorem uS{T:kj}{N:iJ}(hN:∀k k' p xs f,N k p xs f->N k' p xs f):∀{r:List (Addr×V×V)} {xs ys:ae} {a b:ab} {k1 k2 k:bg} {n1 n2 n:Nat},aB T N k1 n1 xs a->aB T N k2 n2 ys b->r.map (·.2)=xs.zip ys->(∀q∈r,T q.1 [q.2.1,q.2.2])->aB T N k n (r.map λq=>V.ref q.1) (List.zipWith pairD a b)
 |[],xs,ys,a,b,_,_,_,_,_,_,r1,r2,e,_=>by
  have l1:=r1.length;have l2:=r2.length;have e':=aa2 List.length e;rw[List.length_zip]at e';have:List.zipWith pairD a b=[]:=List.eq_nil_of_length_eq_zero (by rw[List.length_zipWith];simp at e';left);rw[this];exact .nil
 |q::r,xs,ys,a,b,k1,k2,k,n1,n2,n,r1,r2,e,ht=>by
  cases r1 with
  |nil=>cases e
  |cons h1 t1=>cases r2 with
   |nil=>cases e
   |cons h2 t2 =>
    have e1:q.2=(_,_):=(abo e).1;have e2:=(abo e).2;refine .cons (.tup (ht q aaf) ?_) (uS hN t1 t2 e2 λq hq=>ht q (aad _ hq));rw[e1];have m1:=Rep.iW (T':=T) (N':=N) (g:=id) (λ_ _ h=>h) hN h1 (0::n::k);have m2:=Rep.iW (T':=T) (N':=N) (g:=id) (λ_ _ h=>h) hN h2 (1::n::k);rw[d9]at m1 m2;exact .cons m1 (.cons m2 .nil)
theorem cA(g:Fl->Fl):∀a b:ab,aA g (List.zipWith pairD a b)=List.zipWith pairD (aA g a) (aA g b)
 |[],_=>by cases ‹ab› <;> rfl
 |_::_,[]=>rfl
 |x::a,y::b=>by
  show aS g (pairD x y)::aA g (List.zipWith pairD a b)=_;rw[cA g a b];rfl
theorem Qo{n:Nat}(hΦ:Φ n=Qp){sc:Scope}{bl:au}{k:Nat}(L:PX X sc bl k){e:Expr}(he:zR sc bl e=some args)(hs:mL X F Φ cs args):PE X e (tD X F Φ (.cz n cs))/\PT X e (gL X F Φ (.cz n cs)):=by
 obtain⟨p,pos,i,rfl,h1,h2,hz⟩:=ES he;obtain⟨p',pos',a,b,rfl,rfl,h3,h4⟩:=l8 hz;obtain⟨⟨c,d,rfl,_,_⟩,pa,s1,s2⟩:=iU hs;have this:PE X (.Call (.Name ("list" : Str) p) [.Call (.Name ("zip" : Str) p') [a,b] [] pos'] [] pos) (tD X F Φ (.cz n [c,d])):=by
  refine PE.imp (GQ L.calm (L.gl h1) (L.bl _ h2) (L.gl h3) (L.bl _ h4) pa s1 s2) λσ H Q hq=>?_;obtain⟨R,τ,ρ,d',Si,ev,hq⟩:=hq;obtain⟨xs,cF,ev⟩:=aG ev;rw[hΦ]at ev;refine⟨R,τ,ρ,xs,Si,cF,λvs H1 e1 r1=>?_⟩;obtain⟨τt,fr,rs⟩:=r1;have hl:∃x y,xs=[x,y]:=by
   unfold Qp at ev;cases hw:two xs with
   |none=>rw[hw]at ev;exact nk ev
   |some z=>exact⟨z.1,z.2,f_ hw⟩
  obtain⟨x,y,rfl⟩:=hl;obtain⟨f,da,g,db,rfl,rfl,rfl⟩:=LH ev;obtain⟨v,w,rfl,rx,ry⟩:=rs.two;cases rx with
  |lst hx ax=>cases ry with
   |lst hy ay =>
    refine⟨_,_,_,_,rfl,hx.sq,hy.sq,λl r hl hr hn Mi hz=>hq _ _ ?_ ?_⟩
    ·intro b o e;have e':=e1 b o e;rw[aY λz=>by rw[z,hl]at e';cases e'];exact kN e' hr
    ·have sm:aJ H1 (upd (qk H1 r) l (.lst (r.map λq=>V.ref q.1))):=λb o e=>by
      rw[aY λz=>by rw[z,hl]at e;cases e];exact kN e hr
     refine bX.vi (e1.free hl) (e1.trans sm) aX ?_;rw[cA];refine uS nd.ph ((ax.fe Si fr (k':=[]) (n':=0)).imp (λ_ _ h=>aU.same sm h) λ_ _ _ _ h=>nd.same sm h) ((ay.fe Si fr (k':=[]) (n':=0)).imp (λ_ _ h=>aU.same sm h) λ_ _ _ _ h=>nd.same sm h) hz λq hq=>?_;have zm:q.1≠l:=λz=>Mi (by rw[<- z];exact aaq hq);exact aU.of (by rw[aY zm];exact za hn q hq)
 exact⟨this,cG this λ_=>rfl⟩
theorem aB.JN{T:kj}{N:iJ}{k:bg}:∀(j:Nat) {n:Nat} {vs:ae} {ds:ab},aB T N k n vs ds->aB T N k (n+j) (vs.drop j) (ds.drop j)
 |0,_,_,_,h=>h
 |j+1,_,_,_,.nil=>.nil
 |j+1,n,_,_,.cons h t=>by
  rw[show n+(j+1)=n+1+j by left];exact aB.JN j t
theorem aB.IQ{T:kj}{N:iJ}{k:bg}:∀(j:Nat) {n:Nat} {vs:ae} {ds:ab},aB T N k n vs ds->aB T N k n (vs.take j) (ds.take j)
 |0,_,_,_,_=>by rw[List.take_zero,List.take_zero];exact .nil
 |j+1,_,_,_,.nil=>.nil
 |j+1,n,_,_,.cons h t=>.cons h (aB.IQ j t)
noncomputable def qr{α:Type}(b:Bool)(k:Nat)(xs:List α):List α:=if b then xs.drop k else xs.take k
def Pm(K:aq)(b:Bool):V->Option Int->Option Int->Hp->VK->Prop:=λx lo hi H Q=>∃(a:Addr) (xs:ae) (k:Nat),x=.ref a/\dg K H a xs/\lo=(if b then some (k:Int)else none)/\hi=(if b then none else some (k:Int))/\k<=xs.length/\∀p,H p=none->Q (.ref p) (upd H p (.lst (qr b k xs)))
theorem yy(b:Bool):XN X (Pm X.K b):=by
 intro pins s σ H x v vl vu lo hi sl Q I rx hs pl pu h;obtain⟨a,xs,k,rfl,hx,rfl,rfl,hk,q⟩:=h;cases rx;obtain⟨aI,r,Jc,hz⟩:=I.list hx;have hl:=du Jc;have hlen:aI.length=xs.length:=r.length.symm;refine⟨"list",_,slot_list_getitem.lookup,hl.typeIs,wpAny_getItem_list_slice hl hs pl pu .none (by simp) ?_ (by rw[List.size_toArray,hlen];exact hz)⟩;have e:slicePick aI.toArray (if b then some (k:Int)else none) (if b then none else some (k:Int)) none=(qr b k aI).toArray:=by
  cases b with
  |true=>exact slicePick_from aI.toArray k (by simp;left)
  |false=>exact slicePick_upto aI.toArray k (by simp;left)
 have rc:Vals (qr b k xs) (qr b k aI):=by
  cases b with
  |true=>exact r.drop k
  |false=>exact r.take k
 have lc:(qr b k xs).length<=xs.length:=by
  cases b with
  |true=>show(xs.drop k).length<=_;rw[List.length_drop];left
  |false=>show(xs.take k).length<=_;rw[List.length_take];left
 rw[e];exact⟨.ref s.heap.objs.size,_,I.LM (t':=s.toks) rc (aau lc hz),rfl,q _ I.fresh⟩
def cutD(b:Bool)(xs:ab):O D:=match two xs with
 |some z=>match z.1 with
  |.lst _ ds=>match z.2 with
   |.int k=>if 0<=k/\k<=ds.length then ok (.lst .ow (aA bo (qr b k.toNat ds)))else none
   |_=>none
  |_=>none
 |none=>none
theorem H9{b:Bool}{x y d:D}(h:cutD b [x,y]=ok d):∃(f:Fl) (ds:ab) (k:Nat),x=.lst f ds/\y=.int k/\k<=ds.length/\d=.lst .ow (aA bo (qr b k ds)):=by
 cases x<;>first|exact nk h | (cases h;done) | (cases y<;>first|exact nk h | (cases h;done)|skip)
 obtain⟨⟨h1,h2⟩,h3⟩:=o7 h;rename_i f ds k;exact⟨f,ds,k.toNat,rfl,by rw[Int.toNat_of_nonneg h1],by left,h3.symm⟩
noncomputable def F1(b:Bool)(e:Expr):Option Expr:=match e with
 |.Slice lo hi st _=>match st with
  |none=>match b with
   |true=>match hi with
    |none=>lo
    |some _=>none
   |false=>match lo with
    |none=>hi
    |some _=>none
  |some _=>none
 |_=>none
theorem F0{b:Bool}{e k:Expr}(h:F1 b e=some k):∃p,e=.Slice (if b then some k else none) (if b then none else some k) none p:=by
 cases e<;>first|exact nk h | (cases h;done)|skip
 rename_i lo hi st p;cases st with
 |some _=>cases h
 |none=>cases b with
  |true=>cases hi with
   |some _=>cases h
   |none=>cases h;exact⟨p,rfl⟩
  |false=>cases lo with
   |some _=>cases h
   |none=>cases h;exact⟨p,rfl⟩
def tm(b:Bool)(_:Scope)(_:au)(e:Expr):Option (aw):=match n8 e with
 |some z=>match F1 b z.2 with
  |some k=>some [z.1,k]
  |none=>none
 |none=>none
theorem Bc{b:Bool}{sc:Scope}{bl:au}{e:Expr}(h:tm b sc bl e=some args):∃a k p pos,e=.Subscript a (.Slice (if b then some k else none) (if b then none else some k) none p) pos/\args=[a,k]:=by
 unfold tm at h;cases hv:n8 e with
 |none=>rw[hv]at h;exact nk h
 |some z =>
  obtain⟨a,s⟩:=z;rw[hv]at h;obtain⟨pos,rfl⟩:=ku hv;have h:(match F1 b s with|some k=>some [a,k]|none=>none)=some args:=h;cases hw:F1 b s with
  |none=>rw[hw]at h;exact nk h
  |some k =>
   rw[hw]at h;cases h;obtain⟨p,rfl⟩:=F0 hw;exact⟨a,k,p,pos,rfl,rfl⟩
theorem Nu{b:Bool}{n:Nat}(hΦ:Φ n=cutD b){sc:Scope}{bl:au}{k:Nat}(L:PX X sc bl k){e:Expr}(he:tm b sc bl e=some args)(hs:mL X F Φ cs args):PE X e (tD X F Φ (.cz n cs))/\PT X e (gL X F Φ (.cz n cs)):=by
 obtain⟨a,ke,p,pos,rfl,rfl⟩:=Bc he;cases cs with
 |nil=>exact hs.elim
 |cons c cs=>cases cs with
  |nil=>exact hs.2.2.2.elim
  |cons c' cs=>cases cs with
   |cons _ _=>exact hs.2.2.2.2.2.2.elim
   |nil =>
    obtain⟨h1,_,_,h2,_,_,_⟩:=hs;have this:PE X (.Subscript a (.Slice (if b then some ke else none) (if b then none else some ke) none p) pos) (tD X F Φ (.cz n [c,c'])):=by
     have go:∀{tl th:TO},PO X (if b then some ke else none) tl->PO X (if b then none else some ke) th->(∀(H1:Hp) (R:aj) (τ:Addr->Option bg) (ρ:bc) (k:Nat) (σ:St) (Q:Option Int->Option Int->Hp->Prop),SI X F R τ ρ σ H1->bp Φ c' ρ=ok (.int k)->(∀H2,aJ H1 H2->Q (if b then some (k:Int)else none) (if b then none else some (k:Int)) H2)->tl σ H1 λl H2=>th σ H2 λu H3=>Q l u H3)->PE X (.Subscript a (.Slice (if b then some ke else none) (if b then none else some ke) none p) pos) (tD X F Φ (.cz n [c,c'])):=by
      intro tl th pl pu hh;refine PE.imp (CT (yy b) h1 pl pu) λσ H Q hq=>?_;obtain⟨R,τ,ρ,d,Si,ev,hq⟩:=hq;obtain⟨xs,cF,ev⟩:=aG ev;obtain⟨x,ex,cF⟩:=aG cF;obtain⟨ys,vP,cF⟩:=aG cF;cases cF;obtain⟨y,ey,vP⟩:=aG vP;cases vP;rw[hΦ]at ev;obtain⟨f,ds,j,rfl,rfl,hj,rfl⟩:=H9 ev;refine tD.intro Si ex λv H1 e1 r1=>hh H1 R τ ρ j σ (λl u H3=>Pm X.K b v l u H3 Q) (Si.go e1) ey λH2 e2=>?_;have r2:=(r1.go e2).mono (fv':=gN (.cz n [c,c'])) λi hi=>aaP _ hi;obtain⟨τt,fr,rp⟩:=r2;obtain⟨q,xs,rfl,hn,rs⟩:=rp.rM;have ee:=e1.trans e2;refine⟨q,xs,j,rfl,hn.sq,rfl,rfl,by rw[rs.length];exact hj,λl hl=>hq _ _ (ee.trans (aJ.upd hl)) (bX.vi (ee.free hl) (ee.trans (aJ.upd hl)) aX ?_)⟩;have rc:∃n',aB (aU X.K H2) (nd X.K R (jQ (gP X F) τ (gN (.cz n [c,c']))) τt H2) [] n' (qr b j xs) (qr b j ds):=by
       cases b with
       |true=>exact⟨_,rs.JN j⟩
       |false=>exact⟨_,rs.IQ j⟩
      obtain⟨n',rc⟩:=rc;exact(rc.fe Si fr).imp (λ_ _ h=>aU.same (aJ.upd hl) h) λ_ _ _ _ h=>nd.same (aJ.upd hl) h
     cases b with
     |true =>
      refine go (yK h2) yL λH1 R τ ρ k σ Q Si ek hk=>tD.intro Si ek λv H2 e2 r2=>?_;cases r2.isInt;exact⟨k,rfl,hk H2 e2⟩
     |false =>
      refine go yL (yK h2) λH1 R τ ρ k σ Q Si ek hk=>tD.intro Si ek λv H2 e2 r2=>?_;cases r2.isInt;exact⟨k,rfl,hk H2 e2⟩
    exact⟨this,cG this λ_=>by cases b<;>rfl⟩
section
open PySem.SeqAt
open PySem.AutoSeq1 (wpAny_loadPart')
open PySem.MeetsSeq PySem.MeetsSeq2 PySem.MeetsSeq3
theorem CA(A:aE)(s:Shared)(a:Int)(t:Tok)(c:Int)(u:Tok)(prog:aF)(w:World)(E:az)(Q:az)(h:Q (.bool (decide (a ≥ c))) s):wpAny (model prog w) A (richCompare .GtE (.int a t) (.int c u)) Q E s :=
 (PyProof.Rows.ge_int h:wpAny (model prog w) A (compareOp .GtE (.int a t) (.int c u)) Q E s)
theorem Hf{vs ws:ao}{ms:aa}{m n:Nat}(h1:IntsAre vs ns)(h2:IntsAre ws ms)(hz:vs.zip ws=[])(hl:ns.length+n=ms.length+m):(!HT.lexLt ns ms)=decide (m ≥ n):=by
 cases h1 with
 |nil=>cases h2 with
  |nil=>simp only[List.length_nil]at hl;exact(abi (by left)).symm
  |cons c u h=>simp only[List.length_nil,List.length_cons]at hl;exact(aa4 (by left)).symm
 |cons a t h=>cases h2 with
  |nil=>simp only[List.length_nil,List.length_cons]at hl;exact(abi (by left)).symm
  |cons c u h=>rw[List.zip_cons_cons]at hz;cases hz
theorem p7(l b:Addr)(items di:aK)(n n2:Nat)(dd zN:Option Addr)(sl yA:Array (Option Value))(ns ms:aa)(hi:IntsAre items.toList ns)(hj:IntsAre di.toList ms):
  Meets (Builtin.«tuple.__ge__» ⟨[.ref l,.ref b],[]⟩) (λ_ R s=>s.heap.get? l=some { cls:=.type "tuple",dict:=dd,data:=.seq items n,slots:=sl }/\s.heap.get? b=some { cls:=.type "tuple",dict:=zN,data:=.seq di n2,slots:=yA }/\R (.ok (.ret (.bool (!HT.lexLt ns ms)))) s) :=
 .of_wp λprog w A R s h=>by
  obtain⟨hp,g,d,tk,os⟩:=s;obtain⟨hl,hb,h⟩:=h;have f2:=AutoSeq1.sub_tuple_tuple;have z1:items.size=ns.length:=by rw[<- hi.length];simp
  have z2:di.size=ms.length:=by rw[<- hj.length];simp
  wp_walk using wpAny_loadPart' hl,wpAny_loadPart' hb,wpAny_forIn_list _ (λrest b s'=>b.1=none/\s'=⟨hp,g,d,tk,os⟩/\∃(vs ws:ao) (lA Br:aa),rest=vs.zip ws/\IntsAre vs lA/\IntsAre ws Br/\lA.length+di.size=Br.length+items.size/\R (.ok (.ret (.bool (!HT.lexLt lA Br)))) ⟨hp,g,d,tk,os⟩) _
  case turn =>
   rintro ⟨y,x⟩ rest b s' ⟨qm,rfl,vs,ws,lA,Br,hz,Ma,Js,hlen,hR⟩;cases Ma with
   |nil=>rw[List.zip_nil_left]at hz;cases hz
   |cons a t hvi'=>cases Js with
    |nil=>rw[List.zip_nil_right]at hz;cases hz
    |cons c u hwi' =>
     rw[List.zip_cons_cons]at hz;injection hz with V7 DY
     injection V7 with hy hx
     subst hy hx;rw[HT.dH]at hR;simp only[List.length_cons]at hlen;obtain⟨e,he,D7⟩:=HT.vR A.in1 ⟨hp,g,d,tk,os⟩ a t c u;refine aaa (he prog w _ _ ?_);cases e with
     |true =>
      rw[if_pos (D7.mp rfl)]at hR
      wp_walk
      exact⟨rfl,rfl,_,_,_,_,DY,hvi',hwi',by left,hR⟩
     |false =>
      have Bu:¬ a=c:=λq=>absurd (D7.mpr q) aag;rw[if_neg Bu,show(!decide (a<c))=decide (a ≥ c) by by_cases q:a<c<;>simp[q]<;>left]at hR;have Wf:=CA A.in1 ⟨hp,g,d,tk,os⟩ a t c u prog w
      wp_walk using Wf
      exact⟨_,rfl,by simpa using hR⟩
  case fin =>
   rintro ⟨b1,b2⟩ s' ⟨qm,rfl,vs,ws,lA,Br,hz,Ma,Js,hlen,hR⟩;simp only at qm;subst qm;rw[Hf Ma Js hz.symm hlen]at hR
   wp_walk
   exact⟨_,rfl,by simpa [Builtin.Tuple.tupleCompareSizes]using hR⟩
  case h=>exact⟨rfl,rfl,items.toList,di.toList,ns,ms,rfl,hi,hj,by left,h⟩
end
def Pl(K:aq):R2:=λx y H Q=>∃a b ns ms,x=.ref a/\y=.ref b/\aU K H a (ns.map V.int)/\aU K H b (ms.map V.int)/\Q (.bl (!HT.lexLt ns ms)) H
theorem C7(hu:X.A.units<cLine):j7 X (compareOp .GtE) (Pl X.K):=by
 intro pins s σ H x y v u Q I rx ry h;obtain⟨a,b,ns,ms,rfl,rfl,ha,hb,q⟩:=h;cases rx;cases ry;obtain⟨aI,r1,⟨⟨cls,dd,data,sl⟩,ho,hc,n,hd⟩,_⟩:=I.tuple ha;obtain⟨mU,r2,⟨⟨Ia,zN,data2,yA⟩,sL,hc2,n2,hd2⟩,_⟩:=I.tuple hb;simp only at hc hd hc2 hd2;subst hc hd hc2 hd2;exact richCompare_meets_room (op:=.GtE) ⟨_,ho,rfl⟩ ⟨_,sL,rfl⟩ PySem.F.slot_tuple_ge PySem.F.entry_tuple_ge (PySem.F.args_tuple_ge_2 _ _) (p7 a b aI.toArray mU.toArray n n2 dd zN sl yA ns ms (intsAre_of r1) (intsAre_of r2))
  ⟨ho,sL,show Value.bool (!HT.lexLt ns ms)≠Value.notImplemented/\EP X pins σ Q (.bool (!HT.lexLt ns ms)) s from⟨(λx=>nomatch x),⟨.bl _,H,I,rfl,q⟩⟩⟩ hu
def Oh(xs:ab):O D:=match two xs with
 |some z=>match z.1 with
  |.tup a=>match z.2 with
   |.tup b=>match intsOf a with
    |some ns=>match intsOf b with
     |some ms=>ok (.bl (!HT.lexLt ns ms))
     |none=>none
    |none=>none
   |_=>none
  |_=>none
 |none=>none
theorem MJ{x y d:D}(h:Oh [x,y]=ok d):∃ns ms:aa,x=.tup (ns.map D.int)/\y=.tup (ms.map D.int)/\d=.bl (!HT.lexLt ns ms):=by
 cases x<;>first|exact nk h | (cases h;done) | (cases y<;>first|exact nk h | (cases h;done)|skip)
 rename_i a b;have h:(match intsOf a with|some ns=>(match intsOf b with|some ms=>ok (D.bl (!HT.lexLt ns ms))|none=>none)|none=>none)=ok d:=h;cases h1:intsOf a with
 |none=>rw[h1]at h;exact nk h
 |some ns=>cases h2:intsOf b with
  |none=>rw[h1,h2]at h;cases h
  |some ms =>
   rw[h1,h2]at h;cases h;exact⟨ns,ms,by rw[dP h1],by rw[dP h2],rfl⟩
def zS(_:Scope)(_:au)(e:Expr):Option (aw):=match F2 e with
 |some z=>match one z.2.2 with
  |some r=>if z.2.1=[.GtE]then some [z.1,r]else none
  |none=>none
 |none=>none
theorem ET{sc:Scope}{bl:au}{e:Expr}(h:zS sc bl e=some args):∃l r p,e=.Compare l [.GtE] [r] p/\args=[l,r]:=by
 unfold zS at h;cases hv:F2 e with
 |none=>rw[hv]at h;exact nk h
 |some z =>
  obtain⟨l,os,rs⟩:=z;rw[hv]at h;obtain⟨p,rfl⟩:=ye hv;replace h:(match one rs with|some r=>if os=[.GtE]then some [l,r]else none|none=>none)=some args:=h;cases hw:one rs with
  |none=>rw[hw]at h;exact nk h
  |some r =>
   rw[hw]at h;replace h:(if os=[.GtE]then some [l,r]else none)=some args:=h;obtain rfl:=cS hw;by_cases hc:os=[.GtE]
   ·rw[if_pos hc]at h;cases h;subst hc;exact⟨l,r,p,rfl,rfl⟩
   ·rw[if_neg hc]at h;cases h
theorem RG{n:Nat}(hΦ:Φ n=Oh){sc:Scope}{bl:au}{k:Nat}(L:PX X sc bl k){e:Expr}(he:zS sc bl e=some args)(hs:mL X F Φ cs args):PE X e (tD X F Φ (.cz n cs))/\PT X e (gL X F Φ (.cz n cs)):=by
 obtain⟨l,r,p,rfl,rfl⟩:=ET he;have hu:X.A.units<cLine:=by have:=L.room.units;left
 cases cs with
 |nil=>exact hs.elim
 |cons c cs=>cases cs with
  |nil=>exact hs.2.2.2.elim
  |cons c' cs=>cases cs with
   |cons _ _=>exact hs.2.2.2.2.2.2.elim
   |nil =>
    obtain⟨h1,_,_,h2,_,_,_⟩:=hs;have key:∀{σ:St} {H:Hp} {R:aj} {τ:Addr->Option bg} {ρ:bc} {d:D} {Q:VK},SI X F R τ ρ σ H->bp Φ (.cz n [c,c']) ρ=ok d->(∀b H2,d=.bl b->aJ H H2->Q (.bl b) H2)->IT (Pl X.K) (tD X F Φ c) (tD X F Φ c') σ H Q:=by
     intro σ H R τ ρ d Q Si ev hq;obtain⟨xs,cF,ev⟩:=aG ev;obtain⟨x,ex,cF⟩:=aG cF;obtain⟨ys,vP,cF⟩:=aG cF;cases cF;obtain⟨y,ey,vP⟩:=aG vP;cases vP;rw[hΦ]at ev;obtain⟨ns,ms,rfl,rfl,rfl⟩:=MJ ev;refine tD.intro Si ex λv H1 e1 r1=>tD.intro (Si.go e1) ey λu H2 e2 r2=>?_;obtain⟨_,_,p1⟩:=r1.go e2;obtain⟨_,_,p2⟩:=r2;cases p1 with
     |tup t1 s1=>cases p2 with
      |tup t2 s2 =>
       cases s1.ofInts;cases s2.ofInts;exact⟨_,_,ns,ms,rfl,rfl,t1,t2,hq _ H2 rfl (e1.trans e2)⟩
    refine⟨PE.imp (yS (C7 hu) h1 h2 (Dg _)) λσ H Q hq=>?_,PT.imp (yI (C7 hu) h1 h2 (Dg _)) λσ H Q hq=>?_⟩
    ·obtain⟨R,τ,ρ,d,Si,ev,hq⟩:=hq;exact key Si ev λb H2 e es=>hq _ H2 es (by subst e;exact .bl)
    ·obtain⟨R,τ,ρ,b,Si,ev,hq⟩:=hq;obtain⟨d,ed,et⟩:=aG ev;refine key Si ed λb' H2 e es=>?_;subst e;cases et;exact⟨_,rfl,hq H2 es⟩
end DI
end
section
namespace DI
open PySem PySem.Spec PyProof.Rows L2 PySem.W
noncomputable def cQ{α:Type}(lt:Nat->Nat->Bool):KasT α->α
 |.ret a=>a
 |.ask i j k=>cQ lt (k (lt i j))
theorem gF{α β:Type}(lt:Nat->Nat->Bool)(f:α->KasT β):∀t:KasT α,cQ lt (t.bind f)=cQ lt (f (cQ lt t))
 |.ret a=>rfl
 |.ask i j k=>gF lt f (k (lt i j))
section
noncomputable def jL{α:Type}(n:Nat)(lt:Nat->Nat->Bool):KasT α->Prop
 |.ret _=>True
 |.ask i j k=>i<n/\j<n/\jL n lt (k (lt i j))
end
theorem z0{α:Type}{cmp:Nat->Nat->(Bool->Shared->Prop)->Shared->Prop}{lt:Nat->Nat->Bool}{s:Shared}{n:Nat}(hc:∀i j C,i<n->j<n->C (lt i j) s->cmp i j C s){Q:α->Shared->Prop}:
  ∀(t:KasT α),jL n lt t->Q (cQ lt t) s->t.kasWp cmp Q s
 |.ret a,_,h=>h
 |.ask i j k,⟨h1,h2,h3⟩,h=>hc i j _ h1 h2 (z0 hc (k (lt i j)) h3 h)
theorem fE{α β:Type}{lt:Nat->Nat->Bool}{n:Nat}{f:α->KasT β}:∀{t:KasT α},jL n lt t->jL n lt (f (cQ lt t))->jL n lt (t.bind f)
 |.ret _,_,h=>h
 |.ask i j k,⟨h1,h2,h3⟩,h=>⟨h1,h2,fE h3 h⟩
structure Ord(lt:Nat->Nat->Bool)(n:Nat):Prop where
 tr:∀a b c,a<n->b<n->c<n->lt a b=true->lt b c=true->lt a c=true
 as:∀a b,a<n->b<n->lt a b=true->lt b a=false
 SH:∀a b,a<n->b<n->a≠b->lt a b=true\/lt b a=true
structure Arr(p:Array Nat)(n:Nat):Prop where
 sz:p.size=n
 pm:p.toList.Perm (List.range n)
section
variable {lt:Nat->Nat->Bool}{n:Nat}{p:Array Nat}
theorem Arr.bd(h:Arr p n){i:Nat}(hi:i<n):p.getD i 0<n:=by
 have o9:i<p.size:=by rw[h.sz];exact hi
 have:p.getD i 0=p[i]:=by simp[Array.getD,o9]
 rw[this];have hm:p[i]∈p.toList:=Array.getElem_mem_toList o9;exact List.mem_range.mp (h.pm.mem_iff.mp hm)
theorem Arr.inj(h:Arr p n){i j:Nat}(hi:i<n)(hj:j<n)(e:p.getD i 0=p.getD j 0):i=j:=by
 have o9:i<p.toList.length:=by rw[Array.length_toList,h.sz];exact hi
 have WC:j<p.toList.length:=by rw[Array.length_toList,h.sz];exact hj
 have nd:p.toList.Nodup:=h.pm.nodup_iff.mpr List.nodup_range;have e1:p.getD i 0=p.toList[i]:=by simp[Array.getD,show i<p.size by rw[h.sz];exact hi]
 have e2:p.getD j 0=p.toList[j]:=by simp[Array.getD,show j<p.size by rw[h.sz];exact hj]
 rw[e1,e2]at e;exact(acx nd).mp e
def Up(lt:Nat->Nat->Bool)(p:Array Nat)(k:Nat):Prop:=∀i j,i<j->j<k->lt (p.getD i 0) (p.getD j 0)=true
def Dn(lt:Nat->Nat->Bool)(p:Array Nat)(k:Nat):Prop:=∀i j,i<j->j<k->lt (p.getD j 0) (p.getD i 0)=true
theorem Up.snoc(O:Ord lt n)(h:Arr p n){k:Nat}(hk:k<n)(h1:1<=k)(u:Up lt p k)(hl:lt (p.getD (k - 1) 0) (p.getD k 0)=true):Up lt p (k+1):=λi j jx hj=>by
 by_cases e:j=k
 ·subst e;by_cases e2:i=j - 1
  ·subst e2;exact hl
  ·exact O.tr _ _ _ (h.bd (by left)) (h.bd (by left)) (h.bd hk) (u i (j - 1) (by left) (by left)) hl
 ·exact u i j jx (by left)
theorem Dn.snoc(O:Ord lt n)(h:Arr p n){k:Nat}(hk:k<n)(h1:1<=k)(u:Dn lt p k)(hl:lt (p.getD k 0) (p.getD (k - 1) 0)=true):Dn lt p (k+1):=λi j jx hj=>by
 by_cases e:j=k
 ·subst e;by_cases e2:i=j - 1
  ·subst e2;exact hl
  ·exact O.tr _ _ _ (h.bd hk) (h.bd (by left)) (h.bd (by left)) hl (u i (j - 1) (by left) (by left))
 ·exact u i j jx (by left)
theorem tL(O:Ord lt n)(h:Arr p n):∀(f k:Nat),1<=k->k+f<=n->Up lt p k->jL n lt (kas_asc p f k)/\k<=cQ lt (kas_asc p f k)/\cQ lt (kas_asc p f k)<=k+f/\Up lt p (cQ lt (kas_asc p f k))
 |0,k,_,_,u=>⟨trivial,aal _,aal _,u⟩
 |f+1,k,h1,hf,u=>by
  have a1:p.getD k 0<n:=h.bd (by left);have a2:p.getD (k - 1) 0<n:=h.bd (by left);cases c:lt (p.getD k 0) (p.getD (k - 1) 0)with
  |true =>
   have e:cQ lt (kas_asc p (f+1) k)=k:=by
    show cQ lt (if lt (p.getD k 0) (p.getD (k - 1) 0)=true then .ret k else kas_asc p f (k+1))=k;rw[c];rfl
   refine⟨⟨a1,a2,?_⟩,by rw[e];exact aal _,by rw[e];left,by rw[e];exact u⟩;show jL n lt (if lt (p.getD k 0) (p.getD (k - 1) 0)=true then .ret k else kas_asc p f (k+1));rw[c];trivial
  |false =>
   have e:cQ lt (kas_asc p (f+1) k)=cQ lt (kas_asc p f (k+1)):=by
    show cQ lt (if lt (p.getD k 0) (p.getD (k - 1) 0)=true then .ret k else kas_asc p f (k+1))=_;rw[c];rfl
   have hl:lt (p.getD (k - 1) 0) (p.getD k 0)=true:=by
    rcases O.SH _ _ a2 a1 (λz=>absurd (h.inj (by left) (by left) z) (by left))with z|z
    ·exact z
    ·rw[c]at z;cases z
   obtain⟨b1,b2,b3,b4⟩:=tL O h f (k+1) (by left) (by left) (u.snoc O h (by left) h1 hl);refine⟨⟨a1,a2,?_⟩,by rw[e];left,by rw[e];left,by rw[e];exact b4⟩;show jL n lt (if lt (p.getD k 0) (p.getD (k - 1) 0)=true then .ret k else kas_asc p f (k+1));rw[c];exact b1
theorem zM(O:Ord lt n)(h:Arr p n):∀(f k:Nat),1<=k->k+f<=n->Dn lt p k->jL n lt (kas_desc f p k 0)/\∃m,cQ lt (kas_desc f p k 0)=(p,m,0)/\k<=m/\m<=k+f/\Dn lt p m
 |0,k,_,_,u=>⟨trivial,k,rfl,aal _,aal _,u⟩
 |f+1,k,h1,hf,u=>by
  have a1:p.getD k 0<n:=h.bd (by left);have a2:p.getD (k - 1) 0<n:=h.bd (by left);cases c:lt (p.getD k 0) (p.getD (k - 1) 0)with
  |true =>
   obtain⟨b1,m,b2,b3,b4,b5⟩:=zM O h f (k+1) (by left) (by left) (u.snoc O h (by left) h1 c);have e:kas_desc (f+1) p k 0=.ask (p.getD k 0) (p.getD (k - 1) 0) λc=>if c=true then(if (0:Nat)>0 then kas_desc f (kas_rev p (k - (0+1)) k) (k+1) 0 else kas_desc f p (k+1) 0)else .ask (p.getD (k - 1) 0) (p.getD k 0) λd=>if d=true then .ret (p,k,0)else kas_desc f p (k+1) (0+1):=rfl
   rw[e];refine⟨⟨a1,a2,?_⟩,m,?_,by left,by left,b5⟩
   ·rw[c];exact b1
   ·show cQ lt (if lt (p.getD k 0) (p.getD (k - 1) 0)=true then _ else _)=_;rw[c];exact b2
  |false =>
   have hl:lt (p.getD (k - 1) 0) (p.getD k 0)=true:=by
    rcases O.SH _ _ a2 a1 (λz=>absurd (h.inj (by left) (by left) z) (by left))with z|z
    ·exact z
    ·rw[c]at z;cases z
   have e:kas_desc (f+1) p k 0=.ask (p.getD k 0) (p.getD (k - 1) 0) λc=>if c=true then(if (0:Nat)>0 then kas_desc f (kas_rev p (k - (0+1)) k) (k+1) 0 else kas_desc f p (k+1) 0)else .ask (p.getD (k - 1) 0) (p.getD k 0) λd=>if d=true then .ret (p,k,0)else kas_desc f p (k+1) (0+1):=rfl
   rw[e];refine⟨⟨a1,a2,?_⟩,k,?_,aal _,by left,u⟩
   ·rw[c];exact⟨a2,a1,by rw[hl];trivial⟩
   ·show cQ lt (if lt (p.getD k 0) (p.getD (k - 1) 0)=true then _ else _)=_;rw[c];show cQ lt (if lt (p.getD (k - 1) 0) (p.getD k 0)=true then _ else _)=_;rw[hl];rfl
theorem nE{p q:Array Nat}{i j:Nat}(h:p[i]?=q[j]?):p.getD i 0=q.getD j 0:=by
 rw[Array.getD_eq_getD_getElem?,Array.getD_eq_getD_getElem?,h]
theorem KI(h:Arr p n){m:Nat}(hm:m<=n):Arr (kas_rev p 0 m) n/\(Dn lt p m->Up lt (kas_rev p 0 m) m):=by
 have hs:(kas_rev p 0 m).size=p.size:=mirror_size _ _ _ _;refine⟨⟨by rw[hs];exact h.sz,?_⟩,λu i j jx hj=>?_⟩
 ·have:=(mirror_perm p 0 m ((m - 0) / 2)).toList;exact this.trans h.pm
 ·have g:∀k,k<m->(kas_rev p 0 m).getD k 0=p.getD (m - 1 - k) 0:=λk hk=>by
   refine nE ?_;rw[show kas_rev p 0 m=mirror p 0 m ((m - 0) / 2) from rfl,getElem?_mirror_all (by rw[h.sz];exact hm),if_pos ⟨Nat.zero_le _,hk⟩];congr 1;left
  rw[g i (by left),g j hj];exact u (m - 1 - j) (m - 1 - i) (by left) (by left)
theorem B4(O:Ord lt n)(h:Arr p n){m:Nat}(h1:1<=m)(hm:m<=n)(u:Dn lt p m):jL n lt (kas_tail3 m n p)/\∃r,cQ lt (kas_tail3 m n p)=r/\Arr r.2 n/\1<=r.1/\r.1<=n/\Up lt r.2 r.1:=by
 obtain⟨a1,a2⟩:=KI (lt:=lt) h hm;obtain⟨b1,b2,b3,b4⟩:=tL O a1 (n - m) m h1 (by left) (a2 u);unfold kas_tail3;refine⟨fE b1 trivial,_,rfl,?_⟩;rw[gF];exact⟨a1,aau h1 b2,by show cQ lt _<=n;left,b4⟩
theorem EM(O:Ord lt n)(h:Arr p n)(hn:2<=n):jL n lt (kas_count n p)/\∃r,cQ lt (kas_count n p)=r/\Arr r.2 n/\1<=r.1/\r.1<=n/\Up lt r.2 r.1:=by
 obtain⟨b1,b2,b3,b4⟩:=tL O h (n - 1) 1 (aal _) (by left) (λi j _ _=>by left);generalize hk:cQ lt (kas_asc p (n - 1) 1)=k at *;have key:∀t:KasT (Nat×Array Nat),t=(if (k==n)=true then .ret (k,p)else if k>1 then .ask (p.getD 0 0) (p.getD (k - 1) 0) λc=>if c=true then .ret (k,p)else kas_descPart k n (kas_rev p 0 k)else kas_descPart k n p) ->
   jL n lt t/\∃r,cQ lt t=r/\Arr r.2 n/\1<=r.1/\r.1<=n/\Up lt r.2 r.1:=by
  intro t ht;by_cases e:k=n
  ·rw[if_pos (by simpa using e)]at ht;subst ht;exact⟨trivial,(k,p),rfl,h,b2,by show k<=n;left,b4⟩
  ·rw[if_neg (by simpa using e)]at ht;by_cases e1:k>1
   ·rw[if_pos e1]at ht;subst ht;have hl:lt (p.getD 0 0) (p.getD (k - 1) 0)=true:=b4 0 (k - 1) (by left) (by left);refine⟨⟨h.bd (by left),h.bd (by left),by rw[hl];trivial⟩,(k,p),?_,h,b2,by left,b4⟩;show cQ lt (if lt (p.getD 0 0) (p.getD (k - 1) 0)=true then _ else _)=_;rw[hl];rfl
   ·rw[if_neg e1]at ht;have hk1:k=1:=by left
    subst hk1;subst ht;have hl:lt (p.getD 1 0) (p.getD 0 0)=true:=by
     have a1:p.getD 1 0<n:=h.bd (by left);have a0:p.getD 0 0<n:=h.bd (by left);cases c:lt (p.getD 1 0) (p.getD 0 0)with
     |true=>rfl
     |false =>
      exfalso;obtain⟨f,hf⟩:∃f,n - 1=f+1:=⟨n - 2,by left⟩
      rw[hf]at hk;have e':cQ lt (kas_asc p (f+1) 1)=cQ lt (kas_asc p f 2):=by
       show cQ lt (if lt (p.getD 1 0) (p.getD (1 - 1) 0)=true then .ret 1 else kas_asc p f 2)=_;rw[show(1 - 1:Nat)=0 from rfl,c];rfl
      rw[e']at hk;have u2:Up lt p 2:=λi j jx hj=>by
       have:i=0/\j=1:=by left
       obtain⟨rfl,rfl⟩:=this;rcases O.SH _ _ a0 a1 (λz=>absurd (h.inj (by left) (by left) z) (by left))with z|z
       ·exact z
       ·rw[c]at z;cases z
      obtain⟨_,c2,_,_⟩:=tL O h f 2 (by left) (by left) u2;left
    have d2:Dn lt p 2:=λi j jx hj=>by
     have:i=0/\j=1:=by left
     obtain⟨rfl,rfl⟩:=this;exact hl
    obtain⟨c1,m,c2,c3,c4,c5⟩:=zM O h (n - 2) 2 (by left) (by left) d2;obtain⟨t1,r,t2,t3⟩:=B4 O h (m:=m) (by left) (by left) c5;unfold kas_descPart;refine⟨fE c1 ?_,r,?_,t3⟩
    ·rw[show(1+1:Nat)=2 from rfl,show n - 2=n - 2 from rfl,c2];exact t1
    ·rw[gF,show(1+1:Nat)=2 from rfl,c2];exact t2
 have e:=key _ rfl;refine⟨?_,?_⟩
 ·unfold kas_count;exact fE b1 (by rw[hk];exact e.1)
 ·unfold kas_count;rw[gF,hk];exact e.2
theorem Arr.or(O:Ord lt n)(h:Arr p n){i j:Nat}(hi:i<n)(hj:j<n)(e:i≠j)(c:lt (p.getD i 0) (p.getD j 0)=false):lt (p.getD j 0) (p.getD i 0)=true:=by
 rcases O.SH _ _ (h.bd hi) (h.bd hj) (λz=>e (h.inj hi hj z))with z|z
 ·rw[c]at z;cases z
 ·exact z
theorem oD(O:Ord lt n)(h:Arr p n){k:Nat}(hk:k<n)(u:Up lt p k):∀(f l r:Nat),l<=r->r<=k->r - l<=f->(∀i,i<l->lt (p.getD i 0) (p.getD k 0)=true)->(∀i,r<=i->i<k->lt (p.getD k 0) (p.getD i 0)=true) ->
  jL n lt (kas_place p k f l r)/\∃m,cQ lt (kas_place p k f l r)=m/\m<=k/\(∀i,i<m->lt (p.getD i 0) (p.getD k 0)=true)/\∀i,m<=i->i<k->lt (p.getD k 0) (p.getD i 0)=true
 |0,l,r,hl,hr,hf,a,b=>by
  have:l=r:=by left
  subst this;exact⟨trivial,l,rfl,hr,a,b⟩
 |f+1,l,r,hl,hr,hf,a,b=>by
  have e:kas_place p k (f+1) l r=if l ≥ r then .ret l else .ask (p.getD k 0) (p.getD ((l+r) / 2) 0) λc=>if c=true then kas_place p k f l ((l+r) / 2)else kas_place p k f ((l+r) / 2+1) r:=rfl
  rw[e];by_cases Mi:l ≥ r
  ·rw[if_pos Mi];have:l=r:=by left
   subst this;exact⟨trivial,l,rfl,hr,a,b⟩
  ·rw[if_neg Mi];have hm:l<=(l+r) / 2/\(l+r) / 2<r:=by left
   generalize (l+r) / 2=m at *;have b1:p.getD k 0<n:=h.bd hk;have b2:p.getD m 0<n:=h.bd (by left);cases c:lt (p.getD k 0) (p.getD m 0)with
   |true =>
    obtain⟨c1,m',c2,c3⟩:=oD O h hk u f l m hm.1 (by left) (by left) a λi h1 h2=>by
     by_cases e:i=m
     ·subst e;exact c
     ·exact O.tr _ _ _ b1 b2 (h.bd (by left)) c (u m i (by left) h2)
    refine⟨⟨b1,b2,by rw[c];exact c1⟩,m',?_,c3⟩;show cQ lt (if lt (p.getD k 0) (p.getD m 0)=true then _ else _)=_;rw[c];exact c2
   |false =>
    have nC:=h.or O hk (by left) (by left) c;obtain⟨c1,m',c2,c3⟩:=oD O h hk u f (m+1) r (by left) hr (by left) (λi hi=>by
     by_cases e:i=m
     ·subst e;exact nC
     ·exact O.tr _ _ _ (h.bd (by left)) b2 b1 (u i m (by left) (by left)) nC) b
    refine⟨⟨b1,b2,by rw[c];exact c1⟩,m',?_,c3⟩;show cQ lt (if lt (p.getD k 0) (p.getD m 0)=true then _ else _)=_;rw[c];exact c2
theorem Bl(h:Arr p n){k m:Nat}(hk:k<n)(hm:m<=k)(u:Up lt p k)(a:∀i,i<m->lt (p.getD i 0) (p.getD k 0)=true)(b:∀i,m<=i->i<k->lt (p.getD k 0) (p.getD i 0)=true):
  Arr (bubble p k (k - m)) n/\Up lt (bubble p k (k - m)) (k+1):=by
 have hs:(bubble p k (k - m)).size=p.size:=bubble_size _ _ _;refine⟨⟨by rw[hs];exact h.sz,(bubble_perm p k (k - m)).toList.trans h.pm⟩,λi j jx hj=>?_⟩;have g:∀t,(bubble p k (k - m)).getD t 0=if t=m then p.getD k 0 else if m<t/\t<=k then p.getD (t - 1) 0 else p.getD t 0:=λt=>by
  have e:=getElem?_bubble (xs:=p) (src:=k) (by rw[h.sz];exact hk) (k - m) (Nat.sub_le _ _) t;rw[show k - (k - m)=m by left]at e;by_cases h1:t=m
  ·rw[if_pos h1]at e ⊢;exact nE e
  ·rw[if_neg h1]at e ⊢;by_cases h2:m<t/\t<=k
   ·rw[if_pos h2]at e ⊢;exact nE e
   ·rw[if_neg h2]at e ⊢;exact nE e
 rw[g i,g j];by_cases i1:i=m
 ·rw[if_pos i1,if_neg (by left),if_pos (by left)];exact b (j - 1) (by left) (by left)
 ·rw[if_neg i1];by_cases i2:m<i/\i<=k
  ·rw[if_pos i2,if_neg (by left),if_pos (by left)];exact u (i - 1) (j - 1) (by left) (by left)
  ·rw[if_neg i2];by_cases j1:j=m
   ·rw[if_pos j1];exact a i (by left)
   ·rw[if_neg j1];by_cases j2:m<j/\j<=k
    ·rw[if_pos j2];by_cases e:i=j - 1
     ·left
     ·exact u i (j - 1) (by left) (by left)
    ·rw[if_neg j2];exact u i j jx (by left)
end
theorem EZ{lt:Nat->Nat->Bool}{n:Nat}(O:Ord lt n):∀(f:Nat) {p:Array Nat} {k:Nat},Arr p n->k+f=n->Up lt p k->jL n lt (kas_bin f p k)/\Arr (cQ lt (kas_bin f p k)) n/\Up lt (cQ lt (kas_bin f p k)) n
 |0,p,k,h,hk,u=>⟨trivial,h,by rw[<- hk];exact u⟩
 |f+1,p,k,h,hk,u=>by
  obtain⟨a1,m,a2,a3,a4,a5⟩:=oD O h (k:=k) (by left) u k 0 k (aaK _) (aal _) (aal _) (λi hi=>by left) (λi h1 h2=>by left);obtain⟨b1,b2⟩:=Bl h (by left) a3 u a4 a5;obtain⟨c1,c2,c3⟩:=EZ O f b1 (by left) b2;have e:kas_bin (f+1) p k=(kas_place p k k 0 k).bind λl=>kas_bin f (bubble p k (k - l)) (k+1):=rfl;rw[e];refine⟨fE a1 (by rw[a2];exact c1),?_⟩;rw[gF,a2];exact⟨c2,c3⟩
theorem Gi{lt:Nat->Nat->Bool}{n:Nat}(O:Ord lt n)(hn:2<=n):jL n lt (kas_sort n)/\Arr (cQ lt (kas_sort n)) n/\Up lt (cQ lt (kas_sort n)) n:=by
 have h0:Arr (List.toArray (List.range n)) n:=⟨by simp,by simp⟩
 obtain⟨a1,r,a2,a3,a4,a5,a6⟩:=EM O h0 hn;unfold kas_sort;have key:∀t,t=(if r.1<n then kas_bin (n - max r.1 1) r.2 (max r.1 1)else .ret r.2)->jL n lt t/\Arr (cQ lt t) n/\Up lt (cQ lt t) n:=by
  intro t ht;by_cases h:r.1<n
  ·rw[if_pos h]at ht;subst ht;rw[show max r.1 1=r.1 by left];exact EZ O _ a3 (by left) a6
  ·rw[if_neg h]at ht;subst ht;have:r.1=n:=by left
   exact⟨trivial,a3,by rw[this]at a6;exact a6⟩
 have e:=key _ rfl;refine⟨fE a1 (by rw[a2];exact e.1),?_⟩;rw[gF,a2];exact e.2
end DI
end
section
namespace DI
open PySem PySem.Spec PyProof.Rows L2
def qv(h:Heap)(vs:ao)(nss:af):Prop:=vs.length=nss.length/\∀(i:Nat) (ns:aa),nss[i]?=some ns->∃t aI,vs[i]?=some (.ref t)/\IsTup h t aI.toArray/\IntsAre aI ns
variable {h':Heap}{nss:af}{vs:ao}
theorem qv.mono{h:Heap}(k:∀b o,h.get? b=some o->h'.get? b=some o)(t:qv h vs nss):qv h' vs nss :=
 ⟨t.1,λi ns e=>let ⟨a,aI,e1,⟨o,ho,r⟩,e3⟩:=t.2 i ns e;⟨a,aI,e1,⟨o,k _ _ ho,r⟩,e3⟩⟩
theorem qv.mem{h:Heap}(t:qv h vs nss){v:Value}(hv:v∈vs):∃a aI ns,v=.ref a/\IsTup h a aI.toArray/\IntsAre aI ns:=by
 obtain⟨i,hi⟩:=List.mem_iff_getElem?.mp hv;have hl:i<nss.length:=by rw[<- t.1];exact(List.getElem?_eq_some_iff.mp hi).1
 obtain⟨a,aI,e1,e2,e3⟩:=t.2 i _ (aar hl);rw[hi]at e1;cases e1;exact⟨a,aI,_,rfl,e2,e3⟩
section
variable {prog:aF}{w:World}{A:aE}{E:az}{s:Shared}
theorem pv:∀{vs:ao} {nss:af} {Q:List (Option Value)->Shared->Prop},qv s.heap vs nss->(∀fs:List (Option Value),fs.length=vs.length->(∀f∈fs,∀v,f=some v->∃n t,v=.int n t)->Q fs s)->wpAny (model prog w) A (vs.mapM firstOfTuple') Q E s
 |[],_,_,_,h=>by rw[List.mapM_nil];exact aac (h [] rfl λ_ h=>nomatch h)
 |v::vs,[],_,t,_=>by have:=t.1;simp at this
 |v::vs,ns::nss,Q,t,h=>by
  obtain⟨a,aI,e,⟨o,ho,hc,n,hd⟩,hi⟩:=t.2 0 ns rfl;cases e;rw[List.mapM_cons];refine aaa ?_;rw[PySem.W.kas_first_eq];refine aaa (PySem.W.Looks.here (show PySem.W.Looks (model prog w) s.heap (typeOf (.ref a)) o.cls from(PySem.W.Looks.ld ho).andThen .now) ?_);rw[hc,if_neg (by first|decide|simp)];refine aaa (listItems_at ho hd (aac ?_));refine aaa (pv (vs:=vs) (nss:=nss) ⟨by simpa using t.1,λi ms e=>t.2 (i+1) ms e⟩ λfs h1 h2=>aac (h _ (by simp[h1]) λf hf v hv=>?_));rcases List.mem_cons.mp hf with rfl|hf
  ·cases hi with
   |nil=>simp at hv
   |cons a' tk hi=>simp at hv;exact⟨_,_,hv.symm⟩
  ·exact h2 f hf v hv
def JV(κ:SortKind):Prop:=κ=tuples' true\/κ=general'\/κ=oneType'
theorem kind_any{Q:SortKind->Shared->Prop}(t:qv s.heap vs nss)(Bu:vs≠[])(h:∀κ,JV κ->Q κ s):wpAny (model prog w) A (keyKind' vs.toArray) Q E s:=by
 obtain⟨v0,vr,rfl⟩:∃v0 vr,vs=v0::vr:=by
  cases vs with
  |nil=>exact absurd rfl Bu
  |cons v0 vr=>exact⟨v0,vr,rfl⟩
 rw[kat_kind_eq,List.mapM_toArray,map_eq_pure_bind];refine aaa (aaa (pv t λfs hl hf=>aac ?_));by_cases ha:(fs.toArray.all λx=>x.isSome)=true
 ·rw[if_pos ha];refine aaa (abg ?_);obtain⟨gs,hg,hgi⟩:∃gs:ao,fs=gs.map some/\∀v∈gs,∃n t,v=.int n t:=by
   clear h hl t;induction fs with
   |nil=>exact⟨[],rfl,λ_ h=>nomatch h⟩
   |cons f fs ih =>
    simp only[List.all_toArray,List.all_cons,Bool.and_eq_true]at ha;obtain⟨gs,e1,e2⟩:=ih (λf Q6=>hf f (aad _ Q6)) (by simpa using ha.2);cases f with
    |none=>simp at ha
    |some v =>
     exact⟨v::gs,by rw[e1];rfl,λu hu=>by
      rcases List.mem_cons.mp hu with rfl|hu
      ·exact hf _ aaf _ rfl
      ·exact e2 u hu⟩
  subst hg;obtain⟨g0,gr,rfl⟩:∃g0 gr,gs=g0::gr:=by
   cases gs with
   |nil=>simp at hl
   |cons a b=>exact⟨a,b,rfl⟩
  have hfm:(((g0::gr).map some).toArray.filterMap id)=(g0::gr).toArray:=by simp
  rw[hfm,oneTypeOnly'_eq,List.mapM_toArray,map_eq_pure_bind];refine aaa (aaa (aaa (PySem.W.kas_mapM (r:=Value.type "int") _ (λv hv Q' hq=>by
   obtain⟨n,t,rfl⟩:=hgi v hv;exact(PySem.W.Looks.of_pure (M:=model prog w) rfl).here hq) (aac ?_))))
  have Eg:((List.map (λ_=>Value.type "int") (g0::gr)).toArray.all λx=>x==Value.type "int")=true:=by
   simp only[List.all_toArray,List.all_map,List.all_eq_true];intro _ _;show(Value.type "int" == Value.type "int")=true;decide
  have h0:(List.map (λ_=>Value.type "int") (g0::gr)).toArray[0]?=some (Value.type "int"):=by simp
  rw[h0];simp only[Eg,if_true];exact aac (aac (h _ (.inl rfl)))
 ·rw[if_neg ha];by_cases hb:((fs.toArray[0]?.bind id).isSome)=true
  ·rw[if_pos hb];exact aac (h _ (.inr (.inl rfl)))
  ·rw[if_neg hb];rw[oneTypeOnly'_eq,List.mapM_toArray,map_eq_pure_bind];refine aaa (aaa (aaa (PySem.W.kas_mapM (r:=Value.type "tuple") _ (λv hv Q' hq=>by
    obtain⟨a,aI,ns,rfl,⟨o,ho,hc,_⟩,_⟩:=t.mem hv;refine PySem.W.Looks.here (show PySem.W.Looks (model prog w) s.heap (typeOf (.ref a)) o.cls from(PySem.W.Looks.ld ho).andThen .now) ?_;rw[hc];exact hq) (aac ?_))))
   have Eg:((List.map (λ_=>Value.type "tuple") (v0::vr)).toArray.all λx=>x==Value.type "tuple")=true:=by
    simp only[List.all_toArray,List.all_map,List.all_eq_true];intro _ _;show(Value.type "tuple" == Value.type "tuple")=true;decide
   have h0:(List.map (λ_=>Value.type "tuple") (v0::vr)).toArray[0]?=some (Value.type "tuple"):=by simp
   rw[h0];simp only[Eg,if_true];exact aac (aac (h _ (.inr (.inr rfl))))
theorem LI{κ:SortKind}(hk:JV κ)(hu:A.units<cLine){a b:Addr}{aI Hi:ao}{ns ms:aa}{Q:Bool->Shared->Prop}(ha:IsTup s.heap a aI.toArray)(hb:IsTup s.heap b Hi.toArray)(hi:IntsAre aI ns)(hj:IntsAre Hi ms)(h:Q (HT.lexLt ns ms) s):
  wpAny (model prog w) A (keyLt' κ (.ref a) (.ref b)) Q E s:=by
 rcases hk with rfl|rfl|rfl
 ·obtain⟨o,ho,_,n,hd⟩:=ha;obtain⟨o',eO,_,n',Hw⟩:=hb;exact PySem.W.kat_lt ho hd eO Hw (vq 0 hi hj (by simp) h)
 ·exact PySem.W.kat_one _ _ (HT.xq ha hb (by simpa using hi) (by simpa using hj) hu h)
 ·show wpAny (model prog w) A (oneLt' true (.ref a) (.ref b)) Q E s;rw[oneLt'_eq];simp only[if_true];refine aaa (wpAny_cRoomFor hu ?_);obtain⟨⟨cls,dd,data,sl⟩,ho,hc,n,hd⟩:=id ha;obtain⟨⟨Ia,zN,data2,yA⟩,sL,hc2,n2,hd2⟩:=id hb;simp only at hc hd hc2 hd2;subst hc hd hc2 hd2;refine aaa (wpAny_callSpecialIfBound?_slot (name:=Str.ofString "__lt__") ⟨_,ho,rfl⟩ abZ (abA abZ ⟨_,ho,rfl⟩ PySem.F.entry_tuple_lt (PySem.F.args_tuple_lt_2 _ _) (HT.jM a b _ _ n n2 dd zN sl yA ns ms (by simpa using hi) (by simpa using hj)) ⟨ho,sL,?_⟩));exact aa1 h
end
def tU(h:Heap)(d:Addr)(es:Array DictEntry)(ep:Nat):Prop:=∃o,h.get? d=some o/\o.ExactDict/\o.data=.dict es ep
variable {Q:Value->Shared->Prop}
section
variable {prog:aF}{w:World}{A:aE}{E:az}{s:Shared}{d it:Addr}{es:Array DictEntry}{ep i:Nat}
theorem tU.typeIs(h:tU s.heap d es ep):s.TypeIs (.ref d) "dict":=let ⟨o,ho,hx,_⟩:=h;⟨o,ho,hx.1⟩
theorem HV(hd:(d==sysModules)=false)(hm:tU s.heap d es ep)
  (hQ:Q (.ref s.heap.objs.size) { s with heap:=s.heap.push { cls:=.type "dict_keyiterator",data:=.fields #[.ref d,.int 0 0,.int es.size 0,.int ep 0] } }):wpAny (model prog w) A (pyIter (.ref d)) Q E s:=by
 have hT:=hm.typeIs;obtain⟨o,ho,hx,Ra⟩:=hm;refine wpAny_pyIter_slot hT PySem.F.slot_dict_iter (aaE PySem.F.slot_dict_iter hT PySem.F.entry_dict_iter ?_ (PySem.F.args_dict_iter_1 _));unfold Builtin.«dict.__iter__» Builtin.Dict.dictSlotNone;refine aaa (aaa (wpAny_notOrdered_dict hT (aac ?_)));show wpAny _ _ (Builtin.Dict.showsAll d >>= _) _ _ s;unfold Builtin.Dict.showsAll;rw[if_neg (by rw[hd];exact Bool.false_ne_true)];refine aaa (aac (aaa (abQ ho Ra (aaa (wpAny_dictEpoch ho Ra ?_)))));exact aaa (aa8 (aac ⟨_,rfl,"dict_keyiterator",_,⟨_,aap _ rfl,rfl⟩,PySem.F.slot_dict_keyiterator_next.lookup,hQ⟩))
theorem HU{Q:Option Value->Shared->Prop}(hit:s.heap.IsKeyIter it d i es.size ep)(hm:tU s.heap d es ep)(gM:i<es.size)
  (hQ:∀h',h'.IsKeyIter it d (i+1) es.size ep->Heap.SameBut it s.heap h'->Q (some es[i].key) { s with heap:=h' }):wpAny (model prog w) A (pyNext (.ref it)) Q E s:=by
 obtain⟨o,ho,hc,hd⟩:=id hit;obtain⟨od,QV,Ea,Q_⟩:=hm;unfold pyNext;refine aaa (abE (aaO (name:=Str.ofString "__next__") hit.typeIs aa3 (aaE aa3 hit.typeIs PySem.F.entry_dict_keyiterator_next ?_ (PySem.F.args_dict_keyiterator_next_1 _))));refine aaa (aac (aaa (aaa ?_)))
 first|refine aaa (aa9 hit.typeIs (aac ?_))|refine aaa (abl hit.typeIs (aac ?_))
 refine aaa (wpAny_fieldsOf ho hd ?_);simp only[show Builtin.Dict_items.ownsTuple "dict_keyiterator" = false by decide,Bool.false_eq_true,if_false];show wpAny _ _ (if (Value.ref d==Value.none)=true then _ else _) _ _ s;rw[if_neg (show ¬ ((Value.ref d==Value.none)=true) from Bool.false_ne_true)];refine aaa (aac (aaa (abQ QV Q_ ?_)));rw[if_neg (by simp)];refine aaa (aac (aaa (wpAny_dictEpoch QV Q_ ?_)));rw[if_neg (by simp)];refine aac ?_;simp only[show ¬ ((i:Int)<0) from by left,if_false,Int.toNat_natCast,Array.getElem?_eq_getElem gM];refine aaa ?_
 first|refine aaa (aa9 hit.typeIs (aac ?_))|refine aaa (abl hit.typeIs (aac ?_))
 refine aaa (wpAny_isOneOf_keyiter hit.typeIs ?_);show wpAny _ _ (setField (.ref it) 1 (rawInt ((i:Int)+1)) >>= _) _ _ s;refine aaa (acg ho hd (by simp) ?_);have Hu:(s.heap.update it (Obj.mapFields (·.setIfInBounds 1 (rawInt ((i:Int)+1))))).IsKeyIter it d (i+1) es.size ep :=
  ⟨_,aaZ _ ho (Obj.isFreed_of_fields (Obj.data_mapFields hd _)),(Obj.cls_mapFields ..).trans hc,by rw[Obj.data_mapFields hd];simp[rawInt]⟩
 refine aaa (aaL (aaa (wpAny_isOneOf_keyiter (s:={ s with heap:=s.heap.update it (Obj.mapFields (·.setIfInBounds 1 (rawInt ((i:Int)+1)))) }) Hu.typeIs ?_)));show wpAny _ _ (pure es[i].key) _ _ _;exact aac (aac ⟨_,rfl,aac (hQ _ Hu (aaX ..))⟩)
theorem Nr{Q:Option Value->Shared->Prop}(hh:A.handled=none)(hit:s.heap.IsKeyIter it d i es.size ep)(hm:tU s.heap d es ep)(hge:es.size<=i)
  (hQ:∀h',Heap.ExtBut it s.heap h'->Q none { s with heap:=h' }):wpAny (model prog w) A (pyNext (.ref it)) Q E s:=by
 obtain⟨o,ho,hc,hd⟩:=id hit;obtain⟨od,QV,Ea,Q_⟩:=hm;unfold pyNext;refine aaa (abE (aaO (name:=Str.ofString "__next__") hit.typeIs aa3 (aaE aa3 hit.typeIs PySem.F.entry_dict_keyiterator_next ?_ (PySem.F.args_dict_keyiterator_next_1 _))));refine aaa (aac (aaa (aaa ?_)))
 first|refine aaa (aa9 hit.typeIs (aac ?_))|refine aaa (abl hit.typeIs (aac ?_))
 refine aaa (wpAny_fieldsOf ho hd ?_);simp only[show Builtin.Dict_items.ownsTuple "dict_keyiterator" = false by decide,Bool.false_eq_true,if_false];show wpAny _ _ (if (Value.ref d==Value.none)=true then _ else _) _ _ s;rw[if_neg (show ¬ ((Value.ref d==Value.none)=true) from Bool.false_ne_true)];refine aaa (aac (aaa (abQ QV Q_ ?_)));rw[if_neg (by simp)];refine aaa (aac (aaa (wpAny_dictEpoch QV Q_ ?_)));rw[if_neg (by simp)];refine aac ?_;simp only[show ¬ ((i:Int)<0) from by left,if_false,Int.toNat_natCast,Array.getElem?_eq_none hge];refine aaa ?_
 first|refine aaa (aa9 hit.typeIs (aac ?_))|refine aaa (abl hit.typeIs (aac ?_))
 show wpAny _ _ (setField (.ref it) 0 .none >>= _) _ _ s;refine aaa (acg ho hd (by simp) ?_);show wpAny _ _ (newExc (.type "StopIteration") [] >>= _) _ _ _;refine aaa ?_;simp only[newExc,newTuple];refine aaa (aa8 ?_ (by size_fits));refine aaa (m:=firstArgMember _ _) (wpAny_of_eq (a:=Value.none) (by first|rfl | (simp only[firstArgMember];rfl)) ?_);refine aa8 ?_ (by size_fits);simp only[raiseNew];refine aaa (wpAny_handled ?_);rw[show A.in1.handled=none from hh];refine aaa (aac (wpAny_throw ?_));refine aaa (abk (T:="StopIteration") (b:=true) ⟨_,aap _ rfl,rfl⟩ isSubtype_stop ?_);exact aac (hQ _ (((aaX ..).extBut.push _).push _))
end
theorem xw:∀a b c:aa,HT.lexLt a b=true->HT.lexLt b c=true->HT.lexLt a c=true
 |[],[],_,h,_=>by rw[HT.jN]at h;cases h
 |[],_::_,[],_,h=>by rw[HT.cT]at h;cases h
 |[],_::_,_::_,_,_=>rfl
 |_::_,[],_,h,_=>by rw[HT.cT]at h;cases h
 |_::_,_::_,[],_,h=>by rw[HT.cT]at h;cases h
 |x::a,y::b,z::c,h1,h2=>by
  rw[HT.dH]at *;by_cases e1:x=y
  ·subst e1;rw[if_pos rfl]at h1;by_cases e2:x=z
   ·subst e2;rw[if_pos rfl]at h2 ⊢;exact xw a b c h1 h2
   ·rw[if_neg e2]at h2 ⊢;exact h2
  ·rw[if_neg e1]at h1;have l1:x<y:=aae h1;by_cases e2:y=z
   ·subst e2;rw[if_neg (by left)];exact abi l1
   ·rw[if_neg e2]at h2;have l2:y<z:=aae h2;rw[if_neg (by left)];exact abi (by left)
theorem sI:∀a b:aa,HT.lexLt a b=true->HT.lexLt b a=false
 |[],[],_=>rfl
 |[],_::_,_=>rfl
 |_::_,[],h=>by rw[HT.cT]at h;cases h
 |x::a,y::b,h=>by
  rw[HT.dH]at *;by_cases e:x=y
  ·subst e;rw[if_pos rfl]at h ⊢;exact sI a b h
  ·rw[if_neg e]at h;have l:x<y:=aae h;rw[if_neg (by left)];exact aa4 (by left)
theorem nB:∀a b:aa,a≠b->HT.lexLt a b=true\/HT.lexLt b a=true
 |[],[],h=>absurd rfl h
 |[],_::_,_=>.inl rfl
 |_::_,[],_=>.inr rfl
 |x::a,y::b,h=>by
  rw[HT.dH,HT.dH];by_cases e:x=y
  ·subst e;rw[if_pos rfl,if_pos rfl];exact nB a b λz=>h (by rw[z])
  ·rw[if_neg e,if_neg (Ne.symm e)];rcases Int.lt_or_gt_of_ne e with l|l
   ·exact .inl (abi l)
   ·exact .inr (abi l)
def bH(nss:af):af:=nss.mergeSort λa b=>!HT.lexLt b a
def tT(nss:af):Prop:=nss.Pairwise λa b=>HT.lexLt a b=true
theorem yF:∀{l m:af},tT l->tT m->l.Perm m->l=m
 |[],m,_,_,p=>(List.perm_nil.mp p.symm).symm
 |a::l,[],_,_,p=>by have:=p.length_eq;simp at this
 |a::l,b::m,h1,h2,p=>by
  have e:a=b:=by
   have ha:a∈b::m:=p.mem_iff.mp aaf;have hb:b∈a::l:=p.mem_iff.mpr aaf;rcases List.mem_cons.mp ha with e|ha
   ·exact e
   ·rcases List.mem_cons.mp hb with e|hb
    ·exact e.symm
    ·have l1:=(List.pairwise_cons.mp h2).1 a ha;have l2:=(List.pairwise_cons.mp h1).1 b hb;rw[sI _ _ l1]at l2;cases l2
  subst e;rw[yF (List.pairwise_cons.mp h1).2 (List.pairwise_cons.mp h2).2 (List.perm_cons a |>.mp p)]
theorem ox(h:nss.Nodup):tT (bH nss):=by
 have p:(bH nss).Perm nss:=aaJ _ _;have nd:(bH nss).Nodup:=p.nodup_iff.mpr h;have sd:(bH nss).Pairwise λa b=>(!HT.lexLt b a)=true:=List.pairwise_mergeSort (λa b c h1 h2=>by
  cases e:HT.lexLt c a with
  |false=>rfl
  |true =>
   exfalso;by_cases sP:b=c
   ·subst sP;rw[e]at h1;cases h1
   ·rcases nB b c sP with l|l
    ·rw[xw _ _ _ l e]at h1;cases h1
    ·rw[l]at h2;cases h2) (λa b=>by
  cases e:HT.lexLt b a with
  |false=>rfl
  |true=>rw[sI _ _ e];rfl) nss
 exact(sd.and nd).imp λ{a b} ⟨h1,h2⟩=>by
  rcases nB a b h2 with l|l
  ·exact l
  ·rw[l]at h1;cases h1
theorem Ca{l:af}(h:nss.Nodup)(hr:tT l)(p:l.Perm nss):l=bH nss:=yF hr (ox h) (p.trans (aaJ _ _).symm)
def ltN(nss:af)(i j:Nat):Bool:=HT.lexLt (nss.getD i []) (nss.getD j [])
theorem Lh(h:nss.Nodup):Ord (ltN nss) nss.length :=
 ⟨λa b c _ _ _ h1 h2=>xw _ _ _ h1 h2,λa b _ _ h=>sI _ _ h,λa b ha hb sP=>nB _ _ λe=>sP (by
  have e1:nss.getD a []=nss[a]:=by simp[ha]
  have e2:nss.getD b []=nss[b]:=by simp[hb]
  rw[e1,e2]at e;exact(acx h).mp e)⟩
theorem qH(h:nss.Nodup){p:Array Nat}(ha:Arr p nss.length)(hu:Up (ltN nss) p nss.length):(p.toList.map λi=>nss.getD i [])=bH nss:=by
 refine Ca h ?_ ?_
 ·refine List.pairwise_iff_getElem.mpr λi j hi hj jx=>?_;simp only[List.length_map,Array.length_toList]at hi hj;have:=hu i j jx (by rw[<- ha.sz];exact hj);unfold ltN at this;have e:∀k (hk:k<p.size),p.getD k 0=p[k]:=λk hk=>by simp[Array.getD,hk]
  rw[e i hi,e j hj]at this;simpa using this
 ·have e:nss=(List.range nss.length).map λi=>nss.getD i []:=by
   refine abX (by simp) λi h1 h2=>?_;simp[h1]
  refine(ha.pm.map λi=>nss.getD i []).trans ?_;rw[<- e]
variable {ep:Nat}
section
variable {prog:aF}{w:World}{A:aE}{E:az}{s:Shared}
theorem B_{a:Addr}{n:Nat}{P:PySem.Fin->Shared->Prop}(hu:A.units<cLine)(ho:s.heap.get? a=some (seqObj "list" vs.toArray n))(uc:vs.length<64)(Fz:nss.Nodup)
  (ht:qv (((s.heap.update a (Obj.mapSeq λ_=>#[])).push (seqObj "tuple" vs.toArray 0)).push (seqObj "list" #[] 0)) vs nss)
  (h:∀p:Array Nat,Arr p vs.length->(p.toList.map λi=>nss.getD i [])=bH nss->P (.done (.ret .none)) { s with heap:=sortedHeap s.heap a vs (List.toArray (p.toList.map λi=>vs.getD i Value.none)) }) :
  wpAny (model prog w) A (Builtin.«list.sort» ⟨[.ref a],[]⟩) P E s:=by
 rw[list_sort_plain];have ha:a<s.heap.objs.size:=aah ho;have hsz:vs.toArray.size=vs.length:=by simp
 have hz:vs.length<=sizeLine:=by rw[sizeLine_eq];left
 have hl:=ht.1;refine aaa (listItems_at ho rfl (aaa (listUpdate_at ho rfl ?_ (by rw[hsz];exact hz) (aaK _))));obtain⟨e1,Ju⟩:∃e1,(s.heap.update a (Obj.mapSeq λ_=>#[])).get? a=some (seqObj "list" #[] e1):=⟨_,get?_update_seq ho (λ_=>#[])⟩
 refine aaa (seqEpoch_at Ju rfl (aaa (wpAny_newTuple (aaa (acr (aaL ?_) (aaK _))) (by simpa using hz))));have YW:(((s.heap.update a (Obj.mapSeq λ_=>#[])).push (seqObj "tuple" vs.toArray 0)).push (seqObj "list" #[] 0)).get? a=some (seqObj "list" #[] e1):=aai _ (aai _ Ju);show wpAny (model prog w) A _ P E ({ s with heap:=((s.heap.update a (Obj.mapSeq λ_=>#[])).push (seqObj "tuple" vs.toArray 0)).push (seqObj "list" #[] 0) }:Shared);dsimp only;have fin:∀(p9:SortSt) (p:Array Nat),Arr p vs.length->(p.toList.map λi=>nss.getD i [])=bH nss->(arrOf p9).map (·.2)=List.toArray (p.toList.map λi=>vs.getD i Value.none)->failedOf p9=none->wpAny (model prog w) A (do
   let touched:=(<- seqEpoch a) != e1
   Builtin.List.listUpdate (.ref a) λ_=>(arrOf p9).map (·.2)
   if let some e:=failedOf p9 then rule "list.sort.comparison-raised";throw e
   if touched then rule "list.sort.modified";raiseError "ValueError" "list modified during sort"
   ret .none) P E ({ s with heap:=((s.heap.update a (Obj.mapSeq λ_=>#[])).push (seqObj "tuple" vs.toArray 0)).push (seqObj "list" #[] 0) }:Shared):=by
  intro p9 p hp hs hA hF;refine aaa (seqEpoch_at YW rfl ?_);rw[hA];refine aaa (listUpdate_at YW rfl ?_ (aaK _) (by rw[List.size_toArray,List.length_map,Array.length_toList,hp.sz];exact acw hz));rw[hF];simp only[bne_self_eq_false,Bool.false_eq_true,if_false];exact aac (h p hp hs)
 by_cases h2:vs.toArray.size<2
 ·rw[if_pos h2,if_pos h2];refine aaa (aac ?_);rw[StateT.run_pure];refine aaa (aac ?_);rw[hsz]at h2;have Rq:Arr (List.toArray (List.range vs.length)) vs.length:=⟨by simp,by simp⟩
  refine fin (SortSt.mk' general' (vs.toArray.zip vs.toArray) #[] 7 none) (List.toArray (List.range vs.length)) Rq ?_ ?_ rfl
  ·rw[hl]at Rq ⊢;exact qH Fz Rq λi j jx hj=>by left
  ·apply Array.toList_inj.mp;show(Array.map (·.2) (vs.toArray.zip vs.toArray)).toList=_;rw[Array.toList_map,show(vs.toArray.zip vs.toArray)=pairsOf vs from rfl,pairsOf_toList,List.map_snd_zip (Nat.le_refl _)];refine abX (by simp) λi h1 h2=>?_;simp[h1]
 ·rw[if_neg h2,if_neg h2];rw[hsz]at h2;refine aaa (kind_any ht (λz=>by rw[z]at h2;simp at h2) λκ hk=>?_);have ok:=Gi (Lh Fz) (by rw[<- hl];left);refine aaa (aay (PySem.W.kat_run (ks:=vs) (vs:=vs) (κ:=κ) (Q:=λp9 s'=>s'=({ s with heap:=((s.heap.update a (Obj.mapSeq λ_=>#[])).push (seqObj "tuple" vs.toArray 0)).push (seqObj "list" #[] 0) }:Shared)/\∃p,Arr p vs.length/\(p.toList.map λi=>nss.getD i [])=bH nss/\(arrOf p9).map (·.2)=List.toArray (p.toList.map λi=>vs.getD i Value.none)/\failedOf p9=none)
   (G:=λp s'=>s'=({ s with heap:=((s.heap.update a (Obj.mapSeq λ_=>#[])).push (seqObj "tuple" vs.toArray 0)).push (seqObj "list" #[] 0) }:Shared)/\Arr p vs.length/\(p.toList.map λi=>nss.getD i [])=bH nss) rfl (by left) uc (λp p9 s' hps har hf hG=>⟨hG.1,p,hG.2.1,hG.2.2,PySem.W.kat_snds rfl har,hf⟩) ?_) (λr s' ⟨e,p,hp,hs,hA,hF⟩=>?_) λ_ _ e=>e)
  rotate_left
  ·subst e;exact fin r.2 p hp hs hA hF
  ·rw[hl];refine z0 (lt:=ltN nss) (n:=nss.length) (λi j C hi hj hC=>?_) _ ok.1 ⟨rfl,ok.2.1,qH Fz ok.2.1 ok.2.2⟩;obtain⟨x,aI,e1,i1,i2⟩:=ht.2 i _ (aar hi);obtain⟨y,Hi,e2,j1,j2⟩:=ht.2 j _ (aar hj);unfold PySem.W.kas_ask;rw[show vs.getD i Value.none=.ref x by simp[e1],show vs.getD j Value.none=.ref y by simp[e2]];refine LI hk hu i1 j1 i2 j2 ?_;have e3:nss.getD i []=nss[i]:=by simp[hi]
   have e4:nss.getD j []=nss[j]:=by simp[hj]
   have Ze:C (HT.lexLt (nss.getD i []) (nss.getD j [])) _:=hC;rw[e3,e4]at Ze;exact Ze
theorem EH{es:Array DictEntry}(hh:A.handled=none)(I d:Addr)(Bu:d≠I):Walks prog w A I [I,d] [I] es.size (λi v=>∃e,es[i]?=some e/\v=e.key) (λi h=>h.IsKeyIter I d i es.size ep/\tU h d es ep) where
 sub:=λb hb=>by simp at hb;simp[hb]
 frame:=λ_ _ _ st hk=>⟨st.1.at λo e=>hk I (by simp) o e,let ⟨o,ho,r⟩:=st.2;⟨o,hk d (by simp) o ho,r⟩⟩
 item:=λi s Q E hi st hQ=>HU st.1 st.2 hi λh' Hu Hs=>hQ _ h' s.toks ⟨es[i],abh hi,rfl⟩ ⟨Hu,let ⟨o,ho,r⟩:=st.2;⟨o,Hs.extBut d o Bu ho,r⟩⟩ λb o hb e=>Hs.extBut b o (λh=>hb (by simp[h])) e
 done:=λs Q E st hQ=>Nr hh st.1 st.2 (aal _) λh' he'=>hQ h' s.toks λb o hb e=>he' b o (λh=>hb (by simp[h])) e
 self:=λ_ _ _ _ st hQ=>wpAny_pyIter_keyiter st.1 hQ
theorem Nq{d:Addr}{es:Array DictEntry}(lo:(d==sysModules)=false):PySem.W.KdlSrc prog w "dict" d d es.size (λi v=>∃e,es[i]?=some e/\v=e.key) (λh=>tU h d es ep) where
 type:=λ_ hm=>hm.typeIs
 there:=λ_ hm=>let ⟨_,ho,_⟩:=hm;⟨aah ho,aah ho⟩
 keep:=λ_ _ hm hk=>let ⟨o,ho,r⟩:=hm;⟨o,hk d (.inl rfl) o ho,r⟩
 notList:=by decide
 notTuple:=by decide
 hint:=λ_ _ _ _ hm hq=>PySem.W.kdl_hint_dict hm.typeIs hq
 iter:=λ_ _ hh hm=>⟨_,_,(λ_ _ hq=>HV lo hm hq),EH hh _ d (let ⟨_,ho,_⟩:=hm;aan (aah ho)),⟨⟨_,aap _ rfl,rfl,rfl⟩,let ⟨o,ho,r⟩:=hm;⟨o,aai _ ho,r⟩⟩⟩
theorem uD{d:Addr}{es:Array DictEntry}(hh:A.handled=none)(hu:A.units+2<cLine)(lo:(d==sysModules)=false)(hm:tU s.heap d es ep)(uc:es.size<64)(Fz:nss.Nodup)(ht:qv s.heap (es.toList.map (·.key)) nss)
  (h:∀(S:Addr) (h':Heap) (tk e:Nat) (p:Array Nat),s.heap.get? S=none->(∀b o,s.heap.get? b=some o->h'.get? b=some o)->Arr p es.size->(p.toList.map λi=>nss.getD i [])=bH nss ->
   h'.get? S=some (seqObj "list" (List.toArray (p.toList.map λi=>(es.toList.map (·.key)).getD i Value.none)) e)->Q (.ref S) { s with heap:=h',toks:=tk }) :
  wpAny (model prog w) A (call (.builtin "sorted") [.ref d]) Q E s:=by
 refine Calls.call_function_entry kind_sorted plain_sorted entry_sorted (args_sorted1 _) ?_;unfold Builtin.«sorted»;have hz:es.size<=sizeLine:=by rw[sizeLine_eq];left
 refine aaa (m:=checkCount "sorted" 1 1 _) (aac (aaa (PySem.W.kdu_collect (A:=A.in1) (Nq lo) hh hm hz λh1 tk acc hk gY=>?_)));have Rp:acc.toList=es.toList.map (·.key):=by
  refine List.ext_getElem? λi=>?_;rw[List.getElem?_map,Array.getElem?_toList,Array.getElem?_toList];by_cases hi:i<es.size
  ·have Q3:i<acc.size:=by rw[gY.1];exact hi
   obtain⟨e,he,hv⟩:=gY.2 i acc[i] (abh Q3);rw[Array.getElem?_eq_getElem Q3,he,hv];rfl
  ·rw[Array.getElem?_eq_none (by rw[gY.1];left),Array.getElem?_eq_none (by left)];rfl
 rw[Rp];generalize V_:es.toList.map (·.key)=vs at *;have Fw:vs.length=es.size:=by rw[<- V_];simp
 refine aaa (acr ?_ (by rw[Fw];exact hz));show wpAny _ _ _ _ _ ({ s with heap:=h1.push (seqObj "list" vs.toArray 0),toks:=tk }:Shared);have QW:(h1.push (seqObj "list" vs.toArray 0)).get? h1.objs.size=some (seqObj "list" vs.toArray 0):=aap _ rfl;have k6:∀b o,s.heap.get? b=some o->((((h1.push (seqObj "list" vs.toArray 0)).update h1.objs.size (Obj.mapSeq λ_=>#[])).push (seqObj "tuple" vs.toArray 0)).push (seqObj "list" #[] 0)).get? b=some o:=λb o e=>by
  refine aai _ (aai _ ?_);rw[Heap.get?_update_other _ _ (Nat.ne_of_gt (Heap.lt_size (hk b o e)))];exact aai _ (hk b o e)
 have hle:s.heap.get? h1.objs.size=none:=by
  cases q:s.heap.get? h1.objs.size with
  |none=>rfl
  |some o=>exact absurd (aah (hk _ o q)) (aaw _)
 refine aaa (aaL (aaE slot_list_sort ⟨_,QW,rfl⟩ entry_list_sort (B_ (s:={ s with heap:=h1.push (seqObj "list" vs.toArray 0),toks:=tk }) (nss:=nss) (show A.in1.in1.units<cLine by show A.units+1+1<cLine;left) QW (by rw[Fw];exact uc) Fz (ht.mono k6) λp hp hs=>⟨_,rfl,?_⟩) (args_list_sort _)));obtain⟨e,he⟩:=sortedHeap_at (out:=List.toArray (p.toList.map λi=>vs.getD i Value.none)) QW;refine aac ⟨_,rfl,h h1.objs.size _ tk e p hle (λb o e=>?_) (by rw[<- Fw];exact hp) hs he⟩;have gM:=aah (hk b o e);rw[sortedHeap_old (Nat.ne_of_lt gM) (by rw[size_push'];exact Nat.lt_succ_of_lt gM)];exact aai _ (hk b o e)
end
section
variable {α β:Type}
noncomputable def bJ:af->List α->aa->Option α
 |c'::cs,v::vs,c=>if c'=c then some v else bJ cs vs c
 |_,_,_=>none
noncomputable def setC:af->List α->aa->α->List α
 |c'::cs,v'::vs,c,v=>(if c'=c then v else v')::setC cs vs c v
 |_,_,_,_=>[]
noncomputable def aP(cs:af)(c:aa):af:=if c∈cs then cs else cs++[c]
noncomputable def j5(cs:af)(as:List α)(c:aa)(a:α):List α:=if c∈cs then as else as++[a]
def bP(cs:af)(vs:List α)(c:aa)(v:α):List α:=if c∈cs then setC cs vs c v else vs++[v]
end
section
variable {zs:List (aa×Addr×Value)}{c:aa}
theorem gI:∀(zs:List (aa×Addr×Value)) (c:aa),(atKey zs c).map (·.2)=bJ (zs.map (·.1)) (zs.map (·.2.2)) c
 |[],_=>rfl
 |z::zs,c=>by
  have ih:=gI zs c;unfold atKey at ih ⊢;rw[List.find?_cons];show _=if z.1=c then some z.2.2 else bJ (zs.map (·.1)) (zs.map (·.2.2)) c
  by_cases e:z.1=c
  ·rw[decide_eq_true e,if_pos e];rfl
  ·rw[decide_eq_false e,if_neg e];exact ih
theorem dR:∀(zs:List (aa×Addr×Value)) (c:aa),(atKey zs c).isSome=true ↔ c∈zs.map (·.1)
 |[],c=>by simp[atKey]
 |z::zs,c=>by
  have ih:=dR zs c;unfold atKey at ih ⊢;rw[List.find?_cons,List.map_cons,List.mem_cons];by_cases e:z.1=c
  ·rw[decide_eq_true e];simp[e]
  ·rw[decide_eq_false e];rw[ih];exact⟨.inr,λh=>h.resolve_left λz=>e z.symm⟩
theorem fT(a:Addr)(v:Value):(storedH zs c a v).map (·.1)=aP (zs.map (·.1)) c:=by
 unfold storedH aP;by_cases h:c∈zs.map (·.1)
 ·rw[if_pos ((dR zs c).mpr h),if_pos h,List.map_map];refine aak λz _=>?_;show(putAt c v z).1=z.1;unfold putAt;split<;>rfl
 ·rw[if_neg (λz=>h ((dR zs c).mp z)),if_neg h,List.map_append];rfl
theorem mr(a:Addr)(v:Value):(storedH zs c a v).map (·.2.1)=j5 (zs.map (·.1)) (zs.map (·.2.1)) c a:=by
 unfold storedH j5;by_cases h:c∈zs.map (·.1)
 ·rw[if_pos ((dR zs c).mpr h),if_pos h,List.map_map];refine aak λz _=>?_;show(putAt c v z).2.1=z.2.1;unfold putAt;split<;>rfl
 ·rw[if_neg (λz=>h ((dR zs c).mp z)),if_neg h,List.map_append];rfl
theorem uY(v:Value):∀zs:List (aa×Addr×Value),(zs.map (putAt c v)).map (·.2.2)=setC (zs.map (·.1)) (zs.map (·.2.2)) c v
 |[]=>rfl
 |z::zs=>by
  show(putAt c v z).2.2::((zs.map (putAt c v)).map (·.2.2))=(if z.1=c then v else z.2.2)::setC (zs.map (·.1)) (zs.map (·.2.2)) c v;rw[uY v zs];unfold putAt;by_cases e:z.1=c
  ·rw[if_pos e,if_pos e]
  ·rw[if_neg e,if_neg e]
theorem mq(a:Addr)(v:Value):(storedH zs c a v).map (·.2.2)=bP (zs.map (·.1)) (zs.map (·.2.2)) c v:=by
 unfold storedH bP;by_cases h:c∈zs.map (·.1)
 ·rw[if_pos ((dR zs c).mpr h),if_pos h];exact uY v zs
 ·rw[if_neg (λz=>h ((dR zs c).mp z)),if_neg h,List.map_append];rfl
end
theorem ug{c:aa}{v:V}{u:Value}(r:RelV v u):∀{cs:af} {xs:ae} {us:ao},Vals xs us->Vals (setC cs xs c v) (setC cs us c u)
 |[],_,_,h=>by cases h<;>exact .nil
 |c'::cs,_,_,h=>by
  cases h with
  |nil=>exact .nil
  |cons h t =>
   refine .cons ?_ (ug r t);show RelV (if c'=c then v else _) (if c'=c then u else _);by_cases e:c'=c
   ·rw[if_pos e,if_pos e];exact r
   ·rw[if_neg e,if_neg e];exact h
theorem qz{v:V}{u:Value}(r:RelV v u):∀{xs:ae} {us:ao},Vals xs us->Vals (xs++[v]) (us++[u])
 |_,_,.nil=>.cons r .nil
 |_,_,.cons h t=>.cons h (qz r t)
theorem uh{cs:af}{xs:ae}{us:ao}(h:Vals xs us){c:aa}{v:V}{u:Value}(r:RelV v u):Vals (bP cs xs c v) (bP cs us c u):=by
 unfold bP;by_cases e:c∈cs
 ·rw[if_pos e,if_pos e];exact ug r h
 ·rw[if_neg e,if_neg e];exact qz r h
theorem iM:∀{cs:af} {xs:ae} {us:ao} (_:Vals xs us) (c:aa),m9 (bJ cs xs c) (bJ cs us c)
 |[],_,_,_,_=>by cases ‹Vals _ _› <;> exact True.intro
 |c'::cs,_,_,h,c=>by
  cases h with
  |nil=>exact True.intro
  |cons h t =>
   show m9 (if c'=c then some _ else _) (if c'=c then some _ else _);by_cases e:c'=c
   ·rw[if_pos e,if_pos e];exact h
   ·rw[if_neg e,if_neg e];exact iM t c
variable {pos pos':Pos}
section
variable {X:Cx}{pins:ak}{σ:St}{H:Hp}{s:Shared}{p b:Addr}{cs:af}{as:aO}{xs:ae}{ep:Nat}{c:aa}{A:aE}{E:az}
theorem items_int:∀{c:aa} {aI:ao},Vals (c.map V.int) aI->ItemsAre (intKind X.prog X.w) c aI
 |[],_,h=>by cases h;exact .nil
 |i::c,_,h=>by
  cases h with
  |cons h t =>
   obtain⟨t',rfl⟩:=h;exact .cons (by simp[intKind,Value.isInt]) (items_int t)
theorem oV(I:Inv X pins σ H s)(h:aU X.K H b (c.map V.int)):(tupleKind (intKind X.prog X.w)).is s.heap c b:=by
 obtain⟨aI,rv,⟨o,h1,h2,n,h3⟩,_⟩:=I.tuple h;exact⟨o,aI.toArray,n,h1,h2,h3,by simpa using items_int rv⟩
theorem sX(I:Inv X pins σ H s)(h:H p=some (.ext (DO p cs as xs ep)))(k:eP (aU X.K H) as cs):
  ∃(zs:List (aa×Addr×Value)) (o:Obj) (es:Array DictEntry),zs.map (·.1)=cs/\zs.map (·.2.1)=as/\Vals xs (zs.map (·.2.2))/\s.heap.get? p=some o/\o.ExactDict/\o.data=.dict es ep /\
   s.heap.DictOfH (tupleKind (intKind X.prog X.w)) p zs/\es.toList=zs.map (entryOfKey (tupleKind (intKind X.prog X.w)))/\cs.length<=sizeLine/\(p==sysModules)=false:=by
 obtain⟨⟨zs,o,es,e1,e2,e3,ho,hx,hd,he,hn,hl,hs⟩,_⟩:=(show cy X.prog X.w H s.heap p (.ext (DO p cs as xs ep)) from I.cV p _ h)
 refine⟨zs,o,es,e1,e2,e3,ho,hx,hd,⟨o,es,ep,ho,hx,hd,he,λz hz=>?_,by rw[e1];exact hn⟩,he,hl,hs⟩;obtain⟨j,hj⟩:=List.mem_iff_getElem?.mp hz;exact oV I (k.tup j z.2.1 z.1 (by rw[<- e2,List.getElem?_map,hj];rfl) (by rw[<- e1,List.getElem?_map,hj];rfl))
theorem dict_cls(I:Inv X pins σ H s)(h:H p=some (.ext (DO p cs as xs ep))):s.TypeIs (.ref p) "dict" /\ ∀b,Value.ref p=.ref b->∃ob,s.heap.get? b=some ob/\ob.dict=none:=by
 obtain⟨⟨zs,o,es,e1,e2,e3,ho,hx,_⟩,_⟩:=(show cy X.prog X.w H s.heap p (.ext (DO p cs as xs ep)) from I.cV p _ h)
 exact⟨⟨o,ho,hx.1⟩,λb q=>by cases q;exact⟨o,ho,hx.2.1⟩⟩
theorem HY{d:V}{r:Value}(hu:A.units+1<cLine)(I:Inv X pins σ H s)(h:H p=some (.ext (DO p cs as xs ep)))(k:eP (aU X.K H) as cs)(hb:aU X.K H b (c.map V.int))(rd:RelV d r)(hQ:∀w' s',Inv X pins σ H s'->RelV ((bJ cs xs c).getD d) w'->Q w' s'):
  wpAny (model X.prog X.w) A (call (.builtin "dict.get") [.ref p,.ref b,r]) Q E s:=by
 obtain⟨zs,o,es,e1,e2,e3,ho,hx,hd,dd,_,hl,hs⟩:=sX I h k;refine call_meetsIn PySem.F.slot_dict_get dd.typeIs PySem.F.entry_dict_get (PySem.F.args_dict_get_3 _ _ _) (meetsH_dict_get_default (tupleKind (intKind X.prog X.w)) p b hs r) ⟨acm hu,c,zs,oV I hb,dd,hQ _ _ (I.tok _) ?_⟩;rw[gI,e1];have hg:=iM (cs:=cs) e3 c;cases q:bJ cs xs c with
 |none =>
  rw[q]at hg;rw[m9.none_of hg];exact rd
 |some v =>
  rw[q]at hg;obtain⟨u,zk,ru⟩:=m9.some_of hg;rw[zk];exact ru
theorem xQ{v:V}{r:Value}{Q:Unit->Shared->Prop}(hu:A.units+1<cLine)(I:Inv X pins σ H s)(h:H p=some (.ext (DO p cs as xs ep)))(k:eP (aU X.K H) as cs)(hb:aU X.K H b (c.map V.int))(rv:RelV v r)(gM:cs.length<sizeLine)
  (hQ:∀kZ s',Inv X pins σ (upd H p (.ext (DO p (aP cs c) (j5 cs as c b) (bP cs xs c v) kZ))) s'->Q () s') :
  wpAny (model X.prog X.w) A (setItem (.ref p) (.ref b) r) Q E s:=by
 obtain⟨zs,o,es,e1,e2,e3,ho,hx,hd,dd,_,hl,hs⟩:=sX I h k;have hz:zs.length<=sizeLine:=by rw[<- e1,List.length_map]at hl;exact hl
 refine wpAny_setItem_heap (hsz:=hz) (acm hu) (oV I hb) dd λh' Xx DX=>?_;obtain⟨q,JK,kZ,hq,h2,h3,h4,_,h5⟩:=Xx;refine hQ kZ _ (I.write (x:=p) (e:=p) (by rw[h];exact True.intro) (.inl rfl) (λb q hb z=>(DX.2 b hb).trans z) ⟨q,hq⟩ ⟨⟨storedH zs c b r,q,JK,?_,?_,?_,hq,h2,h3,h4,?_,?_,hs⟩,⟨q,hq⟩,?_⟩)
 ·rw[fT,e1]
 ·rw[mr,e1,e2]
 ·rw[mq,e1];exact uh e3 rv
 ·rw[<- e1,<- fT (zs:=zs) (c:=c) b r];exact h5
 ·unfold aP;split
  ·exact hl
  ·rw[List.length_append,List.length_singleton];left
 ·rintro h1 W6 ⟨IE,o',es'',f1,f2,f3,f4,f5⟩ kk;exact⟨IE,o',es'',f1,f2,f3,kk _ f4,f5⟩
theorem GS:PE X (.Dict [] [] pos) (λ_ H Q=>∀p,H p=none->Q (.ref p) (upd H p (.ext (DO p [] [] [] 0)))):=λpins s σ H Q I h=>by
 have Mq:sysModules<s.heap.objs.size:=aby (by decide) (show mainGlobals<s.heap.objs.size from(I.mod.glob.keeps I.bk).lt);refine wpAny_Dict_empty ⟨.ref s.heap.objs.size,_,I.laid (a:=s.heap.objs.size) (o:=.ext (DO s.heap.objs.size [] [] [] 0)) (t':=s.toks) (λ_ _ q=>aai _ q) (aal _) ?_,rfl,h _ (I.cV.fresh (aal _))⟩;have hg:(s.heap.push { cls:=.type "dict",data:=.dict #[] }).get? s.heap.objs.size=some { cls:=.type "dict",data:=.dict #[] }:=aap _ rfl;refine⟨⟨[],_,#[],rfl,rfl,.nil,hg,⟨rfl,rfl,rfl⟩,rfl,rfl,aaR,aaK _,beq_eq_false_iff_ne.mpr (aaD (aan Mq))⟩,⟨_,hg⟩,?_⟩;rintro h1 W6 ⟨IE,o',es'',f1,f2,f3,f4,f5⟩ kk;exact⟨IE,o',es'',f1,f2,f3,kk _ f4,f5⟩
end
variable {N:iJ}{T:kj}
theorem jt{N':iJ}{k k':bg}{v:V}{d:D}(h:Rep T N k v d)(hf:aR anyF d=false):Rep T N' k' v d:=by
 have:=Rep.gen (T':=T) (N':=N') (g:=id) (P:=anyF) (C:=λ_ _=>True) (I:=λ_ _=>True) (λ_ _ h=>h) trivial (λ_ _ e=>e) (λ_ _ _ _ e _=>e) (λk k' p xs f _ hz _=>nomatch hz) h (k':=k') trivial hf;rw[d9]at this;exact this
theorem kL{T:kj}{N:iJ}:∀{cs:af} {k:bg} {n:Nat} {xs:ae} {ds:ab} (_:aB T N k n xs ds) (c:aa),(bJ cs xs c=none/\bJ cs ds c=none)\/∃v d k',bJ cs xs c=some v/\bJ cs ds c=some d/\Rep T N k' v d/\d∈ds
 |[],_,_,_,_,_,_=>by cases ‹aB _ _ _ _ _ _› <;> exact .inl ⟨rfl,rfl⟩
 |c'::cs,_,_,_,_,r,c=>by
  cases r with
  |nil=>exact .inl ⟨rfl,rfl⟩
  | @cons _ _ v d vs ds h t =>
   by_cases e:c'=c
   ·exact .inr ⟨v,d,_,aa0 e,aa0 e,h,aaf⟩
   ·have e1:∀{α:Type} (a:α) (l:List α),bJ (c'::cs) (a::l) c=bJ cs l c:=λa l=>ack e;rw[e1,e1];rcases kL (cs:=cs) t c with h|⟨v',d',k',h1,h2,h3,h4⟩
    ·exact .inl h
    ·exact .inr ⟨v',d',k',h1,h2,h3,aad _ h4⟩
theorem qZ{p:Fl->Bool}:∀{ds:ab},aM p ds=false->∀d∈ds,aR p d=false
 |[],_,_,h=>nomatch h
 |d::ds,h,d',hd=>by
  have h:=Ft h;rcases List.mem_cons.mp hd with rfl|hd
  ·exact h.1
  ·exact qZ h.2 d' hd
theorem uT{T:kj}{N:iJ}{c:aa}{v:V}{d:D}(hv:∀k,Rep T N k v d):∀{cs:af} {k:bg} {n:Nat} {xs:ae} {ds:ab},aB T N k n xs ds->aB T N k n (setC cs xs c v) (setC cs ds c d)
 |[],_,_,_,_,r=>by cases r<;>exact .nil
 |c'::cs,_,_,_,_,r=>by
  cases r with
  |nil=>exact .nil
  |cons h t =>
   refine .cons ?_ (uT hv t);show Rep _ _ _ (if c'=c then v else _) (if c'=c then d else _);by_cases e:c'=c
   ·rw[if_pos e,if_pos e];exact hv _
   ·rw[if_neg e,if_neg e];exact h
theorem qK{T:kj}{N:iJ}{v:V}{d:D}(hv:∀k,Rep T N k v d):∀{k:bg} {n:Nat} {xs:ae} {ds:ab},aB T N k n xs ds->aB T N k n (xs++[v]) (ds++[d])
 |_,_,_,_,.nil=>.cons (hv _) .nil
 |_,_,_,_,.cons h t=>.cons h (qK hv t)
variable {ds xs:ab}
theorem Cw{c:aa}{v:V}{d:D}(hv:∀k,Rep T N k v d){cs:af}{k:bg}{n:Nat}{xs:ae}(r:aB T N k n xs ds):aB T N k n (bP cs xs c v) (bP cs ds c d):=by
 unfold bP;by_cases e:c∈cs
 ·rw[if_pos e,if_pos e];exact uT hv r
 ·rw[if_neg e,if_neg e];exact qK hv r
theorem DG{as:aO}{cs:af}(k:eP T as cs){b:Addr}{c:aa}(hb:T b (c.map V.int)):eP T (j5 cs as c b) (aP cs c):=by
 unfold j5 aP;by_cases e:c∈cs
 ·rw[if_pos e,if_pos e];exact k
 ·rw[if_neg e,if_neg e];refine⟨by rw[List.length_append,List.length_append,k.len];rfl,λj a c' ha hc=>?_⟩;by_cases hj:j<as.length
  ·rw[List.getElem?_append_left hj]at ha;rw[List.getElem?_append_left (by rw[<- k.len];exact hj)]at hc;exact k.tup j a c' ha hc
  ·rw[List.getElem?_append_right (by left)]at ha;rw[List.getElem?_append_right (by rw[<- k.len];left),<- k.len]at hc;cases hz:j - as.length with
   |zero =>
    rw[hz]at ha hc;cases ha;cases hc;exact hb
   |succ m=>rw[hz]at ha;cases ha
variable {F R:Addr->Prop}{H:Hp}{τ:Addr->Option bg}
theorem bX.newD{K:aq}{G:Addr->Prop}{fv:aN}{H':Hp}{p:Addr}(hp:H p=none)(hl:H' p=some (.ext (DO p [] [] [] 0))):bX K G R τ fv H H' (.ref p) (.dy .ow [] []):=by
 refine⟨λq=>if q=p then some []else none,λq k hq=>?_,.dy (ep:=0) (as:=[]) (xs:=[]) ⟨hl,by simp⟩ ⟨rfl,λj a c h=>by simp at h⟩ .nil⟩;by_cases tZ:q=p
 ·subst tZ;exact hp
 ·simp[tZ]at hq
noncomputable def zL(xs:ab):O D:=match xs with
 |[]=>ok (.dy .ow [] [])
 |_::_=>none
noncomputable def jy(_:Scope)(_:au)(e:Expr):Option (aw):=match e with
 |.Dict [] [] _=>some []
 |_=>none
variable {X:Cx}{args:aw}{cs:aD}{Φ:aT}
theorem HS{n:Nat}(hΦ:Φ n=zL){sc:Scope}{bl:au}{k:Nat}(L:PX X sc bl k){e:Expr}(he:jy sc bl e=some args)(hs:mL X F Φ cs args):PE X e (tD X F Φ (.cz n cs))/\PT X e (gL X F Φ (.cz n cs)):=by
 have h1:∃pos,e=.Dict [] [] pos/\args=[]:=by
  unfold jy at he;split at he
  ·cases he;exact⟨_,rfl,rfl⟩
  ·cases he
 obtain⟨pos,rfl,rfl⟩:=h1;cases cs with
 |cons _ _=>exact hs.elim
 |nil =>
  have this:PE X (.Dict [] [] pos) (tD X F Φ (.cz n [])):=by
   refine PE.imp (GS (X:=X) (pos:=pos)) λσ H Q hq p hp=>?_;obtain⟨R,τ,ρ,d,Si,ev,hq⟩:=hq;have ev:Φ n []=ok d:=ev;rw[hΦ]at ev;cases ev;exact hq _ _ (aJ.upd hp) (bX.newD hp aX)
  exact⟨this,cG this λ_=>rfl⟩
noncomputable def three{α:Type}:List α->Option (α×α×α)
 |[a,b,c]=>some (a,b,c)
 |_=>none
theorem ur{α:Type}{l:List α}{z:α×α×α}(h:three l=some z):l=[z.1,z.2.1,z.2.2]:=by
 unfold three at h;split at h
 ·cases h;rfl
 ·cases h
noncomputable def i8:D->Option (af×ab)
 |.dy _ cs vs=>some (cs,vs)
 |_=>none
def keyOf:D->Option (aa)
 |.tup ks=>intsOf ks
 |_=>none
theorem pH{d:D}{z:af×ab}(h:i8 d=some z):∃f,d=.dy f z.1 z.2:=by
 cases d<;>first | (cases h;done) | (cases h;exact⟨_,rfl⟩)
theorem kQ{d:D}{c:aa}(h:keyOf d=some c):d=.tup (c.map D.int):=by
 cases d<;>first | (cases h;done)|skip
 rw[dP (show intsOf _=some c from h)]
def A_(xs:ab):O D:=match two xs with
 |some z=>match i8 z.1 with
  |some d=>match keyOf z.2 with
   |some c=>match bJ d.1 d.2 c with
    |some v=>if aR anyF v=false then ok v else none
    |none=>none
   |none=>none
  |none=>none
 |none=>none
theorem HW{r:D}(h:A_ xs=ok r):∃f cs vs c,xs=[.dy f cs vs,.tup (c.map D.int)]/\bJ cs vs c=some r/\aR anyF r=false:=by
 unfold A_ at h;cases h1:two xs with
 |none=>rw[h1]at h;cases h
 |some z =>
  rw[h1]at h;have h:(match i8 z.1 with|some d=>(match keyOf z.2 with|some c=>(match bJ d.1 d.2 c with|some v=>if aR anyF v=false then ok v else none|none=>none)|none=>none)|none=>none)=ok r:=h;cases h2:i8 z.1 with
  |none=>rw[h2]at h;cases h
  |some d =>
   rw[h2]at h;have h:(match keyOf z.2 with|some c=>(match bJ d.1 d.2 c with|some v=>if aR anyF v=false then ok v else none|none=>none)|none=>none)=ok r:=h;cases h3:keyOf z.2 with
   |none=>rw[h3]at h;cases h
   |some c =>
    rw[h3]at h;have h:(match bJ d.1 d.2 c with|some v=>if aR anyF v=false then ok v else none|none=>none)=ok r:=h;cases h4:bJ d.1 d.2 c with
    |none=>rw[h4]at h;cases h
    |some v =>
     rw[h4]at h;obtain⟨hf,rfl⟩:=o7 (show(if aR anyF v=false then ok v else none)=ok r from h);obtain⟨f,e1⟩:=pH h2;exact⟨f,d.1,d.2,c,by rw[f_ h1,e1,kQ h3],h4,hf⟩
def Vi(K:aq):R2:=λx y H Q=>∃p b cs as xs ep c v,x=.ref p/\y=.ref b/\H p=some (.ext (DO p cs as xs ep))/\eP (aU K H) as cs/\aU K H b (c.map V.int)/\bJ cs xs c=some v/\Q v H
theorem Hk(hu:X.A.units+1<cLine):IA X (Vi X.K):=by
 intro value slice pins s σ H x y v u Q I rx ry h hs;obtain⟨p,b,cs,as,xs,ep,c,w,rfl,rfl,hp,hk,hb,hg,q⟩:=h;cases rx;cases ry;obtain⟨zs,o,es,e1,e2,e3,ho,hx,hd,dd,_,hl,Mc⟩:=sX I hp hk;have Q4:=iM (cs:=cs) e3 c;rw[hg]at Q4;obtain⟨u,zk,ru⟩:=m9.some_of Q4;have:(atKey zs c).map (·.2)=some u:=by rw[gI,e1];exact zk
 obtain⟨q',Wh,rfl⟩:=Option.map_eq_some_iff.mp this;exact abr (x:=q'.2) dd.typeIs PySem.F.slot_dict_getitem.lookup
  (wpAny_getItem_heap (Q:=λr s'=>r=q'.2/\EP X pins σ Q r s') (acm hu) (oV I hb) dd Wh ⟨rfl,w,H,I.tok _,ru,q⟩) hs
def md(_:Scope)(_:au)(e:Expr):Option (aw):=match n8 e with
 |some z=>some [z.1,z.2]
 |none=>none
theorem Nt{n:Nat}(hΦ:Φ n=A_){sc:Scope}{bl:au}{k:Nat}(L:PX X sc bl k){e:Expr}(he:md sc bl e=some args)(hs:mL X F Φ cs args):PE X e (tD X F Φ (.cz n cs))/\PT X e (gL X F Φ (.cz n cs)):=by
 unfold md at he;cases h1:n8 e with
 |none=>rw[h1]at he;cases he
 |some z =>
  rw[h1]at he;cases he;obtain⟨pos,rfl⟩:=ku h1;obtain⟨⟨c1,c2,rfl,p1,p2⟩,_⟩:=iU hs;have this:PE X (.Subscript z.1 z.2 pos) (tD X F Φ (.cz n [c1,c2])):=by
   refine PE.imp (CY (Hk (DU L.room)) p1 p2 hs.2.2.2.2.2.1) λσ H Q hq=>?_;obtain⟨R,τ,ρ,d,Si,ev,hq⟩:=hq;obtain⟨xs,cF,ev⟩:=aG ev;rw[hΦ]at ev;obtain⟨f,cs,vs,c,rfl,hg,hf⟩:=HW ev;obtain⟨x,ex,cF⟩:=aG cF;obtain⟨ys,vP,cF⟩:=aG cF;obtain⟨y,ey,RS⟩:=aG vP;cases RS;cases cF;refine tD.intro Si ex λv H1 e1 r1=>tD.intro (Si.go e1) ey λu H2 e2 r2=>?_;obtain⟨τ1,f1,q1⟩:=r1;obtain⟨τ2,f2,q2⟩:=r2;cases q1 with
   |dy hn hk hr=>cases q2 with
    |tup ht QP =>
     cases QP.ofInts;rcases kL hr c with ⟨_,hz⟩|⟨w,d',k',g1,g2,g3,_⟩
     ·rw[hg]at hz;cases hz
     ·rw[hg]at g2;cases g2;refine⟨_,_,_,_,_,_,c,w,rfl,rfl,e2 _ _ hn.dat,hk.imp λ_ _ h=>aU.same e2 h,ht,g1,hq w H2 (e1.trans e2) ⟨λ_=>none,λ_ _ h=>by simp at h,?_⟩⟩;exact(jt (N':=nd X.K R (jQ (gP X F) τ (gN (.cz n [c1,c2]))) (λ_=>none) H1) (k':=[]) g3 hf).imp (λ_ _ h=>aU.same e2 h) λ_ _ _ _ h=>nd.same e2 h
  exact⟨this,cG this λ_=>rfl⟩
def rA(xs:ab):O D:=match three xs with
 |some z=>match i8 z.1 with
  |some d=>match keyOf z.2.1 with
   |some c=>if aM anyF d.2=false/\aR anyF z.2.2=false then ok ((bJ d.1 d.2 c).getD z.2.2)else none
   |none=>none
  |none=>none
 |none=>none
theorem EJ{r:D}(h:rA xs=ok r):∃f cs vs c x,xs=[.dy f cs vs,.tup (c.map D.int),x]/\aM anyF vs=false/\aR anyF x=false/\r=(bJ cs vs c).getD x:=by
 unfold rA at h;cases h1:three xs with
 |none=>rw[h1]at h;cases h
 |some z =>
  rw[h1]at h;have h:(match i8 z.1 with|some d=>(match keyOf z.2.1 with|some c=>if aM anyF d.2=false/\aR anyF z.2.2=false then ok ((bJ d.1 d.2 c).getD z.2.2)else none|none=>none)|none=>none)=ok r:=h;cases h2:i8 z.1 with
  |none=>rw[h2]at h;cases h
  |some d =>
   rw[h2]at h;have h:(match keyOf z.2.1 with|some c=>if aM anyF d.2=false/\aR anyF z.2.2=false then ok ((bJ d.1 d.2 c).getD z.2.2)else none|none=>none)=ok r:=h;cases h3:keyOf z.2.1 with
   |none=>rw[h3]at h;cases h
   |some c =>
    rw[h3]at h;obtain⟨⟨hf,hx⟩,rfl⟩:=o7 (show(if aM anyF d.2=false/\aR anyF z.2.2=false then ok ((bJ d.1 d.2 c).getD z.2.2)else none)=ok r from h);obtain⟨f,e1⟩:=pH h2;exact⟨f,d.1,d.2,c,z.2.2,by rw[ur h1,e1,kQ h3],hf,hx,rfl⟩
def nK(_:Scope)(_:au)(e:Expr):Option (aw):=match mm ("get" : Str) (.Expr e ⟨0,0,0,0⟩)with
 |some z=>match two z.2 with
  |some y=>if isNm z.1=true then some [z.1,y.1,y.2]else none
  |none=>none
 |none=>none
theorem xX{sc:Scope}{bl:au}{e:Expr}(h:nK sc bl e=some args):∃x p p1 p2 a b,e=.Call (.Attribute (.Name x p) ("get" : Str) p1) [a,b] [] p2/\args=[.Name x p,a,b]/\(p1.endLine==p2.line)=true:=by
 unfold nK at h;cases h1:mm ("get" : Str) (.Expr e ⟨0,0,0,0⟩)with
 |none=>rw[h1]at h;cases h
 |some z =>
  obtain⟨o,as⟩:=z;rw[h1]at h;have h2:(match two as with|some y=>if isNm o=true then some [o,y.1,y.2]else none|none=>none)=some args:=h;clear h;cases h3:two as with
  |none=>rw[h3]at h2;cases h2
  |some y =>
   rw[h3]at h2;have h4:(if isNm o=true then some [o,y.1,y.2]else none)=some args:=h2;clear h2;by_cases hn:isNm o=true
   ·rw[if_pos hn]at h4;cases h4;obtain⟨p1,p2,pos,e1,hl⟩:=n9 h1;cases e1;cases o<;>first | (cases hn;done)|skip
    rw[f_ h3];exact⟨_,_,_,_,_,_,rfl,rfl,hl⟩
   ·rw[if_neg hn]at h4;cases h4
theorem Au{x:Str}{p p1 p2:Pos}{a b:Expr}{td:TE}{ta:TA}(hu:X.A.units+1<cLine)(ho:PE X (.Name x p) td)(ha:PA X [a,b] ta)(s1:∀es,starEach (a::es) X.env=(false,eval a X.env)::starEach es X.env)(s2:∀es,starEach (b::es) X.env=(false,eval b X.env)::starEach es X.env)(hl:(p1.endLine==p2.line)=true):
  PE X (.Call (.Attribute (.Name x p) ("get" : Str) p1) [a,b] [] p2) (λσ H Q=>td σ H λv H1=>∃q cs as xs ep,v=.ref q/\H1 q=some (.ext (DO q cs as xs ep))/\ta σ H1 λys H2=>∃k c z,ys=[.ref k,z]/\H2 q=some (.ext (DO q cs as xs ep))/\eP (aU X.K H2) as cs/\aU X.K H2 k (c.map V.int)/\Q ((bJ cs xs c).getD z) H2):=by
 intro pins s σ H Q I h;refine wpAny_Call_method rfl (by rw[s1,s2];rfl) hl PySem.F.plainAttrs_dict PySem.F.slot_dict_get PySem.F.type_dict_get (de (ho pins s σ H _ I h) λu U4 bR=>?_);obtain⟨v,H1,I1,rx,q,cs,as,xs,ep,ex,hd,q1⟩:=bR;subst ex;obtain rfl:u=Value.ref q:=rx;obtain⟨t1,t2⟩:=dict_cls I1 hd;refine⟨t1,t2,?_⟩;have hA:=ha p2 pins U4 σ H1 _ I1 q1;rw[s1]at hA ⊢;refine abu (by show(false||(backTo p2 (starEach [b] X.env)).any (·.1))=false;rw[s2];rfl) (ab7 ?_);refine de hA λus s3 bR=>?_;obtain⟨ys,H2,I2,r2,k,c,z,ey,hd2,hk,hb,q2⟩:=bR;subst ey;obtain⟨w1,w2,rfl,U6,SW⟩:=vals2 r2;cases U6;exact HY hu I2 hd2 hk hb SW λw' s4 I4 jH=>⟨_,H2,I4,jH,q2⟩
theorem HX{n:Nat}(hΦ:Φ n=rA){sc:Scope}{bl:au}{k:Nat}(L:PX X sc bl k){e:Expr}(he:nK sc bl e=some args)(hs:mL X F Φ cs args):PE X e (tD X F Φ (.cz n cs))/\PT X e (gL X F Φ (.cz n cs)):=by
 obtain⟨x,p,p1,p2,a,b,rfl,rfl,hl⟩:=xX he;cases cs with
 |nil=>exact hs.elim
 |cons c0 cs =>
  obtain⟨h0,_,_,Hs⟩:=hs;obtain⟨⟨c1,c2,rfl,_,_⟩,pa,s1,s2⟩:=iU Hs;have this:PE X (.Call (.Attribute (.Name x p) ("get" : Str) p1) [a,b] [] p2) (tD X F Φ (.cz n [c0,c1,c2])):=by
   refine PE.imp (Au (DU L.room) h0 pa s1 s2 hl) λσ H Q hq=>?_;obtain⟨R,τ,ρ,d,Si,ev,hq⟩:=hq;obtain⟨xs,cF,ev⟩:=aG ev;rw[hΦ]at ev;obtain⟨f,cs,vs,c,y,rfl,hf,hy,rfl⟩:=EJ ev;obtain⟨x0,ex,cF⟩:=aG cF;obtain⟨ys,vP,cF⟩:=aG cF;cases cF;refine tD.intro Si ex λv H1 e1 r1=>?_;obtain⟨τ1,f1,q1⟩:=r1;cases q1 with
   |dy hn hk hr =>
    refine⟨_,_,_,_,_,rfl,hn.dat,R,τ,ρ,_,Si.go e1,vP,λus H2 e2 r2=>?_⟩;obtain⟨τ2,f2,q2⟩:=r2;obtain⟨u1,u2,rfl,U9,U8⟩:=q2.two;obtain⟨_,_,rfl,ht,QP⟩:=U9.Ab;cases QP.ofInts;refine⟨_,c,u2,rfl,e2 _ _ hn.dat,hk.imp λ_ _ h=>aU.same e2 h,ht,?_⟩;refine hq _ H2 (e1.trans e2) ⟨λ_=>none,λ_ _ h=>by simp at h,?_⟩;rcases kL hr c with ⟨g1,g2⟩|⟨w,d',k',g1,g2,g3,g4⟩
    ·rw[g1,g2];exact jt (T:=aU X.K H2) U8 hy
    ·rw[g1,g2];exact(jt (N':=nd X.K R (jQ (gP X F) τ (gN (.cz n [c0,c1,c2]))) (λ_=>none) H1) (k':=[]) g3 (qZ hf _ g4)).imp (λ_ _ h=>aU.same e2 h) λ_ _ _ _ h=>nd.same e2 h
  exact⟨this,cG this λ_=>rfl⟩
def rn(xs:ab):O D:=match three xs with
 |some z=>match z.1 with
  |.dy f cs vs=>match keyOf z.2.2 with
   |some c=>if cK f=true/\aR anyF z.2.1=false/\cs.length<cP then ok (.dy .ow (aP cs c) (bP cs vs c z.2.1))else none
   |none=>none
  |_=>none
 |none=>none
theorem vT{d:D}{r:D}(h:rn (d::xs)=ok r):∃cs vs c x,d=.dy .ow cs vs/\xs=[x,.tup (c.map D.int)]/\aR anyF x=false/\cs.length<cP/\r=.dy .ow (aP cs c) (bP cs vs c x):=by
 unfold rn at h;cases h1:three (d::xs)with
 |none=>rw[h1]at h;cases h
 |some z =>
  rw[h1]at h;have e0:=ur h1;obtain⟨d',x,y⟩:=z;obtain⟨rfl,rfl⟩:d=d'/\xs=[x,y]:=abo e0;cases d<;>first | (cases h;done)|skip
  rename_i f cs vs;have h:(match keyOf y with|some c=>if cK f=true/\aR anyF x=false/\cs.length<cP then ok (D.dy .ow (aP cs c) (bP cs vs c x))else none|none=>none)=ok r:=h;cases h3:keyOf y with
  |none=>rw[h3]at h;cases h
  |some c =>
   rw[h3]at h;obtain⟨⟨hf,hx,hl⟩,rfl⟩:=o7 (show(if cK f=true/\aR anyF x=false/\cs.length<cP then ok (D.dy .ow (aP cs c) (bP cs vs c x))else none)=ok r from h);cases f<;>first | (cases hf;done)|exact⟨cs,vs,c,x,rfl,by rw[kQ h3],hx,hl,rfl⟩
def nJ(_:Scope)(_:au)(st:Stmt):Option (Expr×aw):=match BQ st with
 |some z=>match one z.1 with
  |some t=>match n8 t with
   |some y=>some (y.1,[z.2,y.2])
   |none=>none
  |none=>none
 |none=>none
variable {o value:Expr}{st:Stmt}
theorem xW{sc:Scope}{bl:au}(h:nJ sc bl st=some (o,args)):∃v i pos' pos,st=.Assign [.Subscript o i pos'] v pos/\args=[v,i]:=by
 unfold nJ at h;cases h1:BQ st with
 |none=>rw[h1]at h;cases h
 |some z =>
  obtain⟨ts,v⟩:=z;rw[h1]at h;have h2:(match one ts with|some t=>(match n8 t with|some y=>some (y.1,[v,y.2])|none=>none)|none=>none)=some (o,args):=h;clear h;cases h3:one ts with
  |none=>rw[h3]at h2;cases h2
  |some t =>
   rw[h3]at h2;have h4:(match n8 t with|some y=>some (y.1,[v,y.2])|none=>none)=some (o,args):=h2;clear h2;cases h5:n8 t with
   |none=>rw[h5]at h4;cases h4
   |some y =>
    rw[h5]at h4;cases h4;obtain⟨pos,rfl⟩:=rN h1;obtain rfl:=cS h3;obtain⟨p,rfl⟩:=ku h5;exact⟨_,_,_,_,rfl,rfl⟩
mutual
theorem any_map(g:Fl->Fl):∀d:D,aR anyF (aS g d)=aR anyF d
 |.cg=>rfl
 |.bl _=>rfl
 |.int _=>rfl
 |.tup ds=>wd g ds
 |.lst _ ds=>rfl
 |.dy _ _ ds=>rfl
 |.dY _ _ ds=>rfl
theorem wd(g:Fl->Fl):∀ds:ab,aM anyF (aA g ds)=aM anyF ds
 |[]=>rfl
 |d::ds=>by show(aR _ _||aM _ _)=(aR _ d||aM _ ds);rw[any_map g d,wd g ds]
end
mutual
theorem x4:∀d:D,aR anyF d=false->aR bF d=false
 |.cg,_=>rfl
 |.bl _,_=>rfl
 |.int _,_=>rfl
 |.tup ds,h=>z4 ds h
 |.lst _ ds,h=>nomatch h
 |.dy _ _ ds,h=>nomatch h
 |.dY _ _ ds,h=>nomatch h
theorem z4:∀ds:ab,aM anyF ds=false->aM bF ds=false
 |[],_=>rfl
 |d::ds,h=>by
  have h:=Ft h;show(aR _ d||aM _ ds)=false;rw[x4 d h.1,z4 ds h.2];rfl
end
theorem any_ints:∀c:aa,aM anyF (c.map D.int)=false
 |[]=>rfl
 |i::c=>any_ints c
theorem Kg{i:Expr}{l:Nat}{env:Env}:swapsWith value (some (.Subscript o i pos')) l env=pure false:=by
 unfold swapsWith;cases value<;>rfl
theorem CH{x:Str}{p0:Pos}{i:Expr}{tv to ti:TE}(hu:X.A.units+1<cLine)(hv:PE X value tv)(ho:PE X (.Name x p0) to)(hi:PE X i ti):
  PS X (.Assign [.Subscript (.Name x p0) i pos'] value pos) (λD σ H=>tv σ H λv H1=>to σ H1 λo H2=>ti σ H2 λy H3=>∃q b cs as xs ep c,o=.ref q/\y=.ref b/\H3 q=some (.ext (DO q cs as xs ep))/\eP (aU X.K H3) as cs/\aU X.K H3 b (c.map V.int)/\cs.length<sizeLine /\
   ∀kZ,D.nx σ (upd H3 q (.ext (DO q (aP cs c) (j5 cs as c b) (bP cs xs c v) kZ)))):=by
 intro pins s σ H D I h;refine wpAny_Assign_Subscript (de (hv pins s σ H _ I h) λr s1 ⟨v,H1,I1,rv,q1⟩=>de (ho pins s1 σ H1 _ I1 q1) λu s2 ⟨o,H2,I2,rx,q2⟩=>de (hi pins s2 σ H2 _ I2 q2) λiv s3 bR=>?_) Kg;obtain⟨y,H3,I3,ry,q,b,cs,as,xs,ep,c,eo,ey,hd,hk,hb,hl,q3⟩:=bR;subst eo ey;obtain rfl:u=Value.ref q:=rx;obtain rfl:iv=Value.ref b:=ry;exact xQ hu I3 hd hk hb rv hl λkZ s4 I4=>⟨σ,_,I4,q3 kZ⟩
variable {σ:L2.St}
theorem SI.PY{ρ:bc}{i:Nat}{cs:af}(Si:SI X F R τ ρ σ H)(hi:ρ[i]?=some (some (.dy .ow cs ds))):
  ∃p as xs ep,σ[i]?=some (some (.ref p))/\H p=some (.ext (DO p cs as xs ep))/\τ p=some [i]/\eP (aU X.K H) as cs/\aB (aU X.K H) (nd X.K R (λ_=>False) τ H) [i] 0 xs ds:=by
 obtain⟨v,hv,rp⟩:=Si.rep i _ hi;cases rp with
 |dy h k r=>exact⟨_,_,_,_,hv,h.1,h.2,k,r⟩
theorem HR{n:Nat}(hΦ:Φ n=rn){sc:Scope}{bl:au}{k:Nat}(L:PX X sc bl k)(hN:X.N.Nodup)(t_:∀x,X.fn x=true){x:Str}(he:nJ sc bl st=some (.Name x pos,args))
  {i:Nat} (hi:X.N[i]?=some x) (hl:L2.Loc X.env.scope x) (pe:PE X (.Name x pos) (ux i)) (hs:mL X F Φ cs args):PS X st (lN X F Φ (.mut n i cs)):=by
 obtain⟨v,ix,p1,p2,rfl,rfl⟩:=xW he;obtain⟨⟨c1,c2,rfl,h1,h2⟩,_⟩:=iU hs;refine PS.imp (CH (DU L.room) h1 pe h2) λD σ H hq=>?_;obtain⟨R,τ,ρ,r,Si,ev,hq⟩:=hq;obtain⟨xs,cF,ev⟩:=aG ev;obtain⟨y,ey,cF⟩:=aG cF;obtain⟨ys,vP,cF⟩:=aG cF;cases cF;obtain⟨kd,ek,RS⟩:=aG vP;cases RS;have key:∃cs vs c,kd=.tup (c.map DI.D.int)/\ρ[i]?=some (some (.dy .ow cs vs))/\aR anyF y=false/\cs.length<cP/\r=(.nx,ρ.set i (some (.dy .ow (aP cs c) (bP cs vs c y)))):=by
  cases hz:aM bF [y,kd]with
  |true =>
   obtain⟨d,d',h⟩:=Dq ev hz;rw[hΦ]at h;obtain⟨cs,vs,c,x',_,e1,e2,_⟩:=vT h;have e3:aS aW y=x'/\aS aW kd=.tup (c.map DI.D.int):=by
    have:=abo e1;exact⟨this.1,(abo this.2).1⟩
   have a1:aR bF y=false:=x4 y (by rw[<- any_map aW y,e3.1];exact e2);have a2:aR bF kd=false:=x4 kd (by rw[<- any_map aW kd,e3.2];exact any_ints c);have:aM bF [y,kd]=false:=by show(aR bF y||(aR bF kd||false))=false;rw[a1,a2];rfl
   rw[this]at hz;cases hz
  |false =>
   obtain⟨d,d',h,h',rfl⟩:=yW ev hz;rw[hΦ]at h';obtain⟨cs,vs,c,x',rfl,e1,e2,e3,rfl⟩:=vT h';cases e1;exact⟨cs,vs,c,rfl,h,e2,e3,rfl⟩
 obtain⟨cs,vs,c,rfl,ho,hf,hc,rfl⟩:=key;obtain⟨p,as,zs,ep,hv,hd,ht,hk,rs⟩:=Si.PY ho;refine tD.intro Si ey λu H1 e1 ru=>⟨.ref p,hv,tD.intro (Si.go e1) ek λw H2 e2 jH=>?_⟩
 obtain⟨τ1,f1,q1⟩:=ru;obtain⟨τ2,f2,q2⟩:=jH;cases q2 with
 | @tup _ b _ _ hb QP =>
  cases QP.ofInts;have es:=e1.trans e2;have wg:=Si.go es;have hd2:=es _ _ hd;have mY:cP=1000000:=rfl;have hz:sizeLine=16777216:=aa6;refine⟨p,b,cs,as,zs,ep,c,rfl,rfl,hd2,hk.imp λ_ _ h=>aU.same es h,hb,by left,λkZ=>?_⟩;have hn:eB H2 p (.d cs as zs ep):=hd2;have rk:ic X R τ H2 u y:=oB ((jt (N':=nd X.K R (λ_=>False) τ H1) (k':=[]) q1 hf).imp (λ_ _ h=>aU.same e2 h) λ_ _ _ _ h=>nd.same e2 h) hf;obtain⟨p',Ub,IE,aco,YN,Hw,YQ,D6,tX⟩:=wg.PY ho;rw[hv]at YN;cases YN;rw[hd2]at Hw;obtain⟨τ3,x5⟩:=wg.PB (m:=0) (n':=.d (aP cs c) (j5 cs as c b) (bP cs zs c u) kZ) (o:=.ext (DO p (aP cs c) (j5 cs as c b) (bP cs zs c u) kZ)) (d1:=.dy .ow (aP cs c) (bP cs vs c y)) (xs':=bP cs zs c u) (ds':=bP cs vs c y) ho hv hn ht (rs.imp (λ_ _ h=>aU.same es h) λ_ _ _ _ h=>nd.same es h) rk aX
   (λhN r=>.dy hN (DG ((hk.imp λ_ _ h=>aU.same es h).imp λ_ _ h=>lP hn h) (lP hn hb)) r) (λrs r=>Cw (λk=>jt r hf) rs)
  exact hq σ _ R τ3 x5 (oU wg es (λ_ h=>h) hn ht)
theorem Lr{P:aF}{w:World}{h:Heap}{a:Addr}{o:HO}(x:cy P w H h a o):∃u,h.get? a=some u:=by
 cases o with
 |lst xs=>obtain⟨_,_,_,_,e⟩:=x;exact⟨_,e⟩
 |tup xs=>obtain⟨_,_,_,o,e,_⟩:=x;exact⟨_,e⟩
 |dK oT=>obtain⟨_,_,_,_,o,_,_,e,_⟩:=x;exact⟨_,e⟩
 |dT oT=>obtain⟨_,_,_,_,o,_,_,e,_⟩:=x;exact⟨_,e⟩
 |set S n=>obtain⟨o,_,_,_,e,_⟩:=x;exact⟨_,e⟩
 |ins C dx fs=>obtain⟨_,_,_,e,_⟩:=x;exact⟨_,e⟩
 |own y=>exact x
 |xd fs=>obtain⟨_,⟨o,_,_,e,_⟩,_⟩:=x;exact⟨_,e⟩
 |lz lo hi=>obtain⟨_,_,_,e⟩:=x;exact⟨_,e⟩
 |iI o u=>exact⟨_,x.1⟩
 |IP ps=>exact⟨_,x⟩
 |met f y=>exact⟨_,x⟩
 |ext φ=>exact x.2.1
theorem Inv.Qw{pins:ak}{s:Shared}{t':Nat}{a:Addr}{o:HO}(I:Inv X pins σ H s)(k:∀b u,s.heap.get? b=some u->h'.get? b=some u)(ha:s.heap.get? a=none)(new:cy X.prog X.w (upd H a o) h' a o):
  H a=none/\Inv X pins σ (upd H a o) { s with heap:=h',toks:=t' }:=by
 have hn:H a=none:=by
  cases q:H a with
  |none=>rfl
  |some u =>
   obtain⟨z,hz⟩:=Lr (I.cV a u q);rw[ha]at hz;exact nk hz
 have up:∀b u,H b=some u->upd H a o b=some u:=λb u e=>by rw[aY (cm e hn)];exact e
 refine⟨hn,I.step (g':=s.gens) (d':=s.drawn) (ch:=[]) (λb hb=>nomatch hb) (λb o _ _ _ e _=>k b o e) (λb o _ _ _ e _=>⟨o.slots,k b o e⟩) (λb u _ e n=>?_)
  (λb o _ e=>⟨o,k b o e⟩) (λ_ _ e=>up _ _ e) (λ_ _ _ e=>up _ _ e) (λb ps e=>⟨#[],by rw[up _ _ e];simp⟩) (λm hm=>?_) (λb u e=>?_) I.bare⟩
 ·rw[aY λz=>by rw[z,ha]at e;cases e];exact n
 ·obtain⟨o,es,ep,ho,r⟩:=hm;exact⟨o,es,ep,k _ o ho,r⟩
 ·by_cases z:b=a
  ·subst z;rw[aX]at e;cases e;exact new
  ·rw[aY z]at e;exact(I.cV b u e).oq (λc v _ q=>k c v q) (λ_ q=>up _ _ q) λ_ _ q=>up _ _ q
section
variable {X:Cx}{pins:ak}{σ:St}{H:Hp}{s:Shared}{d:Addr}{cs:af}{as:aO}{xs:ae}{ep:Nat}
theorem KN(I:Inv X pins σ H s)(h:H d=some (.ext (DO d cs as xs ep))):∃es:Array DictEntry,tU s.heap d es ep/\es.size=as.length/\es.toList.map (·.key)=as.map Value.ref/\cs.Nodup/\as.length=cs.length/\(d==sysModules)=false:=by
 obtain⟨⟨zs,o,es,e1,e2,e3,ho,hx,hd,he,hn,hl,hs⟩,_⟩:=(show cy X.prog X.w H s.heap d (.ext (DO d cs as xs ep)) from I.cV d _ h)
 refine⟨es,⟨o,ho,hx,hd⟩,?_,?_,hn,?_,hs⟩
 ·rw[<- Array.length_toList,he,<- e2,List.length_map,List.length_map]
 ·rw[he,<- e2,List.map_map,List.map_map];rfl
 ·rw[<- e1,<- e2,List.length_map,List.length_map]
end
def Np(xs:ab):O D:=match one xs with
 |some d=>match i8 d with
  |some z=>ok (.lst .ow (z.1.map bK))
  |none=>none
 |none=>none
theorem my(g:Fl->Fl):∀cs:af,aA g (cs.map bK)=cs.map bK
 |[]=>rfl
 |c::cs=>by
  show aS g (bK c)::aA g (cs.map bK)=_;rw[my g cs];have:∀c:aa,aA g (c.map D.int)=c.map D.int:=λc=>by
   induction c with
   |nil=>rfl
   |cons i c ih=>show D.int i::aA g (c.map D.int)=_;rw[ih];rfl
  show D.tup (aA g (c.map D.int))::_=_;rw[this];rfl
theorem GB{k:bg}{a:Addr}{c:aa}(h:T a (c.map V.int)):Rep T N k (.ref a) (bK c):=.tup h (aB.ints c)
theorem xY(hc:X.calm=true)(hu:X.A.units+2<cLine):fS X (.builtin "sorted") (λxs H Q=>∃(d:Addr) (cs:af) (as:aO) (ys:ae) (ep:Nat),xs=[.ref d]/\H d=some (.ext (DO d cs as ys ep))/\eP (aU X.K H) as cs/\cs.length<64 /\
  ∀(l:Addr) (bs:aO),H l=none->eP (aU X.K H) bs (bH cs)->Q (.ref l) (upd H l (.lst (bs.map V.ref)))):=by
 intro pins s σ H xs us Q I r h;obtain⟨d,cs,as,ys,ep,rfl,hd,hk,uc,q⟩:=h;obtain⟨u,rfl,ru⟩:=r.one;cases ru;obtain⟨es,Wg,hz,Jv,Wt,hlen,Mc⟩:=KN I hd;have ht:qv s.heap (es.toList.map (·.key)) cs:=by
  rw[Jv];refine⟨by rw[List.length_map,hlen],λi ns e=>?_⟩;have hi:i<as.length:=by rw[hlen];exact(List.getElem?_eq_some_iff.mp e).1
  obtain⟨Hi,rj,ij,_⟩:=I.tuple (hk.tup i as[i] ns (aar hi) e);exact⟨as[i],Hi,by rw[List.getElem?_map,List.getElem?_eq_getElem hi];rfl,ij,d_ rj⟩
 refine uD (I.ok.hd hc) hu Mc Wg (by rw[hz,hlen];exact uc) Wt ht λS h' tk e p hS Oc hp hs hl=>?_;rw[Jv]at hl;have Wj:(p.toList.map λi=>(as.map Value.ref).getD i Value.none)=(p.toList.map λi=>as.getD i 0).map Value.ref:=by
  rw[List.map_map];refine aak λi hi=>?_;have o9:i<as.length:=by
   have:=List.mem_range.mp (hp.pm.mem_iff.mp hi);left
  simp[o9]
 rw[Wj]at hl;have WL:eP (aU X.K H) (p.toList.map λi=>as.getD i 0) (bH cs):=by
  rw[<- hs];refine⟨by simp,λj a c h1 h2=>?_⟩;rw[List.getElem?_map]at h1 h2;cases hj:p.toList[j]? with
  |none=>rw[hj]at h1;exact nk h1
  |some i =>
   rw[hj]at h1 h2;have o9:i<as.length:=by
    have:=List.mem_range.mp (hp.pm.mem_iff.mp (aax hj));left
   cases h1;cases h2;exact hk.tup i _ _ (by simp[o9]) (by simp[show i<cs.length by left])
 have QK:∀l:aO,Vals (l.map V.ref) (l.map Value.ref):=λl=>by
  induction l with
  |nil=>exact .nil
  |cons a l ih=>exact .cons rfl ih
 have hsz:sizeLine=16777216:=aa6;obtain⟨hn,I'⟩:=Inv.Qw (t':=tk) (o:=.lst ((p.toList.map λi=>as.getD i 0).map V.ref)) I Oc hS ⟨by rw[List.length_map,List.length_map,Array.length_toList,hp.sz];left,_,e,QK _,hl⟩;exact⟨.ref S,_,I',rfl,q S _ hn WL⟩
def l7(xs:ab):O D:=match one xs with
 |some d=>match i8 d with
  |some z=>if z.1.length<64 then ok (.lst .ow ((bH z.1).map bK))else none
  |none=>none
 |none=>none
theorem A8{r:D}(h:l7 xs=ok r):∃f cs vs,xs=[.dy f cs vs]/\cs.length<64/\r=.lst .ow ((bH cs).map bK):=by
 unfold l7 at h;cases h1:one xs with
 |none=>rw[h1]at h;exact nk h
 |some d =>
  rw[h1]at h;have h:(match i8 d with|some z=>if z.1.length<64 then ok (D.lst .ow ((bH z.1).map bK))else none|none=>none)=ok r:=h;cases h2:i8 d with
  |none=>rw[h2]at h;exact nk h
  |some z =>
   rw[h2]at h;obtain⟨hl,rfl⟩:=o7 (show(if z.1.length<64 then ok (D.lst .ow ((bH z.1).map bK))else none)=ok r from h);obtain⟨f,e⟩:=pH h2;exact⟨f,z.1,z.2,by rw[cS h1,e],hl,rfl⟩
theorem qL{T:kj}{N:iJ}:∀{bs:aO} {cs:af} {k:bg} {n:Nat},eP T bs cs->aB T N k n (bs.map V.ref) (cs.map bK)
 |[],[],_,_,_=>.nil
 |[],_::_,_,_,h=>by have:=h.len;simp at this
 |_::_,[],_,_,h=>by have:=h.len;simp at this
 |b::bs,c::cs,_,_,h=>.cons (GB (h.tup 0 b c rfl rfl)) (qL ⟨by have:=h.len;simpa using this,λj a c' h1 h2=>h.tup (j+1) a c' h1 h2⟩)
theorem EG{n:Nat}(hΦ:Φ n=l7){sc:Scope}{bl:au}{k:Nat}(L:PX X sc bl k){e:Expr}(he:l9 ("sorted" : Str) sc bl e=some args)(hs:mL X F Φ cs args):PE X e (tD X F Φ (.cz n cs))/\PT X e (gL X F Φ (.cz n cs)):=by
 obtain⟨p,pos,a,rfl,rfl,h1,h2⟩:=rE he;cases cs with
 |nil=>exact hs.elim
 |cons c cs=>cases cs with
  |cons _ _=>exact hs.2.2.2.elim
  |nil =>
   have pa:PA X [a] (uy X F Φ [c]):=PA.imp (cO hs.1 (PA.imp eT λ_ _ _ h=>kD h) (hs.2.1 _)) λ_ _ _ h=>gC h;have hu:X.A.units+2<cLine:=aas (acf (by decide:2<=64) _) L.room.units;have this:PE X (.Call (.Name ("sorted" : Str) p) [a] [] pos) (tD X F Φ (.cz n [c])):=by
    refine PE.imp (eM (xY L.calm hu) (L.gl h1) (L.bl _ h2) (by decide +kernel) pa (he:=hs.2.1 _)) λσ H Q hq=>?_;obtain⟨R,τ,ρ,d,Si,ev,hq⟩:=hq;obtain⟨xs,cF,ev⟩:=aG ev;rw[hΦ]at ev;obtain⟨f,ks,vs,rfl,hl,rfl⟩:=A8 ev;refine⟨R,τ,ρ,_,Si,cF,λus H1 e1 r1=>?_⟩;obtain⟨τt,fr,rs⟩:=r1;obtain⟨v,rfl,rv⟩:=rs.one;cases rv with
    |dy hn hk hr =>
     refine⟨_,ks,_,_,_,rfl,hn.dat,hk,hl,λl bs nC WL=>hq _ _ (e1.trans (aJ.upd nC)) (bX.vi (e1.free nC) (e1.trans (aJ.upd nC)) aX ?_)⟩;exact qL (WL.imp λ_ _ h=>aU.same (aJ.upd nC) h)
   exact⟨this,cG this λ_=>rfl⟩
section
variable {prog:aF}{w:World}{A:aE}{E:az}{s:Shared}
end
end DI
end
section
namespace DI
open PySem (Str)
section
variable {α β:Type}
@[simp]theorem b_(a:α)(f:α->O β):bd (ok a) f=f a:=rfl
@[simp]theorem T9(c:Nat)(f:α->O β):bd (some (.error c)) f=some (.error c):=rfl
noncomputable def JT(f:α->O β)(x:O α):O β:=bd x f
@[simp]theorem XE(f:α->O β)(a:α):JT f (ok a)=f a:=rfl
@[simp]theorem Ud(f:α->O β)(c:Nat):JT f (some (.error c))=some (.error c):=rfl
end
def Sk(op:ID)(x y:O D):O D:=bd x λx=>bd y λy=>cX op x y
@[simp]theorem T8(op:ID)(x y:D):Sk op (ok x) (ok y)=cX op x y:=rfl
def R9(op:BB)(x y:O D):O D:=bd x λx=>bd y λy=>fm op x y
@[simp]theorem tf(op:BB)(x y:D):R9 op (ok x) (ok y)=fm op x y:=rfl
def YE(x y:O D):O D:=bd x λx=>bd y λy=>AE x y
@[simp]theorem VR(x y:D):YE (ok x) (ok y)=AE x y:=rfl
def P9(x:O D):O D:=bd (bd x iE) λb=>ok (.bl (!b))
@[simp]theorem Ti(b:Bool):P9 (ok (.bl b))=ok (.bl (!b)):=rfl
@[simp]theorem ON(b:Bool):iE (.bl b)=ok b:=rfl
def wM(x:O D):O Bool:=bd x iE
@[simp]theorem SF(b:Bool):wM (ok (.bl b))=ok b:=rfl
@[simp]theorem OM(c:Nat):wM (some (.error c))=some (.error c):=rfl
def YF(t:Ty)(x:O D):O D:=bd x λx=>ok (.bl (dv t x))
@[simp]theorem VZ(t:Ty)(x:D):YF t (ok x)=ok (.bl (dv t x)):=rfl
def EV(m:av)(xs:O (ab)):O D:=bd xs λxs=>bd (m (aA aW xs)) λr=>ok (aS l5 r)
def Xa(x:O D):O D:=bd x λr=>ok (aS l5 r)
@[simp]theorem W_(r:D):Xa (ok r)=ok (aS l5 r):=rfl
@[simp]theorem TR(c:Nat):Xa (some (.error c))=some (.error c):=rfl
@[simp]theorem Sf(m:av)(xs:ab):EV m (ok xs)=Xa (m (aA aW xs)):=rfl
@[simp]theorem Ou(m:av)(c:Nat):EV m (some (.error c))=some (.error c):=rfl
noncomputable def zP(x:O D)(xs:O (ab)):O (ab):=bd x λx=>bd xs λxs=>ok (x::xs)
@[simp]theorem R8(x:D)(xs:ab):zP (ok x) (ok xs)=ok (x::xs):=rfl
@[simp]theorem Oo(c:Nat)(xs:O (ab)):zP (some (.error c)) xs=some (.error c):=rfl
@[simp]theorem Nv(x:D)(c:Nat):zP (ok x) (some (.error c))=some (.error c):=rfl
noncomputable def QB(x:O Bool)(a b:O D):O D:=bd x λk=>if k then a else b
@[simp]theorem VW(a b:O D):QB (ok true) a b=a:=rfl
@[simp]theorem VX(a b:O D):QB (ok false) a b=b:=rfl
def Io(x y:O D):O D:=bd (bd x iE) λc=>if c then y else ok (.bl false)
@[simp]theorem XF(y:O D):Io (ok (.bl true)) y=y:=rfl
@[simp]theorem XG(y:O D):Io (ok (.bl false)) y=ok (.bl false):=rfl
@[simp]theorem XH(a b:Bool):Io (ok (.bl a)) (ok (.bl b))=ok (.bl (a&&b)):=by cases a<;>rfl
def Tc(x y:O D):O D:=bd (bd x iE) λc=>if c then ok (.bl true)else y
@[simp]theorem Yh(y:O D):Tc (ok (.bl true)) y=ok (.bl true):=rfl
@[simp]theorem Yi(y:O D):Tc (ok (.bl false)) y=y:=rfl
@[simp]theorem Yj(a b:Bool):Tc (ok (.bl a)) (ok (.bl b))=ok (.bl (a||b)):=by cases a<;>rfl
def DE(x:O D):O D:=bd (bd x iE) λc=>ok (.bl c)
@[simp]theorem Qv(c:Bool):DE (ok (.bl c))=ok (.bl c):=rfl
@[simp]theorem O_(d:D):yx (some (some d))=ok (aS bo d):=rfl
section
variable (Φ:aT)(ρ:bc)
@[simp]theorem Zw:bp Φ .cg ρ=ok .cg:=rfl
@[simp]theorem acz(b:Bool):bp Φ (.bl b) ρ=ok (.bl b):=rfl
@[simp]theorem JL(i:Int):bp Φ (.int i) ρ=ok (.int i):=rfl
@[simp]theorem ZD(x:Str)(i:Int):bp Φ (.glo x i) ρ=ok (.int i):=rfl
@[simp]theorem ZC(x:Str)(zs:aa):bp Φ (.glt x zs) ρ=ok (.tup (zs.map D.int)):=rfl
@[simp]theorem e_v(i:Nat):bp Φ (.v i) ρ=yx ρ[i]?:=rfl
@[simp]theorem ZE(op:ID)(a b:CE):bp Φ (.bin op a b) ρ=Sk op (bp Φ a ρ) (bp Φ b ρ):=rfl
@[simp]theorem zK(op:BB)(a b:CE):bp Φ (.cmp op a b) ρ=R9 op (bp Φ a ρ) (bp Φ b ρ):=rfl
@[simp]theorem Zy(a:CE):bp Φ (.neg a) ρ=JT Hc (bp Φ a ρ):=rfl
@[simp]theorem Zv(a:CE):bp Φ (.not a) ρ=P9 (bp Φ a ρ):=rfl
@[simp]theorem ZA(a:CE)(t:Ty):bp Φ (.qW a t) ρ=YF t (bp Φ a ρ):=rfl
@[simp]theorem Xo(f:Nat)(es:aD):bp Φ (.call f es) ρ=EV (Φ f) (b9 Φ es ρ):=rfl
@[simp]theorem acA(f:Bf)(es:aD):bp Φ (.bf f es) ρ=JT (m8 f) (b9 Φ es ρ):=rfl
@[simp]theorem Zu(f:Nat)(es:aD):bp Φ (.cz f es) ρ=JT (Φ f) (b9 Φ es ρ):=rfl
@[simp]theorem acy(a b:CE):bp Φ (.ix a b) ρ=YE (bp Φ a ρ) (bp Φ b ρ):=rfl
@[simp]theorem Xn(a:CE):bp Φ (.jV a) ρ=JT y6 (bp Φ a ρ):=rfl
@[simp]theorem Zt(es:aD):bp Φ (.tup es) ρ=JT (λxs=>ok (.tup xs)) (b9 Φ es ρ):=rfl
@[simp]theorem Zz(es:aD):bp Φ (.lst es) ρ=JT (λxs=>ok (.lst .ow xs)) (b9 Φ es ρ):=rfl
@[simp]theorem JM(es:aD):bp Φ (.and es) ρ=rm Φ es ρ:=rfl
@[simp]theorem Nl(es:aD):bp Φ (.or es) ρ=A5 Φ es ρ:=rfl
@[simp]theorem EE(e:CE):rm Φ [e] ρ=DE (bp Φ e ρ):=rfl
@[simp]theorem ED(e e':CE)(es:aD):rm Φ (e::e'::es) ρ=Io (bp Φ e ρ) (rm Φ (e'::es) ρ):=rfl
@[simp]theorem EB(e:CE):A5 Φ [e] ρ=DE (bp Φ e ρ):=rfl
@[simp]theorem EA(e e':CE)(es:aD):A5 Φ (e::e'::es) ρ=Tc (bp Φ e ρ) (A5 Φ (e'::es) ρ):=rfl
@[simp]theorem Zx:b9 Φ [] ρ=ok []:=rfl
@[simp]theorem Nn(e:CE)(es:aD):b9 Φ (e::es) ρ=zP (bp Φ e ρ) (b9 Φ es ρ):=rfl
@[simp]theorem e_T(e:CE):A4 Φ e ρ=wM (bp Φ e ρ):=rfl
theorem Xr(e:CE):bd (bp Φ e ρ) iE=wM (bp Φ e ρ):=rfl
@[simp]theorem Xq:iB Φ [] ρ=ok true:=rfl
@[simp]theorem Xp(e:CE):iB Φ [e] ρ=wM (bp Φ e ρ):=by
 rw[iB,Xr];cases h:wM (bp Φ e ρ)with
 |none=>rfl
 |some r=>cases r with
  |error c=>rfl
  |ok b=>cases b<;>simp[iB,bd,ok]
end
def qq(is:aN):Nat->bc->bc
 |_,[]=>[]
 |n,d::ρ=>(if n∈is then d.map (aS aW)else d)::qq is (n+1) ρ
theorem JI(is:aN):∀(ρ:bc) (n:Nat),ρ.mapIdx (λi d=>if i+n∈is then d.map (aS aW)else d)=qq is n ρ
 |[],_=>rfl
 |d::ρ,n=>by
  rw[List.mapIdx_cons,qq,<- JI is ρ (n+1)];simp only[Nat.zero_add,Nat.add_assoc,Nat.add_comm 1 n]
theorem xI(is:aN)(ρ:bc):iI is ρ=qq is 0 ρ:=by rw[<- JI];rfl
@[simp]theorem RI(is:aN)(n:Nat):qq is n []=[]:=rfl
@[simp]theorem Oi(is:aN)(n:Nat)(d:aC)(ρ:bc):qq is n (d::ρ)=(if n∈is then d.map (aS aW)else d)::qq is (n+1) ρ:=rfl
def df(e:CE)(ρ:bc)(x:O D):O (D×bc):=bd x λd=>ok (keep e d ρ)
variable {ρ ρ1:bc}
@[simp]theorem kR{e:CE}{d:D}(h:aR bF d=false):df e ρ (ok d)=ok (d,ρ):=by
 show ok (keep e d ρ)=_;rw[keep,h];rfl
@[simp]theorem Qy{e:CE}{d:D}(h:aR bF d=true):df e ρ (ok d)=ok (aS aW d,qq (gN e) 0 ρ):=by
 show ok (keep e d ρ)=_;rw[keep,h,<- xI];rfl
@[simp]theorem N5(e:CE)(ρ:bc)(c:Nat):df e ρ (some (.error c))=some (.error c):=rfl
def Dt(i:Nat)(ρ:bc)(o:Option (aC)):O (D×bc):=match o with
 |some (some d)=>if aR cK d then ok (d,ρ.set i none)else ok (d,ρ)
 |_=>none
@[simp]theorem Qg{i:Nat}{d:D}(h:aR cK d=true):Dt i ρ (some (some d))=ok (d,ρ.set i none):=aa0 h
@[simp]theorem Qh{i:Nat}{d:D}(h:aR cK d=false):Dt i ρ (some (some d))=ok (d,ρ):=ack (by rw[h];exact aag)
@[simp]theorem k_v(Φ:aT)(i:Nat)(ρ:bc):jY Φ (.v i) ρ=Dt i ρ ρ[i]?:=rfl
noncomputable def isV:CE->Bool
 |.v _=>true
 |_=>false
@[simp]theorem Yz(Φ:aT)(ρ:bc)(op:ID)(a b:CE):jY Φ (.bin op a b) ρ=df (.bin op a b) ρ (bp Φ (.bin op a b) ρ):=rfl
@[simp]theorem Yy(Φ:aT)(ρ:bc)(op:BB)(a b:CE):jY Φ (.cmp op a b) ρ=df (.cmp op a b) ρ (bp Φ (.cmp op a b) ρ):=rfl
@[simp]theorem VP(Φ:aT)(ρ:bc)(f:Nat)(es:aD):jY Φ (.call f es) ρ=df (.call f es) ρ (bp Φ (.call f es) ρ):=rfl
@[simp]theorem aaW(Φ:aT)(ρ:bc)(f:Bf)(es:aD):jY Φ (.bf f es) ρ=df (.bf f es) ρ (bp Φ (.bf f es) ρ):=rfl
@[simp]theorem Ys(Φ:aT)(ρ:bc)(f:Nat)(es:aD):jY Φ (.cz f es) ρ=df (.cz f es) ρ (bp Φ (.cz f es) ρ):=rfl
@[simp]theorem aaU(Φ:aT)(ρ:bc)(a b:CE):jY Φ (.ix a b) ρ=df (.ix a b) ρ (bp Φ (.ix a b) ρ):=rfl
@[simp]theorem Yr(Φ:aT)(ρ:bc)(es:aD):jY Φ (.tup es) ρ=df (.tup es) ρ (bp Φ (.tup es) ρ):=rfl
@[simp]theorem Yw(Φ:aT)(ρ:bc)(es:aD):jY Φ (.lst es) ρ=df (.lst es) ρ (bp Φ (.lst es) ρ):=rfl
@[simp]theorem Jo(Φ:aT)(ρ:bc)(i:Int):jY Φ (.int i) ρ=df (.int i) ρ (bp Φ (.int i) ρ):=rfl
@[simp]theorem aaV(Φ:aT)(ρ:bc)(i:Bool):jY Φ (.bl i) ρ=df (.bl i) ρ (bp Φ (.bl i) ρ):=rfl
@[simp]theorem Yu(Φ:aT)(ρ:bc): jY Φ (.cg) ρ=df (.cg) ρ (bp Φ (.cg) ρ):=rfl
@[simp]theorem Yv(Φ:aT)(ρ:bc)(a:CE):jY Φ (.neg a) ρ=df (.neg a) ρ (bp Φ (.neg a) ρ):=rfl
@[simp]theorem Yt(Φ:aT)(ρ:bc)(a:CE):jY Φ (.not a) ρ=df (.not a) ρ (bp Φ (.not a) ρ):=rfl
@[simp]theorem YA(Φ:aT)(ρ:bc)(es:aD):jY Φ (.and es) ρ=df (.and es) ρ (bp Φ (.and es) ρ):=rfl
@[simp]theorem aaT(Φ:aT)(ρ:bc)(es:aD):jY Φ (.or es) ρ=df (.or es) ρ (bp Φ (.or es) ρ):=rfl
@[simp]theorem VO(Φ:aT)(ρ:bc)(n:Nat)(t:Tg)(caps:aN)(ik:IK)(es bN:aD)(elt:CE):jY Φ (.comp n t caps ik es bN elt) ρ=df (.comp n t caps ik es bN elt) ρ (bp Φ (.comp n t caps ik es bN elt) ρ):=rfl
@[simp]theorem Yx(Φ:aT)(ρ:bc)(a:CE)(t:Ty):jY Φ (.qW a t) ρ=df (.qW a t) ρ (bp Φ (.qW a t) ρ):=rfl
@[simp]theorem VN(Φ:aT)(ρ:bc)(a:CE):jY Φ (.jV a) ρ=df (.jV a) ρ (bp Φ (.jV a) ρ):=rfl
theorem Qz(Φ:aT)(e:CE)(ρ:bc)(h:isV e=false):jY Φ e ρ=df e ρ (bp Φ e ρ):=by cases e<;>first|rfl|cases h
@[simp]theorem NW(ρ:bc):iz [] [] ρ=ok ρ:=rfl
variable {ds xs:ab}{is:aN}
@[simp]theorem Kt{i:Nat}{d:D}(h:i<ρ.length):iz (i::is) (d::ds) ρ=iz is ds (ρ.set i (some d)):=aa0 h
@[simp]theorem SV{i:Nat}{d:D}(h:i<ρ.length):b8 (.nm i) d ρ=ok (ρ.set i (some d)):=aa0 h
@[simp]theorem SU(h:aM cK ds=false):b8 (.tp is) (.tup ds) ρ=iz is ds ρ:=ack (by rw[h];exact aag)
def NG(i:Nat)(r:O (D×bc)):O (Fo×bc):=bd r λr=>bd (b8 (.nm i) r.1 r.2) λρ'=>ok (.nx,ρ')
@[simp]theorem z3{i:Nat}{d:D}(h:i<ρ.length):NG i (ok (d,ρ))=ok (.nx,ρ.set i (some d)):=by
 show bd (b8 (.nm i) d ρ) _=_;rw[b8,if_pos h];rfl
@[simp]theorem Sr(i:Nat)(c:Nat):NG i (some (.error c))=some (.error c):=rfl
def Sq(is:aN)(r:O (D×bc)):O (Fo×bc):=bd r λr=>bd (b8 (.tp is) r.1 r.2) λρ'=>ok (.nx,ρ')
@[simp]theorem Ua(h:aM cK ds=false):Sq is (ok (.tup ds,ρ))=bd (iz is ds ρ) λρ'=>ok (.nx,ρ'):=by
 show bd (b8 (.tp is) (.tup ds) ρ) _=_;rw[b8,h];rfl
noncomputable def retS(r:O (D×bc)):O (Fo×bc):=bd r λr=>ok (.rt r.1,r.2)
@[simp]theorem SX(d:D)(ρ:bc):retS (ok (d,ρ))=ok (.rt d,ρ):=rfl
@[simp]theorem Pj(c:Nat):retS (some (.error c))=some (.error c):=rfl
noncomputable def Xf(ρ:bc)(x:O D):O (Fo×bc):=bd x λ_=>ok (.nx,ρ)
@[simp]theorem Xe(ρ:bc)(d:D):Xf ρ (ok d)=ok (.nx,ρ):=rfl
@[simp]theorem TZ(ρ:bc)(c:Nat):Xf ρ (some (.error c))=some (.error c):=rfl
noncomputable def qG(Φ:aT)(ss:ah)(r:O (Fo×bc)):O (Fo×bc):=bd r λr=>match r with
 | (.nx,ρ')=>bC Φ ss ρ'
 |r=>ok r
@[simp]theorem uu(Φ:aT)(ss:ah)(ρ:bc):qG Φ ss (ok (.nx,ρ))=bC Φ ss ρ:=rfl
@[simp]theorem OO(Φ:aT)(ss:ah)(d:D)(ρ:bc):qG Φ ss (ok (.rt d,ρ))=ok (.rt d,ρ):=rfl
@[simp]theorem OQ(Φ:aT)(ss:ah)(ρ:bc):qG Φ ss (ok (.bk,ρ))=ok (.bk,ρ):=rfl
@[simp]theorem OP(Φ:aT)(ss:ah)(ρ:bc):qG Φ ss (ok (.ct,ρ))=ok (.ct,ρ):=rfl
@[simp]theorem NT(Φ:aT)(ss:ah)(c:Nat):qG Φ ss (some (.error c))=some (.error c):=rfl
noncomputable def Hl(Φ:aT)(a b:ah)(ρ:bc)(x:O Bool):O (Fo×bc):=bd x λk=>if k then bC Φ a ρ else bC Φ b ρ
@[simp]theorem VU(Φ:aT)(a b:ah)(ρ:bc):Hl Φ a b ρ (ok true)=bC Φ a ρ:=rfl
@[simp]theorem VV(Φ:aT)(a b:ah)(ρ:bc):Hl Φ a b ρ (ok false)=bC Φ b ρ:=rfl
@[simp]theorem QA(Φ:aT)(a b:ah)(ρ:bc)(c:Nat):Hl Φ a b ρ (some (.error c))=some (.error c):=rfl
def Ss(i:Nat)(r:O (D×bc)):O (Fo×bc):=bd r λr=>match C4 r.2[i]? with
  |some ds=>if ds.length<cP then ok (.nx,r.2.set i (some (.lst .ow (ds++[r.1]))))else none
  |none=>none
@[simp]theorem Uc{i:Nat}{d:D}(h:ρ[i]?=some (some (.lst .ow ds)))(hl:ds.length<cP):Ss i (ok (d,ρ))=ok (.nx,ρ.set i (some (.lst .ow (ds++[d])))):=by
 show(match C4 ρ[i]? with|some ds=>_|none=>_)=_;rw[h];exact aa0 hl
section
variable (Φ:aT)(ρ:bc)
@[simp]theorem X0:bC Φ [] ρ=ok (.nx,ρ):=rfl
@[simp]theorem bT(s:CS)(ss:ah):bC Φ (s::ss) ρ=qG Φ ss (lD Φ s ρ):=rfl
@[simp]theorem IH(i:Nat)(e:CE):lD Φ (.asg (.nm i) e) ρ=NG i (jY Φ e ρ):=rfl
@[simp]theorem Uq(is:aN)(e:CE):lD Φ (.asg (.tp is) e) ρ=Sq is (jY Φ e ρ):=rfl
@[simp]theorem XZ(e:CE):lD Φ (.ret e) ρ=retS (jY Φ e ρ):=rfl
theorem qx(c:CE)(b:ah):lD Φ (.J4 c b) ρ=fF (λρ=>bd (A4 Φ c ρ) λk=>if k then bd (bC Φ b ρ) λr=>match r with
   | (.nx,ρ')=>ok (.inl ρ')
   | (.ct,ρ')=>ok (.inl ρ')
   | (.bk,ρ')=>ok (.inr (.nx,ρ'))
   | (.rt d,ρ')=>ok (.inr (.rt d,ρ'))
  else ok (.inr (.nx,ρ))) ρ:=rfl
theorem OB(i j:Nat)(a b:CE):lD Φ (.par i j a b) ρ=bd (bp Φ a ρ) λx=>bd (bp Φ b ρ) λy=>if aR anyF x=false/\aR anyF y=false/\i<ρ.length/\j<ρ.length then ok (.nx,(ρ.set i (some x)).set j (some y))else none:=rfl
@[simp]theorem Z5(c:Nat):lD Φ (.rs c) ρ=some (.error c):=rfl
@[simp]theorem Z6(e:CE):lD Φ (.ex e) ρ=Xf ρ (bp Φ e ρ):=rfl
@[simp]theorem FR(c:CE)(a b:ah):lD Φ (.ifs c a b) ρ=Hl Φ a b ρ (wM (bp Φ c ρ)):=rfl
@[simp]theorem BJ(i:Nat)(e:CE):lD Φ (.app i e) ρ=Ss i (jY Φ e ρ):=rfl
end
noncomputable def mk(Φ:aT)(ar n:Nat)(b:ah):av:=λds=>if ds.length=ar then si Φ n b ds else none
noncomputable def m7(r:O (Fo×bc)):O D:=bd r λr=>match r.1 with
 |.nx=>ok .cg
 |.rt d=>ok d
 |_=>none
@[simp]theorem T4(ρ:bc):m7 (ok (.nx,ρ))=ok .cg:=rfl
@[simp]theorem T3(d:D)(ρ:bc):m7 (ok (.rt d,ρ))=ok d:=rfl
@[simp]theorem RU(c:Nat):m7 (some (.error c))=some (.error c):=rfl
variable {ar:Nat}{Φ:aT}
theorem mk_eq{n:Nat}{b:ah}(h:ds.length=ar):mk Φ ar n b ds=m7 (bC Φ b (ds.map some++List.replicate (n - ds.length) none)):=aa0 h
theorem xn{n:Nat}{b:ah}(ds:ab)(r:D)(h:mk Φ ar n b ds=ok r):ds.length=ar/\si Φ n b ds=ok r:=by
 unfold mk at h;split at h
 ·rename_i hl;exact⟨hl,h⟩
 ·cases h
theorem Int.beq_eq_decide_eq(i j:Int):(i==j)=decide (i=j):=rfl
section
variable (g:Fl->Fl)(p:Fl->Bool)
@[simp]theorem Hd(b:Bool):aS g (.bl b)=.bl b:=rfl
@[simp]theorem vn(b:Int):aS g (.int b)=.int b:=rfl
@[simp]theorem Ql:aS g .cg=.cg:=rfl
@[simp]theorem Dv(ds:ab):aS g (.tup ds)=.tup (aA g ds):=rfl
@[simp]theorem Qm(f:Fl)(ds:ab):aS g (.lst f ds)=.lst (g f) (aA g ds):=rfl
@[simp]theorem Qk(f:Fl)(ks:af)(vs:ab):aS g (.dY f ks vs)=.dY (g f) ks (aA g vs):=rfl
@[simp]theorem Qn(f:Fl)(ks:af)(vs:ab):aS g (.dy f ks vs)=.dy (g f) ks (aA g vs):=rfl
@[simp]theorem N2:aA g []=[]:=rfl
@[simp]theorem LC(d:D)(ds:ab):aA g (d::ds)=aS g d::aA g ds:=rfl
@[simp]theorem N4(a b:ab):aA g (a++b)=aA g a++aA g b:=by simp only[aQ,List.map_append]
@[simp]theorem N3(ds:ab):(aA g ds).length=ds.length:=by rw[aQ,List.length_map]
theorem cv{α:Type}{e:α->D}(h:∀x,aS g (e x)=e x)(xs:List α):aA g (xs.map e)=xs.map e:=by
 rw[aQ,List.map_map];exact aak λx _=>h x
theorem bW{α:Type}{e:α->D}(h:∀x,aR p (e x)=false):∀xs:List α,aM p (xs.map e)=false
 |[]=>by rw[List.map_nil,aM]
 |x::xs=>by rw[List.map_cons,aM,h x,bW h xs];rfl
@[simp]theorem HA(b:Bool):aR p (.bl b)=false:=ab1 rfl
@[simp]theorem kU(b:Int):aR p (.int b)=false:=ab1 rfl
@[simp]theorem Rm:aR p .cg=false:=ab1 rfl
@[simp]theorem Ed(ds:ab):aR p (.tup ds)=aM p ds:=ab1 rfl
@[simp]theorem Ef(f:Fl)(ds:ab):aR p (.lst f ds)=(p f||aM p ds):=ab1 rfl
@[simp]theorem Rl(f:Fl)(ks:af)(vs:ab):aR p (.dY f ks vs)=(p f||aM p vs):=ab1 rfl
@[simp]theorem Rn(f:Fl)(ks:af)(vs:ab):aR p (.dy f ks vs)=(p f||aM p vs):=ab1 rfl
@[simp]theorem Of:aM p []=false:=ab1 rfl
@[simp]theorem Mu(d:D)(ds:ab):aM p (d::ds)=(aR p d||aM p ds):=ab1 rfl
@[simp]theorem AV:∀a b:ab,aM p (a++b)=(aM p a||aM p b)
 |[],b=>by simp
 |d::a,b=>by simp[AV a b,Bool.or_assoc]
@[simp]theorem oO(ns:aa):aA g (ns.map D.int)=ns.map D.int:=cv g (vn g) ns
@[simp]theorem xG(ns:aa):aM p (ns.map D.int)=false:=bW p (kU p) ns
@[simp]theorem AA(ns:List Bool):aA g (ns.map D.bl)=ns.map D.bl:=cv g (Hd g) ns
@[simp]theorem AU(ns:List Bool):aM p (ns.map D.bl)=false:=bW p (HA p) ns
@[simp]theorem N6(t:Ty)(d:D):dv t (aS g d)=dv t d:=by cases d<;>cases t<;>rfl
end
@[simp]theorem MU:bo .ow=.al:=rfl
@[simp]theorem MV:bo .fz=.fz:=rfl
@[simp]theorem MW:bo .al=.al:=rfl
@[simp]theorem MT:bo .sc=.sc:=rfl
@[simp]theorem MQ:aW .ow=.fz:=rfl
@[simp]theorem MR:aW .fz=.fz:=rfl
@[simp]theorem MS:aW .al=.fz:=rfl
@[simp]theorem MP:aW .sc=.sc:=rfl
@[simp]theorem M_:l5 .ow=.ow:=rfl
@[simp]theorem Na:l5 .fz=.al:=rfl
@[simp]theorem Nb:l5 .al=.al:=rfl
@[simp]theorem M9:l5 .sc=.sc:=rfl
@[simp]theorem M6:bF .ow=false:=rfl
@[simp]theorem M7:bF .fz=false:=rfl
@[simp]theorem M8:bF .al=true:=rfl
@[simp]theorem M5:bF .sc=false:=rfl
@[simp]theorem M1:cK .ow=true:=rfl
@[simp]theorem M3:cK .fz=false:=rfl
@[simp]theorem M4:cK .al=false:=rfl
@[simp]theorem M0:cK .sc=false:=rfl
@[simp]theorem MX:xy .ow=false:=rfl
@[simp]theorem MY:xy .fz=false:=rfl
@[simp]theorem MZ:xy .al=false:=rfl
noncomputable def ag(ns:aa):ab:=ns.map D.int
noncomputable def k9(ns:List Bool):ab:=ns.map D.bl
@[simp]theorem N9(ns:aa):(ag ns).length=ns.length:=aaY ..
@[simp]theorem Sj(ns:List Bool):(k9 ns).length=ns.length:=aaY ..
@[simp]theorem AL:ag []=[]:=rfl
@[simp]theorem L9(n:Int)(ns:aa):ag (n::ns)=.int n::ag ns:=rfl
@[simp]theorem L8(ns:aa)(n:Int):ag ns++[.int n]=ag (ns++[n]):=by simp[ag]
@[simp]theorem lZ(ns:aa)(i:Nat):(ag ns)[i]?=ns[i]?.map D.int:=List.getElem?_map ..
@[simp]theorem bQ(g:Fl->Fl)(ns:aa):aA g (ag ns)=ag ns:=oO g ns
@[simp]theorem Jx(p:Fl->Bool)(ns:aa):aM p (ag ns)=false:=xG p ns
@[simp]theorem LD(g:Fl->Fl)(ns:List Bool):aA g (k9 ns)=k9 ns:=AA g ns
@[simp]theorem Mv(p:Fl->Bool)(ns:List Bool):aM p (k9 ns)=false:=AU p ns
@[simp]theorem ZM(i j:Int):cX .add (.int i) (.int j)=ok (.int (i+j)):=rfl
@[simp]theorem ZK(i j:Int):cX .sub (.int i) (.int j)=ok (.int (i - j)):=rfl
theorem dz{i j:Int}(h:eN i j=true):cX .mul (.int i) (.int j)=ok (.int (i*j)):=aa0 h
theorem tH{i j:Int}(h:rq j=true):cX .fdiv (.int i) (.int j)=ok (.int (i.fdiv j)):=aa0 h
@[simp]theorem Sl{i j:Int}(h:j≠0):cX .mod (.int i) (.int j)=ok (.int (i.fmod j)):=aa0 h
@[simp]theorem ZL{i j:Int}(h:0<=j):cX .shr (.int i) (.int j)=ok (.int (i / 2 ^ j.toNat)):=aa0 h
theorem JS{i j:Int}(h:yJ i j=true):cX .pow (.int i) (.int j)=ok (.int (i ^ j.toNat)):=aa0 h
@[simp]theorem Yp(i:Int):Hc (.int i)=ok (.int (-i)):=rfl
theorem mulOk_of{i j:Int}(h:i.natAbs<2 ^ 9000)(h':j.natAbs<2 ^ 9000):eN i j=true:=by
 simp only[eN,big,h,h',decide_true,Bool.and_self,Bool.or_true]
theorem sG{n:Nat}(h:n<2 ^ 64):n<2 ^ 9000:=aaj h (aam (by decide) (by decide))
theorem sC{i:Int}(j:Int)(h:i.natAbs<2 ^ 64):eN i j=true:=by simp only[eN,h,decide_true,Bool.true_or]
theorem yX{j:Int}(i:Int)(h:j.natAbs<2 ^ 64):eN i j=true:=by simp only[eN,h,decide_true,Bool.true_or,Bool.or_true]
theorem k0{j:Int}(h0:j≠0)(h:j.natAbs<2 ^ 9000):rq j=true:=by
 simp only[rq,big,h,decide_true,Bool.and_true,decide_eq_true_eq];exact h0
@[simp]theorem zX{i j:Int}(h:j.natAbs<2 ^ 64):cX .mul (.int i) (.int j)=ok (.int (i*j)):=dz (yX i h)
@[simp]theorem T_{i j:Int}(h:i.natAbs<2 ^ 64):cX .mul (.int i) (.int j)=ok (.int (i*j)):=dz (sC j h)
@[simp]theorem Sn{i j:Int}(h0:j≠0)(h:j.natAbs<2 ^ 64):cX .fdiv (.int i) (.int j)=ok (.int (i.fdiv j)):=tH (k0 h0 (sG h))
theorem EW{a b:D}(ha:cR 40 a=true)(hb:cR 40 b=true):fm .eq a b=ok (.bl (mF a b)):=by
 show(if cR 40 a&&cR 40 b then _ else _)=_;rw[ha,hb];rfl
theorem Ny{a b:D}(ha:cR 40 a=true)(hb:cR 40 b=true):fm .ne a b=ok (.bl (!mF a b)):=by
 show(if cR 40 a&&cR 40 b then _ else _)=_;rw[ha,hb];rfl
@[simp]theorem gU(n:Nat)(i:Int):cR n (.int i)=true:=by cases n<;>rfl
@[simp]theorem VA(n:Nat)(i:Bool):cR n (.bl i)=true:=by cases n<;>rfl
@[simp]theorem Tf(n:Nat):cR n .cg=true:=by cases n<;>rfl
@[simp]theorem G7(n:Nat)(ds:ab):cR (n+1) (.tup ds)=ds.all (cR n):=rfl
@[simp]theorem Te(n:Nat)(f:Fl)(ds:ab):cR (n+1) (.lst f ds)=ds.all (cR n):=rfl
@[simp]theorem Vl(i j:Int):fm .eq (.int i) (.int j)=ok (.bl (decide (i=j))):=by rw[EW (gU _ _) (gU _ _)];show ok (D.bl (i==j))=_;rw[Int.beq_eq_decide_eq]
@[simp]theorem Vk(i j:Int):fm .ne (.int i) (.int j)=ok (.bl (!decide (i=j))):=by rw[Ny (gU _ _) (gU _ _)];show ok (D.bl (!(i==j)))=_;rw[Int.beq_eq_decide_eq]
@[simp]theorem aaF(i j:Int):fm .lt (.int i) (.int j)=ok (.bl (decide (i<j))):=rfl
@[simp]theorem aaG(i j:Int):fm .le (.int i) (.int j)=ok (.bl (decide (i<=j))):=rfl
@[simp]theorem aaH(i j:Int):fm .gt (.int i) (.int j)=ok (.bl (decide (j<i))):=rfl
@[simp]theorem aaI(i j:Int):fm .ge (.int i) (.int j)=ok (.bl (decide (j<=i))):=rfl
@[simp]theorem YG(ds:ab)(i:Int):AE (.tup ds) (.int i)=tJ ds i:=rfl
@[simp]theorem YH(f:Fl)(ds:ab)(i:Int):AE (.lst f ds) (.int i)=tJ ds i:=rfl
theorem pK{n:Nat}{d:D}(h:ds[n]?=some d):tJ ds (n:Int)=ok (aS bo d):=by
 have hn:n<ds.length:=(List.getElem?_eq_some_iff.mp h).1;have e:Bs ds.length (n:Int)=some n:=by unfold Bs;rw[if_pos (by left),if_pos (by left)];rfl
 unfold tJ;rw[e,Option.bind_some,h]
theorem at_of{i:Int}{d:D}(h0:0<=i)(h:ds[i.toNat]?=some d):tJ ds i=ok (aS bo d):=by
 have:=pK h
 rwa [show((i.toNat:Nat):Int)=i by left]at this
@[simp]theorem acN(d:D)(ds:ab):tJ (d::ds) 0=ok (aS bo d):=pK (n:=0) rfl
@[simp]theorem acM(a d:D)(ds:ab):tJ (a::d::ds) 1=ok (aS bo d):=pK (n:=1) rfl
@[simp]theorem acL(a b d:D)(ds:ab):tJ (a::b::d::ds) 2=ok (aS bo d):=pK (n:=2) rfl
@[simp]theorem TX(ds:ab):m8 .len [.tup ds]=ok (.int ds.length):=rfl
@[simp]theorem TY(f:Fl)(ds:ab):m8 .len [.lst f ds]=ok (.int ds.length):=rfl
@[simp]theorem Zk(i:Int):m8 .abs [.int i]=ok (.int i.natAbs):=by
 show ok (D.int (if i<0 then -i else i))=_;congr 2;split<;>left
@[simp]theorem RR(f:Fl)(ds:ab):m8 .list1 [.lst f ds]=ok (.lst .ow (aA bo ds)):=rfl
@[simp]theorem RQ(ds:ab):m8 .list1 [.tup ds]=ok (.lst .ow (aA bo ds)):=rfl
@[simp]theorem TV(f:Fl)(ds:ab):m8 .tuple1 [.lst f ds]=ok (.tup (aA bo ds)):=rfl
@[simp]theorem TU(ds:ab):m8 .tuple1 [.tup ds]=ok (.tup (aA bo ds)):=rfl
@[simp]theorem Zi(f:Fl)(ns:aa):m8 .gS [.lst f (ag ns)]=ok (.int ns.sum):=by
 show(match intsOf (ns.map D.int)with|some ns=>_|none=>_)=_;rw[bD]
@[simp]theorem Zj(f:Fl)(bs:List Bool):m8 .all1 [.lst f (k9 bs)]=ok (.bl (bs.all id)):=by
 show(match i_ (bs.map D.bl)with|some ns=>_|none=>_)=_;rw[mf]
variable {ns ws:aa}
@[simp]theorem sW(h:ns.length<64):m8 .cY [.tup (ag ns)]=ok (.lst .ow (ag (sortI ns))):=by
 show qI _=_;unfold qI ag;rw[bD];exact aa0 h
@[simp]theorem Nc(h:ns.length<4000):y6 (.tup (ag ns))=ok (.int (sZ ns).length):=by
 show(match intsOf (ns.map D.int)with|some ns=>_|none=>_)=_;rw[bD];exact aa0 h
@[simp]theorem kY(i j:Int):mF (.int i) (.int j)=decide (i=j):=by show(i==j)=_;rw[Int.beq_eq_decide_eq]
@[simp]theorem Xj(i j:Bool):mF (.bl i) (.bl j)=(i==j):=rfl
@[simp]theorem HJ(a b:ab):mF (.tup a) (.tup b)=fj a b:=rfl
@[simp]theorem HK(f g:Fl)(a b:ab):mF (.lst f a) (.lst g b)=fj a b:=rfl
@[simp]theorem Ey:fj [] []=true:=rfl
@[simp]theorem l6(a b:D)(as bs:ab):fj (a::as) (b::bs)=(mF a b&&fj as bs):=rfl
theorem pz:∀{as bs:ab},fj as bs=true->as.length=bs.length
 |[],[],_=>rfl
 |[],_::_,h=>(aag h).elim
 |_::_,[],h=>(aag h).elim
 |a::as,b::bs,h=>by
  replace h:(_&&_)=true:=h;rw[Bool.and_eq_true]at h;rw[List.length_cons,List.length_cons,pz h.2]
theorem pB{α:Type}{e:α->D}[DecidableEq α](h:∀x y,mF (e x) (e y)=decide (x=y)):∀xs ys:List α,fj (xs.map e) (ys.map e)=decide (xs=ys)
 |[],[]=>by simp
 |[],y::ys=>by
  cases z:fj ([].map e) ((y::ys).map e)with
  |true=>have:=pz z;simp at this
  |false=>simp
 |x::xs,[]=>by
  cases z:fj ((x::xs).map e) ([].map e)with
  |true=>have:=pz z;simp at this
  |false=>simp
 |x::xs,y::ys=>by
  rw[List.map_cons,List.map_cons,l6,h,pB h xs ys];by_cases e1:x=y<;>by_cases e2:xs=ys<;>simp[e1,e2]
theorem yV{α:Type}{e:α->D}{n:Nat}(h:∀x,cR n (e x)=true)(xs:List α):(xs.map e).all (cR n)=true:=by
 rw[List.all_map];exact List.all_eq_true.mpr λx _=>h x
theorem bS{bind:D->O bc}{test:bc->O Bool}{el:bc->O D}{α:Type}{e:α->D}{g:α->D}:∀{xs:List α},(∀x∈xs,∃ρ,bind (e x)=ok ρ/\test ρ=ok true/\el ρ=ok (g x))->iC bind test el (xs.map e)=ok (xs.map g)
 |[],_=>rfl
 |x::xs,h=>by
  obtain⟨ρ,h1,h2,h3⟩:=h x (aaf ..);have ih:=bS (xs:=xs) λy hy=>h y (aad _ hy);rw[List.map_cons,iC,h1,b_,h2,b_,if_pos rfl,h3,b_,ih];rfl
theorem i9{bind:D->O bc}{test:bc->O Bool}{el:bc->O D}{α:Type}{e:α->D}{g:α->D}{t:α->Bool}:∀{xs:List α},(∀x∈xs,∃ρ,bind (e x)=ok ρ/\test ρ=ok (t x)/\(t x=true->el ρ=ok (g x)))->iC bind test el (xs.map e)=ok ((xs.filter t).map g)
 |[],_=>rfl
 |x::xs,h=>by
  obtain⟨ρ,h1,h2,h3⟩:=h x (aaf ..);have ih:=i9 (xs:=xs) λy hy=>h y (aad _ hy);rw[List.map_cons,iC,h1,b_,h2,b_,List.filter_cons];cases ht:t x with
  |true=>rw[if_pos rfl,h3 ht,b_,ih,if_pos rfl];rfl
  |false=>rw[if_neg Bool.false_ne_true,ih,if_neg Bool.false_ne_true]
section
variable {Φ:aT}{n:Nat}{t:Tg}{caps:aN}{ik:IK}{es bN:aD}{elt:CE}{ρ:bc}{xs items ds:ab}
theorem cM(h1:b9 Φ es ρ=ok xs)(h2:dI Φ ik xs=ok items)
  (h3:iC (λd=>b8 t d (bG n caps ρ)) (λρ'=>iB Φ bN ρ') (λρ'=>bp Φ elt ρ') items=ok ds) (hl:ds.length<=cP):bp Φ (.comp n t caps ik es bN elt) ρ=ok (.lst .ow (aA l5 ds)):=by
 show bd (b9 Φ es ρ) _=_;rw[h1,b_,h2,b_,h3,b_,if_pos hl]
end
theorem zh(Φ:aT)(ds:ab):dI Φ .seq [.tup ds]=ok (aA aW ds):=rfl
theorem eH(Φ:aT)(f:Fl)(ds:ab):dI Φ .seq [.lst f ds]=ok (aA aW ds):=rfl
theorem zi(Φ:aT){n:Int}(h0:0<=n)(h:n<=1000000):dI Φ .lz [.int n]=ok ((List.range n.toNat).map λ(k:Nat)=>D.int (k:Int)):=by
 show(if n<=(cP:Int) /\ -(cP:Int)<=n then _ else _)=_;have:(cP:Int)=1000000:=rfl;rw[if_pos (by left)]
theorem bZ{n:Nat}(h:n<=1000000):n<=cP:=h
theorem dS{t:Tg}{it:CI}{b:ah}{items:ab}{r:O (Fo×bc)}(h:cB Φ it ρ=ok (items,ρ1))(h':dw (λd ρ=>b8 t d ρ) (λρ=>bC Φ b ρ) items ρ1=r):lD Φ (.fr t it b) ρ=r:=by
 show bd (cB Φ it ρ) _=_;rw[h];exact h'
theorem sV(bind:D->bc->O bc)(body:bc->O (Fo×bc))(ρ:bc):dw bind body [] ρ=ok (.nx,ρ):=rfl
theorem cL{bind:D->bc->O bc}{body:bc->O (Fo×bc)}{x:D}{ρ2:bc}{r:O (Fo×bc)}(h1:bind x ρ=ok ρ1)(h2:body ρ1=ok (.nx,ρ2))(h3:dw bind body xs ρ2=r):dw bind body (x::xs) ρ=r:=by
 rw[dw,h1,b_,h2];exact h3
theorem Hm{a:CE}{n:Int}(h:bp Φ a ρ=ok (.int n))(h0:0<=n)(h1:n<=1000000):cB Φ (.lz a) ρ=ok ((List.range n.toNat).map λ(k:Nat)=>D.int (k:Int),ρ):=by
 show bd (bp Φ a ρ) _=_;rw[h];show(if n<=(cP:Int) /\ -(cP:Int)<=n then _ else _)=_;have:(cP:Int)=1000000:=rfl;rw[if_pos (by left)]
theorem VY{a:CE}(h:bp Φ a ρ=ok (.tup ds)):cB Φ (.seq a) ρ=ok (aA aW ds,if aM bF ds then qq (gN a) 0 ρ else ρ):=by
 show bd (bp Φ a ρ) _=_;rw[h,<- xI];show ok (_,if aR bF (.tup ds)then _ else _)=_;rw[Ed]
theorem AF{a:CE}{f:Fl}(h:bp Φ a ρ=ok (.lst f ds)):cB Φ (.seq a) ρ=ok (aA aW ds,if (bF f||aM bF ds)then qq (gN a) 0 ρ else ρ):=by
 show bd (bp Φ a ρ) _=_;rw[h,<- xI];show ok (_,if aR bF (.lst f ds)then _ else _)=_;rw[Ef]
noncomputable def fN(t b:Int):Int:=if b<0 then -(Int.gcd t b:Int)else(Int.gcd t b:Int)
def Ls(t b:Int):Int:=t.fdiv (fN t b)
def Lu(t b:Int):Int:=b.fdiv (fN t b)
theorem zx{t b:Int}(h:b≠0):0<Int.gcd t b:=Int.gcd_pos_of_ne_zero_right t h
theorem j0{t b:Int}(h:b≠0):fN t b≠0:=by
 have:=zx (t:=t) h;unfold fN;split<;>left
theorem MK{t b:Int}(h:b≠0):Int.gcd t b<=b.natAbs:=abV (by left) (Nat.gcd_dvd_right _ _)
theorem HP{t b:Int}(h:b≠0):(fN t b).natAbs<=b.natAbs:=by
 have:=MK (t:=t) h;unfold fN;split<;>left
theorem oF{t b:Int}(h:b≠0):∃t' b':Int,t=fN t b*t'/\b=fN t b*b'/\Ls t b=t'/\Lu t b=b'/\1<=b'/\Int.gcd t' b'=1:=by
 have hg:=zx (t:=t) h;obtain⟨t1,ht⟩:(Int.gcd t b:Int)∣t:=Int.gcd_dvd_left ..;obtain⟨b1,hb⟩:(Int.gcd t b:Int)∣b:=Int.gcd_dvd_right ..;have hc:Int.gcd t1 b1=1:=by
  have e:Int.gcd ((Int.gcd t b:Int)*t1) ((Int.gcd t b:Int)*b1)=Int.gcd t b*Int.gcd t1 b1:=by
   rw[Int.gcd_mul_left];simp
  rw[<- ht,<- hb]at e;have:Int.gcd t b*1=Int.gcd t b*Int.gcd t1 b1:=by rw[Nat.mul_one];exact e
  exact(Nat.eq_of_mul_eq_mul_left hg this).symm
 by_cases hn:b<0
 ·have ed:fN t b = -(Int.gcd t b:Int):=by simp[fN,hn]
  have e1:t=fN t b*(-t1):=by rw[ed,Int.neg_mul_neg];exact ht
  have e2:b=fN t b*(-b1):=by rw[ed,Int.neg_mul_neg];exact hb
  refine⟨-t1,-b1,e1,e2,?_,?_,?_,by rw[Int.gcd_neg,Int.neg_gcd];exact hc⟩
  ·unfold Ls
   conv=>lhs;arg 1;rw[e1]
   exact abm _ (j0 h)
  ·unfold Lu
   conv=>lhs;arg 1;rw[e2]
   exact abm _ (j0 h)
  ·have:b1<0:=by
    by_cases WN:b1<0
    ·exact WN
    ·have:0<=(Int.gcd t b:Int)*b1:=Int.mul_nonneg (by left) (by left);left
   left
 ·have ed:fN t b=(Int.gcd t b:Int):=by simp[fN,hn]
  have e1:t=fN t b*t1:=by rw[ed];exact ht
  have e2:b=fN t b*b1:=by rw[ed];exact hb
  refine⟨t1,b1,e1,e2,?_,?_,?_,hc⟩
  ·unfold Ls
   conv=>lhs;arg 1;rw[e1]
   exact abm _ (j0 h)
  ·unfold Lu
   conv=>lhs;arg 1;rw[e2]
   exact abm _ (j0 h)
  ·have:0<b1:=by
    by_cases WN:0<b1
    ·exact WN
    ·have:(Int.gcd t b:Int)*b1<=0:=Int.mul_nonpos_of_nonneg_of_nonpos (by left) (by left);left
   left
noncomputable def qD(q:Rat):D:=.tup [.int q.num,.int q.den]
@[simp]theorem LG(g:Fl->Fl)(q:Rat):aS g (qD q)=qD q:=by unfold qD;simp
@[simp]theorem Mx(g:Fl->Bool)(q:Rat):aR g (qD q)=false:=by unfold qD;simp
noncomputable def ba(qs:ai):ab:=qs.map qD
@[simp]theorem GF(qs:ai):(ba qs).length=qs.length:=aaY ..
@[simp]theorem S5:ba []=[]:=rfl
@[simp]theorem Pp(q:Rat)(qs:ai):ba (q::qs)=qD q::ba qs:=rfl
@[simp]theorem Po(qs:ai)(q:Rat):ba qs++[qD q]=ba (qs++[q]):=by simp[ba]
@[simp]theorem GG(qs:ai)(i:Nat):(ba qs)[i]?=qs[i]?.map qD:=List.getElem?_map ..
@[simp]theorem S3(qs:ai)(i:Nat)(q:Rat):(ba qs).set i (qD q)=ba (qs.set i q):=by unfold ba;rw[List.map_set]
@[simp]theorem oM(g:Fl->Fl)(qs:ai):aA g (ba qs)=ba qs:=cv g (LG g) qs
@[simp]theorem Rj(g:Fl->Bool)(qs:ai):aM g (ba qs)=false:=bW g (Mx g) qs
theorem vb(n:Nat)(q:Rat):cR (n+1) (qD q)=true:=by
 unfold qD;rw[G7,List.all_cons,List.all_cons,gU,gU];rfl
theorem Ez(p q:Rat):mF (qD p) (qD q)=decide (p=q):=by
 unfold qD;rw[HJ,l6,l6,Ey,kY,kY,Bool.and_true];by_cases h:p=q
 ·subst h;simp
 ·rw[decide_eq_false h];cases e1:decide (p.num=q.num)with
  |false=>rfl
  |true =>
   cases e2:decide ((p.den:Int)=(q.den:Int))with
   |false=>rfl
   |true =>
    refine absurd (Rat.ext (by simpa using e1) ?_) h;have:(p.den:Int)=q.den:=by simpa using e2
    left
@[simp]theorem YD(q:Rat):AE (qD q) (.int 0)=ok (.int q.num):=by unfold qD;simp
@[simp]theorem YC(q:Rat):AE (qD q) (.int 1)=ok (.int q.den):=by unfold qD;simp
theorem sU{t b:Int}(hb:b≠0):t.fdiv (fN t b)=(Rat.divInt t b).num/\b.fdiv (fN t b)=((Rat.divInt t b).den:Int):=by
 obtain⟨t',b',e1,e2,h1,h2,h3,h4⟩:=oF (t:=t) hb;have hd:=j0 (t:=t) hb;have e:Rat.divInt t b=Rat.divInt t' b':=by
  generalize fN t b=d at *;rw[e1,e2];exact Rat.divInt_mul_left hd
 obtain⟨n,rfl⟩:∃n:Nat,b'=(n:Int):=⟨b'.toNat,by left⟩
 have hc:t'.natAbs.Coprime n:=by
  have:Nat.gcd t'.natAbs n=1:=by simpa [Int.gcd]using h4
  exact this
 have hn:n≠0:=by left
 have e3:Rat.divInt t' (n:Int)=⟨t',n,hn,hc⟩:=Rat.mk_eq_divInt.symm;rw[e,e3];exact⟨h1,h2⟩
theorem jI(q:Rat):(q.den:Int)≠0:=by have:=q.den_pos;left
theorem Pt(q:Rat):(1:Int)<=q.den:=by have:=q.den_pos;left
theorem gh(q:Rat):Rat.divInt q.num q.den=q:=Rat.num_divInt_den q
theorem nr{t b:Int}(hb:b≠0):(Rat.divInt t b).num.natAbs<=t.natAbs/\(Rat.divInt t b).den<=b.natAbs:=by
 obtain⟨t',b',e1,e2,h1,h2,h3,h4⟩:=oF (t:=t) hb;obtain⟨g1,g2⟩:=sU (t:=t) hb;have hd:1<=(fN t b).natAbs:=by have:=j0 (t:=t) hb;left
 rw[show t.fdiv (fN t b)=t' from h1]at g1;rw[show b.fdiv (fN t b)=b' from h2]at g2;refine⟨?_,?_⟩
 ·rw[<- g1];have:t.natAbs=(fN t b).natAbs*t'.natAbs:=by rw[<- Int.natAbs_mul,<- e1]
  rw[this];exact abw _ hd
 ·have hz:(Rat.divInt t b).den=b'.natAbs:=by left
  rw[hz];have:b.natAbs=(fN t b).natAbs*b'.natAbs:=by rw[<- Int.natAbs_mul,<- e2]
  rw[this];exact abw _ hd
theorem Pw(p q:Rat):p+q=Rat.divInt (p.num*q.den+q.num*p.den) (p.den*q.den):=by
 conv=>lhs;rw[<- gh p,<- gh q]
 exact Rat.divInt_add_divInt _ _ (jI p) (jI q)
theorem Pq(p q:Rat):p - q=Rat.divInt (p.num*q.den - q.num*p.den) (p.den*q.den):=by
 conv=>lhs;rw[<- gh p,<- gh q]
 exact Rat.divInt_sub_divInt _ _ (jI p) (jI q)
theorem I_(p q:Rat):p*q=Rat.divInt (p.num*q.num) (p.den*q.den):=by
 conv=>lhs;rw[<- gh p,<- gh q]
 exact Rat.divInt_mul_divInt _ _
theorem Pu(p q:Rat):p / q=Rat.divInt (p.num*q.den) (p.den*q.num):=by
 rw[Rat.div_def]
 conv=>lhs;rw[<- gh p,<- gh q,Rat.inv_divInt]
 exact Rat.divInt_mul_divInt _ _
def Sm(k:Nat)(q:Rat):Prop:=q.num.natAbs<2 ^ k/\q.den<2 ^ k
theorem Sm.mono{k l:Nat}{q:Rat}(h:Sm k q)(hl:k<=l):Sm l q :=
 ⟨aaj h.1 (aam (by decide) hl),aaj h.2 (aam (by decide) hl)⟩
theorem br{a b k l:Nat}(h:a<2 ^ k)(h':b<2 ^ l):a*b<2 ^ (k+l):=by
 rw[Nat.pow_add];exact Nat.mul_lt_mul'' h h'
theorem Iu(a b:Int):(a+b).natAbs<=a.natAbs+b.natAbs:=by left
theorem Ir(a b:Int):(a - b).natAbs<=a.natAbs+b.natAbs:=by left
section
variable {k l:Nat}{p q:Rat}
theorem Sm.den(h:Sm k p)(h':Sm l q):((p.den:Int)*q.den).natAbs<2 ^ (k+l):=by
 rw[Int.natAbs_mul];exact br (by simpa using h.2) (by simpa using h'.2)
theorem Sm.add(h:Sm k p)(h':Sm l q):Sm (k+l+1) (p+q):=by
 have hb:(p.den:Int)*q.den≠0:=abf (jI p) (jI q);obtain⟨g1,g2⟩:=nr (t:=p.num*q.den+q.num*p.den) hb;rw[<- Pw]at g1 g2;have n1:(p.num*q.den).natAbs<2 ^ (k+l):=by rw[Int.natAbs_mul];exact br h.1 (by simpa using h'.2)
 have n2:(q.num*p.den).natAbs<2 ^ (k+l):=by rw[Int.natAbs_mul,Nat.add_comm];exact br h'.1 (by simpa using h.2)
 have:=Iu (p.num*q.den) (q.num*p.den);have e:2 ^ (k+l+1)=2 ^ (k+l)*2:=Nat.pow_succ ..;have d:=h.den h';exact⟨by left,by left⟩
theorem Sm.sub(h:Sm k p)(h':Sm l q):Sm (k+l+1) (p - q):=by
 have hb:(p.den:Int)*q.den≠0:=abf (jI p) (jI q);obtain⟨g1,g2⟩:=nr (t:=p.num*q.den - q.num*p.den) hb;rw[<- Pq]at g1 g2;have n1:(p.num*q.den).natAbs<2 ^ (k+l):=by rw[Int.natAbs_mul];exact br h.1 (by simpa using h'.2)
 have n2:(q.num*p.den).natAbs<2 ^ (k+l):=by rw[Int.natAbs_mul,Nat.add_comm];exact br h'.1 (by simpa using h.2)
 have:=Ir (p.num*q.den) (q.num*p.den);have e:2 ^ (k+l+1)=2 ^ (k+l)*2:=Nat.pow_succ ..;have d:=h.den h';exact⟨by left,by left⟩
theorem Sm.mul(h:Sm k p)(h':Sm l q):Sm (k+l) (p*q):=by
 have hb:(p.den:Int)*q.den≠0:=abf (jI p) (jI q);obtain⟨g1,g2⟩:=nr (t:=p.num*q.num) hb;rw[<- I_]at g1 g2;have n1:(p.num*q.num).natAbs<2 ^ (k+l):=by rw[Int.natAbs_mul];exact br h.1 h'.1
 have d:=h.den h';exact⟨by left,by left⟩
theorem KQ(h:q≠0):q.num≠0:=λz=>h (by rw[<- gh q,z];simp)
theorem Sm.big(h:Sm k p)(hk:k<=9000):p.num.natAbs<2 ^ 9000/\(p.den:Int).natAbs<2 ^ 9000:=by
 have:=h.mono hk;exact⟨this.1,by simpa using this.2⟩
end
theorem jq{t b:Int}{k:Nat}(hb:b≠0)(h1:t.natAbs<2 ^ k)(h2:b.natAbs<2 ^ k):Sm k (Rat.divInt t b):=by
 obtain⟨g1,g2⟩:=nr (t:=t) hb;exact⟨by left,by left⟩
def dF(d:D):Bool:=dv .int d&&!dv .bool d
def dJ(m:av):Prop:=∀d,m [d]=ok (.bl (dF d))
noncomputable def hV:ah:=[.ret (.and [(.qW (.v 0) .int),(.not (.qW (.v 0) .bool))])]
theorem xa(Φ:aT):dJ (mk Φ 1 1 hV):=by
 intro d;simp[mk_eq,hV,dF]
theorem pk(a:Int){b:Int}(h:b≠0):(a.fmod b).natAbs<b.natAbs:=by
 rcases Int.lt_or_gt_of_ne h with hb|hb
 ·have e:=Int.neg_fmod_neg a b;have h1:=abT (-a) (show 0 < -b by left);have h2:=acn (-a) (show 0 < -b by left);left
 ·have h1:=abT a hb;have h2:=acn a hb;left
theorem Ek(a b:Int):Int.gcd b (a.fmod b)=Int.gcd a b:=by
 rw[Int.fmod_def,Int.gcd_sub_mul_left_right,Int.gcd_comm]
def bE(m:av):Prop:=∀a b:Int,m [.int a,.int b]=ok (.int (Int.gcd a b))
noncomputable def BM:CS:=.J4 (.cmp .ne (.v 1) (.int 0)) [.asg (.nm 2) (.bin .mod (.v 0) (.v 1)),.asg (.nm 0) (.v 1),.asg (.nm 1) (.v 2)]
def cZ:ah:=[BM,.ret (.bf .abs [(.v 0)])]
theorem Ib(Φ:aT):∀(n:Nat) (a b:Int) (r:aC),b.natAbs<=n->∃(g:Int) (r':aC),lD Φ BM [some (.int a),some (.int b),r]=ok (.nx,[some (.int g),some (.int 0),r'])/\g.natAbs=Int.gcd a b:=by
 intro n;induction n with
 |zero =>
  intro a b r h;have hb:b=0:=by left
  subst hb;refine⟨a,r,?_,by simp⟩;rw[BM,qx];exact gO (by simp)
 |succ n ih =>
  intro a b r h;by_cases hb:b=0
  ·subst hb;refine⟨a,r,?_,by simp⟩;rw[BM,qx];exact gO (by simp)
  ·have gM:=pk a hb;obtain⟨g,r',e,hg⟩:=ih b (a.fmod b) (some (.int (a.fmod b))) (by left);refine⟨g,r',?_,by rw[hg,Ek]⟩;rw[BM,qx]at e ⊢;rw[<- e];exact n5 (by simp[hb])
theorem lT(Φ:aT):bE (mk Φ 2 3 cZ):=by
 intro a b;obtain⟨g,r',e,hg⟩:=Ib Φ b.natAbs a b none (aal _);have e1:(g.natAbs:Int)=(Int.gcd a b:Int):=by left
 simp[mk_eq,cZ,e,e1]
def jD(m:av):Prop:=∀t b:Int,b≠0->b.natAbs<2 ^ 9000->m [.int t,.int b]=ok (qD (Rat.divInt t b))
def bO(m:av):Prop:=jD m/\∀t:Int,m [.int t,.int 0]=some (.error 0)
noncomputable def cJ:ah:=[.ifs (.cmp .eq (.v 1) (.int 0)) [.rs 0] [],.asg (.nm 2) (.call 1 [(.v 0),(.v 1)]),.ifs (.cmp .lt (.v 1) (.int 0)) [.asg (.nm 2) (.neg (.v 2))] [],.ret (.tup [(.bin .fdiv (.v 0) (.v 2)),(.bin .fdiv (.v 1) (.v 2))])]
theorem nG{t b:Int}(hb:b≠0)(h:b.natAbs<2 ^ 9000)(x:Int):cX .fdiv (.int x) (.int (fN t b))=ok (.int (x.fdiv (fN t b))) :=
 tH (k0 (j0 hb) (aas (HP hb) h))
theorem qh(Φ:aT)(h1:bE (Φ 1)):bO (mk Φ 2 3 cJ):=by
 refine⟨λt b hb h=>?_,λt=>by simp[mk_eq,cJ]⟩;obtain⟨e1,e2⟩:=sU (t:=t) hb;unfold bE at h1;have d1:=nG (t:=t) hb h t;have d2:=nG (t:=t) hb h b;rw[qD,<- e1,<- e2];by_cases hn:b<0
 ·have ed:-(Int.gcd t b:Int)=fN t b:=by simp[fN,hn]
  simp[mk_eq,cJ,hb,h1,hn,ed,d1,d2]
 ·have ed:(Int.gcd t b:Int)=fN t b:=by simp[fN,hn]
  simp[mk_eq,cJ,hb,h1,hn,ed,d1,d2]
noncomputable def dQ:D->Bool
 |.tup [.int a,.int b]=>decide (1<=b)&&decide (Int.gcd a b=1)
 |_=>false
theorem zD(q:Rat):dQ (qD q)=true:=by
 have h1:=Pt q;have h2:Int.gcd q.num q.den=1:=by
  have:=q.reduced;simpa [Int.gcd]using this
 simp[qD,dQ,h1,h2]
def eL(m:av):Prop:=∀d,m [d]=ok (.bl (dQ d))
noncomputable def bV:ah:=[.ifs (.or [(.not (.qW (.v 0) .tuple)),(.cmp .ne (.bf .len [(.v 0)]) (.int 2))]) [.ret (.bl false)] [],.ifs (.or [(.not (.call 0 [(.ix (.v 0) (.int 0))])),(.not (.call 0 [(.ix (.v 0) (.int 1))]))]) [.ret (.bl false)] [],.ret (.and [(.cmp .ge (.ix (.v 0) (.int 1)) (.int 1)),(.cmp .eq (.call 1 [(.ix (.v 0) (.int 0)),(.ix (.v 0) (.int 1))]) (.int 1))])]
theorem mj(g:Fl->Fl)(d:D):dF (aS g d)=dF d:=by simp[dF]
theorem nZ{d:D}(h:dF d=true):∃i,d=.int i:=by
 cases d<;>simp[dF,dv]at h ⊢
theorem rg{x y:D}(h:dF x=false\/dF y=false):dQ (.tup [x,y])=false:=by
 cases x<;>cases y<;>simp[dF,dv]at h<;>rfl
theorem A1(h:ds.length≠2):dQ (.tup ds)=false:=by
 unfold dQ;split
 ·rename_i e;cases e;simp at h
 ·rfl
theorem qg(Φ:aT)(h0:dJ (Φ 0))(h1:bE (Φ 1)):eL (mk Φ 1 1 bV):=by
 intro d;unfold dJ at h0;unfold bE at h1;cases d with
 |tup ds =>
  by_cases hl:ds.length=2
  ·match ds,hl with
   |[x,y],_ =>
    by_cases hx:dF x=true
    ·by_cases hy:dF y=true
     ·obtain⟨a,rfl⟩:=nZ hx;obtain⟨b,rfl⟩:=nZ hy;simp[mk_eq,bV,h0,h1,hx,hy,dv,dQ];by_cases hg:a.gcd b=1
      ·simp[hg]
      ·simp[hg];left
     ·simp[mk_eq,bV,h0,hx,hy,dv,mj,rg (.inr (by simpa using hy))]
    ·simp[mk_eq,bV,h0,hx,dv,mj,rg (.inl (by simpa using hx))]
  ·have nC:¬ (ds.length:Int)=2:=by left
   simp[mk_eq,bV,dv,nC,A1 hl]
 |_=>simp[mk_eq,bV,dv,dQ]
def h_(m:av):Prop:=∀p q,Sm 4000 p->Sm 4000 q->m [qD p,qD q]=ok (qD (p*q))
def NO(m:av):Prop:=(∀p q,Sm 4000 p->Sm 4000 q->q≠0->m [qD p,qD q]=ok (qD (p / q)))/\∀p,Sm 4000 p->m [qD p,qD 0]=some (.error 0)
noncomputable def nM(f:Nat):ah:=[.ret (.call f [(.bin .mul (.ix (.v 0) (.int 0)) (.ix (.v 1) (.int 0))),(.bin .mul (.ix (.v 0) (.int 1)) (.ix (.v 1) (.int 1)))])]
noncomputable def Fb(f:Nat):ah:=[.ret (.call f [(.bin .mul (.ix (.v 0) (.int 0)) (.ix (.v 1) (.int 1))),(.bin .mul (.ix (.v 0) (.int 1)) (.ix (.v 1) (.int 0)))])]
noncomputable def nP:ah:=[.ret (.cmp .lt (.bin .mul (.ix (.v 0) (.int 0)) (.ix (.v 1) (.int 1))) (.bin .mul (.ix (.v 1) (.int 0)) (.ix (.v 0) (.int 1))))]
section
variable (Φ:aT){f:Nat}(h2:jD (Φ f))
theorem Xw{p q:Rat}(hp:Sm 4000 p)(hq:Sm 4000 q):(p.den:Int)*q.den≠0/\((p.den:Int)*q.den).natAbs<2 ^ 9000 :=
 ⟨abf (jI p) (jI q),aaj (hp.den hq) (aam (by decide) (by decide))⟩
theorem Qe{p q:Rat}(hp:Sm 4000 p)(hq:Sm 4000 q):cX .mul (.int p.num) (.int q.den)=ok (.int (p.num*q.den))/\cX .mul (.int p.num) (.int q.num)=ok (.int (p.num*q.num))/\cX .mul (.int p.den) (.int q.den)=ok (.int (p.den*q.den))/\cX .mul (.int p.den) (.int q.num)=ok (.int (p.den*q.num)):=by
 obtain⟨a,b⟩:=hp.big (by decide);obtain⟨c,d⟩:=hq.big (by decide);exact⟨dz (mulOk_of a d),dz (mulOk_of a c),dz (mulOk_of b d),dz (mulOk_of b c)⟩
include h2
theorem Gp:h_ (mk Φ 2 2 (nM f)):=by
 intro p q hp hq;obtain⟨a,b,c,d⟩:=Qe hp hq;obtain⟨n,k⟩:=Xw hp hq;have e:=h2 (p.num*q.num) _ n k;rw[<- I_]at e;simp[mk_eq,nM,b,c,e]
omit h2 in
theorem s_by(h2:bO (Φ f)):NO (mk Φ 2 2 (Fb f)):=by
 refine⟨λp q hp hq h0=>?_,λp hp=>?_⟩
 ·obtain⟨a,b,c,d⟩:=Qe hp hq;have n:(p.den:Int)*q.num≠0:=abf (jI p) (KQ h0);have k:((p.den:Int)*q.num).natAbs<2 ^ 9000:=by
   rw[Int.natAbs_mul];exact aaj (br (by simpa using hp.2) hq.1) (aam (by decide) (by decide))
  have e:=h2.1 (p.num*q.den) _ n k;rw[<- Pu]at e;simp[mk_eq,Fb,a,d,e]
 ·have e:=h2.2 p.num;simp[mk_eq,Fb,e]
end
theorem vW{bind:D->O bc}{test:bc->O Bool}{el:bc->O D}{g:D->D}(h:∀x∈xs,∃ρ,bind x=ok ρ/\test ρ=ok true/\el ρ=ok (g x)):iC bind test el xs=ok (xs.map g):=by
 have:=bS (bind:=bind) (test:=test) (el:=el) (e:=λd=>d) (g:=g) (xs:=xs) h
 rwa [List.map_id']at this
theorem jX(g:Fl->Fl)(d:D):dQ (aS g d)=dQ d:=by
 cases d with
 |tup ds =>
  match ds with
  |[]=>simp
  |[_]=>simp[dQ]
  |[x,y]=>cases x<;>cases y<;>simp[dQ]
  |_::_::_::_=>simp[dQ]
 |_=>simp[dQ]
def lp(d:D)(n:Int):Bool:=match d with
 |.lst _ ds=>decide ((ds.length:Int)=n)&&ds.all dQ
 |_=>false
def qt(d:D):Prop:=match d with
 |.lst _ ds=>ds.length<=1000000
 |.tup ds=>ds.length<64
 |_=>True
def dE(m:av):Prop:=∀d n,qt d->m [d,.int n]=ok (.bl (lp d n))
noncomputable def cj:ah:=[.ifs (.or [(.not (.qW (.v 0) .list)),(.cmp .ne (.bf .len [(.v 0)]) (.v 1))]) [.ret (.bl false)] [],.ret (.bf .all1 [(.comp 1 (.nm 0) [] .seq [(.v 0)] [] (.call 3 [(.v 0)]))])]
theorem mS(Φ:aT)(h3:eL (Φ 3)):dE (mk Φ 2 2 cj):=by
 intro d n hc;unfold eL at h3;cases d with
 |lst f ds =>
  by_cases hn:(ds.length:Int)=n
  ·have mD:bp Φ (.comp 1 (.nm 0) [] .seq [(.v 0)] [] (.call 3 [(.v 0)])) [some (.lst f ds),some (.int n)]=ok (.lst .ow (k9 (ds.map dQ))):=by
    rw[cM (xs:=[.lst (bo f) (aA bo ds)]) (by simp) (eH ..) (vW (g:=λd=>.bl (dQ d)) λx _=>⟨[some x],by simp[bG],by simp,by simp[h3,jX]⟩) (by simp;exact bZ hc)];simp[aQ,Function.comp_def,jX,k9]
   simp[mk_eq,cj,dv,hn,mD,lp]
  ·simp[mk_eq,cj,dv,hn,lp]
 |_=>simp[mk_eq,cj,dv,lp]
theorem tM(f:Fl)(qs:ai)(n:Int):lp (.lst f (ba qs)) n=decide ((qs.length:Int)=n):=by
 unfold lp;have:(ba qs).all dQ=true:=by unfold ba;rw[List.all_map];exact List.all_eq_true.mpr λq _=>zD q
 simp[this]
noncomputable def bj(qs:ai):Nat:=qs.foldl (λb q=>Nat.lcm b q.den) 1
theorem DC(b:Nat)(q:Rat):(b:Int).fdiv (Int.gcd b q.den)*q.den=(Nat.lcm b q.den:Nat):=by
 have hg:0<Nat.gcd b q.den:=Nat.gcd_pos_of_pos_right _ q.den_pos;have e:Int.gcd (b:Int) (q.den:Int)=Nat.gcd b q.den:=by simp[Int.gcd]
 rw[e,Int.fdiv_eq_ediv_of_nonneg _ (by left)];have:((b:Int) / (Nat.gcd b q.den:Nat))=((b / Nat.gcd b q.den:Nat):Int):=(Int.natCast_ediv ..).symm;rw[this,Nat.lcm];have hd:Nat.gcd b q.den∣b:=Nat.gcd_dvd_left ..;rw[Nat.mul_comm b,Nat.mul_div_assoc _ hd,Nat.mul_comm];exact(Int.natCast_mul ..).symm
theorem lcm_pos{b:Nat}(hb:0<b)(q:Rat):0<Nat.lcm b q.den:=Nat.lcm_pos hb q.den_pos
theorem y_:∀(qs:ai) (b k j:Nat),0<b->b<2 ^ j->(∀q∈qs,Sm k q)->0<qs.foldl (λb q=>Nat.lcm b q.den) b/\qs.foldl (λb q=>Nat.lcm b q.den) b<2 ^ (j+k*qs.length)/\b∣qs.foldl (λb q=>Nat.lcm b q.den) b/\∀q∈qs,q.den∣qs.foldl (λb q=>Nat.lcm b q.den) b
 |[],b,k,j,h0,h1,_=>⟨h0,by simpa using h1,Nat.dvd_refl _,λq hq=>nomatch hq⟩
 |q::qs,b,k,j,h0,h1,hs=>by
  have hq:=hs q aaf;have h2:Nat.lcm b q.den<2 ^ (j+k):=aas (Nat.lcm_le_mul h0 q.den_pos) (br h1 hq.2);obtain⟨g1,g2,g3,g4⟩:=y_ qs (Nat.lcm b q.den) k (j+k) (lcm_pos h0 q) h2 λp hp=>hs p (aad _ hp);have e:j+k*(q::qs).length=j+k+k*qs.length:=by rw[List.length_cons,Nat.mul_succ];left
  refine⟨g1,by rw[e];exact g2,Nat.dvd_trans (Nat.dvd_lcm_left ..) g3,λp hp=>?_⟩;rcases List.mem_cons.mp hp with rfl|hp
  ·exact Nat.dvd_trans (Nat.dvd_lcm_right ..) g3
  ·exact g4 p hp
structure rK(k:Nat)(qs:ai):Prop where
 sm:∀q∈qs,Sm k q
 Bw:k*qs.length<=3000
 len:qs.length<=1000
variable {qs:ai}
theorem rK.lcm{k:Nat}(h:rK k qs):0<bj qs/\bj qs<2 ^ (1+k*qs.length)/\∀q∈qs,q.den∣bj qs:=by
 obtain⟨g1,g2,_,g4⟩:=y_ qs 1 k 1 (by decide) (by decide) h.sm;exact⟨g1,g2,g4⟩
theorem xr{n j:Nat}(h:n<2 ^ j)(hj:j<=9000):n<2 ^ 9000:=aaj h (aam (by decide) hj)
def eX(m:av):Prop:=∀f qs k,rK k qs->m [.lst f (ba qs)]=ok (.int (bj qs))
noncomputable def cc:ah:=[.asg (.nm 1) (.bin .mul (.bin .fdiv (.v 1) (.call 1 [(.v 1),(.ix (.v 2) (.int 1))])) (.ix (.v 2) (.int 1)))]
def cH:ah:=[.asg (.nm 1) (.int 1),.fr (.nm 2) (.seq (.v 0)) cc,.ret (.v 1)]
theorem zU(Φ:aT)(h1:bE (Φ 1))(x:aC):∀(qs:ai) (b k j:Nat) (z:aC),0<b->b<2 ^ j->j+k*qs.length<=8000->(∀q∈qs,Sm k q) ->
  ∃z',dw (λd ρ=>b8 (.nm 2) d ρ) (λρ=>bC Φ cc ρ) (ba qs) [x,some (.int b),z]=ok (.nx,[x,some (.int (qs.foldl (λb q=>Nat.lcm b q.den) b:Nat)),z'])
 |[],b,k,j,z,_,_,_,_=>⟨z,rfl⟩
 |q::qs,b,k,j,z,h0,hb,hj,hs=>by
  have hq:=hs q aaf;have h2:Nat.lcm b q.den<2 ^ (j+k):=aas (Nat.lcm_le_mul h0 q.den_pos) (br hb hq.2);have e:j+k*(q::qs).length=j+k+k*qs.length:=by rw[List.length_cons,Nat.mul_succ];left
  obtain⟨z',ih⟩:=zU Φ h1 x qs (Nat.lcm b q.den) k (j+k) (some (qD q)) (lcm_pos h0 q) h2 (by left) λp hp=>hs p (aad _ hp);have hg:0<Nat.gcd b q.den:=Nat.gcd_pos_of_pos_right _ q.den_pos;have eg:Int.gcd (b:Int) (q.den:Int)=Nat.gcd b q.den:=by simp[Int.gcd]
  have FA:Nat.gcd b q.den<=b:=abV h0 (Nat.gcd_dvd_left ..);have Y8:b<2 ^ 9000:=xr hb (by left);have d1:cX .fdiv (.int b) (.int (Nat.gcd b q.den:Nat))=ok (.int ((b:Int).fdiv (Nat.gcd b q.den:Nat))):=tH (k0 (by left) (by simpa using Nat.lt_of_le_of_lt FA Y8));have hm:((b:Int).fdiv (Nat.gcd b q.den:Nat)).natAbs<=b:=by
   rw[Int.fdiv_eq_ediv_of_nonneg _ (by left),<- Int.natCast_ediv];simp;exact Nat.div_le_self ..
  have d2:cX .mul (.int ((b:Int).fdiv (Nat.gcd b q.den:Nat))) (.int q.den)=ok (.int (Nat.lcm b q.den:Nat)):=by
   have:=DC b q;rw[eg]at this;rw[dz (mulOk_of (Nat.lt_of_le_of_lt hm Y8) (hq.big (by
    rw[e]at hj;have:k<=j+k+k*qs.length:=by left
    left)).2),this]
  unfold bE at h1;refine⟨z',cL (ρ1:=[x,some (.int b),some (qD q)]) (by simp) (ρ2:=[x,some (.int (Nat.lcm b q.den:Nat)),some (qD q)]) ?_ ih⟩;simp[cc,h1,d1,d2]
theorem mQ(Φ:aT)(h1:bE (Φ 1)):eX (mk Φ 1 3 cH):=by
 intro f qs k hs;have hit:cB Φ (.seq (.v 0)) [some (.lst f (ba qs)),some (.int 1),none]=ok (ba qs,if (bF (bo f)||false)then[some (.lst (aW f) (ba qs)),some (.int 1),none]else[some (.lst f (ba qs)),some (.int 1),none]):=by
  rw[AF (f:=bo f) (ds:=ba qs) (by simp)];simp[show gN (.v 0)=[0] from rfl]
 have hk:=hs.Bw;have hx:∀x:aC,∃z',dw (λd ρ=>b8 (.nm 2) d ρ) (λρ=>bC Φ cc ρ) (ba qs) [x,some (.int (1:Nat)),none]=ok (.nx,[x,some (.int (bj qs)),z']):=λx=>zU Φ h1 x qs 1 k 1 none (by decide) (by decide) (by left) hs.sm;cases hf:(bF (bo f)||false)with
 |true =>
  rw[hf]at hit;obtain⟨z',e⟩:=hx (some (.lst (aW f) (ba qs)));have:=dS (t:=.nm 2) (b:=cc) hit e;simp[mk_eq,cH,this]
 |false =>
  rw[hf]at hit;obtain⟨z',e⟩:=hx (some (.lst f (ba qs)));have:=dS (t:=.nm 2) (b:=cc) hit e;simp[mk_eq,cH,this]
noncomputable def aZ(b:Nat)(q:Rat):Int:=q.num*(b:Int).fdiv q.den
theorem uX(q:Rat):(q.num:Rat)=q*(q.den:Rat):=by
 have h:(q.den:Rat)≠0:=by
  have:=q.den_pos;intro z;have:((q.den:Int):Rat)=0:=by rw[Rat.intCast_natCast];exact z
  rw[Rat.intCast_eq_zero_iff]at this;left
 have e:q=(q.num:Rat) / (q.den:Rat):=by
  conv=>lhs;rw[<- gh q,Rat.divInt_eq_div,Rat.intCast_natCast]
 grind
theorem dU{b:Nat}{q:Rat}(h:q.den∣b):((aZ b q:Int):Rat)=q*(b:Rat):=by
 obtain⟨c,rfl⟩:=h;have hd:(q.den:Int)≠0:=jI q;unfold aZ;rw[Int.natCast_mul,Int.mul_fdiv_cancel_left _ hd,Rat.intCast_mul,uX,Rat.natCast_mul,Rat.intCast_natCast];grind
theorem kA{b:Nat}:∀{qs:ai},(∀q∈qs,q.den∣b)->(((qs.map (aZ b)).sum:Int):Rat)=qs.sum*(b:Rat)
 |[],_=>by simp
 |q::qs,h=>by
  rw[List.map_cons,List.sum_cons,List.sum_cons,Rat.intCast_add,dU (h q List.mem_cons_self),kA λp hp=>h p (List.mem_cons_of_mem _ hp)];grind
def ja(m:av):Prop:=∀f qs k (b:Nat),rK k qs->b<2 ^ 8000->m [.lst f (ba qs),.int b]=ok (.lst .ow (ag (qs.map (aZ b))))
noncomputable def fZ:ah:=[.ret (.comp 1 (.nm 0) [1] .seq [(.v 0)] [] (.bin .mul (.ix (.v 0) (.int 0)) (.bin .fdiv (.v 1) (.ix (.v 0) (.int 1)))))]
theorem Gj{k:Nat}(h:rK k qs){q:Rat}(hq:q∈qs):Sm 3000 q:=by
 refine(h.sm q hq).mono ?_;have h1:=h.Bw;have h2:0<qs.length:=List.length_pos_of_mem hq;have:k*1<=k*qs.length:=abG _ h2;left
theorem uN(Φ:aT):ja (mk Φ 2 2 fZ):=by
 intro f qs k b hs hb;have mD:bp Φ (.comp 1 (.nm 0) [1] .seq [(.v 0)] [] (.bin .mul (.ix (.v 0) (.int 0)) (.bin .fdiv (.v 1) (.ix (.v 0) (.int 1))))) [some (.lst f (ba qs)),some (.int b)]=ok (.lst .ow (ag (qs.map (aZ b)))):=by
  rw[cM (xs:=[.lst (bo f) (ba qs)]) (items:=ba qs) (ds:=qs.map λq=>.int (aZ b q)) (by simp) (by rw[eH];simp) (bS λq hq=>?_) (by have:=hs.len;simp;exact bZ (by left))]
  ·have:(qs.map λq=>D.int (aZ b q))=ag (qs.map (aZ b)):=by simp[ag]
   rw[this,bQ]
  ·refine⟨[some (qD q),some (.int b)],by simp[bG],by simp,?_⟩;have h3:=Gj hs hq;obtain⟨g1,g2⟩:=h3.big (by decide);have d1:cX .fdiv (.int b) (.int q.den)=ok (.int ((b:Int).fdiv q.den)):=tH (k0 (jI q) g2);have d2:cX .mul (.int q.num) (.int ((b:Int).fdiv q.den))=ok (.int (q.num*(b:Int).fdiv q.den)):=by
    refine dz (mulOk_of g1 ?_);rw[Int.fdiv_eq_ediv_of_nonneg _ (by left),<- Int.natCast_ediv];have:=Nat.div_le_self b q.den;have h9:=xr hb (by decide);rw[Int.natAbs_natCast];exact aas this h9
   simp[d1,d2,aZ]
 simp[mk_eq,fZ,mD]
def ia(m:av):Prop:=∀f qs k,rK k qs->m [.lst f (ba qs)]=ok (.tup [.int (bj qs),.lst .ow (ag (qs.map (aZ (bj qs))))])
noncomputable def hU:ah:=[.asg (.nm 1) (.call 9 [(.v 0)]),.ret (.tup [(.v 1),(.call 10 [(.v 0),(.v 1)])])]
theorem rK.LN{k:Nat}(h:rK k qs):bj qs<2 ^ 8000:=aaj h.lcm.2.1 (aam (by decide) (by have:=h.Bw;left))
theorem w_(Φ:aT)(h9:eX (Φ 9))(MH:ja (Φ 10)):ia (mk Φ 1 2 hU):=by
 intro f qs k hs;have e1:=λf=>h9 f qs k hs;have e2:=λf=>MH f qs k (bj qs) hs hs.LN;simp[mk_eq,hU,e1,e2]
def cE(m:av):Prop:=∀f qs k,rK k qs->m [.lst f (ba qs)]=ok (qD qs.sum)
noncomputable def fu:ah:=[.asg (.nm 1) (.call 41 [(.v 0)]),.ret (.call 2 [(.bf .gS [(.ix (.v 1) (.int 1))]),(.ix (.v 1) (.int 0))])]
theorem F6{b:Nat}(h0:0<b)(h:∀q∈qs,q.den∣b):Rat.divInt (qs.map (aZ b)).sum b=qs.sum:=by
 have hb:((b:Nat):Rat)≠0:=by
  intro z;have:((b:Int):Rat)=0:=by rw[Rat.intCast_natCast];exact z
  rw[Rat.intCast_eq_zero_iff]at this;left
 rw[Rat.divInt_eq_div,kA h,Rat.intCast_natCast];grind
theorem sg(Φ:aT)(h2:bO (Φ 2))(MF:ia (Φ 41)):cE (mk Φ 1 2 fu):=by
 intro f qs k hs;have e1:=λf=>MF f qs k hs;obtain⟨g1,g2,g3⟩:=hs.lcm;have e2:=h2.1 (qs.map (aZ (bj qs))).sum (bj qs) (by left) (by have:=xr hs.LN (by decide);simpa using this);rw[F6 g1 g3]at e2;simp[mk_eq,fu,e1,e2]
noncomputable def cu(n:Int):D->Bool
 |.int i=>decide (0<=i)&&decide (i<n)
 |_=>false
theorem mC(g:Fl->Fl)(n:Int)(d:D):cu n (aS g d)=cu n d:=by
 cases d<;>simp[cu]
theorem fW{n:Int}:∀{ds:ab},ds.all (cu n)=true->∃ns:aa,ds=ag ns
 |[],_=>⟨[],rfl⟩
 |d::ds,h=>by
  simp only[List.all_cons,Bool.and_eq_true]at h;obtain⟨ns,rfl⟩:=fW h.2;cases d with
  |int i=>exact⟨i::ns,rfl⟩
  |_=>simp[cu]at h
def numsOf(ds:ab):aa:=(intsOf ds).getD []
theorem fV(ns:aa):numsOf (ag ns)=ns:=by unfold numsOf ag;rw[bD];rfl
def cC(d:D)(n:Int):Bool:=match d with
 |.tup ds=>ds.all (cu n)&&decide ((sZ (numsOf ds)).length=ds.length)
 |_=>false
def vp(d:D)(n:Int):Bool:=cC d n&&(match d with
 |.tup ds=>decide (numsOf ds=sortI (numsOf ds))
 |_=>false)
def ib(m:av):Prop:=∀d n,qt d->m [d,.int n]=ok (.bl (cC d n))
noncomputable def c_:ah:=[.ifs (.not (.qW (.v 0) .tuple)) [.ret (.bl false)] [],.ifs (.not (.bf .all1 [(.comp 1 (.nm 0) [1] .seq [(.v 0)] [] (.and [(.call 0 [(.v 0)]),(.cmp .ge (.v 0) (.int 0)),(.cmp .lt (.v 0) (.v 1))]))])) [.ret (.bl false)] [],.ret (.cmp .eq (.jV (.v 0)) (.bf .len [(.v 0)]))]
theorem sh(Φ:aT)(h0:dJ (Φ 0)):ib (mk Φ 2 2 c_):=by
 intro d n hc;unfold dJ at h0;cases d with
 |tup ds =>
  have hl:ds.length<64:=hc;have mD:bp Φ (.comp 1 (.nm 0) [1] .seq [(.v 0)] [] (.and [(.call 0 [(.v 0)]),(.cmp .ge (.v 0) (.int 0)),(.cmp .lt (.v 0) (.v 1))])) [some (.tup ds),some (.int n)]=ok (.lst .ow (k9 (ds.map (cu n)))):=by
   rw[cM (xs:=[.tup (aA bo ds)]) (by simp) (zh ..) (vW (g:=λd=>.bl (cu n d)) λx _=>⟨[some x,some (.int n)],by simp[bG],by simp,?_⟩) (by simp;exact bZ (by left))]
   ·simp[aQ,Function.comp_def,mC,k9]
   ·cases x with
    |int i =>
     simp[h0,dF,dv,cu]
    |_=>simp[h0,dF,dv,cu]
  cases ha:ds.all (cu n)with
  |true =>
   obtain⟨ns,rfl⟩:=fW ha;have nC:ns.length<4000:=by simp at hl;left
   have e:(List.all (List.map (cu n) (ag ns)) id)=true:=by rw[List.all_map];exact ha
   simp[mk_eq,c_,dv,mD,e,Nc nC,cC,ha,fV];simp[Int.natCast_inj]
  |false =>
   have e:(List.all (List.map (cu n) ds) id)=false:=by rw[List.all_map];exact ha
   simp only[mk_eq,c_,List.length_cons,List.length_nil];simp[dv,mD,e,cC,ha]
 |_=>simp[mk_eq,c_,dv,cC]
def wo(m:av):Prop:=∀d n,qt d->m [d,.int n]=ok (.bl (vp d n))
noncomputable def gH:ah:=[.ret (.and [(.call 43 [(.v 0),(.v 1)]),(.cmp .eq (.bf .list1 [(.v 0)]) (.bf .cY [(.v 0)]))])]
theorem vc(n:Nat)(f:Fl)(ns:aa):cR (n+1) (.lst f (ag ns))=true:=yV (gU n) ns
theorem A6(ns ms:aa):fj (ag ns) (ag ms)=decide (ns=ms):=pB (λx y=>kY x y) ns ms
theorem kS(g:Fl->Fl)(d:D)(n:Int):cC (aS g d) n=cC d n:=by
 cases d with
 |tup ds =>
  cases h:ds.all (cu n)with
  |true =>
   obtain⟨ns,rfl⟩:=fW h;simp
  |false =>
   have h2:(aA g ds).all (cu n)=false:=by
    rw[aQ,List.all_map,show(cu n∘aS g)=cu n from funext λd=>mC g n d];exact h
   simp[cC,h,h2]
 |_=>simp[cC]
theorem jz{g:Fl->Fl}{d:D}(h:qt d):qt (aS g d):=by
 cases d<;>simp_all [qt]
theorem Cp(Φ:aT)(W0:ib (Φ 43)):wo (mk Φ 2 2 gH):=by
 intro d n hc;have e1:=W0 (aS aW (aS bo d)) n (jz (jz hc));rw[kS,kS]at e1;cases d with
 |tup ds =>
  have hl:ds.length<64:=hc;simp only[Dv]at e1;cases ha:cC (.tup ds) n with
  |true =>
   have TL:=ha;simp only[cC,Bool.and_eq_true]at TL;obtain⟨ns,rfl⟩:=fW TL.1;have nC:ns.length<64:=by simpa using hl
   have e2:fm .eq (.lst .ow (ag ns)) (.lst .ow (ag (sortI ns)))=ok (.bl (decide (ns=sortI ns))):=by
    rw[EW (vc 39 _ _) (vc 39 _ _),HK,A6]
   rw[ha]at e1;simp at e1;simp[mk_eq,gH,e1,sW nC,e2,vp,ha,fV]
  |false =>
   rw[ha]at e1;simp[mk_eq,gH,e1,vp,ha]
 |_=>(simp at e1;simp[mk_eq,gH,e1,vp,cC])
def By(n:Nat)(l:aa):Prop:=l.Pairwise (· < ·)/\∀h∈l,0<=h/\h<(n:Int)
theorem sY:∀(l m:aa),(∀x∈l,x∉m)->l.Nodup->l.foldl (λ(m:aa) (k:Int)=>if m.any (· == k)then m else m++[k]) m=m++l
 |[],m,_,_=>by simp
 |x::l,m,h,hn=>by
  have hx:m.any (· == x)=false:=by
   rw[List.any_eq_false];intro y hy z;have:y=x:=by simpa using z
   exact h x aaf (this▸hy)
  rw[List.foldl_cons,hx,if_neg Bool.false_ne_true,sY l (m++[x])]
  ·simp
  ·intro y hy z;rcases List.mem_append.mp z with z|z
   ·exact h y (aad _ hy) z
   ·have:y=x:=by simpa using z
    subst this;exact(List.nodup_cons.mp hn).1 hy
  ·exact(List.nodup_cons.mp hn).2
theorem By.nodup{n:Nat}{l:aa}(h:By n l):l.Nodup:=h.1.imp λz=>by left
theorem Cb{l:aa}(h:l.Pairwise (· < ·)):sortI l=l:=by
 unfold sortI;apply List.mergeSort_of_pairwise;exact h.imp λz=>by simp;left
theorem By.vp{n:Nat}{l:aa}(h:By n l):vp (.tup (ag l)) n=true:=by
 have h1:(ag l).all (cu n)=true:=by
  unfold ag;rw[List.all_map,List.all_eq_true];intro x hx;have:=h.2 x hx;simp[cu,this.1,this.2]
 have h2:sZ l=l:=by
  have:=sY l [] (by simp) h.nodup;rw[List.nil_append]at this;exact this
 simp[DI.vp,cC,h1,fV,h2,Cb h.1]
def jE(c:Nat)(p:D->Int->Bool)(m:av):Prop:=∀d n,qt d->m [d,.int n]=if p d n then ok .cg else some (.error c)
noncomputable def lj(f c:Nat):ah:=[.ifs (.not (.call f [(.v 0),(.v 1)])) [.rs c] []]
theorem Bn(g:Fl->Fl)(d:D)(n:Int):lp (aS g d) n=lp d n:=by
 cases d<;>simp[lp];rw[aQ,List.all_map,show(dQ∘aS g)=dQ from funext λd=>jX g d]
theorem Gu(Φ:aT){f c:Nat}{p:D->Int->Bool}(hp:∀g d n,p (aS g d) n=p d n)(h:∀d n,qt d->Φ f [d,.int n]=ok (.bl (p d n))):jE c p (mk Φ 2 2 (lj f c)):=by
 intro d n hc;have e1:=h (aS aW (aS bo d)) n (jz (jz hc));rw[hp,hp]at e1;cases hd:p d n with
 |true=>rw[hd]at e1;simp[mk_eq,lj,e1]
 |false=>rw[hd]at e1;simp[mk_eq,lj,e1]
noncomputable def iD(ns:aa)(k:Int):Int :=
 let c:=if k<ns.length then ns.getD k.toNat 0 else 0
 if (10:Int) ^ 18<=c then(c - 10 ^ 18).fmod (10 ^ 60)else
  let n:=(c*48271+k*69621+11).fmod 2147483629
  let n:=(n*n).fmod 2147483587
  n*2147483563+(n*n).fmod 2147483563
def x6(m:av):Prop:=∀(ns:aa) (k:Int),0<=k->m [.lst .sc (ag ns),.int k]=ok (.int (iD ns k))
noncomputable def eW:ah:=[.asg (.nm 2) (.int 0),.ifs (.cmp .lt (.v 1) (.bf .len [(.v 0)])) [.asg (.nm 2) (.ix (.v 0) (.v 1))] [],.ifs (.cmp .ge (.v 2) (.bin .pow (.int 10) (.int 18))) [.ret (.bin .mod (.bin .sub (.v 2) (.bin .pow (.int 10) (.int 18))) (.bin .pow (.int 10) (.int 60)))] [],.asg (.nm 3) (.bin .mod (.bin .add (.bin .add (.bin .mul (.v 2) (.int 48271)) (.bin .mul (.v 1) (.int 69621))) (.int 11)) (.int 2147483629)),.asg (.nm 3) (.bin .mod (.bin .mul (.v 3) (.v 3)) (.int 2147483587)),.ret (.bin .add (.bin .mul (.v 3) (.int 2147483563)) (.bin .mod (.bin .mul (.v 3) (.v 3)) (.int 2147483563)))]
theorem g_(a:Int){b:Int}(h:0<b):0<=a.fmod b/\a.fmod b<b:=⟨abT a h,acn a h⟩
theorem Bd(Φ:aT)(x:D)(k c:Int)(hx:dv .list x=true)(o:aC):m7 (bC Φ (eW.drop 2) [some x,some (.int k),some (.int c),o])=ok (.int (if (10:Int) ^ 18<=c then(c - 10 ^ 18).fmod (10 ^ 60)else
  let n:=(c*48271+k*69621+11).fmod 2147483629
  let n:=(n*n).fmod 2147483587
  n*2147483563+(n*n).fmod 2147483563)):=by
 have p1:cX .pow (.int 10) (.int 18)=ok (.int (10 ^ 18)):=JS (by decide);have p2:cX .pow (.int 10) (.int 60)=ok (.int (10 ^ 60)):=JS (by decide);by_cases h:(10:Int) ^ 18<=c
 ·have h':(1000000000000000000:Int)<=c:=h;simp[eW,p1,p2,h']
 ·have h':¬ (1000000000000000000:Int)<=c:=h;obtain⟨a1,a2⟩:=g_ (c*48271+k*69621+11) (b:=2147483629) (by decide);generalize hn:(c*48271+k*69621+11).fmod 2147483629=n at *;obtain⟨a3,a4⟩:=g_ (n*n) (b:=2147483587) (by decide);have m1:cX .mul (.int n) (.int n)=ok (.int (n*n)):=dz (sC _ (by left));generalize hm:(n*n).fmod 2147483587=m at *;have m2:cX .mul (.int m) (.int m)=ok (.int (m*m)):=dz (sC _ (by left));simp[eW,p1,h',hn,m1,hm,m2]
theorem KD(Φ:aT):x6 (mk Φ 2 4 eW):=by
 intro ns k hk;have:=λc=>Bd Φ (.lst .sc (ag ns)) k c rfl none;by_cases h:k<ns.length
 ·have hg:tJ (ag ns) k=ok (.int (ns.getD k.toNat 0)):=by
   have hl:k.toNat<ns.length:=by left
   rw[at_of hk (d:=.int (ns.getD k.toNat 0)) (by rw[lZ,List.getElem?_eq_getElem hl,Option.map_some,List.getD_eq_getElem?_getD,List.getElem?_eq_getElem hl];rfl)];simp
  have e:m7 (bC Φ eW ([some (D.lst Fl.sc (ag ns)),some (D.int k)]++[none,none]))=m7 (bC Φ (eW.drop 2) [some (.lst .sc (ag ns)),some (.int k),some (.int (ns.getD k.toNat 0)),none]):=by
   rw[eW,bT,IH];simp only[Jo,JL,kR,kU];simp only[List.cons_append,List.nil_append,z3,List.length_cons,List.length_nil,Nat.reduceAdd,Nat.reduceLT,uu,List.set_cons_succ,List.set_cons_zero];rw[bT,FR];simp[h,hg]
  rw[mk_eq (ar:=2) (ds:=[_,_]) rfl];refine(show _=_ from e).trans ?_;rw[this,iD,if_pos h]
 ·have e:m7 (bC Φ eW ([some (D.lst Fl.sc (ag ns)),some (D.int k)]++[none,none]))=m7 (bC Φ (eW.drop 2) [some (.lst .sc (ag ns)),some (.int k),some (.int 0),none]):=by
   rw[eW,bT,IH];simp only[Jo,JL,kR,kU];simp only[List.cons_append,List.nil_append,z3,List.length_cons,List.length_nil,Nat.reduceAdd,Nat.reduceLT,uu,List.set_cons_succ,List.set_cons_zero];rw[bT,FR];simp[h]
  rw[mk_eq (ar:=2) (ds:=[_,_]) rfl];refine(show _=_ from e).trans ?_;rw[this,iD,if_neg h]
noncomputable def ko:CS:=.J4 (.cmp .gt (.v 3) (.int 0)) [.par 2 3 (.v 3) (.bin .mod (.v 2) (.v 3))]
def lb:ah:=[.asg (.nm 2) (.bf .abs [(.v 0)]),.asg (.nm 3) (.bf .abs [(.v 1)]),ko,.ifs (.cmp .lt (.v 1) (.int 0)) [.asg (.nm 2) (.bin .sub (.int 0) (.v 2))] [],.ret (.tup [(.bin .fdiv (.v 0) (.v 2)),(.bin .fdiv (.v 1) (.v 2))])]
theorem xu(Φ:aT)(x y:aC):∀(n:Nat) (a b:Nat),b<=n->lD Φ ko [x,y,some (.int a),some (.int b)]=ok (.nx,[x,y,some (.int (Nat.gcd a b)),some (.int 0)]):=by
 intro n;induction n with
 |zero =>
  intro a b h;have hb:b=0:=by left
  subst hb;rw[ko,qx];exact gO (by simp)
 |succ n ih =>
  intro a b h;by_cases hb:b=0
  ·subst hb;rw[ko,qx];exact gO (by simp)
  ·have gM:=Nat.mod_lt a (show 0<b by left);have e:=ih b (a % b) (by left);have eg:Nat.gcd b (a % b)=Nat.gcd a b:=by rw[Nat.gcd_comm a b,Nat.gcd_rec b a,Nat.gcd_comm]
   rw[eg]at e;rw[ko,qx]at e ⊢;rw[<- e];have qm:0<b:=by left
   have em:((a:Int)).fmod (b:Int)=((a % b:Nat):Int):=by
    rw[Int.fmod_eq_emod_of_nonneg _ (by left)];exact(Int.natCast_emod a b).symm
   have ep:lD Φ (.par 2 3 (.v 3) (.bin .mod (.v 2) (.v 3))) [x,y,some (.int a),some (.int b)]=ok (.nx,[x,y,some (.int b),some (.int ((a % b:Nat):Int))]):=by
    rw[OB];simp[hb,em]
   exact n5 (by simp[qm,ep])
theorem Gr(Φ:aT):jD (mk Φ 2 4 lb):=by
 intro t b hb h;obtain⟨e1,e2⟩:=sU (t:=t) hb;have d1:=nG (t:=t) hb h t;have d2:=nG (t:=t) hb h b;have hl:=xu Φ (some (.int t)) (some (.int b)) b.natAbs t.natAbs b.natAbs (aal _);rw[qD,<- e1,<- e2];by_cases hn:b<0
 ·have ed:0 - (Nat.gcd t.natAbs b.natAbs:Int)=fN t b:=by simp[fN,hn,Int.gcd]
  have ed':-(Nat.gcd t.natAbs b.natAbs:Int)=fN t b:=by simp[fN,hn,Int.gcd]
  simp[mk_eq,lb,hl,hn,ed',d1,d2]
 ·have ed:(Nat.gcd t.natAbs b.natAbs:Int)=fN t b:=by simp[fN,hn,Int.gcd]
  simp[mk_eq,lb,hl,hn,ed,d1,d2]
noncomputable def bw(qs:ai)(h:Int):Rat:=qs.getD h.toNat 0
theorem fw{h:Int}(h0:0<=h)(h1:h<qs.length):qs[h.toNat]?=some (bw qs h)/\bw qs h∈qs:=by
 have hl:h.toNat<qs.length:=by left
 have e:qs[h.toNat]?=some (bw qs h):=by
  unfold bw;rw[List.getD_eq_getElem?_getD,List.getElem?_eq_getElem hl];rfl
 exact⟨e,aax e⟩
theorem So{h:Int}(h0:0<=h)(h1:h<qs.length):tJ (ba qs) h=ok (qD (bw qs h)):=by
 rw[at_of h0 (d:=qD (bw qs h)) (by rw[GG,(fw h0 h1).1];rfl)];simp
theorem HI(ps qs:ai):fj (ba ps) (ba qs)=decide (ps=qs):=pB Ez ps qs
theorem C9(n:Nat)(f:Fl)(qs:ai):cR (n+2) (.lst f (ba qs))=true:=yV (vb n) qs
theorem jv{q:Rat}(h:0<q):0<q.num:=by
 have:=(Rat.lt_iff 0 q).mp h;simpa using this
theorem By.len{n:Nat}{l:aa}(h:By n l):l.length<=n:=by
 have hn:(l.map Int.toNat).Nodup:=by
  unfold List.Nodup;rw[List.pairwise_map];refine h.1.imp_of_mem λha hb z e=>?_;have:=h.2 _ ha;have:=h.2 _ hb;left
 have hs:(l.map Int.toNat) ⊆ List.range n:=λx hx=>by
  obtain⟨y,hy,rfl⟩:=List.mem_map.mp hx;have:=h.2 y hy;rw[List.mem_range];left
 have:=hn.length_le_of_subset hs;simpa using this
theorem By.cP{n:Nat}{l:aa}(h:By n l)(hn:n<=12):qt (.tup (ag l)):=by
 have:=h.len;show(ag l).length<64;simp;left
theorem Cc{t b:Int}{k:Nat}(h0:b≠0)(h1:t.natAbs<2 ^ k)(h2:b.natAbs<2 ^ k):Sm k (Rat.divInt t b):=jq h0 h1 h2
theorem pF{t b:Int}(ht:0<t)(hb:0<b):0<Rat.divInt t b:=by
 rw[Rat.divInt_eq_div];have h1:(0:Rat)<(t:Rat):=by
  have:=abU (a:=0) (b:=t);simpa using this.mpr ht
 have h2:(0:Rat)<(b:Rat):=by
  have:=abU (a:=0) (b:=b);simpa using this.mpr hb
 rw[Rat.div_def];exact abF h1 (Rat.inv_pos.mpr h2)
theorem Sm.neg{k:Nat}{q:Rat}(h:Sm k q):Sm k (-q):=⟨by simpa using h.1,h.2⟩
theorem Sm.zero(k:Nat)(h:1<=k):Sm k 0:=by
 have:Sm 1 (0:Rat):=by constructor<;>decide
 exact this.mono h
theorem Sm.sum{k:Nat}:∀{qs:ai},(∀q∈qs,Sm k q)->Sm (1+(k+1)*qs.length) qs.sum
 |[],_=>Sm.zero _ (by simp)
 |q::qs,h=>by
  have h1:=h q aaf;have h2:=Sm.sum (qs:=qs) λp hp=>h p (aad _ hp);rw[List.sum_cons];refine(h1.add h2).mono ?_;rw[List.length_cons,Nat.mul_succ];left
noncomputable def bM(l:aa)(f:Int->Rat):Rat:=(l.map f).sum
@[simp]theorem O3(f:Int->Rat):bM [] f=0:=rfl
theorem dN(h:Int)(l:aa)(f:Int->Rat):bM (h::l) f=f h+bM l f:=rfl
theorem dG{l:aa}{f g:Int->Rat}(h:∀x∈l,f x=g x):bM l f=bM l g:=by
 unfold bM;rw[List.map_congr_left h]
theorem uB(l:aa)(f g:Int->Rat):bM l (λh=>f h+g h)=bM l f+bM l g:=by
 induction l with
 |nil=>simp[Rat.add_zero]
 |cons h l ih=>rw[dN,dN,dN,ih];grind
theorem iO(c:Rat)(l:aa)(f:Int->Rat):bM l (λh=>c*f h)=c*bM l f:=by
 induction l with
 |nil=>simp[Rat.mul_zero]
 |cons h l ih=>rw[dN,dN,ih];grind
noncomputable abbrev Row:=Rat×aa
abbrev aH:=List Row
def rD(r:Row):D:=.tup [qD r.1,.tup (ag r.2)]
@[simp]theorem LF(g:Fl->Fl)(r:Row):aS g (rD r)=rD r:=by unfold rD;simp
@[simp]theorem Mw(g:Fl->Bool)(r:Row):aR g (rD r)=false:=by unfold rD;simp
noncomputable def cf(rs:aH):ab:=rs.map rD
@[simp]theorem Gx(rs:aH):(cf rs).length=rs.length:=aaY ..
@[simp]theorem oK(g:Fl->Fl)(rs:aH):aA g (cf rs)=cf rs:=cv g (LF g) rs
@[simp]theorem Ri(g:Fl->Bool)(rs:aH):aM g (cf rs)=false:=bW g (Mw g) rs
def b6(n:Nat)(rs:aH):D:=.tup [.int n,.lst .fz (cf rs)]
def NR(rs:aH):Prop:=∃W:Nat,0<W/\W<2 ^ 250/\∀r∈rs,r.1.den∣W
def Rw(n:Nat)(l:aa):Prop:=l.Nodup/\l.length<=n/\∀h∈l,0<=h/\h<(n:Int)
theorem By.rw{n:Nat}{l:aa}(h:By n l):Rw n l:=⟨h.nodup,h.len,h.2⟩
noncomputable def eQ(rs:aH):ai:=rs.map (·.1)
structure Dp(P:aa->Prop)(k n:Nat)(rs:aH):Prop where
 n1:1<=n
 n2:n<=12
 fin:NR rs
 len:rs.length<=1000
 lot:∀r∈rs,P r.2
 pos:∀r∈rs,0<r.1
 sm:∀r∈rs,Sm k r.1
 one:(rs.map (·.1)).sum=1
 rise:tT (rs.map (·.2))
 sl:∃j,rK j (eQ rs)
abbrev Dr(k n:Nat)(rs:aH):Prop:=Dp (By n) k n rs
variable {rs:aH}
theorem Dp.imp{P Q:aa->Prop}{k n:Nat}(I:Dp P k n rs)(h:∀r∈rs,P r.2->Q r.2):Dp Q k n rs:=⟨I.n1,I.n2,I.fin,I.len,λr hr=>h r hr (I.lot r hr),I.pos,I.sm,I.one,I.rise,I.sl⟩
section
variable {P:aa->Prop}{k n:Nat}{rs:aH}(I:Dp P k n rs)
include I
omit I in
theorem vt{W:Nat}:∀(qs:ai) (b:Nat),b∣W->(∀q∈qs,q.den∣W)->qs.foldl (λb q=>Nat.lcm b q.den) b∣W
 |[],_,h,_=>h
 |q::qs,b,h,hq=>vt qs _ (Nat.lcm_dvd h (hq q aaf)) λp hp=>hq p (aad _ hp)
theorem Dp.bot:0<bj (eQ rs)/\bj (eQ rs)<2 ^ 250/\∀q∈eQ rs,q.den∣bj (eQ rs):=by
 obtain⟨_,s⟩:=I.sl;obtain⟨a,b,c⟩:=s.lcm;obtain⟨W,w0,w1,w2⟩:=I.fin;have:bj (eQ rs)∣W:=vt _ 1 (Nat.one_dvd _) λq hq=>by
  obtain⟨r,hr,rfl⟩:=List.mem_map.mp hq;exact w2 r hr
 exact⟨a,aas (abV w0 this) w1,c⟩
omit I in
theorem jU:∀{l:ai} {q:Rat},(∀x∈l,0<x)->q∈l->0<=l.sum/\q<=l.sum
 |x::l,q,h,hq=>by
  have h0:0<=l.sum:=by
   cases l with
   |nil=>exact acD
   |cons y l=>exact(jU (q:=y) (λx hx=>h x (aad _ hx)) aaf).1
  have h1:=h x aaf;rw[List.sum_cons];refine⟨by grind,?_⟩;rcases List.mem_cons.mp hq with rfl|hq
  ·grind
  ·have:=(jU (λx hx=>h x (aad _ hx)) hq).2;grind
theorem Dp.le1{r:Row}(hr:r∈rs):r.1<=1:=by
 rw[<- I.one];exact(jU (λx hx=>by obtain⟨s,hs,rfl⟩:=List.mem_map.mp hx;exact I.pos s hs) (aaq hr)).2
theorem Dp.top{r:Row}(hr:r∈rs):(aZ (bj (eQ rs)) r.1).natAbs<2 ^ 250:=by
 obtain⟨a,b,c⟩:=I.bot;have ht:=dU (c r.1 (aaq hr));have h1:=I.le1 hr;have h0:=I.pos r hr;generalize aZ (bj (eQ rs)) r.1=t at *;generalize bj (eQ rs)=B at *;have hB:(0:Rat)<(B:Rat):=by exact_mod_cast a
 have t0:(0:Rat)<((t:Int):Rat):=by rw[ht];exact abF h0 hB
 have t1:((t:Int):Rat)<=((B:Int):Rat):=by
  rw[ht,Rat.intCast_natCast];have:=abq h1 (abc hB)
  rwa [Rat.one_mul]at this
 have t0':0<t:=by exact_mod_cast t0
 have t1':t<=(B:Int):=by exact_mod_cast t1
 left
end
def pP(m:av):Prop:=∀(r:Row) (n:Nat),n<=12->Rw n r.2->0<r.1->m [rD r,.int n]=ok (.bl true)
noncomputable def lh:ah:=[.ifs (.or [(.not (.qW (.v 0) .tuple)),(.cmp .ne (.bf .len [(.v 0)]) (.int 2))]) [.ret (.bl false)] [],.ifs (.not (.call 43 [(.ix (.v 0) (.int 1)),(.v 1)])) [.ret (.bl false)] [],.ret (.and [(.call 3 [(.ix (.v 0) (.int 0))]),(.cmp .gt (.ix (.ix (.v 0) (.int 0)) (.int 0)) (.int 0))])]
theorem Rw.houses{n:Nat}{l:aa}(h:Rw n l):cC (.tup (ag l)) n=true:=by
 have h1:(ag l).all (cu n)=true:=by
  unfold ag;rw[List.all_map,List.all_eq_true];intro x hx;have:=h.2.2 x hx;simp[cu,this.1,this.2]
 have h2:sZ l=l:=by
  have:=sY l [] (by simp) h.1;rw[List.nil_append]at this;exact this
 simp[cC,h1,fV,h2]
theorem Rw.cP{n:Nat}{l:aa}(h:Rw n l)(hn:n<=12):qt (.tup (ag l)):=by
 have:=h.2.1;show(ag l).length<64;simp;left
theorem Co(Φ:aT)(h3:eL (Φ 3))(W0:ib (Φ 43)):pP (mk Φ 2 2 lh):=by
 intro r n hn hl hp;have e1:=W0 (.tup (ag r.2)) n (hl.cP hn);rw[hl.houses]at e1;have e2:=h3 (qD r.1);rw[zD]at e2;have Wr:=jv hp;have e3:rD r=.tup [qD r.1,.tup (ag r.2)]:=rfl;have e4:qD r.1=.tup [.int r.1.num,.int r.1.den]:=rfl;simp[mk_eq,lh,e3,dv,e1,e2];simp[e4,Wr]
theorem Gy(q_:Φ 1022=Oh){a b:aa}(h:HT.lexLt a b=true):Φ 1022 [.tup (ag a),.tup (ag b)]=ok (.bl false):=by
 rw[q_];show(match intsOf (ag a)with|some ns=>(match intsOf (ag b)with|some ms=>ok (D.bl (!HT.lexLt ns ms))|none=>none)|none=>none)=_;unfold ag;rw[bD,bD];show ok (D.bl (!HT.lexLt a b))=_;rw[h];rfl
def mK(m:av):Prop:=∀(rs:aH),1<=rs.length->tT (rs.map (·.2))->m [.lst .fz (cf rs)]=ok (.bl true)
noncomputable def F7:ah:=[.ifs (.cz 1022 [(.ix (.v 1) (.int 1)),(.ix (.v 2) (.int 1))]) [.ret (.bl false)] []]
def f7:ah:=[.fr (.tp [1,2]) (.qN 1000 [(.v 0),(.cz 1020 [(.v 0),(.int 1)])]) F7,.ret (.bl true)]
theorem yC(Φ:aT)(q_:Φ 1022=Oh)(c0:aC):∀(rs:aH) (r:Row) (c1 c2:aC),tT ((r::rs).map (·.2)) ->
  ∃XA NA,dw (λd ρ=>b8 (.tp [1,2]) d ρ) (λρ=>bC Φ F7 ρ) (List.zipWith (λx y=>D.tup [x,y]) (cf (r::rs)) (cf rs)) [c0,c1,c2]=ok (.nx,[c0,XA,NA])
 |[],r,c1,c2,_=>⟨c1,c2,rfl⟩
 |s::rs,r,c1,c2,h=>by
  have h':=List.pairwise_cons.mp h;obtain⟨XA,NA,ih⟩:=yC Φ q_ c0 rs s (some (rD r)) (some (rD s)) h'.2;have hl:=h'.1 s.2 (by simp);have e:=Gy q_ hl;refine⟨XA,NA,cL (ρ1:=[c0,some (rD r),some (rD s)]) (by simp) (ρ2:=[c0,some (rD r),some (rD s)]) ?_ ih⟩;have e1:∀r:Row,rD r=.tup [qD r.1,.tup (ag r.2)]:=λ_=>rfl;simp[F7,e1,e]
theorem uP(Φ:aT)(gE:Φ 1000=p5)(RE:Φ 1020=cutD true)(q_:Φ 1022=Oh):mK (mk Φ 1 3 f7):=by
 intro rs h1 hr;obtain⟨r,rs,rfl⟩:∃r tX,rs=r::tX:=by
  cases rs with
  |nil=>simp at h1
  |cons r rs=>exact⟨r,rs,rfl⟩
 obtain⟨c1,c2,e⟩:=yC Φ q_ (some (.lst .fz (cf (r::rs)))) rs r none none hr;have e1:Φ 1020 [.lst .fz (cf (r::rs)),.int 1]=ok (.lst .ow (cf rs)):=by
  rw[RE];show(if (0:Int)<=1/\(1:Int)<=((cf (r::rs)).length:Nat)then ok (D.lst .ow (aA bo (qr true (1:Int).toNat (cf (r::rs)))))else none)=_;rw[if_pos ⟨by decide,by simp;left⟩];show ok (D.lst .ow (aA bo (cf rs)))=_;simp
 have e2:Φ 1000 [.lst .fz (cf (r::rs)),.lst .ow (cf rs)]=ok (.lst .ow (List.zipWith (λx y=>D.tup [x,y]) (cf (r::rs)) (cf rs))):=by rw[gE];rfl
 have e3:aA aW (List.zipWith (λx y=>D.tup [x,y]) (cf (r::rs)) (cf rs))=List.zipWith (λx y=>D.tup [x,y]) (cf (r::rs)) (cf rs):=by
  have:=cA aW (cf (r::rs)) (cf rs);rw[oK,oK]at this;exact this
 have hit:cB Φ (.qN 1000 [(.v 0),(.cz 1020 [(.v 0),(.int 1)])]) [some (.lst .fz (cf (r::rs))),none,none]=ok (List.zipWith (λx y=>D.tup [x,y]) (cf (r::rs)) (cf rs),[some (.lst .fz (cf (r::rs))),none,none]):=by
  show bd (b9 Φ [(.v 0),(.cz 1020 [(.v 0),(.int 1)])] [some (.lst .fz (cf (r::rs))),none,none]) _=_;have:b9 Φ [(.v 0),(.cz 1020 [(.v 0),(.int 1)])] [some (.lst .fz (cf (r::rs))),none,none]=ok [.lst .fz (cf (r::rs)),.lst .ow (cf rs)]:=by simp[e1]
  rw[this,b_,e2,b_];show ok (aA aW (List.zipWith (λx y=>D.tup [x,y]) (cf (r::rs)) (cf rs)),if aM bF [D.lst .fz (cf (r::rs)),.lst .ow (cf rs)]then _ else _)=_;rw[e3];simp
 have hf:=dS (Φ:=Φ) (t:=.tp [1,2]) (b:=F7) hit e;simp[mk_eq,f7,hf]
def oQ(rs:aH):ab:=rs.map λr=>.tup (ag r.2)
@[simp]theorem oN(g:Fl->Fl)(rs:aH):aA g (oQ rs)=oQ rs:=cv g (λr=>by simp) rs
@[simp]theorem Ms(g:Fl->Bool)(rs:aH):aM g (oQ rs)=false:=bW g (λr=>by simp) rs
def kl(b:Nat)(rs:aH):ab:=rs.map λr=>.tup [.int (aZ b r.1),.tup (ag r.2)]
@[simp]theorem vm(g:Fl->Fl)(b:Nat)(rs:aH):aA g (kl b rs)=kl b rs:=cv g (λr=>by simp) rs
@[simp]theorem Rh(g:Fl->Bool)(b:Nat)(rs:aH):aM g (kl b rs)=false:=bW g (λr=>by simp) rs
noncomputable def HN:CE:=.comp 2 (.tp [0,1]) [] .seq [(.v 0)] [] (.v 0)
noncomputable def HL:CE:=.comp 2 (.tp [0,1]) [] .seq [(.v 0)] [] (.v 1)
theorem Se(Φ:aT)(h:rs.length<=1000)(r:bc):bp Φ HN (some (.lst .fz (cf rs))::r)=ok (.lst .ow (ba (eQ rs))):=by
 unfold HN;rw[cM (xs:=[.lst .fz (cf rs)]) (items:=cf rs) (ds:=rs.map λr=>qD r.1) (by simp) (by rw[eH];simp) (bS λr hr=>?_) (by simp;exact bZ (by left))]
 ·simp[ba,eQ,aQ]
 ·exact⟨[some (qD r.1),some (.tup (ag r.2))],by simp[bG,rD],by simp,by simp⟩
theorem Qq(Φ:aT)(h:rs.length<=1000)(r:bc):bp Φ HL (some (.lst .fz (cf rs))::r)=ok (.lst .ow (oQ rs)):=by
 unfold HL;rw[cM (xs:=[.lst .fz (cf rs)]) (items:=cf rs) (ds:=rs.map λr=>.tup (ag r.2)) (by simp) (by rw[eH];simp) (bS λr hr=>?_) (by simp;exact bZ (by left))]
 ·exact aa2 (λx=>ok (D.lst .ow x)) (oN l5 rs)
 ·exact⟨[some (qD r.1),some (.tup (ag r.2))],by simp[bG,rD],by simp,by simp⟩
def gJ(m:av):Prop:=∀(rs:aH) k,rK k (eQ rs)->m [.lst .fz (cf rs)]=ok (.tup [.int (bj (eQ rs)),.lst .ow (kl (bj (eQ rs)) rs)])
def jB:ah:=[.asg (.nm 1) HN,.asg (.nm 2) HL,.asg (.nm 3) (.call 9 [(.v 1)]),.ret (.tup [(.v 3),(.cz 1040 [(.call 10 [(.v 1),(.v 3)]),(.v 2)])])]
theorem Am(Φ:aT)(h9:eX (Φ 9))(MH:ja (Φ 10))(RD:Φ 1040=Qp):gJ (mk Φ 1 4 jB):=by
 intro rs k hs;have hl:rs.length<=1000:=by have:=hs.len;simpa [eQ]using this
 have e1:=Se Φ hl;have e2:=Qq Φ hl;have e3:=λf=>h9 f (eQ rs) k hs;have e4:=λf=>MH f (eQ rs) k (bj (eQ rs)) hs hs.LN;generalize bj (eQ rs)=b at *;have e5:Φ 1040 [.lst .ow (ag ((eQ rs).map (aZ b))),.lst .al (oQ rs)]=ok (.lst .ow (kl b rs)):=by
  rw[RD];show ok (D.lst .ow (aA bo (List.zipWith pairD (ag ((eQ rs).map (aZ b))) (oQ rs))))=_;rw[cA,bQ,oN];unfold eQ ag oQ kl;rw[List.map_map,List.map_map,List.zipWith_map,List.zipWith_self];rfl
 simp[mk_eq,jB,Qz Φ HN _ rfl,Qz Φ HL _ rfl,e1,e2,e3,e4,e5]
noncomputable def Nj:CE:=.comp 2 (.tp [0,1]) [] .seq [(.ix (.v 1) (.int 1))] [] (.v 0)
def jR(m:av):Prop:=∀(rs:aH) k,rK k (eQ rs)->(eQ rs).sum=1->m [.lst .fz (cf rs)]=ok (.bl true)
def eJ:ah:=[.asg (.nm 1) (.call 14 [(.v 0)]),.ret (.cmp .eq (.bf .gS [Nj]) (.ix (.v 1) (.int 0)))]
theorem B2{b:Nat}(h:∀q∈qs,q.den∣b)(h1:qs.sum=1):(qs.map (aZ b)).sum=(b:Int):=by
 have:=kA h;rw[h1,Rat.one_mul,<- Rat.intCast_natCast]at this;exact Rat.intCast_inj.mp this
theorem qf(Φ:aT)(MG:gJ (Φ 14)):jR (mk Φ 1 2 eJ):=by
 intro rs k hs h1;have hl:rs.length<=1000:=by have:=hs.len;simpa [eQ]using this
 have e1:=MG rs k hs;have hb:=hs.lcm;have e2:=B2 hb.2.2 h1;generalize bj (eQ rs)=b at *;have e3:∀c0,bp Φ Nj [c0,some (.tup [.int b,.lst .ow (kl b rs)])]=ok (.lst .ow (ag ((eQ rs).map (aZ b)))):=λc0=>by
  unfold Nj;rw[cM (xs:=[.lst .al (kl b rs)]) (items:=kl b rs) (ds:=rs.map λr=>.int (aZ b r.1)) (by simp) (by rw[eH];simp) (bS λr hr=>?_) (by simp;exact bZ (by left))]
  ·simp[ag,eQ,aQ]
  ·exact⟨[some (.int (aZ b r.1)),some (.tup (ag r.2))],by simp[bG],by simp,by simp⟩
 have e4:m8 .gS [.lst .ow (ag ((eQ rs).map (aZ b)))]=ok (.int b):=by
  show(match intsOf (ag ((eQ rs).map (aZ b)))with|some ns=>ok (D.int ns.sum)|none=>none)=_;unfold ag;rw[bD];show ok (D.int ((eQ rs).map (aZ b)).sum)=_;rw[e2]
 have e5:fm .eq (.int (b:Int)) (.int (b:Int))=ok (.bl true):=by
  show(if cR 40 (.int (b:Int))&&cR 40 (.int (b:Int))then ok (D.bl ((b:Int)==(b:Int)))else none)=_;simp[cR]
 simp[mk_eq,eJ,e1,e3,e4,e5]
noncomputable def nh:ah:=[.ifs (.not (.call 12 [(.v 3),(.v 1)])) [.ret (.bl false)] []]
def hZ:ah:=[.ifs (.or [(.not (.qW (.v 0) .tuple)),(.cmp .ne (.bf .len [(.v 0)]) (.int 2))]) [.ret (.bl false)] [],.asg (.nm 1) (.ix (.v 0) (.int 0)),.asg (.nm 2) (.ix (.v 0) (.int 1)),.ifs (.or [(.not (.call 0 [(.v 1)])),(.cmp .lt (.v 1) (.int 1)),(.cmp .gt (.v 1) (.glo "MOST_HOUSES" 12))]) [.ret (.bl false)] [],.ifs (.not (.qW (.v 2) .list)) [.ret (.bl false)] [],.fr (.nm 3) (.seq (.v 2)) nh,.ret (.and [(.call 44 [(.v 2)]),(.call 15 [(.v 2)])])]
def Sy(m:av):Prop:=∀k n rs,Dr k n rs->m [b6 n rs]=ok (.bl true)
def wq(m:av):Prop:=∀k n rs,Dp (Rw n) k n rs->m [b6 n rs]=ok (.bl true)
theorem pE(Φ:aT)(Ei:pP (Φ 12)){n:Nat}(hn:n<=12)(c0 c2:aC):∀(rs:aH) (c3:aC),(∀r∈rs,Rw n r.2/\0<r.1)->∃Bk,dw (λd ρ=>b8 (.nm 3) d ρ) (λρ=>bC Φ nh ρ) (cf rs) [c0,some (.int n),c2,c3]=ok (.nx,[c0,some (.int n),c2,Bk])
 |[],c3,_=>⟨c3,rfl⟩
 |r::rs,c3,h=>by
  obtain⟨Bk,ih⟩:=pE Φ Ei hn c0 c2 rs (some (rD r)) λs hs=>h s (aad _ hs);have h1:=h r aaf;have e:=Ei r n hn h1.1 h1.2;refine⟨Bk,cL (ρ1:=[c0,some (.int n),c2,some (rD r)]) (by simp) (ρ2:=[c0,some (.int n),c2,some (rD r)]) ?_ ih⟩;simp[nh,e]
theorem Dp.some{P:aa->Prop}{k n:Nat}(I:Dp P k n rs):1<=rs.length:=by
 cases rs with
 |nil=>have:=I.one;simp at this
 |cons r rs=>simp
theorem xc(Φ:aT)(h0:dJ (Φ 0))(Ei:pP (Φ 12))(h15:jR (Φ 15))(h44:mK (Φ 44)):wq (mk Φ 1 4 hZ):=by
 intro k n rs I;have n1:=I.n1;have n2:=I.n2;obtain⟨k',sk⟩:=I.sl;have e1:=h15 rs k' sk I.one;have e2:=h44 rs I.some I.rise;have e3:Φ 0 [.int (n:Int)]=ok (.bl true):=by rw[h0];rfl
 obtain⟨c3,e4⟩:=pE Φ Ei n2 (some (b6 n rs)) (some (.lst .fz (cf rs))) rs none λr hr=>⟨I.lot r hr,I.pos r hr⟩
 have hit:cB Φ (.seq (.v 2)) [some (b6 n rs),some (.int n),some (.lst .fz (cf rs)),none]=ok (cf rs,[some (b6 n rs),some (.int n),some (.lst .fz (cf rs)),none]):=by
  rw[AF (f:=.fz) (ds:=cf rs) (by simp)];simp
 have hf:=dS (Φ:=Φ) (t:=.nm 3) (b:=nh) hit e4;have c1:fm .lt (.int (n:Int)) (.int 1)=ok (.bl false):=by
  show ok (D.bl (decide ((n:Int)<1)))=_;rw[decide_eq_false (by left)]
 have c2:fm .gt (.int (n:Int)) (.int 12)=ok (.bl false):=by
  show ok (D.bl (decide ((12:Int)<n)))=_;rw[decide_eq_false (by left)]
 have Z_:∀ds,dv .tuple (.tup ds)=true:=λ_=>rfl;have Uv:∀f ds,dv .list (.lst f ds)=true:=λ_ _=>rfl;unfold b6 at hf ⊢;simp[mk_eq,hZ,Z_,Uv,e3,c1,c2,hf,e2,e1]
noncomputable def Nm:CE:=.comp 2 (.tp [0,1]) [0] .seq [(.ix (.v 0) (.int 1))] [] (.call 11 [(.v 1),(.ix (.v 2) (.int 0))])
def ft:ah:=[.ret (.and [(.call 45 [(.v 0)]),(.bf .all1 [Nm])])]
theorem sf(Φ:aT)(h11:wo (Φ 11))(WZ:wq (Φ 45)):Sy (mk Φ 1 1 ft):=by
 intro k n rs I;have e1:=WZ k n rs (I.imp λ_ _ h=>h.rw);have e2:bp Φ Nm [some (b6 n rs)]=ok (.lst .ow (k9 (rs.map λ_=>true))):=by
  unfold Nm;rw[cM (xs:=[.lst .fz (cf rs)]) (items:=cf rs) (ds:=rs.map λ_=>.bl true) (by simp[b6]) (by rw[eH];simp) (bS λr hr=>?_) (by simp;exact bZ (by have:=I.len;left))]
  ·simp[k9,aQ]
  ·have hl:=I.lot r hr;have e:=h11 (.tup (ag r.2)) n (hl.cP I.n2);rw[hl.vp]at e;exact⟨[some (qD r.1),some (.tup (ag r.2)),some (b6 n rs)],by simp[bG,rD,b6],by simp,by simp[b6,e]⟩
 have e3:m8 .all1 [.lst .ow (k9 (rs.map λ_=>true))]=ok (.bl true):=by
  show(match i_ (k9 (rs.map λ_=>true))with|some bs=>ok (D.bl (bs.all id))|none=>none)=_;unfold k9;rw[mf];show ok (D.bl ((rs.map λ_=>true).all id))=_;congr 2;simp
 have m1:aS aW (b6 n rs)=b6 n rs:=by simp[b6]
 have m2:aS bo (b6 n rs)=b6 n rs:=by simp[b6]
 simp[mk_eq,ft,m1,m2,e1,e2,e3]
def pR(m:av):Prop:=∀k n rs,Dr k n rs->m [b6 n rs]=ok .cg
noncomputable def dD:ah:=[.ifs (.not (.call 16 [(.v 0)])) [.rs 1] []]
theorem mR(Φ:aT)(h16:Sy (Φ 16)):pR (mk Φ 1 1 dD):=by
 intro k n rs I;have e1:=h16 k n rs I;have m1:aS aW (b6 n rs)=b6 n rs:=by simp[b6]
 have m2:aS bo (b6 n rs)=b6 n rs:=by simp[b6]
 simp[mk_eq,dD,m1,m2,e1]
noncomputable def PK(ws xs:ai):ai:=(ws.zip xs).map λp=>p.1*p.2
structure Gs(j n:Nat)(ws xs:ai):Prop where
 l1:ws.length=n
 l2:xs.length=n
 s1:∀q∈ws,Sm j q
 s2:∀q∈xs,Sm j q
 jj:j<=100
theorem Gs.NV{j n:Nat}{ws xs:ai}(G:Gs j n ws xs)(hn:n<=12):rK (j+j) (PK ws xs):=by
 have hl:(PK ws xs).length=n:=by unfold PK;rw[List.length_map,List.length_zip,G.l1,G.l2,Nat.min_self]
 have hj:=G.jj;refine⟨λq hq=>?_,?_,by left⟩
 ·obtain⟨p,hp,rfl⟩:=List.mem_map.mp hq;have m:=aaz hp;exact(G.s1 _ m.1).mul (G.s2 _ m.2)
 ·rw[hl];have:(j+j)*n<=200*12:=aaA (by left) hn;left
theorem Gs.at{j n:Nat}{ws xs:ai}(G:Gs j n ws xs){h:Int}(h0:0<=h)(h1:h<n):bw (PK ws xs) h=bw ws h*bw xs h:=by
 obtain⟨g1,_⟩:=fw (qs:=ws) h0 (by rw[G.l1];exact h1);obtain⟨g2,_⟩:=fw (qs:=xs) h0 (by rw[G.l2];exact h1);unfold bw at *;unfold PK;rw[List.getD_eq_getElem?_getD,List.getElem?_map,List.zip,List.getElem?_zipWith,g1,g2];rfl
theorem fi{i j:Int}(h:i.natAbs<2 ^ 9000)(h':j.natAbs<2 ^ 9000):eN i j=true:=by simp only[eN,big,h,h',decide_true,Bool.and_self,Bool.or_true]
noncomputable def A7:CE:=.comp 2 (.tp [0,1]) [] (.cz 1000) [(.ix (.v 2) (.int 1)),(.ix (.v 1) (.int 1))] [] (.bin .mul (.ix (.v 0) (.int 0)) (.v 1))
def jC:ah:=[.asg (.nm 2) (.call 14 [(.v 0)]),.asg (.nm 3) (.bf .gS [A7]),.ret (.call 2 [(.v 3),(.bin .mul (.ix (.v 2) (.int 0)) (.ix (.v 1) (.int 0)))])]
def iF(b:Nat)(rs:aH)(gs:aa):Int:=((rs.zip gs).map λp=>aZ b p.1.1*p.2).sum
def rL(m:av):Prop:=∀{P:aa->Prop} k n rs gs (gb:Nat),Dp P k n rs->gs.length=rs.length->0<gb->gb<2 ^ 8000->(∀g∈gs,g.natAbs<2 ^ 9000)->m [.lst .fz (cf rs),.tup [.int gb,.lst .fz (ag gs)]]=ok (qD (Rat.divInt (iF (bj (eQ rs)) rs gs) ((bj (eQ rs):Int)*gb)))
theorem An(Φ:aT)(h2:bO (Φ 2))(MG:gJ (Φ 14))(gE:Φ 1000=p5):rL (mk Φ 2 4 jC):=by
 intro P k n rs gs gb I hl g0 g1 g9;obtain⟨k',sk⟩:=I.sl;have e1:=MG rs k' sk;obtain⟨b0,b1,_⟩:=I.bot;have ht:=λr hr=>I.top (r:=r) hr;generalize bj (eQ rs)=b at *;have hz:dI Φ (.cz 1000) [.lst .al (kl b rs),.lst .fz (ag gs)]=ok ((rs.zip gs).map λp=>.tup [.tup [.int (aZ b p.1.1),.tup (ag p.1.2)],.int p.2]):=by
  show bd (Φ 1000 _) kH=_;rw[gE];show ok (aA aW (List.zipWith (λx y=>D.tup [x,y]) (kl b rs) (ag gs)))=_;have:=cA aW (kl b rs) (ag gs);rw[vm,bQ]at this;refine aa2 ok (acC this ?_);unfold kl ag;rw[List.zipWith_map,List.zip,List.map_zipWith];rfl
 have k1:∀a b',bp Φ A7 [a,some (.tup [.int gb,.lst .fz (ag gs)]),some (.tup [.int b,.lst .ow (kl b rs)]),b']=ok (.lst .ow (ag ((rs.zip gs).map λp=>aZ b p.1.1*p.2))):=λa b'=>by
  unfold A7;rw[cM (xs:=[.lst .al (kl b rs),.lst .fz (ag gs)]) (by simp) hz (ds:=(rs.zip gs).map λp=>.int (aZ b p.1.1*p.2)) (bS λp hp=>?_) (by simp;exact bZ (by have:=I.len;left))]
  ·simp[ag,aQ]
  ·have m:=aaz hp;have e:=dz (fi (aaj (ht p.1 m.1) (aam (by decide) (by decide))) (g9 p.2 m.2));exact⟨[some (.tup [.int (aZ b p.1.1),.tup (ag p.1.2)]),some (.int p.2)],by simp[bG],by simp,by simp[e]⟩
 have k2:m8 .gS [.lst .ow (ag ((rs.zip gs).map λp=>aZ b p.1.1*p.2))]=ok (.int (iF b rs gs)):=by
  show(match intsOf (ag ((rs.zip gs).map λp=>aZ b p.1.1*p.2))with|some ns=>ok (D.int ns.sum)|none=>none)=_;unfold ag;rw[bD];rfl
 have k3:=dz (fi (i:=(b:Int)) (j:=(gb:Int)) (by rw[Int.natAbs_natCast];exact aaj b1 (aam (by decide) (by decide))) (by rw[Int.natAbs_natCast];exact aaj g1 (aam (by decide) (by decide))));have k4:=h2.1 (iF b rs gs) ((b:Int)*gb) (by
  have:(0:Int)<(b:Int)*gb:=acE (by left) (by left);left) (by
  rw[Int.natAbs_mul,Int.natAbs_natCast,Int.natAbs_natCast];exact aaj (br b1 g1) (aam (by decide) (by decide)))
 simp[mk_eq,jC,e1,k1,k2,k3,k4]
def pM(m:av):Prop:=∀f qs j,1<=qs.length->qs.length<=12->rK j qs->m [.lst f (ba qs)]=ok (qD qs.sum)
noncomputable def hJ:ah:=[.ifs (.or [(.not (.qW (.v 0) .list)),(.cmp .lt (.bf .len [(.v 0)]) (.int 1)),(.cmp .gt (.bf .len [(.v 0)]) (.glo "MOST_HOUSES" 12))]) [.rs 4] [],.ex (.call 47 [(.v 0),(.bf .len [(.v 0)])]),.ret (.call 42 [(.v 0)])]
theorem w9(Φ:aT)(zr:cE (Φ 42))(ME:jE 4 lp (Φ 47)):pM (mk Φ 1 1 hJ):=by
 intro f qs j l1 l2 hs;have e1:=λf=>ME (.lst f (ba qs)) qs.length (by show(ba qs).length<=1000000;simp;left);simp only[tM,decide_true,if_true]at e1;have e2:=λf=>zr f qs j hs;have ty:∀f ds,dv .list (.lst f ds)=true:=λ_ _=>rfl;have c1:fm .lt (.int (qs.length:Int)) (.int 1)=ok (.bl false):=by
  show ok (D.bl (decide ((qs.length:Int)<1)))=_;rw[decide_eq_false (by left)]
 have c2:fm .gt (.int (qs.length:Int)) (.int 12)=ok (.bl false):=by
  show ok (D.bl (decide ((12:Int)<qs.length)))=_;rw[decide_eq_false (by left)]
 simp[mk_eq,hJ,ty,c1,c2,e1,e2]
theorem J2{p i:Nat}{es:aD}{d d':D}(h1:b9 Φ es ρ=ok xs)(h2:aM bF xs=false)(h3:ρ[i]?=some (some d))(h4:Φ p (d::xs)=ok d'):lD Φ (.mut p i es) ρ=ok (.nx,ρ.set i (some d')):=by
 show bd (b9 Φ es ρ) (λxs=>oI Φ p i (iY es xs ρ))=_;rw[h1,b_];unfold iY;rw[h2,if_neg Bool.false_ne_true];unfold oI;rw[h3];show bd (Φ p (d::xs)) _=_;rw[h4];rfl
theorem ra(c:aa):∀(cs:af) (ws:aa),bJ cs (ag ws) c=(bJ cs ws c).map D.int
 |[],_=>by cases ‹aa› <;> rfl
 |_::_,[]=>rfl
 |c'::cs,w::ws=>by
  show(if c'=c then some (D.int w)else bJ cs (ag ws) c)=Option.map D.int (if c'=c then some w else bJ cs ws c);by_cases e:c'=c
  ·rw[if_pos e,if_pos e];rfl
  ·rw[if_neg e,if_neg e];exact ra c cs ws
def gZ(cs:af)(ws:aa)(c:aa):Int:=(bJ cs ws c).getD 0
theorem pf{α:Type}{c:aa}:∀{cs:af} (ws:List α),c∉cs->bJ cs ws c=none
 |[],_,_=>by cases ‹List α› <;> rfl
 |_::_,[],_=>rfl
 |c'::cs,w::ws,h=>by
  show(if c'=c then some w else bJ cs ws c)=none;rw[if_neg λe=>h (by rw[e];exact List.mem_cons_self)];exact pf ws λz=>h (aad _ z)
theorem sS{α:Type}{c:aa}:∀{cs:af} {ws:List α},cs.length=ws.length->c∈cs->∃w,bJ cs ws c=some w/\w∈ws
 |[],_,_,h=>nomatch h
 |_::_,[],hl,_=>by simp at hl
 |c'::cs,w::ws,hl,h=>by
  by_cases e:c'=c
  ·exact⟨w,aa0 e,aaf⟩
  ·have h':c∈cs:=(List.mem_cons.mp h).resolve_left λz=>e z.symm;obtain⟨w',e1,e2⟩:=sS (cs:=cs) (ws:=ws) (by simpa using hl) h';exact⟨w',(ack e).trans e1,aad _ e2⟩
theorem uI{c:aa}{v:Int}:∀{cs:af} {ws:aa},cs.Nodup->cs.length=ws.length->c∈cs->(setC cs ws c v).sum=ws.sum - gZ cs ws c+v/\(setC cs ws c v).length=ws.length
 |[],_,_,_,h=>nomatch h
 |_::_,[],_,h,_=>by simp at h
 |c'::cs,w::ws,hn,hl,h=>by
  have wB:=List.nodup_cons.mp hn;have nC:cs.length=ws.length:=by simpa using hl
  have es:setC (c'::cs) (w::ws) c v=(if c'=c then v else w)::setC cs ws c v:=rfl;by_cases e:c'=c
  ·have QO:∀{cs:af} {ws:aa},cs.length=ws.length->c∉cs->setC cs ws c v=ws:=λ{cs}=>by
    induction cs with
    |nil=>intro ws hl _;cases ws with|nil=>rfl|cons _ _=>simp at hl
    |cons d cs ih =>
     intro ws hl hc;cases ws with
     |nil=>simp at hl
     |cons w ws =>
      show(if d=c then v else w)::setC cs ws c v=_;rw[if_neg λz=>hc (by rw[z];exact List.mem_cons_self),ih (by simpa using hl) λz=>hc (List.mem_cons_of_mem _ z)]
   have hcn:c∉cs:=e▸wB.1;rw[es,if_pos e,QO nC hcn];have eg:gZ (c'::cs) (w::ws) c=w:=by
    show(if c'=c then some w else bJ cs ws c).getD 0=w;rw[if_pos e];rfl
   rw[eg];refine⟨?_,rfl⟩;rw[List.sum_cons,List.sum_cons];left
  ·have h':c∈cs:=(List.mem_cons.mp h).resolve_left λz=>e z.symm;obtain⟨i1,i2⟩:=uI (v:=v) wB.2 nC h';have eg:gZ (c'::cs) (w::ws) c=gZ cs ws c:=by
    show(if c'=c then some w else bJ cs ws c).getD 0=_;rw[if_neg e];rfl
   rw[es,if_neg e,eg];refine⟨?_,by rw[List.length_cons,List.length_cons,i2]⟩;rw[List.sum_cons,List.sum_cons,i1];left
theorem uJ{c:aa}{v:Int}:∀{cs:af} {ws:aa} {x:Int},x∈setC cs ws c v->x∈ws\/x=v
 |[],_,_,h=>by cases ‹aa› <;> exact nomatch h
 |_::_,[],_,h=>nomatch h
 |c'::cs,w::ws,x,h=>by
  have h:x∈(if c'=c then v else w)::setC cs ws c v:=h;rcases List.mem_cons.mp h with e|h
  ·by_cases q:c'=c
   ·rw[if_pos q]at e;exact .inr e
   ·rw[if_neg q]at e;rw[e];exact .inl aaf
  ·rcases uJ h with h|h
   ·exact .inl (aad _ h)
   ·exact .inr h
structure Tab(P:aa->Prop)(j:Nat)(cs:af)(ws:aa):Prop where
 nd:cs.Nodup
 ln:cs.length=ws.length
 Bw:cs.length<=j
 lot:∀c∈cs,P c
 pos:∀w∈ws,1<=w
 sum:ws.sum<=7*j
 ne:1<=j->cs≠[]
variable {cs:af}
theorem Tab.get{n:aa->Prop}{j:Nat}(T:Tab n j cs ws)(c:aa):0<=gZ cs ws c:=by
 by_cases h:c∈cs
 ·obtain⟨w,e,m⟩:=sS T.ln h;unfold gZ;rw[e];have:=T.pos w m;show 0<=w;left
 ·unfold gZ;rw[pf ws h];exact acF _
theorem Tab.put{n:aa->Prop}{j:Nat}(T:Tab n j cs ws){c:aa}(hc:n c){i:Int}(h1:1<=i)(h7:i<=7):Tab n (j+1) (aP cs c) (bP cs ws c (gZ cs ws c+i)):=by
 have hg:=T.get c;have hf:=T.Bw;have hs:=T.sum;by_cases h:c∈cs
 ·obtain⟨s1,s2⟩:=uI (v:=gZ cs ws c+i) T.nd T.ln h;unfold aP bP;rw[if_pos h,if_pos h];refine⟨T.nd,by rw[s2];exact T.ln,by left,T.lot,λw hw=>?_,by rw[s1];left,λ_ z=>by rw[z]at h;cases h⟩;rcases uJ hw with hw|rfl
  ·exact T.pos w hw
  ·left
 ·have hz:gZ cs ws c=0:=by unfold gZ;rw[pf ws h];rfl
  unfold aP bP;rw[if_neg h,if_neg h,hz];refine⟨?_,by rw[List.length_append,List.length_append,T.ln];rfl,by rw[List.length_append,List.length_singleton];left,λd hd=>?_,λw hw=>?_,by rw[List.sum_append];simp;left,λ_ z=>by simp at z⟩
  ·refine List.nodup_append.mpr ⟨T.nd,List.nodup_cons.mpr ⟨List.not_mem_nil,aaR⟩,λa ha b hb e=>?_⟩;rw[List.mem_singleton.mp hb]at e;exact h (e▸ha)
  ·rcases List.mem_append.mp hd with hd|hd
   ·exact T.lot d hd
   ·rw[List.mem_singleton.mp hd];exact hc
  ·rcases List.mem_append.mp hw with hw|hw
   ·exact T.pos w hw
   ·rw[List.mem_singleton.mp hw];left
theorem CQ{a b:ai}(h:a.Perm b):a.sum=b.sum:=by
 induction h with
 |nil=>rfl
 |cons x _ ih=>rw[List.sum_cons,List.sum_cons,ih]
 |swap x y l=>rw[List.sum_cons,List.sum_cons,List.sum_cons,List.sum_cons];grind
 |trans _ _ i1 i2=>rw[i1,i2]
structure ac_(Φ:aT):Prop where
 JE:Φ 1030=zL
 JD:Φ 1031=rA
 JC:Φ 1032=A_
 JB:Φ 1033=rn
 JA:Φ 1035=l7
 Zg:Φ 1100=Np
theorem xP{t b:Int}(hb:b≠0):(Rat.divInt t b).den∣b.natAbs:=by
 obtain⟨t',b',e1,e2,h1,h2,h3,h4⟩:=oF (t:=t) hb;obtain⟨g1,g2⟩:=sU (t:=t) hb;rw[show b.fdiv (fN t b)=b' from h2]at g2;have hz:(Rat.divInt t b).den=b'.natAbs:=by left
 have:b.natAbs=(fN t b).natAbs*b'.natAbs:=by rw[<- Int.natAbs_mul,<- e2]
 rw[hz,this];exact Nat.dvd_mul_left ..
theorem ff(Φ:aT):∀(a b:ah) (ρ ρ':bc),bC Φ a ρ=ok (.nx,ρ')->bC Φ (a++b) ρ=bC Φ b ρ'
 |[],b,ρ,ρ',h=>by cases h;rfl
 |s::a,b,ρ,ρ',h=>by
  rw[bT]at h;rw[List.cons_append,bT];cases e:lD Φ s ρ with
  |none=>rw[e]at h;cases h
  |some r=>cases r with
   |error c=>rw[e]at h;cases h
   |ok r =>
    obtain⟨fo,ρ1⟩:=r;rw[e]at h;cases fo with
    |nx=>exact ff Φ a b ρ1 ρ' h
    |_=>cases h
def z9(m:av):Prop:=∀(N:Int) (n:Nat),n<=12->∃qs:ai,m [.int N,.int n]=ok (.lst .ow (ba qs))/\qs.length=n/\∀q∈qs,Sm 3 q
noncomputable def ng:ah:=[.app 2 (.call 201 [(.bin .sub (.bin .mod (.v 0) (.int 13)) (.int 6)),(.bin .add (.int 1) (.bin .mod (.bin .fdiv (.v 0) (.int 13)) (.int 4)))]),.asg (.nm 0) (.bin .fdiv (.v 0) (.int 52))]
def nN:ah:=[.asg (.nm 2) (.lst []),.fr (.nm 3) (.lz (.v 1)) ng,.ret (.v 2)]
theorem oR(Φ:aT)(AX:jD (Φ 201))(y:aC):∀(ks:ab) (acc:ai) (n:Int) (w:aC),acc.length+ks.length<=1000->(∀q∈acc,Sm 3 q) ->
  ∃(qs:ai) (n' w':aC),dw (λd ρ=>b8 (.nm 3) d ρ) (λρ=>bC Φ ng ρ) ks [some (.int n),y,some (.lst .ow (ba acc)),w]=ok (.nx,[n',y,some (.lst .ow (ba qs)),w'])/\qs.length=acc.length+ks.length/\∀q∈qs,Sm 3 q
 |[],acc,n,w,_,hs=>⟨acc,some (.int n),w,rfl,rfl,hs⟩
 |k::ks,acc,n,w,h,hs=>by
  simp only[List.length_cons]at h;obtain⟨a1,a2⟩:=g_ n (b:=13) (by decide);obtain⟨a3,a4⟩:=g_ (n.fdiv 13) (b:=4) (by decide);have e:=AX (n.fmod 13 - 6) (1+(n.fdiv 13).fmod 4) (by left) (sG (by left));have sq:Sm 3 (Rat.divInt (n.fmod 13 - 6) (1+(n.fdiv 13).fmod 4)):=Cc (by left) (by left) (by left);generalize Rat.divInt (n.fmod 13 - 6) (1+(n.fdiv 13).fmod 4)=q at *;obtain⟨qs,n',w',e',l,s⟩:=oR Φ AX y ks (acc++[q]) (n.fdiv 52) (some k) (by simp;left) (λp hp=>by
   rcases List.mem_append.mp hp with hp|hp
   ·exact hs p hp
   ·have:p=q:=by simpa using hp
    subst this;exact sq)
  have hc:acc.length<cP:=by show _<1000000;left
  refine⟨qs,n',w',cL (ρ1:=[some (.int n),y,some (.lst .ow (ba acc)),some k]) (by simp) (ρ2:=[some (.int (n.fdiv 52)),y,some (.lst .ow (ba (acc++[q]))),some k]) ?_ e',by rw[l];simp;left,s⟩;simp[ng,e,hc]
theorem Gq(Φ:aT)(AX:jD (Φ 201)):z9 (mk Φ 2 4 nN):=by
 intro N n hn;have hit:=Hm (Φ:=Φ) (a:=.v 1) (ρ:=[some (.int N),some (.int n),some (.lst .ow []),none]) (n:=n) (by simp) (by left) (by left);obtain⟨qs,n',w',el,l,s⟩:=oR Φ AX (some (.int n)) ((List.range (n:Int).toNat).map λ(k:Nat)=>D.int (k:Int)) [] N none (by simp;left) (by simp);have hf:=dS (t:=.nm 3) (b:=ng) hit el;refine⟨qs,?_,by simpa using l,s⟩;simp[mk_eq,nN,hf]
theorem Qa(q:Rat):fm .ne (qD q) (qD q)=ok (.bl false):=by
 rw[Ny (vb 39 _) (vb 39 _),Ez];simp
def lE(f:Fl)(n:Nat)(rs:aH):D:=.tup [.int n,.lst f (cf rs)]
@[simp]theorem Tr(g:Fl->Fl)(f:Fl)(n:Nat)(rs:aH):aS g (lE f n rs)=lE (g f) n rs:=by simp[lE]
theorem vS(n:Nat)(rs:aH):lE .fz n rs=b6 n rs:=rfl
@[simp]theorem TK(p:Fl->Bool)(f:Fl)(n:Nat)(rs:aH):aR p (lE f n rs)=p f:=by simp[lE]
@[simp]theorem VQ(f:Fl)(n:Nat)(rs:aH):AE (lE f n rs) (.int 0)=ok (.int n):=by simp[lE]
noncomputable def iy(n:Nat)(h:Nat):ai:=(List.range n).map λ(k:Nat)=>if k=h then 1 else 0
theorem yh{n x:Nat}:∀q∈iy n x,Sm 1 q:=λq hq=>by
 unfold iy at hq;obtain⟨k,_,rfl⟩:=List.mem_map.mp hq;split
 ·exact⟨by decide,by decide⟩
 ·exact⟨by decide,by decide⟩
@[simp]theorem OK(n x:Nat):(iy n x).length=n:=by simp[iy]
def lB(f:Fl)(ls:List (ai)):ab:=ls.map λl=>.lst f (ba l)
def Fm(M B:Nat)(q:Rat):Prop:=0<M/\∃z:Int,z.natAbs<=B/\q*(M:Rat)=(z:Rat)
section
variable {M N B C:Nat}{p q:Rat}
theorem eU{M:Nat}(h:0<M):(M:Rat)≠0:=λz=>by
 have:((M:Int):Rat)=0:=by rw[Rat.intCast_natCast];exact z
 rw[Rat.intCast_eq_zero_iff]at this;left
theorem Fm.divInt(h:Fm M B q):∃z:Int,z.natAbs<=B/\q=Rat.divInt z M:=by
 obtain⟨h0,z,hz,e⟩:=h;refine⟨z,hz,?_⟩;rw[Rat.divInt_eq_div,<- e,Rat.intCast_natCast];have:=eU h0;grind
theorem Fm.sm{k:Nat}(h:Fm M B q)(h1:M<2 ^ k)(h2:B<2 ^ k):Sm k q:=by
 have h0:=h.1;obtain⟨z,hz,rfl⟩:=h.divInt;exact jq (by left) (by left) (by simpa using h1)
theorem Fm.mono(h:Fm M B q)(hl:B<=C):Fm M C q:=⟨h.1,h.2.choose,aau h.2.choose_spec.1 hl,h.2.choose_spec.2⟩
theorem Fm.add(h:Fm M B p)(h':Fm M C q):Fm M (B+C) (p+q):=by
 obtain⟨h0,z,hz,e⟩:=h;obtain⟨_,w,hw,e'⟩:=h';exact⟨h0,z+w,by left,by rw[Rat.intCast_add,<- e,<- e'];grind⟩
theorem Fm.sub(h:Fm M B p)(h':Fm M C q):Fm M (B+C) (p - q):=by
 obtain⟨h0,z,hz,e⟩:=h;obtain⟨_,w,hw,e'⟩:=h';exact⟨h0,z - w,by left,by rw[Rat.intCast_sub,<- e,<- e'];grind⟩
theorem Fm.mul(h:Fm M B p)(h':Fm N C q):Fm (M*N) (B*C) (p*q):=by
 obtain⟨h0,z,hz,e⟩:=h;obtain⟨h0',w,hw,e'⟩:=h';exact⟨aci h0 h0',z*w,by rw[Int.natAbs_mul];exact aaA hz hw,by rw[Rat.intCast_mul,<- e,<- e',Rat.natCast_mul];grind⟩
theorem Fm.zero(h:0<M):Fm M 0 0:=⟨h,0,by decide,by rw[Rat.zero_mul];rfl⟩
theorem Fm.sum{qs:ai}(h0:0<M)(h:∀q∈qs,Fm M B q):Fm M (qs.length*B) qs.sum:=by
 induction qs with
 |nil=>simpa using Fm.zero h0
 |cons q qs ih =>
  rw[List.sum_cons,List.length_cons,Nat.succ_mul,Nat.add_comm];exact(h q aaf).add (ih λp hp=>h p (aad _ hp))
theorem MO(h0:0<M)(hd:q.den∣M)(hn:q.num.natAbs<=B*q.den):Fm M (B*M) q:=by
 obtain⟨c,rfl⟩:=hd;refine⟨h0,q.num*c,?_,?_⟩
 ·rw[Int.natAbs_mul,Int.natAbs_natCast,<- Nat.mul_assoc];exact aa7 _ hn
 ·rw[Rat.intCast_mul,uX,Rat.natCast_mul,Rat.intCast_natCast];grind
theorem RK(h:Sm 3 q):Fm 420 (7*420) q:=by
 have hp:=q.den_pos;have h1:=h.1;have h2:=h.2;refine MO (by decide) ?_ ?_
 ·have:q.den=1\/q.den=2\/q.den=3\/q.den=4\/q.den=5\/q.den=6\/q.den=7:=by left
  rcases this with e|e|e|e|e|e|e<;>rw[e]<;>decide
 ·have:7*1<=7*q.den:=abG _ hp;left
end
theorem tN{B:Nat}:∀(l:aa),(∀z∈l,z.natAbs<=B)->l.sum.natAbs<=l.length*B
 |[],_=>by simp
 |z::l,h=>by
  have ih:=tN l λx hx=>h x (aad _ hx);have hz:=h z aaf;have ht:=Int.natAbs_add_le z l.sum;rw[List.sum_cons,List.length_cons,Nat.succ_mul];left
def uC(b:Nat)(rs:aH)(gs:aa):Int:=((rs.zip gs).map λp=>aZ b p.1.1*p.2*p.2).sum
def kF(b gb:Nat)(rs:aH)(gs:aa):Rat:=Rat.divInt ((b:Int)*uC b rs gs - iF b rs gs*iF b rs gs) ((b:Int)*gb*((b:Int)*gb))
noncomputable def Ni:CE:=.comp 2 (.tp [0,1]) [] (.cz 1000) [(.ix (.v 2) (.int 1)),(.ix (.v 1) (.int 1))] [] (.bin .mul (.bin .mul (.ix (.v 0) (.int 0)) (.v 1)) (.v 1))
def f6:ah:=[.asg (.nm 2) (.call 14 [(.v 0)]),.asg (.nm 3) (.bf .gS [A7]),.asg (.nm 4) (.bf .gS [Ni]),.asg (.nm 5) (.bin .mul (.ix (.v 2) (.int 0)) (.ix (.v 1) (.int 0))),.ret (.call 2 [(.bin .sub (.bin .mul (.ix (.v 2) (.int 0)) (.v 4)) (.bin .mul (.v 3) (.v 3))),(.bin .mul (.v 5) (.v 5))])]
def mJ(m:av):Prop:=∀{P:aa->Prop} k n rs gs (gb:Nat),Dp P k n rs->gs.length=rs.length->0<gb->gb<2 ^ 2000->(∀g∈gs,g.natAbs<2 ^ 2000)->m [.lst .fz (cf rs),.tup [.int gb,.lst .fz (ag gs)]]=ok (qD (kF (bj (eQ rs)) gb rs gs))
theorem uO(Φ:aT)(h2:bO (Φ 2))(MG:gJ (Φ 14))(gE:Φ 1000=p5):mJ (mk Φ 2 6 f6):=by
 intro P k n rs gs gb I hl g0 g1 RF;obtain⟨k',sk⟩:=I.sl;have e1:=MG rs k' sk;obtain⟨b0,b1,_⟩:=I.bot;have ht:=λr hr=>I.top (r:=r) hr;have hlen:=I.len;generalize bj (eQ rs)=b at *;have hz:dI Φ (.cz 1000) [.lst .al (kl b rs),.lst .fz (ag gs)]=ok ((rs.zip gs).map λp=>.tup [.tup [.int (aZ b p.1.1),.tup (ag p.1.2)],.int p.2]):=by
  show bd (Φ 1000 _) kH=_;rw[gE];show ok (aA aW (List.zipWith (λx y=>D.tup [x,y]) (kl b rs) (ag gs)))=_;have:=cA aW (kl b rs) (ag gs);rw[vm,bQ]at this;refine aa2 ok (acC this ?_);unfold kl ag;rw[List.zipWith_map,List.zip,List.map_zipWith];rfl
 have up:∀{a:Nat} {x:Int},x.natAbs<2 ^ a->(h:a<=9000:=by decide)->x.natAbs<2 ^ 9000:=λh h'=>aaj h (aam (by decide) h');have pr:∀p∈rs.zip gs,(aZ b p.1.1*p.2).natAbs<2 ^ 2250:=λp hp=>by
  have m:=aaz hp;rw[Int.natAbs_mul,show(2250:Nat)=250+2000 from rfl];exact br (ht p.1 m.1) (RF p.2 m.2)
 have k1:∀r,bp Φ A7 (some (.lst .fz (cf rs))::some (.tup [.int gb,.lst .fz (ag gs)])::some (.tup [.int b,.lst .ow (kl b rs)])::r)=ok (.lst .ow (ag ((rs.zip gs).map λp=>aZ b p.1.1*p.2))):=λr=>by
  unfold A7;rw[cM (xs:=[.lst .al (kl b rs),.lst .fz (ag gs)]) (by simp) hz (ds:=(rs.zip gs).map λp=>.int (aZ b p.1.1*p.2)) (bS λp hp=>?_) (by simp;exact bZ (by left))]
  ·simp[ag,aQ]
  ·have m:=aaz hp;have e:=dz (fi (up (ht p.1 m.1)) (up (RF p.2 m.2)));exact⟨[some (.tup [.int (aZ b p.1.1),.tup (ag p.1.2)]),some (.int p.2)],by simp[bG],by simp,by simp[e]⟩
 have k1':∀r,bp Φ Ni (some (.lst .fz (cf rs))::some (.tup [.int gb,.lst .fz (ag gs)])::some (.tup [.int b,.lst .ow (kl b rs)])::r)=ok (.lst .ow (ag ((rs.zip gs).map λp=>aZ b p.1.1*p.2*p.2))):=λr=>by
  unfold Ni;rw[cM (xs:=[.lst .al (kl b rs),.lst .fz (ag gs)]) (by simp) hz (ds:=(rs.zip gs).map λp=>.int (aZ b p.1.1*p.2*p.2)) (bS λp hp=>?_) (by simp;exact bZ (by left))]
  ·simp[ag,aQ]
  ·have m:=aaz hp;have e:=dz (fi (up (ht p.1 m.1)) (up (RF p.2 m.2)));have e':cX .mul (.int (aZ b p.1.1*p.2)) (.int p.2)=ok (.int (aZ b p.1.1*p.2*p.2)):=dz (fi (aaj (pr p hp) (aam (by decide) (by decide))) (aaj (RF p.2 m.2) (aam (by decide) (by decide))));exact⟨[some (.tup [.int (aZ b p.1.1),.tup (ag p.1.2)]),some (.int p.2)],by simp[bG],by simp,by simp[e,e']⟩
 have ks:∀l:aa,m8 .gS [.lst .ow (ag l)]=ok (.int l.sum):=λl=>by
  show(match intsOf (ag l)with|some ns=>ok (D.int ns.sum)|none=>none)=_;unfold ag;rw[bD]
 have kt:m8 .gS [.lst .ow (ag ((rs.zip gs).map λp=>aZ b p.1.1*p.2))]=ok (.int (iF b rs gs)):=ks _;have kq:m8 .gS [.lst .ow (ag ((rs.zip gs).map λp=>aZ b p.1.1*p.2*p.2))]=ok (.int (uC b rs gs)):=ks _;have ta:(iF b rs gs).natAbs<2 ^ 2300:=by
  have h:=tN (B:=2 ^ 2250) ((rs.zip gs).map λp=>aZ b p.1.1*p.2) λz hz=>by
   obtain⟨p,hp,rfl⟩:=List.mem_map.mp hz;exact abJ (pr p hp)
  have hz:((rs.zip gs).map λp=>aZ b p.1.1*p.2).length<=1000:=by simp;left
  refine aas (aau h (aa7 _ hz)) ?_;rw[show(2300:Nat)=50+2250 from rfl,Nat.pow_add];exact Nat.mul_lt_mul_of_pos_right (by decide) (Nat.two_pow_pos _)
 have sa:(uC b rs gs).natAbs<2 ^ 4300:=by
  have h:=tN (B:=2 ^ 4250) ((rs.zip gs).map λp=>aZ b p.1.1*p.2*p.2) λz hz=>by
   obtain⟨p,hp,rfl⟩:=List.mem_map.mp hz;rw[Int.natAbs_mul,show(4250:Nat)=2250+2000 from rfl];exact abJ (br (pr p hp) (RF p.2 (aaz hp).2))
  have hz:((rs.zip gs).map λp=>aZ b p.1.1*p.2*p.2).length<=1000:=by simp;left
  refine aas (aau h (aa7 _ hz)) ?_;rw[show(4300:Nat)=50+4250 from rfl,Nat.pow_add];exact Nat.mul_lt_mul_of_pos_right (by decide) (Nat.two_pow_pos _)
 have bi:((b:Int)).natAbs<2 ^ 250:=by rw[Int.natAbs_natCast];exact b1
 have gi:((gb:Int)).natAbs<2 ^ 2000:=by rw[Int.natAbs_natCast];exact g1
 have m1:=dz (fi (up bi) (up gi));have m2:=dz (fi (up bi) (up sa));have m3:cX .mul (.int (iF b rs gs)) (.int (iF b rs gs))=ok (.int (iF b rs gs*iF b rs gs)):=dz (fi (aaj ta (aam (by decide) (by decide))) (aaj ta (aam (by decide) (by decide))));have TJ:((b:Int)*gb).natAbs<2 ^ 2250:=by
  rw[Int.natAbs_mul,Int.natAbs_natCast,Int.natAbs_natCast,show(2250:Nat)=250+2000 from rfl];exact br b1 g1
 have m4:cX .mul (.int ((b:Int)*gb)) (.int ((b:Int)*gb))=ok (.int ((b:Int)*gb*((b:Int)*gb))):=dz (fi (aaj TJ (aam (by decide) (by decide))) (aaj TJ (aam (by decide) (by decide))));have k4:=h2.1 ((b:Int)*uC b rs gs - iF b rs gs*iF b rs gs) ((b:Int)*gb*((b:Int)*gb)) (by
  have:(0:Int)<(b:Int)*gb:=acE (by left) (by left);have:=acE this this;left) (by
  rw[Int.natAbs_mul];exact aaj (br TJ TJ) (aam (by decide) (by decide)))
 change _=ok (qD (kF b gb rs gs))at k4;generalize kF b gb rs gs=sp at *;simp[mk_eq,f6,e1,k1,k1',kt,kq,m1,m2,m3,m4,k4]
end DI
end
section
namespace DI
open PySem PySem.Spec PyProof.Rows L2
def Df(K:aq)(x:Str)(st:Stmt):Prop:=∃f fd,IB K x x st f fd/\PySem.W.nsIn K mainGlobals x=some (some (.ref f))
variable {K:aq}{st:Stmt}
theorem dmk{x:Str}{f:Addr}{oc:Value}{od an:Option Addr}{sl:Array (Option Value)}{kV dc pm cd ct:Value}(a:PySem.W.nsIn K mainGlobals x=some (some (.ref f)))(l:K.lookup f=some ⟨oc,od,.func (PySem.W.fnOf x x (fX st) (dA st) (bL st) .none kV dc pm an cd ct),sl⟩)(c:PySem.W.codeIn K cd x=true)(k:PySem.W.keepIn K (.ref f)=true):Df K x st:=⟨f,_,MM l c k,a⟩
noncomputable def Zh(N P:au)(sc:Scope):Bool:=decide (sc.kind=.function)&&(!sc.isCoroutine&&(!sc.isGenerator&&(decide N.Nodup&&(decide (N.take P.length=P)&&(P.all (λx=>decide (sc.names.lookup x=some .local\/sc.names.lookup x=some .cell))&&sc.names.all λy=>decide (y.2≠.free))))))
variable {N:au}
theorem JH{P:au}{sc:Scope}(h:Zh N P sc=true):jF N P sc:=by
 obtain⟨h1,h⟩:=aL h;obtain⟨h2,h⟩:=aL h;obtain⟨h3,h⟩:=aL h;obtain⟨h4,h⟩:=aL h;obtain⟨h5,h⟩:=aL h;obtain⟨h6,h7⟩:=aL h;exact⟨aae h1,mx h2,mx h3,aae h4,aae h5,λx hx=>aae (List.all_eq_true.mp h6 x hx),λy hy=>aae (List.all_eq_true.mp h7 y hy)⟩
def T7(st:Stmt)(N ps:au)(tb:List (Nat×Str))(bl:au)(cs:List (Str×GK))(px:Px)(b:ah):Bool:=Zh N ps (bL st)&&k7 ⟨bL st,N,λn=>List.lookup n tb,bl,cs,px⟩ b (dA st)
theorem u1{α:Type}{P:List α->Prop}(h:∀a,P [a])(us:List α)(e:us.length=1):P us:=by obtain⟨a,rfl⟩:=Qt e;exact h a
theorem u2{α:Type}{P:List α->Prop}(h:∀a b,P [a,b])(us:List α)(e:us.length=2):P us:=by obtain⟨a,b,rfl⟩:=Qs e;exact h a b
theorem u3{α:Type}{P:List α->Prop}(h:∀a b c,P [a,b,c])(us:List α)(e:us.length=3):P us:=by obtain⟨a,b,c,rfl⟩:=Qr e;exact h a b c
theorem u4{α:Type}{P:List α->Prop}(h:∀a b c d,P [a,b,c,d])(us:List α)(e:us.length=4):P us:=by obtain⟨a,b,c,d,rfl⟩:=VJ e;exact h a b c d
theorem u5{α:Type}{P:List α->Prop}(h:∀a b c d e,P [a,b,c,d,e])(us:List α)(e:us.length=5):P us:=by
 match us,e with
 |[a,b,c,d,e],_=>exact h a b c d e
variable {P:aF}{base:Heap}{mg:Str->Option Value}{w:World}
theorem Ent.u{k k':Nat}{y:Str}{m:av}(h:Ent P w K mg base k y m)(hk:k<=k':=by decide):Ent P w K mg base k' y m:=h.up hk
theorem en{h:Heap}(X:K.In h)(G:h.Ns mainGlobals mg)⦃x:Str⦄⦃st:Stmt⦄⦃N ps bl:au⦄⦃tb:List (Nat×Str)⦄⦃cs:List (Str×GK)⦄⦃px:Px⦄⦃b:ah⦄(k:Nat)(Φ:aT)(m:av)(d:Df K x st)(hc:T7 st N ps tb bl cs px b=true)
  (hp:x8 px Φ/\NP px Φ) (Hx:dM (λy=>mg y=none) bl) (xD:dM (λp:Str×GK=>∃u,mg p.1=some u/\FG K p.2 u) cs)
  (hf:dM (λp:Nat×Str=>Ent P w K mg base k p.2 (Φ p.1)) tb) (hm:∀ds r,m ds=ok r->ds.length=ps.length/\si Φ N.length b ds=ok r) (hb:∀(kV doc pm:Value) (an:Option Addr) (jP ct:Value) (us:ao),us.length=ps.length->bindArgs (PySem.W.fnOf x x (fX st) (dA st) (bL st) .none kV doc pm an jP ct) ⟨us,[]⟩=pure (ps.zip us):=by first|exact λ_ _ _ _ _ _=>u1 λ_=>rfl|exact λ_ _ _ _ _ _=>u2 λ_ _=>rfl|exact λ_ _ _ _ _ _=>u3 λ_ _ _=>rfl|exact λ_ _ _ _ _ _=>u4 λ_ _ _ _=>rfl|exact λ_ _ _ _ _ _=>u5 λ_ _ _ _ _=>rfl):Ent P w K mg base (k+1) x m:=by
 obtain⟨f,fd,Fu,a⟩:=d;obtain⟨h1,h2⟩:=aL hc;exact ent Fu (acu X G a) (Fu.binds hb) (JH h1) h2 hp.1 hp.2 (dM.mem Hx) (dM.two (P:=λy i=>∃u,mg y=some u/\FG K i u) xD) (dM.tab (P:=λg y=>Ent P w K mg base k y (Φ g)) hf) hm
noncomputable def xm(PT F:aT)(i:Nat)(m:av):aT:=λn=>bif Nat.ble 1000 n then PT n else bif Nat.beq n i then m else F n
theorem V5{α:Type}{Q:Nat->Prop}(p:Nat){k:Nat}{a b c:α}(h:(if p=k then a else b)=c)(h1:a=c->Q k)(h2:b=c->Q p):Q p:=by
 by_cases e:p=k
 ·subst e;rw[if_pos rfl]at h;exact h1 h
 ·rw[if_neg e]at h;exact h2 h
variable {F:Addr->Prop}{Z:Cx}{cs:aD}{Φ:aT}
theorem Fv{α:Type}{e:Expr}{p k:Nat}{a b c:α}(h:(if p=k then a else b)=c)(h1:a=c->PE Z e (tD Z F Φ (.cz k cs))/\L2.PT Z e (gL Z F Φ (.cz k cs)))(h2:b=c->PE Z e (tD Z F Φ (.cz p cs))/\L2.PT Z e (gL Z F Φ (.cz p cs))):PE Z e (tD Z F Φ (.cz p cs))/\L2.PT Z e (gL Z F Φ (.cz p cs)):=V5 (Q:=λp=>PE Z e (tD Z F Φ (.cz p cs))/\L2.PT Z e (gL Z F Φ (.cz p cs))) p h h1 h2
theorem V4{α:Type}{i p k:Nat}{a b c:α}(h:(if p=k then a else b)=c)(h1:a=c->PS Z st (lN Z F Φ (.mut k i cs)))(h2:b=c->PS Z st (lN Z F Φ (.mut p i cs))):PS Z st (lN Z F Φ (.mut p i cs)):=V5 (Q:=λp=>PS Z st (lN Z F Φ (.mut p i cs))) p h h1 h2
theorem V3{α:Type}{c1 c2:CE}{i p k:Nat}{a b c:α}(h:(if p=k then a else b)=c)(h1:a=c->PS Z st (lN Z F Φ (.mu2 k i c1 c2)))(h2:b=c->PS Z st (lN Z F Φ (.mu2 p i c1 c2))):PS Z st (lN Z F Φ (.mu2 p i c1 c2)):=V5 (Q:=λp=>PS Z st (lN Z F Φ (.mu2 p i c1 c2))) p h h1 h2
theorem eR:True:=trivial
theorem dM.nn{K:aq}{h:Heap}{mg:a_}(X:K.In h)(G:h.Ns mainGlobals mg):∀{l:au},dM (λy=>PySem.W.nsIn K mainGlobals y=some none) l->dM (λy=>mg y=none) l
 |[],_=>trivial
 |_::_,z=>⟨PySem.W.mg_none_of X G z.1,dM.nn X G z.2⟩
theorem en7{P:aF}{w:World}{K:aq}{h base:Heap}{mg:a_}{bl:au}{cs:List (Str×GK)}{px:Px}{PT:aT}(X:K.In h)(G:h.Ns mainGlobals mg)(hp:∀F i m,x8 px (xm PT F i m)/\NP px (xm PT F i m))(Hx:dM (λy=>mg y=none) bl)(xD:dM (λp:Str×GK=>∃u,mg p.1=some u/\FG K p.2 u) cs)
  ⦃x:Str⦄ ⦃st:Stmt⦄ (k:Nat) (Φ:aT) (d:Df K x st) (N:au) (a:Nat) (tb:List (Nat×Str)) (b:ah)
  (hf:dM (λp:Nat×Str=>Ent P w K mg base k p.2 (Φ p.1)) tb) (hc:T7 st N (N.take a) tb bl cs px b=true:=by decide +kernel) (e:∃F i m,Φ=xm PT F i m:=by exact⟨_,_,_,rfl⟩) (ha:(N.take a).length=a:=by rfl) (hb:∀(kV doc pm:Value) (an:Option Addr) (jP ct:Value) (us:ao),us.length=a->bindArgs (PySem.W.fnOf x x (fX st) (dA st) (bL st) .none kV doc pm an jP ct) ⟨us,[]⟩=pure ((N.take a).zip us):=by first|exact λ_ _ _ _ _ _=>u1 λ_=>rfl|exact λ_ _ _ _ _ _=>u2 λ_ _=>rfl|exact λ_ _ _ _ _ _=>u3 λ_ _ _=>rfl|exact λ_ _ _ _ _ _=>u4 λ_ _ _ _=>rfl|exact λ_ _ _ _ _ _=>u5 λ_ _ _ _ _=>rfl):Ent P w K mg base (k+1) x (mk Φ a N.length b):=by
 obtain⟨F,i,m,e⟩:=e;exact en X G k Φ _ d hc (e▸hp F i m) Hx xD hf (λds r q=>⟨(xn ds r q).1.trans ha.symm,(xn ds r q).2⟩) (λkV doc pm an jP ct us hu=>hb kV doc pm an jP ct us (hu.trans ha))
theorem enL{x:Str}{ps bl:au}{tb:List (Nat×Str)}{cs:List (Str×GK)}{px:Px}{b:ah}{f:Addr}{fd:FuncData}(k:Nat)(Φ:aT)(m:av)(Fu:IB K x x st f fd)(hc:T7 st N ps tb bl cs px b=true)
  (hp:x8 px Φ/\NP px Φ) (Hx:dM (λy=>mg y=none) bl) (xD:dM (λp:Str×GK=>∃u,mg p.1=some u/\FG K p.2 u) cs)
  (hf:dM (λp:Nat×Str=>Ent P w K mg base k p.2 (Φ p.1)) tb) (hm:∀ds r,m ds=ok r->ds.length=ps.length/\si Φ N.length b ds=ok r):jK P w K mg base BA (k+1) f fd ps (Gh K ps.length m):=by
 obtain⟨h1,h2⟩:=aL hc;exact vM Fu (JH h1) h2 hp.1 hp.2 (dM.mem Hx) (dM.two (P:=λy i=>∃u,mg y=some u/\FG K i u) xD) (λg y h=>(dM.tab (P:=λg y=>Ent P w K mg base k y (Φ g)) hf g y h).ex) hm
end DI
end
section
namespace DI
open PySem (Str)
abbrev Rg:=Row×ai
noncomputable def bh(ps:List Rg):aH:=ps.map (·.1)
def ez(f:Fl)(ps:List Rg):ab:=ps.map λp=>.lst f (ba p.2)
@[simp]theorem Gw(ps:List Rg):(bh ps).length=ps.length:=aaY ..
@[simp]theorem TQ(f:Fl)(ps:List Rg):(ez f ps).length=ps.length:=aaY ..
@[simp]theorem Qj(g:Fl->Fl)(f:Fl)(ps:List Rg):aA g (ez f ps)=ez (g f) ps:=by
 unfold ez;rw[aQ,List.map_map];refine aak λx _=>?_;show aS g (.lst f (ba _))=_;simp
theorem kT(g:Fl->Bool)(f:Fl)(ps:List Rg)(h:g f=false):aM g (ez f ps)=false:=bW g (λx=>by simp[h]) ps
def II(ws:ai)(row:aa)(xs:ai):Rat:=((row.zip ws).map λp=>p.2*bw xs p.1).sum
def bY(xs:ai)(p:Rg):Rat:=II p.2 p.1.2 xs
structure Rk(j n:Nat)(ps:List Rg)(xs:ai):Prop where
 dr:Dp (Rw n) 250 n (bh ps)
 Bw:ps.length<=24
 ln:∀p∈ps,p.2.length=p.1.2.length
 sw:∀p∈ps,∀q∈p.2,Sm j q
 jb:(j+7)*n<=2000
 YB:j<=2900
 l2:xs.length=n
 s2:∀q∈xs,Sm 6 q
 pb:∃B,B*(ps.length+1)<=1999/\∀p∈ps,Sm B (bY xs p)
section
variable {j n:Nat}{ps:List Rg}{xs:ai}(K:Rk j n ps xs)
include K
theorem Rk.Qd:n<=12:=K.dr.n2
theorem Rk.rw{p:Rg}(hp:p∈ps):Rw n p.1.2:=K.dr.lot p.1 (aaq hp)
theorem Rk.at{p:Rg}(hp:p∈ps){h:Int}(hh:h∈p.1.2):tJ (ba xs) h=ok (qD (bw xs h))/\Sm 6 (bw xs h):=by
 have:=(K.rw hp).2.2 h hh;have l:=K.l2;exact⟨So this.1 (by left),K.s2 _ (fw this.1 (by left)).2⟩
theorem Rk.PH{p:Rg}(hp:p∈ps):rK (j+6) ((p.1.2.zip p.2).map λz=>z.2*bw xs z.1):=by
 have hl:=(K.rw hp).2.1;have:=K.Qd;refine⟨λq hq=>?_,?_,by rw[List.length_map,List.length_zip];left⟩
 ·obtain⟨z,hz,rfl⟩:=List.mem_map.mp hq;have m:=aaz hz;exact(K.sw p hp _ m.2).mul (K.at hp m.1).2
 ·have h1:=K.jb;have h2:(j+6)*((p.1.2.zip p.2).map λz=>z.2*bw xs z.1).length<=(j+7)*n:=aaA (by left) (by rw[List.length_map,List.length_zip];left);left
theorem Rk.NY:∃B,B*(ps.length+1)<=1999/\rK B (ps.map (bY xs)):=by
 obtain⟨B,h1,h2⟩:=K.pb;have:=K.Bw;refine⟨B,h1,λq hq=>?_,by rw[List.length_map];rw[Nat.mul_succ]at h1;left,by rw[List.length_map];left⟩;obtain⟨p,hp,rfl⟩:=List.mem_map.mp hq;exact h2 p hp
end
noncomputable def tG:ah:=[.ret (.call 45 [(.v 0)])]
theorem KA(Φ:aT)(WZ:wq (Φ 45)):wq (mk Φ 1 1 tG):=by
 intro k n rs I;have e:=WZ k n rs I;have m1:aS aW (b6 n rs)=b6 n rs:=by simp[b6]
 have m2:aS bo (b6 n rs)=b6 n rs:=by simp[b6]
 simp[mk_eq,tG,m1,m2,e]
def pQ(m:av):Prop:=∀k n rs,Dp (Rw n) k n rs->m [b6 n rs]=ok .cg
noncomputable def tI:ah:=[.ifs (.not (.call 72 [(.v 0)])) [.rs 1] []]
theorem KC(Φ:aT)(h72:wq (Φ 72)):pQ (mk Φ 1 1 tI):=by
 intro k n rs I;have e:=h72 k n rs I;have m1:aS aW (b6 n rs)=b6 n rs:=by simp[b6]
 have m2:aS bo (b6 n rs)=b6 n rs:=by simp[b6]
 simp[mk_eq,tI,m1,m2,e]
def tY(p:Rg):D:=.tup [rD p.1,.lst .fz (ba p.2)]
theorem BE(ps:List Rg):List.zipWith (λx y=>D.tup [x,y]) (cf (bh ps)) (ez .fz ps)=ps.map tY:=by
 unfold cf bh ez;rw[List.map_map,List.zipWith_map,List.zipWith_self];rfl
theorem BF{Φ:aT}(gE:Φ 1000=p5)(a b:Nat)(ps:List Rg){ρ:bc}(ha:bp Φ (.v a) ρ=ok (.lst .fz (cf (bh ps))))(hb:bp Φ (.v b) ρ=ok (.lst .fz (ez .fz ps))):cB Φ (.qN 1000 [(.v a),(.v b)]) ρ=ok (ps.map tY,ρ):=by
 show bd (b9 Φ [(.v a),(.v b)] ρ) _=_;have:b9 Φ [(.v a),(.v b)] ρ=ok [.lst .fz (cf (bh ps)),.lst .fz (ez .fz ps)]:=by simp[ha,hb]
 rw[this,b_,gE];show bd (ok (D.lst .ow (List.zipWith (λx y=>D.tup [x,y]) (cf (bh ps)) (ez .fz ps)))) _=_;rw[BE,b_];have e:aA aW (ps.map tY)=ps.map tY:=cv aW (λp=>by unfold tY;simp) ps;show ok (aA aW (ps.map tY),if aM bF [D.lst .fz (cf (bh ps)),.lst .fz (ez .fz ps)]then _ else _)=_;rw[e];have:aM bF [D.lst .fz (cf (bh ps)),.lst .fz (ez .fz ps)]=false:=by
  have:=kT bF .fz ps rfl;simp[this]
 rw[this];rfl
noncomputable def Ga:ah:=[.ifs (.not (.call 40 [(.v 3),(.bf .len [(.ix (.v 2) (.int 1))])])) [.rs 8] []]
def Il:ah:=[.ifs (.or [(.not (.qW (.v 0) .list)),(.cmp .ne (.bf .len [(.v 0)]) (.bf .len [(.v 1)]))]) [.rs 8] [],.fr (.tp [2,3]) (.qN 1000 [(.v 1),(.v 0)]) Ga]
def Fe(m:av):Prop:=∀j n ps xs,Rk j n ps xs->m [.lst .fz (ez .fz ps),.lst .fz (cf (bh ps))]=ok .cg
theorem zT(Φ:aT)(Og:dE (Φ 40))(c0 c1:aC):∀(ps:List Rg) (c2 c3:aC),(∀p∈ps,p.2.length=p.1.2.length/\p.2.length<=12)->∃NA Bk,dw (λd ρ=>b8 (.tp [2,3]) d ρ) (λρ=>bC Φ Ga ρ) (ps.map tY) [c0,c1,c2,c3]=ok (.nx,[c0,c1,NA,Bk])
 |[],c2,c3,_=>⟨c2,c3,rfl⟩
 |p::ps,c2,c3,h=>by
  obtain⟨NA,Bk,ih⟩:=zT Φ Og c0 c1 ps (some (rD p.1)) (some (.lst .fz (ba p.2))) λs hs=>h s (aad _ hs);have h1:=h p aaf;have e:=λf=>Og (.lst f (ba p.2)) p.1.2.length (by show(ba p.2).length<=1000000;simp;left);simp only[tM,h1.1,decide_true]at e;have e1:rD p.1=.tup [qD p.1.1,.tup (ag p.1.2)]:=rfl;refine⟨NA,Bk,cL (ρ1:=[c0,c1,some (rD p.1),some (.lst .fz (ba p.2))]) (by simp[tY]) (ρ2:=[c0,c1,some (rD p.1),some (.lst .fz (ba p.2))]) ?_ ih⟩;simp[Ga,e1,e]
theorem U3(Φ:aT)(Og:dE (Φ 40))(gE:Φ 1000=p5):Fe (mk Φ 2 4 Il):=by
 intro j n ps xs K;have hn:=K.Qd;obtain⟨c2,c3,e⟩:=zT Φ Og (some (.lst .fz (ez .fz ps))) (some (.lst .fz (cf (bh ps)))) ps none none λp hp=>⟨K.ln p hp,by have:=(K.rw hp).2.1;have:=K.ln p hp;left⟩
 have hit:=BF gE 1 0 ps (ρ:=[some (.lst .fz (ez .fz ps)),some (.lst .fz (cf (bh ps))),none,none]) (by simp) (by simp);have hf:=dS (Φ:=Φ) (t:=.tp [2,3]) (b:=Ga) hit e;have Uv:∀f ds,dv .list (.lst f ds)=true:=λ_ _=>rfl;simp[mk_eq,Il,Uv,hf]
noncomputable def Nk:CE:=.comp 2 (.tp [0,1]) [2] (.cz 1015) [(.ix (.v 4) (.int 1)),(.v 5)] [] (.call 6 [(.v 1),(.ix (.v 2) (.v 0))])
def F8:ah:=[.app 3 (.call 42 [Nk])]
def Ij:ah:=[.asg (.nm 3) (.lst []),.fr (.tp [4,5]) (.qN 1000 [(.v 0),(.v 1)]) F8,.ret (.call 41 [(.v 3)])]
def Iw(m:av):Prop:=∀j n ps xs,Rk j n ps xs->m [.lst .fz (cf (bh ps)),.lst .fz (ez .fz ps),.lst .fz (ba xs)]=ok (.tup [.int (bj (ps.map (bY xs))),.lst .ow (ag ((ps.map (bY xs)).map (aZ (bj (ps.map (bY xs))))))])
theorem GA(Φ:aT)(h6:h_ (Φ 6))(i4:Φ 1015=iL){j n:Nat}{qs:List Rg}{xs:ai}(K:Rk j n qs xs){p:Rg}(hp:p∈qs)(c0 c1 c3:aC):bp Φ Nk [c0,c1,some (.lst .fz (ba xs)),c3,some (rD p.1),some (.lst .fz (ba p.2))]=ok (.lst .ow (ba ((p.1.2.zip p.2).map λz=>z.2*bw xs z.1))):=by
 have hl:=(K.rw hp).2.1;have hn:=K.Qd;have hz:dI Φ (.cz 1015) [.tup (ag p.1.2),.lst .fz (ba p.2)]=ok ((p.1.2.zip p.2).map λz=>.tup [.int z.1,qD z.2]):=by
  show bd (Φ 1015 _) kH=_;rw[i4];show ok (aA aW (List.zipWith (λx y=>D.tup [x,y]) (ag p.1.2) (ba p.2)))=_;have:=cA aW (ag p.1.2) (ba p.2);rw[oM,bQ]at this;refine aa2 ok (acC this ?_);unfold ba ag;rw[List.zipWith_map,List.zip,List.map_zipWith];rfl
 unfold Nk;have e1:rD p.1=.tup [qD p.1.1,.tup (ag p.1.2)]:=rfl;rw[cM (xs:=[.tup (ag p.1.2),.lst .fz (ba p.2)]) (by simp[e1]) hz (ds:=(p.1.2.zip p.2).map λz=>qD (z.2*bw xs z.1)) (bS λz hz=>?_) (by simp;exact bZ (by left))]
 ·simp[ba,aQ]
 ·have m:=aaz hz;obtain⟨a1,a2⟩:=K.at hp m.1;have e:=h6 z.2 (bw xs z.1) ((K.sw p hp _ m.2).mono (by have:=K.YB;left)) (a2.mono (by decide));exact⟨[some (.int z.1),some (qD z.2),some (.lst .fz (ba xs))],by simp[bG],by simp,by simp[a1,e]⟩
theorem yG(Φ:aT)(h6:h_ (Φ 6))(zr:cE (Φ 42))(i4:Φ 1015=iL){j n:Nat}{qs:List Rg}{xs:ai}(K:Rk j n qs xs)(c0 c1:aC):∀(ps:List Rg) (acc:ai) (c4 c5:aC),(∀p∈ps,p∈qs)->acc.length+ps.length<=100 ->
  ∃mI me,dw (λd ρ=>b8 (.tp [4,5]) d ρ) (λρ=>bC Φ F8 ρ) (ps.map tY) [c0,c1,some (.lst .fz (ba xs)),some (.lst .ow (ba acc)),c4,c5]=ok (.nx,[c0,c1,some (.lst .fz (ba xs)),some (.lst .ow (ba (acc++ps.map (bY xs)))),mI,me])
 |[],acc,c4,c5,_,_=>⟨c4,c5,by simp[sV]⟩
 |p::ps,acc,c4,c5,h,hl=>by
  rw[List.length_cons]at hl;obtain⟨mI,me,ih⟩:=yG Φ h6 zr i4 K c0 c1 ps (acc++[bY xs p]) (some (rD p.1)) (some (.lst .fz (ba p.2))) (λs hs=>h s (aad _ hs)) (by simp;left);have hp:=h p aaf;have e1:=GA Φ h6 i4 K hp c0 c1 (some (.lst .ow (ba acc)));have e2:=λf=>zr f _ (j+6) (K.PH hp);change ∀f,Φ 42 _=ok (qD (bY xs p))at e2;have hc:acc.length<cP:=by show _<1000000;left
  have ea:ba acc++[qD (bY xs p)]=ba (acc++[bY xs p]):=by simp[ba]
  refine⟨mI,me,cL (ρ1:=[c0,c1,some (.lst .fz (ba xs)),some (.lst .ow (ba acc)),some (rD p.1),some (.lst .fz (ba p.2))]) (by simp[tY]) (ρ2:=[c0,c1,some (.lst .fz (ba xs)),some (.lst .ow (ba (acc++[bY xs p]))),some (rD p.1),some (.lst .fz (ba p.2))]) ?_ (ih.trans (by simp))⟩;simp[F8,e1,e2,ea,hc]
theorem U0(Φ:aT)(h6:h_ (Φ 6))(MF:ia (Φ 41))(zr:cE (Φ 42))(gE:Φ 1000=p5)(i4:Φ 1015=iL):Iw (mk Φ 3 6 Ij):=by
 intro j n ps xs K;have hf:=K.Bw;obtain⟨c4,c5,e⟩:=yG Φ h6 zr i4 K (some (.lst .fz (cf (bh ps)))) (some (.lst .fz (ez .fz ps))) ps [] none none (λ_ h=>h) (by simp;left);have q0:ba []=[]:=rfl;rw[List.nil_append,q0]at e;have hit:=BF gE 0 1 ps (ρ:=[some (.lst .fz (cf (bh ps))),some (.lst .fz (ez .fz ps)),some (.lst .fz (ba xs)),some (.lst .ow []),none,none]) (by simp) (by simp);have hx:=dS (Φ:=Φ) (t:=.tp [4,5]) (b:=F8) hit e;obtain⟨B,_,hB⟩:=K.NY;have eo:=λf=>MF f _ B hB;simp[mk_eq,Ij,hx,eo]
def iK(ps:List Rg)(xs:ai):Rat:=(ps.map λp=>p.1.1*bY xs p).sum
def mT(ps:List Rg)(xs:ai):Rat:=(ps.map λp=>p.1.1*(bY xs p*bY xs p)).sum
def HQ(ps:List Rg)(xs:ai)(m:Rat):Rat:=(ps.map λp=>p.1.1*((bY xs p - m)*(bY xs p - m))).sum
theorem wO{b c:Nat}(xs:ai):∀(ps:List Rg),(∀p∈ps,p.1.1.den∣b/\(bY xs p).den∣c) ->
  ((iF b (bh ps) ((ps.map (bY xs)).map (aZ c)):Int):Rat)=iK ps xs*((b:Rat)*(c:Rat))/\((uC b (bh ps) ((ps.map (bY xs)).map (aZ c)):Int):Rat)=mT ps xs*((b:Rat)*((c:Rat)*(c:Rat)))
 |[],_=>by constructor<;>simp[iF,uC,iK,mT,bh,Rat.zero_mul]
 |p::ps,h=>by
  obtain⟨i1,i2⟩:=wO xs ps λs hs=>h s (aad _ hs);obtain⟨d1,d2⟩:=h p aaf;have e1:iF b (bh (p::ps)) (((p::ps).map (bY xs)).map (aZ c))=aZ b p.1.1*aZ c (bY xs p)+iF b (bh ps) ((ps.map (bY xs)).map (aZ c)):=rfl;have e2:uC b (bh (p::ps)) (((p::ps).map (bY xs)).map (aZ c))=aZ b p.1.1*aZ c (bY xs p)*aZ c (bY xs p)+uC b (bh ps) ((ps.map (bY xs)).map (aZ c)):=rfl;have e3:iK (p::ps) xs=p.1.1*bY xs p+iK ps xs:=by unfold iK;rw[List.map_cons,List.sum_cons]
  have e4:mT (p::ps) xs=p.1.1*(bY xs p*bY xs p)+mT ps xs:=by unfold mT;rw[List.map_cons,List.sum_cons]
  constructor
  ·rw[e1,e3,Rat.intCast_add,Rat.intCast_mul,dU d1,dU d2,i1];grind
  ·rw[e2,e4,Rat.intCast_add,Rat.intCast_mul,Rat.intCast_mul,dU d1,dU d2,i2];grind
theorem EF(xs:ai)(m:Rat):∀ps:List Rg,HQ ps xs m=mT ps xs - 2*m*iK ps xs+m*m*(eQ (bh ps)).sum
 |[]=>by show(0:Rat)=0 - 2*m*0+m*m*0;grind
 |p::ps=>by
  have ih:=EF xs m ps;have e1:HQ (p::ps) xs m=p.1.1*((bY xs p - m)*(bY xs p - m))+HQ ps xs m:=by unfold HQ;rw[List.map_cons,List.sum_cons]
  have e3:iK (p::ps) xs=p.1.1*bY xs p+iK ps xs:=by unfold iK;rw[List.map_cons,List.sum_cons]
  have e4:mT (p::ps) xs=p.1.1*(bY xs p*bY xs p)+mT ps xs:=by unfold mT;rw[List.map_cons,List.sum_cons]
  have e5:(eQ (bh (p::ps))).sum=p.1.1+(eQ (bh ps)).sum:=rfl;rw[e1,e3,e4,e5,ih];grind
section
variable {j n:Nat}{ps:List Rg}{xs:ai}(K:Rk j n ps xs)
include K
theorem Rk.R6:HQ ps xs (iK ps xs)=mT ps xs - iK ps xs*iK ps xs:=by
 have h1:(eQ (bh ps)).sum=1:=K.dr.one;rw[EF,h1];grind
theorem Rk.R7:∀p∈ps,p.1.1.den∣bj (eQ (bh ps))/\(bY xs p).den∣bj (ps.map (bY xs)):=λp hp =>
 ⟨K.dr.bot.2.2 _ (aaq (aaq hp)),K.NY.choose_spec.2.lcm.2.2 _ (aaq hp)⟩
theorem Rk.VH:Rat.divInt (iF (bj (eQ (bh ps))) (bh ps) ((ps.map (bY xs)).map (aZ (bj (ps.map (bY xs)))))) ((bj (eQ (bh ps)):Int)*(bj (ps.map (bY xs)):Int))=iK ps xs:=by
 have t:=(wO xs ps K.R7).1;have z1:=eU K.dr.bot.1;have z2:=eU K.NY.choose_spec.2.lcm.1;rw[Rat.divInt_eq_div,t,Rat.intCast_mul,Rat.intCast_natCast,Rat.intCast_natCast];generalize ((bj (eQ (bh ps)):Nat):Rat)=B at *;generalize ((bj (ps.map (bY xs)):Nat):Rat)=C at *;grind
theorem Rk.spread:kF (bj (eQ (bh ps))) (bj (ps.map (bY xs))) (bh ps) ((ps.map (bY xs)).map (aZ (bj (ps.map (bY xs)))))=HQ ps xs (iK ps xs):=by
 obtain⟨t,q⟩:=wO xs ps K.R7;have z1:=eU K.dr.bot.1;have z2:=eU K.NY.choose_spec.2.lcm.1;rw[K.R6];unfold kF;rw[Rat.divInt_eq_div];simp only[Rat.intCast_sub,Rat.intCast_mul,Rat.intCast_natCast,t,q];generalize ((bj (eQ (bh ps)):Nat):Rat)=B at *;generalize ((bj (ps.map (bY xs)):Nat):Rat)=C at *;generalize iK ps xs=m at *;generalize mT ps xs=s at *;grind
theorem Rk.Ig:0<bj (ps.map (bY xs))/\bj (ps.map (bY xs))<2 ^ 2000:=by
 obtain⟨B,h,s⟩:=K.NY;have c3:=s.lcm.2.1;rw[List.length_map]at c3;rw[Nat.mul_succ]at h;exact⟨s.lcm.1,aaj c3 (aam (by decide) (by left))⟩
theorem Rk.tops:∀g∈(ps.map (bY xs)).map (aZ (bj (ps.map (bY xs)))),g.natAbs<2 ^ 2000:=λg hg=>by
 obtain⟨q,hq,rfl⟩:=List.mem_map.mp hg;obtain⟨B,h,s'⟩:=K.NY;have s:=s'.sm q hq;have c3:=s'.lcm.2.1;rw[List.length_map]at c3;rw[Nat.mul_succ]at h;unfold aZ;rw[Int.natAbs_mul];have f1:((bj (ps.map (bY xs)):Int).fdiv q.den).natAbs<=bj (ps.map (bY xs)):=by
  rw[Int.fdiv_eq_ediv_of_nonneg _ (by left)];have:=Int.natAbs_ediv_le_natAbs (bj (ps.map (bY xs)):Int) (q.den:Int);simpa using this
 exact aaj (br s.1 (aas f1 c3)) (aam (by decide) (by left))
end
noncomputable def wb(f:Nat):ah:=[.ex (.call 73 [(.v 0)]),.ex (.call 74 [(.v 1),(.ix (.v 0) (.int 1))]),.ex (.call 47 [(.v 2),(.ix (.v 0) (.int 0))]),.ret (.call f [(.ix (.v 0) (.int 1)),(.call 75 [(.ix (.v 0) (.int 1)),(.v 1),(.v 2)])])]
def Bp(g:List Rg->ai->Rat)(m:av):Prop:=∀j n ps xs,Rk j n ps xs->m [b6 n (bh ps),.lst .fz (ez .fz ps),.lst .fz (ba xs)]=ok (qD (g ps xs))
def gf(ps:List Rg)(xs:ai):Rat:=HQ ps xs (iK ps xs)
theorem I0(Φ:aT){f:Nat}{g:List Rg->ai->Rat}(ME:jE 4 lp (Φ 47))(MA:pQ (Φ 73))(Mz:Fe (Φ 74))(Rx:Iw (Φ 75))(hf:∀j n ps xs,Rk j n ps xs->Φ f [.lst .fz (cf (bh ps)),.tup [.int (bj (ps.map (bY xs))),.lst .fz (ag ((ps.map (bY xs)).map (aZ (bj (ps.map (bY xs))))))]]=ok (qD (g ps xs))):Bp g (mk Φ 3 3 (wb f)):=by
 intro j n ps xs K;have hn:=K.Qd;have l2:=K.l2;have e1:=MA 250 n _ K.dr;have e2:=Mz j n ps xs K;have e3:=λf=>ME (.lst f (ba xs)) n (by show(ba xs).length<=1000000;simp;left);simp only[tM,l2,decide_true,if_true]at e3;have e4:=Rx j n ps xs K;have e5:=hf j n ps xs K;have m1:aS aW (b6 n (bh ps))=b6 n (bh ps):=by simp[b6]
 have m2:aS bo (b6 n (bh ps))=b6 n (bh ps):=by simp[b6]
 have hd:b6 n (bh ps)=.tup [.int n,.lst .fz (cf (bh ps))]:=rfl;have x0:AE (b6 n (bh ps)) (.int 0)=ok (.int n):=by rw[hd];simp
 have x1:AE (b6 n (bh ps)) (.int 1)=ok (.lst .fz (cf (bh ps))):=by rw[hd];simp
 generalize bj (ps.map (bY xs))=c at *;generalize (ps.map (bY xs)).map (aZ c)=ts at *;simp[mk_eq,wb,m1,m2,x0,x1,e1,e2,e3,e4,e5]
theorem UZ(Φ:aT)(ME:jE 4 lp (Φ 47))(h49:rL (Φ 49))(MA:pQ (Φ 73))(Mz:Fe (Φ 74))(Rx:Iw (Φ 75)):Bp iK (mk Φ 3 3 (wb 49)) :=
 I0 Φ ME MA Mz Rx λj n ps xs K=>by
  have:=h49 250 n (bh ps) ((ps.map (bY xs)).map (aZ (bj (ps.map (bY xs))))) (bj (ps.map (bY xs))) K.dr (by simp) K.Ig.1 (aaj K.Ig.2 (aam (by decide) (by decide))) λg hg=>aaj (K.tops g hg) (aam (by decide) (by decide));rw[K.VH]at this;exact this
theorem Pe(Φ:aT)(ME:jE 4 lp (Φ 47))(h50:mJ (Φ 50))(MA:pQ (Φ 73))(Mz:Fe (Φ 74))(Rx:Iw (Φ 75)):Bp gf (mk Φ 3 3 (wb 50)) :=
 I0 Φ ME MA Mz Rx λj n ps xs K=>by
  have:=h50 250 n (bh ps) ((ps.map (bY xs)).map (aZ (bj (ps.map (bY xs))))) (bj (ps.map (bY xs))) K.dr (by simp) K.Ig.1 K.Ig.2 K.tops;rw[K.spread]at this;exact this
noncomputable def Bm(f:Nat):ah:=[.ex (.call 17 [(.v 0)]),.ret (.call f [(.v 0),(.v 1),(.v 2)])]
def NM(g:List Rg->ai->Rat)(m:av):Prop:=∀j n ps xs,Rk j n ps xs->Dr 250 n (bh ps)->m [b6 n (bh ps),.lst .fz (ez .fz ps),.lst .fz (ba xs)]=ok (qD (g ps xs))
theorem Pf(Φ:aT){f:Nat}{g:List Rg->ai->Rat}(h17:pR (Φ 17))(hf:Bp g (Φ f)):NM g (mk Φ 3 3 (Bm f)):=by
 intro j n ps xs K I;have e1:=h17 250 n _ I;have e2:=hf j n ps xs K;have m1:aS aW (b6 n (bh ps))=b6 n (bh ps):=by simp[b6]
 have m2:aS bo (b6 n (bh ps))=b6 n (bh ps):=by simp[b6]
 simp[mk_eq,Bm,m1,m2,e1,e2]
end DI
end
section
namespace DI
open PySem PySem.Spec PyProof.Rows L2
section
variable {prog:aF}{w:World}{A:aE}{E:az}{s:Shared}{d it:Addr}{es:Array DictEntry}{ep i:Nat}
end
section
variable {X:Cx}{pins:ak}{σ:St}{H:Hp}{s:Shared}{d:Addr}{cs:af}{as:aO}{xs:ae}{ep:Nat}
end
section
variable {X:Cx}{pins:ak}{σ:St}{H:Hp}{s:Shared}{p b:Addr}{c:aa}{A:aE}{E:az}
end
end DI
end
section
namespace DI
open PySem (Str)
structure NL(most:Nat)(qs:ai)(B:Nat):Prop where
 n1:1<=qs.length
 n2:qs.length<=most
 b1:1<=B
 b2:B<=9
 q0:∀q∈qs,0<=q
 q1:∀q∈qs,q<=1
 qd:∀q∈qs,q.den∣B
 su:∃s:Int,qs.sum=(s:Rat)
variable {B:Nat}{qs:ai}
theorem NL.le{m k:Nat}(h:NL m qs B)(hk:m<=k):NL k qs B:=⟨h.n1,aau h.n2 hk,h.b1,h.b2,h.q0,h.q1,h.qd,h.su⟩
theorem Dd{q:Rat}(h:q<=1):q.num<=(q.den:Int):=by
 have h':(q.num:Rat)<=(q.den:Rat):=by
  rw[uX];have h2:(0:Rat)<=(q.den:Rat):=by exact_mod_cast aaK _
  have:=abq h h2
  rwa [Rat.one_mul]at this
 exact_mod_cast h'
theorem Jg{q:Rat}(h:0<=q):0<=q.num:=Rat.num_nonneg.mpr h
theorem NL.sm{m:Nat}(h:NL m qs B){q:Rat}(hq:q∈qs):Sm 4 q:=by
 have h1:=Dd (h.q1 q hq);have h2:=Jg (h.q0 q hq);have h3:=abV (by have:=h.b1;left) (h.qd q hq);have:=h.b2;constructor<;>simp<;>left
theorem NL.NV{m:Nat}(h:NL m qs B)(hm:m<=12):rK 4 qs:=⟨λ_ hq=>h.sm hq,by have:=h.n2;left,by have:=h.n2;left⟩
theorem vx(a:aa)(t:Int)(b:aa):tJ (ag (a++t::b)) (a.length:Int)=ok (.int t):=by
 rw[pK (d:=.int t) (by rw[lZ];simp)];rfl
noncomputable def rO(W x:Int):Bool:=decide (0<x)&&decide (x<W)
def uj(W:Int):Int->aa->aa
 |_,[]=>[]
 |j,x::xs=>if rO W x then j::uj W (j+1) xs else uj W (j+1) xs
noncomputable def Dy(W:Int):Int->aa->aa
 |_,[]=>[]
 |j,x::xs=>if x=W then j::Dy W (j+1) xs else Dy W (j+1) xs
def vals(W:Int)(p:aa):aa:=p.filter (rO W)
variable {W:Int}
theorem jk{x:Int}:rO W x=true ↔ 0<x/\x<W:=by simp[rO]
theorem nc{W:Int}:∀{p:aa} {j:Int},vals W p=[]->uj W j p=[]
 |[],_,_=>rfl
 |x::p,j,h=>by
  unfold vals at h;by_cases hx:rO W x=true
  ·rw[List.filter_cons_of_pos hx]at h;cases h
  ·rw[List.filter_cons_of_neg hx]at h;rw[uj,if_neg hx];exact nc h
theorem rP{W:Int}:∀{p q:aa} {j:Int},uj W j (p++q)=uj W j p++uj W (j+p.length) q
 |[],q,j=>by simp[uj]
 |x::p,q,j=>by
  have e:j+1+(p.length:Int)=j+((x::p).length:Int):=by simp;left
  rw[List.cons_append,uj,uj,rP (p:=p),e];split<;>simp
theorem n6(p q:aa):vals W (p++q)=vals W p++vals W q:=List.filter_append ..
theorem fB(x:Int)(p:aa):vals W (x::p)=if rO W x then x::vals W p else vals W p:=List.filter_cons ..
theorem split1{W:Int}:∀p:aa,vals W p=[]\/∃A a C,p=A++a::C/\vals W A=[]/\rO W a=true
 |[]=>.inl rfl
 |x::p=>by
  by_cases hx:rO W x=true
  ·exact .inr ⟨[],x,p,rfl,rfl,hx⟩
  ·rcases split1 p with h|⟨A,a,C,rfl,h1,h2⟩
   ·exact .inl (by rw[fB,if_neg hx,h])
   ·exact .inr ⟨x::A,a,C,rfl,by rw[fB,if_neg hx,h1],h2⟩
structure tV(n:Nat)(W:Int)(p:aa):Prop where
 len:p.length=n
 lo:∀x∈p,0<=x
 hi:∀x∈p,x<=W
 su:∃s:Int,p.sum=s*W
structure Tw(W:Int)(p A:aa)(a:Int)(B:aa)(b:Int)(C:aa):Prop where
 eq:p=A++a::(B++b::C)
 vA:vals W A=[]
 vB:vals W B=[]
 ua:rO W a=true
 ub:rO W b=true
theorem iR{W:Int}:∀{A:aa},vals W A=[]->(∀x∈A,0<=x)->(∀x∈A,x<=W)->∃k:Int,A.sum=k*W
 |[],_,_,_=>⟨0,by simp⟩
 |x::A,h,l,u=>by
  rw[fB]at h;split at h
  ·cases h
  ·rename_i hx;obtain⟨k,hk⟩:=iR h (λy hy=>l y (aad _ hy)) λy hy=>u y (aad _ hy);have l0:=l x aaf;have u0:=u x aaf;have DT:¬ (0<x/\x<W):=λz=>hx (jk.mpr z);rw[List.sum_cons,hk];by_cases e:x=0
   ·exact⟨k,by left⟩
   ·exact⟨k+1,by rw[Int.add_mul];left⟩
theorem G9{a m:Int}(h0:0<a)(h1:a<W)(h:a=m*W):False:=by
 by_cases hm:m<=0
 ·have:=Int.mul_le_mul_of_nonneg_right hm (show 0<=W by left);left
 ·have:=Int.mul_le_mul_of_nonneg_right (show 1<=m by left) (show 0<=W by left);left
theorem tV.two{n:Nat}{p:aa}(I:tV n W p)(h:vals W p≠[]):∃A a B b C,Tw W p A a B b C:=by
 rcases split1 (W:=W) p with e|⟨A,a,C,rfl,h1,h2⟩
 ·exact absurd e h
 ·rcases split1 (W:=W) C with e|⟨B,b,C',rfl,h3,h4⟩
  ·obtain⟨s,hs⟩:=I.su;obtain⟨k1,e1⟩:=iR h1 (λx hx=>I.lo x (by simp[hx])) λx hx=>I.hi x (by simp[hx]);obtain⟨k2,e2⟩:=iR e (λx hx=>I.lo x (by simp[hx])) λx hx=>I.hi x (by simp[hx]);rw[List.sum_append,List.sum_cons,e1,e2]at hs;obtain⟨u1,u2⟩:=jk.mp h2;exact(G9 u1 u2 (m:=s - k1 - k2) (by rw[Int.sub_mul,Int.sub_mul];left)).elim
  ·exact⟨A,a,B,b,C',rfl,h1,h3,h2,h4⟩
noncomputable def fO(W a b:Int):Rat:=if a+b<=W then Rat.divInt a (a+b)else Rat.divInt (W - b) (2*W - a - b)
noncomputable def mW(W a b:Int):Int:=if W<a+b then W else a+b
def nA(W a b:Int):Int:=a+b - mW W a b
def Dc(W:Int)(p:aa):Option (Rat×aa×aa):=match uj W 0 p with
 |i::j::_=>some (fO W (p.getD i.toNat 0) (p.getD j.toNat 0),(p.set i.toNat (mW W (p.getD i.toNat 0) (p.getD j.toNat 0))).set j.toNat (nA W (p.getD i.toNat 0) (p.getD j.toNat 0)),(p.set j.toNat (mW W (p.getD i.toNat 0) (p.getD j.toNat 0))).set i.toNat (nA W (p.getD i.toNat 0) (p.getD j.toNat 0)))
 |_=>none
section
variable {W a b:Int}{p A B C:aa}(T:Tw W p A a B b C)
include T
theorem Tw.uj:uj W 0 p=(A.length:Int)::((A.length+1+B.length:Nat):Int)::uj W ((A.length+1+B.length:Nat)+1) C:=by
 rw[T.eq,rP,nc T.vA,List.nil_append,DI.uj,if_pos T.ua,rP,nc T.vB,List.nil_append,DI.uj,if_pos T.ub];have e:(0:Int)+(A.length:Int)+1+(B.length:Int)=((A.length+1+B.length:Nat):Int):=by push_cast;left
 rw[e,Int.zero_add]
theorem Tw.vals:vals W p=a::b::vals W C:=by
 rw[T.eq,n6,T.vA,List.nil_append,fB,if_pos T.ua,n6,T.vB,List.nil_append,fB,if_pos T.ub]
theorem Tw.at1:p.getD A.length 0=a:=by rw[T.eq];simp
theorem Tw.at2:p.getD (A.length+1+B.length) 0=b:=by
 rw[T.eq];have:A++a::(B++b::C)=(A++a::B)++b::C:=by simp
 rw[this,show A.length+1+B.length=(A++a::B).length by simp;left];simp
theorem Tw.UX(x:Int):p.set A.length x=A++x::(B++b::C):=by rw[T.eq];simp[List.set_append]
theorem Tw.UW(x:Int):p.set (A.length+1+B.length) x=A++a::(B++x::C):=by
 rw[T.eq];have:∀y,A++a::(B++y::C)=(A++a::B)++y::C:=by simp
 rw[this,this,show A.length+1+B.length=(A++a::B).length by simp;left];simp[List.set_append]
omit T in
theorem Pa(A:aa)(a:Int)(B:aa)(b:Int)(C:aa)(x:Int):(A++a::(B++b::C)).set (A.length+1+B.length) x=A++a::(B++x::C):=by
 have:∀y,A++a::(B++y::C)=(A++a::B)++y::C:=by simp
 rw[this,this,show A.length+1+B.length=(A++a::B).length by simp;left];simp[List.set_append]
theorem Tw.Dc:Dc W p=some (fO W a b,A++mW W a b::(B++nA W a b::C),A++nA W a b::(B++mW W a b::C)):=by
 unfold DI.Dc;rw[T.uj];dsimp only;rw[Int.toNat_natCast,Int.toNat_natCast,T.at1,T.at2,T.UX,T.UW,Pa];have:(A++a::(B++mW W a b::C)).set A.length (nA W a b)=A++nA W a b::(B++mW W a b::C):=by simp[List.set_append]
 rw[this]
theorem Tw.pq:0<a/\a<W/\0<b/\b<W:=⟨(jk.mp T.ua).1,(jk.mp T.ua).2,(jk.mp T.ub).1,(jk.mp T.ub).2⟩
theorem Tw.hl:0<=mW W a b/\mW W a b<=W/\0<=nA W a b/\nA W a b<=W/\mW W a b+nA W a b=a+b/\(rO W (mW W a b)=false\/rO W (nA W a b)=false):=by
 obtain⟨h1,h2,h3,h4⟩:=T.pq;unfold nA mW rO;split<;>refine⟨by left,by left,by left,by left,by left,?_⟩
 ·left
 ·right;simp
end
def nv(W:Int):aa->aa
 |a::b::r=>(if rO W (mW W a b)then[mW W a b]else if rO W (nA W a b)then[nA W a b]else[])++r
 |_=>[]
theorem xl(W a b:Int)(r:aa):(nv W (a::b::r)).length<=r.length+1:=by
 show((if rO W (mW W a b)then[mW W a b]else if rO W (nA W a b)then[nA W a b]else[])++r).length<=_;rw[List.length_append];split
 ·simp;left
 ·split<;>simp;left
section
variable {n:Nat}{W a b:Int}{p A B C:aa}(I:tV n W p)(T:Tw W p A a B b C)
include I T
theorem Tw.Ym{x y:Int}(hx:0<=x/\x<=W)(hy:0<=y/\y<=W)(hs:x+y=a+b):tV n W (A++x::(B++y::C)):=by
 have hl:=I.len;have lo:=I.lo;have hi:=I.hi;obtain⟨s,Hs⟩:=I.su;rw[T.eq]at hl lo hi Hs;refine⟨by rw[<- hl];simp,λz hz=>?_,λz hz=>?_,s,by rw[<- Hs];simp;left⟩
 ·simp only[List.mem_append,List.mem_cons]at hz;rcases hz with hz|rfl|hz|rfl|hz
  ·exact lo z (by simp[hz])
  ·exact hx.1
  ·exact lo z (by simp[hz])
  ·exact hy.1
  ·exact lo z (by simp[hz])
 ·simp only[List.mem_append,List.mem_cons]at hz;rcases hz with hz|rfl|hz|rfl|hz
  ·exact hi z (by simp[hz])
  ·exact hx.2
  ·exact hi z (by simp[hz])
  ·exact hy.2
  ·exact hi z (by simp[hz])
theorem Tw.J3:tV n W (A++mW W a b::(B++nA W a b::C)):=by
 obtain⟨h1,h2,h3,h4,h5,_⟩:=T.hl;exact T.Ym I ⟨h1,h2⟩ ⟨h3,h4⟩ h5
theorem Tw.LK:tV n W (A++nA W a b::(B++mW W a b::C)):=by
 obtain⟨h1,h2,h3,h4,h5,_⟩:=T.hl;exact T.Ym I ⟨h3,h4⟩ ⟨h1,h2⟩ (by left)
omit I in
theorem Tw.J6:DI.vals W (A++mW W a b::(B++nA W a b::C))=nv W (DI.vals W p)/\DI.vals W (A++nA W a b::(B++mW W a b::C))=nv W (DI.vals W p):=by
 obtain⟨_,_,_,_,_,h⟩:=T.hl;rw[T.vals];simp only[n6,fB,T.vA,T.vB,List.nil_append,nv];rcases h with h|h
 ·cases z:rO W (nA W a b)<;>simp[h]
 ·cases z:rO W (mW W a b)<;>simp[h]
end
theorem pG{t b:Int}(hb:0<b)(h:t<b):Rat.divInt t b<1:=by
 have Zf:(0:Rat)<(b:Rat):=by have:=abU (a:=0) (b:=b);simpa using this.mpr hb
 have h1:(t:Rat)<(b:Rat):=Rat.intCast_lt_intCast.mpr h;rw[Rat.divInt_eq_div,Rat.div_def];have:=Rat.mul_lt_mul_of_pos_right h1 (Rat.inv_pos.mpr Zf)
 rwa [Rat.mul_inv_cancel _ (Rat.ne_of_gt Zf)]at this
theorem EN{a b:Int}(h1:0<a)(h2:a<W)(h3:0<b)(h4:b<W)(hW:W<=9):0<fO W a b/\fO W a b<1/\Sm 5 (fO W a b):=by
 unfold fO;split
 ·exact⟨pF h1 (by left),pG (by left) (by left),Cc (by left) (by show _<32;left) (by show _<32;left)⟩
 ·exact⟨pF (by left) (by left),pG (by left) (by left),Cc (by left) (by show _<32;left) (by show _<32;left)⟩
noncomputable def ind(x y:aa):Rat:=if x=y then 1 else 0
def Pr(W:Int):Nat->aa->aa->Rat
 |0,p,l=>ind (Dy W 0 p) l
 |n+1,p,l=>match Dc W p with
  |none=>ind (Dy W 0 p) l
  |some z=>z.1*Pr W n z.2.1 l+(1 - z.1)*Pr W n z.2.2 l
theorem C_{p:aa}(h:vals W p=[]):Dc W p=none:=by unfold Dc;rw[nc h]
theorem tW{p:aa}(h:vals W p=[])(k:Nat)(l:aa):Pr W k p l=ind (Dy W 0 p) l:=by
 cases k with
 |zero=>rfl
 |succ k=>rw[Pr,C_ h]
theorem nS{n:Nat}{W:Int}(l:aa):∀(k:Nat) (p:aa),tV n W p->(vals W p).length<=k->Pr W k p l=Pr W (k+1) p l
 |0,p,I,h=>by
  have:vals W p=[]:=List.length_eq_zero_iff.mp (by left);rw[tW this,tW this]
 |k+1,p,I,h=>by
  by_cases e:vals W p=[]
  ·rw[tW e,tW e]
  ·obtain⟨A,a,B,b,C,T⟩:=I.two e;obtain⟨v1,v2⟩:=T.J6;have hv:=T.vals;have hn:=xl W a b (vals W C);rw[hv]at h v1 v2;simp only[List.length_cons]at h;rw[Pr,Pr,T.Dc];dsimp only;rw[nS l k _ (T.J3 I) (by rw[v1];left),nS l k _ (T.LK I) (by rw[v2];left)]
variable {A C:aa}
theorem Iy{n:Nat}(l:aa){k:Nat}{p B:aa}{a b:Int}(I:tV n W p)(T:Tw W p A a B b C)(h:(vals W p).length<=k):
  Pr W k p l=fO W a b*Pr W k (A++mW W a b::(B++nA W a b::C)) l+(1 - fO W a b)*Pr W k (A++nA W a b::(B++mW W a b::C)) l:=by
 obtain⟨v1,v2⟩:=T.J6;have hv:=T.vals;have hn:=xl W a b (vals W C);rw[hv]at h v1 v2;simp only[List.length_cons]at h;obtain⟨k,rfl⟩:∃j,k=j+1:=⟨k - 1,by left⟩
 rw[Pr,T.Dc];dsimp only;rw[nS l k _ (T.J3 I) (by rw[v1];left),nS l k _ (T.LK I) (by rw[v2];left)]
theorem kX{α:Type}(f:aa->α)(k:aa):∀ks:af,bJ ks (ks.map f) k=if k∈ks then some (f k)else none
 |[]=>rfl
 |j::ks=>by
  show(if j=k then some (f j)else bJ ks (ks.map f) k)=_;rw[kX f k ks];by_cases e:j=k
  ·subst e;simp
  ·rw[if_neg e];have:k∈j::ks ↔ k∈ks:=by rw[List.mem_cons];exact⟨λh=>h.resolve_left λz=>e z.symm,.inr⟩
   simp only[this]
theorem uK{α:Type}(f:aa->α)(k:aa)(v:α):∀ks:af,setC ks (ks.map f) k v=ks.map λj=>if j=k then v else f j
 |[]=>rfl
 |j::ks=>by
  show(if j=k then v else f j)::setC ks (ks.map f) k v=_;rw[uK f k v ks,List.map_cons]
theorem Ac{α:Type}(f:aa->α)(k:aa)(v:α)(ks:af):bP ks (ks.map f) k v=(aP ks k).map λj=>if j=k then v else f j:=by
 unfold bP aP;by_cases h:k∈ks
 ·rw[if_pos h,if_pos h,uK]
 ·rw[if_neg h,if_neg h,List.map_append];congr 1
  ·refine aak λj hj=>?_;rw[if_neg (show ¬ j=k from λz=>h (z▸hj))]
  ·simp
variable {ks:af}
theorem cI{c k:aa}:k∈aP ks c ↔ k∈ks\/k=c:=by
 unfold aP;split
 ·rename_i h;exact⟨.inl,λz=>z.elim id λe=>e▸h⟩
 ·simp
theorem kP(h:ks.Nodup)(c:aa):(aP ks c).Nodup:=by
 unfold aP;split
 ·exact h
 ·rename_i hc;rw[List.nodup_append];exact⟨h,by simp,λa ha b hb=>by rw[List.mem_singleton.mp hb];exact λz=>hc (z▸ha)⟩
theorem fC(ks:af)(c:aa):(aP ks c).length<=ks.length+1:=by
 unfold aP;split<;>simp
structure JX(Φ:aT):Prop where
 JE:Φ 1030=zL
 JD:Φ 1031=rA
 JC:Φ 1032=A_
 JB:Φ 1033=rn
 JA:Φ 1035=l7
variable {Φ:aT}
theorem R5(P:JX Φ)(f:Fl){cs:af}{ws:aa}(hl:cs.length=ws.length){c:aa}(h:c∈cs):Φ 1032 [.dy f cs (ag ws),.tup (ag c)]=ok (.int (gZ cs ws c)):=by
 obtain⟨w,e,_⟩:=sS hl h;rw[P.JC];show(match intsOf (c.map D.int)with|some c=>(match bJ cs (ag ws) c with|some v=>if aR anyF v=false then ok v else none|none=>none)|none=>none)=_;rw[bD];show(match bJ cs (ag ws) c with|some v=>if aR anyF v=false then ok v else none|none=>none)=_;rw[ra,e];unfold gZ;rw[e];rfl
theorem Uz{α:Type}(P:JX Φ)(e:α->D)(he:∀a,aR anyF (e a)=false)(f:Fl)(ks:af)(w:aa->α)(z:α)(c:aa)(h:c∉ks->w c=z):Φ 1031 [.dy f ks (ks.map λk=>e (w k)),.tup (ag c),e z]=ok (e (w c)):=by
 rw[P.JD];show(match intsOf (c.map D.int)with|some c=>if aM anyF (ks.map λk=>e (w k))=false/\aR anyF (e z)=false then ok ((bJ ks (ks.map λk=>e (w k)) c).getD (e z))else none|none=>none)=_;rw[bD];show(if aM anyF (ks.map λk=>e (w k))=false/\aR anyF (e z)=false then ok ((bJ ks (ks.map λk=>e (w k)) c).getD (e z))else none)=_;rw[if_pos ⟨bW anyF (λk=>he _) ks,he _⟩,kX (λk=>e (w k))];by_cases hc:c∈ks
 ·rw[if_pos hc];rfl
 ·rw[if_neg hc,h hc];rfl
theorem Uw{α:Type}(P:JX Φ)(e:α->D)(he:∀a,aR anyF (e a)=false)(hl:ks.length<1000)(w:aa->α)(c:aa)(v:α):Φ 1033 [.dy .ow ks (ks.map λk=>e (w k)),e v,.tup (ag c)]=ok (.dy .ow (aP ks c) ((aP ks c).map λk=>e (if k=c then v else w k))):=by
 rw[P.JB];show(match intsOf (c.map D.int)with|some c=>if cK .ow=true/\aR anyF (e v)=false/\ks.length<cP then ok (D.dy .ow (aP ks c) (bP ks (ks.map λk=>e (w k)) c (e v)))else none|none=>none)=_;rw[bD];show(if cK .ow=true/\aR anyF (e v)=false/\ks.length<cP then ok (D.dy .ow (aP ks c) (bP ks (ks.map λk=>e (w k)) c (e v)))else none)=_;rw[if_pos ⟨rfl,he _,by show _<1000000;left⟩,Ac (λk=>e (w k))];congr 2;refine aak λj _=>?_;by_cases z:j=c
 ·rw[if_pos z,if_pos z]
 ·rw[if_neg z,if_neg z]
theorem OL(P:JX Φ)(f:Fl)(vs:ab)(h:ks.length<64):Φ 1035 [.dy f ks vs]=ok (.lst .ow ((bH ks).map bK)):=by
 rw[P.JA];show(if ks.length<64 then ok (D.lst .ow ((bH ks).map bK))else none)=_;rw[if_pos h]
noncomputable def lX(ks:af)(w F:aa->Rat):Rat:=(ks.map λk=>w k*F k).sum
noncomputable def fA{α:Type}[Add α](w:aa->α)(c:aa)(x:α):aa->α:=λk=>if k=c then w k+x else w k
theorem nj(a b:ai):(a++b).sum=a.sum+b.sum:=by
 induction a with
 |nil=>simp;grind
 |cons x a ih=>rw[List.cons_append,List.sum_cons,List.sum_cons,ih];grind
theorem yZ(c:aa)(x:Rat)(w F:aa->Rat):∀ks:af,ks.Nodup->c∈ks->lX ks (fA w c x) F=lX ks w F+x*F c
 |[],_,h=>nomatch h
 |k::ks,hn,h=>by
  obtain⟨h1,h2⟩:=List.nodup_cons.mp hn;unfold lX at *;rw[List.map_cons,List.map_cons,List.sum_cons,List.sum_cons];by_cases e:k=c
  ·have:(ks.map λk=>fA w c x k*F k)=ks.map λk=>w k*F k:=aak λj hj=>by
    unfold fA;rw[if_neg λz=>h1 (by rw[e,<- z];exact hj)]
   rw[this];unfold fA;rw[if_pos e,e];grind
  ·have ih:=yZ c x w F ks h2 ((List.mem_cons.mp h).resolve_left λz=>e z.symm);unfold lX at ih;rw[ih];unfold fA;rw[if_neg e];grind
theorem vk{c:aa}{x:Rat}{w:aa->Rat}(F:aa->Rat)(hn:ks.Nodup)(h0:c∉ks->w c=0):lX (aP ks c) (fA w c x) F=lX ks w F+x*F c:=by
 unfold aP;split
 ·rename_i h;exact yZ c x w F ks hn h
 ·rename_i h;unfold lX;rw[List.map_append,nj];have:(ks.map λk=>fA w c x k*F k)=ks.map λk=>w k*F k:=aak λj hj=>by
   unfold fA;rw[if_neg λz=>h (by rw[<- z];exact hj)]
  rw[this];simp only[List.map_cons,List.map_nil,List.sum_cons,List.sum_nil,fA,if_pos,h0 h];grind
structure Tb{α:Type}(z:α)(pos:α->Prop)(ks:af)(w:aa->α):Prop where
 nd:ks.Nodup
 out:∀k,k∉ks->w k=z
 wA:∀k∈ks,pos (w k)
theorem Tb.add{α:Type}[Add α]{z:α}{pos:α->Prop}{w:aa->α}(T:Tb z pos ks w){x:α}(hx:pos (z+x))(hp:∀a,pos a->pos (a+x))(c:aa):Tb z pos (aP ks c) (fA w c x):=by
 refine⟨kP T.nd c,λk hk=>?_,λk hk=>?_⟩
 ·have h:¬ (k∈ks\/k=c):=λz=>hk (cI.mpr z);unfold fA;rw[if_neg λz=>h (.inr z)];exact T.out k λz=>h (.inl z)
 ·unfold fA;by_cases e:k=c
  ·rw[if_pos e];by_cases hc:k∈ks
   ·exact hp _ (T.wA k hc)
   ·rw[T.out k hc];exact hx
  ·rw[if_neg e];exact T.wA k ((cI.mp hk).resolve_right e)
noncomputable def cq(w:aa->Int):aa->Rat:=λk=>(w k:Rat)
theorem EL(w:aa->Int)(c:aa)(x:Int):cq (fA w c x)=fA (cq w) c (x:Rat):=by
 funext k;unfold cq fA;split
 ·rw[Rat.intCast_add]
 ·rfl
def nY(W:Int)(p:aa):aa:=match Dc W p with|some z=>z.2.1|none=>[]
def kM(W:Int)(p:aa):aa:=match Dc W p with|some z=>z.2.2|none=>[]
def po(W cn cd:Int)(w0:aa->Int):af->af->(aa->Int)->af×(aa->Int)
 |[],ks,w=>(ks,w)
 |p::ps,ks,w=>po W cn cd w0 ps (aP (aP ks (nY W p)) (kM W p)) (fA (fA w (nY W p) (w0 p*cn)) (kM W p) (w0 p*(cd - cn)))
structure Wy(n:Nat)(W:Int)(v:aa)(ks:af)(w:aa->Int):Prop where
 tb:Tb (0:Int) (λx=>1<=x) ks w
 ok:∀p∈ks,tV n W p
 vs:∀p∈ks,vals W p=v
theorem yM(W cn cd:Int)(w0:aa->Int)(F:aa->Rat):∀(ps ks:af) (w:aa->Int),Tb (0:Int) (λx=>1<=x) ks w->(∀p∈ps,1<=w0 p)->1<=cn->cn<cd ->
  Tb (0:Int) (λx=>1<=x) (po W cn cd w0 ps ks w).1 (po W cn cd w0 ps ks w).2/\(∀k,k∈(po W cn cd w0 ps ks w).1 ↔ k∈ks\/∃p∈ps,k=nY W p\/k=kM W p)/\(po W cn cd w0 ps ks w).1.length<=ks.length+2*ps.length /\
  lX (po W cn cd w0 ps ks w).1 (cq (po W cn cd w0 ps ks w).2) F=lX ks (cq w) F+(ps.map λp=>(w0 p:Rat)*((cn:Rat)*F (nY W p)+((cd - cn:Int):Rat)*F (kM W p))).sum
 |[],ks,w,T,_,_,_=>by
  refine⟨T,λk=>?_,by simp[po],?_⟩
  ·simp[po]
  ·simp[po];grind
 |p::ps,ks,w,T,h0,h1,h2=>by
  have hp:=h0 p aaf;have a1:1<=w0 p*cn:=by have:=abN hp h1 (by decide) (by left);left
  have a2:1<=w0 p*(cd - cn):=by have:=abN hp (show 1<=cd - cn by left) (by decide) (by left);left
  have T1:=T.add (x:=w0 p*cn) (by left) (λa ha=>by left) (nY W p);have T2:=T1.add (x:=w0 p*(cd - cn)) (by left) (λa ha=>by left) (kM W p);obtain⟨g1,g2,g3,g4⟩:=yM W cn cd w0 F ps _ _ T2 (λq hq=>h0 q (aad _ hq)) h1 h2;refine⟨g1,λk=>?_,?_,?_⟩
  ·rw[po,g2,cI,cI];simp only[List.mem_cons];constructor
   ·rintro (((h|h)|h)|⟨q,hq,h⟩)
    ·exact .inl h
    ·exact .inr ⟨p,.inl rfl,.inl h⟩
    ·exact .inr ⟨p,.inl rfl,.inr h⟩
    ·exact .inr ⟨q,.inr hq,h⟩
   ·rintro (h|⟨q,rfl|hq,h⟩)
    ·exact .inl (.inl (.inl h))
    ·exact .inl (h.elim (λz=>.inl (.inr z)) .inr)
    ·exact .inr ⟨q,hq,h⟩
  ·have l1:=fC ks (nY W p);have l2:=fC (aP ks (nY W p)) (kM W p);rw[po];simp only[List.length_cons];left
  ·rw[po,g4,EL,vk F T1.nd (λh=>by unfold cq;rw[T1.out _ h];rfl),EL,vk F T.nd (λh=>by unfold cq;rw[T.out _ h];rfl),List.map_cons,List.sum_cons,Rat.intCast_mul,Rat.intCast_mul];grind
theorem Wy.step{n:Nat}{v:aa}{w:aa->Int}(I:Wy n W v ks w)(hW:W<=9)(hv:v≠[])(hk:ks≠[]):
  ∃a b r,v=a::b::r/\0<a/\a<W/\0<b/\b<W/\Wy n W (nv W v) (po W (fO W a b).num (fO W a b).den w ks [] λ_=>0).1 (po W (fO W a b).num (fO W a b).den w ks [] λ_=>0).2/\(po W (fO W a b).num (fO W a b).den w ks [] λ_=>0).1≠[]/\(po W (fO W a b).num (fO W a b).den w ks [] λ_=>0).1.length<=2*ks.length /\
   ∀l k,v.length<=k->lX (po W (fO W a b).num (fO W a b).den w ks [] λ_=>0).1 (cq (po W (fO W a b).num (fO W a b).den w ks [] λ_=>0).2) (λp=>Pr W k p l)=((fO W a b).den:Rat)*lX ks (cq w) (λp=>Pr W k p l):=by
 obtain⟨p0,DZ⟩:=List.exists_mem_of_ne_nil ks hk;obtain⟨A0,a,B0,b,C0,T0⟩:=(I.ok p0 DZ).two (by rw[I.vs p0 DZ];exact hv);have ev:=T0.vals;rw[I.vs p0 DZ]at ev;obtain⟨q1,q2,q3,q4⟩:=T0.pq;obtain⟨c0,c1,_⟩:=EN q1 q2 q3 q4 hW;have hn:1<=(fO W a b).num:=by have:=jv c0;left
 have hd:(fO W a b).num<((fO W a b).den:Int):=by
  have h':((fO W a b).num:Rat)<((fO W a b).den:Rat):=by
   rw[uX];have h2:(0:Rat)<((fO W a b).den:Rat):=by exact_mod_cast (fO W a b).den_pos
   have:=Rat.mul_lt_mul_of_pos_right c1 h2
   rwa [Rat.one_mul]at this
  exact_mod_cast h'
 have tw:∀p∈ks,∃A B C,Tw W p A a B b C:=λp hp=>by
  obtain⟨A,a',B,b',C,T⟩:=(I.ok p hp).two (by rw[I.vs p hp];exact hv);have e:=T.vals;rw[I.vs p hp,ev]at e;obtain⟨h1,e'⟩:=abo e;obtain⟨h2,_⟩:=abo e';rw[<- h1,<- h2]at T;exact⟨A,B,C,T⟩
 have J3:∀{p A B C},Tw W p A a B b C->nY W p=A++mW W a b::(B++nA W a b::C)/\kM W p=A++nA W a b::(B++mW W a b::C):=λT=>by
  unfold nY kM;rw[T.Dc];exact⟨rfl,rfl⟩
 have T00:Tb (0:Int) (λx=>1<=x) [] λ_=>0:=⟨aaR,λ_ _=>rfl,λ_ h=>nomatch h⟩
 have M:=λF=>yM W (fO W a b).num (fO W a b).den w F ks [] (λ_=>0) T00 (λp hp=>I.tb.wA p hp) hn hd;obtain⟨m1,m2,m3,_⟩:=M λ_=>0;refine⟨a,b,vals W C0,ev,q1,q2,q3,q4,⟨m1,λk hk=>?_,λk hk=>?_⟩,?_,by simpa using m3,λl k hl=>?_⟩
 ·rcases(m2 k).mp hk with h|⟨p,hp,h⟩
  ·exact nomatch h
  ·obtain⟨A,B,C,T⟩:=tw p hp;obtain⟨e1,e2⟩:=J3 T;rw[e1,e2]at h;rcases h with rfl|rfl
   ·exact T.J3 (I.ok p hp)
   ·exact T.LK (I.ok p hp)
 ·rcases(m2 k).mp hk with h|⟨p,hp,h⟩
  ·exact nomatch h
  ·obtain⟨A,B,C,T⟩:=tw p hp;obtain⟨e1,e2⟩:=J3 T;obtain⟨v1,v2⟩:=T.J6;rw[I.vs p hp]at v1 v2;rw[e1,e2]at h;rcases h with rfl|rfl
   ·exact v1
   ·exact v2
 ·intro z;have:=(m2 (nY W p0)).mpr (.inr ⟨p0,DZ,.inl rfl⟩);rw[z]at this;exact nomatch this
 ·obtain⟨_,_,_,m4⟩:=M λp=>Pr W k p l;rw[m4];unfold lX;rw[List.map_nil,List.sum_nil,Rat.zero_add];have:∀qs:af,(∀p∈qs,p∈ks)->(qs.map λp=>(w p:Rat)*(((fO W a b).num:Rat)*Pr W k (nY W p) l+(((fO W a b).den - (fO W a b).num:Int):Rat)*Pr W k (kM W p) l)).sum=((fO W a b).den:Rat)*(qs.map λp=>cq w p*Pr W k p l).sum:=λqs=>by
   induction qs with
   |nil=>intro _;simp
   |cons p qs ih =>
    intro h;rw[List.map_cons,List.map_cons,List.sum_cons,List.sum_cons,ih λq hq=>h q (List.mem_cons_of_mem _ hq)];have hp:=h p aaf;obtain⟨A,B,C,T⟩:=tw p hp;obtain⟨e1,e2⟩:=J3 T;rw[e1,e2,Iy l (k:=k) (I.ok p hp) T (by rw[I.vs p hp];exact hl)];have en:((fO W a b).num:Rat)=fO W a b*((fO W a b).den:Rat):=uX _;rw[Rat.intCast_sub,Rat.intCast_natCast,en];unfold cq;grind
  exact this ks λ_ h=>h
theorem Tw.d1{a b:Int}{p B:aa}(T:Tw W p A a B b C):tJ (ag p) (A.length:Int)=ok (.int a):=by rw[T.eq];exact vx A a _
theorem Tw.d2{a b:Int}{p B:aa}(T:Tw W p A a B b C):tJ (ag p) ((A.length+1+B.length:Nat):Int)=ok (.int b):=by
 rw[T.eq];have e:A++a::(B++b::C)=(A++a::B)++b::C:=by simp
 have:=vx (A++a::B) b C;rw[e,show A.length+1+B.length=(A++a::B).length by simp;left];exact this
noncomputable def om(f:Fl)(ks:af)(w:aa->Int):D:=.dy f ks (ks.map λk=>.int (w k))
theorem sD(g:Fl->Fl)(f:Fl)(ks:af)(w:aa->Int):aS g (om f ks w)=om (g f) ks w:=by
 show D.dy (g f) ks (aA g (ks.map λk=>.int (w k)))=_;rw[cv g (λk=>vn g _)];rfl
theorem Hz(g:Fl->Bool)(f:Fl)(ks:af)(w:aa->Int):aR g (om f ks w)=g f:=by
 show(g f||aM g (ks.map λk=>.int (w k)))=_;rw[bW g (λk=>kU g _),Bool.or_false]
theorem I9(a:Int):aR anyF (D.int a)=false:=rfl
theorem BY(P:JX Φ)(hl:ks.length<1000)(w:aa->Int)(c:aa)(x:Int):Φ 1033 [om .ow ks w,.int (w c+x),.tup (ag c)]=ok (om .ow (aP ks c) (fA w c x)):=by
 have:=Uw P (e:=D.int) I9 hl w c (w c+x);unfold om;rw[this];congr 2;refine aak λk _=>?_;unfold fA;by_cases h:k=c
 ·rw[if_pos h,if_pos h,h]
 ·rw[if_neg h,if_neg h]
noncomputable def EC:CE:=.comp 1 (.nm 0) [1,2] .seq [(.cz 1035 [(.v 1)])] [(.cmp .gt (.cz 1032 [(.v 1),(.v 0)]) (.int 0))] (.tup [(.call 2 [(.cz 1032 [(.v 1),(.v 0)]),(.v 2)]),(.v 0)])
def zY:ah:=[.ret (.tup [(.v 0),EC])]
def xO(cs:af)(ws:aa)(b:Int):aH:=((bH cs).filter λc=>decide (0<gZ cs ws c)).map λc=>(Rat.divInt (gZ cs ws c) b,c)
def JU(m:av):Prop:=∀f (n:Int) (cs:af) (ws:aa) (b:Int),cs.length=ws.length->cs.length<64->b≠0->b.natAbs<2 ^ 9000->m [.int n,.dy f cs (ag ws),.int b]=ok (.tup [.int n,.lst .ow (cf (xO cs ws b))])
theorem Ph(Φ:aT)(P:JX Φ)(h2:bO (Φ 2)):JU (mk Φ 3 3 zY):=by
 intro f n cs ws b hl uc hb qm;have hp:(bH cs).Perm cs:=aaJ _ _;have e1:bp Φ EC [some (.int n),some (.dy f cs (ag ws)),some (.int b)]=ok (.lst .ow (cf (xO cs ws b))):=by
  unfold EC;rw[cM (xs:=[.lst .ow ((bH cs).map bK)]) (items:=(bH cs).map bK) (ds:=cf (xO cs ws b)) (by simp[OL P _ _ uc]) (by rw[eH,my]) ?_ (by
   have:=List.length_filter_le (λc=>decide (0<gZ cs ws c)) (bH cs);have nC:=hp.length_eq;rw[Gx];unfold xO;rw[List.length_map];exact bZ (by left))]
  ·rw[oK]
  ·unfold cf xO;rw[List.map_map];refine i9 λc hc=>?_;have wD:c∈cs:=hp.mem_iff.mp hc;have d1:=λf=>R5 P f hl wD;have f1:=h2.1 (gZ cs ws c) b hb qm;have m1:aS bo (bK c)=.tup (ag c):=by show D.tup (aA bo (c.map D.int))=_;rw[oO];rfl
   refine⟨[some (bK c),some (.dy (aW f) cs (ag ws)),some (.int b)],by simp[bG],by simp[m1,d1],λ_=>?_⟩;simp[m1,d1,f1];rfl
 simp[mk_eq,zY,e1]
noncomputable def lv(u:Nat):Nat:=2 ^ (u - 1)
structure Pg(n:Nat)(W:Int)(p0 v:aa)(ks:af)(w:aa->Int)(bt:Int):Prop where
 wy:Wy n W v ks w
 ne:ks≠[]
 Bw:ks.length*lv v.length<=32
 b1:1<=bt
 b2:bt*32 ^ v.length<=2 ^ 60
 vl:v.length<=12
 ma:∀l,lX ks (cq w) (λp=>Pr W 12 p l)=(bt:Rat)*Pr W 12 p0 l
theorem Pg.next{n:Nat}{p0 v:aa}{w:aa->Int}{bt:Int}(I:Pg n W p0 v ks w bt)(hW:W<=9)(hv:v≠[]):∃a b r,v=a::b::r/\Sm 5 (fO W a b)/\(nv W v).length<v.length/\Pg n W p0 (nv W v) (po W (fO W a b).num (fO W a b).den w ks [] λ_=>0).1 (po W (fO W a b).num (fO W a b).den w ks [] λ_=>0).2 (bt*(fO W a b).den):=by
 obtain⟨a,b,r,ev,q1,q2,q3,q4,g1,g2,g3,g4⟩:=I.wy.step hW hv I.ne;obtain⟨_,_,sm⟩:=EN q1 q2 q3 q4 hW;have hd1:=(fO W a b).den_pos;have hd2:=sm.2;have Wu:=xl W a b r;have Fw:v.length=r.length+2:=by rw[ev];rfl
 refine⟨a,b,r,ev,sm,by rw[ev]at *;simp only[List.length_cons]at *;left,g1,g2,?_,?_,?_,?_,λl=>?_⟩
 ·have f:=I.Bw;have e1:lv v.length=2*2 ^ r.length:=by unfold lv;rw[Fw,show r.length+2 - 1=r.length+1 by left,Nat.pow_succ,Nat.mul_comm]
  have e2:lv (nv W v).length<=2 ^ r.length:=by
   unfold lv;refine aam (by decide) ?_;rw[ev];left
  rw[e1]at f;refine aau (aaA g3 e2) ?_;rw[Nat.mul_comm 2,Nat.mul_assoc];exact f
 ·have:=abN I.b1 (show(1:Int)<=((fO W a b).den:Int) by left) (by decide) (by have:=I.b1;left);left
 ·have b1:=I.b1;have b2:=I.b2;have e1:(32:Int) ^ (nv W v).length<=32 ^ (r.length+1):=by
   have:32 ^ (nv W v).length<=32 ^ (r.length+1):=aam (by decide) (by rw[ev];exact Wu)
   exact_mod_cast this
  rw[Fw,Int.pow_succ]at b2;have h1:bt*((fO W a b).den:Int)<=bt*32:=Int.mul_le_mul_of_nonneg_left (by left) (by left);have h2:bt*((fO W a b).den:Int)*32 ^ (nv W v).length<=(bt*32)*32 ^ (r.length+1):=abN h1 e1 (Int.le_of_lt (Int.pow_pos (by decide))) (by left);refine Int.le_trans h2 ?_;rw[Int.mul_assoc,Int.mul_comm 32];exact b2
 ·have:=I.vl;rw[Fw]at this;rw[ev];left
 ·rw[g4 l 12 I.vl,I.ma l,Rat.intCast_mul,Rat.intCast_natCast];grind
end DI
end
section
namespace DI
open PySem PySem.Spec PyProof.Rows L2
section
variable {prog:aF}{w:World}{A:aE}{E:az}{s:Shared}
def lr(prog:aF)(w:World)(h:Heap)(k:aa)(a:Addr):Prop:=∃(o:Obj) (items:aK) (n:Nat) (b:Addr) (i:Int) (t:Tok) (lot:aa),h.get? a=some o/\o.cls=.type "tuple" /\ o.data=.seq items n/\items.toList=[.ref b,.int i t]/\k=i::lot/\IsTupleKey (intKind prog w) h lot b
theorem lr.inj{h:Heap}{a:Addr}{x y:aa}(hx:lr prog w h x a)(hy:lr prog w h y a):x=y:=by
 obtain⟨o,aI,n,b,i,t,lot,h1,_,h3,h4,rfl,h5⟩:=hx;obtain⟨o',its',n',b',i',t',Dz,g1,_,g3,g4,rfl,g5⟩:=hy;obtain rfl:o=o':=aat (h1.symm.trans g1);rw[h3]at g3;cases g3;rw[h4]at g4;cases g4;rw[h5.inj g5]
theorem lr.keeps{h h':Heap}{k:aa}{a d:Addr}{o:Obj}{es:Array DictEntry}{ep:Nat}(x:lr prog w h k a)(ho:h.get? d=some o)(hd:o.data=.dict es ep)(hs:Heap.SameBut d h h'):lr prog w h' k a:=by
 obtain⟨o',aI,n,b,i,t,lot,h1,h2,h3,h4,rfl,h5⟩:=x;have Bu:a≠d:=by
  rintro rfl;obtain rfl:o'=o:=aat (h1.symm.trans ho);rw[hd]at h3;exact nomatch h3
 exact⟨o',aI,n,b,i,t,lot,(hs.2 a Bu).trans h1,h2,h3,h4,rfl,h5.keeps ho hd hs⟩
theorem GD{n:Nat}{ks:aa}{a:Addr}{Q:Bool->Shared->Prop}(hk:IsTupleKey (intKind prog w) s.heap ks a)(h:Q true s):wpAny (model prog w) A (eqIsQuiet (n+1) (.ref a)) Q E s:=by
 have hT:=hk.typeIs;obtain⟨o,items,n,ho,_,hd,hi⟩:=hk;unfold eqIsQuiet;refine aaa (abp hT F.slot_tuple_eq.lookup ?_);show wpAny _ _ (isInstance (.ref a) (.type "tuple") >>= _) _ _ s;refine aaa (abk hT ab2 ?_);simp only[Bool.not_true,Bool.false_eq_true,if_false];refine aaa (aaM ho hd ?_);refine aaa ?_;show wpAny _ _ (forIn items _ _) _ _ s;rw[<- Array.forIn_toList];refine abY _ (λrest r s'=>r.1=none/\s'=s/\∀v∈rest,carriedByValue v=true) _ ?_ ?_ _ _ ⟨rfl,rfl,hi.byValue⟩
 ·rintro v rest r s' ⟨hr,rfl,xH⟩;rw[eqIsQuiet_byValue _ (xH v List.mem_cons_self)];refine aaa (aac ?_);simp only[Bool.not_true,Bool.false_eq_true,if_false];exact aac ⟨rfl,rfl,λu zk=>xH u (aad _ zk)⟩
 ·rintro ⟨r1,r2⟩ s' ⟨hr,rfl,_⟩;simp only at hr;subst hr;exact aac h
theorem CD{k:aa}{a:Addr}{Q:Bool->Shared->Prop}(hk:lr prog w s.heap k a)(h:Q true s):wpAny (model prog w) A (eqIsQuiet 8 (.ref a)) Q E s:=by
 obtain⟨o,items,n,b,i,t,lot,ho,hc,hd,hi,rfl,hb⟩:=hk;have hT:s.TypeIs (.ref a) "tuple":=⟨o,ho,hc⟩
 unfold eqIsQuiet;refine aaa (abp hT F.slot_tuple_eq.lookup ?_);show wpAny _ _ (isInstance (.ref a) (.type "tuple") >>= _) _ _ s;refine aaa (abk hT ab2 ?_);simp only[Bool.not_true,Bool.false_eq_true,if_false];refine aaa (aaM ho hd ?_);refine aaa ?_;show wpAny _ _ (forIn items _ _) _ _ s;rw[<- Array.forIn_toList];refine abY _ (λrest r s'=>r.1=none/\s'=s/\∀v∈rest,v=.ref b\/v=.int i t) _ ?_ ?_ _ _ ⟨rfl,rfl,λv hv=>by rw[hi]at hv;simpa using hv⟩
 ·rintro v rest r s' ⟨hr,rfl,xH⟩;refine aaa (show wpAny (model prog w) A (eqIsQuiet 7 v) _ E s' from ?_);have fin:wpAny (model prog w) A (eqIsQuiet 7 v) (λq s1=>q=true/\s1=s') E s':=by
   rcases xH v aaf with rfl|rfl
   ·exact GD (n:=6) hb ⟨rfl,rfl⟩
   ·rw[eqIsQuiet_byValue _ rfl];exact aac ⟨rfl,rfl⟩
  refine aay fin (λq s1 bR=>?_) λ_ _ e=>e;obtain⟨e1,e2⟩:=bR;subst e1 e2;simp only[Bool.not_true,Bool.false_eq_true,if_false];exact aac ⟨rfl,rfl,λu zk=>xH u (aad _ zk)⟩
 ·rintro ⟨r1,r2⟩ s' ⟨hr,rfl,_⟩;simp only at hr;subst hr;exact aac h
theorem Hy{k:aa}{a:Addr}{Q:Int->Shared->Prop}(hu:A.units+1<cLine)(hk:lr prog w s.heap k a)(h:Q (so k) { s with toks:=s.toks+(k.length+2) }):wpAny (model prog w) A (pyHash (.ref a)) Q E s:=by
 obtain⟨o,items,n,b,i,t,lot,ho,hc,hd,hi,rfl,hb⟩:=hk;have hT:s.TypeIs (.ref a) "tuple":=⟨o,ho,hc⟩
 unfold pyHash
 first|unfold pyHashByItsType|skip
 first|refine aaa (wpAny_cRoomFor_or (.inr (by left)) ?_)|skip
 refine aaa (abp hT F.slot_tuple_hash.lookup ?_);show wpAny _ _ (if (some (Value.builtin "tuple.__hash__")==some Value.none)=true then _ else _) Q E s;rw[if_neg (by rw[beq_builtin_none];exact Bool.false_ne_true)];refine aaa (abp hT F.slot_tuple_hash.lookup ?_);show wpAny _ _ (callSpecialIfBoundUnlessNone? (.ref a) "__hash__" _ >>= _) Q E s;refine aaa (wpAny_callSpecialIfBoundUnlessNone?_slot hT F.slot_tuple_hash (aaE F.slot_tuple_hash hT F.entry_tuple_hash ?_ (F.args_tuple_hash_1 _)));show wpAny _ _ (Builtin.Tuple.tupleItemsOf (.ref a) >>= _) _ _ s;refine aaa (acp ho hd ?_);refine aaa ?_;rw[<- Array.forIn_toList,hi];have h1:reduceHash (Builtin.Tuple.tupleHashOf (lot.map hashInt))=(tupleKind (intKind prog w)).hash lot:=rfl;refine abY _
  (λrest (z:Array Int) s'=>(rest=[.ref b,.int i t]/\z.toList=[]/\s'=s)\/(rest=[.int i t]/\z.toList=[(tupleKind (intKind prog w)).hash lot]/\s'={ s with toks:=s.toks+(lot.length+1) })\/(rest=[]/\z.toList=[(tupleKind (intKind prog w)).hash lot,hashInt i]/\s'={ s with toks:=s.toks+(lot.length+1)+1 }))
  _ ?_ ?_ _ _ (.inl ⟨rfl,rfl,rfl⟩)
 ·rintro x rest z s' (⟨hr,hz,rfl⟩|⟨hr,hz,rfl⟩|⟨hr,_⟩)
  ·cases hr;refine aaa ((tupleKind (intKind prog w)).pyHash (by first|exact hu | (show _<_;left)) hb ?_)
   first
    |exact aac (.inr (.inl ⟨rfl,by simp[hz],rfl⟩))
    |exact aaa (aac (aac (.inr (.inl ⟨rfl,by simp[hz],rfl⟩))))
  ·cases hr;refine aaa (wpAny_pyHash_int ?_)
   first
    |exact aac (.inr (.inr ⟨rfl,by simp[hz],rfl⟩))
    |exact aaa (aac (aac (.inr (.inr ⟨rfl,by simp[hz],rfl⟩))))
  ·cases hr
 ·rintro z s' (⟨hr,_⟩|⟨hr,_⟩|⟨_,hz,rfl⟩)
  ·cases hr
  ·cases hr
  show wpAny _ _ (retInt (Builtin.Tuple.tupleHashOf z.toList)) _ _ _;rw[hz];refine wpAny_ret_mkInt ?_;have he:so (i::lot)=reduceHash (Builtin.Tuple.tupleHashOf [(tupleKind (intKind prog w)).hash lot,hashInt i]):=rfl;rw[he]at h;generalize Builtin.Tuple.tupleHashOf [(tupleKind (intKind prog w)).hash lot,hashInt i]=V at h ⊢;show wpAny _ _ (if (decide (-(2:Int) ^ 63<=V)&&decide (V<2 ^ 63))=true then _ else _) Q E _;unfold reduceHash at h;have e:s.toks+(lot.length+1)+1+1=s.toks+((i::lot).length+2):=by rw[List.length_cons];left
  by_cases hr:(decide (-(2:Int) ^ 63<=V)&&decide (V<2 ^ 63))=true
  ·rw[if_pos hr];rw[if_pos hr]at h;exact aac (by simpa [e]using h)
  ·rw[if_neg hr];rw[if_neg hr]at h;exact aaa (abg (aac (by simpa [e]using h)))
theorem xK{x y:aa}{a b:Addr}{P:Fin->Shared->Prop}(hu:A.units<cLine)(hx:lr prog w s.heap x a)(hy:lr prog w s.heap y b)(h:P (.done (.ret (.bool (decide (x=y))))) s):
  wpAny (model prog w) A (Builtin.«tuple.__eq__» ⟨[.ref a,.ref b],[]⟩) P E s:=by
 obtain⟨oa,xs,na,a1,i,t,lot,hoa,hca,hda,Q3,rfl,ha⟩:=hx;obtain⟨ob,ys,nb,b1,j,u,Dz,YV,hcb,Mn,Y2,rfl,hb⟩:=hy;have hTb:s.TypeIs (.ref b) "tuple":=⟨ob,YV,hcb⟩
 show wpAny _ _ (isInstance (.ref b) (.type "tuple") >>= _) _ _ s;refine aaa (abk hTb ab2 ?_);simp only[Bool.not_true,Bool.false_eq_true,if_false];refine aaa (acp hoa hda ?_);refine aaa (acp YV Mn ?_);refine aaa ?_;have hsz:(xs.size==ys.size)=true:=by
  rw[<- Array.length_toList,<- Array.length_toList,Q3,Y2];rfl
 rw[Q3,Y2];refine abY _
  (λrest r s'=>r.1=none/\s'=s/\((rest=[(.ref a1,.ref b1),(.int i t,.int j u)])\/(rest=[(.int i t,.int j u)]/\lot=Dz)\/(rest=[]/\lot=Dz/\i=j)))
  _ ?_ ?_ _ _ ⟨rfl,rfl,.inl rfl⟩
 ·rintro ⟨p,q⟩ rest r s' ⟨hr,rfl,(z|⟨z,rfl⟩|⟨z,_⟩)⟩
  ·cases z;refine aaa ((tupleKind (intKind prog w)).eqBool hu ha hb ?_);by_cases hk:lot=Dz
   ·rw[decide_eq_true hk];simp only[Bool.not_true,Bool.false_eq_true,if_false];exact aac ⟨by first|rfl|trivial,by first|rfl|trivial,by simp[hk]⟩
   ·rw[decide_eq_false hk];simp only[Bool.not_false,if_true];have hf:decide (i::lot=j::Dz)=false:=by simp[hk]
    rw[hf]at h;exact aaa (aac (aac (aac h)))
  ·cases z;refine aaa (wpAny_eqBool_int ?_);by_cases hk:i=j
   ·rw[show(i==j)=true from beq_iff_eq.mpr hk];simp only[Bool.not_true,Bool.false_eq_true,if_false];exact aac ⟨by first|rfl|trivial,by first|rfl|trivial,by simp[hk]⟩
   ·rw[show(i==j)=false from beq_eq_false_iff_ne.mpr hk];simp only[Bool.not_false,if_true];have hf:decide (i::lot=j::lot)=false:=by simp[hk]
    rw[hf]at h;exact aaa (aac (aac (aac h)))
  ·cases z
 ·rintro ⟨r1,r2⟩ s' ⟨hr,rfl,(z|⟨z,_⟩|⟨_,rfl,rfl⟩)⟩
  ·cases z
  ·cases z
  simp only at hr;subst hr;refine aac ?_;show P (.done (.ret (.bool (xs.size==ys.size)))) s';rw[hsz];rw[decide_eq_true rfl]at h;exact h
theorem RT{x y:aa}{a b:Addr}{Q:Bool->Shared->Prop}(hu:A.units+1<cLine)(hx:lr prog w s.heap x a)(hy:lr prog w s.heap y b)(h:Q (decide (x=y)) s):
  wpAny (model prog w) A (eqBool (.ref a) (.ref b)) Q E s:=by
 have ta:s.TypeIs (.ref a) "tuple":=by obtain⟨o,_,_,_,_,_,_,h1,h2,_⟩:=hx;exact⟨o,h1,h2⟩
 have tb:s.TypeIs (.ref b) "tuple":=by obtain⟨o,_,_,_,_,_,_,h1,h2,_⟩:=hy;exact⟨o,h1,h2⟩
 unfold eqBool
 try with_reducible refine aaL ?_
 show wpAny _ _ (if (Value.ref a==Value.ref b)=true then _ else _) Q E s;by_cases sP:(Value.ref a==Value.ref b)=true
 ·rw[if_pos sP];have e:a=b:=by have:=eq_of_beq sP;injection this
  subst e;obtain rfl:=hx.inj hy;exact aaa (abg (aac (by simpa using h)))
 ·rw[if_neg sP];exact aaa (wpAny_richCompare_same_room (op:=.Eq) ta tb F.slot_tuple_eq
   (aaE F.slot_tuple_eq ta F.entry_tuple_eq (xK (by first|exact hu | (show _<_;left)) hx hy ⟨_,rfl,(λe=>nomatch e),aa1 h⟩) (F.args_tuple_eq_2 _ _)) (by left))
end
def iT(prog:aF)(w:World):HeapKind prog w (aa) where
 is:=lr prog w
 hash:=so
 draws:=λks=>ks.length+2
 room:=λA=>A.units+1<cLine
 inj:=λhx hy=>hx.inj hy
 keeps:=λx ho hd hs=>x.keeps ho hd hs
 pyHash:=λhu hk h=>Hy hu hk h
 eqBool:=λhu hx hy h=>RT hu hx hy h
 quiet:=λhk h=>CD hk h
variable {Q:Value->Shared->Prop}
section
variable {prog:aF}{w:World}{K:Type}[DecidableEq K]{knd:HeapKind prog w K}{A:aE}{E:az}{s:Shared}
theorem uH{d a:Addr}{xs:List (K×Addr×Value)}{k:K}{v:Value}(hu:knd.room A)(D4:knd.is s.heap k a)(hm:s.heap.DictOfH knd d xs)
  (h1:∀p,atKey xs k=some p->Q p.2 { s with toks:=s.toks+knd.draws k })
  (h2:atKey xs k=none->∀h',h'.DictOfH knd d (storedH xs k a v)->Heap.SameBut d s.heap h'->Q v { s with heap:=h',toks:=s.toks+knd.draws k })
  (hsz:xs.length<=sizeLine):wpAny (model prog w) A (dictSetDefault d (.ref a) v) Q E s:=by
 obtain⟨o,es,ep,ho,hc,hd,he,Y0,hn⟩:=hm;unfold dictSetDefault
 try with_reducible refine aaL ?_
 refine aaa (knd.pyHash hu D4 ?_);refine aaa (wpAny_dictFind_heap (s:={ s with toks:=s.toks+knd.draws k }) hu D4 ho hd he Y0 hn ?_ ?_)
 ·intro Fy;have Ws:k∉xs.map (·.1):=not_mem_keys_of_get Fy;have h2:=h2 (atKey_none_of_get Fy);refine aaa (abg (aaa (wpAny_updateDictKeys (hz:=by have e:=size_of_entries he;left) (s:={ s with toks:=s.toks+knd.draws k }) ho hd (aac (h2 _ ⟨_,_,ep+1,aaZ _ ho (Obj.isFreed_of_dict (Obj.data_mapDictKeys hd _)),
   hc.mapDictKeys _,Obj.data_mapDictKeys hd _,?_,?_,?_⟩ (aaX ..))))))
  ·rw[storedH_new (atKey_none_of_get Fy)];simp[he,entryOfKey]
  ·rw[storedH_new (atKey_none_of_get Fy)];intro x hx;rcases List.mem_append.mp hx with hx|hx
   ·exact knd.keeps (Y0 x hx) ho hd (aaX ..)
   ·simp only[List.mem_singleton]at hx;subst hx;exact knd.keeps D4 ho hd (aaX ..)
  ·rw[storedH_new (atKey_none_of_get Fy)];rw[List.map_append,List.nodup_append];refine⟨hn,by simp,?_⟩;intro x hx y hy;simp only[List.map_cons,List.map_nil,List.mem_singleton]at hy;subst hy;exact λe=>Ws (e▸hx)
 ·intro j p hj;refine aaa (abQ (s:={ s with toks:=s.toks+knd.draws k }) ho hd ?_);rw[entry_at he j,hj];exact aaa (abg (aac (h1 p (atKey_of_get hn hj))))
theorem r9(d a:Addr)(hd:(d==sysModules)=false)(v:Value):
  MeetsIn prog w (Builtin.«dict.setdefault» ⟨[.ref d,.ref a,v],[]⟩) (λA R s=>knd.room A.in1/\∃k xs,knd.is s.heap k a/\s.heap.DictOfH knd d xs/\xs.length<=sizeLine /\
   (∀p,atKey xs k=some p->R (.ok (.ret p.2)) { s with toks:=s.toks+knd.draws k }) /\
   (atKey xs k=none->∀h',h'.DictOfH knd d (storedH xs k a v)->Heap.SameBut d s.heap h'->R (.ok (.ret v)) { s with heap:=h',toks:=s.toks+knd.draws k })) :=
 .of_wp λA R s bR=>by
  obtain⟨hu,k,xs,D4,hm,hz,h1,h2⟩:=bR;unfold Builtin.«dict.setdefault»;refine aaa ?_;unfold Builtin.Dict.keyAndDefault;refine aaa (wpAny_notOrdered_dict hm.typeIs ?_);show wpAny _ _ (pure (d,Value.ref a,some v)) _ _ s;refine aac ?_;show wpAny _ _ (if (d==sysModules)=true then _ else(dictSetDefault d (.ref a) v >>= _)) _ _ s;rw[if_neg (by rw[hd];exact Bool.false_ne_true)];exact aaa (uH hu D4 hm (λp hp=>aac ⟨p.2,rfl,h1 p hp⟩) (λhn h' hm' Hs=>aac ⟨v,rfl,h2 hn h' hm' Hs⟩) hz)
end
variable {pos:Pos}
section
variable {X:Cx}{pins:ak}{σ:St}{H:Hp}{s:Shared}{p b:Addr}{cs:af}{as:aO}{xs:ae}{ep:Nat}{c:aa}{A:aE}{E:az}
theorem sJ(I:Inv X pins σ H s)(h:pS (aU X.K H) b c):lr X.prog X.w s.heap c b:=by
 obtain⟨i,lot,b',rfl,h1,h2⟩:=h;obtain⟨aI,rv,⟨o,g1,g2,n,g3⟩,_⟩:=I.tuple h1;have hk:=oV I h2;obtain⟨w1,w2,rfl,r1,r2⟩:=vals2 rv;cases r1;obtain⟨t,rfl⟩:=r2;exact⟨o,_,n,b',i,t,lot,g1,g2,g3,by simp,rfl,hk⟩
theorem va(I:Inv X pins σ H s)(h:H p=some (.ext (PJ p cs as xs ep)))(k:gK (aU X.K H) as cs):
  ∃(zs:List (aa×Addr×Value)) (o:Obj) (es:Array DictEntry),zs.map (·.1)=cs/\zs.map (·.2.1)=as/\Vals xs (zs.map (·.2.2))/\s.heap.get? p=some o/\o.ExactDict/\o.data=.dict es ep /\
   s.heap.DictOfH (iT X.prog X.w) p zs/\cs.length<=sizeLine/\(p==sysModules)=false:=by
 obtain⟨⟨zs,o,es,e1,e2,e3,ho,hx,hd,he,hn,hl,hs⟩,_⟩:=(show cy X.prog X.w H s.heap p (.ext (PJ p cs as xs ep)) from I.cV p _ h)
 refine⟨zs,o,es,e1,e2,e3,ho,hx,hd,⟨o,es,ep,ho,hx,hd,he,λz hz=>?_,by rw[e1];exact hn⟩,hl,hs⟩;obtain⟨j,hj⟩:=List.mem_iff_getElem?.mp hz;exact sJ I (k.key j z.2.1 z.1 (by rw[<- e2,List.getElem?_map,hj];rfl) (by rw[<- e1,List.getElem?_map,hj];rfl))
theorem Av(I:Inv X pins σ H s)(h:H p=some (.ext (PJ p cs as xs ep))):s.TypeIs (.ref p) "dict" /\ ∀b,Value.ref p=.ref b->∃ob,s.heap.get? b=some ob/\ob.dict=none:=by
 obtain⟨⟨zs,o,es,e1,e2,e3,ho,hx,_⟩,_⟩:=(show cy X.prog X.w H s.heap p (.ext (PJ p cs as xs ep)) from I.cV p _ h)
 exact⟨⟨o,ho,hx.1⟩,λb q=>by cases q;exact⟨o,ho,hx.2.1⟩⟩
theorem CL{r:Value}{v:V}{h':Heap}{t:Nat}{zs:List (aa×Addr×Value)}(I:Inv X pins σ H s)(h:H p=some (.ext (PJ p cs as xs ep)))(e1:zs.map (·.1)=cs)(e2:zs.map (·.2.1)=as)(e3:Vals xs (zs.map (·.2.2)))(hl:cs.length<sizeLine)(hs:(p==sysModules)=false)(rv:RelV v r)
  (dd:h'.DictOfH (iT X.prog X.w) p (storedH zs c b r)) (sb:Heap.SameBut p s.heap h'):∃kZ,Inv X pins σ (upd H p (.ext (PJ p (aP cs c) (j5 cs as c b) (bP cs xs c v) kZ))) { s with heap:=h',toks:=t }:=by
 obtain⟨q,JK,kZ,hq,h2,h3,h4,_,h5⟩:=dd;refine⟨kZ,I.write (x:=p) (e:=p) (by rw[h];exact True.intro) (.inl rfl) (λb q hb z=>(sb.2 b hb).trans z) ⟨q,hq⟩ ⟨⟨storedH zs c b r,q,JK,?_,?_,?_,hq,h2,h3,h4,?_,?_,hs⟩,⟨q,hq⟩,?_⟩⟩
 ·rw[fT,e1]
 ·rw[mr,e1,e2]
 ·rw[mq,e1];exact uh e3 rv
 ·rw[<- e1,<- fT (zs:=zs) (c:=c) b r];exact h5
 ·unfold aP;split
  ·left
  ·rw[List.length_append,List.length_singleton];left
 ·rintro h1 W6 ⟨IE,o',es'',f1,f2,f3,f4,f5⟩ kk;exact⟨IE,o',es'',f1,f2,f3,kk _ f4,f5⟩
theorem A9{z:V}{r:Value}(hu:A.units+2<cLine)(I:Inv X pins σ H s)(h:H p=some (.ext (PJ p cs as xs ep)))(k:gK (aU X.K H) as cs)(hb:pS (aU X.K H) b c)(rz:RelV z r)(gM:cs.length<sizeLine)
  (h1:∀v w' s',bJ cs xs c=some v->Inv X pins σ H s'->RelV v w'->Q w' s')
  (h2:c∉cs->∀kZ s',Inv X pins σ (upd H p (.ext (PJ p (aP cs c) (j5 cs as c b) (bP cs xs c z) kZ))) s'->Q r s') :
  wpAny (model X.prog X.w) A (call (.builtin "dict.setdefault") [.ref p,.ref b,r]) Q E s:=by
 obtain⟨zs,o,es,e1,e2,e3,ho,hx,hd,dd,hl,hs⟩:=va I h k;have hz:zs.length<=sizeLine:=by rw[<- e1,List.length_map]at hl;exact hl
 refine call_meetsIn PySem.F.slot_dict_setdefault dd.typeIs PySem.F.entry_dict_setdefault (PySem.F.args_dict_setdefault_3 _ _ _) (r9 (knd:=iT X.prog X.w) p b hs r) ⟨(show _+1<cLine by first|exact hu | (show A.units+1+1<cLine;left)),c,zs,sJ I hb,dd,hz,λq hq=>?_,λhn h' Xx sb=>?_⟩
 ·have hg:=iM (cs:=cs) e3 c;have:(atKey zs c).map (·.2)=bJ cs (zs.map (·.2.2)) c:=by rw[gI,e1]
  rw[hq]at this;rw[<- this]at hg;cases q2:bJ cs xs c with
  |none=>rw[q2]at hg;exact hg.elim
  |some v=>rw[q2]at hg;exact h1 v _ _ q2 (I.tok _) hg
 ·have Wx:c∉cs:=λhc=>by
   have:=(dR zs c).mpr (by rw[e1];exact hc);rw[hn]at this;cases this
  obtain⟨kZ,I'⟩:=CL (t:=s.toks+(iT X.prog X.w).draws c) I h e1 e2 e3 gM hs rz Xx sb;exact h2 Wx kZ _ I'
theorem GP:PE X (.Dict [] [] pos) (λ_ H Q=>∀p,H p=none->Q (.ref p) (upd H p (.ext (PJ p [] [] [] 0)))):=λpins s σ H Q I h=>by
 have Mq:sysModules<s.heap.objs.size:=aby (by decide) (show mainGlobals<s.heap.objs.size from(I.mod.glob.keeps I.bk).lt);refine wpAny_Dict_empty ⟨.ref s.heap.objs.size,_,I.laid (a:=s.heap.objs.size) (o:=.ext (PJ s.heap.objs.size [] [] [] 0)) (t':=s.toks) (λ_ _ q=>aai _ q) (aal _) ?_,rfl,h _ (I.cV.fresh (aal _))⟩;have hg:(s.heap.push { cls:=.type "dict",data:=.dict #[] }).get? s.heap.objs.size=some { cls:=.type "dict",data:=.dict #[] }:=aap _ rfl;refine⟨⟨[],_,#[],rfl,rfl,.nil,hg,⟨rfl,rfl,rfl⟩,rfl,rfl,aaR,aaK _,beq_eq_false_iff_ne.mpr (aaD (aan Mq))⟩,⟨_,hg⟩,?_⟩;rintro h1 W6 ⟨IE,o',es'',f1,f2,f3,f4,f5⟩ kk;exact⟨IE,o',es'',f1,f2,f3,kk _ f4,f5⟩
end
variable {X:Cx}
theorem K8{x:Str}{p p1 p2:Pos}{a b:Expr}{td:TE}{ta:TA}(hu:X.A.units+2<cLine)(ho:PE X (.Name x p) td)(ha:PA X [a,b] ta)(s1:∀es,starEach (a::es) X.env=(false,eval a X.env)::starEach es X.env)(s2:∀es,starEach (b::es) X.env=(false,eval b X.env)::starEach es X.env)(hl:(p1.endLine==p2.line)=true):
  PE X (.Call (.Attribute (.Name x p) ("setdefault" : Str) p1) [a,b] [] p2) (λσ H Q=>td σ H λv H1=>∃q cs as xs ep,v=.ref q/\H1 q=some (.ext (PJ q cs as xs ep))/\ta σ H1 λys H2=>∃k c z,ys=[.ref k,z]/\H2 q=some (.ext (PJ q cs as xs ep))/\gK (aU X.K H2) as cs/\pS (aU X.K H2) k c/\cs.length<sizeLine/\(∀u,bJ cs xs c=some u->Q u H2)/\(c∉cs->∀kZ,Q z (upd H2 q (.ext (PJ q (aP cs c) (j5 cs as c k) (bP cs xs c z) kZ))))):=by
 intro pins s σ H Q I h;refine wpAny_Call_method rfl (by rw[s1,s2];rfl) hl PySem.F.plainAttrs_dict PySem.F.slot_dict_setdefault PySem.F.type_dict_setdefault (de (ho pins s σ H _ I h) λu U4 bR=>?_);obtain⟨v,H1,I1,rx,q,cs,as,xs,ep,ex,hd,q1⟩:=bR;subst ex;obtain rfl:u=Value.ref q:=rx;obtain⟨t1,t2⟩:=Av I1 hd;refine⟨t1,t2,?_⟩;have hA:=ha p2 pins U4 σ H1 _ I1 q1;rw[s1]at hA ⊢;refine abu (by show(false||(backTo p2 (starEach [b] X.env)).any (·.1))=false;rw[s2];rfl) (ab7 ?_);refine de hA λus s3 bR=>?_;obtain⟨ys,H2,I2,r2,k,c,z,ey,hd2,hk,hb,gM,q2,q3⟩:=bR;subst ey;obtain⟨w1,w2,rfl,U6,SW⟩:=vals2 r2;cases U6;exact A9 hu I2 hd2 hk hb SW gM (λv w' s' hv I' rv=>⟨v,H2,I',rv,q2 v hv⟩) λhn kZ s' I'=>⟨z,_,I',SW,q3 hn kZ⟩
theorem DV{A:aE}{k:Nat}(hr:gm k A):A.units+2<cLine:=aas (acf (by decide:2<=64) _) hr.units
noncomputable def Ta(c:aa):D->Option (aa)
 |.int h=>some (h::c)
 |_=>none
theorem K4{c e:aa}{d:D}(h:Ta c d=some e):∃i,d=.int i/\e=i::c:=by
 cases d<;>first|exact nk h | (cases h;done)|skip
 cases h;exact⟨_,rfl,rfl⟩
def PL(z:D×D):Option (aa):=match keyOf z.1 with
 |some c=>Ta c z.2
 |none=>none
def Vn(ds:ab):Option (aa):=match two ds with
 |some z=>PL z
 |none=>none
def dX(d:D):Option (aa):=match d with
 |.tup ds=>Vn ds
 |_=>none
theorem As{d:D}{c:aa}(h:dX d=some c):∃i lot,c=i::lot/\d=.tup [.tup (lot.map D.int),.int i]:=by
 cases d<;>first|exact nk h | (cases h;done)|skip
 rename_i ds;replace h:Vn ds=some c:=h;unfold Vn at h;cases h1:two ds with
 |none=>rw[h1]at h;exact nk h
 |some z =>
  rw[h1]at h;replace h:PL z=some c:=h;unfold PL at h;cases h2:keyOf z.1 with
  |none=>rw[h2]at h;exact nk h
  |some lot =>
   rw[h2]at h;obtain⟨i,e1,e2⟩:=K4 (show Ta lot z.2=some c from h);exact⟨i,lot,e2,by rw[f_ (x:=z.1) (y:=z.2) h1,kQ h2,e1]⟩
variable {N:iJ}{T:kj}
theorem yN{k:bg}{v:V}{d:D}{c:aa}(hk:dX d=some c)(r:Rep T N k v d):∃b,v=.ref b/\pS T b c:=by
 obtain⟨i,lot,rfl,rfl⟩:=As hk;obtain⟨b,xs,rfl,h1,r1⟩:=r.Ab;cases r1 with
 |cons h t=>cases t with
  |cons h' t' =>
   cases t';cases h';obtain⟨b',ys,rfl,h2,r2⟩:=h.Ab;cases r2.ofInts;exact⟨b,rfl,i,lot,b',rfl,h1,h2⟩
variable {F R:Addr->Prop}{H:Hp}{K:aq}{τ:Addr->Option bg}
theorem bX.VD{G:Addr->Prop}{fv:aN}{H':Hp}{p:Addr}(hp:H p=none)(hl:H' p=some (.ext (PJ p [] [] [] 0))):bX K G R τ fv H H' (.ref p) (.dY .ow [] []):=by
 refine⟨λq=>if q=p then some []else none,λq k hq=>?_,.dY (ep:=0) (as:=[]) (xs:=[]) ⟨hl,by simp⟩ ⟨rfl,λj a c h=>by simp at h⟩ .nil⟩;by_cases tZ:q=p
 ·subst tZ;exact hp
 ·simp[tZ]at hq
noncomputable def CK(xs:ab):O D:=match xs with
 |[]=>ok (.dY .ow [] [])
 |_::_=>none
variable {args:aw}{Φ:aT}
theorem GL{n:Nat}(hΦ:Φ n=CK){sc:Scope}{bl:au}{k:Nat}(L:PX X sc bl k){e:Expr}(he:jy sc bl e=some args){cs:aD}(hs:mL X F Φ cs args):PE X e (tD X F Φ (.cz n cs))/\PT X e (gL X F Φ (.cz n cs)):=by
 have h1:∃pos,e=.Dict [] [] pos/\args=[]:=by
  unfold jy at he;split at he
  ·cases he;exact⟨_,rfl,rfl⟩
  ·cases he
 obtain⟨pos,rfl,rfl⟩:=h1;cases cs with
 |cons _ _=>exact hs.elim
 |nil =>
  have this:PE X (.Dict [] [] pos) (tD X F Φ (.cz n [])):=by
   refine PE.imp (GP (X:=X) (pos:=pos)) λσ H Q hq p hp=>?_;obtain⟨R,τ,ρ,d,Si,ev,hq⟩:=hq;have ev:Φ n []=ok d:=ev;rw[hΦ]at ev;cases ev;exact hq _ _ (aJ.upd hp) (bX.VD hp aX)
  exact⟨this,cG this λ_=>rfl⟩
noncomputable def oE:Fl->Bool
 |.fz=>false
 |_=>true
noncomputable def yT:D->Option (af×ab)
 |.dY _ cs vs=>some (cs,vs)
 |_=>none
theorem C1{d:D}{z:af×ab}(h:yT d=some z):∃f,d=.dY f z.1 z.2:=by
 cases d<;>first | (cases h;done) | (cases h;exact⟨_,rfl⟩)
def xi(xs:ab):O D:=match two xs with
 |some z=>match yT z.1 with
  |some d=>match dX z.2 with
   |some c=>match bJ d.1 d.2 c with
    |some v=>if aR oE v=false then ok v else none
    |none=>none
   |none=>none
  |none=>none
 |none=>none
theorem GN{xs:ab}{r:D}(h:xi xs=ok r):∃f cs vs c kd,xs=[.dY f cs vs,kd]/\dX kd=some c/\bJ cs vs c=some r/\aR oE r=false:=by
 unfold xi at h;cases h1:two xs with
 |none=>rw[h1]at h;cases h
 |some z =>
  rw[h1]at h;have h:(match yT z.1 with|some d=>(match dX z.2 with|some c=>(match bJ d.1 d.2 c with|some v=>if aR oE v=false then ok v else none|none=>none)|none=>none)|none=>none)=ok r:=h;cases h2:yT z.1 with
  |none=>rw[h2]at h;cases h
  |some d =>
   rw[h2]at h;have h:(match dX z.2 with|some c=>(match bJ d.1 d.2 c with|some v=>if aR oE v=false then ok v else none|none=>none)|none=>none)=ok r:=h;cases h3:dX z.2 with
   |none=>rw[h3]at h;cases h
   |some c =>
    rw[h3]at h;have h:(match bJ d.1 d.2 c with|some v=>if aR oE v=false then ok v else none|none=>none)=ok r:=h;cases h4:bJ d.1 d.2 c with
    |none=>rw[h4]at h;cases h
    |some v =>
     rw[h4]at h;obtain⟨hf,rfl⟩:=o7 (show(if aR oE v=false then ok v else none)=ok r from h);obtain⟨f,e1⟩:=C1 h2;exact⟨f,d.1,d.2,c,z.2,by rw[f_ h1,e1],h3,h4,hf⟩
theorem KJ{A A':Addr->Prop}{τ':Addr->Option bg}{k k':bg}{v:V}{d:D}(h:Rep (aU K H) (nd K R A τ H) k v d)(hf:aR oE d=false):Rep (aU K H) (nd K R A' τ' H) k' v d:=by
 have:=Rep.gen (T':=aU K H) (N':=nd K R A' τ' H) (g:=id) (P:=oE) (C:=λ_ _=>True) (I:=λ_ _=>True) (λ_ _ h=>h) trivial (λ_ _ e=>e) (λ_ _ _ _ e _=>e) (λk k' p xs f _ hz h=>by
  cases f<;>first | (cases hz;done)|exact h) h (k':=k') trivial hf
 rw[d9]at this;exact this
def Vg(K:aq):R2:=λx y H Q=>∃p b cs as xs ep c v,x=.ref p/\y=.ref b/\H p=some (.ext (PJ p cs as xs ep))/\gK (aU K H) as cs/\pS (aU K H) b c/\bJ cs xs c=some v/\Q v H
theorem DH(hu:X.A.units+2<cLine):IA X (Vg X.K):=by
 intro value slice pins s σ H x y v u Q I rx ry h hs;obtain⟨p,b,cs,as,xs,ep,c,w,rfl,rfl,hp,hk,hb,hg,q⟩:=h;cases rx;cases ry;obtain⟨zs,o,es,e1,e2,e3,ho,hx,hd,dd,hl,Mc⟩:=va I hp hk;have Q4:=iM (cs:=cs) e3 c;rw[hg]at Q4;obtain⟨u,zk,ru⟩:=m9.some_of Q4;have:(atKey zs c).map (·.2)=some u:=by rw[gI,e1];exact zk
 obtain⟨q',Wh,rfl⟩:=Option.map_eq_some_iff.mp this;exact abr (x:=q'.2) dd.typeIs PySem.F.slot_dict_getitem.lookup
  (wpAny_getItem_heap (knd:=iT X.prog X.w) (Q:=λr s'=>r=q'.2/\EP X pins σ Q r s') (show X.A.units+1+1<cLine from hu) (sJ I hb) dd Wh ⟨rfl,w,H,I.tok _,ru,q⟩) hs
theorem K5{n:Nat}(hΦ:Φ n=xi){sc:Scope}{bl:au}{k:Nat}(L:PX X sc bl k){e:Expr}(he:md sc bl e=some args){cs:aD}(hs:mL X F Φ cs args):PE X e (tD X F Φ (.cz n cs))/\PT X e (gL X F Φ (.cz n cs)):=by
 unfold md at he;cases h1:n8 e with
 |none=>rw[h1]at he;cases he
 |some z =>
  rw[h1]at he;cases he;obtain⟨pos,rfl⟩:=ku h1;obtain⟨⟨c1,c2,rfl,p1,p2⟩,_⟩:=iU hs;have this:PE X (.Subscript z.1 z.2 pos) (tD X F Φ (.cz n [c1,c2])):=by
   refine PE.imp (CY (DH (DV L.room)) p1 p2 hs.2.2.2.2.2.1) λσ H Q hq=>?_;obtain⟨R,τ,ρ,d,Si,ev,hq⟩:=hq;obtain⟨xs,cF,ev⟩:=aG ev;rw[hΦ]at ev;obtain⟨f,cs,vs,c,kd,rfl,hkd,hg,hf⟩:=GN ev;obtain⟨x,ex,cF⟩:=aG cF;obtain⟨ys,vP,cF⟩:=aG cF;obtain⟨y,ey,RS⟩:=aG vP;cases RS;cases cF;refine tD.intro Si ex λv H1 e1 r1=>tD.intro (Si.go e1) ey λu H2 e2 r2=>?_;obtain⟨τ1,f1,q1⟩:=r1;obtain⟨τ2,f2,q2⟩:=r2;obtain⟨b,rfl,hb⟩:=yN hkd q2;cases q1 with
   |dY hn hk hr =>
    rcases kL hr c with ⟨_,hz⟩|⟨w,d',k',g1,g2,g3,_⟩
    ·rw[hg]at hz;cases hz
    ·rw[hg]at g2;cases g2;refine⟨_,b,_,_,_,_,c,w,rfl,rfl,e2 _ _ hn.pat,hk.imp λ_ _ h=>aU.same e2 h,hb,g1,hq w H2 (e1.trans e2) ⟨λ_=>none,λ_ _ h=>by simp at h,?_⟩⟩;exact(KJ (A':=jQ (gP X F) τ (gN (.cz n [c1,c2]))) (τ':=λ_=>none) (k':=[]) g3 hf).imp (λ_ _ h=>aU.same e2 h) λ_ _ _ _ h=>nd.same e2 h
  exact⟨this,cG this λ_=>rfl⟩
def lS:af->ab->aa->D->Option (ab)
 |[],vs,_,d=>if vs.length=0 then some [.lst .ow [d]]else none
 |c'::cs,vs,c,d=>match vs with
  |[]=>none
  |v::vs=>if c'=c then(match C5 v with
    |some gs=>if gs.length<cP then some (.lst .ow (gs++[d])::vs)else none
    |none=>none)else(lS cs vs c d).map (v :: ·)
theorem zw{α:Type}{c:aa}:∀{cs:af} {xs:List α},c∉cs->bJ cs xs c=none
 |[],_,_=>by unfold bJ;rfl
 |c'::cs,[],_=>rfl
 |c'::cs,x::xs,h=>by
  show(if c'=c then some x else bJ cs xs c)=none;rw[if_neg (λe:c'=c=>h (e▸List.mem_cons_self)),zw λz=>h (List.mem_cons_of_mem _ z)]
theorem yg{d:D}:∀{vs:ab} {j n m:Nat},qA (j+m) d (n+m) vs=qA j d n vs
 |[],_,_,_=>rfl
 |v::vs,j,n,m=>by
  show(if n+m=j+m then d else v)::qA (j+m) d (n+m+1) vs=(if n=j then d else v)::qA j d (n+1) vs;rw[show n+m+1=n+1+m by left,yg];by_cases e:n=j
  ·rw[if_pos e,if_pos (by left)]
  ·rw[if_neg e,if_neg (by left)]
theorem BR{d:D}:∀{vs:ab} {j n:Nat},j<n->qA j d n vs=vs
 |[],_,_,_=>rfl
 |v::vs,j,n,h=>by
  show(if n=j then d else v)::qA j d (n+1) vs=_;rw[if_neg (by left),BR (by left)]
theorem r_{c:aa}{d:D}:∀{cs:af} {vs ws:ab},lS cs vs c d=some ws->(c∉cs/\cs.length=vs.length/\ws=vs++[.lst .ow [d]])\/∃j gs,vs[j]?=some (.lst .ow gs)/\gs.length<cP/\c∈cs/\(∀(xs:ae),xs.length=vs.length->bJ cs xs c=xs[j]?)/\ws=qA j (.lst .ow (gs++[d])) 0 vs
 |[],vs,ws,h=>by
  unfold lS at h;by_cases hv:vs.length=0
  ·rw[if_pos hv]at h;cases h;obtain rfl:=List.length_eq_zero_iff.mp hv;exact .inl ⟨by simp,rfl,rfl⟩
  ·rw[if_neg hv]at h;exact nk h
 |c'::cs,[],ws,h=>nk h
 |c'::cs,v::vs,ws,h=>by
  have h:(if c'=c then(match C5 v with|some gs=>if gs.length<cP then some (D.lst .ow (gs++[d])::vs)else none|none=>none)else(lS cs vs c d).map (v :: ·))=some ws:=h;by_cases e:c'=c
  ·rw[if_pos e]at h;cases h1:C5 v with
   |none=>rw[h1]at h;exact nk h
   |some gs =>
    rw[h1]at h;have h:(if gs.length<cP then some (D.lst .ow (gs++[d])::vs)else none)=some ws:=h;by_cases hg:gs.length<cP
    ·rw[if_pos hg]at h;cases h;refine .inr ⟨0,gs,by rw[xk h1];rfl,hg,e▸aaf,λxs hx=>?_,?_⟩
     ·cases xs with
      |nil=>cases hx
      |cons x xs=>exact aa0 e
     ·show _=(if 0=0 then _ else v)::qA 0 _ 1 vs;rw[if_pos rfl,BR (by left)]
    ·rw[if_neg hg]at h;exact nk h
  ·rw[if_neg e]at h;obtain⟨us,h1,rfl⟩:=Option.map_eq_some_iff.mp h;rcases r_ h1 with ⟨h2,h3,rfl⟩|⟨j,gs,h2,h3,h4,h5,rfl⟩
   ·exact .inl ⟨λz=>(List.mem_cons.mp z).elim (λq=>e q.symm) h2,by rw[List.length_cons,List.length_cons,h3],rfl⟩
   ·refine .inr ⟨j+1,gs,h2,h3,aad _ h4,λxs hx=>?_,?_⟩
    ·cases xs with
     |nil=>cases hx
     |cons x xs =>
      show(if c'=c then some x else bJ cs xs c)=_;rw[if_neg e,h5 xs (Nat.succ.inj hx)];rfl
    ·show _=(if 0=j+1 then _ else v)::qA (j+1) _ (0+1) vs;rw[if_neg (by left),yg]
def xh(xs:ab):O D:=match three xs with
 |some z=>match z.1 with
  |.dY f cs vs=>match dX z.2.1 with
   |some c=>match lS cs vs c z.2.2 with
    |some ws=>if cK f=true/\cs.length<cP then ok (.dY .ow (aP cs c) ws)else none
    |none=>none
   |none=>none
  |_=>none
 |none=>none
variable {kd:D}
theorem GJ{x d r:D}(h:xh [x,kd,d]=ok r):∃cs vs c ws,x=.dY .ow cs vs/\dX kd=some c/\lS cs vs c d=some ws/\cs.length<cP/\r=.dY .ow (aP cs c) ws:=by
 cases x<;>first|exact nk h | (cases h;done)|skip
 rename_i f cs vs;replace h:(match dX kd with|some c=>(match lS cs vs c d with|some ws=>if cK f=true/\cs.length<cP then ok (D.dY .ow (aP cs c) ws)else none|none=>none)|none=>none)=ok r:=h;cases h1:dX kd with
 |none=>rw[h1]at h;exact nk h
 |some c =>
  rw[h1]at h;replace h:(match lS cs vs c d with|some ws=>if cK f=true/\cs.length<cP then ok (D.dY .ow (aP cs c) ws)else none|none=>none)=ok r:=h;cases h2:lS cs vs c d with
  |none=>rw[h2]at h;exact nk h
  |some ws =>
   rw[h2]at h;obtain⟨⟨hf,hl⟩,rfl⟩:=o7 (show(if cK f=true/\cs.length<cP then ok (D.dY .ow (aP cs c) ws)else none)=ok r from h);cases f<;>first | (cases hf;done)|exact⟨cs,vs,c,ws,rfl,rfl,h2,hl,rfl⟩
def NS(e:Expr):Option (Expr×Expr):=match lJ e with
 |some z=>match oe z.1 with
  |some y=>match two z.2.1 with
   |some w=>match wG w.2 with
    |some l=>if y.2.1=("setdefault" : Str)/\z.2.2.1=[]/\(y.2.2.endLine==z.2.2.2.line)=true/\l=[]then some (y.1,w.1)else none
    |none=>none
   |none=>none
  |none=>none
 |none=>none
variable {o:Expr}
theorem J8{e k:Expr}(h:NS e=some (o,k)):∃p1 p2 pl,e=.Call (.Attribute o ("setdefault" : Str) p1) [k,.List [] pl] [] p2/\(p1.endLine==p2.line)=true:=by
 unfold NS at h;cases h1:lJ e with
 |none=>rw[h1]at h;exact nk h
 |some z =>
  obtain⟨f,as,ks,p2⟩:=z;rw[h1]at h;obtain rfl:=lI h1;replace h:(match oe f with|some y=>(match two as with|some w=>(match wG w.2 with|some l=>if y.2.1=("setdefault" : Str)/\ks=[]/\(y.2.2.endLine==p2.line)=true/\l=[]then some (y.1,w.1)else none|none=>none)|none=>none)|none=>none)=some (o,k):=h;cases h2:oe f with
  |none=>rw[h2]at h;exact nk h
  |some y =>
   obtain⟨ob,nm,p1⟩:=y;rw[h2]at h;obtain rfl:=n_ h2;replace h:(match two as with|some w=>(match wG w.2 with|some l=>if nm=("setdefault" : Str)/\ks=[]/\(p1.endLine==p2.line)=true/\l=[]then some (ob,w.1)else none|none=>none)|none=>none)=some (o,k):=h;cases h3:two as with
   |none=>rw[h3]at h;exact nk h
   |some w =>
    obtain⟨a,b⟩:=w;rw[h3]at h;obtain rfl:=f_ h3;replace h:(match wG b with|some l=>if nm=("setdefault" : Str)/\ks=[]/\(p1.endLine==p2.line)=true/\l=[]then some (ob,a)else none|none=>none)=some (o,k):=h;cases h4:wG b with
    |none=>rw[h4]at h;exact nk h
    |some l =>
     rw[h4]at h;obtain⟨pl,rfl⟩:=yd h4;replace h:(if nm=("setdefault" : Str)/\ks=[]/\(p1.endLine==p2.line)=true/\l=[]then some (ob,a)else none)=some (o,k):=h;by_cases hc:nm=("setdefault" : Str)/\ks=[]/\(p1.endLine==p2.line)=true/\l=[]
     ·rw[if_pos hc]at h;cases h;obtain⟨rfl,rfl,hl,rfl⟩:=hc;exact⟨p1,p2,pl,rfl,hl⟩
     ·rw[if_neg hc]at h;exact nk h
def tj(_:Scope)(_:au)(st:Stmt):Option (Expr×aw):=match mm ("append" : Str) st with
 |some z=>match one z.2 with
  |some e=>match NS z.1 with
   |some y=>some (y.1,[y.2,e])
   |none=>none
  |none=>none
 |none=>none
variable {st:Stmt}
theorem Bb{sc:Scope}{bl:au}(h:tj sc bl st=some (o,args)):∃k e p1 p2 p3 p4 pl pos,args=[k,e]/\st=.Expr (.Call (.Attribute (.Call (.Attribute o ("setdefault" : Str) p1) [k,.List [] pl] [] p2) ("append" : Str) p3) [e] [] p4) pos/\(p1.endLine==p2.line)=true/\(p3.endLine==p4.line)=true:=by
 unfold tj at h;cases h1:mm ("append" : Str) st with
 |none=>rw[h1]at h;exact nk h
 |some z =>
  obtain⟨b,as⟩:=z;rw[h1]at h;replace h:(match one as with|some e=>(match NS b with|some y=>some (y.1,[y.2,e])|none=>none)|none=>none)=some (o,args):=h;cases h2:one as with
  |none=>rw[h2]at h;exact nk h
  |some e =>
   rw[h2]at h;obtain rfl:=cS h2;replace h:(match NS b with|some y=>some (y.1,[y.2,e])|none=>none)=some (o,args):=h;cases h3:NS b with
   |none=>rw[h3]at h;exact nk h
   |some y =>
    rw[h3]at h;cases h;obtain⟨p1,p2,pl,rfl,hl⟩:=J8 h3;obtain⟨p3,p4,pos,rfl,nC⟩:=n9 h1;exact⟨_,e,p1,p2,p3,p4,pl,pos,rfl,rfl,hl,nC⟩
theorem Lz{n i:Nat}{ρ:bc}{d:D}{r:Fo×bc}(h:Ds Φ n i ρ kd d=ok r):∃x x',ρ[i]?=some (some x)/\aR anyF kd=false/\aR anyF d=false/\Φ n [x,kd,d]=ok x'/\r=(.nx,ρ.set i (some x')):=by
 unfold Ds at h;split at h
 ·rename_i x hx;split at h
  ·rename_i hc;obtain⟨x',h1,h2⟩:=aG h;cases h2;exact⟨x,x',hx,hc.1,hc.2,h1,rfl⟩
  ·cases h
 ·cases h
variable {as:aO}{cs:af}
section
variable {X:Cx}{F R:aj}{τ:Addr->Option bg}{ρ:bc}{σ:St}{H:Hp}
theorem SI.Vs{i:Nat}{ds:ab}(Si:SI X F R τ ρ σ H)(hi:ρ[i]?=some (some (.dY .ow cs ds))):
  ∃p as xs ep,σ[i]?=some (some (.ref p))/\H p=some (.ext (PJ p cs as xs ep))/\τ p=some [i]/\gK (aU X.K H) as cs/\aB (aU X.K H) (nd X.K R (λ_=>False) τ H) [i] 0 xs ds:=by
 obtain⟨v,hv,rp⟩:=Si.rep i _ hi;cases rp with
 |dY h k r=>exact⟨_,_,_,_,hv,h.1,h.2,k,r⟩
theorem SI.drop(i:Nat)(S:SI X F R τ ρ σ H):SI X F R τ (ρ.set i none) σ H:=by
 refine⟨by simp[S.len],λj d hj=>?_,S.rt,S.rh,S.rf,S.th,S.t0,S.same⟩;have jx:i≠j:=by
  rintro rfl;by_cases h:i<ρ.length
  ·rw[List.getElem?_set_self h]at hj;cases hj
  ·rw[List.getElem?_eq_none (by rw[List.length_set];left)]at hj;cases hj
 rw[List.getElem?_set_ne jx]at hj;exact S.rep j d hj
theorem qV(k:gK T as cs){b:Addr}{c:aa}(hb:pS T b c):gK T (j5 cs as c b) (aP cs c):=by
 unfold j5 aP;by_cases e:c∈cs
 ·rw[if_pos e,if_pos e];exact k
 ·rw[if_neg e,if_neg e];refine⟨by rw[List.length_append,List.length_append,k.len];rfl,λj a c' ha hc=>?_⟩;by_cases hj:j<as.length
  ·rw[List.getElem?_append_left hj]at ha;rw[List.getElem?_append_left (by rw[<- k.len];exact hj)]at hc;exact k.key j a c' ha hc
  ·rw[List.getElem?_append_right (by left)]at ha;rw[List.getElem?_append_right (by rw[<- k.len];left),<- k.len]at hc;cases hz:j - as.length with
   |zero =>
    rw[hz]at ha hc;cases ha;cases hc;exact hb
   |succ m=>rw[hz]at ha;cases ha
theorem SI.XD{i j:Nat}{vs gs:ab}{d:D}{u:V}{p q:Addr}{xs:ae}{ep:Nat}(Si:SI X F R τ ρ σ H)(ho:ρ[i]?=some (some (.dY .ow cs vs)))(hv:σ[i]?=some (some (.ref q)))(hq:H q=some (.ext (PJ q cs as xs ep)))(htq:τ q=some [i])(hk:gK (aU X.K H) as cs)
  (rs:aB (aU X.K H) (nd X.K R (λ_=>False) τ H) [i] 0 xs vs) (hx:xs[j]?=some (.ref p)) (hj:vs[j]?=some (.lst .ow gs)) {k:bg} (ru:Rep (aU X.K H) N k u d) (hf:aR anyF d=false) :
  ∃zs,H p=some (.lst zs)/\zs.length=gs.length/\τ p=some [j,i]/\SI X F R τ (ρ.set i (some (.dY .ow cs (qA j (.lst .ow (gs++[d])) 0 vs)))) σ (upd H p (.lst (zs++[u]))):=by
 obtain⟨w,hw,jH⟩:=rs.get hj;rw[Nat.zero_add]at jH;rw[hx]at hw;cases hw;cases jH with
 | @lst _ _ zs _ _ hp rz =>
 refine⟨zs,hp.1,rz.length,hp.2,Si.clr ho hp.1 hp.2 hv (.dY (as:=as) (ep:=ep) (xs:=xs) (Si.Tq (n:=.ej cs as xs ep) (f:=.ow) hp.1 hp.2 (λz=>?_) ⟨hq,htq⟩) (hk.imp λ_ _ h=>jm hp.1 h) (aB.qA (λ_ _ h=>jm hp.1 h) (λc m a n f hm h=>Si.Tq hp.1 hp.2 (λz=>?_) h) rs λm w YM hm=>?_))⟩
 ·have:=aa2 List.length z;simp at this
 ·have:=aa2 List.reverse z;simp at this;exact hm this.1
 ·rw[Nat.zero_add]at hm;subst hm;rw[hx]at YM;cases YM;refine .lst ⟨aX,hp.2⟩ (aB.yw (aB.child (λ_ _ h=>jm hp.1 h) (λc n a ys f h=>Si.Tq hp.1 hp.2 (λz=>?_) h) rz) ((jt (N':=nd X.K R (λ_=>False) τ (upd H p (.lst (zs++[u])))) ru hf).imp (q:=(0+gs.length)::[m,i]) (λ_ _ h=>jm hp.1 h) λ_ _ _ _ h=>h))
  ·have:=aa2 List.length z;simp at this
end
theorem KY{n:Nat}(hΦ:Φ n=xh){sc:Scope}{bl:au}{k:Nat}(L:PX X sc bl k)(hN:X.N.Nodup)(t_:∀x,X.fn x=true){x:Str}(he:tj sc bl st=some (.Name x pos,args))
  {i:Nat} (hi:X.N[i]?=some x) (hl:L2.Loc X.env.scope x) (pe:PE X (.Name x pos) (ux i)) {c1 c2:CE} (hs:mL X F Φ [c1,c2] args):PS X st (lN X F Φ (.mu2 n i c1 c2)):=by
 obtain⟨ke,ve,p1,p2,p3,p4,pl,pos',rfl,rfl,wC,vF⟩:=Bb he;obtain⟨⟨a1,a2,e0,h1,h2⟩,_,s1,s2⟩:=iU hs;cases e0;refine PS.imp (nu (CZ abP abM PySem.F.type_list_append qS (K8 (DV L.room) pe (cO h1 (cO (CW eT) eT) (s1 _)) s1 (λ_=>rfl) wC) (cO h2 eT (s2 _)) (hfew:=by rw[s2];rfl) (hline:=vF) (hs:=s2 _))) λD σ H hq=>?_;obtain⟨R,τ,ρ,r,Si,ev,hq⟩:=hq;obtain⟨kd,ekd,ev⟩:=aG ev;obtain⟨d,ed,ev⟩:=aG ev;obtain⟨x0,x',ho,hfk,hfd,DT,rfl⟩:=Lz ev;rw[hΦ]at DT;obtain⟨cs,vs,c,ws,rfl,hkc,YS,mY,rfl⟩:=GJ DT;obtain⟨q,as,xs,ep,hv,hd,ht,hk,rs⟩:=Si.Vs ho;have hc0:cP=1000000:=rfl;have L_:sizeLine=16777216:=aa6;have Od:i<ρ.length:=by
  by_cases z:i<ρ.length
  ·exact z
  ·rw[List.getElem?_eq_none (by left)]at ho;cases ho
 have fin:∀{H':Hp} {τ':Addr->Option bg} {ρ1:bc} {Om:af} {XC:aO} {IF:ae} {Zo:Nat} {vs1 gs:List DI.D} {j:Nat} {u:V},SI X F R τ' ρ1 σ H'->Kp R H R H'->ρ1[i]?=some (some (.dY .ow Om vs1))->ρ1.set i none=ρ.set i none->vs1[j]?=some (.lst .ow gs)->gs.length<cP->Om=aP cs c->ws=qA j (.lst .ow (gs++[d])) 0 vs1 ->
   H' q=some (.ext (PJ q Om XC IF Zo))->τ' q=some [i]->gK (aU X.K H') XC Om->aB (aU X.K H') (nd X.K R (λ_=>False) τ' H') [i] 0 IF vs1->IF[j]?=some u->SE X.K "list" u H'/\B6 (tD X F Φ c2) Kd σ H' λxs H2=>yH u xs H2 λ_ H3=>D.nx σ H3:=by
  intro H' τ' ρ1 Om XC IF Zo vs1 gs j u f9 kp Ju QM hj hg ek ew Hw YQ D6 tX YK;have ZO:=f9.drop i;rw[QM]at ZO;obtain⟨w,hw,jH⟩:=tX.get hj;rw[YK]at hw;cases hw;obtain⟨l,zs,rfl,nC,rz⟩:=jH.rM;refine⟨.inl ⟨rfl,_,dg.of nC.1⟩,tD.intro ZO ed λy H3 e3 r3=>?_⟩;obtain⟨τ3,f3,q3⟩:=r3;obtain⟨Z4,g4,g5,g6,ZP⟩:=(f9.go e3).XD Ju hv (e3 _ _ Hw) YQ (D6.imp λ_ _ h=>aU.same e3 h) (tX.imp (λ_ _ h=>aU.same e3 h) λ_ _ _ _ h=>nd.same e3 h) YK hj q3 hfd;refine⟨l,Z4,y,rfl,rfl,g4,by left,?_⟩;have er:ρ1.set i (some (.dY .ow Om (qA j (.lst .ow (gs++[d])) 0 vs1)))=ρ.set i (some (.dY .ow (aP cs c) ws)):=by
   rw[ek,<- ew];have:=aa2 (λz:bc=>z.set i (some (.dY .ow (aP cs c) ws))) QM;simpa using this
  rw[er]at ZP;exact hq σ _ R τ' ZP (kp.trans (oU (n:=.l _) (f9.go e3) e3 (λ_ h=>h) g4 g6))
 refine⟨.ref q,hv,q,cs,as,xs,ep,rfl,hd,tD.intro Si ekd λu H1 e1 ru=>⟨by simp,λl nC=>?_⟩⟩;obtain⟨τ1,f1,r1⟩:=ru;obtain⟨b,rfl,hb⟩:=yN hkc r1;have e2:aJ H1 (upd H1 l (.lst [])):=aJ.upd nC;have es:=e1.trans e2;have wg:=Si.go es;have Tz:=hk.imp λ_ _ h=>aU.same es h;have WM:pS (aU X.K (upd H1 l (.lst []))) b c:=hb.imp λ_ _ h=>aU.same e2 h;have Fq:aB (aU X.K (upd H1 l (.lst []))) (nd X.K R (λ_=>False) τ (upd H1 l (.lst []))) [i] 0 xs vs:=rs.imp (λ_ _ h=>aU.same es h) λ_ _ _ _ h=>nd.same es h;refine⟨b,c,.ref l,rfl,es _ _ hd,Tz,WM,by left,λw hw=>?_,λhn kZ=>?_⟩
 ·rcases r_ YS with ⟨Fy,_,_⟩|⟨j,gs,g1,g2,g3,g4,g5⟩
  ·rw[zw Fy]at hw;exact nk hw
  ·rw[g4 xs rs.length]at hw;exact fin wg (Kp.of es λ_ h=>h) ho rfl g1 g2 (by unfold aP;rw[if_pos g3]) g5 (es _ _ hd) ht Tz Fq hw
 ·rcases r_ YS with ⟨Fy,hlen,hws⟩|⟨j,gs,g1,g2,g3,g4,g5⟩
  ·have AO:H l=none:=e1.free nC;have hlq:l≠q:=λz=>by rw[z,hd]at AO;cases AO
   have rk:ic X R τ (upd H1 l (.lst [])) (.ref l) (.lst .ow []):=⟨λa=>if a=l then some []else none,λa z hz=>by
    by_cases ha:a=l
    ·subst ha;refine⟨?_,λhr=>Si.rh a hr AO,?_,by rw[aX];simp⟩
     ·cases Wd:τ a with
      |none=>rfl
      |some z=>exact absurd AO (Si.th a z Wd)
     ·cases h0:X.H₀ a with
      |none=>rfl
      |some o=>rw[Si.same a o h0]at AO;cases AO
    ·simp[ha]at hz,.lst ⟨aX,by simp⟩ .nil⟩
   have Oa:eB (upd H1 l (.lst [])) q (.ej cs as xs ep):=es _ _ hd;have ekc:aP cs c=cs++[c]:=by unfold aP;rw[if_neg Fy]
   have Zn:bP cs xs c (.ref l)=xs++[.ref l]:=by unfold bP;rw[if_neg Fy]
   obtain⟨τ3,x5,ht3,rs3⟩:=wg.Pz (m:=vs.length) (n':=.ej (aP cs c) (j5 cs as c b) (bP cs xs c (.ref l)) kZ) (o:=.ext (PJ q (aP cs c) (j5 cs as c b) (bP cs xs c (.ref l)) kZ)) (d1:=.dY .ow (aP cs c) (vs++[.lst .ow []])) (xs':=bP cs xs c (.ref l)) (ds':=vs++[.lst .ow []]) ho hv Oa ht Fq rk aX
    (λhN r=>.dY hN (qV (Tz.imp λ_ _ h=>lP Oa h) (WM.imp λ_ _ h=>lP Oa h)) r) (λrs r=>by have h:=aB.yw rs (by simpa using r);rw[<- Zn]at h;exact h)
   refine fin (vs1:=vs++[.lst .ow []]) (gs:=[]) (j:=vs.length) x5 (oU wg es (λ_ h=>h) Oa ht) (by rw[List.getElem?_set_self Od]) (by simp) (by simp) (by simp;left) rfl ?_ aX ht3 (qV (Tz.imp λ_ _ h=>lP Oa h) (WM.imp λ_ _ h=>lP Oa h)) rs3 (by rw[Zn,List.getElem?_append_right (by rw[rs.length];exact Nat.le_refl _),rs.length];simp);rw[hws];have:∀(vs:List DI.D) (n:Nat),qA (n+vs.length) (.lst .ow [d]) n (vs++[.lst .ow []])=vs++[.lst .ow [d]]:=λvs=>by
    induction vs with
    |nil=>intro n;show(if n=n+0 then _ else _)::qA _ _ _ []=_;rw[if_pos (by left)];rfl
    |cons v vs ih =>
     intro n;show(if n=n+(vs.length+1)then _ else v)::qA (n+(vs.length+1)) _ (n+1) (vs++[.lst .ow []])=_;rw[if_neg (by left),show n+(vs.length+1)=n+1+vs.length by left,ih];rfl
   have h0:=this vs 0;rw[Nat.zero_add]at h0;exact h0.symm
  ·exact absurd g3 hn
end DI
end
section
namespace DI
open PySem (Str)
section
variable {α:Type}
theorem rX(f g:α->Rat):∀l:List α,(l.map λx=>f x+g x).sum=(l.map f).sum+(l.map g).sum
 |[]=>by show(0:Rat)=0+0;grind
 |x::l=>by rw[List.map_cons,List.map_cons,List.map_cons,List.sum_cons,List.sum_cons,List.sum_cons,rX f g l];grind
theorem w5(c:Rat)(f:α->Rat):∀l:List α,(l.map λx=>c*f x).sum=c*(l.map f).sum
 |[]=>by show(0:Rat)=c*0;grind
 |x::l=>by rw[List.map_cons,List.map_cons,List.sum_cons,List.sum_cons,w5 c f l];grind
theorem gT{f:α->Rat}:∀{l:List α},(∀x∈l,f x=0)->(l.map f).sum=0
 |[],_=>rfl
 |x::l,h=>by rw[List.map_cons,List.sum_cons,h x List.mem_cons_self,gT λy hy=>h y (List.mem_cons_of_mem _ hy)];grind
theorem uE{f:α->Rat}:∀{l:List α},(∀x∈l,0<=f x)->0<=(l.map f).sum
 |[],_=>acD
 |x::l,h=>by
  rw[List.map_cons,List.sum_cons];have h1:=h x aaf;have h2:=uE λy hy=>h y (aad _ hy);grind
theorem Cd{f:α->Rat}:∀{l:List α} {y:α},(∀x∈l,0<=f x)->y∈l->f y<=(l.map f).sum
 |x::l,y,h,hy=>by
  rw[List.map_cons,List.sum_cons];have h1:=h x aaf;have h2:=uE λy hy=>h y (aad _ hy);rcases List.mem_cons.mp hy with rfl|hy
  ·grind
  ·have:=Cd (λy hy=>h y (aad _ hy)) hy;grind
theorem Ce{β:Type}[DecidableEq β](y:β)(F:β->Rat):∀{cs:List β},cs.Nodup->(cs.map λc=>if y=c then F c else 0).sum=if y∈cs then F y else 0
 |[],_=>by simp
 |c::cs,h=>by
  obtain⟨h1,h2⟩:=List.nodup_cons.mp h;rw[List.map_cons,List.sum_cons,Ce y F h2];by_cases e:y=c
  ·subst e;rw[if_pos rfl,if_neg h1,if_pos List.mem_cons_self];grind
  ·rw[if_neg e];by_cases m:y∈cs
   ·rw[if_pos m,if_pos (List.mem_cons_of_mem _ m)];grind
   ·rw[if_neg m,if_neg λz=>(List.mem_cons.mp z).elim e m];grind
theorem ju{β:Type}[DecidableEq β](s:α->β)(f:α->Rat)(F:β->Rat){cs:List β}(hn:cs.Nodup):∀(l:List α),(∀x∈l,s x∈cs)->(cs.map λc=>F c*(l.map λx=>if s x=c then f x else 0).sum).sum=(l.map λx=>F (s x)*f x).sum
 |[],_=>by
  rw[List.map_nil,List.sum_nil];exact gT λc _=>by simp
 |x::l,h=>by
  have ih:=ju s f F hn l λy hy=>h y (aad _ hy);rw[List.map_cons,List.sum_cons,<- ih];have e1:(cs.map λc=>F c*((x::l).map λx=>if s x=c then f x else 0).sum).sum=(cs.map λc=>(if s x=c then F c*f x else 0)+F c*(l.map λx=>if s x=c then f x else 0).sum).sum:=by
   congr 1;refine aak λc _=>?_;rw[List.map_cons,List.sum_cons];by_cases e:s x=c
   ·rw[if_pos e,if_pos e];grind
   ·rw[if_neg e,if_neg e];grind
  rw[e1,rX,Ce (s x) (λc=>F c*f x) hn,if_pos (h x List.mem_cons_self)]
end
def bz(ks:af)(rs:aH):af:=rs.foldl (λks r=>aP ks (sortI r.2)) ks
theorem gD:∀{rs:aH} {ks:af} {c:aa},c∈bz ks rs ↔ c∈ks\/∃r∈rs,sortI r.2=c
 |[],ks,c=>by simp[bz]
 |r::rs,ks,c=>by
  show c∈bz (aP ks (sortI r.2)) rs ↔ _;rw[gD,cI];constructor
  ·rintro ((h|h)|⟨s,h1,h2⟩)
   ·exact .inl h
   ·exact .inr ⟨r,aaf,h.symm⟩
   ·exact .inr ⟨s,aad _ h1,h2⟩
  ·rintro (h|⟨s,h1,h2⟩)
   ·exact .inl (.inl h)
   ·rcases List.mem_cons.mp h1 with rfl|h1
    ·exact .inl (.inr h2.symm)
    ·exact .inr ⟨s,h1,h2⟩
theorem ny:∀{rs:aH} {ks:af},ks.Nodup->(bz ks rs).Nodup
 |[],_,h=>h
 |r::rs,ks,h=>ny (rs:=rs) (kP h _)
theorem oP:∀{rs:aH} {ks:af},(bz ks rs).length<=ks.length+rs.length
 |[],ks=>aal _
 |r::rs,ks=>by
  have:=oP (rs:=rs) (ks:=aP ks (sortI r.2));have h:=fC ks (sortI r.2);show(bz (aP ks (sortI r.2)) rs).length<=_;rw[List.length_cons];left
def gG(rs:aH)(c:aa):Rat:=(rs.map λr=>if sortI r.2=c then r.1 else 0).sum
def jT(b:Nat)(rs:aH)(c:aa):Int:=(rs.map λr=>if sortI r.2=c then aZ b r.1 else 0).sum
def gz(rs:aH):aH:=(bH (bz [] rs)).map λc=>(gG rs c,c)
theorem yn{b:Nat}:∀{rs:aH} (c:aa),(∀r∈rs,r.1.den∣b)->((jT b rs c:Int):Rat)=gG rs c*(b:Rat)
 |[],c,_=>by show((0:Int):Rat)=0*_;rw[Rat.zero_mul];rfl
 |r::rs,c,h=>by
  have ih:=yn (rs:=rs) c λs hs=>h s (aad _ hs);have e1:jT b (r::rs) c=(if sortI r.2=c then aZ b r.1 else 0)+jT b rs c:=rfl;have e2:gG (r::rs) c=(if sortI r.2=c then r.1 else 0)+gG rs c:=rfl;rw[e1,e2,Rat.intCast_add,ih];by_cases e:sortI r.2=c
  ·rw[if_pos e,if_pos e,dU (h r List.mem_cons_self)];grind
  ·rw[if_neg e,if_neg e];have:((0:Int):Rat)=0:=rfl;rw[this];grind
theorem Rw.srt{n:Nat}{l:aa}(h:Rw n l):By n (sortI l):=by
 have hp:=sortI_perm l;have hle:=oy l;have Fz:(sortI l).Nodup:=hp.nodup_iff.mpr h.1;refine⟨?_,λx hx=>h.2.2 x (hp.mem_iff.mp hx)⟩;exact(List.pairwise_and_iff.mpr ⟨hle,Fz⟩).imp λ⟨a,b⟩=>by left
theorem EK{W:Nat}{q:Rat}(h:∃z:Int,q*(W:Rat)=(z:Rat))(hW:0<W):q.den∣W:=by
 obtain⟨z,e⟩:=h;have hq:q=Rat.divInt z W:=by
  rw[Rat.divInt_eq_div,<- e,Rat.intCast_natCast];have:=eU hW;grind
 rw[hq];have:=xP (t:=z) (b:=(W:Int)) (by left);simpa using this
section
variable {n:Nat}{rs:aH}(I:Dp (Rw n) 250 n rs)
include I
theorem pJ{c:aa}(hc:c∈bz [] rs):0<gG rs c:=by
 rcases gD.mp hc with h|⟨r,hr,e⟩
 ·exact nomatch h
 ·have h0:∀s∈rs,0<=(if sortI s.2=c then s.1 else 0):=λs hs=>by
   have:=I.pos s hs;split
   ·exact abc this
   ·exact acD
  have h1:=Cd h0 hr;rw[if_pos e]at h1;have h2:=I.pos r hr;unfold gG;grind
theorem JO(c:aa):gG rs c<=1:=by
 have h1:=I.one;have h2:(rs.map (·.1)).sum=gG rs c+(rs.map λr=>if sortI r.2=c then 0 else r.1).sum:=by
  unfold gG;rw[<- rX];congr 1;refine aak λr _=>?_;split<;>grind
 have h3:0<=(rs.map λr=>if sortI r.2=c then 0 else r.1).sum:=uE λr hr=>by
  have:=I.pos r hr;split
  ·exact acD
  ·exact abc this
 grind
theorem JJ(hl7:(gz rs).length<=11):Dr 250 n (gz rs)/\NR (gz rs):=by
 have hp:(bH (bz [] rs)).Perm (bz [] rs):=aaJ _ _;have hl:(gz rs).length<=rs.length:=by
  have:=oP (rs:=rs) (ks:=[]);unfold gz;rw[List.length_map,hp.length_eq];simpa using this
 obtain⟨W,w0,w1,w2⟩:=I.fin;have Q9:∀c,(gG rs c).den∣W:=λc=>EK ⟨jT W rs c,(yn c w2).symm⟩ w0;have mem:∀r∈gz rs,∃c∈bz [] rs,r=(gG rs c,c):=λr hr=>by
  obtain⟨c,hc,rfl⟩:=List.mem_map.mp hr;exact⟨c,hp.mem_iff.mp hc,rfl⟩
 have hF:NR (gz rs):=⟨W,w0,w1,λr hr=>by obtain⟨c,_,rfl⟩:=mem r hr;exact Q9 c⟩
 have YR:∀r∈gz rs,Sm 250 r.1:=λr hr=>by
  obtain⟨c,hc,rfl⟩:=mem r hr;have h1:=Dd (JO I c);have h2:=Jg (abc (pJ I hc));have h3:=abV w0 (Q9 c);exact⟨by show(gG rs c).num.natAbs<_;left,by show(gG rs c).den<_;left⟩
 refine⟨⟨I.n1,I.n2,hF,by have:=I.len;left,λr hr=>?_,λr hr=>?_,YR,?_,?_,250,⟨λq hq=>?_,by unfold eQ;rw[List.length_map];left,by unfold eQ;rw[List.length_map];left⟩⟩,hF⟩
 ·obtain⟨c,hc,rfl⟩:=mem r hr;rcases gD.mp hc with h|⟨s,hs,rfl⟩
  ·exact nomatch h
  ·exact(I.lot s hs).srt
 ·obtain⟨c,hc,rfl⟩:=mem r hr;exact pJ I hc
 ·have e:(gz rs).map (·.1)=(bH (bz [] rs)).map λc=>1*gG rs c:=by
   unfold gz;rw[List.map_map];exact aak λc _=>by show gG rs c=1*gG rs c;rw[Rat.one_mul]
  rw[e];have h:=ju (λr:Row=>sortI r.2) (λr=>r.1) (λ_=>1) (hp.nodup_iff.mpr (ny (rs:=rs) aaR)) rs λr hr=>hp.mem_iff.mpr (gD.mpr (.inr ⟨r,hr,rfl⟩));unfold gG;rw[h];have e2:(rs.map λr=>1*r.1)=rs.map (·.1):=aak λr _=>Rat.one_mul _;rw[e2];exact I.one
 ·have e:(gz rs).map (·.2)=bH (bz [] rs):=by
   unfold gz;rw[List.map_map];exact(aak λ_ _=>rfl).trans (List.map_id _)
  rw[e];exact ox (ny aaR)
 ·obtain⟨r,hr,rfl⟩:=List.mem_map.mp hq;exact YR r hr
end
noncomputable def F_:ah:=[.asg (.nm 5) (.bf .tuple1 [(.bf .cY [(.v 4)])]),.mut 1033 2 [(.bin .add (.cz 1031 [(.v 2),(.v 5),(.int 0)]) (.v 3)),(.v 5)]]
def Ik:ah:=[.ex (.call 73 [(.v 0)]),.asg (.nm 1) (.call 14 [(.ix (.v 0) (.int 1))]),.asg (.nm 2) (.cz 1030 []),.fr (.tp [3,4]) (.seq (.ix (.v 1) (.int 1))) F_,.ret (.call 18 [(.ix (.v 0) (.int 0)),(.v 2),(.ix (.v 1) (.int 0))])]
def NN(m:av):Prop:=∀n rs,Dp (Rw n) 250 n rs->rs.length<=24->m [b6 n rs]=ok (lE .ow n (gz rs))
theorem zH(Φ:aT)(P:JX Φ)(b:Nat)(c0 c1:aC):∀(l:aH) (ks:af) (w:aa->Int) (c3 c4 c5:aC),(∀r∈l,r.2.length<=12)->ks.length+l.length<900->(∀c,c∉ks->w c=0) ->
  ∃Bk mI me,dw (λd ρ=>b8 (.tp [3,4]) d ρ) (λρ=>bC Φ F_ ρ) (kl b l) [c0,c1,some (om .ow ks w),c3,c4,c5]=ok (.nx,[c0,c1,some (om .ow (bz ks l) λc=>w c+jT b l c),Bk,mI,me])
 |[],ks,w,c3,c4,c5,_,_,_=>⟨c3,c4,c5,by
   have:(λc=>w c+jT b [] c)=w:=funext λc=>by show w c+0=w c;left
   rw[this];rfl⟩
 |r::l,ks,w,c3,c4,c5,hr,hl,hz=>by
  rw[List.length_cons]at hl;have Ei:=hr r aaf;have g1:=λf=>Uz P (e:=D.int) I9 f ks w 0 (sortI r.2) (hz _);have g2:=BY P (ks:=ks) (by left) w (sortI r.2) (aZ b r.1);have hk:=fC ks (sortI r.2);obtain⟨d3,d4,d5,ih⟩:=zH Φ P b c0 c1 l (aP ks (sortI r.2)) (fA w (sortI r.2) (aZ b r.1)) (some (.int (aZ b r.1))) (some (.tup (ag r.2))) (some (.tup (ag (sortI r.2)))) (λs hs=>hr s (aad _ hs)) (by left) (λc hc=>by
   unfold fA;rw[if_neg λz=>hc (cI.mpr (.inr z))];exact hz c λz=>hc (cI.mpr (.inl z)))
  have ef:(λc=>fA w (sortI r.2) (aZ b r.1) c+jT b l c)=λc=>w c+jT b (r::l) c:=funext λc=>by
   have e:jT b (r::l) c=(if sortI r.2=c then aZ b r.1 else 0)+jT b l c:=rfl;rw[e];unfold fA;by_cases z:c=sortI r.2
   ·rw[if_pos z,if_pos z.symm];left
   ·rw[if_neg z,if_neg (Ne.symm z)];left
  rw[ef]at ih;have es:m8 .cY [.tup (ag r.2)]=ok (.lst .ow (ag (sortI r.2))):=sW (by left);have et:m8 .tuple1 [.lst .ow (ag (sortI r.2))]=ok (.tup (ag (sortI r.2))):=by
   show ok (D.tup (aA bo (ag (sortI r.2))))=_;rw[bQ]
  refine⟨d3,d4,d5,cL (x:=.tup [.int (aZ b r.1),.tup (ag r.2)]) (ρ1:=[c0,c1,some (om .ow ks w),some (.int (aZ b r.1)),some (.tup (ag r.2)),c5]) (by simp) (ρ2:=[c0,c1,some (om .ow (aP ks (sortI r.2)) (fA w (sortI r.2) (aZ b r.1))),some (.int (aZ b r.1)),some (.tup (ag r.2)),some (.tup (ag (sortI r.2)))]) ?_ ih⟩;have x1:=J2 (Φ:=Φ) (p:=1033) (i:=2) (es:=[(.bin .add (.cz 1031 [(.v 2),(.v 5),(.int 0)]) (.v 3)),(.v 5)]) (ρ:=[c0,c1,some (om .ow ks w),some (.int (aZ b r.1)),some (.tup (ag r.2)),some (.tup (ag (sortI r.2)))]) (xs:=[.int (w (sortI r.2)+aZ b r.1),.tup (ag (sortI r.2))]) (by
   have m:=sD bo .ow ks w;have g1':Φ 1031 [om .al ks w,.tup (ag (sortI r.2)),.int 0]=ok (.int (w (sortI r.2))):=g1 .al;simp[m,bo,g1']) (by simp) rfl g2
  simp only[List.set]at x1;have a1:lD Φ (.asg (.nm 5) (.bf .tuple1 [(.bf .cY [(.v 4)])])) [c0,c1,some (om .ow ks w),some (.int (aZ b r.1)),some (.tup (ag r.2)),c5]=ok (.nx,[c0,c1,some (om .ow ks w),some (.int (aZ b r.1)),some (.tup (ag r.2)),some (.tup (ag (sortI r.2)))]):=by
   simp[es,et]
  rw[F_,bT,a1];show bC Φ [.mut 1033 2 _] _=_;rw[bT,x1];rfl
theorem U2(Φ:aT)(P:JX Φ)(MG:gJ (Φ 14))(h18:JU (Φ 18))(MA:pQ (Φ 73)):NN (mk Φ 1 6 Ik):=by
 intro n rs I hf;have e1:=MA 250 n rs I;obtain⟨k',sk⟩:=I.sl;have e2:=MG rs k' sk;obtain⟨b0,b1,b2⟩:=I.bot;have w2:∀r∈rs,r.1.den∣bj (eQ rs):=λr hr=>b2 _ (aaq hr);generalize bj (eQ rs)=b at *;have WB:∀r∈rs,r.2.length<=12:=λr hr=>aau (I.lot r hr).2.1 I.n2;have hll:=oP (rs:=rs) (ks:=[]);have hp:(bH (bz [] rs)).Perm (bz [] rs):=aaJ _ _;obtain⟨c3,c4,c5,el⟩:=zH Φ P b (some (b6 n rs)) (some (.tup [.int b,.lst .fz (kl b rs)])) rs [] (λ_=>0) none none none WB (by simp;left) (λ_ _=>rfl);have ew:(λc=>(0:Int)+jT b rs c)=jT b rs:=funext λc=>by left
 rw[ew]at el;have e3:=h18 .fz n (bz [] rs) ((bz [] rs).map (jT b rs)) b (by simp) (by simp at hll;left) (by left) (aaj (show(b:Int).natAbs<2 ^ 250 by simpa using b1) (aam (by decide) (by decide)));have ed:xO (bz [] rs) ((bz [] rs).map (jT b rs)) b=gz rs:=by
  have hg:∀c∈bH (bz [] rs),gZ (bz [] rs) ((bz [] rs).map (jT b rs)) c=jT b rs c:=λc hc=>by
   unfold gZ;rw[kX,if_pos (hp.mem_iff.mp hc)];rfl
  have hq:∀c∈bH (bz [] rs),0<jT b rs c/\Rat.divInt (jT b rs c) b=gG rs c:=λc hc=>by
   have wD:=pJ I (hp.mem_iff.mp hc);have ht:=yn c w2;have hb:=eU b0;have qm:(0:Rat)<(b:Rat):=by exact_mod_cast b0
   refine⟨?_,?_⟩
   ·have:(0:Rat)<((jT b rs c:Int):Rat):=by rw[ht];exact abF wD qm
    exact_mod_cast this
   ·rw[Rat.divInt_eq_div,ht,Rat.intCast_natCast];grind
  unfold xO gz;rw[List.filter_eq_self.mpr λc hc=>by rw[hg c hc];exact decide_eq_true (hq c hc).1];exact aak λc hc=>by rw[hg c hc,(hq c hc).2]
 rw[ed]at e3;have e3:Φ 18 [.int n,om .fz (bz [] rs) (jT b rs),.int b]=ok (lE .ow n (gz rs)):=by
  have:ag ((bz [] rs).map (jT b rs))=(bz [] rs).map λk=>.int (jT b rs k):=by unfold ag;rw[List.map_map];rfl
  rw[this]at e3;exact e3
 have m1:aS aW (b6 n rs)=b6 n rs:=by simp[b6]
 have m2:aS bo (b6 n rs)=b6 n rs:=by simp[b6]
 have hd:b6 n rs=.tup [.int n,.lst .fz (cf rs)]:=rfl;have x0:AE (b6 n rs) (.int 0)=ok (.int n):=by rw[hd];simp
 have x1:AE (b6 n rs) (.int 1)=ok (.lst .fz (cf rs)):=by rw[hd];simp
 have e0:Φ 1030 []=ok (om .ow [] λ_=>0):=by rw[P.JE];rfl
 have hit:cB Φ (.seq (.ix (.v 1) (.int 1))) [some (b6 n rs),some (.tup [.int b,.lst .ow (kl b rs)]),some (om .ow [] λ_=>0),none,none,none]=ok (kl b rs,[some (b6 n rs),some (.tup [.int b,.lst .fz (kl b rs)]),some (om .ow [] λ_=>0),none,none,none]):=by
  rw[AF (f:=.al) (ds:=kl b rs) (by simp)];simp[gN]
 have Q6:=dS (Φ:=Φ) (t:=.tp [3,4]) (b:=F_) hit el;have o2:∀ks w,aR bF (om .ow ks w)=false:=λks w=>Hz _ _ _ _;have o3:∀f ks w,aS bo (om f ks w)=om (bo f) ks w:=λf ks w=>sD _ _ _ _;have o4:∀f ks w,aS aW (om f ks w)=om (aW f) ks w:=λf ks w=>sD _ _ _ _;simp[mk_eq,Ik,m1,m2,x0,x1,e0,e1,e2,o2,Q6,o3,o4,bo,aW,e3,lE]
variable {d':D}{Φ:aT}{ρ:bc}
theorem OC{p i:Nat}{k e:CE}{kd d x:D}(h1:bp Φ k ρ=ok kd)(h2:bp Φ e (ρ.set i none)=ok d)(h3:ρ[i]?=some (some x))(h4:aR anyF kd=false)(h5:aR anyF d=false)(h6:Φ p [x,kd,d]=ok d'):lD Φ (.mu2 p i k e) ρ=ok (.nx,ρ.set i (some d')):=by
 show bd (bp Φ k ρ) (λkd=>bd (bp Φ e (ρ.set i none)) λd=>Ds Φ p i ρ kd d)=_;rw[h1,b_,h2,b_];unfold Ds;rw[h3];show(if aR anyF kd=false/\aR anyF d=false then bd (Φ p [x,kd,d]) λd'=>ok (Fo.nx,ρ.set i (some d'))else none)=_;rw[if_pos ⟨h4,h5⟩,h6];rfl
def qO(f:Fl)(ks:af)(g:aa->ai):D:=.dY f ks (ks.map λk=>.lst f (ba (g k)))
theorem y4(m:Fl->Fl)(f:Fl)(ks:af)(g:aa->ai):aS m (qO f ks g)=qO (m f) ks g:=by
 show D.dY (m f) ks (aA m (ks.map λk=>.lst f (ba (g k))))=_;rw[aQ,List.map_map];congr 1;exact aak λk _=>by show aS m (.lst f (ba (g k)))=_;simp
noncomputable def fU(g:aa->ai)(c:aa)(q:Rat):aa->ai:=λk=>if k=c then g k++[q]else g k
theorem uL(g:aa->ai)(c:aa)(q:Rat)(hg:(g c).length<cP):∀ks:af,ks.Nodup->(c∉ks->g c=[])->lS ks (ks.map λk=>.lst .ow (ba (g k))) c (qD q)=some ((aP ks c).map λk=>.lst .ow (ba (fU g c q k)))
 |[],_,h0=>by
  have e:aP [] c=[c]:=by unfold aP;rw[if_neg (by simp)];rfl
  have e2:fU g c q c=[q]:=by unfold fU;rw[if_pos rfl,h0 (by simp)];rfl
  rw[e,List.map_cons,e2];rfl
 |k::ks,hn,h0=>by
  obtain⟨h1,h2⟩:=List.nodup_cons.mp hn;show(if k=c then(match C5 (.lst .ow (ba (g k)))with|some gs=>if gs.length<cP then some (.lst .ow (gs++[qD q])::ks.map λk=>.lst .ow (ba (g k)))else none|none=>none)else(lS ks (ks.map λk=>.lst .ow (ba (g k))) c (qD q)).map (D.lst .ow (ba (g k)) :: ·))=_;by_cases e:k=c
  ·subst e;rw[if_pos rfl];show(if (ba (g k)).length<cP then some (D.lst .ow (ba (g k)++[qD q])::ks.map λk=>.lst .ow (ba (g k)))else none)=_;rw[if_pos (by simpa using hg)];have ek:aP (k::ks) k=k::ks:=by unfold aP;rw[if_pos List.mem_cons_self]
   rw[ek,List.map_cons];congr 2
   ·unfold fU;rw[if_pos rfl];simp[ba]
   ·refine aak λj hj=>?_;unfold fU;rw[if_neg λz:j=k=>h1 (z▸hj)]
  ·rw[if_neg e,uL g c q hg ks h2 λz=>h0 λm=>(List.mem_cons.mp m).elim (λw=>e w.symm) z];have ek:aP (k::ks) c=k::aP ks c:=by
    unfold aP;by_cases m:c∈ks
    ·rw[if_pos m,if_pos (List.mem_cons_of_mem _ m)]
    ·rw[if_neg m,if_neg λz=>(List.mem_cons.mp z).elim (λw=>e w.symm) m];rfl
   rw[ek,List.map_cons];have e2:fU g c q k=g k:=by unfold fU;rw[if_neg e]
   rw[e2];rfl
theorem uZ(lot:aa)(h:Int):dX (.tup [.tup (ag lot),.int h])=some (h::lot):=by
 show PL (D.tup (lot.map D.int),D.int h)=_;unfold PL;have:keyOf (.tup (lot.map D.int))=some lot:=bD lot;show(match keyOf (.tup (lot.map D.int))with|some c=>Ta c (.int h)|none=>none)=_;rw[this];rfl
variable {ks:af}
theorem PC(kW:Φ 1200=xh)(hn:ks.Nodup)(hl:ks.length<1000)(g:aa->ai)(lot:aa)(h:Int)(q:Rat)(hg:(g (h::lot)).length<1000)(h0:h::lot∉ks->g (h::lot)=[]):Φ 1200 [qO .ow ks g,.tup [.tup (ag lot),.int h],qD q]=ok (qO .ow (aP ks (h::lot)) (fU g (h::lot) q)):=by
 rw[kW];show(match dX (.tup [.tup (ag lot),.int h])with|some c=>(match lS ks (ks.map λk=>.lst .ow (ba (g k))) c (qD q)with|some ws=>if cK .ow=true/\ks.length<cP then ok (D.dY .ow (aP ks c) ws)else none|none=>none)|none=>none)=_;rw[uZ];show(match lS ks (ks.map λk=>.lst .ow (ba (g k))) (h::lot) (qD q)with|some ws=>if cK .ow=true/\ks.length<cP then ok (D.dY .ow (aP ks (h::lot)) ws)else none|none=>none)=_;rw[uL g _ q (by show _<1000000;left) ks hn h0];exact aa0 ⟨rfl,by show _<1000000;left⟩
theorem PM(pd:Φ 1062=xi)(g:aa->ai)(lot:aa)(h:Int)(hm:h::lot∈ks):Φ 1062 [qO .fz ks g,.tup [.tup (ag lot),.int h]]=ok (.lst .fz (ba (g (h::lot)))):=by
 rw[pd];show(match dX (.tup [.tup (ag lot),.int h])with|some c=>(match bJ ks (ks.map λk=>D.lst .fz (ba (g k))) c with|some v=>if aR oE v=false then ok v else none|none=>none)|none=>none)=_;rw[uZ];show(match bJ ks (ks.map λk=>D.lst .fz (ba (g k))) (h::lot)with|some v=>if aR oE v=false then ok v else none|none=>none)=_;rw[kX (λk=>D.lst .fz (ba (g k))),if_pos hm];exact aa0 (by simp[oE])
noncomputable def j3(c:aa)(q:Rat)(zs:List (Int×Rat))(k:aa):ai:=(zs.filter λz=>decide (z.1::c=k)).map λz=>q*z.2
def ze(c:aa)(ks:af)(zs:List (Int×Rat)):af:=zs.foldl (λks z=>aP ks (z.1::c)) ks
noncomputable def DS:ah:=[.mu2 1200 3 (.tup [(.v 6),(.v 7)]) (.call 6 [(.ix (.v 4) (.int 0)),(.v 8)])]
def F9:ah:=[.asg (.nm 6) (.bf .tuple1 [(.bf .cY [(.ix (.v 4) (.int 1))])]),.fr (.tp [7,8]) (.qN 1015 [(.ix (.v 4) (.int 1)),(.v 5)]) DS]
abbrev qc(c0 c1 c2:aC)(ks:af)(g:aa->ai)(c4 c5 c6 c7 c8:aC):bc:=[c0,c1,c2,some (qO .ow ks g),c4,c5,c6,c7,c8,none,none]
theorem kO{c:aa}:∀{zs:List (Int×Rat)} {ks:af} {k:aa},k∈ze c ks zs ↔ k∈ks\/∃z∈zs,z.1::c=k
 |[],ks,k=>by simp[ze]
 |z::zs,ks,k=>by
  show k∈ze c (aP ks (z.1::c)) zs ↔ _;rw[kO,cI];constructor
  ·rintro ((h|h)|⟨s,h1,h2⟩)
   ·exact .inl h
   ·exact .inr ⟨z,aaf,h.symm⟩
   ·exact .inr ⟨s,aad _ h1,h2⟩
  ·rintro (h|⟨s,h1,h2⟩)
   ·exact .inl (.inl h)
   ·rcases List.mem_cons.mp h1 with rfl|h1
    ·exact .inl (.inr h2.symm)
    ·exact .inr ⟨s,h1,h2⟩
theorem DF{c:aa}:∀{zs:List (Int×Rat)} {ks:af},ks.Nodup->(ze c ks zs).Nodup
 |[],_,h=>h
 |z::zs,ks,h=>DF (zs:=zs) (kP h _)
theorem zd{c:aa}:∀{zs:List (Int×Rat)} {ks:af},(ze c ks zs).length<=ks.length+zs.length
 |[],ks=>aal _
 |z::zs,ks=>by
  have:=zd (c:=c) (zs:=zs) (ks:=aP ks (z.1::c));have h:=fC ks (z.1::c);show(ze c (aP ks (z.1::c)) zs).length<=_;rw[List.length_cons];left
theorem vO(Φ:aT)(h6:h_ (Φ 6))(kW:Φ 1200=xh){j:Nat}(hj:j<=2900)(c0 c1 c2 c5:aC)(r:Row)(hr:Sm 24 r.1)(c:aa):∀(zs:List (Int×Rat)) (ks:af) (g:aa->ai) (c7 c8:aC) (B:Nat),(∀z∈zs,Sm j z.2)->ks.Nodup->ks.length+zs.length<900->B+zs.length<900->(∀k,(g k).length<=B)->(∀k,k∉ks->g k=[]) ->
  ∃Xz Xy,dw (λd ρ=>b8 (.tp [7,8]) d ρ) (λρ=>bC Φ DS ρ) (zs.map λz=>.tup [.int z.1,qD z.2]) (qc c0 c1 c2 ks g (some (rD r)) c5 (some (.tup (ag c))) c7 c8)=ok (.nx,qc c0 c1 c2 (ze c ks zs) (λk=>g k++j3 c r.1 zs k) (some (rD r)) c5 (some (.tup (ag c))) Xz Xy)
 |[],ks,g,c7,c8,B,_,_,_,_,_,_=>⟨c7,c8,by
   have:(λk=>g k++j3 c r.1 [] k)=g:=funext λk=>List.append_nil _;rw[this];rfl⟩
 |z::zs,ks,g,c7,c8,B,hz,hn,hl,hB,hg,h0=>by
  rw[List.length_cons]at hl hB;have s:=hz z aaf;have e1:=h6 r.1 z.2 (hr.mono (by decide)) (s.mono (by left));have e2:=PC kW hn (by left) g c z.1 (r.1*z.2) (by have:=hg (z.1::c);left) (h0 _);have hk:=fC ks (z.1::c);obtain⟨d7,d8,ih⟩:=vO Φ h6 kW hj c0 c1 c2 c5 r hr c zs (aP ks (z.1::c)) (fU g (z.1::c) (r.1*z.2)) (some (.int z.1)) (some (qD z.2)) (B+1) (λy hy=>hz y (aad _ hy)) (kP hn _) (by left) (by left) (λk=>by
   unfold fU;have:=hg k;split
   ·rw[List.length_append,List.length_singleton];left
   ·left) (λk D6=>by
   unfold fU;rw[if_neg λw=>D6 (cI.mpr (.inr w))];exact h0 k λw=>D6 (cI.mpr (.inl w)))
  have ef:(λk=>fU g (z.1::c) (r.1*z.2) k++j3 c r.1 zs k)=λk=>g k++j3 c r.1 (z::zs) k:=funext λk=>by
   unfold fU j3;by_cases w:k=z.1::c
   ·rw[if_pos w,List.filter_cons_of_pos (by simpa using w.symm)];simp
   ·rw[if_neg w,List.filter_cons_of_neg (by simpa using Ne.symm w)]
  rw[ef]at ih;have er:rD r=.tup [qD r.1,.tup (ag r.2)]:=rfl;refine⟨d7,d8,cL (ρ1:=qc c0 c1 c2 ks g (some (rD r)) c5 (some (.tup (ag c))) (some (.int z.1)) (some (qD z.2))) (by simp) (ρ2:=qc c0 c1 c2 (aP ks (z.1::c)) (fU g (z.1::c) (r.1*z.2)) (some (rD r)) c5 (some (.tup (ag c))) (some (.int z.1)) (some (qD z.2))) ?_ ih⟩;have x1:=OC (Φ:=Φ) (p:=1200) (i:=3) (k:=.tup [(.v 6),(.v 7)]) (e:=.call 6 [(.ix (.v 4) (.int 0)),(.v 8)]) (ρ:=qc c0 c1 c2 ks g (some (rD r)) c5 (some (.tup (ag c))) (some (.int z.1)) (some (qD z.2))) (kd:=.tup [.tup (ag c),.int z.1]) (d:=qD (r.1*z.2)) (by simp) (by simp[er,e1]) rfl (by simp) (by simp) e2;rw[DS,bT,x1];rfl
theorem zG(Φ:aT)(h6:h_ (Φ 6))(i4:Φ 1015=iL)(kW:Φ 1200=xh){j:Nat}(hj:j<=2900)(c0 c1 c2:aC):∀(ps:List Rg) (ks:af) (g:aa->ai) (c4 c5 c6 c7 c8:aC) (B:Nat),(∀p∈ps,Sm 24 p.1.1/\p.1.2.length<=12/\p.2.length=p.1.2.length/\∀q∈p.2,Sm j q)->ks.Nodup->ks.length+12*ps.length<900->B+12*ps.length<900->(∀k,(g k).length<=B)->(∀k,k∉ks->g k=[]) ->
  ∃mI me Ie Xz Xy,dw (λd ρ=>b8 (.tp [4,5]) d ρ) (λρ=>bC Φ F9 ρ) (ps.map tY) (qc c0 c1 c2 ks g c4 c5 c6 c7 c8)=ok (.nx,qc c0 c1 c2 (ps.foldl (λks p=>ze (sortI p.1.2) ks (p.1.2.zip p.2)) ks) (λk=>g k++ps.flatMap λp=>j3 (sortI p.1.2) p.1.1 (p.1.2.zip p.2) k) mI me Ie Xz Xy)
 |[],ks,g,c4,c5,c6,c7,c8,B,_,_,_,_,_,_=>⟨c4,c5,c6,c7,c8,by
   have:(λk=>g k++[].flatMap λp:Rg=>j3 (sortI p.1.2) p.1.1 (p.1.2.zip p.2) k)=g:=funext λk=>List.append_nil _;rw[this];rfl⟩
 |p::ps,ks,g,c4,c5,c6,c7,c8,B,hp,hn,hl,hB,hg,h0=>by
  rw[List.length_cons]at hl hB;obtain⟨p1,p2,p3,p4⟩:=hp p aaf;have hzl:(p.1.2.zip p.2).length<=12:=by rw[List.length_zip];left
  obtain⟨d7,d8,ei⟩:=vO Φ h6 kW hj c0 c1 c2 (some (.lst .fz (ba p.2))) p.1 p1 (sortI p.1.2) (p.1.2.zip p.2) ks g c7 c8 B (λz hz=>p4 _ (aaz hz).2) hn (by left) (by left) hg h0;have hk:=zd (c:=sortI p.1.2) (zs:=p.1.2.zip p.2) (ks:=ks);obtain⟨e4,e5,e6,e7,e8,ih⟩:=zG Φ h6 i4 kW hj c0 c1 c2 ps (ze (sortI p.1.2) ks (p.1.2.zip p.2)) (λk=>g k++j3 (sortI p.1.2) p.1.1 (p.1.2.zip p.2) k) (some (rD p.1)) (some (.lst .fz (ba p.2))) (some (.tup (ag (sortI p.1.2)))) d7 d8 (B+12) (λq hq=>hp q (aad _ hq)) (DF hn) (by left) (by left) (λk=>by
   have h1:=hg k;have h2:(j3 (sortI p.1.2) p.1.1 (p.1.2.zip p.2) k).length<=(p.1.2.zip p.2).length:=by unfold j3;rw[List.length_map];exact abz _ _
   rw[List.length_append];left) (λk D6=>by
   have h1:=h0 k λw=>D6 (kO.mpr (.inl w));have h2:j3 (sortI p.1.2) p.1.1 (p.1.2.zip p.2) k=[]:=by
    unfold j3;rw[List.filter_eq_nil_iff.mpr λz hz w=>D6 (kO.mpr (.inr ⟨z,hz,by simpa using w⟩))];rfl
   rw[h1,h2];rfl)
  have ef:(λk=>(g k++j3 (sortI p.1.2) p.1.1 (p.1.2.zip p.2) k)++ps.flatMap λp=>j3 (sortI p.1.2) p.1.1 (p.1.2.zip p.2) k)=λk=>g k++(p::ps).flatMap λp=>j3 (sortI p.1.2) p.1.1 (p.1.2.zip p.2) k:=funext λk=>by
   rw[List.flatMap_cons,List.append_assoc]
  rw[ef]at ih;have er:rD p.1=.tup [qD p.1.1,.tup (ag p.1.2)]:=rfl;have es:m8 .cY [.tup (ag p.1.2)]=ok (.lst .ow (ag (sortI p.1.2))):=sW (by left);have et:m8 .tuple1 [.lst .ow (ag (sortI p.1.2))]=ok (.tup (ag (sortI p.1.2))):=by
   show ok (D.tup (aA bo (ag (sortI p.1.2))))=_;rw[bQ]
  have hit:cB Φ (.qN 1015 [(.ix (.v 4) (.int 1)),(.v 5)]) (qc c0 c1 c2 ks g (some (rD p.1)) (some (.lst .fz (ba p.2))) (some (.tup (ag (sortI p.1.2)))) c7 c8)=ok ((p.1.2.zip p.2).map λz=>.tup [.int z.1,qD z.2],qc c0 c1 c2 ks g (some (rD p.1)) (some (.lst .fz (ba p.2))) (some (.tup (ag (sortI p.1.2)))) c7 c8):=by
   have hI:∀ρ,cB Φ (.qN 1015 [(.ix (.v 4) (.int 1)),(.v 5)]) ρ=bd (b9 Φ [(.ix (.v 4) (.int 1)),(.v 5)] ρ) λxs=>bd (Φ 1015 xs) λd=>bd (kH d) λitems=>ok (items,if aM bF xs then iI (cW [(.ix (.v 4) (.int 1)),(.v 5)]) ρ else ρ):=λ_=>rfl;rw[hI];have ee:b9 Φ [(.ix (.v 4) (.int 1)),(.v 5)] (qc c0 c1 c2 ks g (some (rD p.1)) (some (.lst .fz (ba p.2))) (some (.tup (ag (sortI p.1.2)))) c7 c8)=ok [.tup (ag p.1.2),.lst .fz (ba p.2)]:=by simp[er]
   rw[ee,b_,i4];show ok (aA aW (List.zipWith (λx y=>D.tup [x,y]) (ag p.1.2) (ba p.2)),if aM bF [D.tup (ag p.1.2),.lst .fz (ba p.2)]then _ else _)=_;have h1:=cA aW (ag p.1.2) (ba p.2);rw[oM,bQ]at h1;have h2:aM bF [D.tup (ag p.1.2),.lst .fz (ba p.2)]=false:=by simp[bF]
   rw[h2];have h3:aA aW (List.zipWith (λx y=>D.tup [x,y]) (ag p.1.2) (ba p.2))=(p.1.2.zip p.2).map λz=>.tup [.int z.1,qD z.2]:=by
    refine acC h1 ?_;unfold ba ag;rw[List.zipWith_map,List.zip,List.map_zipWith];rfl
   rw[h3];rfl
  have hf:=dS (Φ:=Φ) (t:=.tp [7,8]) (b:=DS) hit ei;refine⟨e4,e5,e6,e7,e8,cL (x:=tY p) (ρ1:=qc c0 c1 c2 ks g (some (rD p.1)) (some (.lst .fz (ba p.2))) c6 c7 c8) (by simp[tY]) (ρ2:=qc c0 c1 c2 (ze (sortI p.1.2) ks (p.1.2.zip p.2)) (λk=>g k++j3 (sortI p.1.2) p.1.1 (p.1.2.zip p.2) k) (some (rD p.1)) (some (.lst .fz (ba p.2))) (some (.tup (ag (sortI p.1.2)))) d7 d8) ?_ ih⟩;have a1:lD Φ (.asg (.nm 6) (.bf .tuple1 [(.bf .cY [(.ix (.v 4) (.int 1))])])) (qc c0 c1 c2 ks g (some (rD p.1)) (some (.lst .fz (ba p.2))) c6 c7 c8)=ok (.nx,qc c0 c1 c2 ks g (some (rD p.1)) (some (.lst .fz (ba p.2))) (some (.tup (ag (sortI p.1.2)))) c7 c8):=by
   simp[er,es,et]
  rw[F9,bT,a1];show bC Φ [.fr (.tp [7,8]) _ DS] _=_;rw[bT,hf];rfl
noncomputable def Fp(p:Rg)(h:Int):Rat:=((p.1.2.zip p.2).map λz=>if z.1=h then z.2 else 0).sum
def qR(ps:List Rg)(c:aa)(h:Int):Rat:=(ps.map λp=>if sortI p.1.2=c then p.1.1*Fp p h else 0).sum
def gA(ps:List Rg):List Rg:=(gz (bh ps)).map λr=>(r,r.2.map λh=>qR ps r.2 h / r.1)
theorem Eu(ps:List Rg):bh (gA ps)=gz (bh ps):=by
 unfold bh gA;rw[List.map_map];exact(aak λ_ _=>rfl).trans (List.map_id _)
theorem zO(c0 c:aa)(q:Rat)(h:Int):∀zs:List (Int×Rat),(j3 c0 q zs (h::c)).sum=if c0=c then q*(zs.map λz=>if z.1=h then z.2 else 0).sum else 0
 |[]=>by
  show(0:Rat)=if c0=c then q*0 else 0
  split<;>grind
 |z::zs=>by
  have ih:=zO c0 c q h zs;unfold j3 at ih ⊢;by_cases e:z.1::c0=h::c
  ·rw[List.filter_cons_of_pos (by simpa using e),List.map_cons,List.sum_cons,ih];injection e with e1 e2
   rw[if_pos e2,if_pos e2,List.map_cons,List.sum_cons,if_pos e1];grind
  ·rw[List.filter_cons_of_neg (by simpa using e),ih];by_cases e2:c0=c
   ·have e1:z.1≠h:=λw=>e (by rw[w,e2]);rw[if_pos e2,if_pos e2,List.map_cons,List.sum_cons,if_neg e1];grind
   ·rw[if_neg e2,if_neg e2]
theorem rl(c:aa)(h:Int):∀ps:List Rg,(ps.flatMap λp=>j3 (sortI p.1.2) p.1.1 (p.1.2.zip p.2) (h::c)).sum=qR ps c h
 |[]=>rfl
 |p::ps=>by
  rw[List.flatMap_cons,nj,rl c h ps,zO];rfl
noncomputable def HM:CE:=.comp 1 (.nm 0) [10,3,6] .seq [(.v 6)] [] (.call 7 [(.call 42 [(.cz 1062 [(.v 2),(.tup [(.v 3),(.v 0)])])]),(.v 1)])
def uw:ah:=[.app 9 HM]
noncomputable def C3:ah:=[.asg (.nm 2) (.call 76 [(.v 0)]),.ex (.call 74 [(.v 1),(.ix (.v 0) (.int 1))]),.asg (.nm 3) (.cz 1060 [])]
def C2:ah:=[.fr (.tp [4,5]) (.qN 1000 [(.ix (.v 0) (.int 1)),(.v 1)]) F9]
def Je:ah:=[.asg (.nm 9) (.lst []),.fr (.tp [10,6]) (.seq (.ix (.v 2) (.int 1))) uw,.ret (.v 9)]
def E_:ah:=C3++(C2++Je)
structure Lw(j n:Nat)(ps:List Rg):Prop where
 sm:∀p∈ps,Sm 24 p.1.1
 n4:n<=4
 j6:j<=6
 Yq:(gz (bh ps)).length<=11
def Sw(m:av):Prop:=∀j n ps xs,Rk j n ps xs->Lw j n ps->m [b6 n (bh ps),.lst .fz (ez .fz ps)]=ok (.lst .ow (ez .ow (gA ps)))
section
variable (Φ:aT)(h7:NO (Φ 7))(zr:cE (Φ 42))(pd:Φ 1062=xi){ks:af}{g:aa->ai}{k:Nat}(hk:k<=150)(hg:∀c,rK k (g c))(FA:∀c,(g c).length*(k+1)<=3000)
include h7 zr pd hk hg FA
theorem HF{r:Row}(hr:Sm 250 r.1)(h0:0<r.1)(hl:r.2.length<=12)(hm:∀h∈r.2,h::r.2∈ks)(r3:ρ[3]?=some (some (qO .ow ks g)))(r6:ρ[6]?=some (some (.tup (ag r.2))))(r10:ρ[10]?=some (some (qD r.1))):bp Φ HM ρ=ok (.lst .ow (ba (r.2.map λh=>(g (h::r.2)).sum / r.1))):=by
 unfold HM;rw[cM (xs:=[.tup (ag r.2)]) (items:=r.2.map D.int) (ds:=r.2.map λh=>qD ((g (h::r.2)).sum / r.1)) (by simp[r6]) (by rw[zh,bQ];rfl) (bS λh hh=>⟨[some (.int h),some (qD r.1),some (qO .fz ks g),some (.tup (ag r.2))],by simp[bG,r3,r6,r10,y4,aW],by simp,?_⟩) (by simp;exact bZ (by left))]
 ·simp[ba,aQ]
 ·have e1:=PM pd g r.2 h (hm h hh);have e2:=zr .fz _ k (hg (h::r.2));have s:=Sm.sum (hg (h::r.2)).sm;have hb:=FA (h::r.2);have hz:r.1≠0:=λz=>by rw[z]at h0;exact absurd h0 (by decide)
  have e3:=h7.1 _ r.1 (s.mono (by rw[Nat.mul_comm];left)) (hr.mono (by decide)) hz;have o3:aS bo (qO .fz ks g)=qO .fz ks g:=y4 _ _ _ _;simp[o3,e1,e2,e3]
theorem vN(c0 c1 c2 c4 c5 c7 c8:aC):∀(l:aH) (acc:List Rg) (c6 EY:aC),(∀r∈l,Sm 250 r.1/\0<r.1/\r.2.length<=12/\∀h∈r.2,h::r.2∈ks)->acc.length+l.length<900 ->
  ∃Ie ND,dw (λd ρ=>b8 (.tp [10,6]) d ρ) (λρ=>bC Φ uw ρ) (cf l) [c0,c1,c2,some (qO .ow ks g),c4,c5,c6,c7,c8,some (.lst .ow (ez .ow acc)),EY]=ok (.nx,[c0,c1,c2,some (qO .ow ks g),c4,c5,Ie,c7,c8,some (.lst .ow (ez .ow (acc++l.map λr=>(r,r.2.map λh=>(g (h::r.2)).sum / r.1)))),ND])
 |[],acc,c6,EY,_,_=>⟨c6,EY,by simp[cf,sV]⟩
 |r::l,acc,c6,EY,hr,hl=>by
  rw[List.length_cons]at hl;obtain⟨r1,r2,r3,r4⟩:=hr r aaf;have e1:=HF Φ h7 zr pd hk hg FA r1 r2 r3 r4 (ρ:=[c0,c1,c2,some (qO .ow ks g),c4,c5,some (.tup (ag r.2)),c7,c8,some (.lst .ow (ez .ow acc)),some (qD r.1)]) rfl rfl rfl;obtain⟨d6,T6,ih⟩:=vN c0 c1 c2 c4 c5 c7 c8 l (acc++[(r,r.2.map λh=>(g (h::r.2)).sum / r.1)]) (some (.tup (ag r.2))) (some (qD r.1)) (λs hs=>hr s (aad _ hs)) (by simp;left);have hc:(ez .ow acc).length<cP:=by show _<1000000;simp;left
  have ea:ez .ow acc++[.lst .ow (ba (r.2.map λh=>(g (h::r.2)).sum / r.1))]=ez .ow (acc++[(r,r.2.map λh=>(g (h::r.2)).sum / r.1)]):=by simp[ez]
  refine⟨d6,T6,cL (x:=rD r) (ρ1:=[c0,c1,c2,some (qO .ow ks g),c4,c5,some (.tup (ag r.2)),c7,c8,some (.lst .ow (ez .ow acc)),some (qD r.1)]) (by simp[rD]) (ρ2:=[c0,c1,c2,some (qO .ow ks g),c4,c5,some (.tup (ag r.2)),c7,c8,some (.lst .ow (ez .ow (acc++[(r,r.2.map λh=>(g (h::r.2)).sum / r.1)]))),some (qD r.1)]) ?_ (ih.trans (by simp))⟩;rw[uw,bT,BJ,Qz Φ HM _ rfl,e1,kR (by simp)];generalize ez .ow acc=es at *;simp[hc,ea]
end
theorem zc{c:aa}:∀{ps:List Rg} {ks:af},(c∈ks\/∃p∈ps,∃z∈p.1.2.zip p.2,z.1::sortI p.1.2=c)->c∈ps.foldl (λks p=>ze (sortI p.1.2) ks (p.1.2.zip p.2)) ks
 |[],ks,h=>by
  rcases h with h|⟨p,hp,_⟩
  ·exact h
  ·exact nomatch hp
 |p::ps,ks,h=>by
  refine zc (ps:=ps) ?_;rcases h with h|⟨q,hq,z,hz,e⟩
  ·exact .inl (kO.mpr (.inl h))
  ·rcases List.mem_cons.mp hq with rfl|hq
   ·exact .inl (kO.mpr (.inr ⟨z,hz,e⟩))
   ·exact .inr ⟨q,hq,z,hz,e⟩
theorem U1(Φ:aT)(h6:h_ (Φ 6))(h7:NO (Φ 7))(zr:cE (Φ 42))(Mz:Fe (Φ 74))(WV:NN (Φ 76))(gE:Φ 1000=p5)(i4:Φ 1015=iL)(RC:Φ 1060=CK)(pd:Φ 1062=xi)(kW:Φ 1200=xh):Sw (mk Φ 2 11 E_):=by
 intro j n ps xs K Fi;have hn:=K.Qd;have hfew:=K.Bw;have e1:=WV n (bh ps) K.dr (by rw[Gw];exact hfew);have e2:=Mz j n ps xs K;have hj:=K.YB;have hj6:=Fi.j6;have hn4:=Fi.n4;obtain⟨J,_⟩:=JJ K.dr Fi.Yq;have m1:aS aW (b6 n (bh ps))=b6 n (bh ps):=by simp[b6]
 have m2:aS bo (b6 n (bh ps))=b6 n (bh ps):=by simp[b6]
 have hd:b6 n (bh ps)=.tup [.int n,.lst .fz (cf (bh ps))]:=rfl;have x1:AE (b6 n (bh ps)) (.int 1)=ok (.lst .fz (cf (bh ps))):=by rw[hd];simp
 have e0:Φ 1060 []=ok (qO .ow [] λ_=>[]):=by rw[RC];rfl
 have op:aR bF (qO .ow [] λ_=>[])=false:=rfl;have ga:bC Φ C3 [some (b6 n (bh ps)),some (.lst .fz (ez .fz ps)),none,none,none,none,none,none,none,none,none]=ok (.nx,qc (some (b6 n (bh ps))) (some (.lst .fz (ez .fz ps))) (some (lE .ow n (gz (bh ps)))) [] (λ_=>[]) none none none none none):=by
  simp[C3,m1,m2,x1,e1,e2,e0,op,bo,aW]
 have Md:∀p∈ps,Sm 24 p.1.1/\p.1.2.length<=12/\p.2.length=p.1.2.length/\∀q∈p.2,Sm j q:=λp hp=>⟨Fi.sm p hp,by have:=(K.rw hp).2.1;left,K.ln p hp,K.sw p hp⟩
 obtain⟨c4,c5,c6,c7,c8,el⟩:=zG Φ h6 i4 kW hj (some (b6 n (bh ps))) (some (.lst .fz (ez .fz ps))) (some (lE .ow n (gz (bh ps)))) ps [] (λ_=>[]) none none none none none 0 Md aaR (by simp;left) (by left) (λ_=>aal _) (λ_ _=>rfl);have eg:(λk=>[]++ps.flatMap λp=>j3 (sortI p.1.2) p.1.1 (p.1.2.zip p.2) k)=λk=>ps.flatMap λp=>j3 (sortI p.1.2) p.1.1 (p.1.2.zip p.2) k:=funext λk=>List.nil_append _;rw[eg]at el;have hkm:∀r∈gz (bh ps),∀h∈r.2,h::r.2∈ps.foldl (λks p=>ze (sortI p.1.2) ks (p.1.2.zip p.2)) []:=λr hr h hh=>by
  obtain⟨c,hc,rfl⟩:=List.mem_map.mp hr;have hc:c∈bz [] (bh ps):=(aaJ _ _).mem_iff.mp hc;rcases gD.mp hc with z|⟨s,hs,e⟩
  ·exact nomatch z
  obtain⟨p,hp,rfl⟩:=List.mem_map.mp hs;subst e;have hh':h∈p.1.2:=(sortI_perm _).mem_iff.mp hh;obtain⟨i,hi,rfl⟩:=List.mem_iff_getElem.mp hh';refine zc (.inr ⟨p,hp,(p.1.2[i],p.2[i]'(by rw[K.ln p hp];exact hi)),?_,rfl⟩);exact aax (i:=i) (by rw[List.getElem?_zip_eq_some];exact⟨aar hi,aar _⟩)
 have hgs:∀c,∀q∈(ps.flatMap λp=>j3 (sortI p.1.2) p.1.1 (p.1.2.zip p.2) c),Sm (24+j) q:=λc q hq=>by
  obtain⟨p,hp,hq⟩:=List.mem_flatMap.mp hq;obtain⟨z,hz,rfl⟩:=List.mem_map.mp hq;exact(Md p hp).1.mul ((Md p hp).2.2.2 _ (aaz (List.mem_filter.mp hz).1).2)
 have FA:∀c,(ps.flatMap λp=>j3 (sortI p.1.2) p.1.1 (p.1.2.zip p.2) c).length<=24*n:=λc=>by
  have:∀l:List Rg,(∀p∈l,p.1.2.length<=n)->(l.flatMap λp=>j3 (sortI p.1.2) p.1.1 (p.1.2.zip p.2) c).length<=l.length*n:=λl=>by
   induction l with
   |nil=>intro _;simp
   |cons p l ih =>
    intro h;have h1:=ih λq hq=>h q (aad _ hq);have h2:=h p aaf;have h3:(j3 (sortI p.1.2) p.1.1 (p.1.2.zip p.2) c).length<=(p.1.2.zip p.2).length:=by unfold j3;rw[List.length_map];exact abz _ _
    rw[List.length_zip]at h3;rw[List.flatMap_cons,List.length_append,List.length_cons,Nat.succ_mul];left
  have h1:=this ps λp hp=>(K.rw hp).2.1;exact aau h1 (aa7 _ (by left))
 have hb:∀c,(ps.flatMap λp=>j3 (sortI p.1.2) p.1.1 (p.1.2.zip p.2) c).length*(24+j+1)<=3000:=λc=>by
  have h1:(ps.flatMap λp=>j3 (sortI p.1.2) p.1.1 (p.1.2.zip p.2) c).length<=96:=by have:=FA c;left
  exact aau (aaA h1 (show 24+j+1<=31 by left)) (by decide)
 have hS:∀c,rK (24+j) (ps.flatMap λp=>j3 (sortI p.1.2) p.1.1 (p.1.2.zip p.2) c):=λc=>⟨hgs c,by
  have h1:=hb c;rw[Nat.mul_succ,Nat.mul_comm]at h1;left,by have:=FA c;left⟩
 obtain⟨d6,T6,eo⟩:=vN Φ h7 zr pd (ks:=ps.foldl (λks p=>ze (sortI p.1.2) ks (p.1.2.zip p.2)) []) (k:=24+j) (by left) hS hb (some (b6 n (bh ps))) (some (.lst .fz (ez .fz ps))) (some (b6 n (gz (bh ps)))) c4 c5 c7 c8 (gz (bh ps)) [] c6 none (λr hr=>⟨J.sm r hr,J.pos r hr,by have:=(J.lot r hr).len;left,hkm r hr⟩) (by have:=Fi.Yq;simp;left);have Xl:((gz (bh ps)).map λr=>(r,r.2.map λh=>(ps.flatMap λp=>j3 (sortI p.1.2) p.1.1 (p.1.2.zip p.2) (h::r.2)).sum / r.1))=gA ps:=by
  unfold gA;refine aak λr _=>?_;congr 1;exact aak λh _=>by rw[rl]
 rw[List.nil_append,Xl]at eo;generalize ps.foldl (λks p=>ze (sortI p.1.2) ks (p.1.2.zip p.2)) []=kk at *;generalize (λk=>ps.flatMap λp=>j3 (sortI p.1.2) p.1.1 (p.1.2.zip p.2) k)=gg at *;have hit:cB Φ (.qN 1000 [(.ix (.v 0) (.int 1)),(.v 1)]) (qc (some (b6 n (bh ps))) (some (.lst .fz (ez .fz ps))) (some (lE .ow n (gz (bh ps)))) [] (λ_=>[]) none none none none none)=ok (ps.map tY,qc (some (b6 n (bh ps))) (some (.lst .fz (ez .fz ps))) (some (lE .ow n (gz (bh ps)))) [] (λ_=>[]) none none none none none):=by
  have hI:∀ρ,cB Φ (.qN 1000 [(.ix (.v 0) (.int 1)),(.v 1)]) ρ=bd (b9 Φ [(.ix (.v 0) (.int 1)),(.v 1)] ρ) λxs=>bd (Φ 1000 xs) λd=>bd (kH d) λitems=>ok (items,if aM bF xs then iI (cW [(.ix (.v 0) (.int 1)),(.v 1)]) ρ else ρ):=λ_=>rfl;rw[hI];have:b9 Φ [(.ix (.v 0) (.int 1)),(.v 1)] (qc (some (b6 n (bh ps))) (some (.lst .fz (ez .fz ps))) (some (lE .ow n (gz (bh ps)))) [] (λ_=>[]) none none none none none)=ok [.lst .fz (cf (bh ps)),.lst .fz (ez .fz ps)]:=by simp[m2,x1,bo]
  rw[this,b_,gE];show bd (ok (D.lst .ow (List.zipWith (λx y=>D.tup [x,y]) (cf (bh ps)) (ez .fz ps)))) _=_;rw[BE,b_];have e:aA aW (ps.map tY)=ps.map tY:=cv aW (λp=>by unfold tY;simp[aW]) ps;show ok (aA aW (ps.map tY),if aM bF [D.lst .fz (cf (bh ps)),.lst .fz (ez .fz ps)]then _ else _)=_;rw[e];have:aM bF [D.lst .fz (cf (bh ps)),.lst .fz (ez .fz ps)]=false:=by
   have:=kT bF .fz ps rfl;simp[this,bF]
  rw[this];rfl
 have hf:=dS (Φ:=Φ) (t:=.tp [4,5]) (b:=F9) hit el;have gb:bC Φ C2 (qc (some (b6 n (bh ps))) (some (.lst .fz (ez .fz ps))) (some (lE .ow n (gz (bh ps)))) [] (λ_=>[]) none none none none none)=ok (.nx,qc (some (b6 n (bh ps))) (some (.lst .fz (ez .fz ps))) (some (lE .ow n (gz (bh ps)))) kk gg c4 c5 c6 c7 c8):=by
  rw[C2,bT,hf];rfl
 have Ml:cB Φ (.seq (.ix (.v 2) (.int 1))) [some (b6 n (bh ps)),some (.lst .fz (ez .fz ps)),some (lE .ow n (gz (bh ps))),some (qO .ow kk gg),c4,c5,c6,c7,c8,some (.lst .ow []),none]=ok (cf (gz (bh ps)),[some (b6 n (bh ps)),some (.lst .fz (ez .fz ps)),some (b6 n (gz (bh ps))),some (qO .ow kk gg),c4,c5,c6,c7,c8,some (.lst .ow []),none]):=by
  rw[AF (f:=.al) (ds:=cf (gz (bh ps))) (by simp[lE])];simp[gN,vS]
 have WI:=dS (Φ:=Φ) (t:=.tp [10,6]) (b:=uw) Ml eo;have g0:∀c4 c5 c6 c7 c8:aC,lD Φ (.asg (.nm 9) (.lst [])) (qc (some (b6 n (bh ps))) (some (.lst .fz (ez .fz ps))) (some (lE .ow n (gz (bh ps)))) kk gg c4 c5 c6 c7 c8)=ok (.nx,[some (b6 n (bh ps)),some (.lst .fz (ez .fz ps)),some (lE .ow n (gz (bh ps))),some (qO .ow kk gg),c4,c5,c6,c7,c8,some (.lst .ow []),none]):=λ_ _ _ _ _=>by simp
 rw[mk_eq (show[b6 n (bh ps),D.lst .fz (ez .fz ps)].length=2 from rfl)];show m7 (bC Φ E_ [some (b6 n (bh ps)),some (.lst .fz (ez .fz ps)),none,none,none,none,none,none,none,none,none])=_;rw[E_,ff Φ _ _ _ _ ga,ff Φ _ _ _ _ gb,Je,bT,g0];show m7 (bC Φ [.fr (.tp [10,6]) _ uw,.ret (.v 9)] _)=_;rw[bT,WI];have ow:aR cK (.lst .ow (ez .ow (gA ps)))=true:=by simp[cK]
 simp[ow]
def yb(ps:List Rg)(xs:ai)(c:aa):Rat:=(ps.map λp=>if sortI p.1.2=c then p.1.1*bY xs p else 0).sum
theorem FU{n:Nat}{p:Rg}(hr:Rw n p.1.2)(f:Int->Rat):bM (sortI p.1.2) (λh=>f h*Fp p h)=((p.1.2.zip p.2).map λz=>f z.1*z.2).sum:=by
 have hp:=sortI_perm p.1.2;exact ju (λz:Int×Rat=>z.1) (λz=>z.2) f (hp.nodup_iff.mpr hr.1) (p.1.2.zip p.2) λz hz=>hp.mem_iff.mpr (aaz hz).1
theorem Dm{n:Nat}(xs:ai)(c:aa):∀ps:List Rg,(∀p∈ps,Rw n p.1.2)->bM c (λh=>qR ps c h*bw xs h)=yb ps xs c
 |[],_=>by
  show(c.map λh=>(0:Rat)*bw xs h).sum=0;exact gT λh _=>Rat.zero_mul _
 |p::ps,hr=>by
  have ih:=Dm xs c ps λq hq=>hr q (aad _ hq);have e1:∀h,qR (p::ps) c h=(if sortI p.1.2=c then p.1.1*Fp p h else 0)+qR ps c h:=λ_=>rfl;have e2:yb (p::ps) xs c=(if sortI p.1.2=c then p.1.1*bY xs p else 0)+yb ps xs c:=rfl;rw[e2,<- ih];have e3:bM c (λh=>qR (p::ps) c h*bw xs h)=bM c (λh=>(if sortI p.1.2=c then p.1.1*Fp p h else 0)*bw xs h)+bM c (λh=>qR ps c h*bw xs h):=by
   rw[<- uB];exact dG λh _=>by rw[e1];grind
  rw[e3];congr 1;by_cases e:sortI p.1.2=c
  ·rw[if_pos e,dG (g:=λh=>p.1.1*(bw xs h*Fp p h)) λh _=>by rw[if_pos e];grind,iO,<- e,FU (hr p List.mem_cons_self)];congr 1;unfold bY II;congr 1;exact aak λz _=>Rat.mul_comm _ _
  ·rw[if_neg e,dG (g:=λh=>0) λh _=>by rw[if_neg e,Rat.zero_mul]];exact gT λ_ _=>rfl
theorem zip_map_self{α β:Type}(f:α->β):∀l:List α,l.zip (l.map f)=l.map λa=>(a,f a)
 |[]=>rfl
 |a::l=>by rw[List.map_cons,List.zip_cons_cons,zip_map_self f l,List.map_cons]
variable {ps:List Rg}
theorem Ja{n:Nat}(xs:ai)(hr:∀p∈ps,Rw n p.1.2)(c:aa)(q:Rat):bY xs ((q,c),c.map λh=>qR ps c h / q)=yb ps xs c / q:=by
 unfold bY II;rw[zip_map_self,List.map_map,<- Dm xs c ps hr];have e:(c.map ((λz:Int×Rat=>z.2*bw xs z.1)∘λh=>(h,qR ps c h / q)))=c.map λh=>q⁻¹*(qR ps c h*bw xs h):=aak λh _=>by
  show qR ps c h / q*bw xs h=_;rw[Rat.div_def];grind
 rw[e];show bM c (λh=>q⁻¹*(qR ps c h*bw xs h))=_;rw[iO,Rat.div_def];grind
section
variable {j n:Nat}{ps:List Rg}{xs:ai}(K:Rk j n ps xs)
include K
theorem zE:(bH (bz [] (bh ps))).Nodup/\∀p∈ps,sortI p.1.2∈bH (bz [] (bh ps)):=by
 have hp:(bH (bz [] (bh ps))).Perm (bz [] (bh ps)):=aaJ _ _;exact⟨hp.nodup_iff.mpr (ny aaR),λp h=>hp.mem_iff.mpr (gD.mpr (.inr ⟨p.1,aaq h,rfl⟩))⟩
theorem Et{c:aa}(hc:c∈bH (bz [] (bh ps))):gG (bh ps) c≠0:=by
 have hp:(bH (bz [] (bh ps))).Perm (bz [] (bh ps)):=aaJ _ _;have:=pJ K.dr (hp.mem_iff.mp hc);intro z;rw[z]at this;exact absurd this (by decide)
theorem Sd(c:aa):gG (bh ps) c=(ps.map λp=>if sortI p.1.2=c then p.1.1 else 0).sum:=by
 unfold gG bh;rw[List.map_map];rfl
theorem zF:iK (gA ps) xs=iK ps xs:=by
 obtain⟨h1,h2⟩:=zE K;have e:iK (gA ps) xs=((bH (bz [] (bh ps))).map λc=>1*yb ps xs c).sum:=by
  unfold iK gA gz;rw[List.map_map,List.map_map];congr 1;refine aak λc hc=>?_;show gG (bh ps) c*bY xs ((gG (bh ps) c,c),c.map λh=>qR ps c h / gG (bh ps) c)=_;rw[Ja xs (λp hp=>K.rw hp)];have:=Et K hc;grind
 rw[e];have h:=ju (λp:Rg=>sortI p.1.2) (λp=>p.1.1*bY xs p) (λ_=>1) h1 ps h2;unfold yb;rw[h];unfold iK;congr 1;exact aak λp _=>Rat.one_mul _
def ud(ps:List Rg)(xs:ai)(p:Rg):Rat:=yb ps xs (sortI p.1.2) / gG (bh ps) (sortI p.1.2)
theorem RN:mT ps xs - mT (gA ps) xs=(ps.map λp=>p.1.1*((bY xs p - ud ps xs p)*(bY xs p - ud ps xs p))).sum:=by
 obtain⟨h1,h2⟩:=zE K;have ea:mT (gA ps) xs=((bH (bz [] (bh ps))).map λc=>yb ps xs c / gG (bh ps) c*yb ps xs c).sum:=by
  unfold mT gA gz;rw[List.map_map,List.map_map];congr 1;refine aak λc hc=>?_;show gG (bh ps) c*(bY xs ((gG (bh ps) c,c),c.map λh=>qR ps c h / gG (bh ps) c)*bY xs ((gG (bh ps) c,c),c.map λh=>qR ps c h / gG (bh ps) c))=_;rw[Ja xs (λp hp=>K.rw hp)];have:=Et K hc;grind
 have eb:mT (gA ps) xs=((bH (bz [] (bh ps))).map λc=>yb ps xs c / gG (bh ps) c*(yb ps xs c / gG (bh ps) c)*gG (bh ps) c).sum:=by
  rw[ea];congr 1;refine aak λc hc=>?_;have:=Et K hc;grind
 have r1:=ju (λp:Rg=>sortI p.1.2) (λp=>p.1.1*bY xs p) (λc=>yb ps xs c / gG (bh ps) c) h1 ps h2;have r2:=ju (λp:Rg=>sortI p.1.2) (λp=>p.1.1) (λc=>yb ps xs c / gG (bh ps) c*(yb ps xs c / gG (bh ps) c)) h1 ps h2;have ea':mT (gA ps) xs=(ps.map λp=>ud ps xs p*(p.1.1*bY xs p)).sum:=by rw[ea];exact r1
 have Xm:mT (gA ps) xs=(ps.map λp=>ud ps xs p*ud ps xs p*p.1.1).sum:=by
  rw[eb];refine acC ?_ r2;congr 1;exact aak λc _=>by rw[Sd K]
 have eS:(ps.map λp=>p.1.1*((bY xs p - ud ps xs p)*(bY xs p - ud ps xs p))).sum=mT ps xs - 2*(ps.map λp=>ud ps xs p*(p.1.1*bY xs p)).sum+(ps.map λp=>ud ps xs p*ud ps xs p*p.1.1).sum:=by
  have:∀l:List Rg,(l.map λp=>p.1.1*((bY xs p - ud ps xs p)*(bY xs p - ud ps xs p))).sum=(l.map λp=>p.1.1*(bY xs p*bY xs p)).sum - 2*(l.map λp=>ud ps xs p*(p.1.1*bY xs p)).sum+(l.map λp=>ud ps xs p*ud ps xs p*p.1.1).sum:=λl=>by
   induction l with
   |nil=>show(0:Rat)=0 - 2*0+0;grind
   |cons p l ih=>simp only[List.map_cons,List.sum_cons,ih];grind
  exact this ps
 rw[eS,<- ea',<- Xm];grind
theorem RO:0<=mT ps xs - mT (gA ps) xs:=by
 rw[RN K];refine uE λp hp=>?_;have h1:=K.dr.pos p.1 (aaq hp);have h2:0<=(bY xs p - ud ps xs p)*(bY xs p - ud ps xs p):=by
  generalize bY xs p - ud ps xs p=t;rcases Rat.le_total (a:=0) (b:=t)with h|h
  ·exact abj h h
  ·have h':0 <= -t:=by grind
   have:=abj h' h';grind
 exact abj (abc h1) h2
end
theorem yU{α β:Type}[DecidableEq β](s:α->β)(f:α->Rat):∀{l:List α} {x:α},(l.map s).Nodup->x∈l->(l.map λy=>if s y=s x then f y else 0).sum=f x
 |y::l,x,hn,hx=>by
  rw[List.map_cons]at hn;obtain⟨h1,h2⟩:=List.nodup_cons.mp hn;rw[List.map_cons,List.sum_cons];rcases List.mem_cons.mp hx with rfl|hx
  ·rw[if_pos rfl,gT λy hy=>if_neg λz=>h1 (by rw[<- z];exact List.mem_map_of_mem hy)];grind
  ·rw[if_neg λz=>h1 (by rw[z];exact List.mem_map_of_mem hx),yU s f h2 hx];grind
noncomputable def inR(h:Int):aa->Bool
 |[]=>false
 |x::r=>decide (x=h)||inR h r
def mE(n:Nat)(r:aa):aN:=(List.range n).filter λ(k:Nat)=>!inR (k:Int) r
def m6(n:Nat)(r:aa):af:=(mE n r).map λ(k:Nat)=>r++[(k:Int)]
def mv(n:Nat)(rs:af):af:=rs.flatMap (m6 n)
def aV(n:Nat):Nat->af
 |0=>[[]]
 |k+1=>mv n (aV n k)
noncomputable def zt(n k:Nat)(r:aa):Bool:=decide (r.length=k)&&r.all λh=>decide (0<=h)&&decide (h<(n:Int))
def vh:aa->Bool
 |[]=>true
 |h::r=>!inR h r&&vh r
def JF(n k:Nat):Bool:=Cu (aV n k)&&(aV n k).all (λr=>zt n k r&&vh r)&&decide ((aV n k).length<=400)&&(decide (n<k)||decide (1<=(aV n k).length))
theorem AZ:∀n<7,∀k<5,JF n k=true:=by decide +kernel
theorem i5{n k:Nat}(hn:n<=6)(hk:k<=4):Cu (aV n k)=true/\(∀r∈aV n k,r.length=k/\(∀h∈r,0<=h/\h<(n:Int))/\vh r=true)/\(aV n k).length<=400/\(k<=n->1<=(aV n k).length):=by
 have h:=AZ n (by left) k (by left);unfold JF zt at h;simp only[Bool.and_eq_true,Bool.or_eq_true,decide_eq_true_eq,List.all_eq_true]at h;obtain⟨⟨⟨h1,h2⟩,h3⟩,h4⟩:=h;exact⟨h1,λr hr=>⟨(h2 r hr).1.1,(h2 r hr).1.2,(h2 r hr).2⟩,h3,λz=>by left⟩
def bI(rs:af):ab:=rs.map bK
theorem kI(r:aa):bK r=.tup (ag r):=rfl
@[simp]theorem Dw(g:Fl->Fl)(r:aa):aS g (bK r)=bK r:=by rw[kI];simp
@[simp]theorem Ee(g:Fl->Bool)(r:aa):aR g (bK r)=false:=by rw[kI];simp
@[simp]theorem xp(g:Fl->Fl)(rs:af):aA g (bI rs)=bI rs:=cv g (Dw g) rs
@[simp]theorem xF(g:Fl->Bool)(rs:af):aM g (bI rs)=false:=bW g (Ee g) rs
@[simp]theorem NX(rs:af):(bI rs).length=rs.length:=aaY ..
theorem Aq(a b:af):bI a++bI b=bI (a++b):=(List.map_append ..).symm
theorem vz(h:Int):∀r:aa,inD (.int h) (ag r)=inR h r
 |[]=>rfl
 |x::r=>by
  show(mF (.int x) (.int h)||inD (.int h) (ag r))=_;rw[kY,vz h r];rfl
theorem Hb(h:Int)(r:aa):fm .Ly (.int h) (bK r)=ok (.bl (!inR h r)):=by
 show(if iA (.int h)&&(ag r).all iA then ok (D.bl (!inD (.int h) (ag r)))else none)=_;have:(ag r).all iA=true:=by unfold ag;rw[List.all_map];exact List.all_eq_true.mpr λ_ _=>rfl
 rw[this,vz];rfl
theorem Iq(r s:aa)(h:r.length+s.length<=1000):cX .add (bK r) (bK s)=ok (bK (r++s)):=by
 show(if (ag r).length+(ag s).length<=cP then ok (D.tup (aA bo (ag r++ag s)))else none)=_;rw[if_pos (by simp;show _<=1000000;left)];have:ag r++ag s=ag (r++s):=by simp[ag]
 rw[this,bQ];rfl
theorem Gz(h:Int):D.tup [.int h]=bK [h]:=rfl
noncomputable def zV:CE:=.comp 1 (.nm 0) [5] .lz [(.v 0)] [(.cmp .Ly (.v 0) (.v 1))] (.bin .add (.v 1) (.tup [(.v 0)]))
theorem RV(Φ:aT){n:Nat}(hn:n<=6){r:aa}(hr:r.length<=100)(c1 c2 c3 c4:aC):bp Φ zV [some (.int n),c1,c2,c3,c4,some (bK r)]=ok (.lst .ow (bI (m6 n r))):=by
 unfold zV;rw[cM (xs:=[.int n]) (items:=(List.range n).map λ(k:Nat)=>D.int (k:Int)) (ds:=(mE n r).map λ(k:Nat)=>bK (r++[(k:Int)])) (by simp) (by rw[zi Φ (by left) (by left)];rfl) (i9 λk hk=>?_) ?_]
 ·have:((mE n r).map λ(k:Nat)=>bK (r++[(k:Int)]))=bI (m6 n r):=by simp[bI,m6,Function.comp_def]
  rw[this,xp]
 ·have:=abz (λ(k:Nat)=>!inR (k:Int) r) (List.range n);rw[List.length_range]at this;rw[List.length_map];exact bZ (by unfold mE;left)
 ·exact⟨[some (.int k),some (bK r)],by simp[bG],by simp[Hb],λ_=>by simp[Gz,Iq r [(k:Int)] (by simp;left)]⟩
theorem BI{p i:Nat}{es:aD}{xs:ab}{d:D}(h1:b9 Φ es ρ=ok xs)(h2:aM bF xs=false)(h3:ρ[i]?=some (some d))(h4:Φ p (d::xs)=ok d'):lD Φ (.mut p i es) ρ=ok (.nx,ρ.set i (some d')):=by
 show bd (b9 Φ es ρ) (λxs=>oI Φ p i (iY es xs ρ))=_;rw[h1,b_];unfold iY;rw[h2,if_neg Bool.false_ne_true];unfold oI;rw[h3];show bd (Φ p (d::xs)) _=_;rw[h4];rfl
theorem Ew{a b:af}(h:a.length+b.length<=100000):A3 [.lst .ow (bI a),.lst .ow (bI b)]=ok (.lst .ow (bI (a++b))):=by
 show(if aM anyF (bI b)=false/\(bI a).length+(bI b).length<=cP then ok (D.lst .ow (bI a++bI b))else none)=_;rw[if_pos ⟨xF _ _,by simp;show _<=1000000;left⟩,Aq]
theorem vQ(n:Nat)(r:aa):(m6 n r).length<=n:=by
 unfold m6 mE;have:=abz (λ(k:Nat)=>!inR (k:Int) r) (List.range n);rw[List.length_range]at this;rw[List.length_map];exact this
theorem wY(n:Nat)(r:aa)(rs:af):mv n (r::rs)=m6 n r++mv n rs:=List.flatMap_cons ..
def tR(m:av):Prop:=∀n k:Nat,n<=6->k<=4->m [.int n,.int k]=ok (.lst .ow (bI (aV n k)))
noncomputable def kz(w:CS):ah:=[.asg (.nm 4) (.lst []),.fr (.nm 5) (.seq (.v 2)) [w],.asg (.nm 2) (.v 4)]
def rQ:CS:=.mut 1013 4 [zV]
def fY:ah:=[.asg (.nm 2) (.lst [(.tup [])]),.fr (.nm 3) (.lz (.v 1)) (kz rQ),.ret (.v 2)]
def Grows(Φ:aT)(w:CS):Prop:=∀(n:Nat) (r:aa) (acc:af) (c1 c2 c3:aC),n<=6->r.length<=100->acc.length<=10000->bC Φ [w] [some (.int n),c1,c2,c3,some (.lst .ow (bI acc)),some (bK r)]=ok (.nx,[some (.int n),c1,c2,c3,some (.lst .ow (bI (acc++m6 n r))),some (bK r)])
theorem AY(Φ:aT)(h:Φ 1013=A3):Grows Φ rQ:=by
 intro n r acc c1 c2 c3 hn hr ha;have e1:=RV Φ hn hr c1 c2 c3 (some (.lst .ow (bI acc)));have e2:=vQ n r;have:=BI (Φ:=Φ) (p:=1013) (i:=4) (es:=[zV]) (xs:=[.lst .ow (bI (m6 n r))]) (by rw[Nn,e1];rfl) (by simp) rfl (by rw[h];exact Ew (a:=acc) (b:=m6 n r) (by left));rw[bT,rQ,this];rfl
theorem yD(Φ:aT){w:CS}(hw:Grows Φ w){n:Nat}(hn:n<=6)(c1 c2 c3:aC):∀(rs acc:af) (c5:aC),(∀r∈rs,r.length<=100)->acc.length+6*rs.length<=10000 ->
  ∃me,dw (λd ρ=>b8 (.nm 5) d ρ) (λρ=>bC Φ [w] ρ) (bI rs) [some (.int n),c1,c2,c3,some (.lst .ow (bI acc)),c5]=ok (.nx,[some (.int n),c1,c2,c3,some (.lst .ow (bI (acc++mv n rs))),me])
 |[],acc,c5,_,_=>⟨c5,by simp[mv];rfl⟩
 |r::rs,acc,c5,h,hl=>by
  have e2:=vQ n r;rw[List.length_cons]at hl;obtain⟨me,ih⟩:=yD Φ hw hn c1 c2 c3 rs (acc++m6 n r) (some (bK r)) (λx hx=>h x (aad _ hx)) (by rw[List.length_append];left);refine⟨me,cL (ρ1:=[some (.int n),c1,c2,c3,some (.lst .ow (bI acc)),some (bK r)]) (by simp) (hw n r acc c1 c2 c3 hn (h r aaf) (by left)) ?_⟩;rw[wY,<- List.append_assoc];exact ih
theorem Ao(Φ:aT){w:CS}(hw:Grows Φ w){n j:Nat}(hn:n<=6)(hj:j<4)(c1 c3 c4 c5:aC):∃mI me,bC Φ (kz w) [some (.int n),c1,some (.lst .ow (bI (aV n j))),c3,c4,c5]=ok (.nx,[some (.int n),c1,some (.lst .ow (bI (aV n (j+1)))),c3,mI,me]):=by
 obtain⟨_,g2,g3,_⟩:=i5 (k:=j) hn (by left);obtain⟨me,e⟩:=yD Φ hw hn c1 (some (.lst .fz (bI (aV n j)))) c3 (aV n j) [] c5 (λr hr=>by rw[(g2 r hr).1];left) (by simp;left);have hf:=dS (Φ:=Φ) (t:=.nm 5) (it:=.seq (.v 2)) (b:=[w]) (ρ:=[some (.int n),c1,some (.lst .ow (bI (aV n j))),c3,some (.lst .ow []),c5]) (items:=bI (aV n j)) (ρ1:=[some (.int n),c1,some (.lst .fz (bI (aV n j))),c3,some (.lst .ow []),c5]) (by rw[AF (f:=.al) (ds:=bI (aV n j)) (by simp)];simp[show gN (.v 2)=[2] from rfl]) e;refine⟨none,me,?_⟩;rw[kz];simp[hf];rfl
theorem uQ(Φ:aT){w:CS}(hw:Grows Φ w){n:Nat}(hn:n<=6)(c1:aC):∀(i j:Nat) (c3 c4 c5:aC),j+i<=4->∃Bk mI me,dw (λd ρ=>b8 (.nm 3) d ρ) (λρ=>bC Φ (kz w) ρ) ((List.range' j i).map λ(k:Nat)=>D.int (k:Int)) [some (.int n),c1,some (.lst .ow (bI (aV n j))),c3,c4,c5]=ok (.nx,[some (.int n),c1,some (.lst .ow (bI (aV n (j+i)))),Bk,mI,me])
 |0,j,c3,c4,c5,_=>⟨c3,c4,c5,rfl⟩
 |i+1,j,c3,c4,c5,h=>by
  obtain⟨d4,d5,e⟩:=Ao Φ hw hn (j:=j) (by left) c1 (some (.int j)) c4 c5;obtain⟨Bk,mI,me,ih⟩:=uQ Φ hw hn c1 i (j+1) (some (.int j)) d4 d5 (by left);refine⟨Bk,mI,me,?_⟩;rw[List.range'_succ,List.map_cons];refine cL (ρ1:=[some (.int n),c1,some (.lst .ow (bI (aV n j))),some (.int j),c4,c5]) (by simp) e ?_;rw[show j+(i+1)=j+1+i by left];exact ih
theorem Ct(Φ:aT){w:CS}(hw:Grows Φ w){n k:Nat}(hn:n<=6)(hk:k<=4):∃c3 c4 c5,lD Φ (.fr (.nm 3) (.lz (.v 1)) (kz w)) [some (.int n),some (.int k),some (.lst .ow [.tup []]),none,none,none]=ok (.nx,[some (.int n),some (.int k),some (.lst .ow (bI (aV n k))),c3,c4,c5]):=by
 obtain⟨c3,c4,c5,e⟩:=uQ Φ hw hn (some (.int k)) k 0 none none none (by left);rw[Nat.zero_add,<- List.range_eq_range']at e;exact⟨c3,c4,c5,dS (Hm (n:=k) (by simp) (by left) (by left)) e⟩
theorem uM(Φ:aT)(h:Φ 1013=A3):tR (mk Φ 2 6 fY):=by
 intro n k hn hk;obtain⟨c3,c4,c5,e⟩:=Ct Φ (AY Φ h) hn hk;simp[mk_eq,fY,e]
theorem IG{i:Nat}{op:Bool}{e:CE}{a b:Int}(h1:bp Φ e ρ=ok (.int b))(h2:ρ[i]?=some (some (.int a))):lD Φ (.aug i op e) ρ=ok (.nx,ρ.set i (some (.int (if op then a+b else a - b)))):=by
 show bd (bd (bp Φ e ρ) intD) _=_;rw[h1];show(match ρ[i]? with|some (some (.int a))=>_|_=>_)=_;rw[h2]
noncomputable def dm(ts:aa)(h:Int):Int:=ts.getD h.toNat 0
variable {ns ts:aa}
theorem ll{h:Int}(h0:0<=h)(h1:h<ts.length):ts[h.toNat]?=some (dm ts h)/\dm ts h∈ts:=by
 have hl:h.toNat<ts.length:=by left
 have e:ts[h.toNat]?=some (dm ts h):=by rw[dm,List.getD_eq_getElem?_getD,List.getElem?_eq_getElem hl];rfl
 exact⟨e,aax e⟩
theorem wV{h:Int}(h0:0<=h)(h1:h<ts.length):tJ (ag ts) h=ok (.int (dm ts h)):=by
 rw[at_of h0 (d:=.int (dm ts h)) (by rw[lZ,(ll h0 h1).1];rfl)];simp
def lC(ts:aa):Int->aa->aa
 |_,[]=>[]
 |l,h::r=>l::lC ts (l - dm ts h) r
theorem zu(ts:aa):∀(r:aa) (l:Int),(lC ts l r).length=r.length
 |[],_=>rfl
 |h::r,l=>by rw[lC,List.length_cons,List.length_cons,zu ts r]
def ue(n:Nat)(r:aa):Prop:=∀h∈r,0<=h/\h<(n:Int)
theorem ue.tl{n:Nat}{h:Int}{r:aa}(x:ue n (h::r)):ue n r:=λy hy=>x y (aad _ hy)
theorem ue.hd{n:Nat}{h:Int}{r:aa}(x:ue n (h::r)):0<=h/\h<(n:Int):=x h aaf
noncomputable def rW:ah:=[.app 3 (.v 2),.aug 2 false (.ix (.v 0) (.v 4))]
def fq:ah:=[.asg (.nm 2) (.bf .gS [(.v 0)]),.asg (.nm 3) (.lst []),.fr (.nm 4) (.seq (.v 1)) rW,.ret (.v 3)]
def tS(m:av):Prop:=∀f ts r,ue ts.length r->r.length<=100->m [.lst f (ag ts),bK r]=ok (.lst .ow (ag (lC ts ts.sum r)))
theorem qU(Φ:aT)(f:Fl)(ts:aa)(c1:aC):∀(r acc:aa) (l:Int) (c4:aC),ue ts.length r->acc.length+r.length<=1000 ->
  ∃l' mI,dw (λd ρ=>b8 (.nm 4) d ρ) (λρ=>bC Φ rW ρ) (ag r) [some (.lst f (ag ts)),c1,some (.int l),some (.lst .ow (ag acc)),c4]=ok (.nx,[some (.lst f (ag ts)),c1,some (.int l'),some (.lst .ow (ag (acc++lC ts l r))),mI])
 |[],acc,l,c4,_,_=>⟨l,c4,by rw[lC,List.append_nil];rfl⟩
 |h::r,acc,l,c4,hr,ha=>by
  rw[List.length_cons]at ha;obtain⟨l',mI,ih⟩:=qU Φ f ts c1 r (acc++[l]) (l - dm ts h) (some (.int h)) hr.tl (by rw[List.length_append,List.length_singleton];left);have hc:acc.length<cP:=by show _<1000000;left
  have e1:=wV hr.hd.1 hr.hd.2;have e2:=IG (Φ:=Φ) (i:=2) (op:=false) (e:=.ix (.v 0) (.v 4)) (ρ:=[some (.lst f (ag ts)),c1,some (.int l),some (.lst .ow (ag (acc++[l]))),some (.int h)]) (a:=l) (b:=dm ts h) (by simp[e1]) rfl;refine⟨l',mI,cL (ρ1:=[some (.lst f (ag ts)),c1,some (.int l),some (.lst .ow (ag acc)),some (.int h)]) (by simp) (ρ2:=[some (.lst f (ag ts)),c1,some (.int (l - dm ts h)),some (.lst .ow (ag (acc++[l]))),some (.int h)]) ?_ ?_⟩
  ·simp only[rW,bT,BJ];simp[hc,e2]
  ·rw[lC];rw[List.append_assoc]at ih;exact ih
theorem se(Φ:aT):tS (mk Φ 2 5 fq):=by
 intro f ts r hr hl;obtain⟨l',mI,e⟩:=qU Φ f ts (some (bK r)) r [] ts.sum none hr (by simp;left);rw[List.nil_append]at e;have hf:=dS (Φ:=Φ) (t:=.nm 4) (it:=.seq (.v 1)) (b:=rW) (ρ:=[some (.lst f (ag ts)),some (bK r),some (.int ts.sum),some (.lst .ow []),none]) (items:=ag r) (ρ1:=[some (.lst f (ag ts)),some (bK r),some (.int ts.sum),some (.lst .ow []),none]) (by rw[VY (ds:=ag r) (by simp[kI])];simp) e;simp[mk_eq,fq,hf]
def nW(r ls:aa):ab:=List.zipWith (λx y=>.tup [x,y]) (ag r) (ag ls)
theorem oJ(g:Fl->Fl):∀(r ls:aa),aA g (nW r ls)=nW r ls
 |[],_=>by simp[nW]
 |_::_,[]=>by simp[nW]
 |x::r,y::ls=>by
  show aS g (.tup [.int x,.int y])::aA g (nW r ls)=_;rw[oJ g r ls];simp;rfl
noncomputable def pC:aD:=[(.v 1),(.call 85 [(.v 0),(.v 1)])]
theorem DK(Φ:aT)(Ru:tS (Φ 85))(hz:Φ 1015=iL){f:Fl}{r:aa}(hr:ue ts.length r)(hl:r.length<=100)(ρ:bc):cB Φ (.qN 1015 pC) (some (.lst f (ag ts))::some (bK r)::ρ)=ok (nW r (lC ts ts.sum r),some (.lst f (ag ts))::some (bK r)::ρ):=by
 have e1:=λf=>Ru f ts r hr hl;have e2:b9 Φ pC (some (.lst f (ag ts))::some (bK r)::ρ)=ok [bK r,.lst .ow (ag (lC ts ts.sum r))]:=by simp[pC,e1]
 show bd (b9 Φ pC _) _=_;rw[e2,b_,hz];show ok (aA aW (nW r (lC ts ts.sum r)),if aM bF [bK r,.lst .ow (ag (lC ts ts.sum r))]then _ else _)=_;rw[oJ];simp
noncomputable def kC:ah:=[.mut 1010 2 [(.ix (.v 0) (.v 4))],.mut 1010 3 [(.v 5)]]
def eh:ah:=[.asg (.nm 2) (.int 1),.asg (.nm 3) (.int 1),.fr (.tp [4,5]) (.qN 1015 pC) kC,.ret (.call 2 [(.v 2),(.v 3)])]
theorem DR{a b:Int}(h:b.natAbs<2 ^ 64):qX [.int a,.int b]=ok (.int (a*b)):=aa0 (yX a h)
theorem mH(Φ:aT)(hm:Φ 1010=qX)(f:Fl)(ts:aa)(c1:aC)(ht:∀t∈ts,t.natAbs<2 ^ 64):∀(r:aa) (l a b:Int) (c4 c5:aC),ue ts.length r->(∀x∈lC ts l r,x.natAbs<2 ^ 64) ->
  ∃mI me,dw (λd ρ=>b8 (.tp [4,5]) d ρ) (λρ=>bC Φ kC ρ) (nW r (lC ts l r)) [some (.lst f (ag ts)),c1,some (.int a),some (.int b),c4,c5]=ok (.nx,[some (.lst f (ag ts)),c1,some (.int ((r.map (dm ts)).foldl (· * ·) a)),some (.int ((lC ts l r).foldl (· * ·) b)),mI,me])
 |[],l,a,b,c4,c5,_,_=>⟨c4,c5,rfl⟩
 |h::r,l,a,b,c4,c5,hr,hl=>by
  obtain⟨mI,me,ih⟩:=mH Φ hm f ts c1 ht r (l - dm ts h) (a*dm ts h) (b*l) (some (.int h)) (some (.int l)) hr.tl λx hx=>hl x (aad _ hx);have e1:=wV hr.hd.1 hr.hd.2;have m1:=ht _ (ll hr.hd.1 hr.hd.2).2;have m2:=hl l aaf;have x1:=BI (Φ:=Φ) (p:=1010) (i:=2) (es:=[(.ix (.v 0) (.v 4))]) (ρ:=[some (.lst f (ag ts)),c1,some (.int a),some (.int b),some (.int h),some (.int l)]) (xs:=[.int (dm ts h)]) (d:=.int a) (d':=.int (a*dm ts h)) (by simp[e1]) (by simp) rfl (by rw[hm];exact DR m1);have x2:=BI (Φ:=Φ) (p:=1010) (i:=3) (es:=[(.v 5)]) (ρ:=[some (.lst f (ag ts)),c1,some (.int (a*dm ts h)),some (.int b),some (.int h),some (.int l)]) (xs:=[.int l]) (d:=.int b) (d':=.int (b*l)) (by simp) (by simp) rfl (by rw[hm];exact DR m2);refine⟨mI,me,cL (x:=.tup [.int h,.int l]) (xs:=nW r (lC ts (l - dm ts h) r)) (ρ1:=[some (.lst f (ag ts)),c1,some (.int a),some (.int b),some (.int h),some (.int l)]) (by simp) (ρ2:=[some (.lst f (ag ts)),c1,some (.int (a*dm ts h)),some (.int (b*l)),some (.int h),some (.int l)]) ?_ ih⟩;rw[kC,bT,x1];simp[x2]
structure Good(ts r:aa):Prop where
 t:∀t∈ts,0<t/\t<2 ^ 50
 wA:ue ts.length r
 len:r.length<=4
 l:∀x∈lC ts ts.sum r,0<x/\x<2 ^ 60
theorem vL:∀(xs:aa) (b:Int),b≠0->(∀x∈xs,0<x/\x<2 ^ 60)->xs.foldl (· * ·) b≠0/\(xs.foldl (· * ·) b).natAbs<=b.natAbs*2 ^ (60*xs.length)
 |[],b,h,_=>⟨h,by simp⟩
 |x::xs,b,h,hx=>by
  have h1:=hx x aaf;obtain⟨g1,g2⟩:=vL xs (b*x) (abf h (by left)) λy hy=>hx y (aad _ hy);refine⟨g1,aau g2 ?_⟩;rw[Int.natAbs_mul,List.length_cons,Nat.mul_succ,Nat.pow_add,Nat.mul_comm (2 ^ (60*xs.length)),<- Nat.mul_assoc];exact aa7 _ (abG _ (by left))
def wt(m:av):Prop:=∀f ts r,Good ts r->m [.lst f (ag ts),bK r]=ok (qD (Rat.divInt ((r.map (dm ts)).foldl (· * ·) 1) ((lC ts ts.sum r).foldl (· * ·) 1)))
theorem oA(Φ:aT)(h2:bO (Φ 2))(Ru:tS (Φ 85))(hz:Φ 1015=iL)(hm:Φ 1010=qX):wt (mk Φ 2 6 eh):=by
 intro f ts r g;obtain⟨c4,c5,e⟩:=mH Φ hm f ts (some (bK r)) (λt ht=>by have:=g.t t ht;left) r ts.sum 1 1 none none g.wA λx hx=>by have:=g.l x hx;left
 have hf:=dS (t:=.tp [4,5]) (b:=kC) (DK Φ Ru hz (f:=f) g.wA (by have:=g.len;left) [some (.int 1),some (.int 1),none,none]) e;obtain⟨n1,n2⟩:=vL (lC ts ts.sum r) 1 (by decide) g.l;have e2:=h2.1 ((r.map (dm ts)).foldl (· * ·) 1) ((lC ts ts.sum r).foldl (· * ·) 1) n1 (by
  refine aas n2 ?_;rw[zu];have:=g.len;have:2 ^ (60*r.length)<=2 ^ 240:=aam (by decide) (by left);rw[show(1:Int).natAbs=1 from rfl,Nat.one_mul];exact aas this (abD (by decide) (by decide)))
 simp[mk_eq,eh,hf,e2]
noncomputable def gB:ah:=[.aug 3 false (.int 1),.app 2 (.call 2 [(.bin .add (.v 5) (.bin .mul (.v 3) (.ix (.v 0) (.v 4)))),(.bin .mul (.bf .len [(.v 1)]) (.ix (.v 0) (.v 4)))])]
def dB:ah:=[.asg (.nm 2) (.lst []),.asg (.nm 3) (.bf .len [(.v 1)]),.fr (.tp [4,5]) (.qN 1015 pC) gB,.ret (.v 2)]
def MI(ts:aa)(n:Nat):Int->aa->ai
 |_,[]=>[]
 |l,h::r=>Rat.divInt (l+(r.length:Int)*dm ts h) ((n:Int)*dm ts h)::MI ts n (l - dm ts h) r
theorem kn(Φ:aT)(h2:bO (Φ 2))(f:Fl)(ts r0:aa)(ht:∀t∈ts,0<t/\t<2 ^ 50)(YY:r0.length<=4)(wC:1<=r0.length):∀(r:aa) (l:Int) (acc:ai) (c4 c5:aC),ue ts.length r->acc.length+r.length<=100 ->
  ∃mI me,dw (λd ρ=>b8 (.tp [4,5]) d ρ) (λρ=>bC Φ gB ρ) (nW r (lC ts l r)) [some (.lst f (ag ts)),some (bK r0),some (.lst .ow (ba acc)),some (.int r.length),c4,c5]=ok (.nx,[some (.lst f (ag ts)),some (bK r0),some (.lst .ow (ba (acc++MI ts r0.length l r))),some (.int 0),mI,me])
 |[],l,acc,c4,c5,_,_=>⟨c4,c5,by rw[MI,List.append_nil];rfl⟩
 |h::r,l,acc,c4,c5,hr,ha=>by
  rw[List.length_cons]at ha;obtain⟨mI,me,ih⟩:=kn Φ h2 f ts r0 ht YY wC r (l - dm ts h) (acc++[Rat.divInt (l+(r.length:Int)*dm ts h) ((r0.length:Int)*dm ts h)]) (some (.int h)) (some (.int l)) hr.tl (by rw[List.length_append,List.length_singleton];left);have e1:=wV hr.hd.1 hr.hd.2;have m1:=ht _ (ll hr.hd.1 hr.hd.2).2;have hc:acc.length<cP:=by show _<1000000;left
  have mk1:cX .mul (.int r.length) (.int (dm ts h))=ok (.int ((r.length:Int)*dm ts h)):=zX (by left);have mk2:cX .mul (.int r0.length) (.int (dm ts h))=ok (.int ((r0.length:Int)*dm ts h)):=zX (by left);have e2:=h2.1 (l+(r.length:Int)*dm ts h) ((r0.length:Int)*dm ts h) (abf (by left) (by left)) (by
   rw[Int.natAbs_mul];refine sG ?_;have a1:(r0.length:Int).natAbs<=4:=by left
   have a2:(dm ts h).natAbs<=2 ^ 50:=by left
   exact aas (aaA a1 a2) (by decide))
  have x1:=IG (Φ:=Φ) (i:=3) (op:=false) (e:=.int 1) (ρ:=[some (.lst f (ag ts)),some (bK r0),some (.lst .ow (ba acc)),some (.int ((h::r).length:Nat)),some (.int h),some (.int l)]) (a:=((h::r).length:Nat)) (b:=1) (by simp) rfl;have en:(((h::r).length:Nat):Int) - 1=(r.length:Int):=by rw[List.length_cons];left
  refine⟨mI,me,cL (x:=.tup [.int h,.int l]) (xs:=nW r (lC ts (l - dm ts h) r)) (ρ1:=[some (.lst f (ag ts)),some (bK r0),some (.lst .ow (ba acc)),some (.int ((h::r).length:Nat)),some (.int h),some (.int l)]) (by simp) (ρ2:=[some (.lst f (ag ts)),some (bK r0),some (.lst .ow (ba (acc++[Rat.divInt (l+(r.length:Int)*dm ts h) ((r0.length:Int)*dm ts h)]))),some (.int r.length),some (.int h),some (.int l)]) ?_ ?_⟩
  ·rw[gB,bT,x1,if_neg Bool.false_ne_true,en];simp[kI,e1,mk1,mk2,e2,hc]
  ·rw[MI];rw[List.append_assoc]at ih;exact ih
def pN(m:av):Prop:=∀f ts r,Good ts r->1<=r.length->m [.lst f (ag ts),bK r]=ok (.lst .ow (ba (MI ts r.length ts.sum r)))
theorem mO(Φ:aT)(h2:bO (Φ 2))(Ru:tS (Φ 85))(hz:Φ 1015=iL):pN (mk Φ 2 6 dB):=by
 intro f ts r g h1;obtain⟨c4,c5,e⟩:=kn Φ h2 f ts r g.t g.len h1 r ts.sum [] none none g.wA (by have:=g.len;simp;left);rw[List.nil_append]at e;have hf:=dS (t:=.tp [4,5]) (b:=gB) (DK Φ Ru hz (f:=f) g.wA (by have:=g.len;left) [some (.lst .ow []),some (.int r.length),none,none]) e;have Q6:lD Φ (.fr (.tp [4,5]) (.qN 1015 pC) gB) [some (.lst f (ag ts)),some (.tup (ag r)),some (.lst .ow []),some (.int r.length),none,none]=_:=hf;simp[mk_eq,dB,kI,Q6]
noncomputable def gR(f:Nat->Int):Nat->Int
 |0=>0
 |n+1=>gR f n+f n
theorem gQ{f g:Nat->Int}:∀n,(∀i<n,f i=g i)->gR f n=gR g n
 |0,_=>rfl
 |n+1,h=>by rw[gR,gR,gQ n λi hi=>h i (by left),h n (by left)]
theorem yq{f:Nat->Int}:∀n,(∀i<n,0<=f i)->0<=gR f n
 |0,_=>acF _
 |n+1,h=>Int.add_nonneg (yq n λi hi=>h i (by left)) (h n (by left))
theorem yt{f:Nat->Int}{h:Nat}:∀n,h<n->gR (λi=>if i=h then 0 else f i) n=gR f n - f h
 |0,z=>by left
 |n+1,z=>by
  rw[gR,gR];by_cases e:h=n
  ·subst e;rw[gQ (g:=f) h λi hi=>if_neg (by left),if_pos rfl];left
  ·rw[yt n (by left),if_neg (by left)];left
theorem oo(f:Nat->Int):∀n,gR f (n+1)=f 0+gR (λi=>f (i+1)) n
 |0=>by rw[gR,gR,gR,Int.add_comm]
 |n+1=>by rw[gR,oo f n,gR,Int.add_assoc]
theorem yr:∀ts:aa,gR (λi=>ts.getD i 0) ts.length=ts.sum
 |[]=>rfl
 |t::ts=>by rw[List.length_cons,oo,List.sum_cons,<- yr ts];rfl
def kJ(ts p:aa):Int:=gR (λi=>if inR (i:Int) p then 0 else ts.getD i 0) ts.length
theorem jr(ts:aa):kJ ts []=ts.sum:=by
 rw[<- yr];exact gQ _ λi _=>rfl
theorem o6(x h:Int)(p:aa):inR x (h::p)=(decide (h=x)||inR x p):=rfl
theorem xg{p:aa}{h:Int}(h0:0<=h)(h1:h<ts.length)(hp:inR h p=false):kJ ts (h::p)=kJ ts p - dm ts h:=by
 have e:=yt (f:=λi=>if inR (i:Int) p then 0 else ts.getD i 0) (h:=h.toNat) ts.length (by left);have e1:((h.toNat:Nat):Int)=h:=by left
 unfold kJ dm;rw[show(if inR ((h.toNat:Nat):Int) p then 0 else ts.getD h.toNat 0)=ts.getD h.toNat 0 by rw[e1,hp];rfl]at e;rw[<- e];refine gQ _ λi _=>?_;rw[o6];by_cases z:i=h.toNat
 ·rw[if_pos z,if_pos];subst z;simp[e1]
 ·rw[if_neg z];have:¬ h=(i:Int):=by left
  simp[this]
theorem Cv(ht:∀t∈ts,0<t/\t<2 ^ 50)(p:aa):0<=kJ ts p:=by
 refine yq _ λi hi=>?_;split
 ·exact acF _
 ·have:=ht (ts.getD i 0) (by rw[List.getD_eq_getElem?_getD,List.getElem?_eq_getElem hi];exact abB _);left
theorem sR{ts:aa}(ht:∀t∈ts,0<t/\t<2 ^ 50){M:Int}:∀(r p:aa),vh r=true->(∀h∈r,inR h p=false)->ue ts.length r->kJ ts p<=M->∀x∈lC ts (kJ ts p) r,0<x/\x<=M
 |[],p,_,_,_,_,x,hx=>nomatch hx
 |h::r,p,hn,hp,hr,hM,x,hx=>by
  have wB:(!inR h r&&vh r)=true:=hn;rw[Bool.and_eq_true,Bool.not_eq_true']at wB;have e:=xg hr.hd.1 hr.hd.2 (hp h aaf);have a:=ht _ (ll hr.hd.1 hr.hd.2).2;have b:=Cv ht (h::p);rcases List.mem_cons.mp (show x∈kJ ts p::lC ts (kJ ts p - dm ts h) r from hx)with rfl|hx
  ·left
  ·rw[<- e]at hx;refine sR ht r (h::p) wB.2 (λy hy=>?_) hr.tl (by left) x hx;rw[o6,hp y (List.mem_cons_of_mem _ hy),Bool.or_false];refine aa4 λz=>?_;subst z;have:∀r:aa,h∈r->inR h r=true:=λr=>by
    induction r with
    |nil=>intro h;cases h
    |cons y r ih =>
     intro hy;rw[o6];rcases List.mem_cons.mp hy with e|e
     ·rw[decide_eq_true e.symm];rfl
     ·rw[ih e,Bool.or_true]
   rw[this r hy]at wB;cases wB.1
structure tQ(qs:ai):Prop where
 l1:1<=qs.length
 l2:qs.length<=6
 pos:∀q∈qs,0<q
 sm:∀q∈qs,Sm 6 q
 sum:qs.sum=1
section
variable {qs:ai}(S:tQ qs)
include S
theorem tQ.NV:rK 6 qs:=⟨S.sm,by have:=S.l2;left,by have:=S.l2;left⟩
theorem tQ.bot:0<bj qs/\bj qs<2 ^ 37/\∀q∈qs,q.den∣bj qs:=by
 obtain⟨h1,h2,h3⟩:=S.NV.lcm;refine⟨h1,aaj h2 (aam (by decide) (by have:=S.l2;left)),h3⟩
theorem tQ.b0:((bj qs:Nat):Rat)≠0:=by
 have:=S.bot.1;intro z;have z:((bj qs:Int):Rat)=0:=by rw[Rat.intCast_natCast];exact z
 rw[Rat.intCast_eq_zero_iff]at z;left
end
def cN(qs:ai):aa:=qs.map (aZ (bj qs))
theorem lM(qs:ai):(cN qs).length=qs.length:=aaY ..
section
variable {qs:ai}(S:tQ qs)
include S
theorem tQ.tops:∀t∈cN qs,0<t/\t<2 ^ 50:=by
 intro t ht;obtain⟨q,hq,rfl⟩:=List.mem_map.mp ht;obtain⟨b1,b2,b3⟩:=S.bot;have h1:=jv (S.pos q hq);have h2:=(S.sm q hq).1;obtain⟨c,hc⟩:=b3 q hq;unfold aZ;have e:((bj qs:Nat):Int).fdiv q.den=(c:Int):=by
  rw[hc,Int.natCast_mul,Int.mul_fdiv_cancel_left _ (jI q)]
 rw[e];have c1:0<c:=by
  rcases Nat.eq_zero_or_pos c with z|z
  ·rw[z,Nat.mul_zero]at hc;left
  ·exact z
 have c2:c<=bj qs:=by rw[hc];exact abw _ q.den_pos
 refine⟨acE h1 (by left),?_⟩;have h3:q.num*(c:Int)<=64*2 ^ 37:=abN (by left) (by left) (by left) (by left);left
theorem tQ.total:(cN qs).sum=(bj qs:Int):=by
 have:=kA (b:=bj qs) (qs:=qs) S.bot.2.2;rw[S.sum,Rat.one_mul,<- Rat.intCast_natCast]at this;exact Rat.intCast_inj.mp this
theorem tQ.dm{h:Int}(h0:0<=h)(h1:h<(qs.length:Int)):((DI.dm (cN qs) h:Int):Rat)=bw qs h*(bj qs:Nat):=by
 obtain⟨e,m⟩:=fw h0 h1;have:DI.dm (cN qs) h=aZ (bj qs) (bw qs h):=by
  unfold DI.dm cN;rw[List.getD_eq_getElem?_getD,List.getElem?_map,e];rfl
 rw[this,dU (S.bot.2.2 _ m)]
theorem tQ.good{k:Nat}(hk:k<=4){r:aa}(hr:r∈aV qs.length k):Good (cN qs) r:=by
 obtain⟨_,g,_⟩:=i5 S.l2 hk;obtain⟨g1,g2,g3⟩:=g r hr;have TC:ue (cN qs).length r:=by rw[lM];exact g2
 refine⟨S.tops,TC,by left,λx hx=>?_⟩;rw[<- jr]at hx;have:=sR S.tops (M:=bj qs) r [] g3 (λ_ _=>rfl) TC (by rw[jr,S.total];left) x hx;have:=S.bot.2.1;left
end
def jl(qs:ai):Rat->Rat->aa->Rat
 |_,acc,[]=>acc
 |left,acc,h::r=>jl qs (left - bw qs h) (acc*(bw qs h / left)) r
def wQ(qs:ai)(n:Nat):Rat->aa->ai
 |_,[]=>[]
 |left,h::r=>(left / bw qs h+(r.length:Nat)) / (n:Nat)::wQ qs n (left - bw qs h) r
theorem v7{qs:ai}(S:tQ qs):∀(r:aa) (left acc:Rat) (a b l:Int),ue qs.length r->(∀x∈lC (cN qs) l r,0<x/\x<2 ^ 60)->(l:Rat)=left*(bj qs:Nat)->(a:Rat)=acc*(b:Rat)->(b:Rat)≠0 ->
  Rat.divInt ((r.map (dm (cN qs))).foldl (· * ·) a) ((lC (cN qs) l r).foldl (· * ·) b)=jl qs left acc r
 |[],left,acc,a,b,l,_,_,_,ha,hb=>by
  show Rat.divInt a b=acc;rw[Rat.divInt_eq_div,ha];grind
 |h::r,left,acc,a,b,l,hr,hl,hL,ha,hb=>by
  have t:=S.dm hr.hd.1 hr.hd.2;have l0:(l:Rat)≠0:=λz=>by
   have:=(hl l aaf).1;rw[Rat.intCast_eq_zero_iff]at z;left
  have b0:=S.b0;refine v7 S r (left - bw qs h) (acc*(bw qs h / left)) (a*dm (cN qs) h) (b*l) (l - dm (cN qs) h) hr.tl (λx hx=>hl x (aad _ hx)) ?_ ?_ ?_
  ·rw[Rat.intCast_sub,t,hL];grind
  ·rw[Rat.intCast_mul,Rat.intCast_mul,t,ha,hL];rw[hL]at l0;generalize ((bj qs:Nat):Rat)=B at *;generalize bw qs h=q at *;have:left≠0:=λz=>l0 (by rw[z];grind);grind
  ·rw[Rat.intCast_mul];exact λz=>by grind
theorem qy{qs:ai}(S:tQ qs){n:Nat}(hn:1<=n):∀(r:aa) (left:Rat) (l:Int),ue qs.length r->(l:Rat)=left*(bj qs:Nat)->MI (cN qs) n l r=wQ qs n left r
 |[],_,_,_,_=>rfl
 |h::r,left,l,hr,hL=>by
  have t:=S.dm hr.hd.1 hr.hd.2;have b0:=S.b0;have q0:bw qs h≠0:=λz=>by
   have:=S.pos _ (fw hr.hd.1 hr.hd.2).2;rw[z]at this;exact Rat.lt_irrefl this
  have n0:((n:Nat):Rat)≠0:=λz=>by
   have z:((n:Int):Rat)=0:=by rw[Rat.intCast_natCast];exact z
   rw[Rat.intCast_eq_zero_iff]at z;left
  rw[MI,wQ,qy S hn r (left - bw qs h) (l - dm (cN qs) h) hr.tl (by rw[Rat.intCast_sub,t,hL];grind)];congr 1;rw[Rat.divInt_eq_div,Rat.intCast_add,Rat.intCast_mul,Rat.intCast_mul,t,hL,Rat.intCast_natCast,Rat.intCast_natCast];generalize ((bj qs:Nat):Rat)=B at *;generalize bw qs h=q at *;generalize ((n:Nat):Rat)=N at *;generalize ((r.length:Nat):Rat)=R at *;grind
theorem Du(h:0<ns.length):qj ns∈ns:=by
 have:=(PySem.argBest_lt (λi=>ns.getD i 0) (ns.length - 1)).1;unfold qj;rw[List.getD_eq_getElem?_getD,List.getElem?_eq_getElem (by left)];exact abB _
theorem Ay{f:Fl}(h:0<ns.length):minD [.lst f (ag ns)]=ok (.int (qj ns)):=by
 show(match intsOf (ns.map D.int)with|some ns=>if 0<ns.length then ok (D.int (qj ns))else none|none=>none)=_;rw[bD];exact aa0 h
noncomputable def xZ:CE:=.comp 1 (.nm 0) [] .seq [(.v 0)] [] (.ix (.v 0) (.int 0))
def hX:ah:=[.ifs (.or [(.not (.qW (.v 0) .list)),(.cmp .lt (.bf .len [(.v 0)]) (.int 1)),(.cmp .gt (.bf .len [(.v 0)]) (.glo "MOST_SIZES" 6))]) [.ret (.bl false)] [],.ifs (.or [(.not (.call 40 [(.v 0),(.bf .len [(.v 0)])])),(.cmp .lt (.cz 1011 [xZ]) (.int 1))]) [.ret (.bl false)] [],.ret (.cmp .eq (.call 42 [(.v 0)]) (.tup [(.int 1),(.int 1)]))]
def pO(m:av):Prop:=∀f qs,tQ qs->m [.lst f (ba qs)]=ok (.bl true)
theorem G5:D.tup [.int 1,.int 1]=qD 1:=rfl
theorem xb(Φ:aT)(Og:dE (Φ 40))(zr:cE (Φ 42))(h:Φ 1011=minD):pO (mk Φ 1 1 hX):=by
 intro f qs S;have l1:=S.l1;have l2:=S.l2;have e1:=λf=>Og (.lst f (ba qs)) qs.length (by show _<=1000000;rw[GF];left);simp only[tM,decide_true]at e1;have e2:=λf=>zr f qs 6 S.NV;rw[S.sum]at e2;have e3:bp Φ xZ [some (.lst f (ba qs))]=ok (.lst .ow (ag (qs.map (·.num)))):=by
  unfold xZ;rw[cM (xs:=[.lst (bo f) (ba qs)]) (items:=ba qs) (ds:=qs.map λq=>.int q.num) (by simp) (by rw[eH];simp) (bS λq hq=>⟨[some (qD q)],by simp[bG],by simp,by simp⟩) (by simp;exact bZ (by left))];have:(qs.map λq=>D.int q.num)=ag (qs.map (·.num)):=by simp[ag]
  rw[this,bQ]
 have e4:=Ay (f:=.ow) (ns:=qs.map (·.num)) (by simp;left);have e5:¬ qj (qs.map (·.num))<1:=by
  obtain⟨q,hq,e⟩:=List.mem_map.mp (Du (ns:=qs.map (·.num)) (by simp;left));have:=jv (S.pos q hq);left
 have e6:fm .eq (qD 1) (qD 1)=ok (.bl true):=by rw[EW (vb 39 _) (vb 39 _),Ez];simp
 have a1:¬ (qs.length:Int)<1:=by left
 have a2:¬ (6:Int)<(qs.length:Int):=by left
 simp[mk_eq,hX,dv,a1,a2,e1,e2,e3,h,e4,e5,G5,e6]
noncomputable def eK:ah:=[.ifs (.not (.call 82 [(.v 0)])) [.rs 2] [],.ifs (.or [(.not (.call 0 [(.v 1)])),(.cmp .lt (.v 1) (.int 1)),(.cmp .gt (.v 1) (.bf .len [(.v 0)]))]) [.rs 10] []]
def jS(m:av):Prop:=∀f qs (k:Nat),tQ qs->1<=k->k<=qs.length->m [.lst f (ba qs),.int k]=ok .cg
theorem qi(Φ:aT)(h0:dJ (Φ 0))(h82:pO (Φ 82)):jS (mk Φ 2 2 eK):=by
 intro f qs k S h1 h2;have e1:=λf=>h82 f qs S;have e2:=h0 (.int k);have a1:¬ (k:Int)<1:=by left
 have a2:¬ (qs.length:Int)<(k:Int):=by left
 simp[mk_eq,eK,e1,e2,dF,dv,a1,a2]
def wU(qs:ai)(rs:af):ab:=rs.map λr=>.tup [qD (jl qs 1 1 r),bK r]
def uv(f:Fl)(qs:ai)(k:Nat)(rs:af):ab:=rs.map λr=>.lst f (ba (wQ qs k 1 r))
@[simp]theorem LB(g:Fl->Fl)(qs:ai)(rs:af):aA g (wU qs rs)=wU qs rs:=cv g (e:=λr=>.tup [qD (jl qs 1 1 r),bK r]) (λr=>by simp) rs
@[simp]theorem Mt(g:Fl->Bool)(qs:ai)(rs:af):aM g (wU qs rs)=false:=bW g (e:=λr=>.tup [qD (jl qs 1 1 r),bK r]) (λr=>by simp) rs
@[simp]theorem Jl(g:Fl->Fl)(f:Fl)(qs:ai)(k:Nat)(rs:af):aA g (uv f qs k rs)=uv (g f) qs k rs:=by
 unfold uv;rw[aQ,List.map_map];exact aak λr _=>by simp
theorem vI{g:Fl->Bool}{f:Fl}(h:g f=false)(qs:ai)(k:Nat)(rs:af):aM g (uv f qs k rs)=false:=bW g (e:=λr=>.lst f (ba (wQ qs k 1 r))) (λr=>by simp[h]) rs
def z6(m:av):Prop:=∀f qs (k:Nat),tQ qs->1<=k->k<=qs.length->k<=4->m [.lst f (ba qs),.int k]=ok (.tup [.int qs.length,.lst .ow (wU qs (aV qs.length k))])
def wk(m:av):Prop:=∀f qs (k:Nat),tQ qs->1<=k->k<=qs.length->k<=4->m [.lst f (ba qs),.int k]=ok (.lst .ow (uv .ow qs k (aV qs.length k)))
noncomputable def k8(e:CE):CE:=.comp 1 (.nm 0) [2] .seq [(.call 84 [(.bf .len [(.v 0)]),(.v 1)])] [] e
noncomputable def nL(e:CE):ah:=[.ex (.call 83 [(.v 0),(.v 1)]),.asg (.nm 2) (.ix (.call 41 [(.v 0)]) (.int 1)),.ret e]
def dC:ah:=nL (.tup [(.bf .len [(.v 0)]),k8 (.tup [(.call 86 [(.v 1),(.v 0)]),(.v 0)])])
def eI:ah:=nL (k8 (.call 87 [(.v 1),(.v 0)]))
theorem oi(Φ:aT)(Rv:tR (Φ 84)){e:CE}{g:aa->D}{f:Fl}{qs:ai}{k:Nat}(S:tQ qs)(hk:k<=4)(he:∀r∈aV qs.length k,bp Φ e [some (bK r),some (.lst .fz (ag (cN qs)))]=ok (g r)):bp Φ (k8 e) [some (.lst f (ba qs)),some (.int k),some (.lst .fz (ag (cN qs)))]=ok (.lst .ow (aA l5 ((aV qs.length k).map g))):=by
 have e1:=Rv qs.length k S.l2 hk;have g3:=(i5 S.l2 hk).2.2.1;unfold k8;exact cM (xs:=[.lst .ow (bI (aV qs.length k))]) (items:=bI (aV qs.length k)) (by simp[e1]) (by rw[eH];simp) (bS λr hr=>⟨[some (bK r),some (.lst .fz (ag (cN qs)))],by simp[bG],by simp,he r hr⟩) (by simp;exact bZ (by left))
section
variable (Φ:aT)(MF:ia (Φ 41))(WU:jS (Φ 83))(Rv:tR (Φ 84))
include MF WU Rv
theorem mP(h86:wt (Φ 86)):z6 (mk Φ 2 3 dC):=by
 intro f qs k S h1 h2 h4;have e1:=λf=>MF f qs 6 S.NV;have e2:=λf=>WU f qs k S h1 h2;have e3:=λf=>oi Φ Rv (e:=.tup [(.call 86 [(.v 1),(.v 0)]),(.v 0)]) (g:=λr=>.tup [qD (jl qs 1 1 r),bK r]) (f:=f) S h4 λr hr=>by
  have G:=S.good h4 hr;have:=h86 .fz (cN qs) r G;rw[v7 S r 1 1 1 1 (cN qs).sum (by have:=G.wA;rwa [lM]at this) G.l (by rw[S.total,Rat.one_mul,Rat.intCast_natCast]) (by simp) (by decide)]at this;simp[this]
 rw[show((aV qs.length k).map λr=>D.tup [qD (jl qs 1 1 r),bK r])=wU qs (aV qs.length k) from rfl]at e3;have e4:(qs.map (aZ (bj qs)))=cN qs:=rfl;simp[mk_eq,dC,nL,e1,e2,e3,e4,gN,cW]
theorem qe(h87:pN (Φ 87)):wk (mk Φ 2 3 eI):=by
 intro f qs k S h1 h2 h4;have e1:=λf=>MF f qs 6 S.NV;have e2:=λf=>WU f qs k S h1 h2;have e3:=λf=>oi Φ Rv (e:=.call 87 [(.v 1),(.v 0)]) (g:=λr=>.lst .ow (ba (wQ qs k 1 r))) (f:=f) S h4 λr hr=>by
  have G:=S.good h4 hr;have hl:=((i5 S.l2 h4).2.1 r hr).1;have:=h87 .fz (cN qs) r G (by left);rw[hl,qy S h1 r 1 (cN qs).sum (by have:=G.wA;rwa [lM]at this) (by rw[S.total,Rat.one_mul,Rat.intCast_natCast])]at this;simp[this]
 rw[show((aV qs.length k).map λr=>D.lst .ow (ba (wQ qs k 1 r)))=uv .ow qs k (aV qs.length k) from rfl]at e3;have e4:(qs.map (aZ (bj qs)))=cN qs:=rfl;have e5:=vI (g:=bF) (f:=.ow) rfl qs k (aV qs.length k);have e6:=λρ=>Qz Φ (k8 (.call 87 [(.v 1),(.v 0)])) ρ rfl;simp[mk_eq,eI,nL,e1,e2,e3,e4,e5,e6,gN,cW]
end
noncomputable def kB:ah:=[.app 5 (.bin .add (.int 1) (.bin .mod (.v 3) (.int 9))),.asg (.nm 3) (.bin .fdiv (.v 3) (.int 9))]
def k_:ah:=[.asg (.nm 3) (.call 200 [(.v 0),(.v 1)]),.asg (.nm 4) (.bin .add (.int 1) (.bin .mod (.v 3) (.v 2))),.asg (.nm 3) (.bin .fdiv (.v 3) (.v 2)),.asg (.nm 5) (.lst []),.fr (.nm 6) (.lz (.v 4)) kB,.ret (.comp 1 (.nm 0) [5] .seq [(.v 5)] [] (.call 201 [(.v 0),(.bf .gS [(.v 1)])]))]
def wm(m:av):Prop:=∀ns:aa,∃ps:aa,1<=ps.length/\ps.length<=4/\(∀p∈ps,1<=p/\p<=9)/\m [.lst .sc (ag ns),.int 0,.int 4]=ok (.lst .ow (ba (ps.map λp=>Rat.divInt p ps.sum)))
theorem mz(Φ:aT)(c0 c1 c2 c4:aC):∀(is:aN) (N:Int) (acc:aa) (c6:aC),acc.length+is.length<=100->(∀p∈acc,1<=p/\p<=9) ->
  ∃N' Ie ps,dw (λd ρ=>b8 (.nm 6) d ρ) (λρ=>bC Φ kB ρ) (is.map λ(k:Nat)=>D.int (k:Int)) [c0,c1,c2,some (.int N),c4,some (.lst .ow (ag acc)),c6]=ok (.nx,[c0,c1,c2,some (.int N'),c4,some (.lst .ow (ag ps)),Ie])/\ps.length=acc.length+is.length/\∀p∈ps,1<=p/\p<=9
 |[],N,acc,c6,_,h=>⟨N,c6,acc,rfl,rfl,h⟩
 |i::is,N,acc,c6,hl,h=>by
  rw[List.length_cons]at hl;obtain⟨f1,f2⟩:=g_ N (b:=9) (by decide);obtain⟨N',Ie,ps,e,h1,h2⟩:=mz Φ c0 c1 c2 c4 is (N.fdiv 9) (acc++[1+N.fmod 9]) (some (.int i)) (by rw[List.length_append,List.length_singleton];left) λp hp=>by
   rcases List.mem_append.mp hp with hp|hp
   ·exact h p hp
   ·rw[List.mem_singleton.mp hp];left
  have hc:acc.length<cP:=by show _<1000000;left
  refine⟨N',Ie,ps,cL (ρ1:=[c0,c1,c2,some (.int N),c4,some (.lst .ow (ag acc)),some (.int i)]) (by simp) (ρ2:=[c0,c1,c2,some (.int (N.fdiv 9)),c4,some (.lst .ow (ag (acc++[1+N.fmod 9]))),some (.int i)]) (by simp[kB,hc]) e,?_,h2⟩;rw[h1,List.length_append,List.length_singleton,List.length_cons];left
theorem uz{S:Int}:∀ps:aa,((ps.map λp=>Rat.divInt p S).sum:Rat)=(ps.sum:Int) / (S:Rat)
 |[]=>by simp;grind
 |p::ps=>by rw[List.map_cons,List.sum_cons,List.sum_cons,uz ps,Rat.divInt_eq_div,Rat.intCast_add];grind
theorem ni:∀ps:aa,(∀p∈ps,1<=p/\p<=9)->(ps.length:Int)<=ps.sum/\ps.sum<=9*(ps.length:Int)
 |[],_=>by simp
 |p::ps,h=>by
  have:=ni ps λq hq=>h q (aad _ hq);have:=h p aaf;rw[List.sum_cons,List.length_cons];left
theorem Kr{ps:aa}(l1:1<=ps.length)(l2:ps.length<=6)(h:∀p∈ps,1<=p/\p<=9):tQ (ps.map λp=>Rat.divInt p ps.sum):=by
 obtain⟨b1,b2⟩:=ni ps h;refine⟨by simpa using l1,by simpa using l2,λq hq=>?_,λq hq=>?_,?_⟩
 ·obtain⟨p,hp,rfl⟩:=List.mem_map.mp hq;rw[Rat.divInt_eq_div,Rat.div_def];exact abF (Rat.intCast_pos.mpr (by have:=h p hp;left)) (Rat.inv_pos.mpr (Rat.intCast_pos.mpr (by left)))
 ·obtain⟨p,hp,rfl⟩:=List.mem_map.mp hq;have:=h p hp;exact jq (by left) (by left) (by left)
 ·rw[uz,Rat.div_def,Rat.mul_inv_cancel];intro z;rw[Rat.intCast_eq_zero_iff]at z;left
theorem Cn(Φ:aT)(HC:x6 (Φ 200))(AX:jD (Φ 201)):wm (mk Φ 3 7 k_):=by
 intro ns;have e1:=HC ns 0 (by decide);obtain⟨f1,f2⟩:=g_ (iD ns 0) (b:=4) (by decide);obtain⟨n,hn⟩:∃n:Nat,1+(iD ns 0).fmod 4=(n:Int):=⟨(1+(iD ns 0).fmod 4).toNat,by left⟩
 obtain⟨N',Ie,ps,el,h1,h2⟩:=mz Φ (some (.lst .sc (ag ns))) (some (.int 0)) (some (.int 4)) (some (.int n)) (List.range n) ((iD ns 0).fdiv 4) [] none (by simp;left) (by simp);rw[List.length_nil,Nat.zero_add,List.length_range]at h1;have hf:=dS (Φ:=Φ) (t:=.nm 6) (it:=.lz (.v 4)) (b:=kB) (Hm (n:=n) (by simp) (by left) (by left)) el;rw[AL]at hf;obtain⟨b1,b2⟩:=ni ps h2;refine⟨ps,by left,by left,h2,?_⟩;have mD:bp Φ (.comp 1 (.nm 0) [5] .seq [(.v 5)] [] (.call 201 [(.v 0),(.bf .gS [(.v 1)])])) [some (.lst .sc (ag ns)),some (.int 0),some (.int 4),some (.int N'),some (.int n),some (.lst .ow (ag ps)),Ie]=ok (.lst .ow (ba (ps.map λp=>Rat.divInt p ps.sum))):=by
  rw[cM (xs:=[.lst .al (ag ps)]) (items:=ag ps) (ds:=ps.map λp=>qD (Rat.divInt p ps.sum)) (by simp) (by rw[eH];simp) (bS λp hp=>⟨[some (.int p),some (.lst .fz (ag ps))],by simp[bG],by simp,?_⟩) (by simp;exact bZ (by left))]
  ·have:(ps.map λp=>qD (Rat.divInt p ps.sum))=ba (ps.map λp=>Rat.divInt p ps.sum):=by simp[ba,Function.comp_def]
   rw[this,oM]
  ·have:=AX p ps.sum (by left) (sG (by left));simp[this]
 simp[mk_eq,k_,e1,hn,hf,mD]
def sA(n:Nat)(r:aa):aa:=(mE n r).map λ(k:Nat)=>(k:Int)
noncomputable def AN(h:Int):aa->aa
 |[]=>[h]
 |x::l=>if h<=x then h::x::l else x::AN h l
def QC:aa->aa
 |[]=>[]
 |h::l=>AN h (QC l)
def Ts(n k:Nat):af:=(aV n k).foldl (λks r=>aP ks (QC r)) []
def Hg:af->Bool
 |[]=>true
 |a::l=>l.all (λb=>HT.lexLt a b)&&Hg l
def Yk(n k:Nat):Bool:=(aV n k).all (λr=>(sA n r++r).isPerm ((List.range n).map λ(k:Nat)=>(k:Int))&&(decide (n<=k)||!(mE n r).isEmpty))&&decide ((Ts n k).length<=6)&&decide ((aV n k).length<=24)&&Hg (aV n k)
theorem G6:∀n<5,∀k<n+1,Yk n k=true:=by decide +kernel
theorem y8:∀{l:af},Hg l=true->tT l
 |[],_=>List.Pairwise.nil
 |a::l,h=>by
  unfold Hg at h;rw[Bool.and_eq_true,List.all_eq_true]at h;exact List.pairwise_cons.mpr ⟨h.1,y8 h.2⟩
theorem lV{n k:Nat}(hn:n<=4)(hk:k<=n):(∀r∈aV n k,(sA n r++r).Perm ((List.range n).map λ(k:Nat)=>(k:Int))/\(k<n->mE n r≠[]))/\(Ts n k).length<=6/\(aV n k).length<=24/\tT (aV n k):=by
 have h:=G6 n (by left) k (by left);unfold Yk at h;simp only[Bool.and_eq_true,Bool.or_eq_true,decide_eq_true_eq,List.all_eq_true]at h;obtain⟨⟨⟨h1,h2⟩,h3⟩,h4⟩:=h;refine⟨λr hr=>⟨List.isPerm_iff.mp (h1 r hr).1,λD6 e=>?_⟩,h2,h3,y8 h4⟩;rcases(h1 r hr).2 with z|z
 ·left
 ·rw[e]at z;cases z
theorem qJ{n k:Nat}(hn:n<=4)(hk:k<=n){r:aa}(hr:r∈aV n k)(f:Int->Rat):bM (sA n r) f+bM r f=bM ((List.range n).map λ(k:Nat)=>(k:Int)) f:=by
 have h:=((lV hn hk).1 r hr).1;have:=CQ (h.map f);rw[List.map_append,nj]at this;exact this
theorem uW:∀(qs:ai),bM ((List.range qs.length).map λ(k:Nat)=>(k:Int)) (bw qs)=qs.sum:=λqs=>by
 unfold bM;rw[List.map_map];have:(List.range qs.length).map (bw qs∘λ(k:Nat)=>(k:Int))=qs:=by
  refine abX (by simp) λi a b=>?_;rw[List.getElem_map,List.getElem_range];show qs.getD (i:Int).toNat 0=_;rw[Int.toNat_natCast,List.getD_eq_getElem?_getD,List.getElem?_eq_getElem b];rfl
 rw[this]
theorem uA{α:Type}(g:α->af)(f:aa->Rat):∀l:List α,((l.flatMap g).map f).sum=(l.map λr=>((g r).map f).sum).sum
 |[]=>rfl
 |r::l=>by rw[List.flatMap_cons,List.map_append,nj,uA g f l,List.map_cons,List.sum_cons]
theorem Ap(n k:Nat)(f:aa->Rat):((aV n (k+1)).map f).sum=((aV n k).map λr=>bM (sA n r) λh=>f (r++[h])).sum:=by
 show((mv n (aV n k)).map f).sum=_;unfold mv;rw[uA];congr 1;refine aak λr _=>?_;unfold m6 bM sA;rw[List.map_map,List.map_map];rfl
theorem Cs{n k:Nat}{r:aa}(h:r∈aV n (k+1)):∃s∈aV n k,∃x∈sA n s,r=s++[x]:=by
 have h:r∈mv n (aV n k):=h;obtain⟨s,hs,h⟩:=List.mem_flatMap.mp h;obtain⟨x,hx,rfl⟩:=List.mem_map.mp h;exact⟨s,hs,x,aaq hx,rfl⟩
theorem yp(qs:ai)(h:Int):∀(r:aa) (left acc:Rat),jl qs left acc (r++[h])=jl qs left acc r*(bw qs h / (left - bM r (bw qs)))
 |[],left,acc=>by
  show acc*(bw qs h / left)=acc*(bw qs h / (left - 0));rw[show left - 0=left by grind]
 |x::r,left,acc=>by
  show jl qs (left - bw qs x) _ (r++[h])=_;rw[yp qs h r,dN];show jl qs (left - bw qs x) (acc*(bw qs x / left)) r*_=jl qs (left - bw qs x) (acc*(bw qs x / left)) r*_;rw[show left - bw qs x - bM r (bw qs)=left - (bw qs x+bM r (bw qs)) by grind]
def wR(qs xs:ai):Rat->aa->Rat
 |_,[]=>0
 |left,h::r=>(left / bw qs h+(r.length:Nat))*bw xs h+wR qs xs (left - bw qs h) r
theorem rT(qs xs:ai)(h:Int):∀(r:aa) (left:Rat),wR qs xs left (r++[h])=wR qs xs left r+bM r (bw xs)+(left - bM r (bw qs)) / bw qs h*bw xs h
 |[],left=>by
  show(left / bw qs h+((0:Nat):Rat))*bw xs h+0=0+0+(left - 0) / bw qs h*bw xs h;rw[show left - 0=left by grind,show((0:Nat):Rat)=0 from rfl];grind
 |x::r,left=>by
  show(left / bw qs x+((r++[h]).length:Nat))*bw xs x+wR qs xs (left - bw qs x) (r++[h])=((left / bw qs x+(r.length:Nat))*bw xs x+wR qs xs (left - bw qs x) r)+_+_;rw[rT qs xs h r,dN,dN,List.length_append,List.length_singleton,show left - bw qs x - bM r (bw qs)=left - (bw qs x+bM r (bw qs)) by grind,Rat.natCast_add,show((1:Nat):Rat)=1 from rfl];grind
theorem BK(qs xs:ai){n:Nat}(hn:1<=n):∀(r:aa) (left:Rat),II (wQ qs n left r) r xs=wR qs xs left r / (n:Nat)
 |[],left=>by show(0:Rat)=0 / _;rw[Rat.div_def,Rat.zero_mul]
 |h::r,left=>by
  have ih:=BK qs xs hn r (left - bw qs h);have e:II (wQ qs n left (h::r)) (h::r) xs=(left / bw qs h+(r.length:Nat)) / (n:Nat)*bw xs h+II (wQ qs n (left - bw qs h) r) r xs:=rfl;rw[e,ih];show _=((left / bw qs h+(r.length:Nat))*bw xs h+wR qs xs (left - bw qs h) r) / _;have:=eU (M:=n) (by left);grind
theorem IJ(qs:ai)(n:Nat):∀(r:aa) (left:Rat),(wQ qs n left r).length=r.length
 |[],_=>rfl
 |h::r,left=>by
  show(wQ qs n (left - bw qs h) r).length+1=_;rw[IJ qs n r,List.length_cons]
section
variable {qs:ai}(S:tQ qs)(l4:qs.length<=4){k:Nat}
include S l4
theorem uR(hk:k<=qs.length){r:aa}(hr:r∈aV qs.length k):1 - bM r (bw qs)=bM (sA qs.length r) (bw qs):=by
 have h:=qJ l4 hk hr (bw qs);rw[uW,S.sum]at h;rw[<- h];grind
theorem Jj{n:Nat}{r:aa}{h:Int}(hh:h∈sA n r):0<=h/\h<n:=by
 obtain⟨j,hj,rfl⟩:=List.mem_map.mp hh;have:=List.mem_range.mp (List.mem_filter.mp hj).1;left
theorem sy{r:aa}{h:Int}(hh:h∈sA qs.length r):0<bw qs h:=S.pos _ (fw (Jj S l4 hh).1 (Jj S l4 hh).2).2
theorem yE(hk:k<qs.length){r:aa}(hr:r∈aV qs.length k):0<1 - bM r (bw qs):=by
 rw[uR S l4 (by left) hr];have Bu:=((lV l4 (by left)).1 r hr).2 hk;obtain⟨j,hj⟩:=List.exists_mem_of_ne_nil _ Bu;have hm:(j:Int)∈sA qs.length r:=aaq hj;have h1:=Cd (f:=bw qs) (λx hx=>abc (sy S l4 hx)) hm;have h2:=sy S l4 hm;show 0<((sA qs.length r).map (bw qs)).sum;grind
theorem qC(hk:k<qs.length)(f:aa->Rat):((aV qs.length (k+1)).map λr=>jl qs 1 1 r*f r).sum=((aV qs.length k).map λr=>jl qs 1 1 r*bM (sA qs.length r) λh=>bw qs h / (1 - bM r (bw qs))*f (r++[h])).sum:=by
 rw[Ap];congr 1;refine aak λr hr=>?_;rw[<- iO];exact dG λh _=>by rw[yp];grind
theorem Cr(hk:k<qs.length){r:aa}(hr:r∈aV qs.length k):(bM (sA qs.length r) λh=>bw qs h / (1 - bM r (bw qs)))=1:=by
 have h1:=uR S l4 (abJ hk) hr;have h2:=yE S l4 hk hr;have e:(bM (sA qs.length r) λh=>bw qs h / (1 - bM r (bw qs)))=bM (sA qs.length r) λh=>(1 - bM r (bw qs))⁻¹*bw qs h:=dG λh _=>by rw[Rat.div_def];grind
 rw[e,iO,<- h1];have:1 - bM r (bw qs)≠0:=λz=>by rw[z]at h2;exact absurd h2 (by decide)
 exact Rat.inv_mul_cancel _ this
theorem lK:∀{k:Nat},k<=qs.length->((aV qs.length k).map λr=>jl qs 1 1 r).sum=1
 |0,_=>by show(1:Rat)+0=1;grind
 |k+1,hk=>by
  have h:=qC S l4 (k:=k) (by left) λ_=>1;have e:((aV qs.length (k+1)).map λr=>jl qs 1 1 r)=(aV qs.length (k+1)).map λr=>jl qs 1 1 r*1:=aak λr _=>(Rat.mul_one _).symm;rw[e,h];refine acC ?_ (lK (k:=k) (by left));congr 1;refine aak λr hr=>?_;rw[dG (g:=λh=>bw qs h / (1 - bM r (bw qs))) λh _=>Rat.mul_one _,Cr S l4 (by left) hr,Rat.mul_one]
theorem oh{xs:ai}(hx:xs.length=qs.length):∀{k:Nat},k<=qs.length->((aV qs.length k).map λr=>jl qs 1 1 r*wR qs xs 1 r).sum=(k:Nat)*xs.sum
 |0,_=>by
  show(1:Rat)*0+0=((0:Nat):Rat)*xs.sum;rw[show((0:Nat):Rat)=0 from rfl];grind
 |k+1,hk=>by
  rw[qC S l4 (k:=k) (by left)];have ih:=oh hx (k:=k) (by left);have e:((aV qs.length k).map λr=>jl qs 1 1 r*bM (sA qs.length r) λh=>bw qs h / (1 - bM r (bw qs))*wR qs xs 1 (r++[h]))=(aV qs.length k).map λr=>jl qs 1 1 r*wR qs xs 1 r+xs.sum*jl qs 1 1 r:=aak λr hr=>by
   have hl:=yE S l4 (k:=k) (by left) hr;have YY:1 - bM r (bw qs)≠0:=λz=>by rw[z]at hl;exact absurd hl (by decide)
   have h1:=Cr S l4 (k:=k) (by left) hr;have hs:=qJ l4 (k:=k) (by left) hr (bw xs);rw[<- hx,uW,hx]at hs;have e2:(bM (sA qs.length r) λh=>bw qs h / (1 - bM r (bw qs))*wR qs xs 1 (r++[h]))=(bM (sA qs.length r) λh=>(wR qs xs 1 r+bM r (bw xs))*(bw qs h / (1 - bM r (bw qs))))+bM (sA qs.length r) (bw xs):=by
    rw[<- uB];refine dG λh hh=>?_;have hq:=sy S l4 hh;have QQ:bw qs h≠0:=λz=>by rw[z]at hq;exact absurd hq (by decide)
    rw[rT];generalize 1 - bM r (bw qs)=L at *;generalize bw qs h=q at *;generalize bM r (bw xs)=A at *;generalize wR qs xs 1 r=T at *;generalize bw xs h=x at *;have:q / L*(L / q*x)=x:=by grind
    grind
   rw[e2,iO,h1,<- hs];grind
  rw[e,rX,w5,ih,lK S l4 (k:=k) (by left),Rat.natCast_add,show((1:Nat):Rat)=1 from rfl];grind
theorem og:∀{k:Nat},k<=qs.length->∀r∈aV qs.length k,wR qs qs 1 r=(k:Nat)
 |0,_,r,hr=>by
  rw[List.mem_singleton.mp (show r∈[[]] from hr)];rfl
 |k+1,hk,r,hr=>by
  obtain⟨s,hs,h,hh,rfl⟩:=Cs hr;have hq:=sy S l4 hh;have QQ:bw qs h≠0:=λz=>by rw[z]at hq;exact absurd hq (by decide)
  rw[rT,og (k:=k) (by left) s hs,Rat.natCast_add,show((1:Nat):Rat)=1 from rfl];generalize bM s (bw qs)=A at *;generalize bw qs h=q at *;grind
end
noncomputable def dt(as:aa):ai:=as.map λp=>Rat.divInt p as.sum
@[simp]theorem dW(as:aa):(dt as).length=as.length:=aaY ..
noncomputable def Fj:Nat:=144403552893600
theorem RZ:∀L:Nat,L<37->L=0\/L∣Fj:=by decide +kernel
theorem Xv:∀k<5,∀a<10,k=0\/a=0\/k*a∣30240:=by decide +kernel
structure Fg(as:aa):Prop where
 l1:1<=as.length
 l4:as.length<=4
 p:∀a∈as,1<=a/\a<=9
section
variable {as:aa}(A:Fg as)
include A
theorem Fg.Ks:tQ (dt as):=Kr A.l1 (by have:=A.l4;left) A.p
theorem Fg.iG:1<=as.sum/\as.sum<=36:=by
 have:=ni as A.p;have:=A.l4;have:=A.l1;left
theorem Fg.O9:((as.sum:Int):Rat)≠0:=λz=>by
 have:=A.iG;rw[Rat.intCast_eq_zero_iff]at z;left
theorem Fg.at{h:Int}(h0:0<=h)(h1:h<as.length):bw (dt as) h=(dm as h:Rat) / (as.sum:Rat)/\1<=dm as h/\dm as h<=9:=by
 obtain⟨e,m⟩:=ll h0 h1;refine⟨?_,A.p _ m⟩;unfold bw dt;rw[List.getD_eq_getElem?_getD,List.getElem?_map,e];show Rat.divInt (dm as h) as.sum=_;rw[Rat.divInt_eq_div]
theorem Fg.DB{r:aa}{k:Nat}(hk:k<=as.length)(hr:r∈aV as.length k):r.length=k/\ue as.length r/\vh r=true/\∀x∈lC as as.sum r,0<x/\x<=36:=by
 have h4:=A.l4;obtain⟨_,g,_⟩:=i5 (n:=as.length) (k:=k) (by left) (by left);obtain⟨g1,g2,g3⟩:=g r hr;refine⟨g1,g2,g3,λx hx=>?_⟩;rw[<- jr]at hx;exact sR (λt ht=>by have:=A.p t ht;left) (M:=36) r [] g3 (λ_ _=>rfl) g2 (by rw[jr];exact A.iG.2) x hx
theorem JG:∀(r:aa) (left acc:Rat) (L:Int) (i:Nat),left=(L:Rat) / (as.sum:Rat)->ue as.length r->(∀x∈lC as L r,0<x/\x<=36)->0<acc->(∃M B,M<=36 ^ i/\B<=9 ^ i/\Fm M B acc)->(∃z:Int,acc*((Fj ^ i:Nat):Rat)=z) ->
  0<jl (dt as) left acc r/\(∃M B,M<=36 ^ (i+r.length)/\B<=9 ^ (i+r.length)/\Fm M B (jl (dt as) left acc r))/\∃z:Int,jl (dt as) left acc r*((Fj ^ (i+r.length):Nat):Rat)=z
 |[],left,acc,L,i,_,_,_,h1,h2,h3=>⟨h1,h2,h3⟩
 |h::r,left,acc,L,i,hL,hr,hg,h1,⟨M,B,m1,m2,m3⟩,⟨z,hz⟩=>by
  obtain⟨e,a1,a2⟩:=A.at hr.hd.1 hr.hd.2;have g:=hg L aaf;have hs:=A.O9;have hL0:((L:Int):Rat)≠0:=λz=>by rw[Rat.intCast_eq_zero_iff]at z;left
  obtain⟨l,el⟩:∃l:Nat,(l:Int)=L:=⟨L.toNat,by left⟩
  have Zq:((l:Nat):Rat)=(L:Rat):=by rw[<- el,Rat.intCast_natCast]
  have hq:bw (dt as) h / left=(dm as h:Rat) / (L:Rat):=by
   rw[e,hL];generalize ((as.sum:Int):Rat)=S at *;generalize ((L:Int):Rat)=l at *;generalize ((dm as h:Int):Rat)=a at *;grind
  have F:Fm l (dm as h).natAbs (bw (dt as) h / left):=⟨by left,dm as h,aal _,by
   rw[hq,Zq];generalize ((L:Int):Rat)=l at *;grind⟩
  have hp:0<bw (dt as) h / left:=by
   rw[hq,Rat.div_def];exact abF (Rat.intCast_pos.mpr (by left)) (Rat.inv_pos.mpr (Rat.intCast_pos.mpr (by left)))
  obtain⟨c,hc⟩:=(RZ l (by left)).resolve_left (by left);have WJ:((Fj:Nat):Rat)=(L:Rat)*(c:Rat):=by rw[hc,Rat.natCast_mul,Zq]
  have ih:=JG r (left - bw (dt as) h) (acc*(bw (dt as) h / left)) (L - dm as h) (i+1) (by rw[hL,e,Rat.intCast_sub];grind) hr.tl (λx hx=>hg x (aad _ hx)) (abF h1 hp) ⟨M*l,B*(dm as h).natAbs,by rw[Nat.pow_succ];exact aaA m1 (by left),by rw[Nat.pow_succ];exact aaA m2 (by left),m3.mul F⟩ ⟨z*(dm as h*c),by
   rw[Nat.pow_succ,Rat.natCast_mul,WJ,hq,Rat.intCast_mul,Rat.intCast_mul,<- hz,Rat.intCast_natCast];generalize ((L:Int):Rat)=l at *;generalize ((dm as h:Int):Rat)=a at *;generalize ((c:Nat):Rat)=c at *;generalize ((Fj ^ i:Nat):Rat)=N at *;have:a / l*l=a:=by grind
   grind⟩
  rw[show i+(h::r).length=i+1+r.length by rw[List.length_cons];left];exact ih
theorem RH{k:Nat}(k1:1<=k)(k4:k<=4):∀(r:aa) (left:Rat) (L:Int),left=(L:Rat) / (as.sum:Rat)->ue as.length r->(∀x∈lC as L r,0<x/\x<=36)->r.length<=4->∀w∈wQ (dt as) k left r,Sm 6 w/\Fm 30240 (63*30240) w
 |[],left,L,_,_,_,_,w,hw=>nomatch hw
 |h::r,left,L,hL,hr,hg,hl,w,hw=>by
  obtain⟨e,a1,a2⟩:=A.at hr.hd.1 hr.hd.2;have g:=hg L aaf;have hs:=A.O9;rw[List.length_cons]at hl;rcases List.mem_cons.mp hw with rfl|hw
  ·have Rq:((dm as h:Int):Rat)≠0:=λz=>by rw[Rat.intCast_eq_zero_iff]at z;left
   have YZ:=eU (M:=k) (by left);obtain⟨a,ea⟩:∃a:Nat,(a:Int)=dm as h:=⟨(dm as h).toNat,by left⟩
   have Zs:((a:Nat):Rat)=(dm as h:Rat):=by rw[<- ea,Rat.intCast_natCast]
   have ew:(left / bw (dt as) h+(r.length:Nat)) / (k:Nat)=Rat.divInt (L+r.length*a) (k*a:Nat):=by
    rw[Rat.divInt_eq_div,e,hL,<- Zs,Rat.intCast_add,Rat.intCast_mul,Rat.intCast_natCast,Rat.intCast_natCast,Rat.intCast_natCast,Rat.natCast_mul];rw[<- Zs]at Rq;generalize ((as.sum:Int):Rat)=S at *;generalize ((L:Int):Rat)=l at *;generalize ((a:Nat):Rat)=a at *;generalize ((k:Nat):Rat)=k at *;generalize ((r.length:Nat):Rat)=j at *;have:l / S / (a / S)=l / a:=by grind
    rw[this];grind
   have hka:k*a<=36:=aau (aaA k4 (show a<=9 by left)) (by decide);have Q1:0<k*a:=aci (by left) (by left);have hja:r.length*a<=27:=aau (aaA (show r.length<=3 by left) (show a<=9 by left)) (by decide);have abt:((r.length:Int)*(a:Int)).natAbs<=27:=by rw[Int.natAbs_mul];simpa using hja
   have hn0:0<=(r.length:Int)*(a:Int):=Int.mul_nonneg (by left) (by left);rw[ew];refine⟨jq (by left) (by show _<64;left) (by rw[Int.natAbs_natCast];show _<64;left),by decide,?_⟩;obtain⟨c,hc⟩:=((Xv k (by left) a (by left)).resolve_left (by left)).resolve_left (by left);have hc9:c<=30240:=by rw[hc];exact abw _ Q1
   refine⟨(L+r.length*a)*c,?_,?_⟩
   ·rw[Int.natAbs_mul,Int.natAbs_natCast];exact aaA (by left) hc9
   ·have WJ:((30240:Nat):Rat)=((k*a:Nat):Rat)*(c:Rat):=by rw[<- Rat.natCast_mul,<- hc]
    have hz:=eU Q1;rw[WJ,Rat.divInt_eq_div,Rat.intCast_mul,Rat.intCast_natCast,Rat.intCast_natCast];generalize ((k*a:Nat):Rat)=K at *;generalize ((L+r.length*a:Int):Rat)=T at *;generalize ((c:Nat):Rat)=c at *;have:T / K*K=T:=by grind
    grind
  ·exact RH k1 k4 r (left - bw (dt as) h) (L - dm as h) (by rw[hL,e,Rat.intCast_sub];grind) hr.tl (λx hx=>hg x (aad _ hx)) (by left) w hw
end
def qF(as:aa)(k:Nat):aH:=(aV as.length k).map λr=>(jl (dt as) 1 1 r,r)
def eC(as:aa)(k:Nat):List Rg:=(aV as.length k).map λr=>((jl (dt as) 1 1 r,r),wQ (dt as) k 1 r)
theorem mn(as:aa)(k:Nat):bh (eC as k)=qF as k:=by
 unfold bh eC qF;rw[List.map_map];rfl
theorem Di:∀{r:aa},vh r=true->r.Nodup
 |[],_=>aaR
 |h::r,e=>by
  unfold vh at e;rw[Bool.and_eq_true,Bool.not_eq_true']at e;refine List.nodup_cons.mpr ⟨λm=>?_,Di e.2⟩;have:∀{l:aa},h∈l->inR h l=true:=λ{l}=>by
   induction l with
   |nil=>intro z;cases z
   |cons x l ih =>
    intro z;show(decide (x=h)||inR h l)=true;rcases List.mem_cons.mp z with rfl|z
    ·simp
    ·rw[ih z];simp
  rw[this m]at e;cases e.1
theorem l3(h:Int):∀l:aa,(AN h l).Perm (h::l)
 |[]=>.refl _
 |x::l=>by
  unfold AN;split
  ·exact .refl _
  ·exact((l3 h l).cons x).trans (.swap h x l)
theorem zj(h:Int):∀{l:aa},l.Pairwise (· <= ·)->(AN h l).Pairwise (· <= ·)
 |[],_=>List.pairwise_singleton ..
 |x::l,e=>by
  obtain⟨e1,e2⟩:=List.pairwise_cons.mp e;unfold AN;split
  ·next hx=>exact List.pairwise_cons.mpr ⟨λy hy=>by
    rcases List.mem_cons.mp hy with rfl|hy
    ·exact hx
    ·have:=e1 y hy;left,e⟩
  ·next hx=>exact List.pairwise_cons.mpr ⟨λy hy=>by
    rcases List.mem_cons.mp ((l3 h l).mem_iff.mp hy)with rfl|hy
    ·left
    ·exact e1 y hy,zj h e2⟩
theorem L0(l:aa):QC l=sortI l:=by
 have h:(QC l).Perm l/\(QC l).Pairwise (· <= ·):=by
  induction l with
  |nil=>exact⟨.refl _,.nil⟩
  |cons h l ih=>exact⟨(l3 h _).trans (ih.1.cons h),zj h ih.2⟩
 exact(h.1.trans (sortI_perm l).symm).eq_of_pairwise (λa b _ _ x y=>by left) h.2 (oy l)
section
variable {as:aa}(A:Fg as){k:Nat}(k1:1<=k)(hk:k<=as.length)
include A k1 hk
theorem oj{r:aa}(hr:r∈aV as.length k):0<jl (dt as) 1 1 r/\Sm 24 (jl (dt as) 1 1 r)/\(jl (dt as) 1 1 r).den∣Fj ^ 4:=by
 obtain⟨h1,h2,_,h4⟩:=A.DB hk hr;have hs:=A.O9;have l4:=A.l4;obtain⟨a,⟨M,B,b1,b2,b3⟩,z,hz⟩:=JG A r 1 1 as.sum 0 (by grind) h2 h4 (by decide) ⟨1,1,aal _,aal _,by decide,1,by decide,by rw[Rat.one_mul];rfl⟩ ⟨1,by rw[Rat.one_mul];rfl⟩;rw[Nat.zero_add,h1]at b1 b2 hz;have hM:36 ^ k<=36 ^ 4:=aam (by decide) (by left);have hB:9 ^ k<=9 ^ 4:=aam (by decide) (by left);refine⟨a,b3.sm (aas (aau b1 hM) (by decide)) (aas (aau b2 hB) (by decide)),EK ⟨z*(Fj ^ (4 - k):Nat),?_⟩ (by decide)⟩;have e:Fj ^ 4=Fj ^ k*Fj ^ (4 - k):=by rw[<- Nat.pow_add];congr 1;left
 rw[e,Rat.natCast_mul,<- Rat.mul_assoc,hz,Rat.intCast_mul,Rat.intCast_natCast]
theorem BX:Dp (Rw as.length) 250 as.length (qF as k):=by
 have l4:=A.l4;obtain⟨_,_,o3,o4⟩:=lV l4 hk;have hl:(qF as k).length=(aV as.length k).length:=aaY ..;have mem:∀r∈qF as k,∃s∈aV as.length k,r=(jl (dt as) 1 1 s,s):=λr hr=>by
  obtain⟨s,hs,rfl⟩:=List.mem_map.mp hr;exact⟨s,hs,rfl⟩
 refine⟨A.l1,by left,⟨Fj ^ 4,by decide,by decide,λr hr=>?_⟩,by left,λr hr=>?_,λr hr=>?_,λr hr=>?_,?_,?_,24,λq hq=>?_,?_,?_⟩
 ·obtain⟨s,hs,rfl⟩:=mem r hr;exact(oj A k1 hk hs).2.2
 ·obtain⟨s,hs,rfl⟩:=mem r hr;obtain⟨h1,h2,h3,_⟩:=A.DB hk hs;exact⟨Di h3,by show s.length<=_;left,h2⟩
 ·obtain⟨s,hs,rfl⟩:=mem r hr;exact(oj A k1 hk hs).1
 ·obtain⟨s,hs,rfl⟩:=mem r hr;exact(oj A k1 hk hs).2.1.mono (by decide)
 ·have h:=lK A.Ks (by simpa using l4) (k:=k) (by simpa using hk);rw[dW]at h;unfold qF;rw[List.map_map];exact h
 ·unfold qF;rw[List.map_map];have:(aV as.length k).map ((λr:Row=>r.2)∘λr=>(jl (dt as) 1 1 r,r))=aV as.length k:=(aak λ_ _=>rfl).trans (List.map_id _);rw[this];exact o4
 ·obtain⟨r,hr,rfl⟩:=List.mem_map.mp hq;obtain⟨s,hs,rfl⟩:=mem r hr;exact(oj A k1 hk hs).2.1
 ·unfold eQ;rw[List.length_map,hl];left
 ·unfold eQ;rw[List.length_map,hl];left
theorem yk:(gz (qF as k)).length<=6:=by
 obtain⟨_,o2,_,_⟩:=lV A.l4 hk;unfold gz;rw[List.length_map,(show(bH (bz [] (qF as k))).Perm (bz [] (qF as k)) from List.mergeSort_perm _ _).length_eq];have e:bz [] (qF as k)=Ts as.length k:=by
  unfold bz qF Ts;rw[List.foldl_map];congr 1;funext ks r;rw[L0]
 rw[e];exact o2
end
theorem ya{α β:Type}:∀{a:List α} {b:List β},b.length=a.length->(a.zip b).map (·.1)=a
 |[],[],_=>rfl
 |x::a,y::b,h=>by rw[List.zip_cons_cons,List.map_cons,ya (by simpa using h)]
variable {B M:Nat}
theorem J5{n:Nat}{p:Rg}(hr:Rw n p.1.2)(hl:p.2.length=p.1.2.length)(h0:0<M)(hw:∀q∈p.2,Fm M B q)(h:Int):Fm M B (Fp p h):=by
 by_cases hz:∃z∈p.1.2.zip p.2,z.1=h
 ·obtain⟨z,hz,rfl⟩:=hz;have e:Fp p z.1=z.2:=yU (λz:Int×Rat=>z.1) (λz=>z.2) (by rw[ya hl];exact hr.1) hz;rw[e];exact hw _ (aaz hz).2
 ·have:Fp p h=0:=gT λz hz'=>ack λe=>hz ⟨z,hz',e⟩;rw[this];exact(Fm.zero h0).mono (aaK _)
theorem Jh{W M B:Nat}(c:aa)(h:Int):∀l:List Rg,(∀p∈l,0<p.1.1/\p.1.1.den∣W/\Fm M B (Fp p h))->∃z:Int,(z.natAbs:Int)<=B*jT W (bh l) c/\qR l c h*((W:Rat)*(M:Rat))=(z:Rat)
 |[],_=>⟨0,by show(0:Int)<=B*0;left,by show(0:Rat)*_=((0:Int):Rat);rw[Rat.zero_mul];rfl⟩
 |p::l,hl=>by
  obtain⟨z,z1,z2⟩:=Jh c h l λq hq=>hl q (aad _ hq);obtain⟨p1,p2,p3⟩:=hl p aaf;have e1:jT W (bh (p::l)) c=(if sortI p.1.2=c then aZ W p.1.1 else 0)+jT W (bh l) c:=rfl;have e2:qR (p::l) c h=(if sortI p.1.2=c then p.1.1*Fp p h else 0)+qR l c h:=rfl;rw[e1,e2];by_cases e:sortI p.1.2=c
  ·rw[if_pos e,if_pos e];obtain⟨_,b,b1,b2⟩:=p3;have ht:=dU p2;have h0:0<=aZ W p.1.1:=by
    have:(0:Rat)<=((aZ W p.1.1:Int):Rat):=by
     rw[ht];exact abj (abc p1) (by exact_mod_cast aaK _)
    exact_mod_cast this
   refine⟨aZ W p.1.1*b+z,?_,?_⟩
   ·have h1:(aZ W p.1.1*b).natAbs<=B*(aZ W p.1.1).natAbs:=by rw[Int.natAbs_mul,Nat.mul_comm];exact aa7 _ b1
    have h2:=Int.natAbs_add_le (aZ W p.1.1*b) z;have h3:((B*(aZ W p.1.1).natAbs:Nat):Int)=B*aZ W p.1.1:=by rw[Int.natCast_mul];congr 1;left
    rw[Int.mul_add];left
   ·rw[Rat.intCast_add,Rat.intCast_mul,ht,<- z2,<- b2];grind
  ·rw[if_neg e,if_neg e];exact⟨z,by rw[Int.zero_add];exact z1,by rw[Rat.zero_add];exact z2⟩
def wu(m:av):Prop:=∀p q,Sm 8000 p->Sm 8000 q->m [qD p,qD q]=ok (.bl (decide (p<q)))
theorem Cq(Φ:aT):wu (mk Φ 2 2 nP):=by
 intro p q hp hq;obtain⟨a,b⟩:=hp.big (by decide);obtain⟨c,d⟩:=hq.big (by decide);have e1:=dz (mulOk_of a d);have e2:=dz (mulOk_of c b);simp[mk_eq,nP,e1,e2,Rat.lt_iff]
theorem RP{n:Nat}(I:Dp (Rw n) 250 n (bh ps))(hl:∀p∈ps,p.2.length=p.1.2.length)(h0:0<M)(hw:∀p∈ps,∀q∈p.2,Fm M B q):∀p∈gA ps,p.2.length=p.1.2.length/\∃A:Nat,0<A/\A<2 ^ 250/\∀q∈p.2,Fm (M*A) (B*A) q:=λp hp=>by
 obtain⟨W,w0,w1,w2⟩:=I.fin;obtain⟨r,hr,rfl⟩:=List.mem_map.mp hp;obtain⟨c,hc,rfl⟩:=List.mem_map.mp hr;have wD:c∈bz [] (bh ps):=(aaJ _ _).mem_iff.mp hc;have Mf:=pJ I wD;have hle:=JO I c;have ht:=yn c w2;have hW:(0:Rat)<(W:Rat):=by exact_mod_cast w0
 have hA:0<jT W (bh ps) c:=by
  have:(0:Rat)<((jT W (bh ps) c:Int):Rat):=by rw[ht];exact abF Mf hW
  exact_mod_cast this
 have hAW:jT W (bh ps) c<=W:=by
  have:((jT W (bh ps) c:Int):Rat)<=((W:Int):Rat):=by
   rw[ht,Rat.intCast_natCast];have:=abq hle (abc hW)
   rwa [Rat.one_mul]at this
  exact_mod_cast this
 obtain⟨A,eA⟩:∃A:Nat,(A:Int)=jT W (bh ps) c:=⟨(jT W (bh ps) c).toNat,by left⟩
 have eAr:((A:Nat):Rat)=gG (bh ps) c*W:=by rw[<- ht,<- eA,Rat.intCast_natCast]
 refine⟨by simp,A,by left,by left,λq hq=>?_⟩;obtain⟨h,hh,rfl⟩:=List.mem_map.mp hq;show Fm _ _ (qR ps c h / gG (bh ps) c);obtain⟨z,z1,z2⟩:=Jh (W:=W) (M:=M) (B:=B) c h ps λp hp=>⟨I.pos p.1 (aaq hp),w2 p.1 (aaq hp),J5 (I.lot p.1 (aaq hp)) (hl p hp) h0 (hw p hp) h⟩
 refine⟨aci h0 (by left),z,?_,?_⟩
 ·rw[<- eA,<- Int.natCast_mul]at z1;left
 ·rw[Rat.natCast_mul,eAr,<- z2];have:gG (bh ps) c≠0:=λq=>by rw[q]at Mf;exact absurd Mf (by decide)
  generalize gG (bh ps) c=C at *;generalize qR ps c h=N at *;have:N / C*C=N:=by grind
  grind
structure Xs(n:Nat)(xs:ai):Prop where
 l:xs.length=n
 s:∀x∈xs,Sm 6 x
 f:∃X,0<X/\X<=420/\∀x∈xs,Fm X (7*X) x
section
variable {as:aa}(A:Fg as){k:Nat}(k1:1<=k)(hk:k<=as.length){xs:ai}(hx:Xs as.length xs)
include A k1 hk
theorem BZ:∀p∈eC as k,p.2.length=p.1.2.length/\Sm 24 p.1.1/\∀q∈p.2,Sm 6 q/\Fm 30240 (63*30240) q:=λp hp=>by
 obtain⟨r,hr,rfl⟩:=List.mem_map.mp hp;obtain⟨h1,h2,_,h4⟩:=A.DB hk hr;have l4:=A.l4;have hs:=A.O9;exact⟨IJ _ _ _ _,(oj A k1 hk hr).2.1,RH A k1 (by left) r 1 as.sum (by grind) h2 h4 (by left)⟩
include hx
theorem IM:∀p∈eC as k,Sm 53 (bY xs p):=λp hp=>by
 have l4:=A.l4;have hw:=BZ A k1 hk;have hd:Dp (Rw as.length) 250 as.length (bh (eC as k)):=by rw[mn];exact BX A k1 hk
 have hr:=hd.lot p.1 (aaq hp);have s:Sm (1+(12+1)*((p.1.2.zip p.2).map λz=>z.2*bw xs z.1).length) (bY xs p):=Sm.sum λq hq=>by
  obtain⟨z,hz,rfl⟩:=List.mem_map.mp hq;have m:=aaz hz;have:=hr.2.2 z.1 m.1;exact(((hw p hp).2.2 _ m.2).1).mul (hx.s _ (fw this.1 (by rw[hx.l];exact this.2)).2)
 have h2:((p.1.2.zip p.2).map λz=>z.2*bw xs z.1).length<=4:=by rw[List.length_map,List.length_zip];have:=hr.2.1;left
 exact s.mono (by left)
theorem uq:Rk 6 as.length (eC as k) xs:=by
 have l4:=A.l4;have hw:=BZ A k1 hk;have hl:(eC as k).length<=24:=by unfold eC;rw[List.length_map];exact(lV l4 hk).2.2.1
 have hd:Dp (Rw as.length) 250 as.length (bh (eC as k)):=by rw[mn];exact BX A k1 hk
 exact⟨hd,hl,λp hp=>(hw p hp).1,λp hp q hq=>((hw p hp).2.2 q hq).1,by left,by decide,hx.l,hx.s,53,by left,IM A k1 hk hx⟩
theorem wN:Rk 272 as.length (gA (eC as k)) xs/\Dr 250 as.length (bh (gA (eC as k)))/\(gA (eC as k)).length<=6/\∀p∈gA (eC as k),Sm 285 (bY xs p):=by
 have l4:=A.l4;have hw:=BZ A k1 hk;have K:=uq A k1 hk hx;have YX:=yk A k1 hk;have hl:(gA (eC as k)).length<=6:=by unfold gA;rw[List.length_map,mn];exact YX
 obtain⟨J,_⟩:=JJ K.dr (by rw[mn];left);have hf:=RP K.dr K.ln (by decide) λp hp q hq=>((hw p hp).2.2 q hq).2;have J':Dr 250 as.length (bh (gA (eC as k))):=by rw[Eu];exact J
 obtain⟨X,x0,x1,x2⟩:=hx.f;have Tx:∀p∈gA (eC as k),Sm 285 (bY xs p):=λp hp=>by
  obtain⟨h1,a,a0,a1,a2⟩:=hf p hp;have hr:=(J'.lot p.1 (aaq hp)).rw;have F:=Fm.sum (M:=30240*a*X) (B:=63*30240*a*(7*X)) (qs:=(p.1.2.zip p.2).map λz=>z.2*bw xs z.1) (aci (aci (by decide) a0) x0) λq hq=>by
   obtain⟨z,hz,rfl⟩:=List.mem_map.mp hq;have m:=aaz hz;have:=hr.2.2 z.1 m.1;exact(a2 _ m.2).mul (x2 _ (fw this.1 (by rw[hx.l];exact this.2)).2)
  have h2:((p.1.2.zip p.2).map λz=>z.2*bw xs z.1).length<=4:=by rw[List.length_map,List.length_zip];have:=hr.2.1;left
  have b1:30240*a*X<=2 ^ 15*2 ^ 250*2 ^ 9:=aaA (aaA (by decide) (by left)) (by left);have b3:63*30240*a*(7*X)<=63*30240*a*2940:=abG _ (by left);have b2:((p.1.2.zip p.2).map λz=>z.2*bw xs z.1).length*(63*30240*a*(7*X))<=2 ^ 35*a:=aau (aaA h2 b3) (by left);rw[<- Nat.pow_add,<- Nat.pow_add]at b1;refine F.sm (aas b1 (abD (by decide) (by decide))) (aas b2 ?_);rw[show(285:Nat)=35+250 from rfl,Nat.pow_add];exact Nat.mul_lt_mul_of_pos_left a1 (by decide)
 refine⟨⟨J'.imp λr _ h=>h.rw,by left,λp hp=>(hf p hp).1,λp hp q hq=>?_,by left,by decide,hx.l,hx.s,285,by left,Tx⟩,J',hl,Tx⟩;obtain⟨_,a,a0,a1,a2⟩:=hf p hp;have b1:30240*a<=2 ^ 15*2 ^ 250:=aaA (by decide) (by left);have b2:63*30240*a<=2 ^ 21*2 ^ 250:=aaA (by decide) (by left);rw[<- Nat.pow_add]at b1 b2;exact((a2 q hq).sm (k:=272) (aas b1 (abD (by decide) (by decide))) (aas b2 (abD (by decide) (by decide)))).mono (by decide)
theorem ym:iK (eC as k) xs=xs.sum:=by
 have h:=oh A.Ks (xs:=xs) (by rw[dW];exact A.l4) (by rw[dW];exact hx.l) (k:=k) (by rw[dW];exact hk);rw[dW]at h;unfold iK eC;rw[List.map_map];have e:((aV as.length k).map ((λp:Rg=>p.1.1*bY xs p)∘λr=>((jl (dt as) 1 1 r,r),wQ (dt as) k 1 r)))=(aV as.length k).map λr=>((k:Nat):Rat)⁻¹*(jl (dt as) 1 1 r*wR (dt as) xs 1 r):=aak λr _=>by
  show jl (dt as) 1 1 r*II (wQ (dt as) k 1 r) r xs=_;rw[BK _ _ k1,Rat.div_def];grind
 have YZ:=eU (M:=k) (by left);rw[e,w5,h,<- Rat.mul_assoc,Rat.inv_mul_cancel _ YZ,Rat.one_mul]
theorem B1:gf (gA (eC as k)) xs<=gf (eC as k) xs:=by
 have K:=uq A k1 hk hx;have K2:=(wN A k1 hk hx).1;have d1:gf (eC as k) xs=mT (eC as k) xs - iK (eC as k) xs*iK (eC as k) xs:=K.R6;have d2:gf (gA (eC as k)) xs=mT (gA (eC as k)) xs - iK (gA (eC as k)) xs*iK (gA (eC as k)) xs:=K2.R6;have hle:=RO K;rw[d1,d2,zF K];grind
theorem Uo:Sm 29 xs.sum:=by
 have s:=Sm.sum hx.s;have:=hx.l;have:=A.l4;exact s.mono (by left)
theorem B9{c b:Nat}(hc:∀p∈ps,Sm c p.1.1)(hb:∀p∈ps,Sm b (bY xs p))(hl:1+(c+(b+b)+1)*ps.length<=6000)(hm:iK ps xs=xs.sum)(hd:gf ps xs=mT ps xs - iK ps xs*iK ps xs):Sm 8000 (gf ps xs):=by
 have a:Sm (1+(c+(b+b)+1)*(ps.map λp=>p.1.1*(bY xs p*bY xs p)).length) (mT ps xs):=Sm.sum λq hq=>by
  obtain⟨p,hp,rfl⟩:=List.mem_map.mp hq;exact(hc p hp).mul ((hb p hp).mul (hb p hp))
 rw[List.length_map]at a;have x:=Uo A k1 hk hx;rw[hd,hm];exact(a.sub (x.mul x)).mono (by left)
end
section
variable {as:aa}(A:Fg as){k:Nat}(k1:1<=k)(hk:k<=as.length)
include A k1 hk
theorem yB:Xs as.length (dt as):=by
 have hs:=A.iG;refine⟨dW _,A.Ks.sm,as.sum.toNat,by left,by left,λx hx=>?_⟩;obtain⟨a,ha,rfl⟩:=List.mem_map.mp hx;have h:=A.p a ha;have hz:=A.O9;have key:∀l:aa,(∀x∈l,1<=x)->0<=l.sum/\∀x∈l,x<=l.sum:=λl=>by
  induction l with
  |nil=>intro _;exact⟨acF _,λ_ h=>nomatch h⟩
  |cons b l ih =>
   intro h;obtain⟨i1,i2⟩:=ih λx hx=>h x (aad _ hx);have hb:=h b aaf;rw[List.sum_cons];refine⟨by left,λx hx=>?_⟩;rcases List.mem_cons.mp hx with rfl|hx
   ·left
   ·have:=i2 x hx;left
 have hle:=(key as λx hx=>(A.p x hx).1).2 a ha;refine⟨by left,a,by left,?_⟩;have e:((as.sum.toNat:Nat):Rat)=((as.sum:Int):Rat):=by rw[<- Rat.intCast_natCast];congr 1;left
 rw[e,Rat.divInt_eq_div];generalize ((as.sum:Int):Rat)=S at *;generalize ((a:Int):Rat)=a at *;grind
theorem F5:gf (eC as k) (dt as)=0/\gf (gA (eC as k)) (dt as)=0:=by
 have hx:=yB A k1 hk;have K:=uq A k1 hk hx;have K2:=(wN A k1 hk hx).1;have hp:∀p∈eC as k,bY (dt as) p=1:=λp hp=>by
  obtain⟨r,hr,rfl⟩:=List.mem_map.mp hp;show II (wQ (dt as) k 1 r) r (dt as)=1;rw[BK _ _ k1,og A.Ks (by rw[dW];exact A.l4) (k:=k) (by rw[dW];exact hk) r (by rw[dW];exact hr)];have:=eU (M:=k) (by left);grind
 have hm:iK (eC as k) (dt as)=1:=by rw[ym A k1 hk hx];exact A.Ks.sum
 have z1:gf (eC as k) (dt as)=0:=by
  unfold gf HQ;rw[hm];exact gT λp h=>by rw[hp p h];grind
 refine⟨z1,?_⟩;have h1:=B1 A k1 hk hx;rw[z1]at h1;have h2:0<=gf (gA (eC as k)) (dt as):=by
  unfold gf HQ;refine uE λp hp=>?_;have h1:=K2.dr.pos p.1 (aaq hp);generalize bY (dt as) p - iK (gA (eC as k)) (dt as)=t;have h2:0<=t*t:=by
   rcases Rat.le_total (a:=0) (b:=t)with h|h
   ·exact abj h h
   ·have h':0 <= -t:=by grind
    have:=abj h' h';grind
  exact abj (abc h1) h2
 exact Rat.le_antisymm h1 h2
end
noncomputable def zJ:CE:=.comp 1 (.nm 0) [9] .lz [(.v 2)] [] (.tup [(.bf .vy [(.cmp .eq (.v 0) (.v 1))]),(.int 1)])
def Gd:ah:=[.app 8 zJ]
noncomputable def Lg:ah:=[.asg (.nm 1) (.call 245 [(.v 0),(.int 0),(.int 4)]),.asg (.nm 2) (.bf .len [(.v 1)]),.asg (.nm 3) (.bin .add (.int 1) (.bin .mod (.call 200 [(.v 0),(.int 1)]) (.v 2)))]
noncomputable def Lf:ah:=[.asg (.nm 4) (.call 88 [(.v 1),(.v 3)]),.asg (.nm 5) (.call 89 [(.v 1),(.v 3)]),.asg (.nm 6) (.call 76 [(.v 4)]),.asg (.nm 7) (.call 79 [(.v 4),(.v 5)])]
noncomputable def Le:ah:=[.asg (.nm 8) (.lst [(.call 230 [(.call 200 [(.v 0),(.int 2)]),(.v 2)]),(.bf .list1 [(.v 1)])])]
def Ld:ah:=[.fr (.nm 9) (.lz (.v 2)) Gd]
noncomputable def Nz:CE:=.or [(.cmp .ne (.call 77 [(.v 4),(.v 5),(.v 10)]) (.call 52 [(.v 10)])),(.cmp .ne (.call 80 [(.v 6),(.v 7),(.v 10)]) (.call 52 [(.v 10)]))]
noncomputable def EX:CE:=.or [(.call 223 [(.v 11),(.v 12)]),(.and [(.cmp .eq (.v 10) (.v 1)),(.cmp .ne (.tup [(.v 11),(.v 12)]) (.tup [(.tup [(.int 0),(.int 1)]),(.tup [(.int 0),(.int 1)])]))])]
def O0:ah:=[.ifs Nz [.ret (.bl false)] [],.asg (.nm 11) (.call 78 [(.v 4),(.v 5),(.v 10)]),.asg (.nm 12) (.call 81 [(.v 6),(.v 7),(.v 10)]),.ifs EX [.ret (.bl false)] []]
def Lc:ah:=[.fr (.nm 10) (.seq (.v 8)) O0]
noncomputable def Vr:ah:=[.ret (.bl true)]
def lg:ah:=Lg++(Lf++(Le++(Ld++(Lc++Vr))))
structure ZQ(Φ:aT):Prop where
 h52:pM (Φ 52)
 WV:NN (Φ 76)
 h77:Bp iK (Φ 77)
 h78:Bp gf (Φ 78)
 h79:Sw (Φ 79)
 h80:NM iK (Φ 80)
 h81:NM gf (Φ 81)
 h88:z6 (Φ 88)
 h89:wk (Φ 89)
 W5:wu (Φ 223)
abbrev iG(ns as:aa)(k:Nat)(m:bc):bc:=some (.lst .sc (ag ns))::some (.lst .ow (ba (dt as)))::some (.int as.length)::some (.int k)::some (lE .ow as.length (qF as k))::some (.lst .ow (ez .ow (eC as k)))::some (lE .ow as.length (gz (qF as k)))::some (.lst .ow (ez .ow (gA (eC as k))))::m
theorem Ka(Φ:aT){n:Nat}(hn:n<=12)(h:Nat)(h2:ρ[2]?=some (some (.int n)))(h9:ρ[9]?=some (some (.int h))):bp Φ zJ ρ=ok (.lst .ow (ba (iy n h))):=by
 unfold zJ;rw[cM (xs:=[.int n]) (ds:=(List.range n).map λ(k:Nat)=>qD (if k=h then 1 else 0)) (by simp[h2]) (zi Φ (by left) (by left)) (bS λk hk=>⟨[some (.int k),some (.int h)],by simp[bG,h9],by simp,?_⟩) (by simp;exact bZ (by left))]
 ·simp[ba,iy,aQ]
 ·have c1:fm .eq (.int k) (.int h)=ok (.bl (decide (k=h))):=by
   rw[EW (by simp) (by simp),kY];by_cases e:k=h<;>simp[e];left
  have i1:m8 .vy [.bl true]=ok (.int 1):=rfl;have i0:m8 .vy [.bl false]=ok (.int 0):=rfl;by_cases e:k=h
  ·subst e;simp[c1,i1];rfl
  ·simp[c1,e,i0];rfl
theorem uk(Φ:aT){n:Nat}(hn:n<=12)(a0 a1 a3 a4 a5 a6 a7 a10 a11 a12:aC):∀(k j:Nat) (ls:List (ai)) (c:aC),ls.length+k<=90 ->
  ∃c',dw (λd ρ=>b8 (.nm 9) d ρ) (λρ=>bC Φ Gd ρ) ((List.range' j k).map λ(i:Nat)=>D.int (i:Int)) [a0,a1,some (.int n),a3,a4,a5,a6,a7,some (.lst .ow (lB .ow ls)),c,a10,a11,a12]=ok (.nx,[a0,a1,some (.int n),a3,a4,a5,a6,a7,some (.lst .ow (lB .ow (ls++(List.range' j k).map (iy n)))),c',a10,a11,a12])
 |0,j,ls,c,_=>⟨c,by simp[sV]⟩
 |k+1,j,ls,c,h=>by
  have u:=Ka Φ hn j (ρ:=[a0,a1,some (.int n),a3,a4,a5,a6,a7,some (.lst .ow (lB .ow ls)),some (.int j),a10,a11,a12]) rfl rfl;obtain⟨c',ih⟩:=uk Φ hn a0 a1 a3 a4 a5 a6 a7 a10 a11 a12 k (j+1) (ls++[iy n j]) (some (.int j)) (by simp;left);have hc:(lB .ow ls).length<cP:=by show _<1000000;simp[lB];left
  have e1:lB .ow ls++[.lst .ow (ba (iy n j))]=lB .ow (ls++[iy n j]):=by simp[lB]
  rw[List.range'_succ,List.map_cons,List.map_cons];refine⟨c',cL (ρ1:=[a0,a1,some (.int n),a3,a4,a5,a6,a7,some (.lst .ow (lB .ow ls)),some (.int j),a10,a11,a12]) (by simp) (ρ2:=[a0,a1,some (.int n),a3,a4,a5,a6,a7,some (.lst .ow (lB .ow (ls++[iy n j]))),some (.int j),a10,a11,a12]) ?_ ?_⟩
  ·rw[Gd,bT,BJ,Qz Φ zJ _ rfl,u,kR (by simp)];generalize lB .ow ls=es at *;simp[hc,e1]
  ·exact ih.trans (by simp)
section
variable (Φ:aT)(Q:ZQ Φ)(ns:aa){as:aa}(A:Fg as){k:Nat}(k1:1<=k)(hk:k<=as.length)
include Q A k1 hk
theorem Kf{xs:ai}(hx:Xs as.length xs)(c8 c9 pY pW:aC):∃NC NB,bC Φ O0 (iG ns as k [c8,c9,some (.lst .fz (ba xs)),pY,pW])=ok (.nx,iG ns as k [c8,c9,some (.lst .fz (ba xs)),NC,NB]):=by
 have K:=uq A k1 hk hx;obtain⟨K2,J,YX,Tx⟩:=wN A k1 hk hx;have l4:=A.l4;have l1:=A.l1;have Xu:=Q.h77 6 as.length (eC as k) xs K;have ZJ:=Q.h78 6 as.length (eC as k) xs K;have Xt:=Q.h80 272 as.length (gA (eC as k)) xs K2 J;have ZH:=Q.h81 272 as.length (gA (eC as k)) xs K2 J;have em:=ym A k1 hk hx;have Zp:iK (gA (eC as k)) xs=xs.sum:=by rw[zF K,em]
 have e52:=λf=>Q.h52 f xs 6 (by have:=hx.l;left) (by have:=hx.l;left) ⟨hx.s,by have:=hx.l;left,by have:=hx.l;left⟩;have hw:=BZ A k1 hk;have s1:Sm 8000 (gf (eC as k) xs):=B9 A k1 hk hx (c:=24) (b:=53) (λp hp=>(hw p hp).2.1) (IM A k1 hk hx) (by have:=K.Bw;left) em K.R6;have s2:Sm 8000 (gf (gA (eC as k)) xs):=B9 A k1 hk hx (c:=250) (b:=285) (λp hp=>K2.dr.sm p.1 (aaq hp)) Tx (by left) Zp K2.R6;have RY:=Q.W5 _ _ s1 s2;have Wz:=B1 A k1 hk hx;rw[decide_eq_false (Rat.not_lt.mpr Wz)]at RY;have QN:xs=dt as->gf (eC as k) xs=0/\gf (gA (eC as k)) xs=0:=λh=>by subst h;exact F5 A k1 hk
 rw[mn]at Xu ZJ;rw[Eu,mn]at Xt ZH;rw[em]at Xu;rw[Zp]at Xt;have q1:=Qa xs.sum;generalize gf (eC as k) xs=E at *;generalize gf (gA (eC as k)) xs=F at *;generalize xs.sum=M at *;refine⟨some (qD E),some (qD F),?_⟩;have m1:∀pY pW,bp Φ (.call 77 [(.v 4),(.v 5),(.v 10)]) (iG ns as k [c8,c9,some (.lst .fz (ba xs)),pY,pW])=ok (qD M):=λpY pW=>by simp[vS,bo,aW,Xu]
 have m2:∀pY pW,bp Φ (.call 80 [(.v 6),(.v 7),(.v 10)]) (iG ns as k [c8,c9,some (.lst .fz (ba xs)),pY,pW])=ok (qD M):=λpY pW=>by simp[vS,bo,aW,Xt]
 have m3:∀pY pW,bp Φ (.call 52 [(.v 10)]) (iG ns as k [c8,c9,some (.lst .fz (ba xs)),pY,pW])=ok (qD M):=λpY pW=>by simp[bo,aW,e52]
 have g1:lD Φ (.ifs Nz [.ret (.bl false)] []) (iG ns as k [c8,c9,some (.lst .fz (ba xs)),pY,pW])=ok (.nx,iG ns as k [c8,c9,some (.lst .fz (ba xs)),pY,pW]):=by
  unfold Nz;rw[FR,Nl,EA,EB,zK,zK,m1,m2,m3,tf,q1];rfl
 have g2:bC Φ [.asg (.nm 11) (.call 78 [(.v 4),(.v 5),(.v 10)]),.asg (.nm 12) (.call 81 [(.v 6),(.v 7),(.v 10)])] (iG ns as k [c8,c9,some (.lst .fz (ba xs)),pY,pW])=ok (.nx,iG ns as k [c8,c9,some (.lst .fz (ba xs)),some (qD E),some (qD F)]):=by
  simp[vS,bo,aW,ZJ,ZH]
 have y1:bp Φ (.call 223 [(.v 11),(.v 12)]) (iG ns as k [c8,c9,some (.lst .fz (ba xs)),some (qD E),some (qD F)])=ok (.bl false):=by simp[RY]
 have y2:bp Φ (.cmp .eq (.v 10) (.v 1)) (iG ns as k [c8,c9,some (.lst .fz (ba xs)),some (qD E),some (qD F)])=ok (.bl (decide (xs=dt as))):=by
  have r1:bp Φ (.v 10) (iG ns as k [c8,c9,some (.lst .fz (ba xs)),some (qD E),some (qD F)])=ok (.lst .fz (ba xs)):=by simp[bo]
  have r2:bp Φ (.v 1) (iG ns as k [c8,c9,some (.lst .fz (ba xs)),some (qD E),some (qD F)])=ok (.lst .al (ba (dt as))):=by simp[bo]
  rw[zK,r1,r2,tf,EW (C9 38 _ _) (C9 38 _ _)];show ok (D.bl (fj (ba xs) (ba (dt as))))=_;rw[HI]
 have y3:xs=dt as->bp Φ (.cmp .ne (.tup [(.v 11),(.v 12)]) (.tup [(.tup [(.int 0),(.int 1)]),(.tup [(.int 0),(.int 1)])])) (iG ns as k [c8,c9,some (.lst .fz (ba xs)),some (qD E),some (qD F)])=ok (.bl false):=λh=>by
  obtain⟨z1,z2⟩:=QN h;subst z1 z2;have o:cR 40 (.tup [qD 0,qD 0])=true:=rfl;have c:=Ny o o;have e:mF (.tup [qD 0,qD 0]) (.tup [qD 0,qD 0])=true:=rfl;rw[e]at c;have r1:bp Φ (.tup [(.v 11),(.v 12)]) (iG ns as k [c8,c9,some (.lst .fz (ba xs)),some (qD 0),some (qD 0)])=ok (.tup [qD 0,qD 0]):=by simp
  have r2:bp Φ (.tup [(.tup [(.int 0),(.int 1)]),(.tup [(.int 0),(.int 1)])]) (iG ns as k [c8,c9,some (.lst .fz (ba xs)),some (qD 0),some (qD 0)])=ok (.tup [qD 0,qD 0]):=by rfl
  rw[zK,r1,r2,tf,c];rfl
 have g3:lD Φ (.ifs EX [.ret (.bl false)] []) (iG ns as k [c8,c9,some (.lst .fz (ba xs)),some (qD E),some (qD F)])=ok (.nx,iG ns as k [c8,c9,some (.lst .fz (ba xs)),some (qD E),some (qD F)]):=by
  have yo:bp Φ EX (iG ns as k [c8,c9,some (.lst .fz (ba xs)),some (qD E),some (qD F)])=ok (.bl false):=by
   unfold EX;by_cases h:xs=dt as
   ·rw[decide_eq_true h]at y2;simp only[Nl,EA,EB,JM,ED,EE,y1,y2,y3 h];rfl
   ·rw[decide_eq_false h]at y2;simp only[Nl,EA,EB,JM,ED,EE,y1,y2];rfl
  rw[FR,yo];rfl
 rw[O0,bT,g1];show bC Φ ([.asg (.nm 11) (.call 78 [(.v 4),(.v 5),(.v 10)]),.asg (.nm 12) (.call 81 [(.v 6),(.v 7),(.v 10)])]++[.ifs EX [.ret (.bl false)] []]) _=_;rw[ff Φ _ _ _ _ g2,bT,g3];rfl
theorem vw:∀(ls:List (ai)) (c8 c9 EY pY pW:aC),(∀l∈ls,Xs as.length l)->∃ND NC NB,dw (λd ρ=>b8 (.nm 10) d ρ) (λρ=>bC Φ O0 ρ) (lB .fz ls) (iG ns as k [c8,c9,EY,pY,pW])=ok (.nx,iG ns as k [c8,c9,ND,NC,NB])
 |[],c8,c9,EY,pY,pW,_=>⟨EY,pY,pW,rfl⟩
 |l::ls,c8,c9,EY,pY,pW,h=>by
  obtain⟨d11,d12,e⟩:=Kf Φ Q ns A k1 hk (h l aaf) c8 c9 pY pW;obtain⟨T6,f11,f12,ih⟩:=vw ls c8 c9 (some (.lst .fz (ba l))) d11 d12 λm hm=>h m (aad _ hm);exact⟨T6,f11,f12,cL (x:=.lst .fz (ba l)) (ρ1:=iG ns as k [c8,c9,some (.lst .fz (ba l)),pY,pW]) (by simp) (by exact e) ih⟩
end
theorem Qu(Φ:aT)(Q:ZQ Φ)(HC:x6 (Φ 200))(W4:z9 (Φ 230))(W3:wm (Φ 245))(ns:aa):mk Φ 1 13 lg [.lst .sc (ag ns)]=ok (.bl true):=by
 obtain⟨as,a1,a2,a3,e1⟩:=W3 ns;change Φ 245 _=ok (.lst .ow (ba (dt as)))at e1;have A:Fg as:=⟨a1,a2,a3⟩
 have c1:=HC ns 1 (by decide);have c2:=HC ns 2 (by decide);obtain⟨f1,f2⟩:=g_ (iD ns 1) (b:=(as.length:Int)) (by left);obtain⟨k,ek⟩:∃k:Nat,1+(iD ns 1).fmod (as.length:Int)=(k:Int):=⟨(1+(iD ns 1).fmod (as.length:Int)).toNat,by left⟩
 have k1:1<=k:=by left
 have hk:k<=as.length:=by left
 have k4:k<=4:=by left
 obtain⟨xs,x1,x2,x3⟩:=W4 (iD ns 2) as.length (by left);have YL:Xs as.length xs:=⟨x2,λx hx=>(x3 x hx).mono (by decide),420,by decide,by decide,λx hx=>RK (x3 x hx)⟩
 have K:=uq A k1 hk YL;have dr:D.tup [.int (dt as).length,.lst .ow (wU (dt as) (aV (dt as).length k))]=lE .ow as.length (qF as k):=by
  rw[dW];unfold lE wU qF cf;rw[List.map_map];rfl
 have gr:D.lst .ow (uv .ow (dt as) k (aV (dt as).length k))=.lst .ow (ez .ow (eC as k)):=by
  rw[dW];unfold uv eC ez;rw[List.map_map];rfl
 have ZG:=λf=>Q.h88 f (dt as) k A.Ks k1 (by rw[dW];exact hk) k4;have ZF:=λf=>Q.h89 f (dt as) k A.Ks k1 (by rw[dW];exact hk) k4;simp only[dr,gr]at ZG ZF;have e76:=Q.WV as.length (qF as k) (BX A k1 hk) (by unfold qF;rw[List.length_map];exact(lV a2 hk).2.2.1);have ZI:=Q.h79 6 as.length (eC as k) xs K ⟨λp hp=>(BZ A k1 hk p hp).2.1,a2,by decide,by rw[mn];have:=yk A k1 hk;left⟩;rw[mn]at ZI;have f1:=kT bF .ow (eC as k) rfl;have f2:=kT bF .ow (gA (eC as k)) rfl;have fz:l5 .ow=.ow:=rfl;have ql:(dt as).length=as.length:=dW as;have n0:(as.length:Int)≠0:=by left
 have ga:bC Φ Lg [some (.lst .sc (ag ns)),none,none,none,none,none,none,none,none,none,none,none,none]=ok (.nx,[some (.lst .sc (ag ns)),some (.lst .ow (ba (dt as))),some (.int as.length),some (.int k),none,none,none,none,none,none,none,none,none]):=by
  have b:=Sl (i:=iD ns 1) n0;simp[Lg,e1,c1,b,ek,ql]
 have gb:bC Φ Lf [some (.lst .sc (ag ns)),some (.lst .ow (ba (dt as))),some (.int as.length),some (.int k),none,none,none,none,none,none,none,none,none]=ok (.nx,iG ns as k [none,none,none,none,none]):=by
  simp[Lf,ZG,ZF,vS,e76,ZI,f1,f2,fz,bo,aW]
 have gc:bC Φ Le (iG ns as k [none,none,none,none,none])=ok (.nx,iG ns as k [some (.lst .ow (lB .ow [xs,dt as])),none,none,none,none]):=by
  simp[Le,c2,x1,lB]
 obtain⟨c9,el⟩:=uk Φ (n:=as.length) (by left) (some (.lst .sc (ag ns))) (some (.lst .ow (ba (dt as)))) (some (.int k)) (some (lE .ow as.length (qF as k))) (some (.lst .ow (ez .ow (eC as k)))) (some (lE .ow as.length (gz (qF as k)))) (some (.lst .ow (ez .ow (gA (eC as k))))) none none none as.length 0 [xs,dt as] none (by simp;left);have hit:cB Φ (.lz (.v 2)) (iG ns as k [some (.lst .ow (lB .ow [xs,dt as])),none,none,none,none])=ok ((List.range' 0 as.length).map λ(i:Nat)=>D.int (i:Int),iG ns as k [some (.lst .ow (lB .ow [xs,dt as])),none,none,none,none]):=by
  rw[Hm (n:=(as.length:Int)) (by simp) (by left) (by left),Int.toNat_natCast,<- List.range_eq_range']
 have hf:=dS (Φ:=Φ) (t:=.nm 9) (b:=Gd) hit el
 let ls:List (ai):=[xs,dt as]++(List.range' 0 as.length).map (iy as.length)
 have hls:∀l∈ls,Xs as.length l:=λl hl=>by
  rcases List.mem_append.mp hl with hl|hl
  ·rcases List.mem_cons.mp hl with rfl|hl
   ·exact YL
   ·rw[List.mem_singleton.mp hl];exact yB A k1 hk
  ·obtain⟨j,_,rfl⟩:=List.mem_map.mp hl;exact⟨by simp,λq hq=>(yh q hq).mono (by decide),420,by decide,by decide,λq hq=>RK ((yh q hq).mono (by decide))⟩
 have gd:bC Φ Ld (iG ns as k [some (.lst .ow (lB .ow [xs,dt as])),none,none,none,none])=ok (.nx,iG ns as k [some (.lst .ow (lB .ow ls)),c9,none,none,none]):=by
  rw[Ld,bT,hf];rfl
 obtain⟨EY,pY,pW,eo⟩:=vw Φ Q ns A k1 hk ls (some (.lst .fz (lB .fz ls))) c9 none none none hls;have ml:∀g f,aA g (lB f ls)=lB (g f) ls:=λg f=>by
  unfold lB;rw[aQ,List.map_map];exact aak λl _=>by show aS g (.lst f (ba l))=_;simp
 have Ml:cB Φ (.seq (.v 8)) (iG ns as k [some (.lst .ow (lB .ow ls)),c9,none,none,none])=ok (lB .fz ls,iG ns as k [some (.lst .fz (lB .fz ls)),c9,none,none,none]):=by
  rw[AF (f:=.al) (ds:=lB .al ls) (by simp[ml,bo])];simp[gN,ml,aW,bF]
 have WI:=dS (Φ:=Φ) (t:=.nm 10) (b:=O0) Ml eo;have ge:bC Φ Lc (iG ns as k [some (.lst .ow (lB .ow ls)),c9,none,none,none])=ok (.nx,iG ns as k [some (.lst .fz (lB .fz ls)),c9,EY,pY,pW]):=by
  rw[Lc,bT,WI];rfl
 rw[mk_eq (show[D.lst .sc (ag ns)].length=1 from rfl)];show m7 (bC Φ lg [some (.lst .sc (ag ns)),none,none,none,none,none,none,none,none,none,none,none,none])=_;rw[lg,ff Φ _ _ _ _ ga,ff Φ _ _ _ _ gb,ff Φ _ _ _ _ gc,ff Φ _ _ _ _ gd,ff Φ _ _ _ _ ge];rfl
end DI
end
namespace PySem.W.Fast
def tw12114296829777341874:=0
def tw9864349477364553942:=0
def tw10758116535041361936:=0
def tw8992074790794946072:=0
def tw14718472091204710648:=0
def tw2023515659789953915:=0
def tw9287845069690152353:=0
def tw15717600098929595337:=0
def tw7165396130247248516:=0
def tw13170288841832628648:=0
def tw13877273056220112117:=0
def tw7109612581964803100:=0
def tw12219906401861905199:=0
def tw7735252433272527043:=0
def tw10933641566376230020:=0
def tw15997280034772173608:=0
def tw6020221963785513163:=0
def tw12112561266874065286:=0
def tw14067192543770787201:=0
def tw15151492660418164842:=0
def tw15598005233859936054:=0
def tw16959547865565256893:=0
def tw6007389606072360952:=0
def tw12943740120933879021:=0
def tw247748229483884126:=0
def tw2018984357049701302:=0
def tw9310899762846252669:=0
def tw14832204438313679479:=0
def tw5931395592730742122:=0
def tw15024753833346641435:=0
def tw15572966114243431574:=0
def tw17422453303484389704:=0
def tw9947083815895628180:=0
def tw10707568650163408525:=0
def tw4272835104109038939:=0
def tw3505025432854929700:=0
def tw4712461249866631114:=0
def tw5752810653858427351:=0
def tw14571036033981239918:=0
def tw17567676174333715876:=0
def tw4123901529858178391:=0
def tw9669374664118900982:=0
def tw8743528308394580377:=0
def tw12091297601186852759:=0
def tw2310361730680612050:=0
def tw12286070409508993117:=0
def tw4275482255964923170:=0
def tw6481876176608365606:=0
def tw12389184072778855111:=0
def tw4258117721944139991:=0
def tw14150987540639565530:=0
def tw1219537807938357759:=0
def tw15516010253192636061:=0
def tw16024038274773757233:=0
def tw17918000682764912892:=0
def tw4947960841648408699:=0
def tw14843647151519014691:=0
def tw8518638211723943766:=0
def tw7314669474449232504:=0
def tw9194990199442447374:=0
def tw3286444348519391468:=0
def tw4968887547659426596:=0
def tw12297771829807503499:=0
def tw5619642501853968755:=0
def tw15732979885437575188:=0
def tw16065328799326262760:=0
def tw3915082156471172681:=0
def tw18185585090549026850:=0
def tw11803801785175122136:=0
def tw3722435293477929909:=0
def tw14424763829561100729:=0
def tw14030060887358764674:=0
def tw1233833126163002447:=0
def tw6570499128035427728:=0
def tw13277523517270670114:=0
def tw8335501863049347651:=0
def tw17597033645652906268:=0
def tw5354073177166157449:=0
def tw7279378441845261652:=0
def tw11775210303303978300:=0
def tw14549694344994436167:=0
def tw14066998295298850432:=0
def tw5091439354862961231:=0
def tw2285755485174997104:=0
def tw10798129440727263287:=0
def tw7902592700447387722:=0
def tw14078149657440997495:=0
def tw15551887866528379613:=0
def tw4668845139818495281:=0
def tw8676318060781485147:=0
def tw4308909033385501171:=0
def tw1285121312513584338:=0
def tw13026163684849322816:=0
def tw8919068843699915184:=0
def tw437321086285544882:=0
def tw13657630528197616541:=0
def tw6515879626441523073:=0
def tw10211702445629655132:=0
def tw15395777024051120980:=0
def tw13522300710053874445:=0
def tw18322794600224350488:=0
def tw10604961684269741035:=0
def tw16894155702167892745:=0
def tw6128376005770826165:=0
def tw9714913580332442623:=0
def tw14925943472590230534:=0
def tw4289957040696662021:=0
def tw10072658710922482866:=0
def tw9221409460787456270:=0
def tw14790842673656862623:=0
def tw10563416391004862401:=0
def tw2468433670277628887:=0
def tw13045300157698606140:=0
def tw9665944263209844622:=0
def tw17387662268651730147:=0
def tw12440713949789629372:=0
def tw5433264949793787192:=0
def tw8256157096660354003:=0
def tw4765939683469491336:=0
def tw11583796345763870573:=0
def tw4470023244222569917:=0
def tw10712104450056020320:=0
def tw16437139330366546181:=0
def tw12108729166620778066:=0
def tw5218644925612909707:=0
def tw5695885008737072055:=0
def tw685625453736837277:=0
def tw10315085131433502301:=0
def tw14975920430470768583:=0
def tw5685919487102913719:=0
def tw9019506899902686234:=0
def tw9426556315498497915:=0
def tw494076767036797835:=0
def tw17518532363459470795:=0
def tw7463183383037705175:=0
def tw13447829581897334052:=0
def tw14788223089471235330:=0
def tw5002727985939437714:=0
def tw16718915860116848494:=0
def tw1763321726721044482:=0
def tw735412031847550825:=0
def tw7303068651494963096:=0
def tw251870352053185963:=0
def tw16242562689792745899:=0
def tw8268914122593630664:=0
def tw6170596364457413286:=0
def tw5848257170260550432:=0
def tw7210679685575643907:=0
def tw6171404735704827878:=0
def tw11709593978562322488:=0
def tw12866994309070834349:=0
def tw9154317009240412639:=0
def tw11260881777744304411:=0
def tw6852180044327286957:=0
def tw6834202623027695855:=0
def tw12550800505570122481:=0
def tw9968019029244649706:=0
def tw9509549983648233821:=0
def tw2938091325197042205:=0
def tw12880474968043940378:=0
def tw7552854370731271514:=0
def tw14874611253734340068:=0
def tw839115285796965209:=0
def tw11703884314457378822:=0
def tw16158583119817892177:=0
def tw7232650639045094520:=0
def tw9427586347703360859:=0
def tw16018157344974787370:=0
def tw14888412819340525554:=0
def tw922094612818068164:=0
def tw3856436524885554230:=0
def tw12577186901232357737:=0
def tw7131204644352568182:=0
def tw3522935742092136350:=0
def tw17855253900099694408:=0
def tw11552811864037855025:=0
def tw13175032294879828926:=0
def tw11560453257919481778:=0
def tw7445995820773149945:=0
def tw7770897617664627772:=0
def tw5965810446575268631:=0
end PySem.W.Fast
namespace Asm
open PySem PySem.Spec PyProof.Rows L2 DI
noncomputable def top(i:Nat):Stmt:=PySem.Challenge.pw_sharesample_k36_whole_turns_are_right.main.body.getD i (.Pass ⟨0,0,0,0⟩)
def px:Px:=⟨λn sc bl e=>if n=1011 then l9 "min" sc bl e else if n=1020 then tm true sc bl e else if n=1022 then zS sc bl e else if n=1030 then jy sc bl e else if n=1031 then nK sc bl e else if n=1032 then md sc bl e else if n=1035 then l9 "sorted" sc bl e else if n=1040 then zR sc bl e else if n=1060 then jy sc bl e else if n=1062 then md sc bl e else none,λn sc bl e=>if n=1000 then gj sc bl e else if n=1015 then gj sc bl e else none,λn sc bl e=>if n=1010 then nI sc bl e else if n=1013 then xV sc bl e else if n=1033 then nJ sc bl e else none,λn sc bl e=>if n=1200 then tj sc bl e else none⟩
noncomputable def PT:aT
 |1000=>p5
 |1010=>qX
 |1011=>minD
 |1013=>A3
 |1015=>iL
 |1020=>(cutD true)
 |1022=>Oh
 |1030=>zL
 |1031=>rA
 |1032=>A_
 |1033=>rn
 |1035=>l7
 |1040=>Qp
 |1060=>CK
 |1062=>xi
 |1200=>xh
 |_=>λ_=>none
theorem pr(F:aT)(i:Nat)(m:av):x8 px (xm PT F i m)/\NP px (xm PT F i m):=⟨⟨(λX sc bl k L p e args he F cs hs=>Fv he (λhe=>LA rfl L he hs) λhe=>Fv he (λhe=>Nu rfl L he hs) λhe=>Fv he (λhe=>RG rfl L he hs) λhe=>Fv he (λhe=>HS rfl L he hs) λhe=>Fv he (λhe=>HX rfl L he hs) λhe=>Fv he (λhe=>Nt rfl L he hs) λhe=>Fv he (λhe=>EG rfl L he hs) λhe=>Fv he (λhe=>Qo rfl L he hs) λhe=>Fv he (λhe=>GL rfl L he hs) λhe=>Fv he (λhe=>K5 rfl L he hs) λhe=>nomatch he),(λX sc bl k L p e args he F cs tg ht hs pins s σ H R τ ρ xs d items I Si cF ed ei Rr hR=>by
  dsimp only[px]at he;by_cases hp:p=1000
  ·subst hp;rw[if_pos rfl]at he;exact JZ rfl L he ht hs I Si cF ed ei Rr hR
  rw[if_neg hp]at he;clear hp;by_cases hp:p=1015
  ·subst hp;rw[if_pos rfl]at he;exact FO rfl L he ht hs I Si cF ed ei Rr hR
  rw[if_neg hp]at he;clear hp;cases he)⟩,⟨(λX sc bl k L hN t_ p st x pos args he i hi hl pe F cs hs=>V4 he (λhe=>Hr rfl L hN t_ he hi hl pe hs) λhe=>V4 he (λhe=>Nf rfl L hN t_ he hi hl pe hs) λhe=>V4 he (λhe=>HR rfl L hN t_ he hi hl pe hs) λhe=>nomatch he),(λX sc bl k L hN t_ p st x pos args he i hi hl pe F c1 c2 hs=>V3 he (λhe=>KY rfl L hN t_ he hi hl pe hs) λhe=>nomatch he)⟩⟩
noncomputable def xt(F:aT)(i a b:Nat)(c:ah):aT:=xm PT F i (mk F a b c)
noncomputable def BL:au:=["abs","all","bool","int","isinstance","len","list","min","range","set","sorted","sum","tuple","zip"]
noncomputable def CC:List (Str×GK):=[("MOST_HOUSES",GK.i 12),("MOST_SIZES",GK.i 6)]
noncomputable def ji:aT:=xm PT PT 0 λ_=>none
noncomputable def kc:aT:=xt ji 223 2 2 (nP)
noncomputable def kb:aT:=xt kc 200 2 4 (eW)
noncomputable def ka:aT:=xt kb 201 2 4 (lb)
noncomputable def jh:aT:=xt ka 230 2 4 (nN)
noncomputable def kf:aT:=xt jh 245 3 7 (k_)
noncomputable def iw:aT:=xt kf 0 1 1 (hV)
noncomputable def eG:aT:=xt iw 43 2 2 (c_)
noncomputable def gv:aT:=xt eG 1 2 3 (cZ)
noncomputable def pU:aT:=xt gv 3 1 1 (bV)
noncomputable def jf:aT:=xt pU 12 2 2 (lh)
noncomputable def e9:aT:=xt jf 44 1 3 (f7)
noncomputable def jd:aT:=xt e9 9 1 3 (cH)
noncomputable def fP:aT:=xt jd 10 2 2 (fZ)
noncomputable def gp:aT:=xt fP 14 1 4 (jB)
noncomputable def kh:aT:=xt gp 15 1 2 (eJ)
noncomputable def eF:aT:=xt kh 45 1 4 (hZ)
noncomputable def dk:aT:=xt eF 72 1 1 (tG)
noncomputable def gw:aT:=xt dk 73 1 1 (tI)
noncomputable def iu:aT:=xt gw 2 2 3 (cJ)
noncomputable def dj:aT:=xt iu 18 3 3 (zY)
noncomputable def fb:aT:=xt dj 76 1 6 (Ik)
noncomputable def gy:aT:=xt fb 40 2 2 (cj)
noncomputable def mi:aT:=xt gy 74 2 4 (Il)
noncomputable def ir:aT:=xt mi 7 2 2 (Fb 2)
noncomputable def j_:aT:=xt ir 6 2 2 (nM 2)
noncomputable def iq:aT:=xt j_ 41 1 2 (hU)
noncomputable def eu:aT:=xt iq 42 1 2 (fu)
noncomputable def pV:aT:=xt eu 79 2 11 (E_)
noncomputable def il:aT:=xt pV 11 2 2 (gH)
noncomputable def e_:aT:=xt il 16 1 1 (ft)
noncomputable def fR:aT:=xt e_ 17 1 1 (dD)
noncomputable def jG:aT:=xt fR 47 2 2 (lj 40 4)
noncomputable def gq:aT:=xt jG 49 2 4 (jC)
noncomputable def j9:aT:=xt gq 75 3 6 (Ij)
noncomputable def jg:aT:=xt j9 77 3 3 (wb 49)
noncomputable def je:aT:=xt jg 80 3 3 (Bm 77)
noncomputable def ig:aT:=xt je 50 2 6 (f6)
noncomputable def gu:aT:=xt ig 78 3 3 (wb 50)
noncomputable def kg:aT:=xt gu 81 3 3 (Bm 78)
noncomputable def gx:aT:=xt kg 82 1 1 (hX)
noncomputable def jc:aT:=xt gx 83 2 2 (eK)
noncomputable def ie:aT:=xt jc 84 2 6 (fY)
noncomputable def fQ:aT:=xt ie 85 2 5 (fq)
noncomputable def eZ:aT:=xt fQ 86 2 6 (eh)
noncomputable def eY:aT:=xt eZ 88 2 3 (dC)
noncomputable def gn:aT:=xt eY 87 2 6 (dB)
noncomputable def j8:aT:=xt gn 89 2 3 (eI)
noncomputable def Fn:aT:=xt j8 52 1 1 (hJ)
def US:=Cq ji
def O2:=KD kc
def O1:=Gr kb
def UR:=Gq ka O1
def UQ:=Cn jh O2 O1
def t0:=xa kf
def Yd:=sh iw t0
def t1:=lT eG
def t3:=qg gv t0 t1
def t12:=Co pU t3 Yd
def t44:=uP jf rfl rfl rfl
def t9:=mQ e9 t1
def Yf:=uN jd
def SO:=Am fP t9 Yf rfl
def t15:=qf gp SO
def Yc:=xc kh t0 t12 t15 t44
def t72:=KA eF Yc
def UN:=KC dk t72
def t2:=qh gw t1
def t18:=Ph iu ⟨rfl,rfl,rfl,rfl,rfl⟩ t2
def Ya:=U2 dj ⟨rfl,rfl,rfl,rfl,rfl⟩ SO t18 UN
def UP:=mS fb t3
def UM:=U3 gy UP rfl
def t7:=s_by mi (f:=2) t2
def t6:=Gp ir (f:=2) t2.1
def SN:=w_ j_ t9 Yf
def SM:=sg iq t2 SN
def t79:=U1 eu t6 t7 SM UM Ya rfl rfl rfl rfl rfl
def t11:=Cp pV Yd
def t16:=sf il t11 Yc
def Ye:=mR e_ t16
theorem UO:jE 4 lp (jG 47):=Gu fR (f:=40) Bn UP
def t49:=@An jG t2 SO rfl
def Yb:=U0 gq t6 SN SM rfl rfl
def X_:=UZ j9 UO t49 UN UM Yb
def t80:=Pf jg (f:=77) Ye X_
def t50:=@uO je t2 SO rfl
def X9:=Pe ig UO t50 UN UM Yb
def t81:=Pf gu (f:=78) Ye X9
def t82:=xb kg UP SM rfl
def X8:=qi gx t0 t82
def X7:=uM jc rfl
def X6:=se ie
def t86:=oA fQ t2 X6 rfl rfl
def t88:=mP eZ SN X8 X7 t86
def t87:=mO eY t2 X6 rfl
def t89:=qe gn SN X8 X7 t87
def t52:=w9 j8 SM UO
theorem AB:∀ns:aa,(mk Fn 1 13 (lg)) [.lst .sc (ag ns)]=ok (.bl true):=Qu Fn ⟨t52,Ya,X_,X9,t79,t80,t81,t88,t89,US⟩ O2 UR UQ
theorem Nx:T7 (top 63) ["_law_script","_law_sizes_here","_law_many","_law_length","_law_drawing","_law_guess","_law_lots","_law_told","_law_some","_law_house","_law_worths","_law_early","_law_late"] ["_law_script"] [(52,"whole_of"),(76,"forgotten_drawing"),(77,"row_mean"),(78,"row_spread"),(79,"forgotten_guess"),(80,"lots_mean"),(81,"lots_spread"),(88,"turns_drawing"),(89,"turns_guess"),(200,"_law_cell"),(223,"_law_below"),(230,"_law_list"),(245,"_law_sizes")] BL CC px (lg)=true:=by decide +kernel
theorem all_mk{l:PySem.W.OpenLaw}{w:World}{K:aq}{h:Heap}{mg:a_}{fa:Addr}{X2 X1:Value}(X:K.In h)(G:h.Ns mainGlobals mg)(hfa:mg "law" = some (.ref fa))
  (a0:Df K "_law_below" (top 60))
  (a1:Df K "_law_cell" (top 58))
  (a2:Df K "_law_frac" (top 59))
  (a3:Df K "_law_list" (top 61))
  (a4:Df K "_law_sizes" (top 62))
  (a5:Df K "is_whole" (top 9))
  (a6:Df K "are_houses" (top 22))
  (a7:Df K "common_divisor" (top 10))
  (a8:Df K "is_fraction" (top 12))
  (a9:Df K "is_row" (top 24))
  (a10:Df K "rows_rise" (top 25))
  (a11:Df K "common_bottom" (top 16))
  (a12:Df K "tops_over" (top 17))
  (a13:Df K "weighed_lots" (top 26))
  (a14:Df K "sums_to_one" (top 27))
  (a15:Df K "is_drawn" (top 28))
  (a16:Df K "is_row_drawing" (top 39))
  (a17:Df K "check_row_drawing" (top 40))
  (a18:Df K "fraction_of" (top 11))
  (a19:Df K "drawing_of" (top 31))
  (a20:Df K "forgotten_drawing" (top 43))
  (a21:Df K "are_fractions" (top 13))
  (a22:Df K "check_guess" (top 41))
  (a23:Df K "frac_by" (top 15))
  (a24:Df K "frac_times" (top 14))
  (a25:Df K "over_one" (top 18))
  (a26:Df K "frac_total" (top 19))
  (a27:Df K "forgotten_guess" (top 46))
  (a28:Df K "is_lot" (top 23))
  (a29:Df K "is_drawing" (top 29))
  (a30:Df K "check_drawing" (top 30))
  (a31:Df K "check_worths" (top 33))
  (a32:Df K "mean_of" (top 34))
  (a33:Df K "row_guesses" (top 42))
  (a34:Df K "row_mean" (top 44))
  (a35:Df K "lots_mean" (top 47))
  (a36:Df K "spread_of" (top 35))
  (a37:Df K "row_spread" (top 45))
  (a38:Df K "lots_spread" (top 48))
  (a39:Df K "is_sizes" (top 49))
  (a40:Df K "check_turns" (top 50))
  (a41:Df K "turn_rows" (top 51))
  (a42:Df K "sizes_left" (top 52))
  (a43:Df K "turns_chance" (top 53))
  (a44:Df K "turns_drawing" (top 55))
  (a45:Df K "turns_weights" (top 54))
  (a46:Df K "turns_guess" (top 56))
  (a47:Df K "whole_of" (top 36))
  (a48:Df K "law" (top 63))
  (z:dM (λy=>PySem.W.nsIn K mainGlobals y=some none) BL)
  (q0:PySem.W.nsIn K mainGlobals "MOST_HOUSES" = some (some X2)) (r0:RelV (.int 12) X2)
  (q1:PySem.W.nsIn K mainGlobals "MOST_SIZES" = some (some X1)) (r1:RelV (.int 6) X1) :
  ∃fd:FuncData,(∀(s:Shared) (v:Value),BindsTo s fd ⟨[v],[]⟩ [("_law_script",v)])/\∀base:Heap,K.In base->base.Ns mainGlobals mg->jK l.prog w K mg base BA 50 fa fd ["_law_script"] (Gh K 1 sF):=by
 obtain⟨f,fd,Fu,a⟩:=a48;have e:=hfa.symm.trans (acu X G a);cases e;obtain⟨oc,od,kV,dc,pm,an,cd,ct,sl,rfl,_,_⟩:=id Fu.ex;have Y:=dM.nn X G z;have x0:∃u,mg "MOST_HOUSES" = some u/\FG K (GK.i 12) u:=⟨_,acu X G q0,r0⟩
 have x1:∃u,mg "MOST_SIZES" = some u/\FG K (GK.i 6) u:=⟨_,acu X G q1,r1⟩
 refine⟨PySem.W.fnOf "law" "law" (fX (top 63)) (dA (top 63)) (bL (top 63)) .none kV dc pm an cd ct,λs v=>.of_eq rfl,λbase _ _=>?_⟩;have N:=@en7 l.prog w K h base mg BL CC px PT X G pr Y ⟨x0,x1,eR⟩;have E0:=N 1 ji a0 ["_law_one","_law_other"] 2 [] (nP) eR;have E1:=N 2 kc a1 ["_law_script","_law_k","_law_cell_here","_law_number"] 2 [] (eW) eR;have E2:=N 3 kb a2 ["_law_top","_law_bottom","_law_one","_law_other"] 2 [] (lb) eR;have E3:=N 4 ka a3 ["_law_number","_law_many","_law_found","_law_k"] 2 [(201,"_law_frac")] (nN) ⟨E2.u,eR⟩;have E4:=N 5 jh a4 ["_law_script","_law_at","_law_most","_law_number","_law_many","_law_parts","_law_k"] 3 [(200,"_law_cell"),(201,"_law_frac")] (k_) ⟨E1.u,E2.u,eR⟩;have E5:=N 6 kf a5 ["thing"] 1 [] (hV) eR;have E6:=N 7 iw a6 ["thing","many"] 2 [(0,"is_whole")] (c_) ⟨E5.u,eR⟩;have E7:=N 8 eG a7 ["one","other","rest"] 2 [] (cZ) eR;have E8:=N 9 gv a8 ["thing"] 1 [(0,"is_whole"),(1,"common_divisor")] (bV) ⟨E5.u,E7.u,eR⟩;have E9:=N 10 pU a9 ["thing","many"] 2 [(3,"is_fraction"),(43,"are_houses")] (lh) ⟨E8.u,E6.u,eR⟩;have E10:=N 11 jf a10 ["rows","ahead","behind"] 1 [] (f7) eR;have Z3:=N 12 e9 a11 ["some","bottom","part"] 1 [(1,"common_divisor")] (cH) ⟨E7.u,eR⟩;have Z2:=N 13 jd a12 ["some","bottom"] 2 [] (fZ) eR;have Uk:=N 14 fP a13 ["rows","chances","lots","bottom"] 1 [(9,"common_bottom"),(10,"tops_over")] (jB) ⟨Z3.u,Z2.u,eR⟩;have E14:=N 15 gp a14 ["rows","weighed"] 1 [(14,"weighed_lots")] (eJ) ⟨Uk.u,eR⟩;have Z1:=N 16 kh a15 ["thing","many","rows","row"] 1 [(0,"is_whole"),(12,"is_row"),(15,"sums_to_one"),(44,"rows_rise")] (hZ) ⟨E5.u,E9.u,E14.u,E10.u,eR⟩;have E16:=N 17 eF a16 ["thing"] 1 [(45,"is_drawn")] (tG) ⟨Z1.u,eR⟩;have XY:=N 18 dk a17 ["thing"] 1 [(72,"is_row_drawing")] (tI) ⟨E16.u,eR⟩;have JW:=N 19 gw a18 ["top","bottom","divisor"] 2 [(1,"common_divisor")] (cJ) ⟨E7.u,eR⟩;have E19:=N 20 iu a19 ["many","weights","bottom"] 3 [(2,"fraction_of")] (zY) ⟨JW.u,eR⟩;have Z0:=N 21 dj a20 ["drawing","weighed","weights","weight","row","lot"] 1 [(14,"weighed_lots"),(18,"drawing_of"),(73,"check_row_drawing")] (Ik) ⟨Uk.u,E19.u,XY.u,eR⟩;have XX:=N 22 fb a21 ["thing","many"] 2 [(3,"is_fraction")] (cj) ⟨E8.u,eR⟩;have XW:=N 23 gy a22 ["thing","rows","row","weights"] 2 [(40,"are_fractions")] (Il) ⟨XX.u,eR⟩;have E23:=N 24 mi a23 ["one","other"] 2 [(2,"fraction_of")] (Fb 2) ⟨JW.u,eR⟩;have ZZ:=N 25 ir a24 ["one","other"] 2 [(2,"fraction_of")] (nM 2) ⟨JW.u,eR⟩;have Uj:=N 26 j_ a25 ["some","bottom"] 1 [(9,"common_bottom"),(10,"tops_over")] (hU) ⟨Z3.u,Z2.u,eR⟩;have Ui:=N 27 iq a26 ["some","tops"] 1 [(2,"fraction_of"),(41,"over_one")] (fu) ⟨JW.u,Uj.u,eR⟩;have E27:=N 28 eu a27 ["drawing","guess","lots","parts","row","weights","lot","house","weight","told","chance"] 2 [(6,"frac_times"),(7,"frac_by"),(42,"frac_total"),(74,"check_guess"),(76,"forgotten_drawing")] (E_) ⟨ZZ.u,E23.u,Ui.u,XW.u,Z0.u,eR⟩;have E28:=N 29 pV a28 ["thing","many"] 2 [(43,"are_houses")] (gH) ⟨E6.u,eR⟩;have E29:=N 30 il a29 ["thing"] 1 [(11,"is_lot"),(45,"is_drawn")] (ft) ⟨E28.u,Z1.u,eR⟩;have ZY:=N 31 e_ a30 ["thing"] 1 [(16,"is_drawing")] (dD) ⟨E29.u,eR⟩;have XU:=N 32 fR a31 ["thing","many"] 2 [(40,"are_fractions")] (lj 40 4) ⟨XX.u,eR⟩;have E32:=N 33 jG a32 ["rows","guesses","weighed","total"] 2 [(2,"fraction_of"),(14,"weighed_lots")] (jC) ⟨JW.u,Uk.u,eR⟩;have ZX:=N 34 gq a33 ["rows","guess","worths","told","row","weights"] 3 [(6,"frac_times"),(41,"over_one"),(42,"frac_total")] (Ij) ⟨ZZ.u,Uj.u,Ui.u,eR⟩;have ZW:=N 35 j9 a34 ["drawing","guess","worths"] 3 [(47,"check_worths"),(49,"mean_of"),(73,"check_row_drawing"),(74,"check_guess"),(75,"row_guesses")] (wb 49) ⟨XU.u,E32.u,XY.u,XW.u,ZX.u,eR⟩;have E35:=N 36 jg a35 ["drawing","guess","worths"] 3 [(17,"check_drawing"),(77,"row_mean")] (Bm 77) ⟨ZY.u,ZW.u,eR⟩;have E36:=N 37 je a36 ["rows","guesses","weighed","total","squares","bottom"] 2 [(2,"fraction_of"),(14,"weighed_lots")] (f6) ⟨JW.u,Uk.u,eR⟩;have ZV:=N 38 ig a37 ["drawing","guess","worths"] 3 [(47,"check_worths"),(50,"spread_of"),(73,"check_row_drawing"),(74,"check_guess"),(75,"row_guesses")] (wb 50) ⟨XU.u,E36.u,XY.u,XW.u,ZX.u,eR⟩;have E38:=N 39 gu a38 ["drawing","guess","worths"] 3 [(17,"check_drawing"),(78,"row_spread")] (Bm 78) ⟨ZY.u,ZV.u,eR⟩;have E39:=N 40 kg a39 ["thing"] 1 [(40,"are_fractions"),(42,"frac_total")] (hX) ⟨XX.u,Ui.u,eR⟩;have ZU:=N 41 gx a40 ["sizes","many"] 2 [(0,"is_whole"),(82,"is_sizes")] (eK) ⟨E5.u,E39.u,eR⟩;have ZT:=N 42 jc a41 ["houses","many","rows","turn","longer","row"] 2 [] (fY) eR;have ZS:=N 43 ie a42 ["tops","row","left","told","house"] 2 [] (fq) eR;have E43:=N 44 fQ a43 ["tops","row","top","bottom","house","left"] 2 [(2,"fraction_of"),(85,"sizes_left")] (eh) ⟨JW.u,ZS.u,eR⟩;have E44:=N 45 eZ a44 ["sizes","many","tops"] 2 [(41,"over_one"),(83,"check_turns"),(84,"turn_rows"),(86,"turns_chance")] (dC) ⟨Uj.u,ZU.u,ZT.u,E43.u,eR⟩;have E45:=N 46 eY a45 ["tops","row","weights","behind","house","left"] 2 [(2,"fraction_of"),(85,"sizes_left")] (dB) ⟨JW.u,ZS.u,eR⟩;have E46:=N 47 gn a46 ["sizes","many","tops"] 2 [(41,"over_one"),(83,"check_turns"),(84,"turn_rows"),(87,"turns_weights")] (eI) ⟨Uj.u,ZU.u,ZT.u,E45.u,eR⟩;have E47:=N 48 j8 a47 ["worths"] 1 [(42,"frac_total"),(47,"check_worths")] (hJ) ⟨Ui.u,XU.u,eR⟩;exact enL 49 Fn sF Fu Nx (pr _ _ _) Y ⟨x0,x1,eR⟩ ⟨E47.u,Z0.u,ZW.u,ZV.u,E27.u,E35.u,E38.u,E44.u,E46.u,E1.u,E0.u,E3.u,E4.u,eR⟩ (Dx λns _=>(xn _ _ (AB ns)).2)
theorem walk{l:PySem.W.OpenLaw}{q:aF}{loose:au}{XP:(a_)->Heap->Prop}{YP:World->Heap->Prop}{d:DefRec}{K:Params->aq}(hn:l.most=some 63)(Q8:d.params.defaults=[])
  (hY:∀(w:World) (h:Heap),YP w h->(K w.params).In h)
  (F:∀(w:World) (mg:a_) (fa:Addr) (h:Heap),(K w.params).In h->h.Ns mainGlobals mg->mg d.name=some (.ref fa) ->
   ∃fd:FuncData,(∀(s:Shared) (u:Value),BindsTo s fd ⟨[u],[]⟩ [("_law_script",u)])/\∀base:Heap,(K w.params).In base->base.Ns mainGlobals mg->jK l.prog w (K w.params) mg base BA 50 fa fd ["_law_script"] (Gh (K w.params) 1 sF)) :
  PySem.W.WalkO q loose XP YP l.row.toRowW d [] (λf vs=>PySem.call f vs) :=
 L2.FT (n:=63) (k:=50) (x:="_law_script") (CX:=λ_=>BA) (sp:=λw=>Gh (K w.params) 1 sF) hn (by decide) Q8 ⟨rfl,by decide,by decide⟩ hY F (λw H a ns hl hO hS=>LO (K w.params) H a ns sF (He hl) hO hS) λ_ _ _ _ _ z=>z
end Asm
end
open PySem PySem.W PyProof.Rows
set_option maxRecDepth 100000 in
set_option maxHeartbeats 0 in
theorem PySem.Challenge.cw_sharesample_k36_whole_turns_are_right_holds : PySem.Challenge.rw_sharesample_k36_whole_turns_are_right.Holds := by
 w_on;o_law;k_head;(case hw=>w_witness2)
 k_fill
 refine Asm.walk (l:=PySem.Challenge.rw_sharesample_k36_whole_turns_are_right) rfl rfl (fun w h Y=>PySem.W.kIn_of Y) ?F
 case F =>
  intro w mg fa h KX G hmg
  refine' Asm.all_mk KX G hmg ?a0 ?a1 ?a2 ?a3 ?a4 ?a5 ?a6 ?a7 ?a8 ?a9 ?a10 ?a11 ?a12 ?a13 ?a14 ?a15 ?a16 ?a17 ?a18 ?a19 ?a20 ?a21 ?a22 ?a23 ?a24 ?a25 ?a26 ?a27 ?a28 ?a29 ?a30 ?a31 ?a32 ?a33 ?a34 ?a35 ?a36 ?a37 ?a38 ?a39 ?a40 ?a41 ?a42 ?a43 ?a44 ?a45 ?a46 ?a47 ?a48 ?zz ?q0 ?r0 ?q1 ?r1
  case a0 | a1 | a2 | a3 | a4 | a5 | a6 | a7 | a8 | a9 | a10 | a11 | a12 | a13 | a14 | a15 | a16 | a17 | a18 | a19 | a20 | a21 | a22 | a23 | a24 | a25 | a26 | a27 | a28 | a29 | a30 | a31 | a32 | a33 | a34 | a35 | a36 | a37 | a38 | a39 | a40 | a41 | a42 | a43 | a44 | a45 | a46 | a47 | a48 =>
   refine' DI.dmk ?x ?y ?z ?w
   case x | y | z | w=>k_is
  (case zz=>refine' ⟨?_,?_,?_,?_,?_,?_,?_,?_,?_,?_,?_,?_,?_,?_,trivial⟩ <;> show PySem.W.nsIn _ _ _ = some none <;> k_is)
  (case q0=>k_is);(case r0=>exact ⟨_,rfl⟩)
  (case q1=>k_is);(case r1=>exact ⟨_,rfl⟩)
