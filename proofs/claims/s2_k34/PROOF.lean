import PyProof.Rows.All
import Wide.All
import OpenK.AllK
import Wide.FinOn
import Lean
import PyProof.EqAt
import PyProof.EqKinds
import PyProof.TupleCall
import PyProof.NeKinds
import KE.BitLaws
import PyProof.SumWalkG
import PyProof.ConsumeWalk
import PyProof.WalksMore
import KE.KSortedM
import PyProof.Rows.SetFrom
import PyProof.CompUse
import PyProof.ZipIter
import PyProof.EnumMake
import KE.KSortTup
import PyProof.Draws
import PyProof.ListRange
import PyProof.SliceList
import PyProof.DictIter
import PyProof.Rows.DictUnroll
import KE.KDictSum
import PyProof.DictRoadsH
import PyProof.DictKinds
import PyProof.DictItems
import PyProof.DictItemsLoops
import PyProof.Rows.TupDisplay
import KE.KDictList
import PySem.Challenge.RW_sharesample_k34_whole_forgetting_is_no_w
set_option bootstrap.genMatcherCode false
set_option genSizeOf false
set_option genSizeOfSpec false
set_option Elab.async false
set_option linter.all false
set_option maxRecDepth 100000
local macro_rules | `(tactic| left) => `(tactic| first | assumption | exact Nat.zero_le _ | exact Int.natCast_nonneg _ | exact Int.ofNat_lt.mpr (by assumption) | exact Nat.le_of_lt (by assumption) | exact Nat.le_trans (by assumption) (by assumption) | exact Nat.lt_of_lt_of_le (by assumption) (by assumption) | lia | omega)
noncomputable section
abbrev aaa:=@PySem.wpAny_bind
abbrev aab:=@PySem.wpAny_pure
abbrev aac:=@of_decide_eq_true
abbrev aag:=@List.mem_cons_of_mem
abbrev aah:=@Bool.false_ne_true
abbrev aai:=@List.mem_cons_self
abbrev aaj:=@PySem.Heap.get?_push_of_some
abbrev aak:=@PySem.Heap.lt_size
abbrev aal:=@Nat.lt_of_lt_of_le
abbrev aam:=@Nat.le_refl
abbrev aan:=@List.map_congr_left
abbrev aao:=@List.getElem?_eq_getElem
abbrev aas:=@Nat.ne_of_lt
abbrev aat:=@PySem.Heap.get?_push_size
abbrev aau:=@List.mem_append_right
abbrev aaw:=@Nat.pow_le_pow_right
abbrev aax:=@Option.some.inj
abbrev aay:=@List.mem_map_of_mem
abbrev aaz:=@Nat.ne_of_gt
abbrev aaA:=@Nat.lt_irrefl
abbrev aaB:=@PyProof.Rows.callWith_type1
abbrev aaC:=@List.mergeSort_perm
abbrev aaD:=@List.mem_of_getElem?
abbrev aaE:=@Nat.lt_of_le_of_lt
abbrev aaF:=@PySem.wpAny_mono
abbrev aaG:=@Nat.le_trans
abbrev aaH:=@Nat.mul_le_mul_left
abbrev aaI:=@List.mem_append_left
abbrev aaJ:=@PySem.wpAny_field
abbrev aaK:=@Ne.symm
abbrev aaL:=@PySem.wpAny_call_entry
abbrev aaM:=@PySem.wpAny_holding
abbrev aaN:=@PySem.wpAny_seqItems
abbrev aaO:=@List.of_mem_zip
abbrev aaP:=@Nat.zero_le
abbrev aaQ:=@Nat.lt_succ_of_lt
abbrev aaR:=@List.nodup_nil
abbrev aaS:=@PySem.wpAny_callSpecial?_slot
abbrev aaT:=@PySem.Heap.get?_update_other
abbrev aaU:=@congrArg
abbrev aaV:=@PySem.Heap.SameBut.update
abbrev aaW:=@PySem.Heap.get?_update_self
abbrev aaX:=@PySem.wpAny_truthy_bool
abbrev aaY:=@PySem.F.slot_dict_keyiterator_next
abbrev aaZ:=@if_pos
abbrev aa0:=@Nat.lt_succ_self
abbrev aa1:=@PySem.wpAny_Call_Name_kw
abbrev aa2:=@PySem.sizeLine_eq
abbrev aa3:=@decide_eq_false
abbrev aa4:=@PySem.wpAny_newObj_type
abbrev aa5:=@PySem.wpAny_typeNameOfWhole_keyiter
abbrev aa6:=@PySem.mem_of_lookup
abbrev aa7:=@PySem.wpAny_setField_rec
abbrev aa8:=@PySem.wpAny_passesOwn
abbrev aa9:=@PySem.W.kia_one
abbrev aa_:=@List.length_map
abbrev aba:=@PySem.wpAny_rule
abbrev abb:=@Array.getElem?_eq_getElem
abbrev abc:=@decide_eq_true
abbrev abd:=@PySem.wpAny_isInstance
abbrev abe:=@PySem.wpAny_typeNameOf_keyiter
abbrev abf:=@Int.mul_fdiv_cancel_left
abbrev abg:=@List.cons.inj
abbrev abh:=@PySem.wpAny_specialOf
abbrev abi:=@PyProof.Rows.subscriptTail_builtinR
abbrev abj:=@PySem.Calls.callWith_builtin
abbrev abk:=@Array.getElem?_eq_none
abbrev abl:=@PySem.F.slot_zip_next
abbrev abm:=@Nat.lt_trans
abbrev abn:=@List.ext_getElem
abbrev abo:=@PySem.wpAny_pyIter_zip
abbrev abp:=@Nat.mul_le_mul_right
abbrev abq:=@PySem.wpAny_attempt
abbrev abr:=@Nat.le_of_dvd
abbrev abt:=@PySem.SeqAt.EqAt.same
abbrev abu:=@PySem.codeAny_builtin
abbrev abv:=@Int.mul_ne_zero
abbrev abw:=@List.exists_mem_of_ne_nil
abbrev abx:=@PySem.Calls.spliced_cons
abbrev aby:=@PySem.SeqAt.EqAt.int_int
abbrev abz:=@PySem.F.args_tuple_add_2
abbrev abA:=@PySem.F.slot_list_append
abbrev abB:=@Rat.le_of_lt
abbrev abC:=@PySem.call_meets
abbrev abD:=@PySem.F.entry_tuple_add
abbrev abE:=@PySem.F.plainAttrs_list
abbrev abF:=@PySem.Calls.spliced_nil
abbrev abG:=@PySem.wpAny_dictEntries
abbrev abH:=@PySem.F.slot_tuple_add
abbrev abI:=@PySem.wpAny_nextOf_list_item
abbrev abJ:=@Int.fmod_nonneg_of_pos
abbrev abK:=@Rat.intCast_lt_intCast
abbrev abL:=@beq_self_eq_true
abbrev abM:=@List.getElem_mem
abbrev abN:=@PySem.wpAny_forIn_list
abbrev abO:=@PySem.F.slot_tuple_lt
abbrev abP:=@PySem.wpAny_nextOf_list_end
abbrev abQ:=@Eq.symm
abbrev abR:=@PySem.isSubtype_tuple_tuple
abbrev abS:=@PySem.codeAny_mono
abbrev abT:=@PySem.SeqAt.EqAt.none_bool
abbrev abU:=@PySem.SeqAt.EqAt.bool_none
abbrev abV:=@PySem.SeqAt.EqAt.bool_bool
abbrev abW:=@PySem.Calls.evalArgs_plain
abbrev abX:=@PySem.wpAny_updateSeq_pair
abbrev abY:=@PySem.F.slot_zip_next
abbrev abZ:=@PySem.wpAny_updateSeq
abbrev ab0:=@Nat.div_le_self
abbrev ab1:=@PySem.SeqAt.EqAt.none_int
abbrev ab2:=@PySem.SeqAt.EqAt.bool_int
abbrev ab3:=@PySem.SeqAt.EqAt.int_none
abbrev ab4:=@PySem.SeqAt.EqAt.int_bool
abbrev ab5:=@Nat.add_le_add_left
abbrev ab6:=@PySem.wpAny_setField
abbrev ab7:=@Nat.mul_le_mul
abbrev ab8:=@Int.mul_le_mul
abbrev ab9:=@Rat.mul_nonneg
abbrev ab_:=@Nat.le_succ
abbrev aca:=@List.map_id
abbrev acb:=@if_neg
abbrev acd:=@PySem.tupleKind_room_in1
abbrev ace:=@Int.fmod_lt_of_pos
abbrev acf:=@PySem.wpAny_tupleItemsOf
abbrev acg:=@PySem.wpAny_standAt
abbrev ach:=@PySem.wpAny_newList
abbrev aci:=@PySem.wpAny_onRaise
abbrev acj:=@Nat.le_succ_of_le
abbrev ack:=@Nat.le_of_lt
abbrev acm:=@List.getElem_inj
abbrev acn:=@Nat.le_add_right
abbrev aco:=@Eq.trans
abbrev ag:=List (List Int)
abbrev aa:=List Int
abbrev aO:=List Nat
abbrev aq:=List PySem.Str
abbrev ak:=List PySem.Value
abbrev av:=List PySem.Expr
abbrev aN:=List PySem.Addr
abbrev br:=List PySem.Stmt
abbrev au:=List Rat
abbrev aM:=Array PySem.Value
abbrev ao:=PySem.W.Frag
abbrev aw:=PySem.Value->PySem.Shared->Prop
abbrev aj:=List (PySem.Addr×PySem.Obj)
abbrev ai:=PySem.Addr->Prop
abbrev aZ:=PySem.Str->Option PySem.Value
abbrev aE:=PySem.Program
abbrev aD:=PySem.Around
namespace L2
open PySem PySem.Spec PyProof.Rows
noncomputable abbrev Key:=Sum Int Str
def G4:Key->Value->Bool
 |.inl k,v=>Value.isInt k v
 |.inr x,v=>Value.isStrOf x v
def TB(w:World):Key->Int
 |.inl k=>hashInt k
 |.inr x=>hashStr w x
theorem cf:∀{k:Key} {v:Value},G4 k v=true->(∃i t,k=Sum.inl i/\v=Value.int i t)\/(∃x t,k=Sum.inr x/\v=Value.str x t)
 |.inl i,v,h=>by
  obtain⟨t,e⟩:=Value.isInt_shape (k:=i) (v:=v) h;exact .inl ⟨i,t,rfl,e⟩
 |.inr x,v,h=>by
  obtain⟨t,e⟩:=Value.isStrOf_shape (x:=x) (v:=v) h;exact .inr ⟨x,t,rfl,e⟩
theorem JJ(a b:Int):decide ((Sum.inl a:Key)=Sum.inl b)=(a==b):=by
 by_cases e:a=b
 ·subst e;simp
 ·have h:¬ (Sum.inl a:Key)=Sum.inl b:=λq=>e (Sum.inl.inj q);rw[decide_eq_false h];exact(beq_eq_false_iff_ne.mpr e).symm
theorem JG(a b:Str):decide ((Sum.inr a:Key)=Sum.inr b)=decide (a=b):=by
 by_cases e:a=b
 ·subst e;simp
 ·have h:¬ (Sum.inr a:Key)=Sum.inr b:=λq=>e (Sum.inr.inj q);rw[decide_eq_false h,decide_eq_false e]
theorem JI(a:Int)(b:Str):decide ((Sum.inl a:Key)=Sum.inr b)=false:=aa3 (λq=>nomatch q)
theorem JH(a:Str)(b:Int):decide ((Sum.inr a:Key)=Sum.inl b)=false:=aa3 (λq=>nomatch q)
def wZ(prog:aE)(w:World):PySem.KeyKind prog w Key where
 is:=G4
 hash:=TB w
 inj:=λv a b ha hb=>by
  rcases cf ha with ⟨i,t,rfl,rfl⟩|⟨x,t,rfl,rfl⟩
  ·rcases cf hb with ⟨j,u,rfl,e⟩|⟨y,u,rfl,e⟩
   ·injection e with e1 _;rw[e1]
   ·exact nomatch e
  ·rcases cf hb with ⟨j,u,rfl,e⟩|⟨y,u,rfl,e⟩
   ·exact nomatch e
   ·injection e with e1 _;rw[e1]
 byValue:=λk v h=>by
  rcases cf h with ⟨i,t,rfl,rfl⟩|⟨x,t,rfl,rfl⟩<;>rfl
 pyHash:=λhv h=>by
  rcases cf hv with ⟨i,t,rfl,rfl⟩|⟨x,t,rfl,rfl⟩
  ·exact wpAny_pyHash_int h
  ·exact wpAny_pyHash_str h
 eqBool:=λhu hv h=>by
  rcases cf hu with ⟨i,t,rfl,rfl⟩|⟨x,t,rfl,rfl⟩
  ·rcases cf hv with ⟨j,u,rfl,rfl⟩|⟨y,u,rfl,rfl⟩
   ·rw[JJ]at h;exact wpAny_eqBool_int h
   ·rw[JI]at h;exact SeqAt.EqAt.int_str i t y u _ _ _ _ h
  ·rcases cf hv with ⟨j,u,rfl,rfl⟩|⟨y,u,rfl,rfl⟩
   ·rw[JH]at h;exact SeqAt.EqAt.str_int x t j u _ _ _ _ h
   ·rw[JG]at h;exact wpAny_eqBool_str h
 «strs»:=λk x t v h=>by
  rcases cf h with ⟨i,u,rfl,e⟩|⟨y,u,rfl,e⟩
  ·exact nomatch e
  ·injection e with e1 _
   subst e1;cases v<;>rfl
end L2
namespace L2
open PySem PySem.Spec PyProof.Rows
inductive V where
 |cj|bl (b:Bool)|int (i:Int)|str (x:Str)|VD (b:Array UInt8)|Pu (b:UInt64)|ref (a:Addr)|ty (n:String)
 deriving DecidableEq
abbrev ae:=List V
noncomputable def RelV:V->Value->Prop
 |.cj,u=>u=Value.none
 |.bl b,u=>u=Value.bool b
 |.int i,u=>∃t,u=Value.int i t
 |.str x,u=>∃t,u=Value.str x t
 |.VD b,u=>∃t,u=Value.bytes b t
 |.Pu b,u=>∃t,u=Value.float b t
 |.ref a,u=>u=Value.ref a
 |.ty n,u=>u=Value.type n
abbrev Vals:ae->ak->Prop:=Paired RelV
theorem Vals.length{xs:ae}{us:ak}(r:Vals xs us):xs.length=us.length:=Paired.length r
theorem Vals.get:∀{xs:ae} {us:ak} {i:Nat} {x:V},Vals xs us->xs[i]?=some x->∃u,us[i]?=some u/\RelV x u
 |_,_,_,_,.nil,e=>by simp at e
 |_,_,0,_,.cons r _,e=>by simp at e;subst e;exact⟨_,rfl,r⟩
 |_,_,i+1,x,.cons _ t,e=>by
  obtain⟨u,h1,h2⟩:=Vals.get (i:=i) (x:=x) t (by simpa using e);exact⟨u,by simpa using h1,h2⟩
theorem Vals.set{x:V}{u:Value}(r:RelV x u):∀{xs:ae} {us:ak} (i:Nat),Vals xs us->Vals (xs.set i x) (us.set i u)
 |_,_,_,.nil=>.nil
 |_,_,0,.cons _ t=>.cons r t
 |_,_,i+1,.cons q t=>.cons q (Vals.set r i t)
theorem Vals.append:∀{xs ys:ae} {us ws:ak},Vals xs us->Vals ys ws->Vals (xs++ys) (us++ws)
 |_,_,_,_,.nil,s=>s
 |_,_,_,_,.cons r t,s=>.cons r (Vals.append t s)
theorem Vals.take:∀{xs:ae} {us:ak} (n:Nat),Vals xs us->Vals (xs.take n) (us.take n)
 |_,_,0,_=>.nil
 |_,_,_+1,.nil=>.nil
 |_,_,n+1,.cons r t=>.cons r (Vals.take n t)
theorem Vals.drop:∀{xs:ae} {us:ak} (n:Nat),Vals xs us->Vals (xs.drop n) (us.drop n)
 |_,_,0,r=>r
 |_,_,_+1,.nil=>.nil
 |_,_,n+1,.cons _ t=>Vals.drop n t
def l8:Option V->Option Value->Prop
 |some v,some u=>RelV v u
 |none,none=>True
 |_,_=>False
def KV{κ:Type}:List (κ×V)->List (κ×Value)->Prop:=Paired λ(p:κ×V) (q:κ×Value)=>p.1=q.1/\RelV p.2 q.2
def kV:Key->V
 |.inl i=>.int i
 |.inr x=>.str x
inductive HO where
 |lst (xs:ae)
 |tup (xs:ae)
 |dK (nj:List (Key×V))|dT (nj:List (List Key×V))
 |set (S:Int->Bool) (n:Nat)
 |ins (C dx:Addr) (fs:List (Str×V))
 |own (x:Addr)
 |xd (fs:List (Str×V))
 |met (f x:Addr)
 |kZ (lo hi:Int)
 |g_ (o:Obj) (u:HO)
 |GA (ps:aM)
 |ext (φ:Heap->Prop)
noncomputable abbrev Hp:=Addr->Option HO
noncomputable def upd(H:Hp)(a:Addr)(o:HO):Hp:=λb=>if b=a then some o else H b
variable {H:Hp}
theorem aS{a:Addr}{o:HO}:upd H a o a=some o:=by unfold upd;rw[if_pos rfl]
theorem aX{a b:Addr}{o:HO}(h:b≠a):upd H a o b=H b:=by unfold upd;rw[if_neg h]
theorem ck{a b:Addr}{o:HO}(h:H a=some o)(h':H b=none):a≠b:=by
 intro e;subst e;rw[h]at h';cases h'
section
variable (P:aE)(w:World)
def cy(H:Hp)(h:Heap)(a:Addr):HO->Prop
 |.lst xs=>xs.length<=sizeLine/\∃(aI:ak) (n:Nat),Vals xs aI/\h.get? a=some { cls:=.type "list",data:=.seq aI.toArray n }
 |.tup xs=>xs.length<=sizeLine/\∃aI:ak,Vals xs aI/\IsTup h a aI.toArray
 |.dK nj=>nj.length<=sizeLine/\(a==sysModules)=false/\∃vs,KV nj vs/\h.DictOf (wZ P w) a vs
 |.dT nj=>nj.length<=sizeLine/\(a==sysModules)=false/\∃xs:List (List Key×Addr×Value),
   Paired (λ(p:List Key×V) (q:List Key×Addr×Value)=>p.1=q.1/\H q.2.1=some (.tup (p.1.map kV))/\RelV p.2 q.2.2) nj xs /\
   ∃o es ep,h.get? a=some o/\o.ExactDict/\o.data=.dict es ep/\es.toList=xs.map (entryOfKey (tupleKind (wZ P w)))/\(xs.map (·.1)).Nodup
 |.set S n=>h.SetOf (intKind P w) a S n
 |.ins C dx fs=>H dx=some (.own a)/\fs.length<=1000/\dx≠a/\h.get? a=some (PySem.W.instObj C dx) /\
   ∃mA,h.Ns1 dx mA/\(∀f,l8 (fs.lookup f) (mA f))/\PySem.Within mA (fs.map (·.1))
 |.own _=>∃o,h.get? a=some o
 |.xd fs=>∃mA,h.Ns1 a mA/\∀f,l8 (fs.lookup f) (mA f)
 |.kZ lo hi=>∃t u v,h.get? a=some { cls:=.type "range",data:=.fields #[.int lo t,.int hi u,.int 1 v] }
 |.g_ o u=>h.get? a=some o/\cy H h a u
 |.GA ps=>h.get? a=some { cls:=.none,data:=.fields ps }
 |.met f x=>h.get? a=some (PySem.W.methodObj (.ref f) (.ref x))
 |.ext φ=>φ h/\(∃o,h.get? a=some o)/\∀h1 h2:Heap,φ h1->(∀o,h1.get? a=some o->h2.get? a=some o)->φ h2
def lq(H:Hp)(h:Heap):Prop:=∀a o,H a=some o->cy P w H h a o
end
section
variable {P:aE}{w:World}{H H':Hp}{h h':Heap}{a:Addr}{o:HO}
theorem cy.lt(x:cy P w H h a o):a<h.objs.size:=by
 cases o with
 |lst xs=>obtain⟨_,_,_,_,e⟩:=x;exact aak e
 |tup xs=>obtain⟨_,_,_,p⟩:=x;exact p.lt
 |dK nj=>obtain⟨_,_,_,_,o,_,_,e,_⟩:=x;exact aak e
 |dT nj=>obtain⟨_,_,_,_,o,_,_,e,_⟩:=x;exact aak e
 |set S n=>obtain⟨o,_,_,_,e,_⟩:=x;exact aak e
 |ins C dx fs=>obtain⟨_,_,_,e,_⟩:=x;exact aak e
 |own y=>obtain⟨_,e⟩:=x;exact aak e
 |xd fs=>obtain⟨_,⟨_,_,_,e,_⟩,_⟩:=x;exact aak e
 |kZ lo hi=>obtain⟨_,_,_,e⟩:=x;exact aak e
 |g_ ob u=>obtain⟨e,_⟩:=x;exact aak e
 |GA ps=>exact aak (show h.get? a=some _ from x)
 |met f y=>exact aak (show h.get? a=some _ from x)
 |ext φ=>obtain⟨_,⟨_,e⟩,_⟩:=x;exact aak e
theorem Paired.NZ{α β:Type}{F G:α->β->Prop}:∀{l₁:List α} {l₂:List β},Paired F l₁ l₂->(∀a b,F a b->G a b)->Paired G l₁ l₂
 |_,_,.nil,_=>.nil
 |_,_,.cons r t,f=>.cons (f _ _ r) (Paired.NZ t f)
theorem cy.jZ(x:cy P w H h a o)(k:∀b u,(b=a\/H b=some (.own a))->h.get? b=some u->h'.get? b=some u)
  (ho:∀b,H b=some (.own a)->H' b=some (.own a)) (ht:∀b xs,H b=some (.tup xs)->H' b=some (.tup xs)):cy P w H' h' a o:=by
 induction o with
 |lst xs=>obtain⟨z,aI,n,r,e⟩:=x;exact⟨z,aI,n,r,k _ _ (.inl rfl) e⟩
 |tup xs=>obtain⟨z,aI,r,ob,e,c⟩:=x;exact⟨z,aI,r,ob,k _ _ (.inl rfl) e,c⟩
 |dK nj=>obtain⟨z,y,vs,r,ob,es,ep,e,c⟩:=x;exact⟨z,y,vs,r,ob,es,ep,k _ _ (.inl rfl) e,c⟩
 |dT nj =>
  obtain⟨z,y,xs,r,ob,es,ep,e,c⟩:=x;exact⟨z,y,xs,Paired.NZ r λp q z=>⟨z.1,ht _ _ z.2.1,z.2.2⟩,ob,es,ep,k _ _ (.inl rfl) e,c⟩
 |set S n=>obtain⟨ob,es,ep,t,e,c⟩:=x;exact⟨ob,es,ep,t,k _ _ (.inl rfl) e,c⟩
 |ins C dx fs =>
  obtain⟨d,z,ne,e,mA,⟨od,es,ep,e2,c⟩,r⟩:=x;exact⟨ho _ d,z,ne,k _ _ (.inl rfl) e,mA,⟨od,es,ep,k _ _ (.inr d) e2,c⟩,r⟩
 |own y=>obtain⟨ob,e⟩:=x;exact⟨ob,k _ _ (.inl rfl) e⟩
 |xd fs=>obtain⟨mA,⟨od,es,ep,e,c⟩,r⟩:=x;exact⟨mA,⟨od,es,ep,k _ _ (.inl rfl) e,c⟩,r⟩
 |kZ lo hi=>obtain⟨t,u,v,e⟩:=x;exact⟨t,u,v,k _ _ (.inl rfl) e⟩
 |g_ ob u ih=>obtain⟨e,q⟩:=x;exact⟨k _ _ (.inl rfl) e,ih q⟩
 |GA ps =>
  have e:h.get? a=some { cls:=.none,data:=.fields ps }:=x;show h'.get? a=some { cls:=.none,data:=.fields ps };exact k a _ (.inl rfl) e
 |met f y =>
  have e:h.get? a=some (PySem.W.methodObj (.ref f) (.ref y)):=x;show h'.get? a=some (PySem.W.methodObj (.ref f) (.ref y));exact k a _ (.inl rfl) e
 |ext φ=>obtain⟨p,⟨o,e⟩,st⟩:=x;exact⟨st _ _ p λo q=>k _ _ (.inl rfl) q,⟨o,k _ _ (.inl rfl) e⟩,st⟩
theorem lq.lt(x:lq P w H h)(e:H a=some o):a<h.objs.size:=(x a o e).lt
theorem lq.fresh(x:lq P w H h)(e:h.objs.size<=a):H a=none:=by
 cases q:H a with
 |none=>rfl
 |some u=>exact absurd (aal (x.lt q) e) (aaA _)
theorem lq.kept(x:lq P w H h)(k:∀b u,h.get? b=some u->h'.get? b=some u):lq P w H h':=λa o e =>
 (x a o e).jZ (λb u _ q=>k b u q) (λ_ q=>q) λ_ _ q=>q
theorem lq.laid(x:lq P w H h)(k:∀b u,h.get? b=some u->h'.get? b=some u)(hp:h.objs.size<=a)(new:cy P w (upd H a o) h' a o):lq P w (upd H a o) h':=λb u e=>by
 have hn:=x.fresh hp;by_cases hb:b=a
 ·subst hb;rw[aS]at e;cases e;exact new
 ·rw[aX hb]at e;exact(x b u e).jZ (λc v _ q=>k c v q) (λc q=>by rw[aX (ck q hn)];exact q) λc xs q=>by rw[aX (ck q hn)];exact q
end
def Rd(H:Hp)(a:Addr)(u:HO):Prop:=H a=some u\/∃o,H a=some (.g_ o u)
theorem Rd.ok{P:aE}{w:World}{h:Heap}{a:Addr}{u:HO}(r:Rd H a u)(x:lq P w H h):cy P w H h a u:=by
 rcases r with r|⟨o,r⟩
 ·exact x a u r
 ·obtain⟨_,q⟩:=x a _ r;exact q
noncomputable def RE:Option HO->Prop
 |some (.lst _)=>True
 |some (.dK _)=>True
 |some (.dT _)=>True
 |some (.set _ _)=>True
 |some (.ins _ _ _)=>True
 |some (.ext _)=>True
 |_=>False
section
variable {P:aE}{w:World}{H:Hp}{h h':Heap}{x e:Addr}{o':HO}
theorem lq.write(ok:lq P w H h)(mu:RE (H x))(he:e=x\/H e=some (.own x))(k:∀b u,b≠e->h.get? b=some u->h'.get? b=some u)(L5:∃u,h'.get? e=some u)
  (new:cy P w (upd H x o') h' x o'):lq P w (upd H x o') h':=λb u q=>by
 have NP:∀c y,H c=some (.own y)->c≠x:=λc y r z=>by subst z;rw[r]at mu;exact mu
 have To:∀c xs,H c=some (.tup xs)->c≠x:=λc xs r z=>by subst z;rw[r]at mu;exact mu
 by_cases hb:b=x
 ·subst hb;rw[aS]at q;cases q;exact new
 ·rw[aX hb]at q;by_cases Kc:b=e
  ·have q':H b=some (.own x):=by
    rcases he with z|z
    ·exact absurd (Kc.trans z) hb
    ·rw[Kc];exact z
   rw[q]at q';cases q';obtain⟨v,hv⟩:=L5;exact⟨v,by rw[Kc];exact hv⟩
  ·refine(ok b u q).jZ (λc v hc r=>k c v ?_ r) (λc r=>by rw[aX (NP c b r)];exact r) λc xs r=>by rw[aX (To c xs r)];exact r
   rcases hc with rfl|hc
   ·exact Kc
   ·rintro rfl;rcases he with z|z
    ·exact NP c b hc z
    ·rw[hc]at z;cases z;exact hb rfl
end
structure Un(fs ex:aN)(H H':Hp)(h h':Heap):Prop where
 keep:∀b o,h.get? b=some o->H b=none->b∉fs->b∉ex->h'.get? b=some o
 slot:∀b o,h.get? b=some o->H b=none->b∈fs->b∉ex->∃sl,h'.get? b=some { o with slots:=sl }
 free:∀b o,h.get? b=some o->H b=none->b∉ex->H' b=none
 there:∀b o,h.get? b=some o->b∉ex->∃o',h'.get? b=some o'
 p7:∀b xs,H b=some (.tup xs)->H' b=some (.tup xs)
 oM:∀b o u,H b=some (.g_ o u)->H' b=some (.g_ o u)
 p9:∀b ps,H b=some (.GA ps)->∃more,H' b=some (.GA (ps++more))
section
variable {fs Z1 ex Vl:aN}{H H1 H2:Hp}{h h1 h2 h':Heap}{a x e:Addr}{o:HO}
theorem Un.any(u:Un fs ex H H1 h h1){b:Addr}{ob:Obj}(q:h.get? b=some ob)(n:H b=none)(hx:b∉ex):∃sl,h1.get? b=some { ob with slots:=sl }:=by
 by_cases hb:b∈fs
 ·exact u.slot b ob q n hb hx
 ·exact⟨ob.slots,u.keep b ob q n hb hx⟩
theorem Un.kept(k:∀b u,h.get? b=some u->h'.get? b=some u):Un fs ex H H h h' :=
 ⟨λb ob q _ _ _=>k b ob q,λb ob q _ _ _=>⟨ob.slots,k b ob q⟩,λ_ _ _ n _=>n,λb ob q _=>⟨ob,k b ob q⟩,λ_ _ q=>q,λ_ _ _ q=>q,λ_ ps q=>⟨#[],by rw[q];simp⟩⟩
theorem Un.refl:Un fs ex H H h h:=Un.kept λ_ _ q=>q
theorem Un.laid(k:∀b u,h.get? b=some u->h'.get? b=some u)(hp:h.objs.size<=a)(hn:H a=none):Un fs ex H (upd H a o) h h' where
 keep:=λb u q _ _ _=>k b u q
 slot:=λb u q _ _ _=>⟨u.slots,k b u q⟩
 free:=λb u q n _=>by rw[aX (Nat.ne_of_lt (Nat.lt_of_lt_of_le (Heap.lt_size q) hp))];exact n
 there:=λb u q _=>⟨u,k b u q⟩
 p7:=λb xs q=>by rw[aX (ck q hn)];exact q
 oM:=λb u xs q=>by rw[aX (ck q hn)];exact q
 p9:=λb ps q=>⟨#[],by rw[aX (ck q hn),q];simp⟩
theorem Un.write(mu:RE (H x))(he:e=x\/H e=some (.own x))(k:∀b u,b≠e->h.get? b=some u->h'.get? b=some u)(L5:∃u,h'.get? e=some u):Un fs ex H (upd H x o) h h':=by
 have hx:∀b,H b=none->b≠x:=λb n z=>by subst z;rw[n]at mu;exact mu
 have hb:∀b,H b=none->b≠e:=λb n z=>by
  subst z;rcases he with r|r
  ·exact hx b n r
  ·rw[n]at r;cases r
 have hm:∀b u,H b=some u->¬ RE (some u)->b≠x:=λb u q nm z=>by subst z;rw[q]at mu;exact nm mu
 refine⟨λb u q n _ _=>k b u (hb b n) q,λb u q n _ _=>⟨u.slots,k b u (hb b n) q⟩,λb u q n _=>by rw[aX (hx b n)];exact n,λb u q _=>?_,
  λb xs q=>by rw[aX (hm b _ q λz=>z)];exact q,λb u xs q=>by rw[aX (hm b _ q λz=>z)];exact q,λb ps q=>⟨#[],by rw[aX (hm b _ q λz=>z),q];simp⟩⟩
 by_cases Kc:b=e
 ·subst Kc;exact L5
 ·exact⟨u,k b u Kc q⟩
end
noncomputable def Qr(h:Heap)(H:Hp):aN:=(List.range h.objs.size).filter λa=>(H a).isSome
def qG(h:Heap)(H:Hp):Heap:=PySem.W.hideAll h (Qr h H)
theorem yO(h:Heap)(H:Hp):(qG h H).objs.size=h.objs.size:=PySem.W.hideAll_size _ _
variable {o:Obj}
theorem BQ{h:Heap}{b:Addr}(e:h.get? b=some o)(n:H b=none):(qG h H).get? b=some o :=
 PySem.W.hideAll_get _ e λhm=>by
  have q:(H b).isSome=true:=(List.mem_filter.mp hm).2;rw[n]at q;simp at q
theorem EE{h:Heap}{b:Addr}(e:(qG h H).get? b=some o):h.get? b=some o/\H b=none:=by
 have e':h.get? b=some o:=PySem.W.of_hideAll (Qr h H) e;refine⟨e',?_⟩;cases q:H b with
 |none=>rfl
 |some x =>
  have hm:b∈Qr h H:=List.mem_filter.mpr ⟨List.mem_range.mpr (aak e'),by simp[q]⟩;have z:(qG h H).get? b=none:=PySem.W.hideAll_none (Qr h H) hm;rw[z]at e;cases e
noncomputable def Ge(g h:Heap)(L:Addr):aj:=(List.range h.objs.size).filterMap λa=>if a=L\/(g.get? a).isSome=true then none else(h.get? a).map λo=>(a,o)
def rest(g h:Heap)(L d:Addr):aj:=(Ge g h L).filter λp=>decide (p.1≠d)
end L2
namespace L2
open PySem PySem.Spec PyProof.Rows
structure Mod(K:ao)(mg:aZ)(base:Heap):Prop where
 Tz:K.In base
 glob:base.Ns mainGlobals mg
 blt:∃mb,base.Ns builtinsNs mb/\∀x:Str,x ≠ "__name__" -> mb x=bootBuiltins x
 nolimit:base.NoLimit
structure Cx where
 prog:aE
 w:World
 K:ao
 mg:aZ
 base:Heap
 A:aD
 N:aq
 s₀:Shared
 H₀:Hp
 env:Env
 outer:List Env
 stack:List Env
 ex:aN
 fn:Str->Bool
 calm:Bool
 pn:aj
 xe:aw
noncomputable def zD(l:List Env):aN:=l.filterMap (·.frame)
abbrev Cx.fs(X:Cx):aN:=zD X.outer
def Hz(sc:Scope)(x:Str):Prop:=sc.names.lookup x=some .local\/sc.names.lookup x=some .cell\/sc.names.lookup x=some .free
def Loc(sc:Scope)(x:Str):Prop:=sc.names.lookup x=some .local\/sc.names.lookup x=some .cell
noncomputable def Look(env:Env)(h:Heap)(m:aZ)(x:Str)(u:Value):Prop :=
 (env.kindOf x=some .local/\m x=some u)\/((env.kindOf x=some .cell\/env.kindOf x=some .free)/\∃c,env.cells.lookup x=some c/\h.IsCell c (some u))
structure Cx.Ok(X:Cx):Prop where
 mod:Mod X.K X.mg X.base
 kind:X.env.scope.kind=.function
 glob:X.env.globals=mainGlobals
 blt:X.env.builtins=builtinsNs
 above:X.s₀.heap.objs.size<=X.env.locals
 inj:∀x y c,X.env.cells.lookup x=some c->X.env.cells.lookup y=some c->x=y
 has:∀x,(X.env.kindOf x=some .cell\/X.env.kindOf x=some .free)->∃c,X.env.cells.lookup x=some c
 P9:∀x c,X.fn x=true->X.env.cells.lookup x=some c->X.s₀.heap.objs.size<=c
 hd:X.calm=true->X.A.handled=none
 frames:X.A.frames=some X.stack
 Qx:X.stack=X.outer\/(X.stack=X.env::X.outer/\X.env.frame=some X.env.locals)
 Xk:∀b∈X.ex,b≠X.env.locals/\∀x c,X.env.cells.lookup x=some c->c≠b
 bs:∀b o,X.base.get? b=some o->X.s₀.heap.get? b=some o/\X.H₀ b=none
 Hs:X.base.objs.size<=X.s₀.heap.objs.size
 A8:∀b o,X.base.get? b=some o->b∉X.ex
 FI:∀b∈X.ex,b∉X.fs
 l6:X.s₀.heap.FunFrames X.base X.outer
 Ma:∀b∈X.fs,X.H₀ b=none
structure Inv(X:Cx)(pins:aj)(σ:List (Option V))(H:Hp)(s:Shared):Prop where
 ok:X.Ok
 os:s.os=X.s₀.os
 bare:AllBare s.gens
 base:Un X.fs X.ex X.H₀ H X.s₀.heap s.heap
 loc:∃m,s.heap.Ns X.env.locals m/\∀(i:Nat) (x:Str) (v:V),X.N[i]?=some x->σ[i]?=some (some v)->Hz X.env.scope x->∃u,RelV v u/\Look X.env s.heap m x u
 cell:∀x c,X.env.cells.lookup x=some c->∃v,s.heap.IsCell c v
 free:H X.env.locals=none
 ji:∀x c,X.env.cells.lookup x=some c->H c=none
 pin:∀p∈X.pn++pins,s.heap.get? p.1=some p.2/\H p.1=none/\p.1≠X.env.locals/\p.1∉X.fs/\∀v,p.2.data≠.cell v
 cM:lq X.prog X.w H s.heap
 len:σ.length=X.N.length
variable {A:aD}{E:Value->Shared->Prop}{Q:Unit->Shared->Prop}{ch:aN}{t':Nat}
section
variable {X:Cx}{pins:aj}{σ:List (Option V)}{H H':Hp}{s:Shared}{h':Heap}
theorem Cx.Ok.Tp(ok:X.Ok){b:Addr}{o:Obj}(e:X.base.get? b=some o):b∉X.fs:=λhb=>by
 have:=(ok.l6.mem hb).1;rw[e]at this;cases this
theorem Inv.bs(I:Inv X pins σ H s):∀b o,X.base.get? b=some o->s.heap.get? b=some o/\H b=none:=λb o e =>
 ⟨I.base.keep b o (I.ok.bs b o e).1 (I.ok.bs b o e).2 (I.ok.Tp e) (I.ok.A8 b o e),I.base.free b o (I.ok.bs b o e).1 (I.ok.bs b o e).2 (I.ok.A8 b o e)⟩
theorem Inv.bk(I:Inv X pins σ H s):∀b o,X.base.get? b=some o->s.heap.get? b=some o:=λb o e=>(I.bs b o e).1
theorem Inv.mod(I:Inv X pins σ H s):Mod X.K X.mg X.base:=I.ok.mod
theorem Inv.yG(I:Inv X pins σ H s):X.K.In s.heap:=I.ok.mod.Tz.keeps I.bk
theorem Inv.lt(I:Inv X pins σ H s):X.env.locals<s.heap.objs.size:=let ⟨_,hn,_⟩:=I.loc;hn.lt
theorem Inv.sz(I:Inv X pins σ H s):X.s₀.heap.objs.size<=s.heap.objs.size:=aaG I.ok.above (ack I.lt)
theorem Inv.Jp(I:Inv X pins σ H s){a:Addr}(h:s.heap.objs.size<=a):a∉X.fs:=λhb=>by
 obtain⟨_,o,ho,_⟩:=I.ok.l6.mem hb;exact absurd (aal (aak ho) (aaG I.sz h)) (aaA _)
theorem Inv.Lm(I:Inv X pins σ H s):∀x c,X.env.cells.lookup x=some c->c≠X.env.locals:=λx c e z=>by
 obtain⟨v,o,ho,hd⟩:=I.cell x c e;obtain⟨m,⟨o',es,ep,eF,Fs,_⟩,_⟩:=I.loc;rw[z,eF]at ho;cases ho;rw[Fs]at hd;cases hd
theorem Inv.l6(I:Inv X pins σ H s):s.heap.FunFrames X.base X.outer:=by
 have all:∀(l:List Env),(∀b∈zD l,b∈X.fs)->X.s₀.heap.FunFrames X.base l->s.heap.FunFrames X.base l:=by
  intro l;induction l with
  |nil=>intro _ _;trivial
  |cons env r ih =>
   intro hs hl;obtain⟨hk,⟨L,o,hf,hn,ho,hd⟩,hr⟩:=hl;have hL:L∈X.fs:=hs L (by unfold zD;rw[List.filterMap_cons,hf];exact aai);obtain⟨sl,e⟩:=I.base.slot L o ho (I.ok.Ma L hL) hL λz=>I.ok.FI L z hL;exact⟨hk,⟨L,_,hf,hn,e,hd⟩,ih (λb hb=>hs b (by unfold zD;rw[List.filterMap_cons,hf];exact aag _ hb)) hr⟩
 exact all X.outer (λ_ hb=>hb) I.ok.l6
theorem Inv.stack(I:Inv X pins σ H s):s.heap.FunFrames X.base X.stack:=by
 rcases I.ok.Qx with e|⟨e,hf⟩
 ·rw[e];exact I.l6
 ·rw[e];obtain⟨m,hn,_⟩:=I.loc;refine .cons (by rw[I.ok.kind];decide) hf hn ?_ I.l6;exact Heap.get?_none_of_le (aaG I.ok.Hs I.ok.above)
theorem Inv.kR(I:Inv X pins σ H s):∀b∈zD X.stack,b∈X.env.locals::X.fs:=λb hb=>by
 rcases I.ok.Qx with e|⟨e,hf⟩
 ·rw[e]at hb;exact aag _ hb
 ·rw[e]at hb;unfold zD at hb;rw[List.filterMap_cons,hf]at hb;exact hb
theorem Inv.we(I:Inv X pins σ H s):∀b∈zD X.stack,H b=none:=λb hb=>by
 rcases List.mem_cons.mp (I.kR b hb)with e|hb
 ·rw[e];exact I.free
 ·obtain⟨_,o,ho,_⟩:=I.ok.l6.mem hb;exact I.base.free b o ho (I.ok.Ma b hb) λz=>I.ok.FI b z hb
theorem Inv.step{g':Array GenState}{d':Drawn}(I:Inv X pins σ H s)
  (C7:∀b∈ch,(b∈X.ex\/X.s₀.heap.objs.size<=b)/\b≠X.env.locals/\(∀x c,X.env.cells.lookup x=some c->c≠b)/\∀p∈X.pn++pins,p.1≠b)
  (keep:∀b o,b≠X.env.locals->b∉X.fs->b∉ch->s.heap.get? b=some o->H b=none->h'.get? b=some o)
  (slot:∀b o,b≠X.env.locals->b∈X.fs->b∉ch->s.heap.get? b=some o->H b=none->∃sl,h'.get? b=some { o with slots:=sl }) (free:∀b o,b∉ch->s.heap.get? b=some o->H b=none->H' b=none)
  (there:∀b o,b∉ch->s.heap.get? b=some o->∃o',h'.get? b=some o')
  (p7:∀b xs,H b=some (.tup xs)->H' b=some (.tup xs)) (oM:∀b o u,H b=some (.g_ o u)->H' b=some (.g_ o u)) (p9:∀b ps,H b=some (.GA ps)->∃more,H' b=some (.GA (ps++more)))
  (ns:∀m,s.heap.Ns X.env.locals m->h'.Ns X.env.locals m) (cM:lq X.prog X.w H' h') (hg:AllBare g') :
  Inv X pins σ H' { s with heap:=h',gens:=g',drawn:=d',toks:=t' }:=by
 have Wl:∀b o,X.s₀.heap.get? b=some o->b≠X.env.locals:=λb o e=>aas (aal (aak e) I.ok.above);have G3:∀b o,X.s₀.heap.get? b=some o->b∉X.ex->b∉ch:=λb o e hx hb=>by
  rcases(C7 b hb).1 with z|z
  ·exact hx z
  ·exact absurd (aal (aak e) z) (aaA _)
 have cellK:∀x c,X.env.cells.lookup x=some c->∀v,s.heap.IsCell c v->h'.IsCell c v:=λx c e v bL=>by
  obtain⟨o,ho,hd⟩:=bL;have NV:c∉ch:=λz=>(C7 c z).2.2.1 x c e rfl;by_cases hc:c∈X.fs
  ·obtain⟨sl,q⟩:=slot c o (I.Lm x c e) hc NV ho (I.ji x c e);exact⟨_,q,hd⟩
  ·exact⟨o,keep c o (I.Lm x c e) hc NV ho (I.ji x c e),hd⟩
 refine⟨I.ok,I.os,hg,⟨λb o e n hb hx=>?_,λb o e n hb hx=>?_,λb o e n hx=>?_,λb o e hx=>?_,λb xs e=>p7 b xs (I.base.p7 b xs e),λb o xs e=>oM b o xs (I.base.oM b o xs e),λb ps e=>?_⟩,?_,λx c e=>?_,?_,λx c e=>?_,λp hp=>?_,cM,I.len⟩
 ·exact keep b o (Wl b o e) hb (G3 b o e hx) (I.base.keep b o e n hb hx) (I.base.free b o e n hx)
 ·obtain⟨sl,e1⟩:=I.base.slot b o e n hb hx;obtain⟨Yr,e2⟩:=slot b _ (Wl b o e) hb (G3 b o e hx) e1 (I.base.free b o e n hx);exact⟨Yr,e2⟩
 ·obtain⟨o',e1⟩:=I.base.there b o e hx;exact free b o' (G3 b o e hx) e1 (I.base.free b o e n hx)
 ·obtain⟨o',e1⟩:=I.base.there b o e hx;exact there b o' (G3 b o e hx) e1
 ·obtain⟨m1,e1⟩:=I.base.p9 b ps e;obtain⟨m2,e2⟩:=p9 b _ e1;exact⟨m1++m2,by rw[e2,Array.append_assoc]⟩
 ·obtain⟨m,hn,hl⟩:=I.loc;refine⟨m,ns m hn,λi x v e1 e2 e3=>?_⟩;obtain⟨u,r,l⟩:=hl i x v e1 e2 e3;refine⟨u,r,?_⟩;rcases l with l|⟨k,c,e,z⟩
  ·exact .inl l
  ·exact .inr ⟨k,c,e,cellK x c e _ z⟩
 ·obtain⟨v,z⟩:=I.cell x c e;exact⟨v,cellK x c e v z⟩
 ·obtain⟨m,⟨o,_,_,ho,_⟩,_⟩:=I.loc;exact free _ o (λz=>(C7 _ z).2.1 rfl) ho I.free
 ·obtain⟨v,o,ho,hd⟩:=I.cell x c e;exact free c o (λz=>(C7 c z).2.2.1 x c e rfl) ho (I.ji x c e)
 ·obtain⟨e,n,ne,nf,d⟩:=I.pin p hp;have NV:p.1∉ch:=λz=>(C7 p.1 z).2.2.2 p hp rfl;exact⟨keep p.1 p.2 ne nf NV e n,free p.1 p.2 NV e n,ne,nf,d⟩
theorem Inv.un(I:Inv X pins σ H s)(u:Un X.fs [] H H' s.heap h')(cM:lq X.prog X.w H' h'):Inv X pins σ H' { s with heap:=h',toks:=t' }:=by
 obtain⟨m,⟨o,es,ep,ho,r⟩,_⟩:=id I.loc;obtain⟨sl,hL⟩:=u.any ho I.free (by simp);exact I.step (g':=s.gens) (d':=s.drawn) (ch:=[]) (λ_ z=>nomatch z) (λb o _ hb _ e n=>u.keep b o e n hb (by simp)) (λb o _ hb _ e n=>u.slot b o e n hb (by simp)) (λb o _ e n=>u.free b o e n (by simp)) (λb o _ e=>u.there b o e (by simp)) u.p7 u.oM u.p9 (λm' hm=>by
  obtain⟨o',Dd,kr,eF,r'⟩:=hm;rw[ho]at eF;cases eF;exact⟨_,Dd,kr,hL,r'⟩) cM I.bare
theorem Inv.call{g':Array GenState}{d':Drawn}(I:Inv X pins σ H s)(u:Un (zD X.stack) ch H H' s.heap h')(cM:lq X.prog X.w H' h')(hg:AllBare g')
  (C7:∀b∈ch,(b∈X.ex\/X.s₀.heap.objs.size<=b)/\b≠X.env.locals/\(∀x c,X.env.cells.lookup x=some c->c≠b)/\∀p∈X.pn++pins,p.1≠b) :
  Inv X pins σ H' { s with heap:=h',gens:=g',drawn:=d',toks:=t' }:=by
 obtain⟨m,⟨o,es,ep,ho,r⟩,_⟩:=id I.loc;obtain⟨sl,hL⟩:=u.any ho I.free λz=>(C7 _ z).2.1 rfl;exact I.step (ch:=ch) C7 (λb o hL hb hc e n=>u.keep b o e n (λz=>(List.mem_cons.mp (I.kR b z)).elim hL hb) hc) (λb o _ _ hc e n=>u.any e n hc) (λb o hc e n=>u.free b o e n hc) (λb o hc e=>u.there b o e hc) u.p7 u.oM u.p9 (λm' hm=>by
  obtain⟨o',Dd,kr,eF,r'⟩:=hm;rw[ho]at eF;cases eF;exact⟨_,Dd,kr,hL,r'⟩) cM hg
theorem Inv.turned{it:Addr}(I:Inv X pins σ H s)(k:∀b o,b≠it->s.heap.get? b=some o->h'.get? b=some o)(hn:H it=none)(hL:it≠X.env.locals)
  (h1:it∈X.ex\/X.s₀.heap.objs.size<=it) (h2:∀x c,X.env.cells.lookup x=some c->c≠it) (h3:∀p∈X.pn++pins,p.1≠it):Inv X pins σ H { s with heap:=h',toks:=t' }:=by
 have G0:∀b u,H b=some u->b≠it:=λb u e z=>by rw[z,hn]at e;cases e
 refine I.step (g':=s.gens) (d':=s.drawn) (ch:=[it]) (λb hb=>?_) (λb o _ _ hc e _=>k b o (λz=>hc (by simp[z])) e) (λb o _ _ hc e _=>⟨o.slots,k b o (λz=>hc (by simp[z])) e⟩) (λ_ _ _ _ n=>n)
  (λb o hc e=>⟨o,k b o (λz=>hc (by simp[z])) e⟩) (λ_ _ e=>e) (λ_ _ _ e=>e) (λb ps e=>⟨#[],by rw[e];simp⟩) (λm hm=>?_) (λb u e=>?_) I.bare
 ·have e:b=it:=by simpa using hb
  subst e;exact⟨h1,hL,h2,h3⟩
 ·obtain⟨o,es,ep,ho,r⟩:=hm;exact⟨o,es,ep,k _ o (aaK hL) ho,r⟩
 ·refine(I.cM b u e).jZ (λc v hc q=>k c v ?_ q) (λ_ q=>q) λ_ _ q=>q;rcases hc with z|z
  ·rw[z];exact G0 b u e
  ·exact G0 c _ z
theorem Inv.tok(I:Inv X pins σ H s)(t:Nat):Inv X pins σ H { s with toks:=t }:=I.un (h':=s.heap) (t':=t) Un.refl I.cM
theorem Inv.kept{t':Nat}(I:Inv X pins σ H s)(k:∀b u,s.heap.get? b=some u->h'.get? b=some u):Inv X pins σ H { s with heap:=h',toks:=t' }:=I.un (Un.kept k) (I.cM.kept k)
theorem Inv.laid{a:Addr}{o:HO}{t':Nat}(I:Inv X pins σ H s)(k:∀b u,s.heap.get? b=some u->h'.get? b=some u)(hp:s.heap.objs.size<=a)(new:cy X.prog X.w (upd H a o) h' a o):
  Inv X pins σ (upd H a o) { s with heap:=h',toks:=t' }:=I.un (Un.laid k hp (I.cM.fresh hp)) (I.cM.laid k hp new)
theorem Inv.write{x e:Addr}{o:HO}{t':Nat}(I:Inv X pins σ H s)(mu:RE (H x))(he:e=x\/H e=some (.own x))(k:∀b u,b≠e->s.heap.get? b=some u->h'.get? b=some u)(L5:∃u,h'.get? e=some u)
  (new:cy X.prog X.w (upd H x o) h' x o):Inv X pins σ (upd H x o) { s with heap:=h',toks:=t' }:=I.un (Un.write mu he k L5) (I.cM.write mu he k L5 new)
theorem Inv.iT{GW:aj}(I:Inv X pins σ H s)(h:∀p∈GW,s.heap.get? p.1=some p.2/\H p.1=none/\p.1≠X.env.locals/\p.1∉X.fs/\∀v,p.2.data≠.cell v):Inv X GW σ H s :=
 ⟨I.ok,I.os,I.bare,I.base,I.loc,I.cell,I.free,I.ji,λp hp=>(List.mem_append.mp hp).elim (λz=>I.pin p (aaI _ z)) (h p),I.cM,I.len⟩
theorem sY{N:aq}(hN:N.Nodup){i j:Nat}{x:Str}(a:N[i]?=some x)(b:N[j]?=some x):i=j:=by
 obtain⟨h1,e1⟩:=List.getElem?_eq_some_iff.mp a;obtain⟨h2,e2⟩:=List.getElem?_eq_some_iff.mp b;exact(acm hN).mp (e1.trans e2.symm)
theorem yn{M:Model}{i:Nat}{x:Str}{v:V}{u:Value}(I:Inv X pins σ H s)(hN:X.N.Nodup)(hi:X.N[i]?=some x)(hx:Loc X.env.scope x)(r:RelV v u)
  (h:∀s',Inv X pins (σ.set i (some v)) H s'->(∃a,Heap.SameBut a s.heap s'.heap/\(a=X.env.locals\/X.env.cells.lookup x=some a))->Q () s') (hf:X.fn x=true\/X.env.scope.names.lookup x=some .local:=by first|exact .inl rfl|exact .inr rfl|assumption):wpAny M A (storeName X.env x u) Q E s:=by
 obtain⟨m,hn,hl⟩:=id I.loc;have UO:(X.env.scope.kind==.class||(X.env.scope.kind==.module&&X.env.locals != X.env.globals))=false:=by rw[I.ok.kind];rfl
 have OP:i<σ.length:=by rw[I.len];exact(List.getElem?_eq_some_iff.mp hi).1
 have Lm:=I.Lm;have tracked:∀{a:Addr} {h':Heap},(∃o,s.heap.get? a=some o/\H a=none)->Heap.SameBut a s.heap h'->lq X.prog X.w H h':=λ{a h'} ha hs b ob e=>by
  obtain⟨_,_,Hc⟩:=ha;refine(I.cM b ob e).jZ (λc w' hc q=>(hs.2 c ?_).trans q) (λ_ q=>q) λ_ _ q=>q;rintro rfl;rcases hc with rfl|hc
  ·rw[Hc]at e;cases e
  ·rw[Hc]at hc;cases hc
 rcases hx with hk|hk
 ·refine wpAny_storeName_local hk hn (λh' qF hs=>?_) UO;obtain⟨oL,_,_,OI,_⟩:=id hn;refine h _ ⟨I.ok,I.os,I.bare,⟨λb o e n hb hx=>?_,λb o e n hb hx=>?_,I.base.free,λb o e hx=>?_,I.base.p7,I.base.oM,I.base.p9⟩,⟨_,qF,λj y v' e1 e2 e3=>?_⟩,λy c e=>?_,I.free,I.ji,λp hp=>?_,tracked ⟨oL,OI,I.free⟩ hs,by simpa using I.len⟩ ⟨_,hs,.inl rfl⟩
  ·exact(hs.2 b (aas (aal (aak e) I.ok.above))).trans (I.base.keep b o e n hb hx)
  ·obtain⟨sl,e1⟩:=I.base.slot b o e n hb hx;exact⟨sl,(hs.2 b (aas (aal (aak e) I.ok.above))).trans e1⟩
  ·obtain⟨o',e1⟩:=I.base.there b o e hx;exact⟨o',(hs.2 b (aas (aal (aak e) I.ok.above))).trans e1⟩
  ·by_cases hj:j=i
   ·subst hj;rw[hi]at e1;cases e1;rw[List.getElem?_set_self OP]at e2;cases e2;exact⟨u,r,.inl ⟨hk,by simp⟩⟩
   ·rw[List.getElem?_set_ne (Ne.symm hj)]at e2;obtain⟨u',r',q⟩:=hl j y v' e1 e2 e3;refine⟨u',r',?_⟩;rcases q with ⟨k,e⟩|⟨k,c,e,z⟩
    ·refine .inl ⟨k,?_⟩;have:y≠x:=λe=>hj (sY hN e1 (e▸hi));simp[this,e]
    ·exact .inr ⟨k,c,e,z.sameBut hs (Lm y c e)⟩
  ·obtain⟨w',z⟩:=I.cell y c e;exact⟨w',z.sameBut hs (Lm y c e)⟩
  ·obtain⟨e,n,ne,nf,d⟩:=I.pin p hp;exact⟨(hs.2 p.1 ne).trans e,n,ne,nf,d⟩
 ·have yP:X.fn x=true:=by
   rcases hf with z|z
   ·exact z
   ·rw[z]at hk;cases hk
  obtain⟨c,hc⟩:=I.ok.has x (.inl hk);obtain⟨w',z⟩:=I.cell x c hc;refine wpAny_storeName_cell I.ok.kind hk hc z (λh' uz hs=>?_);obtain⟨oc,WU,Uv⟩:=id z;refine h { s with heap:=h' } ⟨I.ok,I.os,I.bare,⟨λb o e n hb hx=>?_,λb o e n hb hx=>?_,I.base.free,λb o e hx=>?_,I.base.p7,I.base.oM,I.base.p9⟩,⟨m,hn.sameBut hs (aaK (Lm x c hc)),λj y v' e1 e2 e3=>?_⟩,λy c' e=>?_,I.free,I.ji,λp hp=>?_,tracked ⟨oc,WU,I.ji x c hc⟩ hs,by simpa using I.len⟩ ⟨c,hs,.inr hc⟩
  ·exact(hs.2 b (aas (aal (aak e) (I.ok.P9 x c yP hc)))).trans (I.base.keep b o e n hb hx)
  ·obtain⟨sl,e1⟩:=I.base.slot b o e n hb hx;exact⟨sl,(hs.2 b (aas (aal (aak e) (I.ok.P9 x c yP hc)))).trans e1⟩
  ·obtain⟨o',e1⟩:=I.base.there b o e hx;exact⟨o',(hs.2 b (aas (aal (aak e) (I.ok.P9 x c yP hc)))).trans e1⟩
  ·by_cases hj:j=i
   ·subst hj;rw[hi]at e1;cases e1;rw[List.getElem?_set_self OP]at e2;cases e2;exact⟨u,r,.inr ⟨.inl hk,c,hc,uz⟩⟩
   ·rw[List.getElem?_set_ne (Ne.symm hj)]at e2;obtain⟨u',r',q⟩:=hl j y v' e1 e2 e3;refine⟨u',r',?_⟩;rcases q with q|⟨k,c',e,z'⟩
    ·exact .inl q
    ·refine .inr ⟨k,c',e,z'.sameBut hs ?_⟩;rintro rfl;exact hj (sY hN e1 (I.ok.inj _ _ _ e hc▸hi))
  ·by_cases W5:c'=c
   ·subst W5;exact⟨_,uz⟩
   ·obtain⟨w2,z2⟩:=I.cell y c' e;exact⟨w2,z2.sameBut hs W5⟩
  ·obtain⟨e,n,ne,nf,d⟩:=I.pin p hp;refine⟨(hs.2 p.1 ?_).trans e,n,ne,nf,d⟩;intro q;rw[q,WU]at e;have q':oc=p.2:=aax e;exact d w' (by rw[<- q'];exact Uv)
theorem jY{M:Model}{i:Nat}{x:Str}{v:V}{u:Value}(I:Inv X pins σ H s)(hN:X.N.Nodup)(hi:X.N[i]?=some x)(hx:Loc X.env.scope x)(r:RelV v u)
  (h:∀s',Inv X pins (σ.set i (some v)) H s'->Q () s') (hf:X.fn x=true\/X.env.scope.names.lookup x=some .local:=by first|exact .inl rfl|exact .inr rfl|assumption):wpAny M A (storeName X.env x u) Q E s :=
 yn I hN hi hx r (λs' I' _=>h s' I') hf
theorem Inv.P8{s':Shared}(I:Inv X pins σ H s)(ho:s'.os=s.os)(u:Un (zD X.stack) ch H H' s.heap s'.heap)(cM:lq X.prog X.w H' s'.heap)(hg:AllBare s'.gens)
  (C7:∀b∈ch,(b∈X.ex\/X.s₀.heap.objs.size<=b)/\b≠X.env.locals/\(∀x c,X.env.cells.lookup x=some c->c≠b)/\∀p∈X.pn++pins,p.1≠b):Inv X pins σ H' s':=by
 obtain⟨h',g',d',t',o'⟩:=s';have e:o'=s.os:=ho;subst e;exact I.call (g':=g') (t':=t') (d':=d') u cM hg C7
end
noncomputable abbrev XK:=Value->Option Addr->Hp->Prop
noncomputable abbrev St:=List (Option V)
noncomputable abbrev VK:=V->Hp->Prop
noncomputable abbrev TE:=St->Hp->VK->Prop
noncomputable abbrev TT:=St->Hp->(Bool->Hp->Prop)->Prop
noncomputable abbrev TA:=St->Hp->(ae->Hp->Prop)->Prop
structure Ends where
 nx:St->Hp->Prop
 rt:VK
 bk:St->Hp->Prop:=λ_ _=>False
 ct:St->Hp->Prop:=λ_ _=>False
noncomputable abbrev TS:=Ends->St->Hp->Prop
def EP(X:Cx)(pins:aj)(σ:St)(Q:VK)(u:Value)(s':Shared):Prop:=∃v H',Inv X pins σ H' s'/\RelV v u/\Q v H'
def TP(X:Cx)(pins:aj)(σ:St)(Q:Bool->Hp->Prop)(b:Bool)(s':Shared):Prop:=∃H',Inv X pins σ H' s'/\Q b H'
def AP(X:Cx)(pins:aj)(σ:St)(Q:ae->Hp->Prop)(us:ak)(s':Shared):Prop:=∃vs H',Inv X pins σ H' s'/\Vals vs us/\Q vs H'
def SP(X:Cx)(pins:aj)(D:Ends)(f:Flow)(s':Shared):Prop :=
 match f with
 |.next=>∃σ' H',Inv X pins σ' H' s'/\D.nx σ' H'
 |.brk=>∃σ' H',Inv X pins σ' H' s'/\D.bk σ' H'
 |.cont=>∃σ' H',Inv X pins σ' H' s'/\D.ct σ' H'
 |.ret u=>∃v σ' H',Inv X pins σ' H' s'/\RelV v u/\D.rt v H'
noncomputable def PE(X:Cx)(e:Expr)(t:TE):Prop :=
 ∀(pins:aj) (s:Shared) (σ:St) (H:Hp) (Q:VK),Inv X pins σ H s->t σ H Q->wpAny (model X.prog X.w) X.A (eval e X.env) (EP X pins σ Q) X.xe s
noncomputable def PT(X:Cx)(e:Expr)(t:TT):Prop :=
 ∀(pins:aj) (s:Shared) (σ:St) (H:Hp) (Q:Bool->Hp->Prop),Inv X pins σ H s->t σ H Q->wpAny (model X.prog X.w) X.A (isTrue e X.env (eval e X.env)) (TP X pins σ Q) X.xe s
noncomputable def PW(X:Cx)(e:Expr)(t:TT):Prop :=
 ∀(whole:Sem Value) (pins:aj) (s:Shared) (σ:St) (H:Hp) (Q:Bool->Hp->Prop),Inv X pins σ H s->t σ H Q->wpAny (model X.prog X.w) X.A (isTrue e X.env whole) (TP X pins σ Q) X.xe s
theorem PW.pt{X:Cx}{e:Expr}{t:TT}(h:PW X e t):PT X e t:=h _
noncomputable def PA(X:Cx)(es:av)(t:TA):Prop :=
 ∀(pos:Pos) (pins:aj) (s:Shared) (σ:St) (H:Hp) (Q:ae->Hp->Prop),Inv X pins σ H s->t σ H Q->wpAny (model X.prog X.w) X.A (spliced (backTo pos (starEach es X.env))) (AP X pins σ Q) X.xe s
noncomputable def PS(X:Cx)(st:Stmt)(t:TS):Prop :=
 ∀(pins:aj) (s:Shared) (σ:St) (H:Hp) (D:Ends),Inv X pins σ H s->t D σ H->wpAny (model X.prog X.w) X.A (exec st X.env) (SP X pins D) X.xe s
noncomputable def mL(X:Cx)(st:br)(t:TS):Prop :=
 ∀(pins:aj) (s:Shared) (σ:St) (H:Hp) (D:Ends),Inv X pins σ H s->t D σ H->wpAny (model X.prog X.w) X.A (execs st X.env) (SP X pins D) X.xe s
theorem cS{α:Type}{t:Sem α}{Q Q':α->Shared->Prop}{M:Model}{s:Shared}(h:wpAny M A t Q E s)(hQ:∀a s,Q a s->Q' a s):wpAny M A t Q' E s:=aaF h hQ λ_ _ x=>x
end L2
namespace L2
open PySem PySem.Spec PyProof.Rows
variable {E Q:Value->Shared->Prop}{H:Hp}{pos:Pos}{σ:L2.St}
section
variable {X:Cx}
theorem bin{a b:Expr}{ta tb:TE}(ha:PE X a ta)(hb:PE X b tb){pins:aj}{s:Shared}{R:V->V->Hp->Prop}(I:Inv X pins σ H s)(h:ta σ H λx H1=>tb σ H1 λy H2=>R x y H2)
  {α:Type} {Q:α->Shared->Prop} {f:Value->Value->Sem α}
  (hf:∀v u s2 x y H2,Inv X pins σ H2 s2->RelV x v->RelV y u->R x y H2->wpAny (model X.prog X.w) X.A (f v u) Q X.xe s2) :
  wpAny (model X.prog X.w) X.A (eval a X.env) (λv s₁=>wpAny (model X.prog X.w) X.A (eval b X.env) (λu s₂=>wpAny (model X.prog X.w) X.A (f v u) Q X.xe s₂) X.xe s₁) X.xe s:=by
 refine cS (ha pins s σ H _ I h) λv s1 bL=>?_;obtain⟨x,H1,I1,r1,q1⟩:=bL;refine cS (hb pins s1 σ H1 _ I1 q1) λu s2 bL=>?_;obtain⟨y,H2,I2,r2,q2⟩:=bL;exact hf v u s2 x y H2 I2 r1 r2 q2
noncomputable def uM(i:Nat):TE:=λσ H Q=>∃v,σ[i]?=some (some v)/\Q v H
noncomputable def tC(v:V):TE:=λ_ H Q=>Q v H
theorem qq{i:Nat}{x:Str}(hN:X.N[i]?=some x)(hv:Hz X.env.scope x)(hd:(x==("__debug__" : Str))=false:=by decide)(yR:(x==("__classdict__" : Str))=false:=by decide):PE X (.Name x pos) (uM i):=by
 intro pins s σ H Q I h;obtain⟨v,e,h⟩:=h;obtain⟨m,hn,hl⟩:=I.loc;obtain⟨u,r,l⟩:=hl i x v hN e hv;have fin:EP X pins σ Q u s:=⟨v,H,I,r,h⟩
 rcases l with ⟨hk,hm⟩|⟨hk,c,hc,hcell⟩
 ·exact wpAny_Name (wpAny_loadName_local I.ok.kind hk hn hm fin) hd
 ·rcases hk with hk|hk
  ·exact wpAny_Name (wpAny_loadName_cell I.ok.kind hk hc hcell fin) hd
  ·exact wpAny_Name (wpAny_loadName_free I.ok.kind hk hc hcell fin yR) hd
theorem IY{i j pos}:PE X (.Constant (.int i) j pos) (tC (.int i)):=λ_ _ _ H _ I h=>wpAny_Constant_int ⟨.int i,H,I.tok _,⟨_,rfl⟩,h⟩
theorem NB{b j pos}:PE X (.Constant (.bool b) j pos) (tC (.bl b)):=λ_ _ _ H _ I h=>Constant_bool ⟨.bl b,H,I,rfl,h⟩
theorem IW{j pos}:PE X (.Constant .none j pos) (tC .cj):=λ_ _ _ H _ I h=>Constant_none ⟨.cj,H,I,rfl,h⟩
theorem S9{x j pos}:PE X (.Constant (.str x) j pos) (tC (.str x)):=λ_ _ _ H _ I h=>Calls.Constant_str ⟨.str x,H,I.tok _,⟨_,rfl⟩,h⟩
def Gl(X:Cx)(x:Str):Prop:=X.env.kindOf x=some .globalImplicit
theorem xa{pins:aj}{s:Shared}{x:Str}{u:Value}(I:Inv X pins σ H s)(hg:Gl X x)(hm:X.mg x=some u)(h:Q u s)
  (hd:(x==("__debug__" : Str))=false:=by decide):wpAny (model X.prog X.w) X.A (eval (.Name x pos) X.env) Q E s :=
 Calls.Name_function_global I.ok.kind hg (Calls.loadGlobal_global (by rw[I.ok.glob];exact I.mod.glob.keeps I.bk) hm h) hd
theorem dS{pins:aj}{s:Shared}{x:Str}{u:Value}(I:Inv X pins σ H s)(hg:Gl X x)(hm:X.mg x=none)(hv:bootBuiltins x=some u)(h:Q u s)
  (hn:x ≠ "__name__":=by decide) (hd:(x==("__debug__" : Str))=false:=by decide):wpAny (model X.prog X.w) X.A (eval (.Name x pos) X.env) Q E s:=by
 obtain⟨mb,h1,h2⟩:=I.mod.blt;exact Calls.Name_function_global I.ok.kind hg (Calls.loadGlobal_builtin (by rw[I.ok.glob];exact I.mod.glob.keeps I.bk) hm (by rw[I.ok.blt];exact h1.keeps I.bk) ((h2 x hn).trans hv) h) hd
theorem wQ{x:Str}{v:V}{u:Value}(hg:Gl X x)(hm:X.mg x=some u)(r:RelV v u)(hd:(x==("__debug__" : Str))=false:=by decide):PE X (.Name x pos) (tC v) :=
 λ_ _ _ H _ I h=>xa I hg hm ⟨v,H,I,r,h⟩ hd
theorem Ew{x:Str}{v:V}{u:Value}(hg:Gl X x)(hm:X.mg x=none)(hv:bootBuiltins x=some u)(r:RelV v u)(hn:x ≠ "__name__":=by decide)(hd:(x==("__debug__" : Str))=false:=by decide):PE X (.Name x pos) (tC v) :=
 λ_ _ _ H _ I h=>dS I hg hm hv ⟨v,H,I,r,h⟩ hn hd
variable {a b:Expr}{ta tb:TE}{pos:Pos}
noncomputable def tB(t:TE):TT:=λσ H Q=>t σ H λx H1=>∃c,x=.bl c/\Q c H1
theorem IH{e:Expr}{t:TE}(h:PE X e t)(he:∀whole,isTrue e X.env whole=(do let v <- whole;standAt e.pos;holding [v] (truthy v)):=by intro _;rfl):PT X e (tB t):=by
 intro pins s σ H Q I hw;refine isTrue_plain (cS (h pins s σ H _ I hw) λv s1 bL=>?_) (he _);obtain⟨x,H1,I1,r1,q1⟩:=bL;obtain⟨d,rfl,q⟩:=q1;cases r1;exact aaX ⟨H1,I1,q⟩
variable {tA Qu:TT}{rest:av}
noncomputable def MP(t u:TT):TT:=λσ H Q=>t σ H λc H1=>if c=true then u σ H1 Q else Q false H1
noncomputable def V2(t u:TT):TT:=λσ H Q=>t σ H λc H1=>if c=true then Q true H1 else u σ H1 Q
noncomputable def RY(t:TT):TT:=λσ H Q=>t σ H λc H1=>Q (!c) H1
theorem Ei(ha:PT X a tA):PW X (.BoolOp .And [a] pos) tA:=by
 intro wh pins s σ H Q I h;refine isTrue_and (cS (ha pins s σ H Q I h) λc s1 e=>?_);cases c with
 |true=>exact isTrue_and_nil e
 |false=>exact e
theorem IF(ha:PT X a tA):PW X (.BoolOp .Or [a] pos) tA:=by
 intro wh pins s σ H Q I h;refine isTrue_or (cS (ha pins s σ H Q I h) λc s1 e=>?_);cases c with
 |false=>exact isTrue_or_nil e
 |true=>exact e
theorem IG(ha:PT X a tA)(hb:PW X (.BoolOp .And (b::rest) pos) Qu):PW X (.BoolOp .And (a::b::rest) pos) (MP tA Qu):=by
 intro wh pins s σ H Q I h;refine isTrue_and (cS (ha pins s σ H _ I h) λc s1 ⟨H1,I1,q1⟩=>?_);cases c with
 |true=>exact hb wh pins s1 σ H1 Q I1 q1
 |false=>exact⟨H1,I1,q1⟩
theorem Nn(ha:PT X a tA)(hb:PW X (.BoolOp .Or (b::rest) pos) Qu):PW X (.BoolOp .Or (a::b::rest) pos) (V2 tA Qu):=by
 intro wh pins s σ H Q I h;refine isTrue_or (cS (ha pins s σ H _ I h) λc s1 ⟨H1,I1,q1⟩=>?_);cases c with
 |true=>exact⟨H1,I1,q1⟩
 |false=>exact hb wh pins s1 σ H1 Q I1 q1
theorem II(ha:PT X a tA):PT X (.UnaryOp .Not a pos) (RY tA):=by
 intro pins s σ H Q I h;exact isTrue_not (ha pins s σ H (λc H1=>Q (!c) H1) I h)
noncomputable def GG(ta tb:TE):TE:=λσ H Q=>ta σ H λx H1=>∃c,x=.bl c/\if c=true then tb σ H1 Q else Q (.bl false) H1
noncomputable def MJ(ta tb:TE):TE:=λσ H Q=>ta σ H λx H1=>∃c,x=.bl c/\if c=true then Q (.bl true) H1 else tb σ H1 Q
noncomputable def MK(ta:TE):TE:=λσ H Q=>ta σ H λx H1=>∃c,x=.bl c/\Q (.bl (!c)) H1
theorem AQ{op}{t:TE}(h:PE X a t):PE X (.BoolOp op [a] pos) t:=λpins s σ H Q I hw=>BoolOp_one (h pins s σ H Q I hw)
theorem IZ(ha:PE X a ta)(hb:PE X (.BoolOp .And (b::rest) pos) tb):PE X (.BoolOp .And (a::b::rest) pos) (GG ta tb):=by
 intro pins s σ H Q I h;refine BoolOp_and (cS (ha pins s σ H _ I h) λv s1 bL=>?_);obtain⟨x,H1,I1,r1,q1⟩:=bL;obtain⟨c,rfl,q1⟩:=q1;cases r1;refine aaX ?_;cases c with
 |true=>exact hb pins s1 σ H1 Q I1 q1
 |false=>exact⟨.bl false,H1,I1,rfl,q1⟩
theorem Nz(ha:PE X a ta)(hb:PE X (.BoolOp .Or (b::rest) pos) tb):PE X (.BoolOp .Or (a::b::rest) pos) (MJ ta tb):=by
 intro pins s σ H Q I h;refine BoolOp_or (cS (ha pins s σ H _ I h) λv s1 bL=>?_);obtain⟨x,H1,I1,r1,q1⟩:=bL;obtain⟨c,rfl,q1⟩:=q1;cases r1;refine aaX ?_;cases c with
 |false=>exact hb pins s1 σ H1 Q I1 q1
 |true=>exact⟨.bl true,H1,I1,rfl,q1⟩
theorem IV(ha:PE X a ta):PE X (.UnaryOp .Not a pos) (MK ta):=by
 intro pins s σ H Q I h;refine UnaryOp_ (cS (ha pins s σ H _ I h) λv s1 bL=>?_);obtain⟨x,H1,I1,r1,q1⟩:=bL;obtain⟨c,rfl,q1⟩:=q1;cases r1;exact not_of (aaX ⟨.bl (!c),H1,I1,rfl,q1⟩)
noncomputable def Yc(t:TT)(ta tb:TE):TE:=λσ H Q=>t σ H λc H1=>if c=true then ta σ H1 Q else tb σ H1 Q
theorem NA{c:Expr}(hc:PT X c tA)(ha:PE X a ta)(hb:PE X b tb):PE X (.IfExp c a b pos) (Yc tA ta tb):=by
 intro pins s σ H Q I h;refine wpAny_IfExp (cS (hc pins s σ H _ I h) λd s1 ⟨H1,I1,q1⟩=>?_);cases d with
 |true=>exact ha pins s1 σ H1 Q I1 q1
 |false=>exact hb pins s1 σ H1 Q I1 q1
end
end L2
namespace L2
open PySem PySem.Spec PyProof.Rows
def dh(K:ao)(H:Hp)(a:Addr)(xs:ae):Prop :=
 Rd H a (.lst xs) \/
  ∃(o:Obj) (aI:aM) (n:Nat),K.lookup a=some o/\o.cls=.type "list" /\ o.dict=none/\o.data=.seq aI n/\aI.size<=sizeLine/\Vals xs aI.toList
def aU(K:ao)(H:Hp)(a:Addr)(xs:ae):Prop :=
 Rd H a (.tup xs) \/
  ∃(o:Obj) (aI:aM) (n:Nat),K.lookup a=some o/\o.cls=.type "tuple" /\ o.data=.seq aI n/\aI.size<=sizeLine/\Vals xs aI.toList
noncomputable def VN:Value->Option V
 |.none=>some .cj
 |.bool b=>some (.bl b)
 |.int i _=>some (.int i)
 |.str x _=>some (.str x)
 |.bytes b _=>some (.VD b)
 |.float b _=>some (.Pu b)
 |.ref a=>some (.ref a)
 |.type n=>some (.ty n)
 |_=>none
theorem RelV.abs{x:V}{u:Value}(r:RelV x u):VN u=some x:=by
 cases x with
 |cj=>cases r;rfl
 |bl _=>cases r;rfl
 |int _=>obtain⟨t,rfl⟩:=r;rfl
 |str _=>obtain⟨t,rfl⟩:=r;rfl
 |VD _=>obtain⟨t,rfl⟩:=r;rfl
 |Pu _=>obtain⟨t,rfl⟩:=r;rfl
 |ref _=>cases r;rfl
 |ty _=>cases r;rfl
theorem RelV.inj{x y:V}{u:Value}(r:RelV x u)(q:RelV y u):x=y:=aax (r.abs.symm.trans q.abs)
theorem Vals.inj:∀{xs ys:ae} {us:ak},Vals xs us->Vals ys us->xs=ys
 |_,_,_,.nil,.nil=>rfl
 |_,_,_,.cons r t,.cons r' t'=>by rw[r.inj r',Vals.inj t t']
variable {K:ao}
section
variable {X:Cx}{pins:aj}{σ:St}{H:Hp}{s:Shared}{a:Addr}{xs ys:ae}
theorem dh.of(h:H a=some (.lst xs)):dh K H a xs:=.inl (.inl h)
theorem aU.of(h:H a=some (.tup xs)):aU K H a xs:=.inl (.inl h)
theorem Inv.list(I:Inv X pins σ H s)(h:dh X.K H a xs):∃aI:ak,Vals xs aI/\PlainL s.heap a aI.toArray/\xs.length<=sizeLine:=by
 rcases h with h|⟨o,aI,n,hk,hc,hd,hs,hz,r⟩
 ·obtain⟨z,aI,n,r,e⟩:=h.ok I.cM;exact⟨aI,r,⟨_,n,e,rfl,rfl,rfl⟩,z⟩
 ·refine⟨aI.toList,r,⟨o,n,I.yG a o hk,hc,hd,by simpa using hs⟩,?_⟩;have e:=r.length;simp only[Array.length_toList]at e;left
theorem Inv.tuple(I:Inv X pins σ H s)(h:aU X.K H a xs):∃aI:ak,Vals xs aI/\IsTup s.heap a aI.toArray/\xs.length<=sizeLine:=by
 rcases h with h|⟨o,aI,n,hk,hc,hs,hz,r⟩
 ·obtain⟨z,aI,r,p⟩:=h.ok I.cM;exact⟨aI,r,p,z⟩
 ·refine⟨aI.toList,r,⟨o,I.yG a o hk,hc,n,by simpa using hs⟩,?_⟩;have e:=r.length;simp only[Array.length_toList]at e;left
theorem Inv.iq(I:Inv X pins σ H s)(h:dh X.K H a xs)(h':dh X.K H a ys):xs=ys:=by
 obtain⟨aI,r,⟨o,n,e,_,_,d⟩,_⟩:=I.list h;obtain⟨its',r',⟨o',n',e',_,_,d'⟩,_⟩:=I.list h';rw[e]at e';cases e';rw[d]at d';injection d' with d1 _;have:aI=its':=by simpa using congrArg Array.toList d1
 subst this;exact r.inj r'
theorem Inv.kQ(I:Inv X pins σ H s)(h:aU X.K H a xs)(h':aU X.K H a ys):xs=ys:=by
 obtain⟨aI,r,⟨o,e,_,n,d⟩,_⟩:=I.tuple h;obtain⟨its',r',⟨o',e',_,n',d'⟩,_⟩:=I.tuple h';rw[e]at e';cases e';rw[d]at d';injection d' with d1 _;have:aI=its':=by simpa using congrArg Array.toList d1
 subst this;exact r.inj r'
end
noncomputable abbrev Cx.ou(X:Cx)(E:aw):Cx:={ X with xe:=E }
abbrev Cx.NO(X:Cx):Cx:=X.ou λ_ _=>False
theorem Cx.Ok.ou{X:Cx}(ok:X.Ok)(E:aw):(X.ou E).Ok :=
 ⟨ok.mod,ok.kind,ok.glob,ok.blt,ok.above,ok.inj,ok.has,ok.P9,ok.hd,ok.frames,ok.Qx,ok.Xk,ok.bs,ok.Hs,ok.A8,ok.FI,ok.l6,ok.Ma⟩
variable {E:Value->Shared->Prop}{X:Cx}
theorem Cx.Ok.hX(ok:(X.ou E).Ok):X.Ok :=
 ⟨ok.mod,ok.kind,ok.glob,ok.blt,ok.above,ok.inj,ok.has,ok.P9,ok.hd,ok.frames,ok.Qx,ok.Xk,ok.bs,ok.Hs,ok.A8,ok.FI,ok.l6,ok.Ma⟩
section
variable {X:Cx}{pins:aj}{σ:St}{H:Hp}{s:Shared}{E:aw}
theorem Inv.ou(I:Inv X pins σ H s)(E:aw):Inv (X.ou E) pins σ H s:=⟨I.ok.ou E,I.os,I.bare,I.base,I.loc,I.cell,I.free,I.ji,I.pin,I.cM,I.len⟩
theorem Inv.hX(I:Inv (X.ou E) pins σ H s):Inv X pins σ H s:=⟨I.ok.hX,I.os,I.bare,I.base,I.loc,I.cell,I.free,I.ji,I.pin,I.cM,I.len⟩
theorem SP.hX{D:Ends}{f:Flow}{s':Shared}(h:SP (X.ou E) pins D f s'):SP X pins D f s':=by
 cases f with
 |next=>obtain⟨σ',H',I,q⟩:=h;exact⟨σ',H',I.hX,q⟩
 |brk=>obtain⟨σ',H',I,q⟩:=h;exact⟨σ',H',I.hX,q⟩
 |cont=>obtain⟨σ',H',I,q⟩:=h;exact⟨σ',H',I.hX,q⟩
 |ret u=>obtain⟨v,σ',H',I,r,q⟩:=h;exact⟨v,σ',H',I.hX,r,q⟩
theorem mL.NO{st:br}{t:TS}(h:mL X.NO st t):mL X st t:=λpins s σ H D I hw =>
 aaF (h pins s σ H D (I.ou _) hw) (λ_ _ q=>q.hX) λ_ _ z=>False.elim z
end
variable {H:Hp}{σ:L2.St}
section
variable {X:Cx}{st:Stmt}{rest:br}{t u:TS}{e:Expr}{te:TE}{pos:Pos}
noncomputable def GF:TS:=λD σ H=>D.nx σ H
noncomputable def RV(t u:TS):TS:=λD σ H=>t { D with nx:=u D } σ H
theorem Ej:mL X [] GF:=λ_ _ σ H _ I h=>wpAny_execs_nil ⟨σ,H,I,h⟩
theorem AB(h1:PS X st t)(h2:mL X rest u):mL X (st::rest) (RV t u):=by
 intro pins s σ H D I h;refine wpAny_execs_cons (cS (h1 pins s σ H { D with nx:=u D } I h) λf s1 q=>?_);cases f with
 |next =>
  obtain⟨σ',H',I',q⟩:=q;exact h2 pins s1 σ' H' D I' q
 |ret v=>exact q
 |brk=>exact q
 |cont=>exact q
noncomputable def HY:TS:=λD σ H=>D.bk σ H
noncomputable def MM:TS:=λD σ H=>D.ct σ H
theorem QK:PS X (.Pass pos) GF:=λ_ _ σ H _ I h=>wpAny_Pass ⟨σ,H,I,h⟩
theorem Nu:PS X (.Break pos) HY:=λ_ _ σ H _ I h=>wpAny_Break ⟨σ,H,I,h⟩
theorem GU:PS X (.Continue pos) MM:=λ_ _ σ H _ I h=>wpAny_Continue ⟨σ,H,I,h⟩
theorem Inv.quiet{pins:aj}{s:Shared}(I:Inv X pins σ H s):interactive X.env=false:=by simp[interactive,I.ok.kind]
noncomputable def ML(te:TE):TS:=λD σ H=>te σ H λ_ H1=>D.nx σ H1
theorem qm(he:PE X e te)(hs:swapsWith e none pos.line X.env=pure false:=by rfl):PS X (.Expr e pos) (ML te):=by
 intro pins s σ H D I h;exact wpAny_Expr_any (cS (he pins s σ H _ I h) λv s1 ⟨x,H1,I1,r1,q1⟩=>⟨σ,H1,I1,q1⟩) I.quiet hs
noncomputable def RW(te:TE):TS:=λD σ H=>te σ H D.rt
theorem IL(he:PE X e te):PS X (.Return (some e) pos) (RW te):=by
 intro pins s σ H D I h;exact wpAny_Return_some (cS (he pins s σ H _ I h) λv s1 ⟨x,H1,I1,r1,q1⟩=>⟨x,σ,H1,I1,r1,q1⟩)
noncomputable def MH:TS:=λD _ H=>D.rt .cj H
theorem QJ:PS X (.Return none pos) MH:=λ_ _ σ H _ I h=>wpAny_Return_none ⟨.cj,σ,H,I,rfl,h⟩
noncomputable def R4(c:TT)(t u:TS):TS:=λD σ H=>c σ H λb H1=>if b=true then t D σ H1 else u D σ H1
theorem Nt{c:Expr}{a b:br}{tc:TT}(hc:PT X c tc)(ha:mL X a t)(hb:mL X b u):PS X (.If c a b pos) (R4 tc t u):=by
 intro pins s σ H D I h;refine wpAny_If (cS (hc pins s σ H _ I h) λd s1 ⟨H1,I1,q1⟩=>?_);cases d with
 |true=>exact ha pins s1 σ H1 D I1 q1
 |false=>exact hb pins s1 σ H1 D I1 q1
end
noncomputable abbrev TG:=V->St->Hp->(St->Hp->Prop)->Prop
noncomputable abbrev Gh:=ae->St->Hp->(St->Hp->Prop)->Prop
def PG(X:Cx)(target:Expr)(t:TG):Prop :=
 ∀(pins:aj) (s:Shared) (σ:St) (H:Hp) (v:V) (u:Value) (Q:St->Hp->Prop),Inv X pins σ H s->RelV v u->t v σ H Q ->
  wpAny (model X.prog X.w) X.A (assign target X.env u) (λ_ s'=>∃σ' H',Inv X pins σ' H' s'/\Q σ' H') X.xe s
def Mj(X:Cx)(ts:av)(t:Gh):Prop :=
 ∀(pins:aj) (s:Shared) (σ:St) (H:Hp) (vs:ae) (us:ak) (Q:St->Hp->Prop),Inv X pins σ H s->Vals vs us->t vs σ H Q ->
  wpAny (model X.prog X.w) X.A (assignInOrder ((assignEach ts X.env).map (·.2)) us) (λ_ s'=>∃σ' H',Inv X pins σ' H' s'/\Q σ' H') X.xe s
noncomputable abbrev Lw:=V->V->V->Hp->(Hp->Prop)->Prop
def Ql(X:Cx)(t:Lw):Prop :=
 ∀(pins:aj) (s:Shared) (σ:St) (H:Hp) (o i v:V) (ov iv u:Value) (Q:Hp->Prop),Inv X pins σ H s->RelV o ov->RelV i iv->RelV v u->t o i v H Q ->
  wpAny (model X.prog X.w) X.A (setItem ov iv u) (λ_ s'=>∃H',Inv X pins σ H' s'/\Q H') X.xe s
noncomputable abbrev RD:=V->V->Hp->VK->Prop
def VQ(X:Cx)(op:Operator)(t:RD):Prop :=
 ∀(pins:aj) (s:Shared) (σ:St) (H:Hp) (x y:V) (v u:Value) (Q:VK),Inv X pins σ H s->RelV x v->RelV y u->t x y H Q ->
  wpAny (model X.prog X.w) X.A (inplaceOp op v u) (EP X pins σ Q) X.xe s
variable {es:av}{te:TE}{tg:Expr}
section
variable {X:Cx}{pos:Pos}
noncomputable def pJ(i:Nat):TG:=λv σ H Q=>Q (σ.set i (some v)) H
theorem qp{i:Nat}{x:Str}(hN:X.N.Nodup)(hi:X.N[i]?=some x)(hx:Loc X.env.scope x)(hf:X.fn x=true\/X.env.scope.names.lookup x=some .local:=by first|exact .inl rfl|exact .inr rfl|assumption):PG X (.Name x pos) (pJ i):=by
 intro pins s σ H v u Q I r h;exact wpAny_assign_Name (jY I hN hi hx r (λs' I'=>⟨_,H,I',h⟩) hf)
noncomputable def Ku:Gh:=λvs σ H Q=>vs=[]/\Q σ H
noncomputable def B6(t:TG)(u:Gh):Gh:=λvs σ H Q=>∃v r,vs=v::r/\t v σ H λσ' H'=>u r σ' H' Q
theorem wL:Mj X [] Ku:=by
 intro pins s σ H vs us Q I r h;obtain⟨e,h⟩:=h;subst e;cases r;exact assignInOrder_nil ⟨σ,H,I,h⟩
theorem sU{e:Expr}{t:TG}{u:Gh}(h1:PG X e t)(h2:Mj X es u)
  (hs:(assignEach (e::es) X.env).map (·.2)=assign e X.env::(assignEach es X.env).map (·.2):=by rfl):Mj X (e::es) (B6 t u):=by
 intro pins s σ H vs us Q I r h;obtain⟨v,vr,e1,h⟩:=h;subst e1;cases r with
 |cons r rr =>
  rw[hs];refine assignInOrder_cons (cS (h1 pins s σ H _ _ _ I r h) λ_ s1 bL=>?_);obtain⟨σ1,H1,I1,q1⟩:=bL;exact h2 pins s1 σ1 H1 _ _ Q I1 rr q1
def Va(K:ao)(n:Nat)(t:Gh):TG:=λv σ H Q=>∃a xs,v=.ref a/\aU K H a xs/\xs.length=n/\t xs σ H Q
theorem AK{k:Nat}{t:Gh}{n:Nat}(hc:X.calm=true)(h:Mj X es t)
  (hn:(assignEach es X.env).length=n:=by rfl) (pF:(assignEach es X.env).findIdx? (·.1)=none:=by rfl):PG X (.Tuple es k pos) (Va X.K n t):=by
 intro pins s σ H v u Q I r hw;obtain⟨a,xs,e1,hq,hl,hw⟩:=hw;subst e1;cases r;obtain⟨aI,rv,ht,hz⟩:=I.tuple hq;refine assign_Tuple_tuple (I.ok.hd hc) ht (by simp[hn,<- hl,rv.length]) pF λh' hx=>?_;have I1:Inv X pins σ H { s with heap:=h' }:=I.kept (t':=s.toks) λb o e=>hx b o (aas (aak e)) e;exact h pins _ σ H xs _ Q I1 (by simpa using rv) hw
noncomputable def Vb(to ti:TE)(t:Lw):TG:=λv σ H Q=>to σ H λo H1=>ti σ H1 λi H2=>t o i v H2 λH3=>Q σ H3
theorem S8{o i:Expr}{to ti:TE}{t:Lw}(ho:PE X o to)(hi:PE X i ti)(hs:Ql X t)
  (ha:∀v,assign (.Subscript o i pos) X.env v=(do
   let ov <- holding [v] (eval o X.env)
   let iv <- holding [v,ov] (eval i X.env)
   standAt pos
   holding [v,ov,iv] (setItem ov iv v)
   release [v,ov,iv] []):=by intro _;rfl):PG X (.Subscript o i pos) (Vb to ti t):=by
 intro pins s σ H v u Q I r h;rw[ha];refine aaa (aaM (cS (ho pins s σ H _ I h) λov s1 bL=>?_));obtain⟨x,H1,I1,r1,q1⟩:=bL;refine aaa (aaM (cS (hi pins s1 σ H1 _ I1 q1) λiv s2 bL=>?_));obtain⟨y,H2,I2,r2,q2⟩:=bL;refine aaa (acg (aaa (aaM (cS (hs pins s2 σ H2 x y v ov iv u _ I2 r1 r2 r q2) λ_ s3 bL=>?_))));obtain⟨H3,I3,q3⟩:=bL;exact wpAny_release ⟨σ,H3,I3,q3⟩
noncomputable def R8(te:TE)(g:TG):TS:=λD σ H=>te σ H λx H1=>g x σ H1 D.nx
theorem AF{e:Expr}{g:TG}(he:PE X e te)(hg:PG X tg g)(hs:swapsWithSole [tg] e pos.line X.env=pure false:=by rfl)(hw:swappedStores [tg] e X.env=pure none:=by rfl)
  (h1:(assignEach [tg] X.env).map (·.2)=[assign tg X.env]:=by rfl):PS X (.Assign [tg] e pos) (R8 te g):=by
 intro pins s σ H D I h;refine wpAny_Assign_stores (cS (he pins s σ H _ I h) λv s1 bL=>?_) hs hw;obtain⟨x,H1,I1,r1,q1⟩:=bL;rw[h1];exact cS (hg pins s1 σ H1 x v _ I1 r1 q1) λ_ s2 q=>q
noncomputable def RX(i j:Nat)(ta:TA):TS:=λD σ H=>ta σ H λvs H1=>∃v w,vs=[v,w]/\D.nx ((σ.set i (some v)).set j (some w)) H1
theorem IM{i j:Nat}{x y:Str}{a b:Expr}{ta:TA}{px py pt:Pos}{kt k2 LJ}(hc:X.calm=true)(hN:X.N.Nodup)(hi:X.N[i]?=some x)(hj:X.N[j]?=some y)(gS:i≠j)
  (hx:X.env.scope.names.lookup x=some .local) (hy:X.env.scope.names.lookup y=some .local) (ha:PA X [a,b] ta)
  (hw:swappedStores [.Tuple [.Name x px,.Name y py] kt pt] (.Tuple [a,b] k2 LJ) X.env=pure (some [x,y]))
  (hs:swapsWithSole [.Tuple [.Name x px,.Name y py] kt pt] (.Tuple [a,b] k2 LJ) pos.line X.env=pure false:=by rfl) :
  PS X (.Assign [.Tuple [.Name x px,.Name y py] kt pt] (.Tuple [a,b] k2 LJ) pos) (RX i j ta):=by
 intro pins s σ H D I h;rw[exec_Assign_arm];refine aaa (acg ?_);rw[hs];refine aaa (aab ?_);rw[if_neg (by decide)];refine aaa (Tuple_ (cS (ha _ pins s σ H _ I h) λus s1 bL=>?_));obtain⟨vs,H1,I1,r1,q1⟩:=bL;obtain⟨v,w,e1,q1⟩:=q1;subst e1;obtain⟨u1,u2,rfl,rv,j5⟩:∃u1 u2,us=[u1,u2]/\RelV v u1/\RelV w u2:=by
  cases r1 with
  |cons p q =>
   cases q with
   |cons p' q' =>
    cases q';exact⟨_,_,rfl,p,p'⟩
 refine aa4 ?_ (by show 2<=sizeLine;decide);have I2:Inv X pins σ H1 { s1 with heap:=s1.heap.push { cls:=.type "tuple",data:=.seq [u1,u2].toArray } }:=I1.kept (t':=s1.toks) λb o e=>aaj _ e;rw[hw];refine aaa (aab ?_);show wpAny (model X.prog X.w) X.A (do rule "assign.swapped-stores";let items <- unpackItems (.ref s1.heap.objs.size) 2 none;assignInOrder [λv=>bindName X.env y v,λv=>bindName X.env x v] items.reverse;pure Flow.next) _ _ _;refine aaa (aba (aaa (unpackItems_tuple (items:=#[u1,u2]) (I.ok.hd hc) (IsTup.new s1.heap _) λh' BE=>?_)));have I3:=I2.kept (h':=h') (t':=s1.toks) λb o e=>BE b o (aas (aak e)) e;show wpAny _ _ (assignInOrder [λv=>bindName X.env y v,λv=>bindName X.env x v] [u2,u1] >>= λ_=>pure Flow.next) _ _ _;refine aaa (assignInOrder_cons (wpAny_bindName (jY I3 hN hj (.inl hy) j5 (λs2 I4=>?_) (.inr hy))));refine assignInOrder_cons (wpAny_bindName (jY I4 hN hi (.inl hx) rv (λs3 I5=>assignInOrder_nil (aab ?_)) (.inr hx)));rw[List.set_comm _ _ (Ne.symm gS)]at I5;exact⟨_,H1,I5,q1⟩
noncomputable def R7(i:Nat)(te:TE)(ti:RD):TS:=λD σ H=>∃x,σ[i]?=some (some x)/\te σ H λy H1=>ti x y H1 λz H2=>D.nx (σ.set i (some z)) H2
theorem S5{i:Nat}{x:Str}{e:Expr}{op:Operator}{ti:RD}{pos':Pos}(hN:X.N.Nodup)(hi:X.N[i]?=some x)(hx:Loc X.env.scope x)(he:PE X e te)(ho:VQ X op ti)(hf:X.fn x=true\/X.env.scope.names.lookup x=some .local:=by first|exact .inl rfl|exact .inr rfl|assumption):
  PS X (.AugAssign (.Name x pos') op e pos) (R7 i te ti):=by
 intro pins s σ H D I h;obtain⟨v,e1,h⟩:=h;obtain⟨m,hn,hl⟩:=I.loc;have Qn:Hz X.env.scope x:=by rcases hx with k|k;exact .inl k;exact .inr (.inl k)
 obtain⟨u,r,l⟩:=hl i x v hi e1 Qn;refine wpAny_AugAssign_Name ?_;have go:wpAny (model X.prog X.w) X.A (eval e X.env) (λw s₂=>wpAny (model X.prog X.w) X.A (inplaceOp op u w) (λr s₃=>wpAny (model X.prog X.w) X.A (storeName X.env x r) (λ_=>SP X pins D .next) X.xe s₃) X.xe s₂) X.xe s:=by
  refine cS (he pins s σ H _ I h) λw s1 bL=>?_;obtain⟨y,H1,I1,r1,q1⟩:=bL;refine cS (ho pins s1 σ H1 v y u w _ I1 r r1 q1) λz s2 bL=>?_;obtain⟨zv,H2,I2,r2,q2⟩:=bL;exact jY I2 hN hi hx r2 (λs3 I3=>⟨_,H2,I3,q2⟩) hf
 rcases l with ⟨hk,hm⟩|⟨hk,c,hc,hcell⟩
 ·exact wpAny_loadName_local I.ok.kind hk hn hm go
 ·rcases hk with hk|hk
  ·exact wpAny_loadName_cell I.ok.kind hk hc hcell go
  ·rcases hx with k|k
   ·have:X.env.scope.names.lookup x=some .free:=hk;rw[k]at this;cases this
   ·have:X.env.scope.names.lookup x=some .free:=hk;rw[k]at this;cases this
noncomputable def WE(f:Int->Int->Int):RD:=λx y H Q=>∃i j,x=.int i/\y=.int j/\Q (.int (f i j)) H
theorem T4:VQ X .Add (WE λi j=>i+j):=by
 intro pins s σ H x y v u Q I r1 r2 h;obtain⟨i,j,e1,e2,q⟩:=h;subst e1;subst e2;obtain⟨t,rfl⟩:=r1;obtain⟨t',rfl⟩:=r2;exact iadd_int ⟨.int _,H,I.tok _,⟨_,rfl⟩,q⟩
theorem T3:VQ X .Sub (WE λi j=>i - j):=by
 intro pins s σ H x y v u Q I r1 r2 h;obtain⟨i,j,e1,e2,q⟩:=h;subst e1;subst e2;obtain⟨t,rfl⟩:=r1;obtain⟨t',rfl⟩:=r2;exact isub_int ⟨.int _,H,I.tok _,⟨_,rfl⟩,q⟩
end
section
variable {X:Cx}{pos:Pos}
noncomputable def HW(c:TT)(tb:TS):TS:=λD σ H=>∃W:Nat->St->Hp->Prop,(∃m,W m σ H)/\∀m σ H,W m σ H ->
 c σ H λb H1=>if b=true then ∃N:St->Hp->Prop,(∀σ' H',N σ' H'->∃m',m'<m/\W m' σ' H')/\tb { D with nx:=N,ct:=N,bk:=D.nx } σ H1 else D.nx σ H1
theorem AD{c:Expr}{body:br}{tc:TT}{tb:TS}(hp:PassesOwn (model X.prog X.w) X.A X.env X.xe)(hc:PT X c tc)(hb:mL X body tb):PS X (.While c body [] pos) (HW tc tb):=by
 intro pins s σ H D I h;obtain⟨W,⟨m0,w0⟩,turn⟩:=h;refine wpAny_While (codeAny_whileLoop (λn s'=>∃σ' H',Inv X pins σ' H' s'/\W n σ' H') ?_ m0 ⟨σ,H,I,w0⟩);rintro n s1 ⟨σ1,H1,I1,w1⟩;refine aa8 hp (cS (hc pins s1 σ1 H1 _ I1 (turn n σ1 H1 w1)) λb s2 ⟨H2,I2,q2⟩=>?_);cases b with
 |true =>
  obtain⟨N,hN,q2⟩:=q2;rw[if_pos rfl];refine aa8 hp (cS (hb pins s2 σ1 H2 _ I2 q2) λf s3 q3=>?_);cases f with
  |next =>
   obtain⟨σ3,H3,I3,n3⟩:=q3;obtain⟨m',hm,w3⟩:=hN σ3 H3 n3;exact⟨m',hm,σ3,H3,I3,w3⟩
  |cont =>
   obtain⟨σ3,H3,I3,n3⟩:=q3;obtain⟨m',hm,w3⟩:=hN σ3 H3 n3;exact⟨m',hm,σ3,H3,I3,w3⟩
  |brk=>exact q3
  |ret v=>exact q3
 |false =>
  rw[if_neg Bool.false_ne_true];exact wpAny_execs_nil ⟨σ1,H2,I2,q2⟩
end
structure It where
 go:Nat->Hp->Prop
 uv:Nat->Hp->V->Hp->Prop
 stop:Nat->Hp->Prop
noncomputable def og(X:Cx)(pins:aj)(H:Hp)(b:Addr):Prop :=
 H b=none/\b≠X.env.locals/\b∉X.fs/\(b∈X.ex\/X.s₀.heap.objs.size<=b)/\(∀x c,X.env.cells.lookup x=some c->c≠b)/\∀p∈X.pn++pins,p.1≠b
theorem Inv.yZ{pins:aj}{H':Hp}{s:Shared}{b:Addr}(I:Inv X pins σ H s)(hb:s.heap.objs.size<=b)(hn:H' b=none):og X pins H' b:=by
 refine⟨hn,aaz (aal I.lt hb),I.Jp hb,.inr (aaG I.sz hb),λx c e z=>?_,λp hp z=>?_⟩
 ·obtain⟨v,q⟩:=I.cell x c e;exact absurd (aal q.lt (by rw[z];exact hb)) (aaA _)
 ·exact absurd (aal (aak (I.pin p hp).1) (by rw[z];exact hb)) (aaA _)
structure Turn(P:aE)(w:World)(K:ao)(tg:Expr)(J:It)(fp:aN)(it:Addr)(tn:Nat->Heap->Prop):Prop where
 mem:it∈fp
 obj:∀i h,tn i h->∀b∈fp,∃o,h.get? b=some o/\∀v,o.data≠.cell v
 keep:∀i h h',tn i h->(∀b∈fp,∀o,h.get? b=some o->h'.get? b=some o)->tn i h'
 item:∀(X:Cx),X.prog=P->X.w=w->X.K=K->X.calm=true->∀(i:Nat) (pins:aj) (s:Shared) (σ:St) (H:Hp) (E:aw),Inv X pins σ H s->(∀b∈fp,og X pins H b)->tn i s.heap->J.go i H ->
  wpAny (model P w) X.A (pyNext (.ref it)) (λr s1=>∃u,r=some u /\
   wpAny (model P w) X.A (letOwnedTupleGo tg (.ref it) u) (λ_ s2=>∃x H',Inv X pins σ H' s2/\RelV x u/\J.uv i H x H'/\tn (i+1) s2.heap/\∀b∈fp,H' b=none) E s1) E s
 done:∀(X:Cx),X.prog=P->X.w=w->X.K=K->X.calm=true->∀(i:Nat) (pins:aj) (s:Shared) (σ:St) (H:Hp) (E:aw),Inv X pins σ H s->(∀b∈fp,og X pins H b)->tn i s.heap->J.stop i H ->
  wpAny (model P w) X.A (pyNext (.ref it)) (λr s1=>r=none/\Inv X pins σ H s1) E s
 self:∀(A:aD) (i:Nat) (s:Shared) (Q:aw) (E:aw),tn i s.heap->Q (.ref it) s->wpAny (model P w) A (pyIter (.ref it)) Q E s
noncomputable abbrev TI:=St->Hp->(It->Hp->Prop)->Prop
def zF(X:Cx)(pins:aj)(σ:St)(tg:Expr)(R:It->Hp->Prop)(TN:Value)(s2:Shared):Prop :=
 ∃(it:Addr) (fp:aN) (tn:Nat->Heap->Prop) (J:It) (H':Hp),TN=.ref it/\Inv X pins σ H' s2/\Turn X.prog X.w X.K tg J fp it tn/\tn 0 s2.heap/\(∀b∈fp,og X pins H' b)/\R J H'
def PI(X:Cx)(tg iter:Expr)(wi:TI):Prop :=
 ∀(pins:aj) (s:Shared) (σ:St) (H:Hp) (R:It->Hp->Prop),Inv X pins σ H s->wi σ H R ->
  wpAny (model X.prog X.w) X.A (eval iter X.env) (λv s1=>wpAny (model X.prog X.w) X.A (pyIter v) (zF X pins σ tg R) X.xe s1) X.xe s
theorem xw{M:Model}{A:aD}{s:Shared}{it:Addr}{u:Value}{o:Obj}{n:String}{vs:aM}{Q:Unit->Shared->Prop}(ho:s.heap.get? it=some o)(hc:o.cls=.type n)(hd:o.data=.fields vs)
    (hn:["enumerate","zip","dict_itemiterator","dict_reverseitemiterator","odict_iterator","itertools.zip_longest","itertools.pairwise"].contains n=false) (hQ:Q () s):wpAny M A (letOwnedTupleGo tg (.ref it) u) Q E s:=by
  unfold letOwnedTupleGo;cases tg<;>first
    |exact aab hQ
    | (cases u<;>first
        |exact aab hQ
        | (refine aaa (wpAny_load ho ?_)
           rw[hc,hd];show wpAny M A (if (["enumerate","zip","dict_itemiterator","dict_reverseitemiterator","odict_iterator","itertools.zip_longest","itertools.pairwise"].contains n&&vs[0]?==some (rawInt _))=true then _ else _) Q E s;rw[if_neg (by intro h;rw[hn,Bool.false_and]at h;cases h)];exact aab hQ))
def Mm(K:ao)(a:Addr):It :=
 ⟨λi H=>∃xs x,dh K H a xs/\xs[i]?=some x,λi H x H'=>H'=H/\∀xs,dh K H a xs->xs[i]?=some x,λi H=>∃xs,dh K H a xs/\xs.length<=i⟩
def Ml(K:ao)(a:Addr):It :=
 ⟨λi H=>∃xs x,aU K H a xs/\xs[i]?=some x,λi H x H'=>H'=H/\∀xs,aU K H a xs->xs[i]?=some x,λi H=>∃xs,aU K H a xs/\xs.length<=i⟩
noncomputable def zy(lo:Int)(n:Nat):It:=⟨λi _=>i<n,λi H x H'=>H'=H/\x=.int (lo+i),λi _=>n<=i⟩
variable {P:aE}{w:World}
theorem yj(a it:Addr):Turn P w K tg (Mm K a) [it] it (λi h=>h.IsListIter it a i) where
 mem:=by simp
 obj:=λi h st b hb=>by
  have e:b=it:=by simpa using hb
  subst e;obtain⟨o,e,c,d⟩:=st;exact⟨o,e,λv z=>by rw[d]at z;cases z⟩
 keep:=λi h h' st k=>st.at λo e=>k it (by simp) o e
 item:=by
  intro X hP hw hK hc i pins s σ H E I hf st hg;subst hP hw hK;obtain⟨xs,x,hq,hx⟩:=hg;obtain⟨aI,rv,p,hz⟩:=I.list hq;obtain⟨u,hu,ru⟩:=rv.get hx;obtain⟨f0,f1,f2,f3,f4,f5⟩:=hf it (by simp);refine wpAny_pyNext_list_item st p.isList (x:=u) (by simpa using hu) λh' lS sb=>?_;have I1:Inv X pins σ H { s with heap:=h' }:=I.turned (t':=s.toks) (λb o hb e=>(sb.2 b hb).trans e) f0 f1 f3 f4 f5;obtain⟨o,e,c,d⟩:=id lS;exact⟨u,rfl,xw (s:={ s with heap:=h' }) e c d (by decide) ⟨x,H,I1,ru,⟨rfl,λys hy=>by rw[I.iq hy hq];exact hx⟩,lS,λb hb=>(hf b hb).1⟩⟩
 done:=by
  intro X hP hw hK hc i pins s σ H E I hf st hg;subst hP hw hK;obtain⟨xs,hq,hx⟩:=hg;obtain⟨aI,rv,p,hz⟩:=I.list hq;obtain⟨f0,f1,f2,f3,f4,f5⟩:=hf it (by simp);have hl:=rv.length;exact wpAny_pyNext_list_end (I.ok.hd hc) st p.isList (by simp;left) λh' eb=>⟨rfl,I.turned (t':=s.toks) (λb o hb e=>eb b o hb e) f0 f1 f3 f4 f5⟩
 self:=λ_ _ _ _ _ st h=>wpAny_pyIter_listiter st h
theorem uI(a it:Addr):Turn P w K tg (Ml K a) [it] it (λi h=>h.IsTupleIter it a i) where
 mem:=by simp
 obj:=λi h st b hb=>by
  have e:b=it:=by simpa using hb
  subst e;obtain⟨o,e,c,d⟩:=st;exact⟨o,e,λv z=>by rw[d]at z;cases z⟩
 keep:=λi h h' st k=>st.at λo e=>k it (by simp) o e
 item:=by
  intro X hP hw hK hc i pins s σ H E I hf st hg;subst hP hw hK;obtain⟨xs,x,hq,hx⟩:=hg;obtain⟨aI,rv,p,hz⟩:=I.tuple hq;obtain⟨u,hu,ru⟩:=rv.get hx;obtain⟨f0,f1,f2,f3,f4,f5⟩:=hf it (by simp);refine wpAny_pyNext_tuple_item st (show s.heap.IsTuple a aI.toArray from p) (x:=u) (by simpa using hu) λh' lS sb=>?_;have I1:Inv X pins σ H { s with heap:=h' }:=I.turned (t':=s.toks) (λb o hb e=>(sb.2 b hb).trans e) f0 f1 f3 f4 f5;obtain⟨o,e,c,d⟩:=id lS;exact⟨u,rfl,xw (s:={ s with heap:=h' }) e c d (by decide) ⟨x,H,I1,ru,⟨rfl,λys hy=>by rw[I.kQ hy hq];exact hx⟩,lS,λb hb=>(hf b hb).1⟩⟩
 done:=by
  intro X hP hw hK hc i pins s σ H E I hf st hg;subst hP hw hK;obtain⟨xs,hq,hx⟩:=hg;obtain⟨aI,rv,p,hz⟩:=I.tuple hq;obtain⟨f0,f1,f2,f3,f4,f5⟩:=hf it (by simp);have hl:=rv.length;exact wpAny_pyNext_tuple_end (I.ok.hd hc) st (show s.heap.IsTuple a aI.toArray from p) (by simp;left) λh' eb=>⟨rfl,I.turned (t':=s.toks) (λb o hb e=>eb b o hb e) f0 f1 f3 f4 f5⟩
 self:=λ_ _ _ _ _ st h=>wpAny_pyIter_tupleiter st h
theorem uJ(it:Addr)(lo:Int)(n:Nat):Turn P w K tg (zy lo n) [it] it (λi h=>IsRangeIter h it (lo+(i:Nat)*1) ((n:Int) - (i:Nat)) 1) where
 mem:=by simp
 obj:=λi h st b hb=>by
  have e:b=it:=by simpa using hb
  subst e;exact⟨_,st,λv z=>by
   have z':Data.fields _=Data.cell v:=z;cases z'⟩
 keep:=λi h h' st k=>k it (by simp) _ st
 item:=by
  intro X hP hw hK hc i pins s σ H E I hf st hg;subst hP hw hK;obtain⟨f0,f1,f2,f3,f4,f5⟩:=hf it (by simp);have W:=Walks.range (prog:=X.prog) (w:=X.w) (I.ok.hd hc) it lo 1 n;refine W.item i s _ _ hg st λv h' tk hv lS kk=>?_;obtain⟨t,rfl⟩:=hv;have I1:Inv X pins σ H { s with heap:=h',toks:=tk }:=I.turned (λb o hb e=>kk b o (by simpa using hb) e) f0 f1 f3 f4 f5;refine⟨_,rfl,xw (s:={ s with heap:=h',toks:=tk }) (n:="range_iterator") lS rfl rfl (by decide) ⟨.int (lo+i),H,I1,⟨t,?_⟩,⟨rfl,rfl⟩,lS,λb hb=>(hf b hb).1⟩⟩;rw[Int.mul_one]
 done:=by
  intro X hP hw hK hc i pins s σ H E I hf st hg;subst hP hw hK;obtain⟨f0,f1,f2,f3,f4,f5⟩:=hf it (by simp);exact wpAny_pyNext_range_end (I.ok.hd hc) st (by have:n<=i:=hg;left) λh' eb=>⟨rfl,I.turned (t':=s.toks) (λb o hb e=>eb b o hb e) f0 f1 f3 f4 f5⟩
 self:=λ_ _ _ _ _ st h=>wpAny_pyIter_rangeiter st h
end L2
namespace L2
open PySem PySem.Spec PyProof.Rows
variable {H:Hp}{fp:aN}{lo:Int}{pos:Pos}{ta:TA}{tl:TE}{σ:L2.St}
section
variable {X:Cx}{tg:Expr}
def Ot(K:ao)(tl:TE):TI:=λσ H R=>tl σ H λx H1=>∃a,x=.ref a/\(∃xs,dh K H1 a xs)/\R (Mm K a) H1
def T8(K:ao)(tl:TE):TI:=λσ H R=>tl σ H λx H1=>∃a,x=.ref a/\(∃xs,aU K H1 a xs)/\R (Ml K a) H1
theorem wK{l:Expr}(hl:PE X l tl):PI X tg l (Ot X.K tl):=by
 intro pins s σ H R I h;refine cS (hl pins s σ H _ I h) λv s1 bL=>?_;obtain⟨x,H1,I1,r1,q1⟩:=bL;obtain⟨a,e,⟨xs,hq⟩,q⟩:=q1;subst e;cases r1;obtain⟨aI,rv,p,hz⟩:=I1.list hq;refine wpAny_pyIter_list p.isList ?_;refine⟨s1.heap.objs.size,[s1.heap.objs.size],_,_,H1,rfl,I1.kept (t':=s1.toks) λb o e=>aaj _ e,yj a _,⟨_,aat _ rfl,rfl,rfl⟩,λb hb=>?_,q⟩;have e:b=s1.heap.objs.size:=by simpa using hb
 subst e;exact I1.yZ (aam _) (I1.cM.fresh (aam _))
theorem AJ{l:Expr}(hl:PE X l tl):PI X tg l (T8 X.K tl):=by
 intro pins s σ H R I h;refine cS (hl pins s σ H _ I h) λv s1 bL=>?_;obtain⟨x,H1,I1,r1,q1⟩:=bL;obtain⟨a,e,⟨xs,hq⟩,q⟩:=q1;subst e;cases r1;obtain⟨aI,rv,p,hz⟩:=I1.tuple hq;refine wpAny_pyIter_tuple (show s1.heap.IsTuple a aI.toArray from p) ?_;refine⟨s1.heap.objs.size,[s1.heap.objs.size],_,_,H1,rfl,I1.kept (t':=s1.toks) λb o e=>aaj _ e,uI a _,⟨_,aat _ rfl,rfl,rfl⟩,λb hb=>?_,q⟩;have e:b=s1.heap.objs.size:=by simpa using hb
 subst e;exact I1.yZ (aam _) (I1.cM.fresh (aam _))
theorem sQ{pins:aj}{s:Shared}{R:It->Hp->Prop}{E:aw}{hi:Int}{t u v:Tok}{tk:Nat}(I:Inv X pins σ H s)(h1:-(2 ^ 62)<=lo)(h2:lo<2 ^ 62)(h3:-(2 ^ 62)<=hi)(h4:hi<2 ^ 62)
  (q:R (zy lo (hi - lo).toNat) H):wpAny (model X.prog X.w) X.A (pyIter (.ref s.heap.objs.size)) (zF X pins σ tg R) E { s with heap:=s.heap.push { cls:=.type "range",data:=.fields #[.int lo t,.int hi u,.int 1 v] },toks:=tk }:=by
 refine wpAny_pyIter_range (IsRange.new ..) (small_one h1 h2 h3 h4) ?_;have I1:Inv X pins σ H { s with heap:=s.heap.push { cls:=.type "range",data:=.fields #[.int lo t,.int hi u,.int 1 v] },toks:=tk }:=I.kept λb o e=>aaj _ e;refine⟨(s.heap.push { cls:=.type "range",data:=.fields #[.int lo t,.int hi u,.int 1 v] }).objs.size,[(s.heap.push { cls:=.type "range",data:=.fields #[.int lo t,.int hi u,.int 1 v] }).objs.size],_,_,H,rfl,
  I1.kept (t':=tk) λb o e=>aaj _ e,uJ _ lo (hi - lo).toNat,?_,λb hb=>?_,q⟩
 ·have e1:lo+((0:Nat):Int)*1=lo:=by simp
  have e2:(((hi - lo).toNat:Nat):Int) - ((0:Nat):Int)=Builtin.Range.rangeSize lo hi 1:=by rw[rangeSize_one];split<;>left
  show IsRangeIter _ _ (lo+((0:Nat):Int)*1) ((((hi - lo).toNat:Nat):Int) - ((0:Nat):Int)) 1;rw[e1,e2];exact aat _ rfl
 ·have e:b=(s.heap.push { cls:=.type "range",data:=.fields #[.int lo t,.int hi u,.int 1 v] }).objs.size:=by simpa using hb
  subst e;exact I1.yZ (aam _) (I1.cM.fresh (aam _))
def Oq(ta:TA):TI:=λσ H R=>ta σ H λvs H1=>∃j:Int,vs=[.int j] /\ -(2 ^ 62)<=j/\j<2 ^ 62/\R (zy 0 j.toNat) H1
def Oo(ta:TA):TI:=λσ H R=>ta σ H λvs H1=>∃i j:Int,vs=[.int i,.int j]/\(-(2 ^ 62)<=i/\i<2 ^ 62 /\ -(2 ^ 62)<=j/\j<2 ^ 62)/\R (zy i (j - i).toNat) H1
theorem pf{a:Expr}{p:Pos}(hg:Gl X "range")(hm:X.mg "range" = none)(ha:PA X [a] ta)(hs:starEach [a] X.env=[(false,eval a X.env)]:=by rfl):PI X tg (.Call (.Name "range" p) [a] [] pos) (Oq ta):=by
 intro pins s σ H R I h;refine Call_ (dS I hg hm boot_range (aaB (cS (ha pos pins s σ H _ I h) λus s1 bL=>?_) hs rfl));obtain⟨vs,H1,I1,r1,q1⟩:=bL;obtain⟨j,e,q1,q2,q⟩:=q1;subst e;cases r1 with
 |cons r rr =>
  cases rr;obtain⟨t,rfl⟩:=r;exact call_range_1 (sQ I1 (by left) (by left) q1 q2 (by simpa using q))
theorem LK{a b:Expr}{p:Pos}(hg:Gl X "range")(hm:X.mg "range" = none)(ha:PA X [a,b] ta)(hs:starEach [a,b] X.env=[(false,eval a X.env),(false,eval b X.env)]:=by rfl)(Ha:starEach [b] X.env=[(false,eval b X.env)]:=by rfl):
  PI X tg (.Call (.Name "range" p) [a,b] [] pos) (Oo ta):=by
 intro pins s σ H R I h;refine Call_ (dS I hg hm boot_range (aaB (cS (ha pos pins s σ H _ I h) λus s1 bL=>?_) (by rw[hs,Ha]) (by rw[Ha];rfl)));obtain⟨vs,H1,I1,r1,q1⟩:=bL;obtain⟨i,j,e,⟨q1,q2,q3,q4⟩,q⟩:=q1;subst e;cases r1 with
 |cons r rr =>
  cases rr with
  |cons r' rr =>
   cases rr;obtain⟨t,rfl⟩:=r;obtain⟨t',rfl⟩:=r';exact call_range_2 (sQ I1 q1 q2 q3 q4 q)
noncomputable def R5(wi:TI)(g:TG)(tb:TS):TS:=λD σ H=>wi σ H λJ H1=>∃W:Nat->Nat->St->Hp->Prop,(∃m,W 0 m σ H1)/\∀i m σ H,W i m σ H ->
 (J.stop i H/\D.nx σ H)\/(J.go i H/\∃N:St->Hp->Prop,(∀σ' H',N σ' H'->∃m',m'<m/\W (i+1) m' σ' H')/\∀x H',J.uv i H x H'->g x σ H' λσ2 H2=>tb { D with nx:=N,ct:=N,bk:=D.nx } σ2 H2)
noncomputable def ic(fp:aN)(h:Heap):aj:=fp.filterMap λb=>(h.get? b).map λo=>(b,o)
theorem gD{h:Heap}{b:Addr}{o:Obj}(hb:b∈fp)(e:h.get? b=some o):(b,o)∈ic fp h:=List.mem_filterMap.mpr ⟨b,hb,by rw[e];rfl⟩
theorem pj{h:Heap}{p:Addr×Obj}(hp:p∈ic fp h):p.1∈fp/\h.get? p.1=some p.2:=by
 obtain⟨b,hb,e⟩:=List.mem_filterMap.mp hp;cases q:h.get? b with
 |none=>rw[q]at e;cases e
 |some o =>
  rw[q]at e;have e':(b,o)=p:=aax e;subst e';exact⟨hb,q⟩
theorem Inv.pinned{pins:aj}{s:Shared}(I:Inv X pins σ H s)(hf:∀b∈fp,og X pins H b)(ho:∀b∈fp,∃o,s.heap.get? b=some o/\∀v,o.data≠.cell v):Inv X (pins++ic fp s.heap) σ H s :=
 I.iT λp hp=>(List.mem_append.mp hp).elim (λz=>I.pin p (aau _ z)) λz=>by
  obtain⟨hb,e⟩:=pj z;obtain⟨f0,f1,f2,_⟩:=hf p.1 hb;obtain⟨o,e',d⟩:=ho p.1 hb;rw[e]at e';cases e';exact⟨e,f0,f1,f2,d⟩
theorem Inv.jW{pins pl:aj}{s:Shared}(I:Inv X (pins++pl) σ H s):Inv X pins σ H s:=I.iT λp hp=>I.pin p (aau _ (aaI _ hp))
theorem ql{iter:Expr}{body:br}{wi:TI}{g:TG}{tb:TS}(hp:PassesOwn (model X.prog X.w) X.A X.env X.xe)(hc:X.calm=true)(hi:PI X tg iter wi)(hg:PG X tg g)(hb:mL X body tb)
  (hs:∀x,foldedSetIterable iter X.env x=pure x:=by intro _;rfl):PS X (.For tg iter body [] pos) (R5 wi g tb):=by
 intro pins s σ H D I h;refine wpAny_For (cS (hi pins s σ H _ I h) λv s1 h1=>cS h1 λTN s2 h2=>?_) hs;obtain⟨it,fp,tn,J,H2,e,I2,T,DS,f2,W,⟨m0,w0⟩,turn⟩:=h2;subst e;have Ia:∀{H':Hp},(∀b∈fp,H' b=none)->∀b∈fp,og X pins H' b:=λhn b hb=>⟨hn b hb,(f2 b hb).2⟩
 refine codeAny_forLoop_any (λn s'=>∃i σ' H',Inv X pins σ' H' s'/\tn i s'.heap/\(∀b∈fp,H' b=none)/\W i n σ' H') ?_ m0 ⟨0,σ,H2,I2,DS,λb hb=>(f2 b hb).1,w0⟩;rintro n s3 ⟨i,σ3,H3,I3,st3,fr3,w3⟩;rcases turn i n σ3 H3 w3 with ⟨stop,qn⟩|⟨go,N,hN,step⟩
 ·refine aa8 hp (cS (T.done X rfl rfl rfl hc i pins s3 σ3 H3 X.xe I3 (Ia fr3) st3 stop) λr s4 bL=>?_);obtain⟨hr,I4⟩:=bL;subst hr;exact wpAny_execs_nil ⟨σ3,H3,I4,qn⟩
 ·refine aa8 hp (cS (T.item X rfl rfl rfl hc i pins s3 σ3 H3 X.xe I3 (Ia fr3) st3 go) λr s4 bL=>?_);obtain⟨u,hr,h4⟩:=bL;subst hr;refine aa8 hp (cS h4 λ_ s5 bL=>?_);obtain⟨x,H5,I5,r5,y5,Ic,Vf⟩:=bL;have VW:=I5.pinned (Ia Vf) (T.obj _ _ Ic);refine aa8 hp (cS (hg _ s5 σ3 H5 x u _ VW r5 (step x H5 y5)) λ_ s6 bL=>?_);obtain⟨σ6,H6,I6,q6⟩:=bL;refine aa8 hp (cS (hb _ s6 σ6 H6 _ I6 q6) λf s7 q7=>?_);have again:∀{σ7:St} {H7:Hp},Inv X (pins++ic fp s5.heap) σ7 H7 s7->N σ7 H7->∃m,m<n/\∃i σ' H',Inv X pins σ' H' s7/\tn i s7.heap/\(∀b∈fp,H' b=none)/\W i m σ' H':=λ{σ7 H7} I7 n7=>by
   obtain⟨m',hm,w7⟩:=hN σ7 H7 n7;refine⟨m',hm,i+1,σ7,H7,I7.jW,T.keep _ _ _ Ic λb hb o e=>(I7.pin (b,o) (aau _ (aau _ (gD hb e)))).1,λb hb=>?_,w7⟩;obtain⟨o,e,d⟩:=T.obj _ _ Ic b hb;exact(I7.pin (b,o) (aau _ (aau _ (gD hb e)))).2.1
  cases f with
  |next=>obtain⟨σ7,H7,I7,n7⟩:=q7;exact again I7 n7
  |cont=>obtain⟨σ7,H7,I7,n7⟩:=q7;exact again I7 n7
  |brk=>obtain⟨σ7,H7,I7,q7⟩:=q7;exact⟨σ7,H7,I7.jW,q7⟩
  |ret v=>obtain⟨x7,σ7,H7,I7,r7,q7⟩:=q7;exact⟨x7,σ7,H7,I7.jW,r7,q7⟩
end
variable {K:ao}{xs:ae}
theorem B9{a:Addr}{g:TG}{tb:TS}{D:Ends}(Pv:Nat->St->Hp->Prop)(h0:Pv 0 σ H)(hl:∀i σ H,i<=xs.length->Pv i σ H->dh K H a xs)
  (hs:∀i x σ H,xs[i]?=some x->Pv i σ H->g x σ H λσ2 H2=>tb { D with nx:=Pv (i+1),ct:=Pv (i+1),bk:=D.nx } σ2 H2) (hd:∀σ H,Pv xs.length σ H->D.nx σ H) :
  ∃W:Nat->Nat->St->Hp->Prop,(∃m,W 0 m σ H)/\∀i m σ H,W i m σ H ->
   ((Mm K a).stop i H/\D.nx σ H)\/((Mm K a).go i H/\∃N:St->Hp->Prop,(∀σ' H',N σ' H'->∃m',m'<m/\W (i+1) m' σ' H')/\∀x H',(Mm K a).uv i H x H'->g x σ H' λσ2 H2=>tb { D with nx:=N,ct:=N,bk:=D.nx } σ2 H2):=by
 refine⟨λi m σ H=>m=xs.length - i/\i<=xs.length/\Pv i σ H,⟨xs.length,by simp,aaP _,h0⟩,?_⟩;rintro i m σ H ⟨rfl,hi,p⟩;have q:=hl i σ H hi p;by_cases fR:i<xs.length
 ·refine .inr ⟨⟨xs,xs[i],q,by simp[fR]⟩,Pv (i+1),λσ' H' p'=>⟨xs.length - (i+1),by left,rfl,fR,p'⟩,λx H' y=>?_⟩;obtain⟨e,y⟩:=y;subst e;exact hs i x σ _ (y xs q) p
 ·have e:i=xs.length:=by left
  subst e;exact .inl ⟨⟨xs,q,aam _⟩,hd σ H p⟩
theorem FE{a:Addr}{g:TG}{tb:TS}{D:Ends}(Pv:Nat->St->Hp->Prop)(h0:Pv 0 σ H)(hl:∀i σ H,i<=xs.length->Pv i σ H->aU K H a xs)
  (hs:∀i x σ H,xs[i]?=some x->Pv i σ H->g x σ H λσ2 H2=>tb { D with nx:=Pv (i+1),ct:=Pv (i+1),bk:=D.nx } σ2 H2) (hd:∀σ H,Pv xs.length σ H->D.nx σ H) :
  ∃W:Nat->Nat->St->Hp->Prop,(∃m,W 0 m σ H)/\∀i m σ H,W i m σ H ->
   ((Ml K a).stop i H/\D.nx σ H)\/((Ml K a).go i H/\∃N:St->Hp->Prop,(∀σ' H',N σ' H'->∃m',m'<m/\W (i+1) m' σ' H')/\∀x H',(Ml K a).uv i H x H'->g x σ H' λσ2 H2=>tb { D with nx:=N,ct:=N,bk:=D.nx } σ2 H2):=by
 refine⟨λi m σ H=>m=xs.length - i/\i<=xs.length/\Pv i σ H,⟨xs.length,by simp,aaP _,h0⟩,?_⟩;rintro i m σ H ⟨rfl,hi,p⟩;have q:=hl i σ H hi p;by_cases fR:i<xs.length
 ·refine .inr ⟨⟨xs,xs[i],q,by simp[fR]⟩,Pv (i+1),λσ' H' p'=>⟨xs.length - (i+1),by left,rfl,fR,p'⟩,λx H' y=>?_⟩;obtain⟨e,y⟩:=y;subst e;exact hs i x σ _ (y xs q) p
 ·have e:i=xs.length:=by left
  subst e;exact .inl ⟨⟨xs,q,aam _⟩,hd σ H p⟩
theorem y4{n:Nat}{g:TG}{tb:TS}{D:Ends}(Pv:Nat->St->Hp->Prop)(h0:Pv 0 σ H)
  (hs:∀i σ H,i<n->Pv i σ H->g (.int (lo+i)) σ H λσ2 H2=>tb { D with nx:=Pv (i+1),ct:=Pv (i+1),bk:=D.nx } σ2 H2) (hd:∀σ H,Pv n σ H->D.nx σ H) :
  ∃W:Nat->Nat->St->Hp->Prop,(∃m,W 0 m σ H)/\∀i m σ H,W i m σ H ->
   ((zy lo n).stop i H/\D.nx σ H)\/((zy lo n).go i H/\∃N:St->Hp->Prop,(∀σ' H',N σ' H'->∃m',m'<m/\W (i+1) m' σ' H')/\∀x H',(zy lo n).uv i H x H'->g x σ H' λσ2 H2=>tb { D with nx:=N,ct:=N,bk:=D.nx } σ2 H2):=by
 refine⟨λi m σ H=>m=n - i/\i<=n/\Pv i σ H,⟨n,by simp,aaP _,h0⟩,?_⟩;rintro i m σ H ⟨rfl,hi,p⟩;by_cases fR:i<n
 ·refine .inr ⟨fR,Pv (i+1),λσ' H' p'=>⟨n - (i+1),by left,rfl,fR,p'⟩,λx H' y=>?_⟩;obtain⟨e,y⟩:=y;subst e y;exact hs i σ _ fR p
 ·have e:i=n:=by left
  subst e;exact .inl ⟨aam _,hd σ H p⟩
end L2
namespace L2
open PySem PySem.Spec PyProof.Rows
noncomputable abbrev R2:=V->V->Hp->VK->Prop
def jF(X:Cx)(f:Value->Value->Sem Value)(r:R2):Prop :=
 ∀(pins:aj) (s:Shared) (σ:St) (H:Hp) (x y:V) (v u:Value) (Q:VK),Inv X pins σ H s->RelV x v->RelV y u->r x y H Q ->
  wpAny (model X.prog X.w) X.A (f v u) (EP X pins σ Q) X.xe s
def VO(X:Cx)(f:Value->Sem Value)(r:V->Hp->VK->Prop):Prop :=
 ∀(pins:aj) (s:Shared) (σ:St) (H:Hp) (x:V) (v:Value) (Q:VK),Inv X pins σ H s->RelV x v->r x H Q ->
  wpAny (model X.prog X.w) X.A (f v) (EP X pins σ Q) X.xe s
def fM(X:Cx)(f:Value)(r:ae->Hp->VK->Prop):Prop :=
 ∀(pins:aj) (s:Shared) (σ:St) (H:Hp) (xs:ae) (us:ak) (Q:VK),Inv X pins σ H s->Vals xs us->r xs H Q ->
  wpAny (model X.prog X.w) X.A (call f us) (EP X pins σ Q) X.xe s
noncomputable def GD(r:R2)(ta tb:TE):TE:=λσ H Q=>ta σ H λx H1=>tb σ H1 λy H2=>r x y H2 Q
noncomputable def X9(r:V->Hp->VK->Prop)(ta:TE):TE:=λσ H Q=>ta σ H λx H1=>r x H1 Q
noncomputable def rI(C:Int->Int->Prop)(g:Int->Int->V):R2:=λx y H Q=>∃i j,x=.int i/\y=.int j/\C i j/\Q (g i j) H
noncomputable def Ay(g:Int->Int->V):R2:=λx y H Q=>∃i j,x=.int i/\y=.int j/\Q (g i j) H
noncomputable def rU(g:Int->V):V->Hp->VK->Prop:=λx H Q=>∃i,x=.int i/\Q (g i) H
variable {H:Hp}{σ:L2.St}
section
variable {X:Cx}{a b c:Expr}{ta tb tc:TE}{pos:Pos}
theorem Ls(ha:PE X a ta)(hb:PE X b tb){pins:aj}{s:Shared}{R:V->V->Hp->Prop}(I:Inv X pins σ H s)
  (h:ta σ H λx H1=>tb σ H1 λy H2=>R x y H2) {Q:aw} {f:Value->Value->Sem Value}
  (hf:∀v u s2 x y H2,Inv X pins σ H2 s2->RelV x v->RelV y u->R x y H2->wpAny (model X.prog X.w) X.A (f v u) Q X.xe s2) :
  wpAny (model X.prog X.w) X.A (eval a X.env) (λv s₁=>wpAny (model X.prog X.w) X.A (eval b X.env) (λu s₂=>wpAny (model X.prog X.w) X.A (f v u) Q X.xe s₂) X.xe s₁) X.xe s:=by
 refine cS (ha pins s σ H _ I h) λv s1 bL=>?_;obtain⟨x,H1,I1,r1,q1⟩:=bL;refine cS (hb pins s1 σ H1 _ I1 q1) λu s2 bL=>?_;obtain⟨y,H2,I2,r2,q2⟩:=bL;exact hf v u s2 x y H2 I2 r1 r2 q2
theorem wO{op:Operator}{r:R2}(ho:jF X (binaryOp op) r)(ha:PE X a ta)(hb:PE X b tb):PE X (.BinOp a op b pos) (GD r ta tb):=by
 intro pins s σ H Q I h;exact wpAny_BinOp (Ls ha hb I h λv u s2 x y H2 I2 rx ry q=>ho pins s2 σ H2 x y v u Q I2 rx ry q)
theorem Ny{op:UnaryOp}{r:V->Hp->VK->Prop}(ho:VO X (unaryOp op) r)(ha:PE X a ta):PE X (.UnaryOp op a pos) (X9 r ta):=by
 intro pins s σ H Q I h;exact UnaryOp_ (cS (ha pins s σ H _ I h) λv s1 ⟨x,H1,I1,r1,q1⟩=>ho pins s1 σ H1 x v Q I1 r1 q1)
theorem Jk{f:Value->Value->Sem Value}{C:Int->Int->Prop}{g:Int->Int->Int}
  (rule:∀(i j:Int) (t u:Tok) (s:Shared) (Q:aw) (E:aw),C i j->Q (.int (g i j) s.toks) { s with toks:=s.toks+1 }->wpAny (model X.prog X.w) X.A (f (.int i t) (.int j u)) Q E s) :
  jF X f (rI C λi j=>.int (g i j)):=by
 intro pins s σ H x y v u Q I rx ry h;obtain⟨i,j,rfl,rfl,hc,q⟩:=h;obtain⟨t,rfl⟩:=rx;obtain⟨t',rfl⟩:=ry;exact rule i j t t' s _ _ hc ⟨.int (g i j),H,I.tok _,⟨_,rfl⟩,q⟩
theorem Tf{f:Value->Value->Sem Value}{g:Int->Int->Int}
  (rule:∀(i j:Int) (t u:Tok) (s:Shared) (Q:aw) (E:aw),Q (.int (g i j) s.toks) { s with toks:=s.toks+1 }->wpAny (model X.prog X.w) X.A (f (.int i t) (.int j u)) Q E s) :
  jF X f (Ay λi j=>.int (g i j)):=by
 intro pins s σ H x y v u Q I rx ry h;obtain⟨i,j,rfl,rfl,q⟩:=h;obtain⟨t,rfl⟩:=rx;obtain⟨t',rfl⟩:=ry;exact rule i j t t' s _ _ ⟨.int (g i j),H,I.tok _,⟨_,rfl⟩,q⟩
theorem ED{f:Value->Value->Sem Value}{g:Int->Int->Bool}
  (rule:∀(i j:Int) (t u:Tok) (s:Shared) (Q:aw) (E:aw),Q (.bool (g i j)) s->wpAny (model X.prog X.w) X.A (f (.int i t) (.int j u)) Q E s) :
  jF X f (Ay λi j=>.bl (g i j)):=by
 intro pins s σ H x y v u Q I rx ry h;obtain⟨i,j,rfl,rfl,q⟩:=h;obtain⟨t,rfl⟩:=rx;obtain⟨t',rfl⟩:=ry;exact rule i j t t' s _ _ ⟨.bl (g i j),H,I,rfl,q⟩
theorem uH(k:Nat):(0:Int)<=2 ^ k:=by
 rw[two_pow_cast];exact Int.natCast_nonneg _
theorem Jj:jF X (binaryOp .Add) (Ay λi j=>.int (i+j)):=Tf λ_ _ _ _ _ _ _ q=>add_int q
theorem EB:jF X (binaryOp .Mod) (rI (λ_ j=>j≠0) λi j=>.int (i.fmod j)):=Jk λ_ _ _ _ _ _ _ hc q=>mod_int' hc q
theorem Je:jF X (binaryOp .RShift) (rI (λ_ j=>0<=j) λi j=>.int (i / 2 ^ j.toNat)):=Jk λi j _ _ _ _ _ hc q =>
 rshift_int hc (by rw[Int.fdiv_eq_ediv_of_nonneg i (uH _)];exact q)
theorem X5{f:Value->Sem Value}{g:Int->Int}
  (rule:∀(i:Int) (t:Tok) (s:Shared) (Q:aw) (E:aw),Q (.int (g i) s.toks) { s with toks:=s.toks+1 }->wpAny (model X.prog X.w) X.A (f (.int i t)) Q E s) :
  VO X f (rU λi=>.int (g i)):=by
 intro pins s σ H x v Q I rx h;obtain⟨i,rfl,q⟩:=h;obtain⟨t,rfl⟩:=rx;exact rule i t s _ _ ⟨.int (g i),H,I.tok _,⟨_,rfl⟩,q⟩
theorem HS:VO X (unaryOp .USub) (rU λi=>.int (-i)):=X5 λ_ _ _ _ _ q=>neg_int q
end
variable {us:ak}
section
variable {X:Cx}{a b c:Expr}{ta tb tc:TE}{pos:Pos}
theorem B_{pins:aj}{s:Shared}{Q:VK}{k k':Bool}(I:Inv X pins σ H s)(q:Q (.bl k) H)(e:k=k'):EP X pins σ Q (.bool k') s:=by
 subst e;exact⟨.bl k,H,I,rfl,q⟩
theorem NI:jF X (compareOp .Lt) (Ay λi j=>.bl (decide (i<j))):=ED λ_ _ _ _ _ _ _ q=>lt_int q
theorem NJ:jF X (compareOp .LtE) (Ay λi j=>.bl (decide (i<=j))):=ED λ_ _ _ _ _ _ _ q=>le_int q
theorem NK:jF X (compareOp .Gt) (Ay λi j=>.bl (decide (j<i))):=ED λ_ _ _ _ _ _ _ q=>gt_int q
theorem NL:jF X (compareOp .GtE) (Ay λi j=>.bl (decide (j<=i))):=ED λ_ _ _ _ _ _ _ q=>ge_int q
theorem Te:jF X (compareOp .Is) (λx y H Q=>y=.cj/\Q (.bl (decide (x=.cj))) H):=by
 intro pins s σ H x y v u Q I rx ry h;obtain⟨rfl,q⟩:=h;cases ry;refine is_none_gen (B_ I q ?_);cases x<;>first
  | (cases rx;rfl)
  | (obtain⟨t,rfl⟩:=rx;rfl)
theorem QO:jF X (compareOp .IsNot) (λx y H Q=>y=.cj/\Q (.bl (!decide (x=.cj))) H):=by
 intro pins s σ H x y v u Q I rx ry h;obtain⟨rfl,q⟩:=h;cases ry;refine isnot_none_gen (B_ I q ?_);cases x<;>first
  | (cases rx;rfl)
  | (obtain⟨t,rfl⟩:=rx;rfl)
theorem jF.or{f:Value->Value->Sem Value}{r r':R2}(h:jF X f r)(h':jF X f r'):jF X f (λx y H Q=>r x y H Q\/r' x y H Q):=by
 intro pins s σ H x y v u Q I rx ry q;rcases q with q|q
 ·exact h pins s σ H x y v u Q I rx ry q
 ·exact h' pins s σ H x y v u Q I rx ry q
theorem A7(b:Expr){op:CmpOp}(h:op≠.In:=by decide)(h2:op≠.NotIn:=by decide):behindInMarks op b=false:=by
 have e1:(op==CmpOp.In)=false:=by cases op<;>first|rfl|exact absurd rfl h
 have e2:(op==CmpOp.NotIn)=false:=by cases op<;>first|rfl|exact absurd rfl h2
 cases b<;>simp[behindInMarks,e1,e2]
theorem wR{op:CmpOp}{r:R2}(ho:jF X (compareOp op) r)(ha:PE X a ta)(hb:PE X b tb)(hm:behindInMarks op b=false):PE X (.Compare a [op] [b] pos) (GD r ta tb):=by
 intro pins s σ H Q I h;exact wpAny_Compare1 (Ls ha hb I h λv u s2 x y H2 I2 rx ry q=>ho pins s2 σ H2 x y v u Q I2 rx ry q) hm
noncomputable def GC(t:TE):TT:=λσ H Q=>t σ H λx H'=>∃k,x=.bl k/\Q k H'
theorem wD{op:CmpOp}{r:R2}(ho:jF X (compareOp op) r)(ha:PE X a ta)(hb:PE X b tb)(hm:behindInMarks op b=false):PT X (.Compare a [op] [b] pos) (GC (GD r ta tb)):=by
 intro pins s σ H Q I h;refine wpAny_isTrue_Compare1 (cS (ha pins s σ H _ I h) λv s1 ⟨x,H1,I1,r1,q1⟩=>cS (hb pins s1 σ H1 _ I1 q1) λu s2 ⟨y,H2,I2,r2,q2⟩ =>
  cS (ho pins s2 σ H2 x y v u _ I2 r1 r2 q2) λc s3 ⟨z,H3,I3,r3,k,e,q3⟩=>?_) hm
 subst e;cases r3;exact aaX ⟨H3,I3,q3⟩
theorem qz:(sizeLine:Nat)<2 ^ 63:=by rw[sizeLine_eq];decide
theorem vals1{x:V}(r:Vals [x] us):∃u,us=[u]/\RelV x u:=by
 cases r with
 |cons r1 r2=>cases r2;exact⟨_,rfl,r1⟩
theorem vals2{x y:V}(r:Vals [x,y] us):∃u w',us=[u,w']/\RelV x u/\RelV y w':=by
 cases r with
 |cons r1 r2 =>
  cases r2 with
  |cons r3 r4=>cases r4;exact⟨_,_,rfl,r1,r3⟩
theorem CD:fM X (.builtin "abs") (λxs H Q=>∃i,xs=[.int i]/\Q (.int (if i<0 then -i else i)) H):=by
 intro pins s σ H xs us Q I r h;obtain⟨i,rfl,q⟩:=h;obtain⟨u,rfl,t,rfl⟩:=vals1 r;exact call_abs_int λu tk=>⟨.int (if i<0 then -i else i),H,I.tok _,⟨_,rfl⟩,q⟩
theorem Mf(hc:X.calm=true):fM X (.builtin "max") (λxs H Q=>∃i j,xs=[.int i,.int j]/\Q (.int (if j>i then j else i)) H):=by
 intro pins s σ H xs us Q I r h;obtain⟨i,j,rfl,q⟩:=h;obtain⟨u,w',rfl,⟨t,rfl⟩,⟨t',rfl⟩⟩:=vals2 r;refine max_two_ints (I.ok.hd hc) λh' tk k=>⟨_,H,I.kept k,?_,q⟩
 by_cases hj:j>i
 ·rw[if_pos hj,if_pos hj];exact⟨_,rfl⟩
 ·rw[if_neg hj,if_neg hj];exact⟨_,rfl⟩
theorem Me(hc:X.calm=true):fM X (.builtin "min") (λxs H Q=>∃i j,xs=[.int i,.int j]/\Q (.int (if j<i then j else i)) H):=by
 intro pins s σ H xs us Q I r h;obtain⟨i,j,rfl,q⟩:=h;obtain⟨u,w',rfl,⟨t,rfl⟩,⟨t',rfl⟩⟩:=vals2 r;refine min_two_ints (I.ok.hd hc) λh' tk k=>⟨_,H,I.kept k,?_,q⟩
 by_cases hj:j<i
 ·rw[if_pos hj,if_pos hj];exact⟨_,rfl⟩
 ·rw[if_neg hj,if_neg hj];exact⟨_,rfl⟩
theorem zm:fM X (.type "int") (λxs H Q=>(∃i,xs=[.int i]/\Q (.int i) H)\/∃k,xs=[.bl k]/\Q (.int (if k then 1 else 0)) H):=by
 intro pins s σ H xs us Q I r h;rcases h with ⟨i,rfl,q⟩|⟨k,rfl,q⟩
 ·obtain⟨u,rfl,t,rfl⟩:=vals1 r;exact call_int_int ⟨.int i,H,I,⟨_,rfl⟩,q⟩
 ·obtain⟨u,rfl,r1⟩:=vals1 r;cases r1;exact call_int_bool ⟨.int (if k then 1 else 0),H,I.tok _,⟨_,rfl⟩,q⟩
end
end L2
namespace L2
open PySem PySem.Spec PyProof.Rows
structure aav(h:Heap)(x dx C:Addr)(mA:aZ):Prop where
 obj:h.get? x=some (PySem.W.instObj C dx)
 ns:h.Ns1 dx mA
 ne:dx≠x
section
variable {prog:aE}{w:World}{A:aD}{E:aw}{s:Shared}{K:ao}{x dx C f:Addr}{mA:aZ}{name:Str}{v:Value}
end
theorem l8.some_of{v:V}{o:Option Value}(r:l8 (some v) o):∃u,o=some u/\RelV v u:=by
 cases o with
 |none=>exact(show False from r).elim
 |some u=>exact⟨u,rfl,r⟩
theorem l8.none_of{o:Option Value}(r:l8 none o):o=none:=by
 cases o with
 |none=>rfl
 |some u=>exact(show False from r).elim
section
variable {P:aE}{w:World}{H H':Hp}{h h':Heap}{a C dx:Addr}{fs Z1:List (Str×V)}
end
structure Cls(K:ao)(C:Addr):Prop where
 pg:PySem.W.plainGet K C Str.empty=true
 hd:PySem.W.hasDictIn K C=true
 po:PySem.W.plainOver K C=true
 sa:PySem.W.findIn K (.ref C) "__setattr__" = some (some (.builtin "object.__setattr__"))
structure Con(K:ao)(C:Addr)(f:Str)(v:V)(u:Value):Prop where
 at_:PySem.W.findIn K (.ref C) f=some (some u)
 rel:RelV v u
 get:PySem.W.specialIn K u "__get__" = some none
 cp:PySem.W.copiedNames.contains f=false
structure Meth(K:ao)(C:Addr)(m:Str)(f:Addr):Prop where
 at_:PySem.W.findIn K (.ref C) m=some (some (.ref f))
 fn:PySem.W.isFn K (.ref f)=true
 kp:PySem.W.keepIn K (.ref f)=true
section
variable {X:Cx}{pins:aj}{σ:St}{H:Hp}{s:Shared}{a C dx:Addr}{fs:List (Str×V)}{f:Str}{v:V}{A:aD}{E:aw}
end
section
variable {X:Cx}{o e value:Expr}{f:Str}{pos pos' X8:Pos}{ta tv:TE}
end
section
variable {X:Cx}{pins:aj}{σ:St}{H:Hp}{s:Shared}{A:aD}{E:aw}{Q:aw}{c:Value}{b:Bool}
inductive n5(K:ao)(H:Hp):V->Value->Prop where
 |cj:n5 K H .cj (.type "NoneType")
 |bl (x:Bool):n5 K H (.bl x) (.type "bool")
 |int (i:Int):n5 K H (.int i) (.type "int")
 |str (x:Str):n5 K H (.str x) (.type "str")
 |Pu (x:UInt64):n5 K H (.Pu x) (.type "float")
 |lst {a:Addr} {xs:ae} (e:H a=some (.lst xs)):n5 K H (.ref a) (.type "list")
 |g_ {a:Addr} {o:Obj} {xs:ae} (e:H a=some (.g_ o (.lst xs))):n5 K H (.ref a) (.type "list")
 |tup {a:Addr} {xs:ae} (e:H a=some (.tup xs)):n5 K H (.ref a) (.type "tuple")
 |dK {a:Addr} {nj:List (Key×V)} (e:H a=some (.dK nj)):n5 K H (.ref a) (.type "dict")
 |dT {a:Addr} {nj:List (List Key×V)} (e:H a=some (.dT nj)):n5 K H (.ref a) (.type "dict")
 |ins {a C dx:Addr} {fs:List (Str×V)} (e:H a=some (.ins C dx fs)) (cl:Cls K C) (ha:PySem.W.findIn K (.ref C) "__class__" = some (some (.builtin "object.__class__")))
   (hn:PySem.W.specialIn K (.builtin "object.__class__") "__get__" = some (some (.builtin "getset_descriptor.__get__"))) (htk:PySem.W.takesIn K (.builtin "object.__class__")=some true)
   (hm:PySem.W.mroIn K C (.type "object")=some true):n5 K H (.ref a) (.ref C)
end
end L2
namespace L2
open PySem PySem.Spec PyProof.Rows
structure fU(k:Nat)(A:aD):Prop where
 hd:A.handled=none
 dp:A.depth+3*k+5<recursionLimit
 un:A.units+16*k+200<cLine
variable {A:aD}
theorem fU.mono{j k:Nat}(r:fU k A)(h:j<=k):fU j A:=⟨r.hd,by have:=r.dp;left,by have:=r.un;left⟩
theorem fU.deeper{k:Nat}{A:aD}(r:fU (k+1) A)(env:Env):fU k (A.deeper env) :=
 ⟨r.hd,by have:=r.dp;show A.depth+1+3*k+5<_;left,by have:=r.un;show A.units+3+16*k+200<_;left⟩
theorem fU.depth{k:Nat}{A:aD}(r:fU k A):A.depth<recursionLimit:=by have:=r.dp;left
theorem fU.units{k:Nat}{A:aD}(r:fU k A):A.units+64<cLine:=by have:=r.un;left
noncomputable def HX:TA:=λ_ H Q=>Q [] H
noncomputable def Ad(ta:TE)(tr:TA):TA:=λσ H Q=>ta σ H λx H1=>tr σ H1 λxs H2=>Q (x::xs) H2
section
variable {X:Cx}{e:Expr}{es:av}{te:TE}{t:TA}{pos:Pos}
theorem dR:PA X [] HX:=λ_ _ _ _ H Q I h=>abF ⟨[],H,I,.nil,h⟩
theorem cA(ha:PE X e te)(hr:PA X es t)(hs:starEach (e::es) X.env=(false,eval e X.env)::starEach es X.env:=by rfl):PA X (e::es) (Ad te t):=by
 intro pos pins s σ H Q I h;rw[hs];show wpAny _ _ (spliced ((false,eval e X.env)::backTo pos (starEach es X.env))) _ _ s;refine abx (cS (ha pins s σ H _ I h) λu s1 bL=>?_);obtain⟨x,H1,I1,r1,q1⟩:=bL;exact cS (hr pos pins s1 σ H1 _ I1 q1) λus s2 ⟨xs,H2,I2,r2,q2⟩=>⟨x::xs,H2,I2,.cons r1 r2,q2⟩
def RU(t:TA):TE:=λσ H Q=>t σ H λxs H1=>xs.length<=sizeLine/\∀p,H1 p=none->Q (.ref p) (upd H1 p (.tup xs))
def RZ(t:TA):TE:=λσ H Q=>t σ H λxs H1=>xs.length<=sizeLine/\∀p,H1 p=none->Q (.ref p) (upd H1 p (.lst xs))
theorem AN{x1}(h:PA X es t):PE X (.Tuple es x1 pos) (RU t):=by
 intro pins s σ H Q I hq;refine wpAny_Tuple_spliced (cS (h pos pins s σ H _ I hq) λus s1 ⟨xs,H1,I1,r,z,q⟩=>⟨by rw[<- r.length];exact z,?_⟩);have hf:H1 s1.heap.objs.size=none:=I1.cM.fresh (aam _);refine⟨.ref s1.heap.objs.size,upd H1 s1.heap.objs.size (.tup xs),I1.laid (t':=s1.toks) (λb u e=>aaj _ e) (aam _) ?_,rfl,q _ hf⟩;exact⟨z,us,r,⟨_,aat _ rfl,rfl,_,rfl⟩⟩
theorem AR(h:PA X es t):PE X (.List es pos) (RZ t):=by
 intro pins s σ H Q I hq;refine wpAny_List_spliced (cS (h pos pins s σ H _ I hq) λus s1 ⟨xs,H1,I1,r,z,q⟩=>⟨by rw[<- r.length];exact z,?_⟩);have hf:H1 s1.heap.objs.size=none:=I1.cM.fresh (aam _);refine⟨.ref s1.heap.objs.size,upd H1 s1.heap.objs.size (.lst xs),I1.laid (t':=s1.toks) (λb u e=>aaj _ e) (aam _) ?_,rfl,q _ hf⟩;exact⟨z,us,0,r,aat _ rfl⟩
end
noncomputable abbrev Sp:=ae->Hp->VK->XK->Prop
noncomputable abbrev zH:=List Env->Hp->Shared->XK->aw
structure Gq(P:aE)(w:World)(K:ao)(mg:aZ)(base:Heap)(A:aD)(outer:List Env)(s:Shared)(H:Hp):Prop where
 frames:A.frames=some outer
 mod:Mod K mg base
 bs:∀b o,base.get? b=some o->s.heap.get? b=some o/\H b=none
 Hs:base.objs.size<=s.heap.objs.size
 l6:s.heap.FunFrames base outer
 Ma:∀b∈zD outer,H b=none
 cM:lq P w H s.heap
 bare:AllBare s.gens
def CE(outer:List Env)(P:aE)(w:World)(H:Hp)(s:Shared)(Q:VK)(u:Value)(s':Shared):Prop :=
 ∃v H',s'.os=s.os/\AllBare s'.gens/\Un (zD outer) [] H H' s.heap s'.heap/\lq P w H' s'.heap/\RelV v u/\Q v H'
noncomputable def CR(CX:zH)(outer:List Env)(P:aE)(w:World)(H:Hp)(s:Shared)(Q:VK)(E:XK)(r:Result)(s':Shared):Prop :=
 match r with
 |.ok (.ret u)=>CE outer P w H s Q u s'
 |.ok _=>False
 |.error e=>CX outer H s E e s'
structure jd(P:aE)(w:World)(K:ao)(mg:aZ)(base:Heap)(CX:zH)(k:Nat)(f:Addr)(fd:FuncData)(ps:aq)(sp:Sp):Prop where
 len:∀vs H Q E,sp vs H Q E->vs.length=ps.length
 run:∀(A:aD) (outer:List Env) (s:Shared) (H:Hp) (args:Args) (us:ak) (vs:ae) (Q:VK) (E:XK),fU k A->Gq P w K mg base A outer s H->BindsTo s fd args (ps.zip us)->Vals vs us->sp vs H Q E ->
  codeAny (model P w) A (.call (.ref f) args) (CR CX outer P w H s Q E) s
theorem jd.mono{P:aE}{w:World}{K:ao}{mg:aZ}{base:Heap}{CX:zH}{j k:Nat}{f:Addr}{fd:FuncData}{ps:aq}{sp:Sp}(F:jd P w K mg base CX j f fd ps sp)(h:j<=k):
  jd P w K mg base CX k f fd ps sp:=⟨F.len,λA outer s H args us vs Q E hr=>F.run A outer s H args us vs Q E (hr.mono h)⟩
variable {Q:VK}
section
variable {X:Cx}{pins:aj}{σ:St}{H:Hp}{s s':Shared}
theorem Inv.Vp(I:Inv X pins σ H s):Gq X.prog X.w X.K X.mg X.base X.A X.stack s H :=
 ⟨I.ok.frames,I.ok.mod,I.bs,aaG I.ok.Hs I.sz,I.stack,I.we,I.cM,I.bare⟩
theorem Inv.after{u:Value}(I:Inv X pins σ H s)(h:CE X.stack X.prog X.w H s Q u s'):EP X pins σ Q u s':=by
 obtain⟨v,H',os,bare,un,cM,r,q⟩:=h;obtain⟨hh,g,d,t,Td⟩:=s';obtain rfl:Td=s.os:=os;exact⟨v,H',I.call (h':=hh) (g':=g) (d':=d) (t':=t) (ch:=[]) un cM bare (λb z=>absurd z (by simp)),r,q⟩
end
noncomputable def MN(sp:Sp)(fm:ae)(E:XK)(t:TA):TE:=λσ H Q=>t σ H λvs H1=>sp (vs++fm) H1 Q E
noncomputable def Binds(K:ao)(fd:FuncData)(ps:aq)(ds:ak):Prop :=
 ∀(s:Shared) (us:ak),K.In s.heap->(us++ds).length=ps.length->BindsTo s fd ⟨us,[]⟩ (ps.zip (us++ds))
variable {K:ao}{N ps:aq}
theorem Binds.all{fd:FuncData}(h:∀us:ak,us.length=ps.length->bindArgs fd ⟨us,[]⟩=pure (ps.zip us)):Binds K fd ps []:=λs us _ hl=>by
 rw[List.append_nil]at hl ⊢;exact .of_eq (h us hl)
def Passes(CX:zH)(X:Cx)(E:XK):Prop:=∀(pins:aj) (σ:St) (H:Hp) (s:Shared) (e:Value) (s':Shared),Inv X pins σ H s->CX X.stack H s E e s'->X.xe e s'
variable {H:Hp}{us:ak}{vs:ae}
section
variable {X:Cx}{CX:zH}{k:Nat}{f C:Addr}{fd:FuncData}{ps:aq}{sp:Sp}{fm:ae}{ds:ak}{E:XK}{x m:Str}{p pos apos:Pos}{e o:Expr}{es:av}{ta:TE}{t:TA}
theorem Iz{pins:aj}{σ:St}{s:Shared}(F:jd X.prog X.w X.K X.mg X.base CX k f fd ps sp)(hr:fU k X.A)(hb:Binds X.K fd ps ds)(hd:Vals fm ds)(hx:Passes CX X E)
  (I:Inv X pins σ H s) (r:Vals vs us) (h:sp (vs++fm) H Q E):wpAny (model X.prog X.w) X.A (call (.ref f) us) (EP X pins σ Q) X.xe s:=by
 have r2:Vals (vs++fm) (us++ds):=r.append hd;have hl:(us++ds).length=ps.length:=by rw[<- r2.length];exact F.len _ _ _ _ h
 refine wpAny_call (abS (F.run X.A X.stack s H ⟨us,[]⟩ (us++ds) (vs++fm) Q E hr I.Vp (hb s us I.yG hl) r2 h) λr s' hq=>?_);cases r with
 |error e=>exact hx pins σ H s e s' I hq
 |ok fl =>
  cases fl with
  |ret u=>exact I.after hq
  |next=>exact False.elim hq
  |brk=>exact False.elim hq
  |cont=>exact False.elim hq
theorem Eu(F:jd X.prog X.w X.K X.mg X.base CX k f fd ps sp)(hr:fU k X.A)(hg:Gl X x)(hm:X.mg x=some (.ref f))(hk:PySem.W.keepIn X.K (.ref f)=true)(hb:Binds X.K fd ps ds)(hd:Vals fm ds)(hx:Passes CX X E)
  (ha:PA X (e::es) t) (J9:(x==("__debug__" : Str))=false:=by decide) (he:starEach (e::es) X.env=(false,eval e X.env)::starEach es X.env:=by rfl) (hpl:(backTo pos (starEach es X.env)).any (·.1)=false:=by rfl) :
  PE X (.Call (.Name x p) (e::es) [] pos) (MN sp fm E t):=by
 intro pins s σ H Q I h;refine aa1 (xa I hg hm ?_ J9);refine PySem.W.callWith_K (h₀:=X.base) I.ok.mod.Tz hk (cS (ha pos pins s σ H _ I h) λus s1 ⟨vs,H1,I1,r,q⟩=>⟨I1.yG,?_⟩) he hpl;exact Iz F hr hb hd hx I1 r q
structure Mk(K:ao)(C f:Addr):Prop where
 makes:PySem.W.makesIn K C=true
 init:PySem.W.findIn K (.ref C) "__init__" = some (some (.ref f))
 fn:PySem.W.isFn K (.ref f)=true
 kp:PySem.W.keepIn K (.ref C)=true
end
section
variable {X:Cx}{CX:zH}{k:Nat}{f C:Addr}{fd:FuncData}{ps ks:aq}{sp:Sp}{E:XK}{x m:Str}{p pos apos YH:Pos}{e o:Expr}{es:av}{kws:List Keyword}{te ta:TE}{t tk:TA}{nm:Option Str}
structure VT(K:ao)(fd:FuncData)(ps ks:aq)(g:ak->ak->ak)(gV:ae->ae->ae):Prop where
 to:∀(s:Shared) (us ws:ak),K.In s.heap->(g us ws).length=ps.length->BindsTo s fd ⟨us,ks.zip ws⟩ (ps.zip (g us ws))
 rel:∀{vs:ae} {us:ak} {zs:ae} {ws:ak},Vals vs us->Vals zs ws->Vals (gV vs zs) (g us ws)
variable {g:ak->ak->ak}{gV:ae->ae->ae}
end
structure i8(N P:aq)(sc:Scope):Prop where
 kind:sc.kind=.function
 co:sc.isCoroutine=false
 gen:sc.isGenerator=false
 nd:N.Nodup
 pre:N.take P.length=P
 par:∀x∈P,sc.names.lookup x=some .local\/sc.names.lookup x=some .cell
 Jq:∀y∈sc.names,y.2≠.free
theorem pT{kindOf:Str->Option NameKind}{x:Str}:∀{binds:List (Str×Value)} {m:aZ},(∀v,(x,v)∉binds)->bindL kindOf binds m x=m x
 |[],_,_=>rfl
 | (n,v)::r,m,h=>by
  unfold bindL;rw[pT λw hw=>h w (List.mem_cons_of_mem _ hw)];split
  ·have:x≠n:=by rintro rfl;exact h v aai
   simp[this]
  ·rfl
theorem pV{kindOf:Str->Option NameKind}{x:Str}:∀{binds:List (Str×Value)} {m:aZ},(∀v,(x,v)∉binds)->bindC kindOf binds m x=m x
 |[],_,_=>rfl
 | (n,v)::r,m,h=>by
  unfold bindC;rw[pV λw hw=>h w (List.mem_cons_of_mem _ hw)];split
  ·rfl
  ·have:x≠n:=by rintro rfl;exact h v aai
   simp[this]
theorem pU{kindOf:Str->Option NameKind}{x:Str}{v:Value}:∀{P:aq} {vs:ak} {i:Nat} {m:aZ},P.Nodup->P[i]?=some x->vs[i]?=some v->kindOf x=some .local ->
  bindL kindOf (P.zip vs) m x=some v
 |[],_,_,_,_,h,_,_=>by simp at h
 |_::_,[],_,_,_,_,h,_=>by simp at h
 |p::P,w::vs,0,m,nd,h1,h2,hk=>by
  simp at h1 h2;subst h1;subst h2;show bindL kindOf ((p,w)::P.zip vs) m p=_;unfold bindL;rw[pT λv hv=>(List.nodup_cons.mp nd).1 (List.of_mem_zip hv).1,if_pos hk];simp
 |p::P,w::vs,i+1,m,nd,h1,h2,hk=>by
  show bindL kindOf ((p,w)::P.zip vs) m x=_;unfold bindL;exact pU (i:=i) (List.nodup_cons.mp nd).2 (by simpa using h1) (by simpa using h2) hk
theorem pW{kindOf:Str->Option NameKind}{x:Str}{v:Value}:∀{P:aq} {vs:ak} {i:Nat} {m:aZ},P.Nodup->P[i]?=some x->vs[i]?=some v->kindOf x≠some .local ->
  bindC kindOf (P.zip vs) m x=some v
 |[],_,_,_,_,h,_,_=>by simp at h
 |_::_,[],_,_,_,_,h,_=>by simp at h
 |p::P,w::vs,0,m,nd,h1,h2,hk=>by
  simp at h1 h2;subst h1;subst h2;show bindC kindOf ((p,w)::P.zip vs) m p=_;unfold bindC;rw[pV λv hv=>(List.nodup_cons.mp nd).1 (List.of_mem_zip hv).1,if_neg hk];simp
 |p::P,w::vs,i+1,m,nd,h1,h2,hk=>by
  show bindC kindOf ((p,w)::P.zip vs) m x=_;unfold bindC;exact pW (i:=i) (List.nodup_cons.mp nd).2 (by simpa using h1) (by simpa using h2) hk
noncomputable def start(N:aq)(vs:ae):St:=vs.map some++List.replicate (N.length - vs.length) none
noncomputable def vK(CX:zH)(P:aE)(w:World)(K:ao)(mg:aZ)(base:Heap)(N:aq)(qual:Str)(scope:Scope)(f:Addr)(cd:Value)(A:aD)(outer:List Env)(s:Shared)(H:Hp)(E:XK):Cx where
 prog:=P
 w:=w
 K:=K
 mg:=mg
 base:=base
 A:=A.deeper (envOfC qual scope s.heap.objs.size f cd)
 N:=N
 s₀:=s
 H₀:=H
 env:=envOfC qual scope s.heap.objs.size f cd
 outer:=outer
 stack:=envOfC qual scope s.heap.objs.size f cd::outer
 ex:=[]
 calm:=true
 fn:=λ_=>true
 pn:=[]
 xe:=λe s'=>wpAny (model P w) (A.deeper (envOfC qual scope s.heap.objs.size f cd)) (leaving (envOfC qual scope s.heap.objs.size f cd) e) (λ_ Sw=>CX outer H s E e Sw) (λe' Sw=>CX outer H s E e' Sw) s'
theorem uh{sc:Scope}{n:Nat}{x:Str}(h:sc.names.lookup x=some .cell):∃c,(cellsFrom n sc.names []).lookup x=some c:=by
 have q:=PySem.W.cellsFrom_some sc.names n [] (.inl h);exact Option.isSome_iff_exists.mp q
variable {P:aE}{base:Heap}{mg:Str->Option Value}{qual:Str}{scope:Scope}{w:World}
theorem yL{CX:zH}{f:Addr}{cd:Value}{outer:List Env}{s s1:Shared}{E:XK}  
  (S:i8 N ps scope) (hd:A.handled=none) (e0:Gq P w K mg base A outer s H) (hl:vs.length=ps.length) (r:Vals vs us)
  (x:InCallC s s.heap.objs.size (bindL (envOfC qual scope s.heap.objs.size f cd).kindOf (ps.zip us) λ_=>none) (cellsFrom (s.heap.objs.size+1) scope.names []) (bindC (envOfC qual scope s.heap.objs.size f cd).kindOf (ps.zip us) λ_=>none) s1) :
  Inv (vK CX P w K mg base N qual scope f cd A outer s H E) [] (start N vs) H s1:=by
 have hpl:ps.length<=N.length:=by have:=aaU List.length S.pre;rw[List.length_take]at this;left
 obtain⟨h1,tk,rfl,hk⟩:=x.done;have NR:∀b:Addr,b∉(vK CX P w K mg base N qual scope f cd A outer s H E).ex:=λb z=>absurd (show b∈([]:aN) from z) (by simp);refine⟨⟨e0.mod,S.kind,rfl,rfl,aam _,λy z c h1 h2=>?_,λy hy=>?_,λy c _ h=>?_,λ_=>hd,Around.frames_deeper e0.frames,.inr ⟨rfl,rfl⟩,λb z=>absurd z (NR b),e0.bs,e0.Hs,λb _ _=>NR b,λb z=>absurd z (NR b),e0.l6,e0.Ma⟩,
  rfl,e0.bare,Un.kept hk,⟨_,x.toInCall.ns,λi y v h1 h2 h3=>?_⟩,λy c h=>⟨_,x.cell y c h⟩,e0.cM.fresh (aam _),λy c h=>?_,λp hp=>absurd (show p∈([]:aj) from hp) (by simp),e0.cM.kept hk,?_⟩
 ·exact name_of_addr x.apart (aa6 h1) (aa6 h2)
 ·have hy:scope.names.lookup y=some .cell\/scope.names.lookup y=some .free:=hy;rcases hy with hy|hy
  ·exact uh hy
  ·exact absurd rfl (S.Jq _ (aa6 hy))
 ·exact ack (x.above y c (aa6 h))
 ·have hi:i<vs.length:=by
   unfold start at h2;by_cases hi:i<vs.length
   ·exact hi
   ·rw[List.getElem?_append_right (by simpa using hi)]at h2;rw[List.getElem?_replicate]at h2;split at h2<;>cases h2
  have ha:vs[i]?=some v:=by
   unfold start at h2;rw[List.getElem?_append_left (by simpa using hi),List.getElem?_map]at h2;cases e:vs[i]? with
   |none=>rw[e]at h2;cases h2
   |some a=>rw[e]at h2;cases h2;rfl
  obtain⟨u,hu,rv⟩:=r.get ha;have hp:ps[i]?=some y:=by
   rw[<- S.pre,List.getElem?_take_of_lt (by left)];exact h1
  have Wm:ps.Nodup:=by rw[<- S.pre];exact S.nd.sublist (List.take_sublist _ _)
  refine⟨u,rv,?_⟩;rcases S.par y (aaD hp)with k|k
  ·exact .inl ⟨k,pU Wm hp hu k⟩
  ·obtain⟨c,e⟩:=uh (n:=s.heap.objs.size+1) k;refine .inr ⟨.inl k,c,e,?_⟩;have q:=x.cell y c e;rw[pW Wm hp hu (by show scope.names.lookup y≠_;rw[k];decide)]at q;exact q
 ·exact e0.cM.fresh (ack (x.above y c (aa6 h)))
 ·unfold start;show _=N.length;rw[List.length_append,List.length_map,List.length_replicate];left
theorem Pq{CX:zH}{k:Nat}{f:Addr}{name:Str}{params:Arguments}{body:br}{dV kV doc pm jk ct oc:Value}{an od:Option Addr}
  {C1:Array (Option Value)} {sp:Sp} (lk:K.lookup f=some ⟨oc,od,.func (PySem.W.fnOf name qual params body scope dV kV doc pm an jk ct),C1⟩) (yR:PySem.W.codeIn K jk qual=true) (S:i8 N ps scope)
  (len:∀vs H Q E,sp vs H Q E->vs.length=ps.length)
  (BS:∀(A:aD) (outer:List Env) (s:Shared) (H:Hp) (vs:ae) (Q:VK) (E:XK),fU k (A.deeper (envOfC qual scope s.heap.objs.size f jk))->sp vs H Q E ->
   ∃t,mL (vK CX P w K mg base N qual scope f jk A outer s H E) body t/\t { nx:=λ_ H'=>Q .cj H',rt:=Q } (start N vs) H) :
  jd P w K mg base CX (k+1) f (PySem.W.fnOf name qual params body scope dV kV doc pm an jk ct) ps sp:=by
 refine⟨len,λA outer s H args us vs Q E hr e0 hb r C5=>?_⟩;have hl:=len _ _ _ _ C5;have KX:K.In s.heap:=e0.mod.Tz.keeps λb o e=>(e0.bs b o e).1;have lim:s.heap.NoLimit:=e0.mod.nolimit.keeps λb o e=>(e0.bs b o e).1;have OO:∀y∈ps.zip us,scope.names.lookup y.1=some .local\/(scope.names.lookup y.1=some .cell/\((cellsFrom (s.heap.objs.size+1) scope.names []).lookup y.1).isSome=true):=λ⟨n,v⟩ hy=>by
  rcases S.par n (aaO hy).1 with q|q
  ·exact .inl q
  ·exact .inr ⟨q,PySem.W.cellsFrom_some _ _ _ (.inl q)⟩
 refine codeAny_call_function hr.depth (KX _ _ lk) rfl S.co S.gen rfl (PySem.W.codeRec_of KX yR) (hb _ _ _ _ ?_);refine wpAny_newFunctionEnv_cells S.kind OO λenv he s1 x=>?_;subst he;refine⟨lim.keeps x.toInCall.keep,codeAny_func ?_⟩;obtain⟨t,ht,hq⟩:=BS A outer s H vs Q E (hr.deeper _) C5;have I:Inv (vK CX P w K mg base N qual scope f jk A outer s H E) [] (start N vs) H s1:=yL S hr.hd e0 hl r x;refine aaF (ht [] s1 (start N vs) H _ I hq) (λfl s' hs=>?_) λe s' hs=>hs;have fin:∀{σ':St} {H':Hp} {v:V} {u:Value},Inv (vK CX P w K mg base N qual scope f jk A outer s H E) [] σ' H' s'->RelV v u->Q v H'->CE outer P w H s Q u s' :=
  λ{σ' H' v u} J rv q=>⟨v,H',J.os,J.bare,J.base,J.cM,rv,q⟩
 cases fl with
 |ret u =>
  obtain⟨v,σ',H',J,rv,q⟩:=hs;exact fin J rv q
 |next =>
  obtain⟨σ',H',J,q⟩:=hs;exact fin (v:=V.cj) (u:=Value.none) J rfl q
 |brk =>
  obtain⟨_,_,_,q⟩:=hs;exact False.elim q
 |cont =>
  obtain⟨_,_,_,q⟩:=hs;exact False.elim q
end L2
namespace L2
open PySem PySem.Spec PyProof.Rows
section
variable {X:Cx}{x:Str}{p pos:Pos}{e:Expr}{es:av}{t:TA}{id T:String}{r:ae->Hp->VK->Prop}
noncomputable def MO(r:ae->Hp->VK->Prop)(t:TA):TE:=λσ H Q=>t σ H λvs H1=>r vs H1 Q
theorem fe(hc:fM X (.builtin id) r)(hg:Gl X x)(hm:X.mg x=none)(hv:bootBuiltins x=some (.builtin id))(ha:PA X (e::es) t)(hn:x ≠ "__name__":=by decide)(J9:(x==("__debug__" : Str))=false:=by decide)
  (he:starEach (e::es) X.env=(false,eval e X.env)::starEach es X.env:=by rfl) (hpl:(backTo pos (starEach es X.env)).any (·.1)=false:=by rfl):PE X (.Call (.Name x p) (e::es) [] pos) (MO r t):=by
 intro pins s σ H Q I h;refine aa1 (dS I hg hm hv ?_ hn J9);exact PyProof.Rows.callWith_builtin1 (cS (ha pos pins s σ H _ I h) λus s1 ⟨vs,H1,I1,r1,q1⟩=>hc pins s1 σ H1 vs us Q I1 r1 q1) he hpl
theorem k0(hc:fM X (.type T) r)(hg:Gl X x)(hm:X.mg x=none)(hv:bootBuiltins x=some (.type T))(ha:PA X (e::es) t)(hn:x ≠ "__name__":=by decide)(J9:(x==("__debug__" : Str))=false:=by decide)
  (he:starEach (e::es) X.env=(false,eval e X.env)::starEach es X.env:=by rfl) (hpl:(backTo pos (starEach es X.env)).any (·.1)=false:=by rfl):PE X (.Call (.Name x p) (e::es) [] pos) (MO r t):=by
 intro pins s σ H Q I h;refine aa1 (dS I hg hm hv ?_ hn J9);exact aaB (cS (ha pos pins s σ H _ I h) λus s1 ⟨vs,H1,I1,r1,q1⟩=>hc pins s1 σ H1 vs us Q I1 r1 q1) he hpl
end
end L2
namespace HT
open PySem PyProof.Rows
noncomputable def lexLt:aa->aa->Bool
 |[],[]=>false
 |[],_::_=>true
 |_::_,[]=>false
 |x::xs,y::ys=>if x=y then lexLt xs ys else decide (x<y)
theorem dq(x y:Int)(xs ys:aa):lexLt (x::xs) (y::ys)=if x=y then lexLt xs ys else decide (x<y):=rfl
theorem jh:lexLt [] []=false:=rfl
theorem nh(y:Int)(ys:aa):lexLt [] (y::ys)=true:=rfl
theorem cP(x:Int)(xs:aa):lexLt (x::xs) []=false:=rfl
theorem tY(A:aD)(s:Shared)(a:Int)(t:Tok)(c:Int)(u:Tok):∃e,SeqAt.EqAt A s (.int a t) (.int c u) e/\(e=true ↔ a=c) :=
 ⟨(a==c),aby a t c u,by simp⟩
theorem Aw(A:aD)(s:Shared)(a:Int)(t:Tok)(c:Int)(u:Tok)(prog:aE)(w:World)(E:aw)(Q:aw)(h:Q (.bool (decide (a<c))) s):
  wpAny (model prog w) A (richCompare .Lt (.int a t) (.int c u)) Q E s :=
 (PyProof.Rows.lt_int h:wpAny (model prog w) A (compareOp .Lt (.int a t) (.int c u)) Q E s)
section
open PySem.SeqAt
open PySem.AutoSeq1 (wpAny_loadPart')
open PySem.MeetsSeq PySem.MeetsSeq2 PySem.MeetsSeq3
theorem jf(l b:Addr)(items dg:aM)(n n2:Nat)(dd xP:Option Addr)(sl wu:Array (Option Value))(ns ms:aa)(hi:IntsAre items.toList ns)(hj:IntsAre dg.toList ms):
  Meets (Builtin.«tuple.__lt__» ⟨[.ref l,.ref b],[]⟩)
   (λ_ R s=>s.heap.get? l=some { cls:=.type "tuple",dict:=dd,data:=.seq items n,slots:=sl }/\s.heap.get? b=some { cls:=.type "tuple",dict:=xP,data:=.seq dg n2,slots:=wu } /\
    R (.ok (.ret (.bool (lexLt ns ms)))) s) :=
 .of_wp λprog w A R s h=>by
  obtain⟨hp,g,d,tk,os⟩:=s;obtain⟨hl,hb,h⟩:=h;have f2:=AutoSeq1.sub_tuple_tuple;have z1:items.size=ns.length:=by rw[<- hi.length];simp
  have z2:dg.size=ms.length:=by rw[<- hj.length];simp
  wp_walk using wpAny_loadPart' hl,wpAny_loadPart' hb,wpAny_forIn_list _ (λrest b s'=>b.1=none/\s'=⟨hp,g,d,tk,os⟩/\∃(vs ws:ak) (kK zA:aa),rest=vs.zip ws /\
   IntsAre vs kK/\IntsAre ws zA/\kK.length+dg.size=zA.length+items.size/\R (.ok (.ret (.bool (lexLt kK zA)))) ⟨hp,g,d,tk,os⟩) _
  case turn =>
   rintro ⟨y,x⟩ rest b s' ⟨oI,rfl,vs,ws,kK,zA,hz,JW,G_,hlen,hR⟩;cases JW with
   |nil=>rw[List.zip_nil_left]at hz;cases hz
   |cons a t hvi' =>
    cases G_ with
    |nil=>rw[List.zip_nil_right]at hz;cases hz
    |cons c u hwi' =>
     rw[List.zip_cons_cons]at hz;injection hz with T9 BK
     injection T9 with hy hx
     subst hy hx;rw[dq]at hR;simp only[List.length_cons]at hlen;obtain⟨e,he,BP⟩:=tY A.in1 ⟨hp,g,d,tk,os⟩ a t c u;refine aaa (he prog w _ _ ?_);cases e with
     |true =>
      rw[if_pos (BP.mp rfl)]at hR
      wp_walk
      exact⟨rfl,rfl,_,_,_,_,BK,hvi',hwi',by left,hR⟩
     |false =>
      rw[if_neg (λq=>absurd (BP.mpr q) Bool.false_ne_true)]at hR;have Uj:=Aw A.in1 ⟨hp,g,d,tk,os⟩ a t c u prog w
      wp_walk using Uj
      exact⟨_,rfl,by simpa using hR⟩
  case fin =>
   rintro ⟨b1,b2⟩ s' ⟨oI,rfl,vs,ws,kK,zA,hz,JW,G_,hlen,hR⟩;simp only at oI;subst oI;have hv:lexLt kK zA=decide (items.size<dg.size):=by
    cases JW with
    |nil =>
     cases G_ with
     |nil =>
      simp only[List.length_nil]at hlen;rw[jh];exact(aa3 (by left)).symm
     |cons c u hw =>
      simp only[List.length_nil,List.length_cons]at hlen;rw[nh];exact(abc (by left)).symm
    |cons a t hv =>
     cases G_ with
     |nil =>
      simp only[List.length_nil,List.length_cons]at hlen;rw[cP];exact(aa3 (by left)).symm
     |cons c u hw =>
      rw[List.zip_cons_cons]at hz;cases hz
   rw[hv]at hR
   wp_walk
   exact⟨_,rfl,by simpa [Builtin.Tuple.tupleCompareSizes]using hR⟩
  case h =>
   exact⟨rfl,rfl,items.toList,dg.toList,ns,ms,rfl,hi,hj,by left,h⟩
end
variable {Q:Value->Shared->Prop}
section
variable {prog:aE}{w:World}{A:aD}{E:aw}{s:Shared}
theorem vf{l b:Addr}{items dg:aM}{ns ms:aa}(hl:IsTup s.heap l items)(hb:IsTup s.heap b dg)(hi:IntsAre items.toList ns)(hj:IntsAre dg.toList ms)
  (hu:A.units<cLine) (h:Q (.bool (lexLt ns ms)) s):wpAny (model prog w) A (compareOp .Lt (.ref l) (.ref b)) Q E s:=by
 obtain⟨⟨cls,dd,data,sl⟩,ho,hc,n,hd⟩:=id hl;obtain⟨⟨F2,xP,data2,wu⟩,qC,hc2,n2,hd2⟩:=id hb;simp only at hc hd hc2 hd2;subst hc hd hc2 hd2;exact richCompare_meets_room (op:=.Lt) ⟨_,ho,rfl⟩ ⟨_,qC,rfl⟩ abO PySem.F.entry_tuple_lt (PySem.F.args_tuple_lt_2 _ _) (jf l b items dg n n2 dd xP sl wu ns ms hi hj)
  ⟨ho,qC,show Value.bool (lexLt ns ms)≠Value.notImplemented/\Q (.bool (lexLt ns ms)) s from⟨(λx=>nomatch x),h⟩⟩ hu
theorem F4{t b:Addr}{vs ws:ak}(ht:IsTup s.heap t vs.toArray)(hb:IsTup s.heap b ws.toArray)(hv:vs≠[])
  (h1:ws=[]->Q (.ref t) s) (h2:ws≠[]->Q (.ref s.heap.objs.size) { s with heap:=s.heap.push { cls:=.type "tuple",data:=.seq (vs++ws).toArray } })
  (hsz:vs.length+ws.length<=sizeLine):wpAny (model prog w) A (binaryOp .Add (.ref t) (.ref b)) Q E s:=by
 obtain⟨⟨cls,dd,data,sl⟩,ho,hc,n,hd⟩:=id ht;obtain⟨⟨F2,xP,data2,wu⟩,qC,hc2,n2,hd2⟩:=id hb;simp only at hc hd hc2 hd2;subst hc hd hc2 hd2;have e:vs.toArray++ws.toArray=(vs++ws).toArray:=by simp
 by_cases hw:ws=[]
 ·exact concat_meets ⟨_,ho,rfl⟩ ⟨_,qC,rfl⟩ noFill_tuple_add seq_tuple_add abH abD (abz _ _)
   (tuple_addW1 t b vs.toArray ws.toArray n n2 dd xP sl wu (by simpa using hv) (by simp[hw])) ⟨ho,qC,h1 hw⟩
 ·refine concat_meets ⟨_,ho,rfl⟩ ⟨_,qC,rfl⟩ noFill_tuple_add seq_tuple_add abH abD (abz _ _)
   (tuple_addW2 t b vs.toArray ws.toArray n n2 dd xP sl wu (by simpa using hv) (by simpa using hw) (by rw[List.size_toArray,List.size_toArray];exact hsz)) ⟨ho,qC,?_⟩
  rw[e];exact h2 hw
noncomputable def uX(n d:Nat):Option Int->Nat
 |none=>d
 |some v=>if v<0 then(v+(n:Int)).toNat else min v.toNat n
end
end HT
namespace L2
open PySem PySem.Spec PyProof.Rows
noncomputable abbrev TO:=St->Hp->(Option Int->Hp->Prop)->Prop
noncomputable def PO(X:Cx)(e:Option Expr)(t:TO):Prop :=
 ∀(pins:aj) (s:Shared) (σ:St) (H:Hp) (Q:Option Int->Hp->Prop),Inv X pins σ H s->t σ H Q ->
  wpAny (model X.prog X.w) X.A (evalPart e X.env) (λu s'=>∃o H',Inv X pins σ H' s'/\IsPart u o/\Q o H') X.xe s
noncomputable def DQ:TO:=λ_ H Q=>Q none H
noncomputable def MI(t:TE):TO:=λσ H Q=>t σ H λx H1=>∃i,x=.int i/\Q (some i) H1
theorem intsAre_of{ns:aa}:∀{us:ak},Vals (ns.map V.int) us->IntsAre us ns:=by
 induction ns with
 |nil=>intro us r;rw[List.map_nil]at r;cases r;exact .nil
 |cons n ns ih =>
  intro us r;rw[List.map_cons]at r;cases r with
  |cons r1 r2 =>
   obtain⟨t,e⟩:=r1;subst e;exact .cons n t (ih r2)
section
variable {X:Cx}{e:Expr}{te:TE}{lo hi:Option Expr}{tl th:TO}{pos p2:Pos}
theorem wH:PO X none DQ:=by
 intro pins s σ H Q I h;rw[evalPart_none];exact aab ⟨none,H,I,.none,h⟩
theorem wG(h:PE X e te):PO X (some e) (MI te):=by
 intro pins s σ H Q I hw;rw[evalPart_some];refine cS (h pins s σ H _ I hw) λu s1 bL=>?_;obtain⟨x,H1,I1,r1,q1⟩:=bL;obtain⟨i,rfl,q⟩:=q1;obtain⟨t,rfl⟩:=r1;exact⟨some i,H1,I1,.int i t,q⟩
def VP(X:Cx)(r:V->Option Int->Option Int->Hp->VK->Prop):Prop :=
 ∀(pins:aj) (s:Shared) (σ:St) (H:Hp) (x:V) (v vl vu:Value) (lo hi:Option Int) (sl:Addr) (Q:VK),Inv X pins σ H s->RelV x v->s.heap.IsSliceOf sl vl vu .none->IsPart vl lo->IsPart vu hi->r x lo hi H Q ->
  ∃T id,typeLookup (.type T) "__getitem__" = pure (some (.builtin id))/\s.TypeIs v T/\wpAny (model X.prog X.w) X.A (getItem v (.ref sl)) (EP X pins σ Q) X.xe s
noncomputable def X_(r:V->Option Int->Option Int->Hp->VK->Prop)(te:TE)(tl th:TO):TE:=λσ H Q=>te σ H λx H1=>tl σ H1 λl H2=>th σ H2 λu H3=>r x l u H3 Q
theorem AO{r:V->Option Int->Option Int->Hp->VK->Prop}(hr:VP X r)(he:PE X e te)(hl:PO X lo tl)(hu:PO X hi th):PE X (.Subscript e (.Slice lo hi none p2) pos) (X_ r te tl th):=by
 intro pins s σ H Q I h;refine Subscript_ (cS (he pins s σ H _ I h) λv s1 bL=>?_);obtain⟨x,H1,I1,r1,q1⟩:=bL;refine wpAny_Slice (cS (hl pins s1 σ H1 _ I1 q1) λvl s2 ⟨l,H2,I2,pl,q2⟩=>cS (hu pins s2 σ H2 _ I2 q2) λvu s3 bL=>?_);obtain⟨u,H3,I3,pu,q3⟩:=bL;rw[evalPart_none];refine aab ?_;have I4:Inv X pins σ H3 { s3 with heap:=s3.heap.push { cls:=.type "slice",data:=.fields #[vl,vu,.none] } }:=I3.kept (t':=s3.toks) λb ob q=>aaj _ q;obtain⟨T,id,hT,ht,hg⟩:=hr pins { s3 with heap:=s3.heap.push { cls:=.type "slice",data:=.fields #[vl,vu,.none] } } σ H3 x v vl vu l u s3.heap.objs.size Q I4 r1 (Heap.IsSliceOf.new ..) pl pu q3;show wpAny (model X.prog X.w) X.A (subscriptTail e (.Slice lo hi none p2) v (.ref s3.heap.objs.size)) (EP X pins σ Q) X.xe { s3 with heap:=s3.heap.push { cls:=.type "slice",data:=.fields #[vl,vu,.none] } };exact tail_any (ops:=[.ref s3.heap.objs.size,v]) ht hT hg (by with_unfolding_all rfl)
def FZ(xs:ae)(lo hi:Option Int):ae:=(xs.drop (HT.uX xs.length 0 lo)).take (HT.uX xs.length xs.length hi - HT.uX xs.length 0 lo)
theorem t_(xs:ae)(lo hi:Option Int):(FZ xs lo hi).length<=xs.length:=by
 unfold FZ;rw[List.length_take,List.length_drop];left
def Nf(K:ao):R2:=λx y H Q=>∃a b xs ys,x=.ref a/\y=.ref b/\aU K H a xs/\aU K H b ys/\xs≠[]/\xs.length+ys.length<=sizeLine /\
 (ys=[]->Q (.ref a) H)/\(ys≠[]->∀p,H p=none->Q (.ref p) (upd H p (.tup (xs++ys))))
theorem Vals.qr{xs:ae}{us:ak}(r:Vals xs us):us=[] ↔ xs=[]:=by
 cases r with
 |nil=>simp
 |cons _ _=>simp
theorem EC:jF X (binaryOp .Add) (Nf X.K):=by
 intro pins s σ H x y v u Q I rx ry h;obtain⟨a,b,xs,ys,rfl,rfl,ha,hb,hx,hz,q1,q2⟩:=h;cases rx;cases ry;obtain⟨aI,r1,p1,_⟩:=I.tuple ha;obtain⟨vk,r2,p2,_⟩:=I.tuple hb;refine HT.F4 p1 p2 (λz=>hx (r1.qr.mp z)) (λz=>⟨.ref a,H,I,rfl,q1 (r2.qr.mp z)⟩) (λz=>?_) (by rw[<- r1.length,<- r2.length];exact hz);refine⟨.ref s.heap.objs.size,_,I.laid (t':=s.toks) (o:=.tup (xs++ys)) (λb ob q=>aaj _ q) (aam _) ?_,rfl,q2 (λw=>z (r2.qr.mpr w)) _ (I.cM.fresh (aam _))⟩;exact⟨by rw[List.length_append];exact hz,_,r1.append r2,IsTup.new _ _⟩
end
end L2
namespace L2
open PySem PySem.Spec PyProof.Rows
noncomputable def tF(n:Nat)(i:Int):Option Nat:=if 0<=i then(if i<n then some i.toNat else none)else if -(n:Int)<=i then some (i+n).toNat else none
def Mh{α:Type}(xs:List α)(i:Int):Option α:=(tF xs.length i).bind λj=>xs[j]?
theorem qB{n:Nat}{i:Int}{j:Nat}(h:tF n i=some j):seqIndex? i n=some j/\j<n /\ -(n:Int)<=i/\i<n:=by
 unfold tF at h;by_cases h0:0<=i
 ·rw[if_pos h0]at h;by_cases h1:i<n
  ·rw[if_pos h1]at h;have e:i.toNat=j:=aax h;exact⟨by rw[seqIndex_of h0 h1,e],by left,by left,h1⟩
  ·rw[if_neg h1]at h;cases h
 ·rw[if_neg h0]at h;by_cases h1:-(n:Int)<=i
  ·rw[if_pos h1]at h;have e:(i+n).toNat=j:=aax h;exact⟨by rw[seqIndex_neg (by left) h1,e],by left,h1,by left⟩
  ·rw[if_neg h1]at h;cases h
theorem x6{α:Type}{xs:List α}{i:Int}{v:α}(h:Mh xs i=some v):∃j,seqIndex? i xs.length=some j/\xs[j]?=some v/\j<xs.length /\ -(xs.length:Int)<=i/\i<xs.length:=by
 unfold Mh at h;cases e:tF xs.length i with
 |none=>rw[e]at h;cases h
 |some j =>
  rw[e]at h;obtain⟨h1,h2,h3,h4⟩:=qB e;exact⟨j,h1,h,h2,h3,h4⟩
def mK(b:Expr):Prop:=∀o i,subscripted b false o i=operate [o,i] (getItem o i)
def Gm(X:Cx)(r:R2):Prop :=
 ∀(value slice:Expr) (pins:aj) (s:Shared) (σ:St) (H:Hp) (x y:V) (v u:Value) (Q:VK),Inv X pins σ H s->RelV x v->RelV y u->r x y H Q ->
  subscripted slice false v u=operate [v,u] (getItem v u)->wpAny (model X.prog X.w) X.A (subscriptTail value slice v u) (EP X pins σ Q) X.xe s
def VR(X:Cx)(id:String)(r:V->ae->Hp->VK->Prop):Prop :=
 ∀(pins:aj) (s:Shared) (σ:St) (H:Hp) (x:V) (xs:ae) (v:Value) (us:ak) (Q:VK),Inv X pins σ H s->RelV x v->Vals xs us->r x xs H Q ->
  wpAny (model X.prog X.w) X.A (call (.builtin id) (v::us)) (EP X pins σ Q) X.xe s
variable {H:Hp}{σ:L2.St}
section
variable {X:Cx}{a b:Expr}{ta tb:TE}{pos:Pos}
theorem Gm.or{r r':R2}(h:Gm X r)(h':Gm X r'):Gm X (λx y H Q=>r x y H Q\/r' x y H Q):=by
 intro value slice pins s σ H x y v u Q I rx ry q hs;rcases q with q|q
 ·exact h value slice pins s σ H x y v u Q I rx ry q hs
 ·exact h' value slice pins s σ H x y v u Q I rx ry q hs
theorem AS{r:R2}(hr:Gm X r)(ha:PE X a ta)(hb:PE X b tb)(hs:mK b):PE X (.Subscript a b pos) (GD r ta tb):=by
 intro pins s σ H Q I h;exact Subscript_ (Ls ha hb I h λv u s2 x y H2 I2 rx ry q=>hr a b pins s2 σ H2 x y v u Q I2 rx ry q (hs _ _))
def SQ(K:ao):R2:=λx y H Q=>∃p xs i v,x=.ref p/\y=.int i/\dh K H p xs/\Mh xs i=some v/\Q v H
def SN(K:ao):R2:=λx y H Q=>∃p xs i v,x=.ref p/\y=.int i/\aU K H p xs/\Mh xs i=some v/\Q v H
theorem EW:Gm X (SQ X.K):=by
 intro value slice pins s σ H x y v u Q I rx ry h hs;obtain⟨p,xs,i,z,rfl,rfl,hq,he,q⟩:=h;cases rx;obtain⟨t,rfl⟩:=ry;obtain⟨aI,r,pl,hz⟩:=I.list hq;obtain⟨j,h1,h2,h3,h4,h5⟩:=x6 he;obtain⟨w,ew,j5⟩:=r.get h2;have hl:=r.length;have hn:=qz;have fin:EP X pins σ Q w s:=⟨z,H,I,j5,q⟩
 by_cases h0:0<=i
 ·have hj:i.toNat=j:=by
   rw[seqIndex_of h0 h5]at h1;exact aax h1
  exact item_listR pl.isList h0 (by left) (by rw[hj];simpa using ew) fin hs
 ·have hj:(i+(aI.toArray.size:Int)).toNat=j:=by
   rw[seqIndex_neg (by left) h4]at h1;rw[List.size_toArray,<- hl];exact aax h1
  exact abi (x:=w) pl.isList.typeIs slot_list_getitem.lookup
   (wpAny_getItem_list_neg (Q:=λr s'=>r=w/\EP X pins σ Q r s') pl.isList (by left) (by rw[List.size_toArray]<;>omega) (by left) (by rw[hj];simpa using ew) ⟨rfl,fin⟩) hs
theorem JK:Gm X (SN X.K):=by
 intro value slice pins s σ H x y v u Q I rx ry h hs;obtain⟨p,xs,i,z,rfl,rfl,hq,he,q⟩:=h;cases rx;obtain⟨t,rfl⟩:=ry;obtain⟨aI,r,pl,hz⟩:=I.tuple hq;obtain⟨j,h1,h2,h3,h4,h5⟩:=x6 he;obtain⟨w,ew,j5⟩:=r.get h2;have hl:=r.length;have hn:=qz;have fin:EP X pins σ Q w s:=⟨z,H,I,j5,q⟩
 exact abi (x:=w) pl.typeIs slot_tuple_getitem.lookup
  (getItem_tuple (j:=j) (Q:=λr s'=>r=w/\EP X pins σ Q r s') pl (by left) (by left) (by rw[List.size_toArray,<- hl];exact h1) (by simpa using ew) ⟨rfl,fin⟩) hs
theorem vd(aI:ak)(n j:Nat)(u:Value):Obj.mapSeq (·.setIfInBounds j u) { cls:=.type "list",data:=.seq aI.toArray n }={ cls:=.type "list",data:=.seq (aI.set j u).toArray n }:=by
 simp[Obj.mapSeq]
theorem Inv.lst{pins:aj}{σ:St}{H:Hp}{s:Shared}{p:Addr}{xs:ae}(I:Inv X pins σ H s)(h:H p=some (.lst xs)):
  ∃(aI:ak) (n:Nat),Vals xs aI/\s.heap.get? p=some { cls:=.type "list",data:=.seq aI.toArray n }/\xs.length<=sizeLine:=by
 obtain⟨z,aI,n,r,e⟩:=I.cM p _ h;exact⟨aI,n,r,e,z⟩
theorem Inv.Jz{pins:aj}{s:Shared}{p:Addr}{xs ys:ae}{aI its':ak}{n n':Nat}{f:Obj->Obj}(I:Inv X pins σ H s)(h:H p=some (.lst xs))
  (ho:s.heap.get? p=some { cls:=.type "list",data:=.seq aI.toArray n }) (hf:f { cls:=.type "list",data:=.seq aI.toArray n }={ cls:=.type "list",data:=.seq its'.toArray n' }) (r:Vals ys its') (hz:ys.length<=sizeLine) (t:Nat) :
  Inv X pins σ (upd H p (.lst ys)) { s with heap:=s.heap.update p f,toks:=t }:=by
 have e:(s.heap.update p f).get? p=some { cls:=.type "list",data:=.seq its'.toArray n' }:=by
  rw[Heap.get?_update_self f ho (by rw[hf]<;>rfl),hf]
 refine I.write (x:=p) (e:=p) (by rw[h];trivial) (.inl rfl) (λb u hb q=>(aaT _ _ (aaK hb)).trans q) ⟨_,e⟩ ?_;exact⟨hz,its',n',r,e⟩
def Na:V->V->V->Hp->(Hp->Prop)->Prop:=λo i v H Q=>∃p xs k j,o=.ref p/\i=.int k/\H p=some (.lst xs)/\tF xs.length k=some j/\Q (upd H p (.lst (xs.set j v)))
theorem set_list:Ql X Na:=by
 intro pins s σ H o i v ov iv u Q I ro ri rv h;obtain⟨p,xs,k,j,rfl,rfl,hp,hj,q⟩:=h;cases ro;obtain⟨t,rfl⟩:=ri;obtain⟨aI,n,r,ho,hz⟩:=I.lst hp;obtain⟨h1,h2,h3,h4⟩:=qB hj;have hl:=r.length;have hn:=qz;have I':Inv X pins σ (upd H p (.lst (xs.set j v))) { s with heap:=s.heap.update p (Obj.mapSeq (·.setIfInBounds j u)) } :=
  I.Jz hp ho (vd aI n j u) (r.set rv j) (by rw[List.length_set];exact hz) s.toks
 by_cases h0:0<=k
 ·have hk:k.toNat=j:=by
   rw[seqIndex_of h0 h4]at h1;exact aax h1
  exact PySem.W.ki_setAt ho h0 (by left) (by rw[List.size_toArray,<- hl];exact h4) (by rw[hk];exact⟨_,I',q⟩)
 ·have hk:(k+(aI.toArray.size:Int)).toNat=j:=by
   rw[seqIndex_neg (by left) h3]at h1;rw[List.size_toArray,<- hl];exact aax h1
  exact PySem.W.ki_setBack ho (by left) (by rw[List.size_toArray,<- hl];exact h3) (by left) (by rw[hk];exact⟨_,I',q⟩)
theorem qa(lo hi:Option Int)(n:Nat):(sliceBounds lo hi none n).1=((HT.uX n 0 lo:Nat):Int)/\(sliceBounds lo hi none n).2.1=((HT.uX n n hi:Nat):Int)/\(sliceBounds lo hi none n).2.2=1:=by
 refine⟨?_,?_,rfl⟩
 ·cases lo with
  |none=>simp[sliceBounds,HT.uX]
  |some i =>
   simp only[sliceBounds,HT.uX,Option.getD_none,show(1:Int)>0 by decide,if_true];by_cases h:i<0
   ·simp only[h,if_true]<;>left
   ·simp only[h,if_false]<;>left
 ·cases hi with
  |none=>simp[sliceBounds,HT.uX]
  |some i =>
   simp only[sliceBounds,HT.uX,Option.getD_none,show(1:Int)>0 by decide,if_true];by_cases h:i<0
   ·simp only[h,if_true]<;>left
   ·simp only[h,if_false]<;>left
theorem oA(aI:ak)(lo hi:Option Int):slicePick aI.toArray lo hi none=((aI.drop (HT.uX aI.length 0 lo)).take (HT.uX aI.length aI.length hi - HT.uX aI.length 0 lo)).toArray:=by
 obtain⟨h1,h2,h3⟩:=qa lo hi aI.toArray.size;unfold slicePick;rw[h1,h2,h3];simp only[sliceRange_one,pick_run,List.size_toArray]<;>rfl
def SJ(K:ao):V->Option Int->Option Int->Hp->VK->Prop:=λx lo hi H Q=>∃a xs,x=.ref a/\dh K H a xs/\∀p,H p=none->Q (.ref p) (upd H p (.lst (FZ xs lo hi)))
theorem wt:VP X (SJ X.K):=by
 intro pins s σ H x v vl vu lo hi sl Q I rx hs pl pu h;obtain⟨a,xs,rfl,hx,q⟩:=h;cases rx;obtain⟨aI,r,ht,hz⟩:=I.list hx;have hlen:=r.length;refine⟨"list",_,slot_list_getitem.lookup,ht.isList.typeIs,?_⟩;refine wpAny_getItem_list_slice ht.isList hs pl pu .none (by simp) ?_ (by rw[List.size_toArray]<;>omega);rw[oA,<- hlen];refine⟨.ref s.heap.objs.size,_,I.laid (t':=s.toks) (o:=.lst (FZ xs lo hi)) (λb ob q=>aaj _ q) (aam _) ?_,rfl,q _ (I.cM.fresh (aam _))⟩;exact⟨aaG (t_ xs lo hi) hz,_,0,(r.drop (HT.uX xs.length 0 lo)).take (HT.uX xs.length xs.length hi - HT.uX xs.length 0 lo),aat _ rfl⟩
noncomputable def iz:V->Bool
 |.cj=>true
 |.bl _=>true
 |.int _=>true
 |.str _=>true
 |_=>false
noncomputable def De:V->V->Bool
 |.cj,.cj=>true
 |.bl a,.bl b=>a==b
 |.bl a,.int b=>(if a then 1 else 0)==b
 |.int a,.bl b=>a==(if b then 1 else 0)
 |.int a,.int b=>a==b
 |.str a,.str b=>a==b
 |_,_=>false
theorem K6{A:aD}{s:Shared}{y x:V}{u v:Value}(ry:RelV y u)(rx:RelV x v)(fy:iz y=true)(fx:iz x=true):SeqAt.EqAt A s u v (De y x):=by
 cases y with
 |cj =>
  cases ry;cases x with
  |cj=>cases rx;exact abt _
  |bl b=>cases rx;exact abT b
  |int b=>obtain⟨t,rfl⟩:=rx;exact ab1 b t
  |str b=>obtain⟨t,rfl⟩:=rx;exact SeqAt.EqAt.none_str b t
  |_=>exact absurd (show false=true from fx) aah
 |bl a =>
  cases ry;cases x with
  |cj=>cases rx;exact abU a
  |bl b=>cases rx;exact abV a b
  |int b=>obtain⟨t,rfl⟩:=rx;exact ab2 a b t
  |str b=>obtain⟨t,rfl⟩:=rx;exact SeqAt.EqAt.bool_str a b t
  |_=>exact absurd (show false=true from fx) aah
 |int a =>
  obtain⟨t',rfl⟩:=ry;cases x with
  |cj=>cases rx;exact ab3 a t'
  |bl b=>cases rx;exact ab4 a t' b
  |int b=>obtain⟨t,rfl⟩:=rx;exact aby a t' b t
  |str b=>obtain⟨t,rfl⟩:=rx;exact SeqAt.EqAt.int_str a t' b t
  |_=>exact absurd (show false=true from fx) aah
 |str a =>
  obtain⟨t',rfl⟩:=ry;cases x with
  |cj=>cases rx;exact SeqAt.EqAt.str_none a t'
  |bl b=>cases rx;exact SeqAt.EqAt.str_bool a t' b
  |int b=>obtain⟨t,rfl⟩:=rx;exact SeqAt.EqAt.str_int a t' b t
  |str b=>obtain⟨t,rfl⟩:=rx;exact SeqAt.EqAt.str_str a t' b t
  |_=>exact absurd (show false=true from fx) aah
 |_=>exact absurd (show false=true from fy) aah
def vE(x:V)(u:Value):Bool:=match u with
 |.none=>De .cj x
 |.bool b=>De (.bl b) x
 |.int i _=>De (.int i) x
 |.str z _=>De (.str z) x
 |_=>false
theorem Cd{x y:V}{u:Value}(r:RelV y u)(f:iz y=true):vE x u=De y x:=by
 cases y with
 |cj=>cases r;rfl
 |bl b=>cases r;rfl
 |int i=>obtain⟨t,rfl⟩:=r;rfl
 |str z=>obtain⟨t,rfl⟩:=r;rfl
 |_=>exact absurd (show false=true from f) aah
theorem kF{x:V}:∀{xs:ae} {us:ak},Vals xs us->xs.all iz=true->us.any (vE x)=xs.any λy=>De y x
 |_,_,.nil,_=>rfl
 |y::xs,u::us,.cons r t,f=>by
  rw[List.all_cons,Bool.and_eq_true]at f;rw[List.any_cons,List.any_cons,Cd r f.1,kF t f.2]
theorem il{A:aD}{s:Shared}{x:V}{v:Value}(rx:RelV x v)(fx:iz x=true):∀{xs:ae} {us:ak},Vals xs us->xs.all iz=true->∀u∈us,SeqAt.EqAt A s u v (vE x u)
 |_,_,.nil,_=>λu hu=>by cases hu
 |y::xs,u::us,.cons r t,f=>λu' hu=>by
  rw[List.all_cons,Bool.and_eq_true]at f;rcases List.mem_cons.mp hu with rfl|hu
  ·rw[Cd r f.1];exact K6 r rx f.1 fx
  ·exact il rx fx t f.2 u' hu
def QX(x:V)(xs:ae):Bool:=xs.any λy=>De y x
def SS(K:ao)(neg:Bool):R2:=λx y H Q=>∃p xs,y=.ref p/\(dh K H p xs\/aU K H p xs)/\iz x=true/\xs.all iz=true/\Q (.bl (if neg then !QX x xs else QX x xs)) H
theorem yC:jF X (compareOp .In) (SS X.K false):=by
 intro pins s σ H x y v u Q I rx ry h;obtain⟨p,xs,rfl,hq,fx,fs,q⟩:=h;cases ry;rcases hq with hq|hq
 ·obtain⟨aI,r,pl,hz⟩:=I.list hq;refine SeqAt.in_listAt (vE x) pl.isList (λw hw=>il rx fx r fs w (by simpa using hw)) ⟨.bl _,H,I,rfl,?_⟩;rw[show aI.toArray.any (vE x)=aI.any (vE x) by simp,kF r fs];exact q
 ·obtain⟨aI,r,pl,hz⟩:=I.tuple hq;refine SeqAt.in_tupleAt (vE x) pl (λw hw=>il rx fx r fs w (by simpa using hw)) ⟨.bl _,H,I,rfl,?_⟩;rw[show aI.toArray.any (vE x)=aI.any (vE x) by simp,kF r fs];exact q
theorem EA:jF X (compareOp .NotIn) (SS X.K true):=by
 intro pins s σ H x y v u Q I rx ry h;obtain⟨p,xs,rfl,hq,fx,fs,q⟩:=h;cases ry;rcases hq with hq|hq
 ·obtain⟨aI,r,pl,hz⟩:=I.list hq;refine SeqAt.notIn_listAt (vE x) pl.isList (λw hw=>il rx fx r fs w (by simpa using hw)) ⟨.bl _,H,I,rfl,?_⟩;rw[show aI.toArray.any (vE x)=aI.any (vE x) by simp,kF r fs];exact q
 ·obtain⟨aI,r,pl,hz⟩:=I.tuple hq;refine SeqAt.notIn_tupleAt (vE x) pl (λw hw=>il rx fx r fs w (by simpa using hw)) ⟨.bl _,H,I,rfl,?_⟩;rw[show aI.toArray.any (vE x)=aI.any (vE x) by simp,kF r fs];exact q
theorem qZ:fM X (.builtin "len") (λxs H Q=>∃p ys,xs=[.ref p]/\(dh X.K H p ys\/aU X.K H p ys)/\Q (.int ys.length) H):=by
 intro pins s σ H xs us Q I r h;obtain⟨p,ys,rfl,hq,q⟩:=h;obtain⟨u,rfl,rx⟩:=vals1 r;cases rx;have hn:=qz;rcases hq with hq|hq
 ·obtain⟨aI,r',pl,hz⟩:=I.list hq;have hlen:=r'.length;exact Calls.call_len_list pl.isList (by simp only[List.size_toArray]<;>omega) ⟨.int ys.length,H,I.tok _,⟨s.toks+1,by rw[List.size_toArray,hlen]⟩,q⟩
 ·obtain⟨aI,r',pl,hz⟩:=I.tuple hq;have hlen:=r'.length;exact len_tuple pl (by simp only[List.size_toArray]<;>omega) ⟨.int ys.length,H,I.tok _,⟨s.toks+1,by rw[List.size_toArray,hlen]⟩,q⟩
theorem qY:fM X (.type "list") (λxs H Q=>∃p ys,xs=[.ref p]/\(dh X.K H p ys\/aU X.K H p ys)/\∀l,H l=none->Q (.ref l) (upd H l (.lst ys))):=by
 intro pins s σ H xs us Q I r h;obtain⟨p,ys,rfl,hq,q⟩:=h;obtain⟨u,rfl,rx⟩:=vals1 r;cases rx;have fin:∀(aI:ak),Vals ys aI->ys.length<=sizeLine->∀(h':Heap) (c':Nat),(∀b o',s.heap.get? b=some o'->h'.get? b=some o') ->
   h'.get? s.heap.objs.size=some { cls:=.type "list",dict:=none,data:=.seq aI.toArray c',slots:=#[] }->EP X pins σ Q (.ref s.heap.objs.size) { s with heap:=h' }:=λaI r' hz h' c' kp e =>
  ⟨.ref s.heap.objs.size,_,I.laid (t':=s.toks) kp (aam _) (show cy X.prog X.w _ h' _ (.lst ys) from⟨hz,aI,c',r',e⟩),rfl,q _ (I.cM.fresh (aam _))⟩
 rcases hq with hq|hq
 ·obtain⟨aI,r',pl,hz⟩:=I.list hq;have hlen:=r'.length;obtain⟨o,ho,hc,n,hd⟩:=pl.isList;exact call_list_seq p (.inl rfl) ho hc hd (λh' c' kp e=>fin aI r' hz h' c' kp e) (by simp only[List.size_toArray]<;>omega)
 ·obtain⟨aI,r',pl,hz⟩:=I.tuple hq;have hlen:=r'.length;obtain⟨o,ho,hc,n,hd⟩:=pl;exact call_list_seq p (.inr rfl) ho hc hd (λh' c' kp e=>fin aI r' hz h' c' kp e) (by simp only[List.size_toArray]<;>omega)
theorem oP:fM X (.type "tuple") (λxs H Q=>∃p ys,xs=[.ref p]/\((dh X.K H p ys/\∀l,H l=none->Q (.ref l) (upd H l (.tup ys)))\/(aU X.K H p ys/\Q (.ref p) H))):=by
 intro pins s σ H xs us Q I r h;obtain⟨p,ys,rfl,h⟩:=h;obtain⟨u,rfl,rx⟩:=vals1 r;cases rx;rcases h with ⟨hq,q⟩|⟨hq,q⟩
 ·obtain⟨aI,r',pl,hz⟩:=I.list hq;have hlen:=r'.length;refine call_tuple_list pl.isList (λh' kp=>?_) (by simp only[List.size_toArray]<;>omega);have I1:Inv X pins σ H { s with heap:=h' }:=I.kept (t':=s.toks) kp;have I2:Inv X pins σ (upd H h'.objs.size (.tup ys)) { s with heap:=h'.push { cls:=.type "tuple",data:=.seq aI.toArray } } :=
   I1.laid (t':=s.toks) (λb o e=>aaj _ e) (aam _) (show cy X.prog X.w _ _ _ (.tup ys) from⟨hz,aI,r',IsTup.new _ _⟩)
  exact⟨.ref h'.objs.size,_,I2,rfl,q _ (I1.cM.fresh (aam _))⟩
 ·obtain⟨aI,r',pl,hz⟩:=I.tuple hq;exact call_tuple_same pl ⟨.ref p,H,I,rfl,q⟩
def Qp(K:ao)(T:String)(x:V)(H:Hp):Prop:=match x with
 |.str _=>T = "str"
 |.int _=>T = "int"
 |.ref p=>(T = "list" /\ ∃xs,dh K H p xs)\/(T = "tuple" /\ ∃o,K.lookup p=some o/\o.cls=.type "tuple" /\ o.dict=none) \/
   (T = "dict" /\ ((∃nj,H p=some (.dK nj))\/∃nj,H p=some (.dT nj)))\/(T = "set" /\ ∃S n,H p=some (.set S n))
 |_=>False
theorem zZ{pins:aj}{s:Shared}{T:String}{x:V}{v:Value}(I:Inv X pins σ H s)(r:RelV x v)(ty:Qp X.K T x H):
  s.TypeIs v T/\∀a,v=.ref a->∃ob,s.heap.get? a=some ob/\ob.dict=none:=by
 cases x with
 |str z =>
  obtain⟨t,rfl⟩:=r;cases (show T = "str" from ty);exact⟨typeIs_str s z t,λ_ e=>nomatch e⟩
 |int i =>
  obtain⟨t,rfl⟩:=r;cases (show T = "int" from ty);exact⟨typeIs_int s i t,λ_ e=>nomatch e⟩
 |ref p =>
  cases r;rcases ty with ⟨rfl,xs,hq⟩|⟨rfl,o,hk,hc,hd⟩|⟨rfl,hk⟩|⟨rfl,S,n,hk⟩
  ·obtain⟨aI,_,pl,_⟩:=I.list hq;refine⟨pl.isList.typeIs,λa e=>?_⟩;cases e;obtain⟨o,n,e,c,hd,_⟩:=pl;exact⟨o,e,hd⟩
  ·refine⟨⟨o,I.yG p o hk,hc⟩,λa e=>?_⟩;cases e;exact⟨o,I.yG _ o hk,hd⟩
  ·have z:∃o,s.heap.get? p=some o/\o.ExactDict:=by
    rcases hk with ⟨nj,hk⟩|⟨nj,hk⟩
    ·obtain⟨_,_,_,_,o,_,_,e,ex,_⟩:=I.cM p _ hk;exact⟨o,e,ex⟩
    ·obtain⟨_,_,_,_,o,_,_,e,ex,_⟩:=I.cM p _ hk;exact⟨o,e,ex⟩
   obtain⟨o,e,ex⟩:=z;refine⟨⟨o,e,ex.1⟩,λa e2=>?_⟩;cases e2;exact⟨o,e,ex.2.1⟩
  ·obtain⟨o,_,_,_,e,ex,_⟩:=I.cM p _ hk;refine⟨⟨o,e,ex.1⟩,λa e2=>?_⟩;cases e2;exact⟨o,e,ex.2.1⟩
 |_=>exact False.elim ty
def R6(K:ao)(T:String)(r:V->ae->Hp->VK->Prop)(to:TE):TE:=λσ H Q=>to σ H λx H1=>Qp K T x H1/\r x [] H1 Q
def Yd(K:ao)(T:String)(r:V->ae->Hp->VK->Prop)(to:TE)(t:TA):TE:=λσ H Q=>to σ H λx H1=>Qp K T x H1/\t σ H1 λxs H2=>r x xs H2 Q
variable {o e:Expr}{es:av}{to:TE}{t:TA}{name:Str}{apos qS:Pos}{T id:String}{r:V->ae->Hp->VK->Prop}
theorem S_(pa:PlainAttrs T)(slot:Slot T name id)(Ug:typeOf (.builtin id)=pure (.type "method_descriptor"))(hm:VR X id r)(ho:PE X o to)
  (BU:attributeBase o name X.env (eval o X.env)=eval o X.env:=by rfl) (hline:(apos.endLine==qS.line)=true:=by rfl):PE X (.Call (.Attribute o name apos) [] [] qS) (R6 X.K T r to):=by
 intro pins s σ H Q I h;refine wpAny_Call_method0_late BU hline (cS (ho pins s σ H _ I h) λv s1 bL=>?_);obtain⟨x,H1,I1,r1,ty,q1⟩:=bL;obtain⟨h1,h2⟩:=zZ I1 r1 ty;exact⟨T,id,pa,slot,Ug,h1,h2,abj rfl (PySem.evalArgs_none (hm pins s1 σ H1 x [] v [] Q I1 r1 .nil q1))⟩
theorem AU(pa:PlainAttrs T)(slot:Slot T name id)(Ug:typeOf (.builtin id)=pure (.type "method_descriptor"))(hm:VR X id r)(ho:PE X o to)(ha:PA X (e::es) t)
  (BU:attributeBase o name X.env (eval o X.env)=eval o X.env:=by rfl)
  (hfew:((backTo qS (starEach (e::es) X.env)).all (λx=>!x.1)&&(backToKw qS (keywordEach [] X.env)).all (λx=>x.1.isSome)
   && decide ((e::es).length+([]:List Keyword).length+(if ([]:List Keyword).isEmpty then 0 else 1)<30))=true:=by rfl)
  (hline:(apos.endLine==qS.line)=true:=by rfl) (hs:starEach (e::es) X.env=(false,eval e X.env)::starEach es X.env:=by rfl) (J1:(backTo qS (starEach es X.env)).any (·.1)=false:=by rfl) :
  PE X (.Call (.Attribute o name apos) (e::es) [] qS) (Yd X.K T r to t):=by
 intro pins s σ H Q I h;refine wpAny_Call_method_late BU hfew hline rfl (cS (ho pins s σ H _ I h) λv s1 bL=>?_);obtain⟨x,H1,I1,r1,ty,q1⟩:=bL;obtain⟨h1,h2⟩:=zZ I1 r1 ty;refine⟨T,id,pa,slot,Ug,h1,h2,?_⟩;have hA:=ha qS pins s1 σ H1 _ I1 q1;rw[hs]at hA ⊢;refine abj (by show(false||(backTo qS (starEach es X.env)).any (·.1))=false;rw[J1]<;>rfl) (abW ?_);exact cS hA λus s2 ⟨vs,H2,I2,r2,q2⟩=>hm pins s2 σ H2 x vs v us Q I2 r1 r2 q2
/- xs.append(e),list.index on a module's tuple .. are VR facts of 06m -/
end
end L2
namespace L2
open PySem PySem.Spec PyProof.Rows
def VS(X:Cx)(id:String)(r:V->ae->Hp->VK->Prop):Prop :=
 ∀(pins:aj) (s:Shared) (σ:St) (H:Hp) (x:V) (xs:ae) (v:Value) (us:ak) (Q:VK),Inv X pins σ H s->RelV x v->Vals xs us->r x xs H Q ->
  wpAny (model X.prog X.w) X.A (call (.builtin id) (v::us)) (EP X pins σ Q) X.xe s
theorem Vals.one:∀{x:V} {us:ak},Vals [x] us->∃u,us=[u]/\RelV x u
 |_,_,.cons r .nil=>⟨_,rfl,r⟩
theorem Vals.zero:∀{us:ak},Vals [] us->us=[]
 |_,.nil=>rfl
theorem Vals.dropLast{xs:ae}{us:ak}(h:Vals xs us):Vals xs.dropLast us.dropLast:=by
 induction h with
 |nil=>exact .nil
 |cons r t ih =>
  cases t with
  |nil=>exact .nil
  |cons q t'=>exact .cons r ih
theorem Vals.eraseIdx:∀{xs:ae} {us:ak} (i:Nat),Vals xs us->Vals (xs.eraseIdx i) (us.eraseIdx i)
 |_,_,_,.nil=>.nil
 |_,_,0,.cons _ t=>t
 |_,_,i+1,.cons r t=>.cons r (Vals.eraseIdx i t)
theorem Vals.rep{xs:ae}{us:ak}(h:Vals xs us):∀k:Nat,Vals (List.replicate k xs).flatten (List.replicate k us).flatten
 |0=>.nil
 |k+1=>by
  rw[List.replicate_succ,List.replicate_succ,List.flatten_cons,List.flatten_cons];exact Vals.append h (Vals.rep h k)
theorem vz{α:Type}(l:List α):l.eraseIdx (l.length - 1)=l.dropLast:=by
 induction l with
 |nil=>rfl
 |cons a r ih =>
  cases r with
  |nil=>rfl
  |cons b r =>
   have e:(a::b::r).length - 1=((b::r).length - 1)+1:=by
    have h1:(a::b::r).length=r.length+2:=rfl;have h2:(b::r).length=r.length+1:=rfl;left
   rw[e,List.eraseIdx_cons_succ,ih]
   all_goals rfl
theorem pB{α:Type}:∀(l:List α) (i:Nat),(l.eraseIdx i).length<=l.length
 |[],_=>aam _
 |_::_,0=>ab_ _
 |_::r,i+1=>Nat.succ_le_succ (pB r i)
theorem foldl_rep(aI:ak):∀(k:Nat) (acc:ak),
  List.foldl (λx1 x2=>x1++x2) acc.toArray (List.replicate k aI.toArray)=(acc++(List.replicate k aI).flatten).toArray
 |0,acc=>by simp
 |k+1,acc=>by
  have e:acc.toArray++aI.toArray=(acc++aI).toArray:=by simp
  have e2:(acc++aI)++(List.replicate k aI).flatten=acc++(List.replicate (k+1) aI).flatten:=by
   rw[List.replicate_succ,List.flatten_cons,List.append_assoc]
  rw[<- e2,<- foldl_rep aI k (acc++aI),<- e,List.replicate_succ,List.foldl_cons]
variable {aI:ak}{t':Nat}
section
variable {X:Cx}{pins:aj}{σ:St}{H:Hp}{s:Shared}{l b:Addr}{xs ys zs:ae}
theorem Inv.j9{its':ak}{n:Nat}{f:aM->aM}(I:Inv X pins σ H s)(hH:H l=some (.lst xs))
  (e:s.heap.get? l=some { cls:=.type "list",data:=.seq aI.toArray n }) (hf:f aI.toArray=its'.toArray) (hv:Vals ys its') (hz:ys.length<=sizeLine) :
  Inv X pins σ (upd H l (.lst ys)) { s with heap:=s.heap.update l (Obj.mapSeq f),toks:=t' }:=by
 have q:=PySem.IsL.update e f;rw[hf]at q;refine I.write (x:=l) (e:=l) (by rw[hH];exact trivial) (.inl rfl) (λb' u hb hu=>(aaT s.heap (Obj.mapSeq f) (aaK hb)).trans hu) ⟨_,q⟩ ?_;exact⟨hz,its',_,hv,q⟩
theorem Inv.JD(I:Inv X pins σ H s)(hv:Vals ys aI)(hz:ys.length<=sizeLine):
  Inv X pins σ (upd H s.heap.objs.size (.lst ys)) { s with heap:=s.heap.push { cls:=.type "list",data:=.seq aI.toArray },toks:=t' } :=
 I.laid (λ_ _ q=>aaj _ q) (aam _) ⟨hz,aI,0,hv,aat _ rfl⟩
theorem Inv.fresh(I:Inv X pins σ H s):H s.heap.objs.size=none:=I.cM.fresh (aam _)
theorem Inv.yE(I:Inv X pins σ H s)(hH:H l=some (.lst xs)):xs.length<=sizeLine/\∃(aI:ak) (n:Nat),Vals xs aI/\xs.length=aI.length/\s.heap.get? l=some { cls:=.type "list",data:=.seq aI.toArray n }:=by
 obtain⟨z,aI,n,r,e⟩:=I.cM l _ hH;exact⟨z,aI,n,r,r.length,e⟩
theorem A6{n:Nat}(h:n<=sizeLine):Builtin.List.listTooLong n=false:=by
 unfold Builtin.List.listTooLong;exact aa3 (by left)
end
section
variable {X:Cx}
def wC:V->ae->Hp->VK->Prop:=λx vs H Q=>∃l xs y,x=.ref l/\vs=[y]/\H l=some (.lst xs)/\xs.length<sizeLine/\Q .cj (upd H l (.lst (xs++[y])))
theorem pw:VS X "list.append" wC:=by
 intro pins s σ H x vs v us Q I rx rv h;obtain⟨l,xs,y,rfl,rfl,hH,hz,q⟩:=h;cases rx;obtain⟨u,rfl,ru⟩:=rv.one;obtain⟨z,aI,n,r,hl,e⟩:=I.yE hH;refine abC F.slot_list_append ⟨_,e,rfl⟩ F.entry_list_append (F.args_list_append_2 _ _) (PySem.list_append l aI.toArray n u (by rw[List.size_toArray];left)) ⟨e,?_⟩;refine⟨.cj,_,I.j9 (its':=aI++[u]) hH e (by simp) (r.append (.cons ru .nil)) ?_,rfl,q⟩;rw[List.length_append,List.length_singleton];left
def SM:V->ae->Hp->VK->Prop:=λx vs H Q=>∃l xs y,x=.ref l/\vs=[]/\H l=some (.lst xs)/\xs[xs.length - 1]?=some y/\Q y (upd H l (.lst xs.dropLast))
theorem Tt:VS X "list.pop" SM:=by
 intro pins s σ H x vs v us Q I rx rv h;obtain⟨l,xs,y,rfl,rfl,hH,hy,q⟩:=h;cases rx;have YY:=rv.zero;subst YY;obtain⟨z,aI,n,r,hl,e⟩:=I.yE hH;obtain⟨u,hu,ru⟩:=r.get hy;have YT:aI.toArray[aI.toArray.size - 1]?=some u:=by
  show aI.toArray[aI.length - 1]?=some u;rw[<- Array.getElem?_toList,<- hl];exact hu
 refine abC F.slot_list_pop ⟨_,e,rfl⟩ F.entry_list_pop (F.args_list_pop_1 _) (MeetsSeq.list_pop_last l aI.toArray n u YT (by rw[List.size_toArray];left)) ⟨e,?_⟩;refine⟨y,_,I.j9 (its':=aI.dropLast) hH e ?_ r.dropLast ?_,ru,q⟩
 ·show aI.toArray.eraseIdxIfInBounds (aI.toArray.size - 1)=aI.dropLast.toArray;rw[List.size_toArray,List.eraseIdxIfInBounds_toArray,vz]
 ·rw[List.length_dropLast];left
def IC:V->ae->Hp->VK->Prop:=λx vs H Q=>∃l xs i k y,x=.ref l/\vs=[.int i]/\H l=some (.lst xs) /\ -(2 ^ 63)<=i/\i<2 ^ 63/\seqIndex? i xs.length=some k/\xs[k]?=some y/\Q y (upd H l (.lst (xs.eraseIdx k)))
theorem Bh:VS X "list.pop" IC:=by
 intro pins s σ H x vs v us Q I rx rv h;obtain⟨l,xs,i,k,y,rfl,rfl,hH,h1,h2,hk,hy,q⟩:=h;cases rx;obtain⟨u,rfl,ru⟩:=rv.one;obtain⟨t,rfl⟩:=ru;obtain⟨z,aI,n,r,hl,e⟩:=I.yE hH;obtain⟨w,hw,j5⟩:=r.get hy;refine abC F.slot_list_pop ⟨_,e,rfl⟩ F.entry_list_pop (F.args_list_pop_2 _ _)
  (MeetsSeq.list_pop_at l aI.toArray n i t k w (fitsIndex_both h1 h2) (by rw[List.size_toArray,<- hl];exact hk) (by rw[<- Array.getElem?_toList];exact hw) (by rw[List.size_toArray];left)) ⟨e,?_⟩
 refine⟨y,_,I.j9 (its':=aI.eraseIdx k) hH e ?_ (r.eraseIdx k) ?_,j5,q⟩
 ·show aI.toArray.eraseIdxIfInBounds k=(aI.eraseIdx k).toArray;rw[List.eraseIdxIfInBounds_toArray]
 ·have:=pB xs k;left
def SU:R2:=λx y H Q=>∃l b xs zs,x=.ref l/\y=.ref b/\H l=some (.lst xs)/\H b=some (.lst zs)/\xs.length+zs.length<=sizeLine/\∀p,H p=none->Q (.ref p) (upd H p (.lst (xs++zs)))
theorem Ji:jF X (binaryOp .Add) SU:=by
 intro pins s σ H x y v u Q I rx ry h;obtain⟨l,b,xs,zs,rfl,rfl,hH,hB,hz,q⟩:=h;cases rx;cases ry;obtain⟨z,aI,n,r,hl,e⟩:=I.yE hH;obtain⟨z2,vk,n2,r2,tN,e2⟩:=I.yE hB;refine PySem.P.add_list e e2 ?_ (by rw[List.size_toArray,List.size_toArray];left);have ea:aI.toArray++vk.toArray=(aI++vk).toArray:=by simp
 rw[ea];exact⟨.ref _,_,I.JD (t':=s.toks) (r.append r2) (by rw[List.length_append];left),rfl,q _ I.fresh⟩
def SK:R2:=λx y H Q=>∃l k xs,x=.ref l/\y=.int k/\H l=some (.lst xs) /\ -(2 ^ 63)<=k/\k<2 ^ 63/\xs.length*k.toNat<=sizeLine /\
 ∀p,H p=none->Q (.ref p) (upd H p (.lst (List.replicate k.toNat xs).flatten))
theorem len_rep{α:Type}(xs:List α)(k:Nat):(List.replicate k xs).flatten.length=k*xs.length:=by
 induction k with
 |zero=>simp
 |succ k ih=>rw[List.replicate_succ,List.flatten_cons,List.length_append,ih,Nat.succ_mul,Nat.add_comm]
theorem Jf:jF X (binaryOp .Mult) SK:=by
 intro pins s σ H x y v u Q I rx ry h;obtain⟨l,k,xs,rfl,rfl,hH,h1,h2,hz,q⟩:=h;cases rx;obtain⟨t,rfl⟩:=ry;obtain⟨z,aI,n,r,hl,e⟩:=I.yE hH;have hlen:aI.toArray.size*k.toNat<=sizeLine:=by rw[List.size_toArray,<- hl];exact hz
 have nE:¬ aI.toArray.size*k.toNat>(2 ^ 63 - 1) / 8:=by
  have:(sizeLine:Nat)<=(2 ^ 63 - 1) / 8:=by decide
  left
 have UK:¬ (!Builtin.List.listFitsIndex k)=true:=by
  rw[fitsIndex_both h1 h2];exact aah
 have ON:¬ Builtin.List.listTooLong (aI.toArray.size*k.toNat)=true:=by
  rw[A6 hlen];exact aah
 have J4:List.foldl (λx1 x2=>x1++x2) #[] (List.replicate (if aI.toArray.isEmpty=true then 0 else k.toNat) aI.toArray)=(List.replicate k.toNat aI).flatten.toArray:=by
  have f0:∀m:Nat,List.foldl (λx1 x2=>x1++x2) #[] (List.replicate m aI.toArray)=(List.replicate m aI).flatten.toArray:=λm=>by
   have:=foldl_rep aI m [];rw[List.nil_append]at this;exact this
  rw[f0];cases aI with
  |nil=>simp
  |cons a r'=>rw[if_neg (by simp)]
 refine wpAny_binaryOp_repeat_ref (T:="list") (U:="int") (by decide) ⟨_,e,rfl⟩ (λs'=>typeIs_int s' k t) noFill_list_mul F.fills_int_mul F.slot_int_rmul repeat_list F.slot_int_index.lookup
  (abC F.slot_int_rmul (typeIs_int s k t) F.entry_int_rmul (F.args_int_rmul_2 _ _) (int___rmul___int_list k t l aI.toArray n)
   ⟨e,rfl,⟨_,e,rfl⟩,abC F.slot_list_mul ⟨_,e,rfl⟩ F.entry_list_mul (F.args_list_mul_2 _ _) (AutoListH.list___mul___list_int_3 l aI.toArray n k t UK nE ON) ⟨e,?_⟩⟩)
 rw[J4];exact⟨.ref _,_,I.JD (t':=s.toks) (r.rep k.toNat) (by rw[len_rep,Nat.mul_comm];exact hz),rfl,q _ I.fresh⟩
end
section
variable {prog:aE}{w:World}{A:aD}{E:aw}{s:Shared}
set_option maxRecDepth 100000 in
end
section
variable {X:Cx}
end
end L2
namespace Att
open PySem PySem.W PySem.Calls PyProof.Rows
theorem lY{P:Params}{h:Heap}:∀(ns:aa) (vs:ak),WellAll P h vs (ns.map WData.int)->IntsAre vs ns:=by
 intro ns;induction ns with
 |nil =>
  intro vs w;rw[List.map_nil]at w;cases w;exact .nil
 |cons n ns ih =>
  intro vs w;rw[List.map_cons]at w;cases w with
  |cons a b =>
   cases a;exact .cons _ _ (ih _ b)
theorem yq{l:OpenLaw}{n:Nat}(hn:l.most=some n){P:Params}{h:Heap}{args:List WData}{vals:ak}
  (Fg:l.row.toRowW.claim.pre args=true) (Ub:WellAll P h vals args) :
  ∃a vs ns,vals=[Value.ref a]/\args=[WData.list (ns.map WData.int)]/\h.get? a=some { cls:=.type "list",data:=.seq vs.toArray }/\IntsAre vs ns/\ns.length<=n:=by
 have Y3:WShape.hasAll [] args [.list .int]=true:=(pre_splitW Fg).1;have hc:l.pre.holds [] { args:=args }=true:=(pre_splitW Fg).2;obtain⟨d,r,rfl,h1,h2⟩:=hasAllW_cons Y3;obtain rfl:=hasAllW_nil h2;obtain⟨xs,rfl,h3⟩:=hasW_list h1;obtain⟨ns,rfl⟩:=items_int h3;have hlen:ns.length<=n:=by
  unfold OpenLaw.pre at hc;have h4:(WTm.not (.lt (.lit (.int (n:Int))) (.len (.arg 0)))).holds [] { args:=[.list (ns.map .int)] }=true:=by
   have h4:=(holds_andW hc).1;rw[hn]at h4;exact h4
  have h5:=condW_of h4 (w_not (w_lt w_lit (w_len_list (w_arg rfl))));rw[List.length_map]at h5;refine Nat.le_of_not_lt λq=>?_;have q':(n:Int)<((ns.length:Nat):Int):=by left
  first
   | (rw[decide_eq_true q']at h5;exact absurd h5 (by decide))
   | (simp at h5;left)
 cases Ub with
 |cons w1 w2 =>
  cases w2;cases w1 with
  |list ho vx=>exact⟨_,_,ns,rfl,rfl,ho,lY ns _ vx,hlen⟩
theorem yw(l:OpenLaw)(args:List WData):l.row.toRowW.claim.post args (.bool true) args=true :=
 postW_of (r:=l.row.toRowW) (X:=(true==true))
  (show WShape.has [] (.bool true) .bool=true by first|rfl|decide|simp[WShape.has,WShape.arms,WShape.armsAll])
  (show(WTm.eq .res (.lit (.bool true))).value [] { args:=args,res:=some (.bool true),after:=args }=some (.bool (true==true)) from w_eq_bool (w_res rfl) w_lit) rfl
theorem um{l:OpenLaw}{n:Nat}{q:aE}{loose:aq}{XP:(aZ)->Heap->Prop}{YP:World->Heap->Prop}{d:DefRec}
  (hn:l.most=some n) (OU:d.params.defaults=[])
  (call:∀(w:World) (s₀ s₁:Shared) (mg mb:aZ) (fa:Addr) (o:Obj) (pm cd doc:Value) (a:Addr) (vs:ak) (ns:aa),
   Ground q loose [] XP w s₀ mg mb s₁.heap->YP w s₁.heap ->
   s₁.heap.get? fa=some o->o.data=.func (docDef d.name d.params d.body d.scope pm cd doc)->s₁.heap.CodeRec cd d.name->mg d.name=some (.ref fa) ->
   s₁.heap.get? a=some { cls:=.type "list",data:=.seq vs.toArray }->IntsAre vs ns->ns.length<=n->s₁.gens = #[] ->
   codeAny (model l.prog w) callerA (.call (.ref fa) ⟨[.ref a],[]⟩) (λr s'=>r=.ok (.ret (.bool true))/\OldK s₁.heap s'.heap/\s'.os=s₁.os/\AllBare s'.gens) s₁) :
  WalkO q loose XP YP l.row.toRowW d [] (λf vs=>PySem.call f vs):=by
 intro w s₀ s₁ mg mb G Y fa o pm cd doc dV kV ho hd yR hD hmg hg args vals as Fg Zd hrd Ub hlo;obtain rfl:dV=.none:=Dflts.none hD OU;obtain rfl:kV=.none:=Dflts.noKw hD;obtain⟨a,vs,ns,rfl,rfl,J3,hints,hlen⟩:=yq hn Fg Ub;refine enter_call (abS (call w s₀ s₁ mg mb fa o pm cd doc a vs ns G Y ho (fd_plain hd) yR hmg J3 hints hlen hg) λr s' hq=>?_);obtain⟨rfl,h2,h3,h4⟩:=hq;exact⟨.inl ⟨.bool true,.bool true,[],rfl,λ_=>rfl,.bool true,yw l _,λ_=>⟨List.Pairwise.nil,λ_ hm=>(nomatch hm)⟩⟩,h2,h3,h4⟩
section
variable {prog:aE}{w:World}{A:aD}{E:aw}{s:Shared}{K:Frag}
noncomputable def ledger(h:Heap)(L d:Addr):aj:=(List.range h.objs.size).filterMap λa=>if a=L\/a=d then none else(h.get? a).map λo=>(a,o)
end
end Att
namespace L2
open PySem PySem.Spec PyProof.Rows
theorem kO:∀{vs:ak} {ns:aa},IntsAre vs ns->Vals (ns.map V.int) vs
 |_,_,.nil=>.nil
 |_,_,.cons n t h=>.cons ⟨t,rfl⟩ (kO h)
def Gk(H:Hp):Prop:=∀b,H b=none\/∃o xs,H b=some (.g_ o (.lst xs))
theorem Bs{P:aE}{w:World}{K:ao}{mg mb:aZ}{CX:zH}{k:Nat}{fa a:Addr}{fd:FuncData}{x:Str}{sp:Sp}{s₁:Shared}{vs:ak}{ns:aa}
  (KX:K.In s₁.heap) (yN:s₁.heap.Ns mainGlobals mg) (hb:s₁.heap.Ns builtinsNs mb) (Zx:∀x:Str,x ≠ "__name__" -> mb x=bootBuiltins x) (UC:s₁.heap.NoLimit) (hg:s₁.gens = #[])
  (ha:s₁.heap.get? a=some { cls:=.type "list",data:=.seq vs.toArray }) (hi:IntsAre vs ns) (hl:ns.length<=sizeLine) (hr:fU k callerA)
  (F:∀base:Heap,K.In base->base.Ns mainGlobals mg->jd P w K mg base CX k fa fd [x] sp) (O0:∀(s:Shared) (u:Value),BindsTo s fd ⟨[u],[]⟩ [(x,u)])
  (C5:∀H:Hp,Gk H->dh K H a (ns.map V.int)->sp [.ref a] H (λv _=>v=.bl true) λ_ _ _=>False)
  (U0:∀H e s',CX [] H s₁ (λ_ _ _=>False) e s'->False) :
  codeAny (model P w) callerA (.call (.ref fa) ⟨[.ref a],[]⟩) (λr s'=>r=.ok (.ret (.bool true))/\OldK s₁.heap s'.heap/\s'.os=s₁.os/\AllBare s'.gens) s₁:=by
 have rv:=kO hi;have Tv:=hi.length;have core:∀H:Hp,Gk H->dh K H a (ns.map V.int)->lq P w H s₁.heap->(∀b,H b≠none->b=a)->(H a≠none->K.lookup a=none) ->
   codeAny (model P w) callerA (.call (.ref fa) ⟨[.ref a],[]⟩) (λr s'=>r=.ok (.ret (.bool true))/\OldK s₁.heap s'.heap/\s'.os=s₁.os/\AllBare s'.gens) s₁:=by
  intro H hO hS cM hA hK;have xZ:∀{b:Addr} {o:Obj},s₁.heap.get? b=some o->H b=none->(qG s₁.heap H).get? b=some o:=λe n=>BQ e n;have NR:∀{b:Addr} {o:Obj} {es:Array DictEntry} {ep:Nat},s₁.heap.get? b=some o->o.data=.dict es ep->H b=none:=λ{b o es ep} e d=>by
   cases q:H b with
   |none=>rfl
   |some u =>
    have e':b=a:=hA b (by rw[q];simp);subst e';rw[ha]at e;cases e;have d':Data.seq vs.toArray _=Data.dict es ep:=d;cases d'
  have QQ:∀{b:Addr} {m:aZ},s₁.heap.Ns b m->(qG s₁.heap H).Ns b m:=λ{b m} ⟨o,es,ep,e,d,r⟩=>⟨o,es,ep,xZ e (NR e d),d,r⟩
  have Xa:K.In (qG s₁.heap H):=λb o e=>xZ (KX b o e) (by
   cases q:H b with
   |none=>rfl
   |some u =>
    have e':b=a:=hA b (by rw[q];simp);subst e';rw[hK (by rw[q];simp)]at e;cases e)
  have hM:Mod K mg (qG s₁.heap H):=⟨Xa,QQ yN,⟨mb,QQ hb,Zx⟩,let ⟨mc,h1,h2⟩:=UC;⟨mc,QQ h1,h2⟩⟩
  have e0:Gq P w K mg (qG s₁.heap H) callerA [] s₁ H:=⟨rfl,hM,λb o e=>EE e,Nat.le_of_eq (yO _ _),trivial,λb hb=>absurd (show b∈([]:aN) from hb) (by simp),cM,.of_eq hg⟩
  refine abS ((F _ Xa (QQ yN)).run callerA [] s₁ H ⟨[.ref a],[]⟩ [.ref a] [.ref a] _ _ hr e0 (O0 s₁ (.ref a)) (.cons rfl .nil) (C5 H hO hS)) λr s' h=>?_;cases r with
  |error e=>exact(U0 H e s' h).elim
  |ok fl =>
   cases fl with
   |next=>exact False.elim h
   |brk=>exact False.elim h
   |cont=>exact False.elim h
   |ret u =>
    obtain⟨v,H',os,bare,un,Uu,r',q⟩:=h;have q':v=.bl true:=q;subst q';obtain rfl:u=Value.bool true:=r';refine⟨rfl,OldK.of_keep λb o e=>?_,os,bare⟩;cases q:H b with
    |none=>exact un.keep b o e q (by intro z;exact absurd (show b∈([]:aN) from z) (by simp)) (by simp)
    |some u =>
     rcases hO b with z|⟨ob,xs,z⟩
     ·rw[q]at z;cases z
     ·have z2:=un.oM b ob _ z;obtain⟨e1,_⟩:=cM b _ z;obtain⟨e2,_⟩:=Uu b _ z2;rw[e]at e1;cases e1;exact e2
 cases hk:K.lookup a with
 |some o =>
  have e:=KX a o hk;rw[ha]at e;cases e;refine core (λ_=>none) (λ_=>.inl rfl) (.inr ⟨_,vs.toArray,_,hk,rfl,rfl,rfl,by rw[List.size_toArray,Tv];exact hl,by simpa using rv⟩) (λb u z=>by have z':(none:Option HO)=some u:=z;cases z') (λb z=>absurd rfl z) λz=>absurd rfl z
 |none =>
  refine core (λb=>if b=a then some (.g_ { cls:=.type "list",data:=.seq vs.toArray } (.lst (ns.map V.int)))else none) (λb=>?_) (.inl (.inr ⟨{ cls:=.type "list",data:=.seq vs.toArray },aaZ rfl⟩)) (λb u z=>?_) (λb z=>?_) λ_=>hk
  ·by_cases hb:b=a
   ·exact .inr ⟨_,_,aaZ hb⟩
   ·exact .inl (acb hb)
  ·by_cases hb:b=a
   ·have z':=(aaZ hb).symm.trans z;cases z';subst hb;exact⟨ha,by rw[List.length_map];exact hl,vs,_,rv,ha⟩
   ·have z':=(acb hb).symm.trans z;cases z'
  ·by_cases hb:b=a
   ·exact hb
   ·exact absurd (acb hb) z
end L2
namespace L2
open PySem PySem.Spec PyProof.Rows
theorem Du{l:PySem.W.OpenLaw}{n k:Nat}{q:aE}{loose:aq}{XP:(aZ)->Heap->Prop}{YP:World->Heap->Prop}{d:DefRec}{K:Params->ao}{CX:World->zH}{sp:World->Sp}{x:Str}
  (hn:l.most=some n) (L1:n<=sizeLine) (OU:d.params.defaults=[]) (hr:fU k callerA)
  (hY:∀(w:World) (h:Heap),YP w h->(K w.params).In h)
  (F:∀(w:World) (mg:aZ) (fa:Addr) (h:Heap),(K w.params).In h->h.Ns mainGlobals mg->mg d.name=some (.ref fa) ->
   ∃fd:FuncData,(∀(s:Shared) (u:Value),BindsTo s fd ⟨[u],[]⟩ [(x,u)]) /\
    ∀base:Heap,(K w.params).In base->base.Ns mainGlobals mg->jd l.prog w (K w.params) mg base (CX w) k fa fd [x] (sp w))
  (C5:∀(w:World) (H:Hp) (a:Addr) (ns:aa),ns.length<=n->Gk H->dh (K w.params) H a (ns.map V.int)->sp w [.ref a] H (λv _=>v=.bl true) λ_ _ _=>False)
  (U0:∀(w:World) (H:Hp) (s:Shared) (e:Value) (s':Shared),CX w [] H s (λ_ _ _=>False) e s'->False) :
  PySem.W.WalkO q loose XP YP l.row.toRowW d [] (λf vs=>PySem.call f vs):=by
 refine Att.um hn OU λw s₀ s₁ mg mb fa o pm cd doc a vs ns G Y ho hd yR hmg J3 hints hlen hg=>?_;have KX:=hY w _ Y;obtain⟨fd,hb,hF⟩:=F w mg fa _ KX G.T.g hmg;exact Bs KX G.T.g G.T.b G.T.builtins G.T.nolimit hg J3 hints (aaG hlen L1) hr hF hb (λH hO hS=>C5 w H a ns hlen hO hS) λH e s'=>U0 w H s₁ e s'
end L2
namespace L2
open PySem PySem.Spec PyProof.Rows
noncomputable def fH(s:Stmt):Arguments:=match s with
 |.FunctionDef _ a _ _ _ _ _ _ _ _=>a
 |_=>{ posonlyargs:=[],args:=[],vararg:=none,kwonlyargs:=[],kw_defaults:=[],kwarg:=none,defaults:=[] }
noncomputable def dk(s:Stmt):br:=match s with
 |.FunctionDef _ _ b _ _ _ _ _ _ _=>b
 |_=>[]
noncomputable def bG(s:Stmt):Scope:=match s with
 |.FunctionDef _ _ _ _ _ _ sc _ _ _=>sc
 |_=>{ kind:=.function,names:=[],isGenerator:=false,isCoroutine:=false }
noncomputable abbrev zI:zH:=λ_ _ _ _ _ _=>False
noncomputable abbrev E0:XK:=λ_ _ _=>False
theorem NC{X:Cx}:Passes zI X E0:=λ_ _ _ _ _ _ _ h=>h.elim
structure Gp(K:ao)(x qual:Str)(st:Stmt)(f:Addr)(fd:FuncData):Prop where
 ex:∃(oc:Value) (od:Option Addr) (kV doc pm:Value) (an:Option Addr) (jk ct:Value) (C1:Array (Option Value)),
  fd=PySem.W.fnOf x qual (fH st) (dk st) (bG st) .none kV doc pm an jk ct/\K.lookup f=some ⟨oc,od,.func fd,C1⟩/\PySem.W.codeIn K jk qual=true
 kp:PySem.W.keepIn K (.ref f)=true
variable {ps:aq}{qual:Str}{st:Stmt}
section
variable {P:aE}{w:World}{K:ao}{mg:aZ}{base:Heap}
theorem Gp.ok{x:Str}{f:Addr}{fd:FuncData}{N:aq}{k:Nat}{sp:Sp}(F:Gp K x qual st f fd)(S:i8 N ps (bG st))(len:∀vs H Q E,sp vs H Q E->vs.length=ps.length)
  (BS:∀(jk:Value) (A:aD) (outer:List Env) (s:Shared) (H:Hp) (vs:ae) (Q:VK) (E:XK),fU k (A.deeper (envOfC qual (bG st) s.heap.objs.size f jk))->sp vs H Q E ->
   ∃t,mL (vK zI P w K mg base N qual (bG st) f jk A outer s H E).NO (dk st) t/\t { nx:=λ_ H'=>Q .cj H',rt:=Q } (start N vs) H):jd P w K mg base zI (k+1) f fd ps sp:=by
 obtain⟨oc,od,kV,doc,pm,an,jk,ct,C1,rfl,lk,yR⟩:=F.ex;refine Pq lk yR S len λA outer s H vs Q E hr C5=>?_;obtain⟨t,h,q⟩:=BS jk A outer s H vs Q E hr C5;exact⟨t,h.NO,q⟩
theorem Gp.binds{x:Str}{f:Addr}{fd:FuncData}(F:Gp K x qual st f fd)
  (h:∀(kV doc pm:Value) (an:Option Addr) (jk ct:Value) (us:ak),us.length=ps.length->bindArgs (PySem.W.fnOf x qual (fH st) (dk st) (bG st) .none kV doc pm an jk ct) ⟨us,[]⟩=pure (ps.zip us)):Binds K fd ps []:=by
 obtain⟨oc,od,kV,doc,pm,an,jk,ct,C1,rfl,lk,yR⟩:=F.ex;exact .all (h kV doc pm an jk ct)
theorem Kv{x:Str}{f:Addr}{oc:Value}{od an:Option Addr}{C1:Array (Option Value)}{kV doc pm jk ct:Value}(l:K.lookup f=some ⟨oc,od,.func (PySem.W.fnOf x qual (fH st) (dk st) (bG st) .none kV doc pm an jk ct),C1⟩)
  (c:PySem.W.codeIn K jk qual=true) (k:PySem.W.keepIn K (.ref f)=true):Gp K x qual st f (PySem.W.fnOf x qual (fH st) (dk st) (bG st) .none kV doc pm an jk ct):=⟨⟨oc,od,kV,doc,pm,an,jk,ct,C1,rfl,l,c⟩,k⟩
end
theorem BF{A:aD}{k:Nat}(hr:fU k A):A.units+1<cLine:=aaE (ab5 (by decide:1<=64) _) hr.units
section
variable {X:Cx}
theorem pv(i:Nat){x:Str}{pos:Pos}(hN:X.N[i]?=some x:=by rfl)(hv:Hz X.env.scope x:=by first|exact Or.inl rfl|exact Or.inr (Or.inl rfl)|exact Or.inr (Or.inr rfl))(hd:(x==("__debug__" : Str))=false:=by decide)
  (yR:(x==("__classdict__" : Str))=false:=by decide):PE X (.Name x pos) (uM i):=qq hN hv hd yR
end
def aJ(H H':Hp):Prop:=∀b o,H b=some o->H' b=some o
theorem aJ.refl(H:Hp):aJ H H:=λ_ _ h=>h
variable {H H':Hp}
theorem aJ.trans{H1 H2:Hp}(a:aJ H H1)(b:aJ H1 H2):aJ H H2:=λc o h=>b c o (a c o h)
theorem aJ.free(e:aJ H H'){l:Addr}(h:H' l=Option.none):H l=Option.none:=by
 cases q:H l with
 |none=>rfl
 |some o =>
  rw[e l o q]at h;cases h
theorem aJ.seq{K:ao}{a:Addr}{xs:ae}(e:aJ H H')(h:dh K H a xs):dh K H' a xs:=by
 rcases h with (h|⟨o,h⟩)|h
 ·exact .inl (.inl (e _ _ h))
 ·exact .inl (.inr ⟨o,e _ _ h⟩)
 ·exact .inr h
end L2
set_option autoImplicit false
set_option linter.all false
set_option Elab.async false
set_option maxRecDepth 100000
set_option maxHeartbeats 4000000
section
namespace DI
open PySem (Str Expr Stmt Scope NameKind)
inductive Fl where|ow|fz|al|sc
 deriving DecidableEq
inductive D where
 |cj|bl (b:Bool)|int (i:Int)
 |tup (ds:List D)
 |lst (f:Fl) (ds:List D)
 |bU (f:Fl) (ks:ag) (vs:List D)
 |dC (f:Fl) (ks:ag) (vs:List D)
abbrev aH:=Option D
abbrev ab:=List D
mutual
noncomputable def aT(g:Fl->Fl):D->D
 |.tup ds=>.tup (aB g ds)
 |.lst f ds=>.lst (g f) (aB g ds)
 |.bU f ks vs=>.bU (g f) ks (aB g vs)
 |.dC f ks vs=>.dC (g f) ks (aB g vs)
 |.cj=>.cj
 |.bl b=>.bl b
 |.int i=>.int i
noncomputable def aB(g:Fl->Fl):ab->ab
 |[]=>[]
 |d::ds=>aT g d::aB g ds
end
theorem aQ(g:Fl->Fl):∀ds:ab,aB g ds=ds.map (aT g)
 |[]=>rfl
 |d::ds=>by rw[aB,aQ g ds];rfl
noncomputable def bo:Fl->Fl|.ow=>.al|f=>f
noncomputable def l5:Fl->Fl|.fz=>.al|f=>f
noncomputable def aW:Fl->Fl|.sc=>.sc|_=>.fz
noncomputable def vn:Fl->Bool|.sc=>true|_=>false
mutual
noncomputable def aR(p:Fl->Bool):D->Bool
 |.tup ds=>aP p ds
 |.lst f ds=>p f||aP p ds
 |.bU f ks vs=>p f||aP p vs
 |.dC f ks vs=>p f||aP p vs
 |_=>false
noncomputable def aP(p:Fl->Bool):ab->Bool
 |[]=>false
 |d::ds=>aR p d||aP p ds
end
noncomputable def bJ:Fl->Bool|.al=>true|_=>false
noncomputable def cB:Fl->Bool|.ow=>true|_=>false
noncomputable def anyF:Fl->Bool:=λ_=>true
mutual
noncomputable def lJ:D->D->Bool
 |.cj,.cj=>true
 |.bl a,.bl b=>a==b
 |.bl a,.int b=>(if a then 1 else 0)==b
 |.int a,.bl b=>a==(if b then 1 else 0)
 |.int a,.int b=>a==b
 |.tup a,.tup b=>dt a b
 |.lst _ a,.lst _ b=>dt a b
 |_,_=>false
noncomputable def dt:ab->ab->Bool
 |[],[]=>true
 |a::as,b::bs=>lJ a b&&dt as bs
 |_,_=>false
end
noncomputable def cI:Nat->D->Bool
 |_,.cj=>true
 |_,.bl _=>true
 |_,.int _=>true
 |n+1,.tup ds=>ds.all (cI n)
 |n+1,.lst _ ds=>ds.all (cI n)
 |_,_=>false
noncomputable abbrev O(α:Type):=Option (Except Nat α)
abbrev az:=ab->O D
noncomputable def ok{α:Type}(a:α):O α:=some (.ok a)
noncomputable def bd{α β:Type}(x:O α)(f:α->O β):O β:=match x with
 |some (.ok a)=>f a
 |some (.error c)=>some (.error c)
 |none=>none
@[simp]theorem QS{α:Type}{a:α}:((none:O α)=ok a)=False:=by simp[ok]
@[simp]theorem Tj{α:Type}{a b:α}:(ok a=ok b)=(a=b):=by simp[ok]
@[simp]theorem Vn{α:Type}{a:α}{c:Nat}:((some (.error c):O α)=ok a)=False:=by simp[ok]
@[simp]theorem G8{α:Type}{p:Prop}[Decidable p]{a b:α}:((if p then ok a else none)=ok b)=(p/\a=b):=by
 by_cases h:p<;>simp[h]
@[simp]theorem T5{α:Type}{p:Prop}[Decidable p]{a b:α}:((if p then none else ok a)=ok b)=(¬ p/\a=b):=by
 by_cases h:p<;>simp[h]
theorem nk{α:Type}{a:α}{P:Prop}(h:(none:Option α)=some a):P:=nomatch h
theorem aG{α β:Type}{x:O α}{f:α->O β}{b:β}(h:bd x f=ok b):∃a,x=ok a/\f a=ok b:=by
 unfold bd at h
 match x,h with
 |some (.ok a),h=>exact⟨a,rfl,h⟩
 |some (.error c),h=>cases h
 |none,h=>cases h
inductive Gr where|add|sub|mul|fdiv|mod|pow|shr|band
 deriving DecidableEq
inductive zJ where|eq|ne|lt|le|gt|ge|Fd
 deriving DecidableEq
inductive Ty where|int|bool|list|tuple
 deriving DecidableEq
inductive Bf where|len|abs|tI|list1|tuple1|gY|all1|cT
 deriving DecidableEq
inductive Tg where|nm(i:Nat)|tp(is:aO)
 deriving DecidableEq
inductive IK where|kZ|seq|b9(p:Nat)
 deriving DecidableEq
inductive GK where|i(z:Int)|t(zs:aa)
 deriving DecidableEq
inductive CE where
 |cj|bl (b:Bool)|int (i:Int)|glo (x:Str) (i:Int)|glt (x:Str) (zs:aa)
 |v (i:Nat)
 |bin (op:Gr) (a b:CE)
 |neg (a:CE)|not (a:CE)|and (es:List CE)|or (es:List CE)
 |cmp (op:zJ) (a b:CE)
 |rN (a:CE) (t:Ty)
 |call (f:Nat) (es:List CE)
 |bf (f:Bf) (es:List CE)
 |ix (a b:CE)
 |j9 (a:CE)
 |tup (es:List CE)|lst (es:List CE)
 |b9 (p:Nat) (es:List CE)
 |comp (n:Nat) (t:Tg) (caps:aO) (ik:IK) (es bK:List CE) (elt:CE)
abbrev aF:=List CE
inductive CI where|kZ(a:CE)|seq(a:CE)|ux(p:Nat)(es:aF)
inductive CS where
 |asg (t:Tg) (e:CE)|par (i j:Nat) (a b:CE)|ret (e:CE)|rs (c:Nat)|ex (e:CE)
 |mut (p i:Nat) (es:aF)|mu2 (p i:Nat) (k e:CE)|pop2 (i j:Nat) (e:CE)|app (i:Nat) (e:CE)
 |ifs (c:CE) (a b:List CS)
 |HK (c:CE) (b:List CS)
 |fr (t:Tg) (it:CI) (b:List CS)
abbrev ah:=List CS
noncomputable abbrev a_:=List (aH)
noncomputable abbrev aY:=Nat->az
noncomputable def big:Nat:=2 ^ 9000
def gj(i j:Int):Bool:=decide (i.natAbs<2 ^ 64)||decide (j.natAbs<2 ^ 64)||(decide (i.natAbs<big)&&decide (j.natAbs<big))
def pO(j:Int):Bool:=decide (j≠0)&&decide (j.natAbs<big)
noncomputable def wF(i j:Int):Bool:=decide (0<=j)&&decide (j<=1000000)&&decide (i.natAbs<2 ^ 64)
noncomputable def cL:Nat:=1000000
theorem oj{α:Type}{c:Prop}[inst:Decidable c]{v d:α}(h:(if c then ok v else none)=ok d):c/\v=d:=by
 cases inst with
 |isTrue hc=>exact⟨hc,Except.ok.inj (aax h)⟩
 |isFalse hc=>cases h
def cX:Gr->D->D->O D
 |.add,.int i,.int j=>ok (.int (i+j))
 |.add,.lst f a,.lst g b=>if vn f=false/\vn g=false/\a.length+b.length<=cL then ok (.lst .ow (aB bo (a++b)))else none
 |.add,.tup a,.tup b=>if a.length+b.length<=cL then ok (.tup (aB bo (a++b)))else none
 |.sub,.int i,.int j=>ok (.int (i - j))
 |.mul,.int i,.int j=>if gj i j then ok (.int (i*j))else none
 |.mul,.lst f a,.int k=>if vn f=false/\a.length*k.toNat<=cL/\k<=cL /\ -cL<=k then ok (.lst .ow (aB bo (List.replicate k.toNat a).flatten))else none
 |.fdiv,.int i,.int j=>if pO j then ok (.int (i.fdiv j))else none
 |.mod,.int i,.int j=>if j≠0 then ok (.int (i.fmod j))else none
 |.pow,.int i,.int j=>if wF i j then ok (.int (i ^ j.toNat))else none
 |.shr,.int i,.int j=>if 0<=j then ok (.int (i / 2 ^ j.toNat))else none
 |.band,.int i,.int j=>if j=1 then ok (.int (i % 2))else none
 |_,_,_=>none
def inD(x:D):ab->Bool
 |[]=>false
 |y::ys=>lJ y x||inD x ys
noncomputable def nK:D->Bool
 |.cj=>true|.bl _=>true|.int _=>true|_=>false
noncomputable def JM:D->Option (ab)
 |.tup ds=>some ds
 |.lst _ ds=>some ds
 |_=>none
def fA:zJ->D->D->O D
 |.eq,a,b=>if cI 40 a&&cI 40 b then ok (.bl (lJ a b))else none
 |.ne,a,b=>if cI 40 a&&cI 40 b then ok (.bl (!lJ a b))else none
 |.lt,.int i,.int j=>ok (.bl (decide (i<j)))
 |.le,.int i,.int j=>ok (.bl (decide (i<=j)))
 |.gt,.int i,.int j=>ok (.bl (decide (j<i)))
 |.ge,.int i,.int j=>ok (.bl (decide (j<=i)))
 |.Fd,a,b=>match JM b with
  |some ds=>if nK a&&ds.all nK then ok (.bl (inD a ds))else none
  |none=>none
 |_,_,_=>none
noncomputable def dF:Ty->D->Bool
 |.int,.int _=>true|.int,.bl _=>true
 |.bool,.bl _=>true
 |.list,.lst _ _=>true
 |.tuple,.tup _=>true
 |_,_=>false
noncomputable def tF(n:Nat)(i:Int):Option Nat:=if 0<=i then(if i<n then some i.toNat else none)else if -(n:Int)<=i then some (i+n).toNat else none
def rn(ds:ab)(i:Int):O D:=match(tF ds.length i).bind λj=>ds[j]? with
 |some d=>ok (aT bo d)
 |none=>none
def uy:D->D->O D
 |.tup ds,.int i=>rn ds i
 |.lst _ ds,.int i=>rn ds i
 |_,_=>none
noncomputable def intsOf:ab->Option (aa)
 |[]=>some []
 |.int i::ds=>(intsOf ds).map (i :: ·)
 |_::_=>none
noncomputable def iF:ab->Option (List Bool)
 |[]=>some []
 |.bl i::ds=>(iF ds).map (i :: ·)
 |_::_=>none
theorem cU:∀{ds:ab} {ns:aa},intsOf ds=some ns->ds=ns.map D.int
 |[],ns,h=>by simp[intsOf]at h;subst h;rfl
 |d::ds,ns,h=>by
  cases d<;>simp[intsOf]at h;obtain⟨ms,h1,rfl⟩:=h;rw[cU h1];rfl
theorem uj:∀{ds:ab} {bs:List Bool},iF ds=some bs->ds=bs.map D.bl
 |[],bs,h=>by simp[iF]at h;subst h;rfl
 |d::ds,bs,h=>by
  cases d<;>simp[iF]at h;obtain⟨ms,h1,rfl⟩:=h;rw[uj h1];rfl
theorem bh:∀ns:aa,intsOf (ns.map D.int)=some ns
 |[]=>rfl
 |n::ns=>by simp[intsOf,bh ns]
theorem ll:∀bs:List Bool,iF (bs.map D.bl)=some bs
 |[]=>rfl
 |b::bs=>by simp[iF,ll bs]
noncomputable def sortI(ns:aa):aa:=ns.mergeSort (λa b=>decide (a<=b))
def o5(ds:ab):O D:=match intsOf ds with
 |some ns=>if ns.length<64 then ok (.lst .ow ((sortI ns).map D.int))else none
 |none=>none
def kM:Bf->az
 |.len,xs=>match xs with
  |[.tup ds]=>ok (.int ds.length)
  |[.lst _ ds]=>ok (.int ds.length)
  |_=>none
 |.abs,xs=>match xs with
  |[.int i]=>ok (.int (if i<0 then -i else i))
  |_=>none
 |.tI,xs=>match xs with
  |[.int i]=>ok (.int i)
  |[.bl b]=>ok (.int (if b then 1 else 0))
  |_=>none
 |.list1,xs=>match xs with
  |[.lst _ ds]=>ok (.lst .ow (aB bo ds))
  |[.tup ds]=>ok (.lst .ow (aB bo ds))
  |_=>none
 |.tuple1,xs=>match xs with
  |[.lst _ ds]=>ok (.tup (aB bo ds))
  |[.tup ds]=>ok (.tup (aB bo ds))
  |_=>none
 |.gY,xs=>match xs with
  |[.lst _ ds]=>(match intsOf ds with
   |some ns=>ok (.int ns.sum)
   |none=>none)
  |_=>none
 |.all1,xs=>match xs with
  |[.lst _ ds]=>(match iF ds with
   |some bs=>ok (.bl (bs.all id))
   |none=>none)
  |_=>none
 |.cT,xs=>match xs with
  |[.lst _ ds]=>o5 ds
  |[.tup ds]=>o5 ds
  |_=>none
noncomputable def qR(ns:aa):aa:=ns.foldl (λ(m:aa) (k:Int)=>if m.any (· == k)then m else m++[k]) []
def w9:D->O D
 |.tup ds=>(match intsOf ds with
  |some ns=>if ns.length<4000 then ok (.int (qR ns).length)else none
  |none=>none)
 |_=>none
noncomputable def gW:D->O Bool
 |.bl b=>ok b
 |_=>none
noncomputable def intD:D->O Int
 |.int i=>ok i
 |_=>none
noncomputable def u_:Option (aH)->Option (ab)
 |some (some (.lst .ow ds))=>some ds
 |_=>none
theorem wV{o:Option (aH)}{ds:ab}(h:u_ o=some ds):o=some (some (.lst .ow ds)):=by
 unfold u_ at h;split at h<;>cases h;rfl
theorem Fc{d:D}{i:Int}(h:intD d=ok i):d=.int i:=by
 cases d<;>simp[intD]at h;rw[h]
noncomputable def EI:D->O D
 |.int i=>ok (.int (-i))
 |_=>none
def gR:aO->ab->a_->O a_
 |[],[],ρ=>ok ρ
 |i::is,d::ds,ρ=>if i<ρ.length then gR is ds (ρ.set i (some d))else none
 |_,_,_=>none
def cv:Tg->D->a_->O a_
 |.nm i,d,ρ=>if i<ρ.length then ok (ρ.set i (some d))else none
 |.tp is,.tup ds,ρ=>if aP cB ds then none else gR is ds ρ
 |_,_,_=>none
def i_:D->O (ab)
 |.lst _ ds=>ok (aB aW ds)
 |_=>none
def df(Φ:aY):IK->ab->O (ab)
 |.b9 p,xs=>bd (Φ p xs) i_
 |.kZ,[.int n]=>if n<=cL /\ -cL<=n then ok ((List.range n.toNat).map λ(k:Nat)=>D.int (k:Int))else none
 |.seq,[.tup ds]=>ok (aB aW ds)
 |.seq,[.lst _ ds]=>ok (aB aW ds)
 |_,_=>none
def gU(bind:D->O a_)(test:a_->O Bool)(el:a_->O D):ab->O (ab)
 |[]=>ok []
 |x::xs=>bd (bind x) λρ=>bd (test ρ) λb=>if b then bd (el ρ) λy=>bd (gU bind test el xs) λys=>ok (y::ys)else gU bind test el xs
def bF(n:Nat)(caps:aO)(ρ:a_):a_:=List.replicate n none++caps.map λi=>(ρ[i]?.getD none).map (aT aW)
def wq(o:Option (aH)):O D:=match o with
 |some (some d)=>ok (aT bo d)
 |_=>none
theorem Al{o:Option (aH)}{d:D}(h:wq o=ok d):∃d',o=some (some d')/\d=aT bo d':=by
 cases o with
 |none=>cases h
 |some z=>cases z with
  |none=>cases h
  |some z=>cases h;exact⟨z,rfl,rfl⟩
mutual
noncomputable def bw(Φ:aY):CE->a_->O D
 |.cj,_=>ok .cj
 |.bl b,_=>ok (.bl b)
 |.int i,_=>ok (.int i)
 |.glo _ i,_=>ok (.int i)
 |.glt _ zs,_=>ok (.tup (zs.map D.int))
 |.v i,ρ=>wq ρ[i]?
 |.bin op a b,ρ=>bd (bw Φ a ρ) λx=>bd (bw Φ b ρ) λy=>cX op x y
 |.neg a,ρ=>bd (bw Φ a ρ) EI
 |.not a,ρ=>bd (bd (bw Φ a ρ) gW) λb=>ok (.bl (!b))
 |.and es,ρ=>pM Φ es ρ
 |.or es,ρ=>y7 Φ es ρ
 |.cmp op a b,ρ=>bd (bw Φ a ρ) λx=>bd (bw Φ b ρ) λy=>fA op x y
 |.rN a t,ρ=>bd (bw Φ a ρ) λx=>ok (.bl (dF t x))
 |.call f es,ρ=>bd (cu Φ es ρ) λxs=>bd (Φ f (aB aW xs)) λr=>ok (aT l5 r)
 |.bf f es,ρ=>bd (cu Φ es ρ) λxs=>kM f xs
 |.ix a b,ρ=>bd (bw Φ a ρ) λx=>bd (bw Φ b ρ) λy=>uy x y
 |.j9 a,ρ=>bd (bw Φ a ρ) λx=>w9 x
 |.b9 p es,ρ=>bd (cu Φ es ρ) λxs=>Φ p xs
 |.tup es,ρ=>bd (cu Φ es ρ) λxs=>ok (.tup xs)
 |.lst es,ρ=>bd (cu Φ es ρ) λxs=>ok (.lst .ow xs)
 |.comp n t caps ik es bK elt,ρ=>bd (cu Φ es ρ) λxs=>bd (df Φ ik xs) λitems =>
   bd (gU (λd=>cv t d (bF n caps ρ)) (λρ'=>gT Φ bK ρ') (λρ'=>bw Φ elt ρ') items) λds=>if ds.length<=cL then ok (.lst .ow (aB l5 ds))else none
noncomputable def cu(Φ:aY):aF->a_->O (ab)
 |[],_=>ok []
 |e::es,ρ=>bd (bw Φ e ρ) λx=>bd (cu Φ es ρ) λxs=>ok (x::xs)
noncomputable def gT(Φ:aY):aF->a_->O Bool
 |[],_=>ok true
 |e::es,ρ=>bd (bd (bw Φ e ρ) gW) λb=>if b then gT Φ es ρ else ok false
noncomputable def pM(Φ:aY):aF->a_->O D
 |[],_=>none
 |e::es,ρ=>bd (bd (bw Φ e ρ) gW) λc=>match es with
  |[]=>ok (.bl c)
  |_::_=>if c then pM Φ es ρ else ok (.bl false)
noncomputable def y7(Φ:aY):aF->a_->O D
 |[],_=>none
 |e::es,ρ=>bd (bd (bw Φ e ρ) gW) λc=>match es with
  |[]=>ok (.bl c)
  |_::_=>if c then ok (.bl true)else y7 Φ es ρ
end
def y6(Φ:aY)(e:CE)(ρ:a_):O Bool:=bd (bw Φ e ρ) gW
inductive Fo where|nx|rt(d:D)|bk|ct
noncomputable def cQ{α β:Type}(n:Nat)(step:α->O (α ⊕ β))(a:α):O β:=match n with
 |0=>none
 |n+1=>bd (step a) λr=>match r with
  |.inl a'=>cQ n step a'
  |.inr b=>ok b
open Classical in
noncomputable def e_{α β:Type}(step:α->O (α ⊕ β))(a:α):O β :=
 if h:∃n,cQ n step a≠none then cQ (Classical.choose h) step a else none
theorem ir{α β:Type}(step:α->O (α ⊕ β)):∀(n m:Nat) (a:α),n<=m->cQ n step a≠none->cQ m step a=cQ n step a
 |0,_,_,_,h=>absurd rfl h
 |n+1,0,_,hl,_=>by left
 |n+1,m+1,a,hl,h=>by
  unfold cQ at h ⊢
  match hs:step a with
  |none=>rw[hs]at h;exact absurd rfl h
  |some (.error c)=>rfl
  |some (.ok (.inr b))=>rfl
  |some (.ok (.inl a')) =>
   rw[hs]at h;exact ir step n m a' (by left) h
theorem kN{α β:Type}{step:α->O (α ⊕ β)}{a:α}{n:Nat}{r:Except Nat β}(h:cQ n step a=some r):e_ step a=some r:=by
 have hx:∃n,cQ n step a≠none:=⟨n,by rw[h];simp⟩
 unfold e_;rw[dif_pos hx];have hc:=Classical.choose_spec hx;rcases Nat.le_total n (Classical.choose hx)with hl|hl
 ·rw[ir step _ _ a hl (by rw[h];simp),h]
 ·rw[<- ir step _ _ a hl hc,h]
theorem k7{α β:Type}{step:α->O (α ⊕ β)}{a:α}{r:Except Nat β}(h:e_ step a=some r):∃n,cQ n step a=some r:=by
 unfold e_ at h;split at h
 ·exact⟨_,h⟩
 ·cases h
theorem mP{α β:Type}{step:α->O (α ⊕ β)}{a a':α}(h:step a=ok (.inl a')):e_ step a=e_ step a':=by
 match hr:e_ step a' with
 |some r =>
  obtain⟨n,hn⟩:=k7 hr;refine kN (n:=n+1) ?_;unfold cQ;rw[h];exact hn
 |none =>
  match hq:e_ step a with
  |none=>rfl
  |some r =>
   obtain⟨n,hn⟩:=k7 hq
   match n,hn with
   |n+1,hn =>
    unfold cQ at hn;rw[h]at hn;rw[kN (n:=n) hn]at hr;cases hr
theorem gA{α β:Type}{step:α->O (α ⊕ β)}{a:α}{b:β}(h:step a=ok (.inr b)):e_ step a=ok b :=
 kN (n:=1) (by unfold cQ;rw[h];rfl)
mutual
noncomputable def g9:CE->aO
 |.v i=>[i]
 |.bin _ a b=>g9 a++g9 b
 |.neg a=>g9 a
 |.not a=>g9 a
 |.and es=>cW es
 |.or es=>cW es
 |.cmp _ a b=>g9 a++g9 b
 |.rN a _=>g9 a
 |.call _ es=>cW es
 |.bf _ es=>cW es
 |.ix a b=>g9 a++g9 b
 |.j9 a=>g9 a
 |.tup es=>cW es
 |.lst es=>cW es
 |.b9 _ es=>cW es
 |.comp _ _ caps _ es _ _=>caps++cW es
 |_=>[]
noncomputable def cW:aF->aO
 |[]=>[]
 |e::es=>g9 e++cW es
end
def g_(is:aO)(ρ:a_):a_:=ρ.mapIdx λi d=>if i∈is then d.map (aT aW)else d
def keep(e:CE)(d:D)(ρ:a_):D×a_:=if aR bJ d then(aT aW d,g_ (g9 e) ρ)else(d,ρ)
def jx(Φ:aY)(e:CE)(ρ:a_):O (D×a_):=match e with
 |.v i=>match ρ[i]? with
  |some (some d)=>if aR cB d then ok (d,ρ.set i none)else ok (d,ρ)
  |_=>none
 |_=>bd (bw Φ e ρ) λd=>ok (keep e d ρ)
def cJ(Φ:aY)(it:CI)(ρ:a_):O (ab×a_):=match it with
 |.ux p es=>bd (cu Φ es ρ) λxs=>bd (Φ p xs) λd=>bd (i_ d) λitems=>ok (items,if aP bJ xs then g_ (cW es) ρ else ρ)
 |.kZ a=>bd (bw Φ a ρ) λx=>match x with
  |.int n=>if n<=cL /\ -cL<=n then ok ((List.range n.toNat).map λ(k:Nat)=>D.int (k:Int),ρ)else none
  |_=>none
 |.seq a=>bd (bw Φ a ρ) λx=>match x with
  |.tup ds=>ok (aB aW ds,if aR bJ x then g_ (g9 a) ρ else ρ)
  |.lst f ds=>ok (aB aW ds,if aR bJ x then g_ (g9 a) ρ else ρ)
  |_=>none
def nu(es:aF)(xs:ab)(ρ:a_):ab×a_:=if aP bJ xs then(aB aW xs,g_ (cW es) ρ)else(xs,ρ)
noncomputable def vb(Φ:aY)(p i:Nat)(r:ab×a_):O (Fo×a_):=match r.2[i]? with
 |some (some d)=>bd (Φ p (d::r.1)) λd'=>ok (.nx,r.2.set i (some d'))
 |_=>none
def Be(Φ:aY)(p i:Nat)(ρ:a_)(kd d:D):O (Fo×a_):=match ρ[i]? with
 |some (some x)=>if aR anyF kd=false/\aR anyF d=false then bd (Φ p [x,kd,d]) λd'=>ok (.nx,ρ.set i (some d'))else none
 |_=>none
def pd(i j:Nat)(ρ:a_)(z:Int):O (Fo×a_):=match ρ[i]? with
 |some (some (.tup ds))=>match u_ ρ[j]? with
  |some es=>match intsOf ds with
   |some ns=>match intsOf es with
    |some ms=>match tF ms.length z with
     |some m=>if ns.length<1000/\ms.length<1000/\i≠j then ok (.nx,(ρ.set j (some (.lst .ow ((ms.eraseIdx m).map D.int)))).set i (some (.tup ((ns++[ms.getD m 0]).map D.int))))else none
     |none=>none
    |none=>none
   |none=>none
  |none=>none
 |_=>none
def dN(bind:D->a_->O a_)(body:a_->O (Fo×a_)):ab->a_->O (Fo×a_)
 |[],ρ=>ok (.nx,ρ)
 |d::ds,ρ=>bd (bind d ρ) λρ1=>bd (body ρ1) λr=>match r with
  | (.nx,ρ2)=>dN bind body ds ρ2
  | (.ct,ρ2)=>dN bind body ds ρ2
  | (.bk,ρ2)=>ok (.nx,ρ2)
  | (.rt d,ρ2)=>ok (.rt d,ρ2)
mutual
noncomputable def k_(Φ:aY):CS->a_->O (Fo×a_)
 |.asg t e,ρ=>bd (jx Φ e ρ) λr=>bd (cv t r.1 r.2) λρ'=>ok (.nx,ρ')
 |.par i j a b,ρ=>bd (bw Φ a ρ) λx=>bd (bw Φ b ρ) λy=>if aR anyF x=false/\aR anyF y=false/\i<ρ.length/\j<ρ.length then ok (.nx,(ρ.set i (some x)).set j (some y))else none
 |.ret e,ρ=>bd (jx Φ e ρ) λr=>ok (.rt r.1,r.2)
 |.rs c,_=>some (.error c)
 |.ex e,ρ=>bd (bw Φ e ρ) λ_=>ok (.nx,ρ)
 |.mut p i es,ρ=>bd (cu Φ es ρ) λxs=>vb Φ p i (nu es xs ρ)
 |.mu2 p i k e,ρ=>bd (bw Φ k ρ) λkd=>bd (bw Φ e (ρ.set i none)) λd=>Be Φ p i ρ kd d
 |.pop2 i j e,ρ=>bd (bd (bw Φ e ρ) intD) (pd i j ρ)
 |.app i e,ρ=>bd (jx Φ e ρ) λr=>match u_ r.2[i]? with
  |some ds=>if ds.length<cL then ok (.nx,r.2.set i (some (.lst .ow (ds++[r.1]))))else none
  |none=>none
 |.ifs c a b,ρ=>bd (y6 Φ c ρ) λk=>if k then bI Φ a ρ else bI Φ b ρ
 |.HK c b,ρ=>e_ (λρ=>bd (y6 Φ c ρ) λk=>if k then bd (bI Φ b ρ) λr=>match r with
   | (.nx,ρ')=>ok (.inl ρ')
   | (.ct,ρ')=>ok (.inl ρ')
   | (.bk,ρ')=>ok (.inr (.nx,ρ'))
   | (.rt d,ρ')=>ok (.inr (.rt d,ρ'))
  else ok (.inr (.nx,ρ))) ρ
 |.fr t it b,ρ=>bd (cJ Φ it ρ) λr=>dN (λd ρ=>cv t d ρ) (λρ=>bI Φ b ρ) r.1 r.2
noncomputable def bI(Φ:aY):ah->a_->O (Fo×a_)
 |[],ρ=>ok (.nx,ρ)
 |s::ss,ρ=>bd (k_ Φ s ρ) λr=>match r with
  | (.nx,ρ')=>bI Φ ss ρ'
  |r=>ok r
end
noncomputable def qi(Φ:aY)(n:Nat)(b:ah)(ds:ab):O D:=bd (bI Φ b (ds.map some++List.replicate (n - ds.length) none)) λr=>match r.1 with
 |.nx=>ok .cj
 |.rt d=>ok d
 |_=>none
noncomputable def oq:az
 |[.lst _ a,.lst _ b]=>ok (.lst .ow (List.zipWith (λx y=>.tup [x,y]) a b))
 |_=>none
end DI
end
section
namespace DI
open PySem PySem.Spec PyProof.Rows L2
noncomputable abbrev bj:=aO
noncomputable abbrev St:=L2.St
noncomputable abbrev kG:=Addr->ae->Prop
inductive Nd where|l(xs:ae)|d(cs:ag)(as:aN)(xs:ae)(ep:Nat)
 |ej (cs:ag) (as:aN) (xs:ae) (ep:Nat)
abbrev hU:=bj->Addr->Nd->Fl->Prop
structure eG(T:kG)(as:aN)(cs:ag):Prop where
 len:as.length=cs.length
 tup:∀(j:Nat) (a:Addr) (c:aa),as[j]?=some a->cs[j]?=some c->T a (c.map V.int)
variable {T T':kG}{as ch fp:aN}
theorem eG.imp{cs:ag}(h:eG T as cs)(hT:∀p xs,T p xs->T' p xs):eG T' as cs:=⟨h.len,λj a c h1 h2=>hT _ _ (h.tup j a c h1 h2)⟩
def oe(T:kG)(a:Addr)(c:aa):Prop:=∃(h:Int) (lot:aa) (b:Addr),c=h::lot/\T a [.ref b,.int h]/\T b (lot.map V.int)
structure gx(T:kG)(as:aN)(cs:ag):Prop where
 len:as.length=cs.length
 key:∀(j:Nat) (a:Addr) (c:aa),as[j]?=some a->cs[j]?=some c->oe T a c
theorem oe.imp{a:Addr}{c:aa}(h:oe T a c)(hT:∀p xs,T p xs->T' p xs):oe T' a c:=by obtain⟨x,y,b,e,h1,h2⟩:=h;exact⟨x,y,b,e,hT _ _ h1,hT _ _ h2⟩
theorem gx.imp{T T':kG}{as:aN}{cs:ag}(h:gx T as cs)(hT:∀p xs,T p xs->T' p xs):gx T' as cs:=⟨h.len,λj a c h1 h2=>(h.key j a c h1 h2).imp hT⟩
mutual
inductive Rep(T:kG)(N:hU):bj->V->D->Prop where
 |cj {q:bj}:Rep T N q .cj .cj
 |bl {q:bj} (b:Bool):Rep T N q (.bl b) (.bl b)
 |int {q:bj} (i:Int):Rep T N q (.int i) (.int i)
 |tup {q:bj} {p:Addr} {xs:ae} {ds:ab} (h:T p xs) (r:aA T N q 0 xs ds):Rep T N q (.ref p) (.tup ds)
 |lst {q:bj} {p:Addr} {xs:ae} {f:Fl} {ds:ab} (h:N q p (.l xs) f) (r:aA T N q 0 xs ds):Rep T N q (.ref p) (.lst f ds)
 |bU {q:bj} {p:Addr} {cs:ag} {as:aN} {xs:ae} {ep:Nat} {f:Fl} {ds:ab} (h:N q p (.d cs as xs ep) f) (k:eG T as cs) (r:aA T N q 0 xs ds):Rep T N q (.ref p) (.bU f cs ds)
 |dC {q:bj} {p:Addr} {cs:ag} {as:aN} {xs:ae} {ep:Nat} {f:Fl} {ds:ab} (h:N q p (.ej cs as xs ep) f) (k:gx T as cs) (r:aA T N q 0 xs ds):Rep T N q (.ref p) (.dC f cs ds)
inductive aA(T:kG)(N:hU):bj->Nat->ae->ab->Prop where
 |nil {q:bj} {n:Nat}:aA T N q n [] []
 |cons {q:bj} {n:Nat} {v:V} {d:D} {vs:ae} {ds:ab} (h:Rep T N (n::q) v d) (t:aA T N q (n+1) vs ds):aA T N q n (v::vs) (d::ds)
end
variable {N:hU}{ds ds' items:ab}
theorem Rep.ye{q:bj}{v:V}(h:Rep T N q v (.tup ds)):∃p xs,v=.ref p/\T p xs/\aA T N q 0 xs ds:=by
 cases h with
 |tup a b=>exact⟨_,_,rfl,a,b⟩
theorem Rep.rS{q:bj}{v:V}{f:Fl}(h:Rep T N q v (.lst f ds)):∃p xs,v=.ref p/\N q p (.l xs) f/\aA T N q 0 xs ds:=by
 cases h with
 |lst a b=>exact⟨_,_,rfl,a,b⟩
mutual
theorem qH:∀d:D,aR (λ_=>false) d=false
 |.cj=>rfl
 |.bl _=>rfl
 |.int _=>rfl
 |.tup ds=>fi ds
 |.lst _ ds=>fi ds
 |.bU _ _ ds=>fi ds
 |.dC _ _ ds=>fi ds
theorem fi:∀ds:ab,aP (λ_=>false) ds=false
 |[]=>rfl
 |d::ds=>by show(aR _ d||aP _ ds)=false;rw[qH d,fi ds];rfl
end
theorem C2{a b:Bool}(h:(a||b)=false):a=false/\b=false:=by cases a<;>cases b<;>first|exact⟨rfl,rfl⟩|cases h
variable {k' q':bj}{vs xs xs':ae}
section
variable {T T':kG}{N N':hU}{g:Fl->Fl}{P:Fl->Bool}{C:bj->bj->Prop}{I:Nat->Nat->Prop}
mutual
theorem Rep.gen(hT:∀p xs,T p xs->T' p xs)(h0:I 0 0)(hI:∀n n',I n n'->I (n+1) (n'+1))(hC:∀k k' n n',C k k'->I n n'->C (n::k) (n'::k'))(hN:∀k k' p xs f,C k k'->P f=false->N k p xs f->N' k' p xs (g f)):
  ∀{k:bj} {v:V} {d:D},Rep T N k v d->∀{k':bj},C k k'->aR P d=false->Rep T' N' k' v (aT g d)
 |_,_,_,.cj,_,_,_=>.cj
 |_,_,_,.bl b,_,_,_=>.bl b
 |_,_,_,.int i,_,_,_=>.int i
 |_,_,_,.tup h r,_,c,e=>.tup (hT _ _ h) (aA.gen hT h0 hI hC hN r c h0 e)
 |_,_,_,.lst h r,_,c,e=>.lst (hN _ _ _ _ _ c (C2 e).1 h) (aA.gen hT h0 hI hC hN r c h0 (C2 e).2)
 |_,_,_,.bU h k r,_,c,e=>.bU (hN _ _ _ _ _ c (C2 e).1 h) (k.imp hT) (aA.gen hT h0 hI hC hN r c h0 (C2 e).2)
 |_,_,_,.dC h k r,_,c,e=>.dC (hN _ _ _ _ _ c (C2 e).1 h) (k.imp hT) (aA.gen hT h0 hI hC hN r c h0 (C2 e).2)
theorem aA.gen(hT:∀p xs,T p xs->T' p xs)(h0:I 0 0)(hI:∀n n',I n n'->I (n+1) (n'+1))(hC:∀k k' n n',C k k'->I n n'->C (n::k) (n'::k'))(hN:∀k k' p xs f,C k k'->P f=false->N k p xs f->N' k' p xs (g f)):
  ∀{k:bj} {n:Nat} {vs:ae} {ds:ab},aA T N k n vs ds->∀{k':bj} {n':Nat},C k k'->I n n'->aP P ds=false->aA T' N' k' n' vs (aB g ds)
 |_,_,_,_,.nil,_,_,_,_,_=>.nil
 |_,_,_,_,.cons h t,_,_,c,i,e=>.cons (Rep.gen hT h0 hI hC hN h (hC _ _ _ _ c i) (C2 e).1) (aA.gen hT h0 hI hC hN t c (hI _ _ i) (C2 e).2)
end
theorem Rep.map{q:bj}(hT:∀p xs,T p xs->T' p xs)(hN:∀c p xs f,N (c++q) p xs f->N' (c++q') p xs (g f)){k:bj}{v:V}{d:D}(h:Rep T N k v d)(c:bj)(e:k=c++q):Rep T' N' (c++q') v (aT g d) :=
 Rep.gen (P:=λ_=>false) (C:=λk k'=>∃c,k=c++q/\k'=c++q') (I:=λn n'=>n=n') hT rfl (λ_ _ e=>by rw[e]) (λ_ _ n _ ⟨c,e1,e2⟩ e=>⟨n::c,by rw[e1];rfl,by rw[e2,<- e];rfl⟩) (λ_ _ p xs f ⟨c,e1,e2⟩ _ h=>by subst e1;subst e2;exact hN c p xs f h) h ⟨c,e,rfl⟩ (qH d)
theorem aA.map{q:bj}(hT:∀p xs,T p xs->T' p xs)(hN:∀c p xs f,N (c++q) p xs f->N' (c++q') p xs (g f)){k:bj}{n:Nat}(h:aA T N k n vs ds)(c:bj)(e:k=c++q):aA T' N' (c++q') n vs (aB g ds) :=
 aA.gen (P:=λ_=>false) (C:=λk k'=>∃c,k=c++q/\k'=c++q') (I:=λn n'=>n=n') hT rfl (λ_ _ e=>by rw[e]) (λ_ _ n _ ⟨c,e1,e2⟩ e=>⟨n::c,by rw[e1];rfl,by rw[e2,<- e];rfl⟩) (λ_ _ p xs f ⟨c,e1,e2⟩ _ h=>by subst e1;subst e2;exact hN c p xs f h) h ⟨c,e,rfl⟩ rfl (fi ds)
theorem Rep.ip(hT:∀p xs,T p xs->T' p xs)(hN:∀k k' p xs f,N k p xs f->N' k' p xs (g f)){k:bj}{v:V}{d:D}(h:Rep T N k v d)(k':bj):Rep T' N' k' v (aT g d) :=
 Rep.gen (P:=λ_=>false) (C:=λ_ _=>True) (I:=λ_ _=>True) hT trivial (λ_ _ e=>e) (λ_ _ _ _ e _=>e) (λk k' p xs f _ _ h=>hN k k' p xs f h) h trivial (qH d)
theorem aA.ip(hT:∀p xs,T p xs->T' p xs)(hN:∀k k' p xs f,N k p xs f->N' k' p xs (g f)){k:bj}{n:Nat}(h:aA T N k n vs ds)(k':bj)(n':Nat):aA T' N' k' n' vs (aB g ds) :=
 aA.gen (P:=λ_=>false) (C:=λ_ _=>True) (I:=λ_ _=>True) hT trivial (λ_ _ e=>e) (λ_ _ _ _ e _=>e) (λk k' p xs f _ _ h=>hN k k' p xs f h) h trivial trivial (fi ds)
end
mutual
theorem dE:∀d:D,aT id d=d
 |.cj=>rfl
 |.bl _=>rfl
 |.int _=>rfl
 |.tup ds=>by rw[aT,dD ds]
 |.lst f ds=>by rw[aT,dD ds];rfl
 |.bU f ks vs=>by rw[aT,dD vs];rfl
 |.dC f ks vs=>by rw[aT,dD vs];rfl
theorem dD:∀ds:ab,aB id ds=ds
 |[]=>rfl
 |d::ds=>by rw[aB,dE d,dD ds]
end
section
variable {T T':kG}{N N':hU}
theorem Rep.imp{q:bj}(hT:∀p xs,T p xs->T' p xs)(hN:∀c p xs f,N (c++q) p xs f->N' (c++q') p xs f){v:V}{d:D}(h:Rep T N q v d):Rep T' N' q' v d:=by
 have:=Rep.map (g:=id) hT hN h [] rfl;rw[dE]at this;exact this
theorem aA.imp{q:bj}{n:Nat}(hT:∀p xs,T p xs->T' p xs)(hN:∀c p xs f,N (c++q) p xs f->N' (c++q') p xs f)(h:aA T N q n vs ds):aA T' N' q' n vs ds:=by
 have:=aA.map (g:=id) hT hN h [] rfl;rw[dD]at this;exact this
theorem aA.length:∀{k:bj} {n:Nat} {vs:ae} {ds:ab},aA T N k n vs ds->vs.length=ds.length
 |_,_,_,_,.nil=>rfl
 |_,_,_,_,.cons _ t=>by simp[aA.length t]
theorem aA.get:∀{k:bj} {n j:Nat} {vs:ae} {ds:ab} {d:D},aA T N k n vs ds->ds[j]?=some d->∃v,vs[j]?=some v/\Rep T N ((n+j)::k) v d
 |_,_,_,_,_,_,.nil,e=>by simp at e
 |_,_,0,_,_,_,.cons h t,e=>by simp at e;subst e;exact⟨_,rfl,h⟩
 |_,n,j+1,_,_,_,.cons h t,e=>by
  obtain⟨v,h1,h2⟩:=aA.get (j:=j) t (by simpa using e);refine⟨v,by simpa using h1,?_⟩;have:n+1+j=n+(j+1):=by left
  rw[<- this];exact h2
theorem aA.tR:∀{k:bj} {n j:Nat} {vs:ae} {ds:ab} {v:V},aA T N k n vs ds->vs[j]?=some v->∃d,ds[j]?=some d/\Rep T N ((n+j)::k) v d
 |_,_,_,_,_,_,.nil,e=>by simp at e
 |_,_,0,_,_,_,.cons h t,e=>by simp at e;subst e;exact⟨_,rfl,h⟩
 |_,n,j+1,_,_,_,.cons h t,e=>by
  obtain⟨v,h1,h2⟩:=aA.tR (j:=j) t (by simpa using e);refine⟨v,by simpa using h1,?_⟩;have:n+1+j=n+(j+1):=by left
  rw[<- this];exact h2
theorem aA.mI{k:bj}(hN:∀k k' p xs f,N k p xs f->N k' p xs f):∀{n m l:Nat} {vs ws:ae} {ds es:ab},aA T N k n vs ds->aA T N k m ws es->aA T N k l (vs++ws) (ds++es)
 |_,_,_,_,_,_,_,.nil,t=>by
  have:=aA.ip (T':=T) (N':=N) (g:=id) (λ_ _ h=>h) hN t;rw[dD]at this;exact this _ _
 |_,_,_,_,_,_,_,.cons h t,u=>.cons (by
  have:=Rep.ip (T':=T) (N':=N) (g:=id) (λ_ _ h=>h) hN h;rw[dE]at this;exact this _) (aA.mI hN t u)
end
def KL(K:ao)(a:Addr)(xs:ae):Prop :=
 ∃(o:Obj) (aI:aM) (n:Nat),K.lookup a=some o/\o.cls=.type "list" /\ o.dict=none/\o.data=.seq aI n/\aI.size<=sizeLine/\Vals xs aI.toList
def DO(p:Addr)(cs:ag)(as:aN)(xs:ae)(ep:Nat)(h:Heap):Prop :=
 ∃(zs:List (aa×Addr×Value)) (o:Obj) (es:Array DictEntry),zs.map (·.1)=cs/\zs.map (·.2.1)=as/\Vals xs (zs.map (·.2.2))/\h.get? p=some o/\o.ExactDict/\o.data=.dict es ep /\
  es.toList=zs.map (λz=>⟨reduceHash (Builtin.Tuple.tupleHashOf (z.1.map hashInt)),.ref z.2.1,z.2.2⟩)/\cs.Nodup/\cs.length<=sizeLine/\(p==sysModules)=false
noncomputable def qo:aa->Int
 |h::lot=>reduceHash (Builtin.Tuple.tupleHashOf [reduceHash (Builtin.Tuple.tupleHashOf (lot.map hashInt)),hashInt h])
 |[]=>0
def PJ(p:Addr)(cs:ag)(as:aN)(xs:ae)(ep:Nat)(h:Heap):Prop :=
 ∃(zs:List (aa×Addr×Value)) (o:Obj) (es:Array DictEntry),zs.map (·.1)=cs/\zs.map (·.2.1)=as/\Vals xs (zs.map (·.2.2))/\h.get? p=some o/\o.ExactDict/\o.data=.dict es ep /\
  es.toList=zs.map (λz=>⟨qo z.1,.ref z.2.1,z.2.2⟩)/\cs.Nodup/\cs.length<=sizeLine/\(p==sysModules)=false
noncomputable abbrev dO(H:Hp)(p:Addr)(n:Nd):Prop:=match n with
 |.l xs=>H p=some (.lst xs)
 |.d cs as xs ep=>H p=some (.ext (DO p cs as xs ep))
 |.ej cs as xs ep=>H p=some (.ext (PJ p cs as xs ep))
variable {H H' H1 H2:Hp}
theorem dO.ne{p:Addr}{n:Nd}(h:dO H p n):H p≠none:=by
 cases n with
 |l xs=>intro z;rw[show H p=some (.lst xs) from h]at z;cases z
 |d cs as xs ep=>intro z;rw[show H p=some (.ext (DO p cs as xs ep)) from h]at z;cases z
 |ej cs as xs ep=>intro z;rw[show H p=some (.ext (PJ p cs as xs ep)) from h]at z;cases z
theorem dO.at{p:Addr}{n:Nd}(e:∀o,H p=some o->H' p=some o)(h:dO H p n):dO H' p n:=by
 cases n with
 |l xs=>exact e _ h
 |d cs as xs ep=>exact e _ h
 |ej cs as xs ep=>exact e _ h
theorem dO.same{p:Addr}{n:Nd}(e:aJ H H')(h:dO H p n):dO H' p n:=h.at (e p)
theorem dO.some{H:Hp}{p:Addr}{n:Nd}(h:dO H p n):∃o,H p=some o/\(∀xs,o≠.tup xs)/\(∀a u,o≠.g_ a u):=by
 cases n with
 |l xs=>exact⟨_,h,λ_ z=>(nomatch z),λ_ _ z=>(nomatch z)⟩
 |d cs as xs ep=>exact⟨_,h,λ_ z=>(nomatch z),λ_ _ z=>(nomatch z)⟩
 |ej cs as xs ep=>exact⟨_,h,λ_ z=>(nomatch z),λ_ _ z=>(nomatch z)⟩
def nd(K:ao)(R A:ai)(τ:Addr->Option bj)(H:Hp):hU:=λq p n f=>match f with
 |.ow=>dO H p n/\τ p=some q
 |.fz=>dO H p n/\R p
 |.al=>dO H p n/\A p
 |.sc=>match n with
  |.l xs=>(∃o,H p=some (.g_ o (.lst xs)))\/KL K p xs
  |.d _ _ _ _=>False
  |.ej _ _ _ _=>False
variable {A F G R R' R1:Addr->Prop}{K:ao}{τ τ':Addr->Option bj}
theorem nd.Aq{q:bj}{p:Addr}{n:Nd}(h:nd K R A τ H q p n .sc):∃xs,n=.l xs/\((∃o,H p=some (.g_ o (.lst xs)))\/KL K p xs):=by
 cases n with
 |l xs=>exact⟨xs,rfl,h⟩
 |d _ _ _ _=>exact h.elim
 |ej _ _ _ _=>exact h.elim
theorem nd.sq{q:bj}{p:Addr}{f:Fl}(h:nd K R A τ H q p (.l xs) f):dh K H p xs:=by
 cases f with
 |ow=>exact dh.of h.1
 |fz=>exact dh.of h.1
 |al=>exact dh.of h.1
 |sc=>exact h.elim (λh=>.inl (.inr h)) .inr
theorem nd.lst{K:ao}{R A:ai}{τ:Addr->Option bj}{H:Hp}{q:bj}{p:Addr}{xs:ae}{f:Fl}(h:nd K R A τ H q p (.l xs) f)(hf:vn f=false):H p=some (.lst xs):=by
 cases f with
 |ow=>exact h.1
 |fz=>exact h.1
 |al=>exact h.1
 |sc=>cases hf
variable {ep k1 k2 n1 t':Nat}
theorem nd.dat{q:bj}{p:Addr}{cs:ag}{f:Fl}(h:nd K R A τ H q p (.d cs as xs ep) f):H p=some (.ext (DO p cs as xs ep)):=by
 cases f with
 |ow=>exact h.1
 |fz=>exact h.1
 |al=>exact h.1
 |sc=>exact h.elim
theorem nd.pat{q:bj}{p:Addr}{cs:ag}{f:Fl}(h:nd K R A τ H q p (.ej cs as xs ep) f):H p=some (.ext (PJ p cs as xs ep)):=by
 cases f with
 |ow=>exact h.1
 |fz=>exact h.1
 |al=>exact h.1
 |sc=>exact h.elim
theorem Rd.same{a:Addr}{u:HO}(e:aJ H H')(h:Rd H a u):Rd H' a u:=h.elim (λh=>.inl (e _ _ h)) λ⟨o,h⟩=>.inr ⟨o,e _ _ h⟩
theorem aU.same{K:ao}{H H':Hp}{a:Addr}{xs:ae}(e:aJ H H')(h:aU K H a xs):aU K H' a xs:=h.elim (λh=>.inl (Rd.same e h)) .inr
theorem nd.same{K:ao}{R A:ai}{τ:Addr->Option bj}{H H':Hp}{q:bj}{p:Addr}{n:Nd}{f:Fl}(e:aJ H H')(h:nd K R A τ H q p n f):nd K R A τ H' q p n f:=by
 cases f with
 |ow=>exact⟨h.1.same e,h.2⟩
 |fz=>exact⟨h.1.same e,h.2⟩
 |al=>exact⟨h.1.same e,h.2⟩
 |sc=>cases n with
  |l xs=>exact h.elim (λ⟨o,h⟩=>.inl ⟨o,e _ _ h⟩) .inr
  |d _ _ _ _=>exact h.elim
  |ej _ _ _ _=>exact h.elim
theorem Rd.there{a:Addr}{u:HO}(h:Rd H a u):H a≠none:=by
 rcases h with h|⟨o,h⟩<;>(rw[h];simp)
theorem aJ.ne(e:aJ H H'){a:Addr}(h:H a≠none):H' a≠none:=by
 cases q:H a with
 |none=>exact absurd q h
 |some o=>rw[e a o q];simp
structure SI(X:Cx)(F R:ai)(τ:Addr->Option bj)(ρ:a_)(σ:St)(H:Hp):Prop where
 len:ρ.length=σ.length
 rep:∀(i:Nat) (d:D),ρ[i]?=some (some d)->∃v,σ[i]?=some (some v)/\Rep (aU X.K H) (nd X.K R (λ_=>False) τ H) [i] v d
 rt:∀p,R p->τ p=none
 rh:∀p,R p->H p≠none
 rf:∀p,R p->F p\/X.H₀ p=none
 th:∀p q,τ p=some q->H p≠none
 t0:∀p q,τ p=some q->X.H₀ p=none
 same:aJ X.H₀ H
variable {X:Cx}{ρ:a_}{σ:L2.St}
theorem SI.go(S:SI X F R τ ρ σ H)(e:aJ H H'):SI X F R τ ρ σ H' :=
 ⟨S.len,λi d h=>let ⟨v,h1,h2⟩:=S.rep i d h;⟨v,h1,h2.imp (λ_ _ h=>aU.same e h) λ_ _ _ _ h=>nd.same e h⟩,S.rt,λp h=>aJ.ne e (S.rh p h),S.rf,λp q h=>aJ.ne e (S.th p q h),S.t0,S.same.trans e⟩
def jl(G:ai)(τ:Addr->Option bj)(fv:aO)(p:Addr):Prop:=G p/\∀c i,τ p=some (c++[i])->i∈fv
variable {caps fv fv':aO}
theorem jl.mono{p:Addr}(h:jl G τ fv p)(hs:∀i∈fv,i∈fv'):jl G τ fv' p:=⟨h.1,λc i e=>hs i (h.2 c i e)⟩
def gP(X:Cx)(F:ai)(p:Addr):Prop:=F p\/X.H₀ p=none
def bQ(K:ao)(G R:ai)(τ:Addr->Option bj)(fv:aO)(H H':Hp)(v:V)(d:D):Prop :=
 ∃τt:Addr->Option bj,(∀p q,τt p=some q->H p=none)/\Rep (aU K H') (nd K R (jl G τ fv) τt H') [] v d
def cg(K:ao)(G R:ai)(τ:Addr->Option bj)(fv:aO)(H H':Hp)(vs:ae)(ds:ab):Prop :=
 ∃τt:Addr->Option bj,(∀p q,τt p=some q->H p=none)/\aA (aU K H') (nd K R (jl G τ fv) τt H') [] 0 vs ds
section
variable {K:ao}{G R:ai}{τ:Addr->Option bj}{fv fv':aO}{H H1 H2:Hp}{v:V}{d:D}{vs:ae}{ds:ab}
theorem bQ.go(h:bQ K G R τ fv H H1 v d)(e:aJ H1 H2):bQ K G R τ fv H H2 v d :=
 let ⟨τt,h1,h2⟩:=h;⟨τt,h1,h2.imp (λ_ _ h=>aU.same e h) λ_ _ _ _ h=>nd.same e h⟩
theorem nd.mono{A':Addr->Prop}{τ:Addr->Option bj}{q:bj}{p:Addr}{xs:Nd}{f:Fl}(h:nd K R A τ H q p xs f)(hR:R p->R' p)(hA:A p->A' p)(ht:τ p=some q->τ' p=some q'):nd K R' A' τ' H q' p xs f:=by
 cases f with
 |ow=>exact⟨h.1,ht h.2⟩
 |fz=>exact⟨h.1,hR h.2⟩
 |al=>exact⟨h.1,hA h.2⟩
 |sc=>exact h
theorem bQ.mono(h:bQ K G R τ fv H H1 v d)(hs:∀i∈fv,i∈fv'):bQ K G R τ fv' H H1 v d :=
 let ⟨τt,h1,h2⟩:=h;⟨τt,h1,h2.imp (λ_ _ h=>h) λ_ _ _ _ h=>h.mono id (λh=>h.mono hs) id⟩
theorem cg.mono(h:cg K G R τ fv H H1 vs ds)(hs:∀i∈fv,i∈fv'):cg K G R τ fv' H H1 vs ds :=
 let ⟨τt,h1,h2⟩:=h;⟨τt,h1,h2.imp (λ_ _ h=>h) λ_ _ _ _ h=>h.mono id (λh=>h.mono hs) id⟩
theorem bQ.old{H0:Hp}(h:bQ K G R τ fv H H1 v d)(e:aJ H0 H):bQ K G R τ fv H0 H1 v d :=
 let ⟨τt,h1,h2⟩:=h;⟨τt,λp q z=>e.free (h1 p q z),h2⟩
theorem bQ.int{i:Int}:bQ K G R τ fv H H1 (.int i) (.int i):=⟨λ_=>none,λ_ _ h=>by simp at h,.int i⟩
theorem bQ.bl{b:Bool}:bQ K G R τ fv H H1 (.bl b) (.bl b):=⟨λ_=>none,λ_ _ h=>by simp at h,.bl b⟩
theorem bQ.cj:bQ K G R τ fv H H1 .cj .cj:=⟨λ_=>none,λ_ _ h=>by simp at h,.cj⟩
theorem bQ.isInt{i:Int}(h:bQ K G R τ fv H H1 v (.int i)):v=.int i:=by obtain⟨_,_,h⟩:=h;cases h;rfl
theorem bQ.yK{i:Bool}(h:bQ K G R τ fv H H1 v (.bl i)):v=.bl i:=by obtain⟨_,_,h⟩:=h;cases h;rfl
def qb:bj->bj
 |[]=>[]
 |[n]=>[n+1]
 |a::b::r=>a::qb (b::r)
theorem sy(c:bj)(n:Nat):qb (c++[n])=c++[n+1]:=by
 induction c with
 |nil=>rfl
 |cons a c ih =>
  cases c with
  |nil=>rfl
  |cons b c=>show a::qb (b::c++[n])=_;rw[ih];rfl
theorem aA.shift{T:kG}{N N':hU}(hN:∀c n p xs f,N (c++[n]) p xs f->N' (c++[n+1]) p xs f):∀{n:Nat} {vs:ae} {ds:ab},aA T N [] n vs ds->aA T N' [] (n+1) vs ds
 |_,_,_,.nil=>.nil
 |n,_,_,.cons h t=>.cons (h.imp (q:=[n]) (q':=[n+1]) (λ_ _ h=>h) λc p xs f h=>hN c n p xs f h) (aA.shift hN t)
theorem cg.nil:cg K G R τ fv H H1 [] []:=⟨λ_=>none,λ_ _ h=>by simp at h,.nil⟩
open Classical in
theorem cg.cons(e1:aJ H H1)(e2:aJ H1 H2)(h:bQ K G R τ fv H H1 v d)(t:cg K G R τ fv H1 H2 vs ds):cg K G R τ fv H H2 (v::vs) (d::ds):=by
 obtain⟨τ1,f1,h1⟩:=h;obtain⟨τ2,f2,h2⟩:=t;refine⟨λp=>if H1 p=none then(τ2 p).map qb else(τ1 p).map (· ++ [0]),λp q hq=>?_,.cons (h1.imp (q':=[0]) (λ_ _ h=>aU.same e2 h) λc p xs f h=>?_) (aA.shift (λc n p xs f h=>?_) h2)⟩
 ·by_cases hp:H1 p=none
  ·exact e1.free hp
  ·simp only[hp,if_false]at hq;cases q1:τ1 p with
   |none=>rw[q1]at hq;simp at hq
   |some k=>exact f1 p k q1
 ·have h':nd K R (jl G τ fv) τ1 H2 (c++[]) p xs f:=nd.same e2 h;cases f with
  |ow =>
   have hp:H1 p≠none:=h.1.ne;refine⟨h'.1,?_⟩;simp only[hp,if_false];rw[h.2];simp
  |fz=>exact h'
  |al=>exact h'
  |sc=>exact h'
 ·cases f with
  |ow =>
   have hp:H1 p=none:=f2 p _ h.2;refine⟨h.1,?_⟩;simp only[hp,if_true];rw[h.2];simp[sy]
  |fz=>exact h
  |al=>exact h
  |sc=>exact h
end
def tD(X:Cx)(F:ai)(Φ:aY)(c:CE):TE:=λσ H Q=>∃R τ ρ d,SI X F R τ ρ σ H/\bw Φ c ρ=ok d/\∀v H',aJ H H'->bQ X.K (gP X F) R τ (g9 c) H H' v d->Q v H'
def si(X:Cx)(F:ai)(Φ:aY)(cs:aF):TA:=λσ H Q=>∃R τ ρ ds,SI X F R τ ρ σ H/\cu Φ cs ρ=ok ds/\∀vs H',aJ H H'->cg X.K (gP X F) R τ (cW cs) H H' vs ds->Q vs H'
def gy(X:Cx)(F:ai)(Φ:aY)(c:CE):TT:=λσ H Q=>∃R τ ρ b,SI X F R τ ρ σ H/\y6 Φ c ρ=ok b/\∀H',aJ H H'->Q b H'
theorem PE.imp{e:Expr}{t t':TE}(h:PE X e t)(hi:∀σ H Q,t' σ H Q->t σ H Q):PE X e t':=λpins s σ H Q I hw=>h pins s σ H Q I (hi σ H Q hw)
theorem PT.imp{e:Expr}{t t':TT}(h:PT X e t)(hi:∀σ H Q,t' σ H Q->t σ H Q):PT X e t':=λpins s σ H Q I hw=>h pins s σ H Q I (hi σ H Q hw)
theorem PW.imp{e:Expr}{t t':TT}(h:PW X e t)(hi:∀σ H Q,t' σ H Q->t σ H Q):PW X e t':=λwh pins s σ H Q I hw=>h wh pins s σ H Q I (hi σ H Q hw)
theorem PA.imp{es:av}{t t':TA}(h:PA X es t)(hi:∀σ H Q,t' σ H Q->t σ H Q):PA X es t':=λpos pins s σ H Q I hw=>h pos pins s σ H Q I (hi σ H Q hw)
variable {st:Stmt}
theorem PS.imp{t t':TS}(h:PS X st t)(hi:∀D σ H,t' D σ H->t D σ H):PS X st t':=λpins s σ H D I hw=>h pins s σ H D I (hi D σ H hw)
theorem mL.imp{st:br}{t t':TS}(h:mL X st t)(hi:∀D σ H,t' D σ H->t D σ H):mL X st t':=λpins s σ H D I hw=>h pins s σ H D I (hi D σ H hw)
theorem nQ:∀(as bs:ab),dt as bs=true ↔ as.length=bs.length/\∀(j:Nat) (a b:D),as[j]?=some a->bs[j]?=some b->lJ a b=true
 |[],[]=>by simp[dt]
 |[],b::bs=>by simp[dt]
 |a::as,[]=>by simp[dt]
 |a::as,b::bs=>by
  rw[dt,Bool.and_eq_true,nQ as bs];constructor
  ·rintro ⟨h1,h2,h3⟩;refine⟨by simp[h2],λj x y hx hy=>?_⟩;cases j with
   |zero=>simp at hx hy;subst hx hy;exact h1
   |succ j=>exact h3 j x y (by simpa using hx) (by simpa using hy)
  ·rintro ⟨h2,h3⟩;exact⟨h3 0 a b rfl rfl,by simpa using h2,λj x y hx hy=>h3 (j+1) x y (by simpa using hx) (by simpa using hy)⟩
def PM(as bs:ab)(j:Nat):Bool:=match as[j]?,bs[j]? with
 |some a,some b=>lJ a b
 |_,_=>false
theorem jy(as bs:ab):((List.range (min as.length bs.length)).all (PM as bs)&&as.length==bs.length)=dt as bs:=by
 rw[Bool.eq_iff_iff,nQ,Bool.and_eq_true,List.all_eq_true,beq_iff_eq];constructor
 ·rintro ⟨h1,h2⟩;refine⟨h2,λj a b ha hb=>?_⟩;have hj:j<as.length:=by
   by_cases h:j<as.length
   ·exact h
   ·rw[List.getElem?_eq_none (by left)]at ha;cases ha
  have:=h1 j (by rw[List.mem_range];left);unfold PM at this;rw[ha,hb]at this;exact this
 ·rintro ⟨h2,h1⟩;refine⟨λj hj=>?_,h2⟩;rw[List.mem_range]at hj;unfold PM;have ha:as[j]?=some as[j]:=aao (by left);have hb:bs[j]?=some bs[j]:=aao (by left);rw[ha,hb];exact h1 j _ _ ha hb
section
variable {X:Cx}{pins:aj}{σ:St}{H:Hp}{s:Shared}{N N':hU}
theorem eQ{n:Nat}(h:cI n (.tup ds)=true):∃m,n=m+1/\∀d∈ds,cI m d=true:=by
 cases n with
 |zero=>cases h
 |succ m=>exact⟨m,rfl,List.all_eq_true.mp h⟩
theorem eR{n:Nat}{f:Fl}(h:cI n (.lst f ds)=true):∃m,n=m+1/\∀d∈ds,cI m d=true:=by
 cases n with
 |zero=>cases h
 |succ m=>exact⟨m,rfl,List.all_eq_true.mp h⟩
theorem w_(I:Inv X pins σ H s){p:Addr}{ys:ae}(h:dh X.K H p xs)(h':aU X.K H p ys):False:=by
 obtain⟨aI,_,pl,_⟩:=I.list h;obtain⟨its',_,pt,_⟩:=I.tuple h';exact SeqAt.ne_of_list_tuple pl.isList pt rfl
theorem An(I:Inv X pins σ H s)(hN:∀q p xs f,N q p (.l xs) f->dh X.K H p xs)(C9:∀q p xs f,N' q p (.l xs) f->dh X.K H p xs):
  ∀(n:Nat) {k k':bj} {v:V} {d d':D},Rep (aU X.K H) N k v d->Rep (aU X.K H) N' k' v d'->cI n d=true->cI n d'=true->lJ d d'=true:=by
 intro n;induction n with
 |zero =>
  intro k k' v d d' h h' ho eF;cases h with
  |cj=>cases h';rfl
  |bl b=>cases h';exact abL b
  |int i=>cases h';exact abL i
  |tup _ _=>obtain⟨m,hm,_⟩:=eQ ho;left
  |lst _ _=>obtain⟨m,hm,_⟩:=eR ho;left
  |bU _ _=>simp[cI]at ho
  |dC _ _=>simp[cI]at ho
 |succ n ih =>
  have sub:∀{q q':bj} {xs:ae} {ds ds':ab},aA (aU X.K H) N q 0 xs ds->aA (aU X.K H) N' q' 0 xs ds'->(∀d∈ds,cI n d=true)->(∀d∈ds',cI n d=true)->dt ds ds'=true:=by
   intro q q' xs ds ds' r r' ho eF;rw[nQ];refine⟨by rw[<- r.length,<- r'.length],λj a b ha hb=>?_⟩;obtain⟨v1,h1,r1⟩:=r.get ha;obtain⟨v2,h2,r2⟩:=r'.get hb;rw[h1]at h2;cases h2;exact ih r1 r2 (ho a (aaD ha)) (eF b (aaD hb))
  intro k k' v d d' h h' ho eF;cases h with
  |cj=>cases h';rfl
  |bl b=>cases h';exact abL b
  |int i=>cases h';exact abL i
  |tup h r =>
   obtain⟨m,hm,ho⟩:=eQ ho;obtain rfl:n=m:=by left
   cases h' with
   |tup h' r' =>
    obtain⟨m,hm,eF⟩:=eQ eF;obtain rfl:n=m:=by left
    obtain rfl:=I.kQ h h';exact sub r r' ho eF
   |lst h' r'=>exact(w_ I (C9 _ _ _ _ h') h).elim
   |bU _ _=>simp[cI]at eF
   |dC _ _=>simp[cI]at eF
  |lst h r =>
   obtain⟨m,hm,ho⟩:=eR ho;obtain rfl:n=m:=by left
   cases h' with
   |tup h' r'=>exact(w_ I (hN _ _ _ _ h) h').elim
   |lst h' r' =>
    obtain⟨m,hm,eF⟩:=eR eF;obtain rfl:n=m:=by left
    obtain rfl:=I.iq (hN _ _ _ _ h) (C9 _ _ _ _ h');exact sub r r' ho eF
   |bU _ _=>simp[cI]at eF
   |dC _ _=>simp[cI]at eF
  |bU _ _=>simp[cI]at ho
  |dC _ _=>simp[cI]at ho
structure Alike(A:aD)(s:Shared)(u u':Value)(b:Bool):Prop where
 eq:SeqAt.EqAt A s u u' b
 rc:SeqAt.RcAt A s u u' b
 ne:SeqAt.RcNeAt A s u u' (!b)
theorem alike(I:Inv X pins σ H s)(hN:∀q p xs f,N q p (.l xs) f->dh X.K H p xs)(C9:∀q p xs f,N' q p (.l xs) f->dh X.K H p xs):
  ∀(n:Nat) (A:aD) {k k':bj} {v v':V} {u u':Value} {d d':D},Rep (aU X.K H) N k v d->Rep (aU X.K H) N' k' v' d'->cI n d=true->cI n d'=true->RelV v u->RelV v' u'->A.units+n<cLine ->
   Alike A s u u' (lJ d d'):=by
 intro n;induction n with
 |zero =>
  intro A k k' v v' u u' d d' h h' ho eF r r' hu;cases h with
  |tup _ _=>obtain⟨m,hm,_⟩:=eQ ho;left
  |lst _ _=>obtain⟨m,hm,_⟩:=eR ho;left
  |bU _ _=>simp[cI]at ho
  |dC _ _=>simp[cI]at ho
  |cj =>
   cases r;cases h' with
   |tup _ _=>obtain⟨m,hm,_⟩:=eQ eF;left
   |lst _ _=>obtain⟨m,hm,_⟩:=eR eF;left
   |bU _ _=>simp[cI]at eF
   |dC _ _=>simp[cI]at eF
   |cj=>cases r';exact⟨abt _,SeqAt.RcAt.none_none,SeqAt.RcNeAt.none_none⟩
   |bl b=>cases r';exact⟨abT b,SeqAt.RcAt.none_bool b,SeqAt.RcNeAt.none_bool b⟩
   |int b=>obtain⟨t,rfl⟩:=r';exact⟨ab1 b t,SeqAt.RcAt.none_int b t,SeqAt.RcNeAt.none_int b t⟩
  |bl a =>
   cases r;cases h' with
   |tup _ _=>obtain⟨m,hm,_⟩:=eQ eF;left
   |lst _ _=>obtain⟨m,hm,_⟩:=eR eF;left
   |bU _ _=>simp[cI]at eF
   |dC _ _=>simp[cI]at eF
   |cj=>cases r';exact⟨abU a,SeqAt.RcAt.bool_none a,SeqAt.RcNeAt.bool_none a⟩
   |bl b=>cases r';exact⟨abV a b,SeqAt.RcAt.bool_bool a b,SeqAt.RcNeAt.bool_bool a b⟩
   |int b=>obtain⟨t,rfl⟩:=r';exact⟨ab2 a b t,SeqAt.RcAt.bool_int a b t,SeqAt.RcNeAt.bool_int a b t⟩
  |int a =>
   obtain⟨t',rfl⟩:=r;cases h' with
   |tup _ _=>obtain⟨m,hm,_⟩:=eQ eF;left
   |lst _ _=>obtain⟨m,hm,_⟩:=eR eF;left
   |bU _ _=>simp[cI]at eF
   |dC _ _=>simp[cI]at eF
   |cj=>cases r';exact⟨ab3 a t',SeqAt.RcAt.int_none a t',SeqAt.RcNeAt.int_none a t'⟩
   |bl b=>cases r';exact⟨ab4 a t' b,SeqAt.RcAt.int_bool a t' b,SeqAt.RcNeAt.int_bool a t' b⟩
   |int b=>obtain⟨t,rfl⟩:=r';exact⟨aby a t' b t,SeqAt.RcAt.int_int a t' b t,SeqAt.RcNeAt.int_int a t' b t⟩
 |succ n ih =>
  intro A k k' v v' u u' d d' h h' ho eF r r' hu;have eY:A.units<cLine:=by left
  have Ue:A.in1.units+n<cLine:=by show A.units+1+n<cLine;left
  have sub:∀{q q':bj} {xs xs':ae} {ds ds':ab} {aI its':ak},aA (aU X.K H) N q 0 xs ds->aA (aU X.K H) N' q' 0 xs' ds'->(∀d∈ds,cI n d=true)->(∀d∈ds',cI n d=true)->Vals xs aI->Vals xs' its' ->
    ∀(j:Nat) (h1:j<aI.toArray.size) (h2:j<its'.toArray.size),SeqAt.EqAt A.in1 s aI.toArray[j] its'.toArray[j] (PM ds ds' j):=by
   intro q q' xs xs' ds ds' aI its' rs rL hd Fs rv uw j h1 h2;have l1:ds.length=aI.length:=by rw[<- rs.length,rv.length]
   have l2:ds'.length=its'.length:=by rw[<- rL.length,uw.length]
   simp only[List.size_toArray]at h1 h2;have ea:ds[j]?=some ds[j]:=aao (by left);have eb:ds'[j]?=some ds'[j]:=aao (by left);obtain⟨w1,g1,p1⟩:=rs.get ea;obtain⟨w2,g2,p2⟩:=rL.get eb;obtain⟨u1,k1,z1⟩:=rv.get g1;obtain⟨u2,k2,z2⟩:=uw.get g2;have:=(ih A.in1 p1 p2 (hd _ (abM _)) (Fs _ (abM _)) z1 z2 Ue).eq;unfold PM;rw[ea,eb];rw[List.getElem?_eq_getElem h1]at k1;rw[List.getElem?_eq_getElem h2]at k2;cases k1;cases k2;simpa using this
  cases h with
  |cj =>
   cases r;cases h' with
   |bU _ _=>simp[cI]at eF
   |dC _ _=>simp[cI]at eF
   |cj=>cases r';exact⟨abt _,SeqAt.RcAt.none_none,SeqAt.RcNeAt.none_none⟩
   |bl b=>cases r';exact⟨abT b,SeqAt.RcAt.none_bool b,SeqAt.RcNeAt.none_bool b⟩
   |int b=>obtain⟨t,rfl⟩:=r';exact⟨ab1 b t,SeqAt.RcAt.none_int b t,SeqAt.RcNeAt.none_int b t⟩
   |tup h' rr=>cases r';obtain⟨aI,_,pt,_⟩:=I.tuple h';exact⟨SeqAt.EqAt.none_tuple pt eY,SeqAt.RcAt.none_tuple pt eY,SeqAt.RcNeAt.none_tuple pt eY⟩
   |lst h' rr=>cases r';obtain⟨aI,_,pt,_⟩:=I.list (C9 _ _ _ _ h');exact⟨SeqAt.EqAt.none_list pt.isList eY,SeqAt.RcAt.none_list pt.isList eY,SeqAt.RcNeAt.none_list pt.isList eY⟩
  |bl a =>
   cases r;cases h' with
   |bU _ _=>simp[cI]at eF
   |dC _ _=>simp[cI]at eF
   |cj=>cases r';exact⟨abU a,SeqAt.RcAt.bool_none a,SeqAt.RcNeAt.bool_none a⟩
   |bl b=>cases r';exact⟨abV a b,SeqAt.RcAt.bool_bool a b,SeqAt.RcNeAt.bool_bool a b⟩
   |int b=>obtain⟨t,rfl⟩:=r';exact⟨ab2 a b t,SeqAt.RcAt.bool_int a b t,SeqAt.RcNeAt.bool_int a b t⟩
   |tup h' rr=>cases r';obtain⟨aI,_,pt,_⟩:=I.tuple h';exact⟨SeqAt.EqAt.bool_tuple a pt eY,SeqAt.RcAt.bool_tuple a pt eY,SeqAt.RcNeAt.bool_tuple a pt eY⟩
   |lst h' rr=>cases r';obtain⟨aI,_,pt,_⟩:=I.list (C9 _ _ _ _ h');exact⟨SeqAt.EqAt.bool_list a pt.isList eY,SeqAt.RcAt.bool_list a pt.isList eY,SeqAt.RcNeAt.bool_list a pt.isList eY⟩
  |int a =>
   obtain⟨t',rfl⟩:=r;cases h' with
   |bU _ _=>simp[cI]at eF
   |dC _ _=>simp[cI]at eF
   |cj=>cases r';exact⟨ab3 a t',SeqAt.RcAt.int_none a t',SeqAt.RcNeAt.int_none a t'⟩
   |bl b=>cases r';exact⟨ab4 a t' b,SeqAt.RcAt.int_bool a t' b,SeqAt.RcNeAt.int_bool a t' b⟩
   |int b=>obtain⟨t,rfl⟩:=r';exact⟨aby a t' b t,SeqAt.RcAt.int_int a t' b t,SeqAt.RcNeAt.int_int a t' b t⟩
   |tup h' rr=>cases r';obtain⟨aI,_,pt,_⟩:=I.tuple h';exact⟨SeqAt.EqAt.int_tuple a t' pt eY,SeqAt.RcAt.int_tuple a t' pt eY,SeqAt.RcNeAt.int_tuple a t' pt eY⟩
   |lst h' rr=>cases r';obtain⟨aI,_,pt,_⟩:=I.list (C9 _ _ _ _ h');exact⟨SeqAt.EqAt.int_list a t' pt.isList eY,SeqAt.RcAt.int_list a t' pt.isList eY,SeqAt.RcNeAt.int_list a t' pt.isList eY⟩
  | @tup _ p xs ds h rs =>
   cases r;obtain⟨aI,rv,pt,_⟩:=I.tuple h;have pt:s.heap.IsTuple p aI.toArray:=pt;cases h' with
   |bU _ _=>simp[cI]at eF
   |dC _ _=>simp[cI]at eF
   |cj=>cases r';exact⟨SeqAt.EqAt.tuple_none pt eY,SeqAt.RcAt.tuple_none pt eY,SeqAt.RcNeAt.tuple_none pt eY⟩
   |bl b=>cases r';exact⟨SeqAt.EqAt.tuple_bool b pt eY,SeqAt.RcAt.tuple_bool b pt eY,SeqAt.RcNeAt.tuple_bool b pt eY⟩
   |int b=>obtain⟨t,rfl⟩:=r';exact⟨SeqAt.EqAt.tuple_int b t pt eY,SeqAt.RcAt.tuple_int b t pt eY,SeqAt.RcNeAt.tuple_int b t pt eY⟩
   |lst h' rr=>cases r';obtain⟨its',_,pl,_⟩:=I.list (C9 _ _ _ _ h');exact⟨SeqAt.EqAt.tuple_list pt pl.isList eY,SeqAt.RcAt.tuple_list pt pl.isList eY,SeqAt.RcNeAt.tuple_list pt pl.isList eY⟩
   | @tup _ p' xs' ds' h' rL =>
    cases r';obtain⟨m,hm,Hb⟩:=eQ ho;obtain rfl:n=m:=by left
    obtain⟨m,hm,qC⟩:=eQ eF;obtain rfl:n=m:=by left
    obtain⟨its',uw,QI,_⟩:=I.tuple h';have QI:s.heap.IsTuple p' its'.toArray:=QI;have key:=sub rs rL Hb qC rv uw;have l1:ds.length=aI.toArray.size:=by rw[List.size_toArray,<- rs.length,rv.length]
    have l2:ds'.length=its'.toArray.size:=by rw[List.size_toArray,<- rL.length,uw.length]
    have rc:SeqAt.RcAt A s (.ref p) (.ref p') (lJ (.tup ds) (.tup ds')):=by
     have:=SeqAt.RcAt.tuples pt QI eY key;rw[<- l1,<- l2,jy]at this;exact this
    refine⟨?_,rc,?_⟩
    ·by_cases hp:p=p'
     ·subst hp;rw[An I hN C9 (n+1) (Rep.tup h rs) (Rep.tup h' rL) ho eF];exact abt _
     ·exact SeqAt.EqAt.of_refs hp rc
    ·have:=SeqAt.RcNeAt.tuples pt QI eY key;rw[<- l1,<- l2,jy]at this;exact this
  | @lst _ p xs f ds h rs =>
   cases r;obtain⟨aI,rv,pl,_⟩:=I.list (hN _ _ _ _ h);have pl:=pl.isList;cases h' with
   |bU _ _=>simp[cI]at eF
   |dC _ _=>simp[cI]at eF
   |cj=>cases r';exact⟨SeqAt.EqAt.list_none pl eY,SeqAt.RcAt.list_none pl eY,SeqAt.RcNeAt.list_none pl eY⟩
   |bl b=>cases r';exact⟨SeqAt.EqAt.list_bool b pl eY,SeqAt.RcAt.list_bool b pl eY,SeqAt.RcNeAt.list_bool b pl eY⟩
   |int b=>obtain⟨t,rfl⟩:=r';exact⟨SeqAt.EqAt.list_int b t pl eY,SeqAt.RcAt.list_int b t pl eY,SeqAt.RcNeAt.list_int b t pl eY⟩
   |tup h' rr=>cases r';obtain⟨its',_,pt,_⟩:=I.tuple h';exact⟨SeqAt.EqAt.list_tuple pl pt eY,SeqAt.RcAt.list_tuple pl pt eY,SeqAt.RcNeAt.list_tuple pl pt eY⟩
   | @lst _ p' xs' f' ds' h' rL =>
    cases r';obtain⟨m,hm,Hb⟩:=eR ho;obtain rfl:n=m:=by left
    obtain⟨m,hm,qC⟩:=eR eF;obtain rfl:n=m:=by left
    obtain⟨its',uw,GV,_⟩:=I.list (C9 _ _ _ _ h');have GV:=GV.isList;have key:=sub rs rL Hb qC rv uw;have l1:ds.length=aI.toArray.size:=by rw[List.size_toArray,<- rs.length,rv.length]
    have l2:ds'.length=its'.toArray.size:=by rw[List.size_toArray,<- rL.length,uw.length]
    have two:SeqAt.RcAt A s (.ref p) (.ref p') (lJ (.lst f ds) (.lst f' ds'))/\SeqAt.RcNeAt A s (.ref p) (.ref p') (!lJ (.lst f ds) (.lst f' ds')):=by
     show SeqAt.RcAt A s (.ref p) (.ref p') (dt ds ds')/\SeqAt.RcNeAt A s (.ref p) (.ref p') (!dt ds ds');rw[<- jy];by_cases hl:ds.length=ds'.length
     ·have e1:(ds.length==ds'.length)=true:=by simp[hl]
      rw[e1,Bool.and_true,<- hl,Nat.min_self];have hz:aI.toArray.size=its'.toArray.size:=by rw[<- l1,<- l2,hl]
      refine⟨?_,?_⟩
      ·have:=SeqAt.RcAt.lists pl GV hz eY key;rw[<- l1]at this;exact this
      ·have:=SeqAt.RcNeAt.lists pl GV hz eY key;rw[<- l1]at this;exact this
     ·have e1:(ds.length==ds'.length)=false:=by simp[hl]
      rw[e1,Bool.and_false];have hz:(aI.toArray.size != its'.toArray.size)=true:=by rw[<- l1,<- l2];simp[hl]
      exact⟨SeqAt.RcAt.lists_lengths pl GV hz eY,SeqAt.RcNeAt.lists_lengths pl GV hz eY⟩
    refine⟨?_,two.1,two.2⟩;by_cases hp:p=p'
    ·subst hp;rw[An I hN C9 (n+1) (Rep.lst h rs) (Rep.lst h' rL) ho eF];exact abt _
    ·exact SeqAt.EqAt.of_refs hp two.1
  |bU _ _=>simp[cI]at ho
  |dC _ _=>simp[cI]at ho
end
structure Px where
 pe:Nat->Scope->aq->Expr->Option (av)
 pi:Nat->Scope->aq->Expr->Option (av)
 pm:Nat->Scope->aq->Stmt->Option (Expr×av)
 p2:Nat->Scope->aq->Stmt->Option (Expr×av):=λ_ _ _ _=>none
structure Sx where
 sc:Scope
 N:aq
 fn:Nat->Option Str
 bl:aq
 cs:List (Str×GK)
 px:Px
noncomputable def NM:Gr->Operator
 |.add=>.Add|.sub=>.Sub|.mul=>.Mult|.fdiv=>.FloorDiv|.mod=>.Mod|.pow=>.Pow|.shr=>.RShift|.band=>.BitAnd
noncomputable def Th:zJ->CmpOp
 |.eq=>.Eq|.ne=>.NotEq|.lt=>.Lt|.le=>.LtE|.gt=>.Gt|.ge=>.GtE|.Fd=>.In
noncomputable def tyName:Ty->String
 |.int=>"int" |.bool=>"bool" |.list=>"list" |.tuple=>"tuple"
noncomputable def ra:Bf->String
 |.len=>"len" |.abs=>"abs" |.tI=>"int" |.list1=>"list" |.tuple1=>"tuple" |.gY=>"sum" |.all1=>"all" |.cT=>"sorted"
noncomputable def HN(sc:Scope)(x:Str):Bool:=decide (sc.names.lookup x=some .local)||decide (sc.names.lookup x=some .cell)||decide (sc.names.lookup x=some .free)
noncomputable def gz(sc:Scope)(x:Str):Bool:=decide (sc.names.lookup x=some .globalImplicit)
noncomputable def lX(x:Str):Bool:=!(x==("__debug__" : Str))&&!(x==("__classdict__" : Str))&&decide (x≠("__name__" : Str))
noncomputable def pk:Expr->Bool
 |.Set _ _ _=>false
 |_=>true
noncomputable def sP(sc outer:Scope):Scope :=
 { sc with names:=sc.names.map λ(n,k)=>if (k==.free&&outer.kind==.function&&outer.names.lookup n==some .cell)then(n,.cell)else(n,k) }
noncomputable def bX:Expr->aq
 |.Name x _=>[x]
 |.Tuple es _ _=>es.filterMap λe=>match e with|.Name x _=>some x|_=>none
 |_=>[]
noncomputable def fT(S:Sx)(caps:aO):aq:=caps.filterMap λi=>S.N[i]?
def Sx.inner(S:Sx)(target:Expr)(caps:aO)(sc:Scope):Sx:=⟨sP sc S.sc,bX target++fT S caps,S.fn,S.bl,S.cs,S.px⟩
noncomputable def fQ:Expr->Bool
 |.Tuple _ _ _=>true
 |_=>false
noncomputable def isNm:Expr->Bool
 |.Name _ _=>true
 |_=>false
noncomputable def YE:Expr->Bool
 |.Call ..=>true
 |.BinOp ..=>true
 |.Subscript ..=>true
 |.Compare ..=>true
 |.Dict ..=>true
 |_=>false
noncomputable def QL:Expr->Bool
 |.Call ..=>true
 |.Name ..=>true
 |_=>false
theorem aK{a b:Bool}(h:(a&&b)=true):a=true/\b=true:=by
 cases a<;>cases b<;>first|exact⟨rfl,rfl⟩|cases h
noncomputable def bu{α:Type}(o:Option α)(f:α->Bool):Bool:=match o with
 |some a=>f a
 |none=>false
theorem bx{α:Type}{o:Option α}{f:α->Bool}(h:bu o f=true):∃a,o=some a/\f a=true:=by
 cases o with
 |some a=>exact⟨a,rfl,h⟩
 |none=>cases h
noncomputable def vC:Expr->Option Const
 |.Constant c _ _=>some c
 |_=>none
theorem zW{e:Expr}{c:Const}(h:vC e=some c):∃j p,e=.Constant c j p:=by
 cases e<;>first | (cases h;done) | (cases h;exact⟨_,_,rfl⟩)
noncomputable def Bz:Const->Bool
 |.none=>true
 |_=>false
theorem yH{c:Const}(h:Bz c=true):c=.none:=by cases c<;>first|rfl|cases h
noncomputable def G7(b:Bool):Const->Bool
 |.bool c=>decide (b=c)
 |_=>false
theorem BB{b:Bool}{c:Const}(h:G7 b c=true):c=.bool b:=by cases c<;>first | (cases h;done)|rw[of_decide_eq_true h]
noncomputable def BA(b:Int):Const->Bool
 |.int c=>decide (b=c)
 |_=>false
theorem yI{b:Int}{c:Const}(h:BA b c=true):c=.int b:=by cases c<;>first | (cases h;done)|rw[of_decide_eq_true h]
noncomputable def JQ(b:Str):Const->Bool
 |_=>false
theorem LV{b:Str}{c:Const}(h:JQ b c=true):c=.str b:=by cases c<;>first | (cases h;done)|rw[of_decide_eq_true h]
noncomputable def Dy:Expr->Option Str
 |.Name x _=>some x
 |_=>none
theorem kP{e:Expr}{x:Str}(h:Dy e=some x):∃p,e=.Name x p:=by
 cases e<;>first | (cases h;done) | (cases h;exact⟨_,rfl⟩)
noncomputable def HR:Expr->Option (Expr×Operator×Expr)
 |.BinOp l o r _=>some (l,o,r)
 |_=>none
theorem vY{e l r:Expr}{o:Operator}(h:HR e=some (l,o,r)):∃p,e=.BinOp l o r p:=by
 cases e<;>first | (cases h;done) | (cases h;exact⟨_,rfl⟩)
noncomputable def RK:Expr->Option (UnaryOp×Expr)
 |.UnaryOp o e _=>some (o,e)
 |_=>none
theorem zU{e x:Expr}{o:UnaryOp}(h:RK e=some (o,x)):∃p,e=.UnaryOp o x p:=by
 cases e<;>first | (cases h;done) | (cases h;exact⟨_,rfl⟩)
noncomputable def vBool:Expr->Option (BoolOp×av)
 |.BoolOp o vs _=>some (o,vs)
 |_=>none
theorem rY{e:Expr}{o:BoolOp}{vs:av}(h:vBool e=some (o,vs)):∃p,e=.BoolOp o vs p:=by
 cases e<;>first | (cases h;done) | (cases h;exact⟨_,rfl⟩)
noncomputable def X4:Expr->Option (Expr×Expr×Expr)
 |.IfExp t x y _=>some (t,x,y)
 |_=>none
theorem RL{e t x y:Expr}(h:X4 e=some (t,x,y)):∃p,e=.IfExp t x y p:=by
 cases e<;>first | (cases h;done) | (cases h;exact⟨_,rfl⟩)
noncomputable def one{α:Type}:List α->Option α
 |[]=>none
 |x::xs=>match xs with
  |[]=>some x
  |_::_=>none
theorem bY{α:Type}{l:List α}{x:α}(h:one l=some x):l=[x]:=by
 cases l with
 |nil=>cases h
 |cons y ys=>cases ys with
  |nil=>cases h;rfl
  |cons _ _=>cases h
def two{α:Type}:List α->Option (α×α)
 |[]=>none
 |x::xs=>(one xs).map λy=>(x,y)
theorem fN{α:Type}{l:List α}{x y:α}(h:two l=some (x,y)):l=[x,y]:=by
 cases l with
 |nil=>cases h
 |cons z zs=>cases zs with
  |nil=>cases h
  |cons w ws=>cases ws with
   |nil=>cases h;rfl
   |cons _ _=>cases h
noncomputable def RO{α:Type}:List α->Option (α×List α)
 |[]=>none
 |x::xs=>some (x,xs)
theorem zY{α:Type}{l xs:List α}{x:α}(h:RO l=some (x,xs)):l=x::xs:=by
 cases l with
 |nil=>cases h
 |cons y ys=>cases h;rfl
noncomputable def DD:Expr->Option (Expr×List CmpOp×av)
 |.Compare l os rs _=>some (l,os,rs)
 |_=>none
theorem vX{e l:Expr}{os:List CmpOp}{rs:av}(h:DD e=some (l,os,rs)):∃p,e=.Compare l os rs p:=by
 cases e<;>first | (cases h;done) | (cases h;exact⟨_,rfl⟩)
noncomputable def uG:Expr->Option (Expr×av×List Keyword)
 |.Call f as ks _=>some (f,as,ks)
 |_=>none
theorem yg{e f:Expr}{as:av}{ks:List Keyword}(h:uG e=some (f,as,ks)):∃p,e=.Call f as ks p:=by
 cases e<;>first | (cases h;done) | (cases h;exact⟨_,rfl⟩)
def dP(e:Expr):Option (Str×av):=match uG e with
 |some (f,as,ks)=>match ks with
  |[]=>match Dy f with
   |some x=>some (x,as)
   |none=>none
  |_::_=>none
 |none=>none
theorem cO{e:Expr}{x:Str}{as:av}(h:dP e=some (x,as)):∃p pos,e=.Call (.Name x p) as [] pos:=by
 unfold dP at h;cases hv:uG e with
 |none=>rw[hv]at h;cases h
 |some z =>
  obtain⟨f,RA,ks⟩:=z;rw[hv]at h;obtain⟨pos,rfl⟩:=yg hv;cases ks with
  |cons _ _=>cases h
  |nil =>
   cases hn:Dy f with
   |none=>replace h:(match Dy f with|some x=>some (x,RA)|none=>none)=some (x,as):=h;rw[hn]at h;cases h
   |some y =>
    replace h:(match Dy f with|some x=>some (x,RA)|none=>none)=some (x,as):=h;rw[hn]at h;obtain⟨p,rfl⟩:=kP hn;cases h;exact⟨p,pos,rfl⟩
noncomputable def mR:Expr->Option (Expr×Expr)
 |.Subscript a b _=>some (a,b)
 |_=>none
theorem jU{e a b:Expr}(h:mR e=some (a,b)):∃p,e=.Subscript a b p:=by
 cases e<;>first | (cases h;done) | (cases h;exact⟨_,rfl⟩)
noncomputable def uD:Expr->Option (av)
 |.Tuple es _ _=>some es
 |_=>none
theorem iM{e:Expr}{es:av}(h:uD e=some es):∃n p,e=.Tuple es n p:=by
 cases e<;>first | (cases h;done) | (cases h;exact⟨_,_,rfl⟩)
noncomputable def uE:Expr->Option (av)
 |.List es _=>some es
 |_=>none
theorem vW{e:Expr}{es:av}(h:uE e=some es):∃p,e=.List es p:=by
 cases e<;>first | (cases h;done) | (cases h;exact⟨_,rfl⟩)
noncomputable def Gy:Expr->Option (Expr×List Comprehension×Scope)
 |.ListComp e gs sc _=>some (e,gs,sc)
 |_=>none
theorem zV{e x:Expr}{gs:List Comprehension}{sc:Scope}(h:Gy e=some (x,gs,sc)):∃p,e=.ListComp x gs sc p:=by
 cases e<;>first | (cases h;done) | (cases h;exact⟨_,rfl⟩)
theorem lE{a:Bool}(h:(!a)=true):a=false:=by cases a<;>first|rfl|cases h
def qW(S:Sx)(n:Nat)(t:Tg)(caps:aO)(target:Expr)(sc:Scope):Bool :=
 decide (sc.kind=.function)&&sc.names.all (λ(x,k)=>decide (k≠.cell)&&(decide (k≠.local)||decide (sc.names.lookup x=some .local))&&(decide (k≠.free)||decide (S.sc.names.lookup x=some .cell)||decide (S.sc.names.lookup x=some .free))) &&
 decide (n=(bX target).length)&&(bX target).all (λx=>decide (sc.names.lookup x=some .local))&&decide (bX target++fT S caps).Nodup &&
 caps.all (λi=>match S.N[i]? with|some x=>decide (sc.names.lookup x=some .free)|none=>false) &&
 (match t with
  |.nm i=>decide (i=0)&&isNm target
  |.tp is=>bu (uD target) λes=>decide (is=List.range es.length)&&es.all isNm)
mutual
noncomputable def cD(S:Sx):CE->Expr->Bool
 |.b9 p es,e0=>YE e0&&bu (S.px.pe p S.sc S.bl e0) λxs=>bS S es xs
 |.cj,e0=>bu (vC e0) λc=>Bz c
 |.bl b,e0=>bu (vC e0) λc=>G7 b c
 |.int i,e0=>bu (vC e0) λc=>BA i c
 |.v i,e0=>bu (Dy e0) λx=>decide (S.N[i]?=some x)&&HN S.sc x&&lX x
 |.glo x i,e0=>bu (Dy e0) λy=>decide (y=x)&&gz S.sc x&&decide ((x,GK.i i)∈S.cs)&&!(x==("__debug__" : Str))
 |.glt x zs,e0=>bu (Dy e0) λy=>decide (y=x)&&gz S.sc x&&decide ((x,GK.t zs)∈S.cs)&&!(x==("__debug__" : Str))
 |.bin op a b,e0=>bu (HR e0) λz=>decide (z.2.1=NM op)&&cD S a z.1&&cD S b z.2.2
 |.neg a,e0=>bu (RK e0) λz=>decide (z.1=.USub)&&cD S a z.2
 |.not a,e0=>bu (RK e0) λz=>decide (z.1=.Not)&&cD S a z.2
 |.and es,e0=>bu (vBool e0) λz=>decide (z.1=.And)&&bS S es z.2
 |.or es,e0=>bu (vBool e0) λz=>decide (z.1=.Or)&&bS S es z.2
 |.cmp op a b,e0=>bu (DD e0) λz=>decide (z.2.1=[Th op])&&cD S a z.1&&bu (one z.2.2) λr=>cD S b r&&pk r
 |.rN a t,e0=>bu (dP e0) λz=>decide (z.1=("isinstance" : Str))&&gz S.sc z.1&&decide (z.1∈S.bl)&&bu (two z.2) λy=>cD S a y.1&&bu (Dy y.2) λx=>decide (x=(tyName t:Str))&&gz S.sc x&&decide (x∈S.bl)
 |.call f es,e0=>bu (dP e0) λz=>decide (S.fn f=some z.1)&&gz S.sc z.1&&lX z.1&&bu (RO z.2) λy=>bS S es (y.1::y.2)
 |.bf f es,e0=>bu (dP e0) λz=>decide (z.1=(ra f:Str))&&gz S.sc z.1&&decide (z.1∈S.bl)&&bu (RO z.2) λy=>bS S es (y.1::y.2)
 |.j9 a,e0=>bu (dP e0) λz=>decide (z.1=("len" : Str))&&gz S.sc z.1&&decide (z.1∈S.bl)&&bu (one z.2) λy=>bu (dP y) λw=>decide (w.1=("set" : Str))&&gz S.sc w.1&&decide (w.1∈S.bl)&&bu (one w.2) λu=>cD S a u
 |.ix a b,e0=>bu (mR e0) λz=>cD S a z.1&&cD S b z.2
 |.tup es,e0=>bu (uD e0) λxs=>bS S es xs&&decide (es.length<=1000)
 |.lst es,e0=>bu (uE e0) λxs=>bS S es xs&&decide (es.length<=1000)
 |.comp n t caps ik es bK elt,e0=>bu (Gy e0) λz=>bu (one z.2.1) λg=>decide (g.is_async=0)&&qW S n t caps g.target z.2.2&&pk g.iter&&decide (bK.length<=1)&&bS (S.inner g.target caps z.2.2) bK g.ifs&&cD (S.inner g.target caps z.2.2) elt z.1 &&
     (match ik with
      |.kZ=>bu (dP g.iter) λw=>decide (w.1=("range" : Str))&&gz S.sc w.1&&decide (w.1∈S.bl)&&bu (one w.2) λy=>bS S es [y]
      |.seq=>bS S es [g.iter]
      |.b9 p=>QL g.iter&&(decide (1100<=p)||fQ g.target)&&bu (S.px.pi p S.sc S.bl g.iter) λxs=>bS S es xs)
noncomputable def bS(S:Sx):aF->av->Bool
 |[],es=>match es with
  |[]=>true
  |_::_=>false
 |c::cs,es=>match es with
  |[]=>false
  |e::es=>cD S c e&&bS S cs es
end
def DW(K:ao)(n:Nat)(m:az):Sp:=λvs H Q _=>∃(F:ai) (ds:ab) (r:D),vs.length=n/\aA (aU K H) (nd K F (λ_=>False) (λ_=>none) H) [] 0 vs ds/\m ds=ok r /\
 ∀v H',aJ H H'->(∃τt:Addr->Option bj,(∀p q,τt p=some q->H p=none)/\Rep (aU K H') (nd K (λp=>F p\/H p=none) (λ_=>False) τt H') [] v r)->Q v H'
structure LD(X:Cx)(k:Nat)(x:Str)(m:az):Prop where
 ex:∃(f:Addr) (fd:FuncData) (ps:aq),jd X.prog X.w X.K X.mg X.base zI k f fd ps (DW X.K ps.length m)/\X.mg x=some (.ref f)/\PySem.W.keepIn X.K (.ref f)=true/\Binds X.K fd ps []/\∀ds r,m ds=ok r->ds.length=ps.length
noncomputable def kinds:List String:=["NoneType","bool","int","str","list","tuple","dict"]
def Oj:Ty->String->Bool
 |.int,s=>s == "int" ||s == "bool"
 |t,s=>s==tyName t
theorem aJ.upd{H:Hp}{p:Addr}{o:HO}(h:H p=none):aJ H (upd H p o):=λb u e=>by
 rw[aX (by rintro rfl;rw[h]at e;cases e)];exact e
theorem Bd{i j:Int}(h:gj i j=true):IntMulOk i j:=by
 unfold gj at h;simp only[Bool.or_eq_true,Bool.and_eq_true,decide_eq_true_eq]at h;rcases h with (h|h)|⟨h1,h2⟩
 ·exact .of_left (intBits_le h)
 ·exact .of_right (intBits_le h)
 ·have b1:Builtin.Int.intBits i<=9000:=intBits_le h1;have b2:Builtin.Int.intBits j<=9000:=intBits_le h2;unfold IntMulOk;have hb:Builtin.Int.intTooBig ((Builtin.Int.intBits i:Int)+(Builtin.Int.intBits j:Int))=false:=by
   unfold Builtin.Int.intTooBig;have:(bitsLine:Int)=134217728:=by decide
   exact aa3 (by left)
  rw[hb];simp
section
variable {K:ao}{R:ai}{τ τt:Addr->Option bj}{fv:aO}{H H':Hp}
theorem wW:jF X (binaryOp .Add) (λx y H Q=>∃a b xs ys,x=.ref a/\y=.ref b/\aU X.K H a xs/\aU X.K H b ys/\xs.length+ys.length<=sizeLine/\(xs=[]->Q (.ref b) H)/\(ys=[]->Q (.ref a) H)/\∀p,H p=none->Q (.ref p) (upd H p (.tup (xs++ys)))):=by
 intro pins s σ H x y v u Q I rx ry h;obtain⟨a,b,xs,ys,rfl,rfl,ha,hb,hz,q0,q1,q2⟩:=h;cases rx;cases ry;by_cases hx:xs=[]
 ·subst hx;obtain⟨aI,r1,p1,_⟩:=I.tuple ha;obtain⟨vk,r2,p2,_⟩:=I.tuple hb;cases r1;obtain⟨⟨cls,dd,data,sl⟩,ho,hc,n,hd⟩:=id p1;obtain⟨⟨F2,xP,data2,wu⟩,qC,hc2,n2,hd2⟩:=id p2;simp only at hc hd hc2 hd2;subst hc hd hc2 hd2;exact concat_meets ⟨_,ho,rfl⟩ ⟨_,qC,rfl⟩ noFill_tuple_add seq_tuple_add abH abD (abz _ _)
   (tuple_addW0 a b [].toArray vk.toArray n n2 dd xP sl wu rfl) ⟨ho,qC,⟨.ref b,H,I,rfl,q0 rfl⟩⟩
 ·exact EC pins s σ H (.ref a) (.ref b) _ _ Q I rfl rfl ⟨a,b,xs,ys,rfl,rfl,ha,hb,hx,hz,q1,λ_=>q2⟩
theorem nd.nH(k k':bj)(p:Addr)(xs:Nd)(f:Fl)(h:nd K R A (λ_=>none) H k p xs f):nd K R A (λ_=>none) H k' p xs f:=by
 cases f with
 |ow=>exact nomatch h.2
 |fz=>exact h
 |al=>exact h
 |sc=>exact h
theorem NU(Si:SI X F R τ ρ σ H)(fr:∀p q,τt p=some q->H p=none)(k k':bj)(p:Addr)(xs:Nd)(f:Fl)(h:nd K R (jl (gP X F) τ fv) τt H' k p xs f):
  nd K R (jl (gP X F) τ fv) (λ_=>none) H' k' p xs (bo f):=by
 cases f with
 |ow=>exact⟨h.1,.inr (Si.same.free (fr p _ h.2)),λc i e=>absurd (fr p _ h.2) (Si.th p _ e)⟩
 |fz=>exact h
 |al=>exact h
 |sc=>exact h
theorem aA.eO{k:bj}{n:Nat}(h:aA (aU K H') (nd K R (jl (gP X F) τ fv) τt H') k n xs ds)(Si:SI X F R τ ρ σ H)(fr:∀p q,τt p=some q->H p=none){n':Nat}:
  aA (aU K H') (nd K R (jl (gP X F) τ fv) (λ_=>none) H') k' n' xs (aB bo ds):=aA.ip (λ_ _ h=>h) (NU Si fr) h _ _
theorem Rep.eO{k:bj}{v:V}{d:D}(h:Rep (aU K H') (nd K R (jl (gP X F) τ fv) τt H') k v d)(Si:SI X F R τ ρ σ H)(fr:∀p q,τt p=some q->H p=none):
  Rep (aU K H') (nd K R (jl (gP X F) τ fv) (λ_=>none) H') k' v (aT bo d):=Rep.ip (λ_ _ h=>h) (NU Si fr) h _
theorem aA.rep{A:ai}{xs:ae}{ds:ab}(h:aA (aU K H) (nd K R A (λ_=>none) H) [] 0 xs (aB bo ds)):∀n:Nat,aA (aU K H) (nd K R A (λ_=>none) H) [] 0 (List.replicate n xs).flatten (aB bo (List.replicate n ds).flatten)
 |0=>.nil
 |n+1=>by
  rw[List.replicate_succ,List.replicate_succ,List.flatten_cons,List.flatten_cons,aQ,List.map_append,<- aQ,<- aQ];exact aA.mI nd.nH h (aA.rep h n)
theorem bQ.qt{p:Addr}(hp:H p=none)(e:aJ H H')(hl:H' p=some (.lst xs))(r:aA (aU K H') (nd K R (jl G τ fv) (λ_=>none) H') [] 0 xs ds):bQ K G R τ fv H H' (.ref p) (.lst .ow ds):=by
 refine⟨λq=>if q=p then some []else none,λq k hq=>?_,.lst ⟨hl,by simp⟩ (r.imp (λ_ _ h=>h) λc q xs f h=>?_)⟩
 ·by_cases rO:q=p
  ·subst rO;exact hp
  ·simp[rO]at hq
 ·cases f with
  |ow=>exact nomatch h.2
  |fz=>exact h
  |al=>exact h
  |sc=>exact h
end
theorem EU(K:ao):∀t:Ty,∀s∈kinds,PySem.W.kitOne K (.type s) (.type (tyName t))=some (Oj t s):=by
 intro t s hs;simp only[kinds,List.mem_cons,List.not_mem_nil,or_false]at hs;cases t<;>rcases hs with rfl|rfl|rfl|rfl|rfl|rfl|rfl<;>rfl
structure PX(X:Cx)(sc:Scope)(bl:aq)(k:Nat):Prop where
 sc:X.env.scope=sc
 calm:X.calm=true
 room:fU k X.A
 bl:∀x∈bl,X.mg x=none
theorem PX.gl{sc:Scope}{bl:aq}{k:Nat}(L:PX X sc bl k){x:Str}(h:gz sc x=true):Gl X x:=by
 unfold Gl;show X.env.scope.names.lookup x=some .globalImplicit;rw[L.sc];exact aac h
def l9(X:Cx)(F:ai)(Φ:aY):aF->av->Prop
 |[],[]=>True
 |c::cs,a::as=>PE X a (tD X F Φ c)/\(∀es,starEach (a::es) X.env=(false,eval a X.env)::starEach es X.env)/\mK a/\l9 X F Φ cs as
 |_,_=>False
structure pY(K:ao)(H2:Hp)(vs:ae)(xs:ab)(H':Hp):Prop where
 n0:∃R0:ai,aA (aU K H2) (nd K R0 (λ_=>False) (λ_=>none) H2) [] 0 vs (aB aW xs)/\∀p o,R0 p->H2 p=some o->H' p=some o
 tp:∀a ys,aU K H2 a ys->aU K H' a ys
structure Hy(K:ao)(J:It)(H2:Hp)(vs:ae)(xs items:ab):Prop where
 go:∀i H' R',pY K H2 vs xs H'->aA (aU K H') (nd K R' (λ_=>False) (λ_=>none) H') [] 0 vs (aB aW xs)->i<items.length->J.go i H'
 uv:∀i H' R' x lP,pY K H2 vs xs H'->aA (aU K H') (nd K R' (λ_=>False) (λ_=>none) H') [] 0 vs (aB aW xs)->i<items.length->J.uv i H' x lP->aJ H' lP/\∃d,items[i]?=some d/\Rep (aU K lP) (nd K R' (λ_=>False) (λ_=>none) lP) [] x d
 stop:∀i H' R',pY K H2 vs xs H'->aA (aU K H') (nd K R' (λ_=>False) (λ_=>none) H') [] 0 vs (aB aW xs)->items.length<=i->J.stop i H'
structure vR(px:Px)(Φ:aY):Prop where
 e:∀(X:Cx) (sc:Scope) (bl:aq) (k:Nat),PX X sc bl k->∀(p:Nat) (e:Expr) (args:av),px.pe p sc bl e=some args->∀(F:ai) (cs:aF),l9 X F Φ cs args->PE X e (tD X F Φ (.b9 p cs))/\PT X e (gy X F Φ (.b9 p cs))
 i:∀(X:Cx) (sc:Scope) (bl:aq) (k:Nat),PX X sc bl k->∀(p:Nat) (e:Expr) (args:av),px.pi p sc bl e=some args->∀(F:ai) (cs:aF) (tg:Expr),(decide (1100<=p)||fQ tg)=true->l9 X F Φ cs args ->
  ∀(pins:aj) (s:Shared) (σ:St) (H:Hp) (R:ai) (τ:Addr->Option bj) (ρ:a_) (xs:ab) (d:D) (items:ab),Inv X pins σ H s->SI X F R τ ρ σ H->cu Φ cs ρ=ok xs->Φ p xs=ok d->i_ d=ok items->∀Rr:It->Hp->Prop,
   (∀J H2 vs,aJ H H2->cg X.K (gP X F) R τ (cW cs) H H2 vs xs->Hy X.K J H2 vs xs items->Rr J H2) ->
   wpAny (model X.prog X.w) X.A (eval e X.env) (λv s1=>wpAny (model X.prog X.w) X.A (pyIter v) (zF X pins σ tg Rr) X.xe s1) X.xe s
def Gn(K:ao):GK->Value->Prop
 |.i i,u=>RelV (.int i) u
 |.t zs,u=>∃(a:Addr) (o:Obj) (aI:aM) (n:Nat),u=.ref a/\K.lookup a=some o/\o.cls=.type "tuple" /\ o.data=.seq aI n/\aI.size<=sizeLine/\Vals (zs.map V.int) aI.toList
structure Lk(X:Cx)(S:Sx)(k:Nat)(Φ:aY):Prop where
 sc:X.env.scope=S.sc
 N:X.N=S.N
 nd:X.N.Nodup
 calm:X.calm=true
 room:fU k X.A
 bl:∀x∈S.bl,X.mg x=none
 fn:∀f x,S.fn f=some x->LD X k x (Φ f)
 cs:∀x i,(x,i)∈S.cs->∃u,X.mg x=some u/\Gn X.K i u
 pr:vR S.px Φ
variable {S:Sx}{Φ:aY}
theorem Lk.pX{k:Nat}(L:Lk X S k Φ):PX X S.sc S.bl k:=⟨L.sc,L.calm,L.room,L.bl⟩
variable {Q:VK}{p' p1 p2 pos pos':Pos}
section
variable {X:Cx}{S:Sx}{k:Nat}{F:ai}{Φ:aY}
theorem Lk.gl(L:Lk X S k Φ){x:Str}(h:gz S.sc x=true):Gl X x:=by
 unfold Gl;show X.env.scope.names.lookup x=some .globalImplicit;rw[L.sc];exact aac h
theorem Lk.Qn(L:Lk X S k Φ){x:Str}(h:HN S.sc x=true):Hz X.env.scope x:=by
 unfold Hz;rw[L.sc];unfold HN at h;rw[Bool.or_eq_true,Bool.or_eq_true]at h;rcases h with (h|h)|h
 ·exact .inl (aac h)
 ·exact .inr (.inl (aac h))
 ·exact .inr (.inr (aac h))
theorem tD.intro{c:CE}{d:D}(Si:SI X F R τ ρ σ H)(e:bw Φ c ρ=ok d)(h:∀v H',aJ H H'->bQ X.K (gP X F) R τ (g9 c) H H' v d->Q v H'):tD X F Φ c σ H Q:=⟨R,τ,ρ,d,Si,e,h⟩
theorem Sn(L:Lk X S k Φ){i:Nat}{x:Str}(h:cD S (.v i) (.Name x pos)=true):PE X (.Name x pos) (tD X F Φ (.v i)):=by
 replace h:=aK h;replace h:=And.intro (aK h.1) h.2;obtain⟨⟨h1,h2⟩,h3⟩:=h;unfold lX at h3;simp only[Bool.and_eq_true,Bool.not_eq_true']at h3;refine PE.imp (qq (i:=i) (by rw[L.N];exact aac h1) (L.Qn h2) h3.1.1 h3.1.2) λσ H Q hq=>?_;obtain⟨R,τ,ρ,d,Si,ev,hq⟩:=hq;obtain⟨d',hd,rfl⟩:=Al ev
 ·obtain⟨v,hv,hr⟩:=Si.rep i d' hd;refine⟨v,hv,hq v H (aJ.refl H) ⟨λ_=>none,λ_ _ h=>by simp at h,?_⟩⟩;refine Rep.map (q:=[i]) (q':=[]) (λ_ _ h=>h) (λc p xs f h=>?_) hr [] rfl;cases f with
  |ow =>
   refine⟨h.1,.inr (Si.t0 p _ h.2),λc' j e=>?_⟩;rw[h.2]at e;have e':=aax e;have:=aaU List.getLast? e';simp at this;show _∈[i];simp[this]
  |fz=>exact h
  |al=>exact h.2.elim
  |sc=>exact h
theorem i3{op:Gr}{x y d:D}(OG:op≠.add/\op≠.mul)(h:cX op x y=ok d):∃i j,x=.int i/\y=.int j:=by
 cases x with
 |int i=>cases y with
  |int j=>exact⟨i,j,rfl,rfl⟩
  |_=>cases op<;>first|exact nk h | (simp at OG;done)
 |_=>cases op<;>first|exact nk h | (simp at OG;done)
theorem Ir(L:Lk X S k Φ){op:Gr}{a b:CE}{l r:Expr}(ha:PE X l (tD X F Φ a))(hb:PE X r (tD X F Φ b)):PE X (.BinOp l (NM op) r pos) (tD X F Φ (.bin op a b)):=by
 have two:∀{σ:St} {H:Hp} {Q:VK} {r2:R2},(∃R τ ρ d,SI X F R τ ρ σ H/\bw Φ (.bin op a b) ρ=ok d/\(∀v H',aJ H H'->bQ X.K (gP X F) R τ (g9 (.bin op a b)) H H' v d->Q v H') /\
   ∀x y v u H',cX op x y=ok d->aJ H H'->bQ X.K (gP X F) R τ (g9 (.bin op a b)) H H' v x->bQ X.K (gP X F) R τ (g9 (.bin op a b)) H H' u y->r2 v u H' Q)->GD r2 (tD X F Φ a) (tD X F Φ b) σ H Q:=by
  rintro σ H Q r2 ⟨R,τ,ρ,d,Si,ev,hq,hr⟩;obtain⟨x,ex,ev⟩:=aG ev;obtain⟨y,ey,ev⟩:=aG ev;refine tD.intro Si ex λv H1 e1 r1=>tD.intro (Si.go e1) ey λu H2 e2 r2=>?_;exact hr x y v u H2 ev (e1.trans e2) ((r1.go e2).mono λi hi=>aaI _ hi) ((r2.old e1).mono λi hi=>aau _ hi)
 have yM:∀{C:Int->Int->Prop} {g:Int->Int->Int},jF X (binaryOp (NM op)) (rI C λi j=>.int (g i j))->(∀x y d,cX op x y=ok d->∃i j,x=.int i/\y=.int j/\C i j/\d=.int (g i j)) ->
   PE X (.BinOp l (NM op) r pos) (tD X F Φ (.bin op a b)):=by
  intro C g ho hd;refine PE.imp (wO ho ha hb) λσ H Q hq=>?_;obtain⟨R,τ,ρ,d,Si,ev,hq⟩:=hq;refine two ⟨R,τ,ρ,d,Si,ev,hq,λx y v u H' eb e rv ru=>?_⟩;obtain⟨i,j,rfl,rfl,c,rfl⟩:=hd x y d eb;exact⟨i,j,rv.isInt,ru.isInt,c,hq _ H' e .int⟩
 cases op with
 |sub =>
  refine yM (C:=λ_ _=>True) (g:=λi j=>i - j) (Jk λ_ _ _ _ _ _ _ _ q=>sub_int q) λx y d h=>?_;obtain⟨i,j,rfl,rfl⟩:=i3 (by simp) h;cases h;exact⟨_,_,rfl,rfl,trivial,rfl⟩
 |mod =>
  refine yM (C:=λ_ j=>j≠0) (g:=λi j=>i.fmod j) EB λx y d h=>?_;obtain⟨i,j,rfl,rfl⟩:=i3 (by simp) h;obtain⟨h1,h⟩:=oj h;subst h;exact⟨_,_,rfl,rfl,h1,rfl⟩
 |fdiv =>
  refine yM (C:=λ_ j=>pO j=true) (g:=λi j=>i.fdiv j) (Jk λi j _ _ _ _ _ hc q=>?_) λx y d h=>?_
  ·unfold pO at hc;rw[Bool.and_eq_true]at hc;have h1:j≠0:=aac hc.1;have h2:j.natAbs<big:=aac hc.2;exact floordiv_int h1 q (.inl (PyProof.noPylong_of_log2 ((Nat.log2_lt (by left)).mpr h2)))
  ·obtain⟨i,j,rfl,rfl⟩:=i3 (by simp) h;obtain⟨h1,h⟩:=oj h;subst h;exact⟨_,_,rfl,rfl,h1,rfl⟩
 |pow =>
  refine yM (C:=λi j=>wF i j=true) (g:=λi j=>i ^ j.toNat) (Jk λi j _ _ _ _ _ hc q=>?_) λx y d h=>?_
  ·unfold wF at hc;simp only[Bool.and_eq_true,decide_eq_true_eq]at hc;exact pow_int_small hc.1.1 hc.1.2 hc.2 q
  ·obtain⟨i,j,rfl,rfl⟩:=i3 (by simp) h;obtain⟨h1,h⟩:=oj h;subst h;exact⟨_,_,rfl,rfl,h1,rfl⟩
 |shr =>
  refine yM (C:=λ_ j=>0<=j) (g:=λi j=>i / 2 ^ j.toNat) Je λx y d h=>?_;obtain⟨i,j,rfl,rfl⟩:=i3 (by simp) h;obtain⟨h1,h⟩:=oj h;subst h;exact⟨_,_,rfl,rfl,h1,rfl⟩
 |band =>
  refine yM (C:=λ_ j=>j=1) (g:=λi _=>i % 2) (Jk λi j _ _ _ _ _ hc q=>by subst hc;exact and_int (by rw[bitAnd_m1];exact q)) λx y d h=>?_;obtain⟨i,j,rfl,rfl⟩:=i3 (by simp) h;obtain⟨h1,h⟩:=oj h;subst h;exact⟨_,_,rfl,rfl,h1,rfl⟩
 |mul =>
  have hi:jF X (binaryOp .Mult) (rI (λi j=>gj i j=true) λi j=>.int (i*j)):=Jk λi j _ _ _ _ _ hc q=>mul_int q (Bd hc);refine PE.imp (wO (hi.or Jf) ha hb) λσ H Q hq=>?_;obtain⟨R,τ,ρ,d,Si,ev,hq⟩:=hq;refine two ⟨R,τ,ρ,d,Si,ev,hq,λx y v u H' eb e rv ru=>?_⟩;cases y with
  |int j =>
   cases x with
   |int i =>
    obtain⟨h1,eb⟩:=oj eb;subst eb;exact .inl ⟨i,j,rv.isInt,ru.isInt,h1,hq _ H' e .int⟩
   |lst f a =>
    obtain⟨hc,eb⟩:=oj eb
    ·subst eb;obtain⟨τt,fr,rp⟩:=rv;obtain⟨p,xs,rfl,hn,rs⟩:=rp.rS;have hz:sizeLine=16777216:=aa2;have nE:cL=1000000:=rfl;refine .inr ⟨p,j,xs,rfl,ru.isInt,hn.lst hc.1,by left,by left,by rw[rs.length];left,λp' tM=>?_⟩;have es:aJ H' (upd H' p' (.lst (List.replicate j.toNat xs).flatten)):=aJ.upd tM;refine hq _ _ (e.trans es) (bQ.qt (e.free tM) (e.trans es) (aS) ?_);exact(aA.rep (rs.eO Si fr) j.toNat).imp (λ_ _ h=>aU.same es h) λ_ _ _ _ h=>nd.same es h
   |_=>cases eb
  |_=>cases x<;>cases eb
 |add =>
  refine PE.imp (wO ((Jj.or Ji).or wW) ha hb) λσ H Q hq=>?_;obtain⟨R,τ,ρ,d,Si,ev,hq⟩:=hq;refine two ⟨R,τ,ρ,d,Si,ev,hq,λx y v u H' eb e rv ru=>?_⟩;have hz:sizeLine=16777216:=aa2;have nE:cL=1000000:=rfl;cases x with
  |int i =>
   cases y with
   |int j =>
    cases eb;exact .inl (.inl ⟨i,j,rv.isInt,ru.isInt,hq _ H' e .int⟩)
   |_=>cases eb
  |lst f a =>
   cases y with
   |lst g b =>
    obtain⟨hc,eb⟩:=oj eb
    ·subst eb;obtain⟨τt,fr,rp⟩:=rv;obtain⟨RG,Mb,SG⟩:=ru;obtain⟨p,xs,rfl,hn,rs⟩:=rp.rS;cases SG with
     | @lst _ p2 zQ _ _ L1 yv =>
      refine .inl (.inr ⟨p,p2,xs,zQ,rfl,rfl,hn.lst hc.1,L1.lst hc.2.1,by rw[rs.length,yv.length];left,λp' tM=>?_⟩);have es:aJ H' (upd H' p' (.lst (xs++zQ))):=aJ.upd tM;refine hq _ _ (e.trans es) (bQ.qt (e.free tM) (e.trans es) (aS) ?_);rw[aQ,List.map_append,<- aQ,<- aQ];exact(aA.mI nd.nH (n:=0) (m:=0) (rs.eO Si fr) (yv.eO Si Mb)).imp (λ_ _ h=>aU.same es h) λ_ _ _ _ h=>nd.same es h
   |_=>cases eb
  |tup a =>
   cases y with
   |tup b =>
    obtain⟨hc,eb⟩:=oj eb;subst eb;obtain⟨τt,fr,rp⟩:=rv;obtain⟨RG,Mb,SG⟩:=ru;cases rp with
    | @tup _ p xs _ hn rs =>
     cases SG with
     | @tup _ p2 zQ _ L1 yv =>
      have hl:=rs.length;have tN:=yv.length;refine .inr ⟨p,p2,xs,zQ,rfl,rfl,hn,L1,by rw[hl,tN];left,λz=>?_,λz=>?_,λp' tM=>?_⟩
      ·subst z;cases rs;exact hq _ H' e ⟨λ_=>none,λ_ _ h=>by simp at h,.tup L1 (yv.eO Si Mb)⟩
      ·subst z;cases yv;refine hq _ H' e ⟨λ_=>none,λ_ _ h=>by simp at h,.tup hn ?_⟩;rw[List.append_nil];exact rs.eO Si fr
      ·have es:aJ H' (upd H' p' (.tup (xs++zQ))):=aJ.upd tM;refine hq _ _ (e.trans es) ⟨λ_=>none,λ_ _ h=>by simp at h,.tup (aU.of aS) ?_⟩;rw[aQ,List.map_append,<- aQ,<- aQ];exact(aA.mI nd.nH (n:=0) (m:=0) (rs.eO Si fr) (yv.eO Si Mb)).imp (λ_ _ h=>aU.same es h) λ_ _ _ _ h=>nd.same es h
   |_=>cases eb
  |_=>cases y<;>cases eb
end
section
variable {T T':kG}{N N':hU}{P:Fl->Bool}
theorem Rep.without(hT:∀p xs,T p xs->T' p xs)(hN:∀k k' p xs f,P f=false->N k p xs f->N' k' p xs f){k:bj}{v:V}{d:D}(h:Rep T N k v d)(e:aR P d=false)(k':bj):Rep T' N' k' v d:=by
 have:=Rep.gen (g:=id) (P:=P) (N':=N') (C:=λ_ _=>True) (I:=λ_ _=>True) hT trivial (λ_ _ e=>e) (λ_ _ _ _ e _=>e) (λk k' p xs f _ e h=>hN k k' p xs f e h) h (k':=k') trivial e;rw[dE]at this;exact this
theorem aA.without(hT:∀p xs,T p xs->T' p xs)(hN:∀k k' p xs f,P f=false->N k p xs f->N' k' p xs f){k:bj}{n:Nat}(h:aA T N k n vs ds)(e:aP P ds=false)(k':bj)(n':Nat):aA T' N' k' n' vs ds:=by
 have:=aA.gen (g:=id) (P:=P) (N':=N') (C:=λ_ _=>True) (I:=λ_ _=>True) hT trivial (λ_ _ e=>e) (λ_ _ _ _ e _=>e) (λk k' p xs f _ e h=>hN k k' p xs f e h) h (k':=k') (n':=n') trivial trivial e;rw[dD]at this;exact this
theorem Rep.jS(hT:∀p xs,T p xs->T' p xs)(hN:∀k p xs f,P f=false->N k p xs f->N' k p xs f){k:bj}{v:V}{d:D}(h:Rep T N k v d)(e:aR P d=false):Rep T' N' k v d:=by
 have:=Rep.gen (g:=id) (P:=P) (N':=N') (C:=λa b=>a=b) (I:=λa b=>a=b) hT rfl (λ_ _ e=>by rw[e]) (λ_ _ _ _ a b=>by rw[a,b]) (λk k' p xs f c e h=>by subst c;exact hN k p xs f e h) h rfl e;rw[dE]at this;exact this
theorem aA.jS(hT:∀p xs,T p xs->T' p xs)(hN:∀k p xs f,P f=false->N k p xs f->N' k p xs f){k:bj}{n:Nat}(h:aA T N k n vs ds)(e:aP P ds=false):aA T' N' k n vs ds:=by
 have:=aA.gen (g:=id) (P:=P) (N':=N') (C:=λa b=>a=b) (I:=λa b=>a=b) hT rfl (λ_ _ e=>by rw[e]) (λ_ _ _ _ a b=>by rw[a,b]) (λk k' p xs f c e h=>by subst c;exact hN k p xs f e h) h rfl rfl e;rw[dD]at this;exact this
end
theorem Rep.qx{k:bj}{v:V}{d:D}(h:Rep (aU K H) (nd K R (λ_=>False) (λ_=>none) H) k v d):Rep (aU K H) (nd K R (λ_=>False) (λ_=>none) H) k' v d:=by
 have:=Rep.ip (g:=id) (λ_ _ h=>h) nd.nH h k';rw[dE]at this;exact this
def gJ(X:Cx)(R:ai)(τ:Addr->Option bj)(H:Hp)(v:V)(d:D):Prop :=
 ∃τt:Addr->Option bj,(∀p q,τt p=some q->τ p=none/\¬ R p/\X.H₀ p=none/\H p≠none)/\Rep (aU X.K H) (nd X.K R (λ_=>False) τt H) [] v d
section
variable {X:Cx}{F R:ai}{τ:Addr->Option bj}{ρ:a_}{σ:St}{H H':Hp}
theorem SI.set{i:Nat}{v:V}{d:D}(Si:SI X F R τ ρ σ H)(r:gJ X R τ H v d)(hi:i<ρ.length):∃τ',SI X F R τ' (ρ.set i (some d)) (σ.set i (some v)) H:=by
 obtain⟨τt,ht,rp⟩:=r;refine⟨λp=>match τt p with|some q=>some (q++[i])|none=>τ p,⟨by simp[Si.len],λj d' hj=>?_,λp hp=>?_,Si.rh,Si.rf,λp q hq=>?_,λp q hq=>?_,Si.same⟩⟩
 ·by_cases gS:j=i
  ·subst gS;rw[List.getElem?_set_self hi]at hj;cases hj;refine⟨v,List.getElem?_set_self (by rw[<- Si.len];exact hi),rp.imp (q':=[j]) (λ_ _ h=>h) λc p xs f h=>?_⟩;cases f with
   |ow=>rw[List.append_nil]at h;exact⟨h.1,by simp only[h.2]⟩
   |fz=>exact h
   |al=>exact h
   |sc=>exact h
  ·rw[List.getElem?_set_ne (Ne.symm gS)]at hj;obtain⟨w,hw,j5⟩:=Si.rep j d' hj;refine⟨w,by rw[List.getElem?_set_ne (Ne.symm gS)];exact hw,j5.imp (λ_ _ h=>h) λc p xs f h=>?_⟩;cases f with
   |ow =>
    refine⟨h.1,?_⟩;cases q:τt p with
    |none=>simp only[q];exact h.2
    |some k=>have:=(ht p k q).1;rw[h.2]at this;cases this
   |fz=>exact h
   |al=>exact h
   |sc=>exact h
 ·cases q:τt p with
  |none=>simp only[q];exact Si.rt p hp
  |some k=>exact absurd hp (ht p k q).2.1
 ·cases z:τt p with
  |none=>simp only[z]at hq;exact Si.th p q hq
  |some k=>exact(ht p k z).2.2.2
 ·cases z:τt p with
  |none=>simp only[z]at hq;exact Si.t0 p q hq
  |some k=>exact(ht p k z).2.2.1
theorem yS{k:bj}{v:V}{d:D}(h:Rep (aU X.K H) (nd X.K R (λ_=>False) τ H) k v d)(ho:aR cB d=false):gJ X R τ H v d :=
 ⟨λ_=>none,λ_ _ h=>by simp at h,Rep.without (P:=cB) (λ_ _ h=>h) (λk k' p xs f hf h=>by
  cases f with
  |ow=>cases hf
  |fz=>exact h
  |al=>exact h.2.elim
  |sc=>exact h) h ho _⟩
open Classical in
theorem SI.move{i:Nat}{d:D}(Si:SI X F R τ ρ σ H)(hd:ρ[i]?=some (some d)):∃v τ',σ[i]?=some (some v)/\SI X F R τ' (ρ.set i none) σ H/\gJ X R τ' H v d:=by
 obtain⟨v,hv,rp⟩:=Si.rep i d hd;refine⟨v,λp=>match τ p with|some q=>if q.getLast?=some i then none else some q|none=>none,hv,⟨by simp[Si.len],λj d' hj=>?_,λp hp=>?_,Si.rh,Si.rf,λp q hq=>?_,λp q hq=>?_,Si.same⟩,
  λp=>match τ p with|some q=>if q.getLast?=some i then(if H p=none then none else some q.dropLast)else none|none=>none,λp q hq=>?_,rp.imp (q:=[i]) (q':=[]) (λ_ _ h=>h) λc p xs f h=>?_⟩
 ·by_cases gS:j=i
  ·subst gS;rw[List.getElem?_set]at hj;simp at hj
  ·rw[List.getElem?_set_ne (Ne.symm gS)]at hj;obtain⟨w,hw,j5⟩:=Si.rep j d' hj;refine⟨w,hw,j5.imp (q:=[j]) (q':=[j]) (λ_ _ h=>h) λc p xs f h=>?_⟩;cases f with
   |ow =>
    refine⟨h.1,?_⟩;simp only[h.2];rw[if_neg (by simp;exact gS)]
   |fz=>exact h
   |al=>exact h
   |sc=>exact h
 ·simp only[Si.rt p hp]
 ·cases z:τ p with
  |none=>simp only[z]at hq;cases hq
  |some k=>exact Si.th p k z
 ·cases z:τ p with
  |none=>simp only[z]at hq;cases hq
  |some k=>exact Si.t0 p k z
 ·cases z:τ p with
  |none=>simp only[z]at hq;cases hq
  |some k =>
   simp only[z]at hq ⊢;by_cases hl:k.getLast?=some i
   ·rw[if_pos hl];exact⟨rfl,(λhR=>by have:=Si.rt p hR;rw[z]at this;cases this),Si.t0 p k z,Si.th p k z⟩
   ·rw[if_neg hl]at hq;cases hq
 ·cases f with
  |ow =>
   refine⟨h.1,?_⟩;have hn:H p≠none:=h.1.ne;simp only[h.2];rw[if_pos (by simp),if_neg hn];simp
  |fz=>exact h
  |al=>exact h.2.elim
  |sc=>exact h
theorem xB(is:aO)(ρ:a_)(j:Nat)(d:D)(h:(g_ is ρ)[j]?=some (some d)):∃d',ρ[j]?=some (some d')/\d=(if j∈is then aT aW d' else d'):=by
 unfold g_ at h;rw[List.getElem?_mapIdx]at h;cases q:ρ[j]? with
 |none=>rw[q]at h;exact nk h
 |some o =>
  rw[q]at h;cases o with
  |none=>simp at h
  |some d' =>
   refine⟨d',rfl,?_⟩;by_cases hj:j∈is
   ·simp[hj]at h ⊢;exact h.symm
   ·simp[hj]at h ⊢;exact h.symm
open Classical in
theorem xC(Si:SI X F R τ ρ σ H)(es:aJ H H'):
  ∃R' τ',(∀p,R p->R' p)/\SI X F R' τ' (g_ fv ρ) σ H'/\∀τt:Addr->Option bj,(∀p q,τt p=some q->H p=none)->∀(k k':bj) (p:Addr) (xs:Nd) (f:Fl),nd X.K R (jl (gP X F) τ fv) τt H' k p xs f->nd X.K R' (λ_=>False) (λ_=>none) H' k' p xs (aW f):=by
 have fL:=Si.go es;have fresh:∀p,H p=none->jl (gP X F) τ fv p:=λp hp=>⟨.inr (Si.same.free hp),λc i e=>absurd hp (Si.th p _ e)⟩
 refine⟨λp=>R p\/(H' p≠none/\jl (gP X F) τ fv p),λp=>if jl (gP X F) τ fv p then none else τ p,λp h=>.inl h,⟨by simp[g_,Si.len],λj d' hj=>?_,λp hp=>?_,λp hp=>?_,λp hp=>?_,λp q hq=>?_,λp q hq=>?_,fL.same⟩,λτt fr k k' p xs f h=>?_⟩
 ·obtain⟨d0,h0,e0⟩:=xB _ _ _ _ hj;obtain⟨w,hw,j5⟩:=fL.rep j d0 h0;refine⟨w,hw,?_⟩;by_cases Q3:j∈fv
  ·rw[if_pos Q3]at e0;subst e0;refine Rep.map (q:=[j]) (q':=[j]) (λ_ _ h=>h) (λc p xs f h=>?_) j5 [] rfl;cases f with
   |ow =>
    refine⟨h.1,.inr ⟨h.1.ne,.inr (Si.t0 p _ h.2),λc' i' e'=>?_⟩⟩;rw[h.2]at e';have:=aaU List.getLast? (aax e');simp at this;subst this;exact Q3
   |fz=>exact⟨h.1,.inl h.2⟩
   |al=>exact h.2.elim
   |sc=>exact h
  ·rw[if_neg Q3]at e0;subst e0;refine j5.imp (q:=[j]) (q':=[j]) (λ_ _ h=>h) λc p xs f h=>?_;cases f with
   |ow =>
    refine⟨h.1,?_⟩;show(if jl (gP X F) τ fv p then none else τ p)=some (c++[j]);rw[if_neg (λz=>Q3 (z.2 c j h.2))];exact h.2
   |fz=>exact⟨h.1,.inl h.2⟩
   |al=>exact h.2.elim
   |sc=>exact h
 ·rcases hp with hp|hp
  ·simp only[Si.rt p hp];split<;>rfl
  ·rw[if_pos hp.2]
 ·rcases hp with hp|hp
  ·exact fL.rh p hp
  ·exact hp.1
 ·rcases hp with hp|hp
  ·exact Si.rf p hp
  ·exact hp.2.1
 ·split at hq
  ·cases hq
  ·exact fL.th p q hq
 ·split at hq
  ·cases hq
  ·exact Si.t0 p q hq
 ·cases f with
  |ow=>exact⟨h.1,.inr ⟨h.1.ne,fresh p (fr p _ h.2)⟩⟩
  |fz=>exact⟨h.1,.inl h.2⟩
  |al=>exact⟨h.1,.inr ⟨h.1.ne,h.2⟩⟩
  |sc=>exact h
theorem qL{v:V}{d:D}(Si:SI X F R τ ρ σ H)(es:aJ H H')(r:bQ X.K (gP X F) R τ fv H H' v d):
  ∃R' τ',(∀p,R p->R' p)/\SI X F R' τ' (g_ fv ρ) σ H'/\Rep (aU X.K H') (nd X.K R' (λ_=>False) (λ_=>none) H') [] v (aT aW d):=by
 obtain⟨τt,fr,rp⟩:=r;obtain⟨R',τ',h1,h2,h3⟩:=xC (fv:=fv) Si es;exact⟨R',τ',h1,h2,Rep.ip (λ_ _ h=>h) (h3 τt fr) rp _⟩
theorem tS(Si:SI X F R τ ρ σ H)(es:aJ H H')(r:cg X.K (gP X F) R τ fv H H' vs ds):
  ∃R' τ',(∀p,R p->R' p)/\SI X F R' τ' (g_ fv ρ) σ H'/\aA (aU X.K H') (nd X.K R' (λ_=>False) (λ_=>none) H') [] 0 vs (aB aW ds):=by
 obtain⟨τt,fr,rp⟩:=r;obtain⟨R',τ',h1,h2,h3⟩:=xC (fv:=fv) Si es;exact⟨R',τ',h1,h2,aA.ip (λ_ _ h=>h) (h3 τt fr) rp _ _⟩
theorem mh{v:V}{d:D}(h:Rep (aU X.K H) (nd X.K R (λ_=>False) (λ_=>none) H) [] v d):gJ X R τ' H v d:=⟨λ_=>none,λ_ _ h=>by simp at h,h⟩
open Classical in
theorem G5{e:CE}{v:V}{d:D}(Si:SI X F R τ ρ σ H)(es:aJ H H')(r:bQ X.K (gP X F) R τ (g9 e) H H' v d):
  ∃R' τ',(∀p,R p->R' p)/\SI X F R' τ' (keep e d ρ).2 σ H'/\gJ X R' τ' H' v (keep e d ρ).1:=by
 unfold keep;by_cases ha:aR bJ d=true
 ·rw[if_pos ha];obtain⟨R',τ',h1,h2,h3⟩:=qL Si es r;exact⟨R',τ',h1,h2,mh h3⟩
 ·obtain⟨τt,fr,rp⟩:=r;rw[if_neg ha];refine⟨R,τ,λ_ h=>h,Si.go es,λp=>if H' p=none then none else τt p,λp q hq=>?_,?_⟩
  ·dsimp only at hq;split at hq
   ·cases hq
   ·rename_i hn;have hf:=fr p q hq;refine⟨?_,λhR=>Si.rh p hR hf,Si.same.free hf,hn⟩;cases z:τ p with
    |none=>rfl
    |some k=>exact absurd hf (Si.th p k z)
  ·have Q8:aR bJ d=false:=by simpa using ha
   have st:∀{k:bj} {v:V} {d:D},Rep (aU X.K H') (nd X.K R (jl (gP X F) τ (g9 e)) τt H') k v d->aR bJ d=false->Rep (aU X.K H') (nd X.K R (λ_=>False) (λp=>if H' p=none then none else τt p) H') k v d:=by
    intro k v d h ha;exact Rep.jS (P:=bJ) (λ_ _ h=>h) (λk p xs f hf h=>by
     cases f with
     |ow=>exact⟨h.1,by show(if H' p=none then none else τt p)=_;rw[if_neg (h.1.ne)];exact h.2⟩
     |fz=>exact h
     |al=>cases hf
     |sc=>exact h) h ha
   exact st rp Q8
open Classical in
def tK(X:Cx)(F:ai)(Φ:aY)(c:CE):TE:=λσ H Q=>∃R τ ρ r,SI X F R τ ρ σ H/\jx Φ c ρ=ok r/\∀v H' R' τ',aJ H H'->(∀p,R p->R' p)->SI X F R' τ' r.2 σ H'->gJ X R' τ' H' v r.1->Q v H'
end
section
variable {T T':kG}{N N':hU}
theorem aA.child{q:bj}(hT:∀p xs,T p xs->T' p xs)(hN:∀c m p xs f,N (c++(m::q)) p xs f->N' (c++(m::q)) p xs f):∀{n:Nat} {vs:ae} {ds:ab},aA T N q n vs ds->aA T' N' q n vs ds
 |_,_,_,.nil=>.nil
 |n,_,_,.cons h t=>.cons (Rep.imp (q:=n::q) (q':=n::q) hT (λc p xs f h=>hN c n p xs f h) h) (aA.child hT hN t)
theorem aA.wj{q:bj}{v:V}{d:D}:∀{n:Nat} {vs:ae} {ds:ab},aA T N q n vs ds->Rep T N ((n+ds.length)::q) v d->aA T N q n (vs++[v]) (ds++[d])
 |n,_,_,.nil,h=>.cons (by simpa using h) .nil
 |n,_,_,.cons (ds:=ds) h t,h'=>.cons h (aA.wj t (by
   have e:n+(ds.length+1)=n+1+ds.length:=by left
   rw[List.length_cons,e]at h';exact h'))
theorem aA.setAt{q:bj}{v:V}{d:D}:∀{n j:Nat} {vs:ae} {ds:ab},aA T N q n vs ds->Rep T N ((n+j)::q) v d->aA T N q n (vs.set j v) (ds.set j d)
 |_,_,_,_,.nil,_=>by simp;exact .nil
 |_,0,_,_,.cons _ t,h'=>.cons (by simpa using h') t
 |n,j+1,_,_,.cons h t,h'=>.cons h (aA.setAt (j:=j) t (by
   have e:n+(j+1)=n+1+j:=by left
   rw[e]at h';exact h'))
end
variable {d0:D}{n':Nd}
section
variable {X:Cx}{F R:ai}{τ:Addr->Option bj}{ρ:a_}{σ:St}{H:Hp}
theorem SI.own{i:Nat}(Si:SI X F R τ ρ σ H)(hi:ρ[i]?=some (some (.lst .ow ds))):∃p xs,σ[i]?=some (some (.ref p))/\H p=some (.lst xs)/\xs.length=ds.length/\τ p=some [i]/\aA (aU X.K H) (nd X.K R (λ_=>False) τ H) [i] 0 xs ds:=by
 obtain⟨v,hv,rp⟩:=Si.rep i _ hi;cases rp with
 |lst h r=>exact⟨_,_,hv,h.1,r.length,h.2,r⟩
theorem kS{H:Hp}{p:Addr}{n:Nd}{o:HO}(hp:dO H p n){a:Addr}{ys:ae}(h:aU K H a ys):aU K (upd H p o) a ys:=by
 obtain⟨o0,BM,OE,LZ⟩:=dO.some hp;have nO:∀a u,H a=some u->u≠o0->a≠p:=λa u e h z=>by subst z;rw[BM]at e;cases e;exact h rfl
 rcases h with (h|⟨o',h⟩)|h
 ·exact .inl (.inl (by rw[aX (nO a _ h λz=>OE _ z.symm)];exact h))
 ·exact .inl (.inr ⟨o',by rw[aX (nO a _ h λz=>LZ _ _ z.symm)];exact h⟩)
 ·exact .inr h
theorem SI.Np{i m:Nat}{v:V}{d d1:D}{p:Addr}{n:Nd}{o:HO}(Si:SI X F R τ ρ σ H)(hi:ρ[i]?=some (some d0))(hv:σ[i]?=some (some (.ref p)))(hp:dO H p n)(ht:τ p=some [i])
  (rs:aA (aU X.K H) (nd X.K R (λ_=>False) τ H) [i] 0 xs ds) (rk:gJ X R τ H v d) (qF:dO (upd H p o) p n')
  (mk:∀{N:hU},N [i] p n' .ow->aA (aU X.K (upd H p o)) N [i] 0 xs' ds'->Rep (aU X.K (upd H p o)) N [i] (.ref p) d1)
  (hb:∀{N:hU},aA (aU X.K (upd H p o)) N [i] 0 xs ds->Rep (aU X.K (upd H p o)) N (m::[i]) v d->aA (aU X.K (upd H p o)) N [i] 0 xs' ds') :
  ∃τ',SI X F R τ' (ρ.set i (some d1)) σ (upd H p o)/\τ' p=some [i]/\aA (aU X.K (upd H p o)) (nd X.K R (λ_=>False) τ' (upd H p o)) [i] 0 xs' ds':=by
 obtain⟨τt,hτ,rp⟩:=rk;have L4:i<ρ.length:=by
  by_cases z:i<ρ.length
  ·exact z
  ·rw[List.getElem?_eq_none (by left)]at hi;cases hi
 obtain⟨o0,BM,OE,LZ⟩:=dO.some hp;have nR:∀a,R a->a≠p:=λa ha e=>by subst e;rw[Si.rt _ ha]at ht;cases ht
 have nT:∀a q,τt a=some q->a≠p:=λa q e z=>by subst z;rw[(hτ _ q e).1]at ht;cases ht
 have nO:∀a u,H a=some u->u≠o0->a≠p:=λa u e h z=>by subst z;rw[BM]at e;cases e;exact h rfl
 have keep:∀a,a≠p->(upd H p o) a=H a:=λa h=>aX h;have Ki:∀a ys,aU X.K H a ys->aU X.K (upd H p o) a ys:=λa ys h=>by
  rcases h with (h|⟨o',h⟩)|h
  ·exact .inl (.inl (by rw[keep a (nO a _ h λz=>OE _ z.symm)];exact h))
  ·exact .inl (.inr ⟨o',by rw[keep a (nO a _ h λz=>LZ _ _ z.symm)];exact h⟩)
  ·exact .inr h
 have Q_:∀a (z:Nd),a≠p->dO H a z->dO (upd H p o) a z:=λa z ne h=>h.at λu e=>by rw[keep a ne];exact e
 have W8:∀{τ1:Addr->Option bj} q q' a (z:Nd),nd X.K R (λ_=>False) τ1 H q a z .sc->∀τ2,nd X.K R (λ_=>False) τ2 (upd H p o) q' a z .sc:=λq q' a z h τ2=>by
  obtain⟨ys,rfl,h⟩:=h.Aq;exact h.elim (λ⟨o',w⟩=>.inl ⟨o',by rw[keep a (nO a _ w λz=>LZ _ _ z.symm)];exact w⟩) .inr
 have W_:∀q a ys f,q≠[i]->nd X.K R (λ_=>False) τ H q a ys f->nd X.K R (λ_=>False) (λa=>match τt a with|some q=>some (q++[m,i])|none=>τ a) (upd H p o) q a ys f:=λq a ys f hq h=>by
  cases f with
  |ow =>
   have ne:a≠p:=λz=>by
    subst z;have:=h.2.symm.trans ht;exact hq (aax this)
   refine⟨Q_ a ys ne h.1,?_⟩;cases z:τt a with
   |none=>simp only[z];exact h.2
   |some k=>have:=(hτ a k z).1;rw[h.2]at this;cases this
  |fz=>exact⟨Q_ a ys (nR a h.2) h.1,h.2⟩
  |al=>exact h.2.elim
  |sc=>exact W8 q q a ys h _
 have WO:(match τt p with|some q=>some (q++[m,i])|none=>τ p)=some [i]:=by
  cases z:τt p with
  |none=>exact ht
  |some k=>exact absurd rfl (nT p k z)
 have W9:aA (aU X.K (upd H p o)) (nd X.K R (λ_=>False) (λa=>match τt a with|some q=>some (q++[m,i])|none=>τ a) (upd H p o)) [i] 0 xs' ds':=hb (aA.child Ki (λc n a ys f h=>W_ _ a ys f (λz=>by
  have:=aaU List.length z;simp at this) h) rs) (rp.imp (q:=[]) (q':=[m,i]) Ki λc a ys f h=>by
  cases f with
  |ow =>
   rw[List.append_nil]at h;exact⟨Q_ a ys (nT a _ h.2) h.1,by simp only[h.2]⟩
  |fz=>exact⟨Q_ a ys (nR a h.2) h.1,h.2⟩
  |al=>exact h.2.elim
  |sc=>exact W8 _ _ a ys h _)
 refine⟨λa=>match τt a with|some q=>some (q++[m,i])|none=>τ a,⟨by simp[Si.len],λj d' hj=>?_,λa ha=>?_,λa ha=>?_,Si.rf,λa q hq=>?_,λa q hq=>?_,?_⟩,WO,W9⟩
 ·by_cases gS:j=i
  ·subst gS;rw[List.getElem?_set_self L4]at hj;cases hj;exact⟨.ref p,hv,mk ⟨qF,WO⟩ W9⟩
  ·rw[List.getElem?_set_ne (Ne.symm gS)]at hj;obtain⟨u,hu,ru⟩:=Si.rep j d' hj;refine⟨u,hu,ru.imp (q:=[j]) (q':=[j]) Ki λc a ys f h=>W_ _ a ys f (λz=>?_) h⟩;have:=aaU List.getLast? z;simp at this;exact gS this
 ·cases z:τt a with
  |none=>simp only[z];exact Si.rt a ha
  |some k=>exact absurd ha (hτ a k z).2.1
 ·rw[keep a (nR a ha)];exact Si.rh a ha
 ·by_cases W7:a=p
  ·subst W7;rw[aS];simp
  ·rw[keep a W7];cases z:τt a with
   |none=>simp only[z]at hq;exact Si.th a q hq
   |some k=>exact(hτ a k z).2.2.2
 ·cases z:τt a with
  |none=>simp only[z]at hq;exact Si.t0 a q hq
  |some k=>exact(hτ a k z).2.2.1
 ·intro a u e;have ne:a≠p:=λz=>by subst z;rw[Si.t0 _ _ ht]at e;cases e
  rw[keep a ne];exact Si.same a u e
theorem SI.Nq{i m:Nat}{v:V}{d d1:D}{p:Addr}{n:Nd}{o:HO}(Si:SI X F R τ ρ σ H)(hi:ρ[i]?=some (some d0))(hv:σ[i]?=some (some (.ref p)))(hp:dO H p n)(ht:τ p=some [i])
  (rs:aA (aU X.K H) (nd X.K R (λ_=>False) τ H) [i] 0 xs ds) (rk:gJ X R τ H v d) (qF:dO (upd H p o) p n')
  (mk:∀{N:hU},N [i] p n' .ow->aA (aU X.K (upd H p o)) N [i] 0 xs' ds'->Rep (aU X.K (upd H p o)) N [i] (.ref p) d1)
  (hb:∀{N:hU},aA (aU X.K (upd H p o)) N [i] 0 xs ds->Rep (aU X.K (upd H p o)) N (m::[i]) v d->aA (aU X.K (upd H p o)) N [i] 0 xs' ds') :
  ∃τ',SI X F R τ' (ρ.set i (some d1)) σ (upd H p o):=(Si.Np hi hv hp ht rs rk qF mk hb).imp λ_ h=>h.1
theorem SI.put{i m:Nat}{v:V}{d:D}{g:ae->ae}{p:Addr}(Si:SI X F R τ ρ σ H)(hi:ρ[i]?=some (some (.lst .ow ds)))(hv:σ[i]?=some (some (.ref p)))(hp:H p=some (.lst xs))(ht:τ p=some [i])
  (rs:aA (aU X.K H) (nd X.K R (λ_=>False) τ H) [i] 0 xs ds) (rk:gJ X R τ H v d)
  (hb:∀{N:hU},aA (aU X.K (upd H p (.lst (g xs)))) N [i] 0 xs ds->Rep (aU X.K (upd H p (.lst (g xs)))) N (m::[i]) v d->aA (aU X.K (upd H p (.lst (g xs)))) N [i] 0 (g xs) ds') :
  ∃τ',SI X F R τ' (ρ.set i (some (.lst .ow ds'))) σ (upd H p (.lst (g xs))) :=
 Si.Nq (n:=.l xs) (n':=.l (g xs)) hi hv hp ht rs rk aS (λh r=>.lst h r) hb
end
theorem jB{env:Env}:∀(names:List (Str×NameKind)) (acc:List (Str×Addr)),(∀x,(x,NameKind.free)∈names->∃c,env.cells.lookup x=some c) ->
  ∃cl,(forIn names acc (λ(y:Str×NameKind) (cs:List (Str×Addr))=>do
    let (name,kind):=y
    let mut cs:=cs
    if kind==.free then cs:=(name,<- cellOf env name)::cs
    pure (ForInStep.yield cs)):Sem (List (Str×Addr)))=pure cl /\
   (∀x c,cl.lookup x=some c->acc.lookup x=some c\/(env.cells.lookup x=some c/\(x,NameKind.free)∈names))/\(∀x,((x,NameKind.free)∈names\/(∃c,acc.lookup x=some c))->∃c,cl.lookup x=some c)
 |[],acc,_=>⟨acc,rfl,λx c h=>.inl h,λx h=>h.elim (λh=>nomatch h) id⟩
 | (n,kd)::names,acc,h=>by
  by_cases hk:kd=.free
  ·subst hk;obtain⟨c,hc⟩:=h n aai;obtain⟨cl,e,h1,h2⟩:=jB names ((n,c)::acc) (λx hx=>h x (aag _ hx));refine⟨cl,?_,λx c' hx=>?_,λx hx=>?_⟩
   ·rw[List.forIn_cons];have e0:cellOf env n=pure c:=by unfold cellOf;rw[hc]
    simp only[beq_self_eq_true,if_true,e0,pure_bind];exact e
   ·rcases h1 x c' hx with z|z
    ·by_cases Ou:x=n
     ·subst Ou;simp at z;subst z;exact .inr ⟨hc,aai⟩
     ·rw[List.lookup_cons]at z;have:(x==n)=false:=by simpa using Ou
      rw[this]at z;exact .inl z
    ·exact .inr ⟨z.1,aag _ z.2⟩
   ·refine h2 x ?_;rcases hx with hx|⟨c',hx⟩
    ·rcases List.mem_cons.mp hx with z|z
     ·cases z;exact .inr ⟨c,by simp⟩
     ·exact .inl z
    ·by_cases Ou:x=n
     ·subst Ou;exact .inr ⟨c,by simp⟩
     ·refine .inr ⟨c',?_⟩;rw[List.lookup_cons];have:(x==n)=false:=by simpa using Ou
      rw[this];exact hx
  ·obtain⟨cl,e,h1,h2⟩:=jB names acc (λx hx=>h x (aag _ hx));have hb:(kd==NameKind.free)=false:=by simpa using hk
   refine⟨cl,?_,λx c' hx=>(h1 x c' hx).imp id λz=>⟨z.1,aag _ z.2⟩,λx hx=>h2 x ?_⟩
   ·rw[List.forIn_cons];simp only[hb,Bool.false_eq_true,if_false,pure_bind];exact e
   ·rcases hx with hx|hx
    ·rcases List.mem_cons.mp hx with z|z
     ·cases z;exact absurd rfl hk
     ·exact .inl z
    ·exact .inr hx
variable {env:Env}
theorem vL{sc:Scope}(h:∀x,(x,NameKind.free)∈sc.names->∃c,env.cells.lookup x=some c):
  ∃cl,closureFor sc env=pure cl/\(∀x c,cl.lookup x=some c->env.cells.lookup x=some c)/\(∀x,(x,NameKind.free)∈sc.names->∃c,cl.lookup x=some c):=by
 obtain⟨cl,e,h1,h2⟩:=jB (env:=env) sc.names [] h;refine⟨cl,?_,λx c hx=>(h1 x c hx).elim (λz=>by simp at z) (·.1),λx hx=>h2 x (.inl hx)⟩;unfold closureFor;simp only[bind_pure];exact e
variable {P prog:aE}{e1 e2 jc iter target tg:Expr}{w:World}
theorem qT{A:aD}{R:Result->Shared->Prop}{s:Shared}{elt:Expr}{ifs:av}{scope:Scope}{it acc:Value}(I:Nat->Shared->Prop)
  (turn:∀n s,I n s->wpAny (model prog w) A (pyNext it) (λr s₁=>match r with
   |none=>R (.ok .next) s₁
   |some v=>wpAny (model prog w) A (letOwnedTupleGo target it v) (λ_ s₁=>wpAny (model prog w) A (assign target env v) (λ_ s₂ =>
     wpAny (model prog w) A (forIn ifs true λc r=>if r=true then do let ok <- isTrue c env (eval c env);pure (ForInStep.yield ok)else pure (ForInStep.yield r)) (λok s₃ =>
      if ok=true then wpAny (model prog w) A (eval elt env) (λx s₄ =>
       wpAny (model prog w) A (call (.builtin "list.append") [acc,x]) (λ_ s₅=>∃m,m<n/\I m s₅) (λ_ _=>False) s₄) (λ_ _=>False) s₃
      else ∃m,m<n/\I m s₃) (λ_ _=>False) s₂) (λ_ _=>False) s₁) (λ_ _=>False) s₁) (λ_ _=>False) s)
  (n:Nat) (h:I n s) :
  codeAny (model prog w) A (.compLoop (.ListComp elt [⟨target,iter,ifs,0⟩] scope pos) 0 it acc env) R s:=by
 refine codeAny_loop rfl I (λn s hI=>?_) n h;show wpAny _ A ((compTurn (.ListComp elt [⟨target,iter,ifs,0⟩] scope pos) 0 it acc env).onRaise (λx=>do noteFrame x env;theTreesLotGoes x)) _ _ s;refine wpAny_noted ?_;rw[compTurn_list];refine aaa (acg (aaa (aaF (turn n s hI) (λr s₁ h₁=>?_) λ_ _ h'=>h'.elim)));cases r with
 |none=>exact aab h₁
 |some v =>
  refine aaa (aaF h₁ (λ_ s₂ h₂=>?_) λ_ _ h'=>h'.elim);refine aaa (aaF h₂ (λ_ s₂ h₂=>aaa (aaF h₂ (λok s₃ h₃=>?_) λ_ _ h'=>h'.elim)) λ_ _ h'=>h'.elim);cases ok with
  |false=>exact aab ⟨rfl,h₃⟩
  |true =>
   exact aaa (aaa (aaF h₃ (λx s₄ h₄=>aaa (aaF h₄ (λ_ s₅ h₅=>aab (aab ⟨rfl,h₅⟩)) λ_ _ h'=>h'.elim)) λ_ _ h'=>h'.elim))
noncomputable def dZ(X:Cx)(N':aq)(scope:Scope)(cl:List (Str×Addr))(C:Addr)(s₀:Shared)(H₀:Hp)(fp:aN):Cx :=
 { X with N:=N',s₀:=s₀,H₀:=H₀,env:=compEnvC scope cl C X.env,outer:=X.stack,stack:=X.stack,ex:=fp,fn:=λ_=>false,pn:=[],xe:=λ_ _=>False }
theorem fg{env:Env}:∀{names:List (Str×NameKind)} {x:Str} {kd:NameKind},(names.map λ(n,k)=>if (k==NameKind.free&&env.scope.kind==.function&&env.kindOf n==some .cell)then(n,NameKind.cell)else(n,k)).lookup x=some kd ->
  names.lookup x=some kd\/(kd=.cell/\names.lookup x=some .free)
 |[],_,_,h=>by simp at h
 | (n,k)::r,x,kd,h=>by
  rw[List.map_cons]at h;cases hx:x==n with
  |true =>
   by_cases hc:(k==NameKind.free&&env.scope.kind==.function&&env.kindOf n==some .cell)=true
   ·simp only[hc,if_true,List.lookup_cons,hx]at h;cases h;simp only[Bool.and_eq_true,beq_iff_eq]at hc;refine .inr ⟨rfl,?_⟩;rw[List.lookup_cons,hx,hc.1.1]
   ·have uz:(k==NameKind.free&&env.scope.kind==.function&&env.kindOf n==some .cell)=false:=by simpa using hc
    simp only[uz,Bool.false_eq_true,if_false,List.lookup_cons,hx]at h;cases h;exact .inl (by rw[List.lookup_cons,hx])
  |false =>
   have:List.lookup x (r.map λ(n,k)=>if (k==NameKind.free&&env.scope.kind==.function&&env.kindOf n==some .cell)then(n,NameKind.cell)else(n,k))=some kd:=by
    by_cases hc:(k==NameKind.free&&env.scope.kind==.function&&env.kindOf n==some .cell)=true
    ·simp only[hc,if_true,List.lookup_cons,hx]at h;exact h
    ·have uz:(k==NameKind.free&&env.scope.kind==.function&&env.kindOf n==some .cell)=false:=by simpa using hc
     simp only[uz,Bool.false_eq_true,if_false,List.lookup_cons,hx]at h;exact h
   rw[List.lookup_cons,hx];exact fg this
theorem de{env:Env}:∀{names:List (Str×NameKind)} {x:Str},names.lookup x=some .free ->
  (names.map λ(n,k)=>if (k==NameKind.free&&env.scope.kind==.function&&env.kindOf n==some .cell)then(n,NameKind.cell)else(n,k)).lookup x=some .free \/
  (names.map λ(n,k)=>if (k==NameKind.free&&env.scope.kind==.function&&env.kindOf n==some .cell)then(n,NameKind.cell)else(n,k)).lookup x=some .cell
 |[],_,h=>by simp at h
 | (n,k)::r,x,h=>by
  rw[List.map_cons];cases hx:x==n with
  |true =>
   rw[List.lookup_cons,hx]at h;cases h;by_cases hc:(NameKind.free==NameKind.free&&env.scope.kind==.function&&env.kindOf n==some .cell)=true
   ·simp only[hc,if_true,List.lookup_cons,hx];exact .inr trivial
   ·have uz:(NameKind.free==NameKind.free&&env.scope.kind==.function&&env.kindOf n==some .cell)=false:=by simpa using hc
    simp only[uz,Bool.false_eq_true,if_false,List.lookup_cons,hx];exact .inl trivial
  |false =>
   rw[List.lookup_cons,hx]at h;by_cases hc:(k==NameKind.free&&env.scope.kind==.function&&env.kindOf n==some .cell)=true
   ·simp only[hc,if_true,List.lookup_cons,hx];exact de h
   ·have uz:(k==NameKind.free&&env.scope.kind==.function&&env.kindOf n==some .cell)=false:=by simpa using hc
    simp only[uz,Bool.false_eq_true,if_false,List.lookup_cons,hx];exact de h
theorem dw{names:List (Str×NameKind)}{x:Str}{kd:NameKind}(h:names.lookup x=some kd):(x,kd)∈names:=aa6 h
structure jO(S:Sx)(n:Nat)(t:Tg)(caps:aO)(target:Expr)(sc:Scope):Prop where
 kind:sc.kind=.function
 A9:∀y∈sc.names,y.2≠.cell
 loc:∀y∈sc.names,y.2=.local->sc.names.lookup y.1=some .local
 free:∀x,(x,NameKind.free)∈sc.names->S.sc.names.lookup x=some .cell\/S.sc.names.lookup x=some .free
 n:n=(bX target).length
 tl:∀x∈bX target,sc.names.lookup x=some .local
 nd:(bX target++fT S caps).Nodup
 cL:∀i∈caps,∃x,S.N[i]?=some x/\sc.names.lookup x=some .free
 tg:(∃x p,t=.nm 0/\target=.Name x p)\/(∃es k p,t=.tp (List.range es.length)/\target=.Tuple es k p/\es.all isNm=true)
theorem pQ{n:Nat}{t:Tg}{sc:Scope}(h:qW S n t caps target sc=true):jO S n t caps target sc:=by
 unfold qW at h;simp only[Bool.and_eq_true,decide_eq_true_eq,List.all_eq_true,Bool.or_eq_true]at h;obtain⟨⟨⟨⟨⟨⟨h1,h2⟩,h3⟩,h4⟩,h5⟩,h6⟩,h7⟩:=h;refine⟨h1,λy hy=>(h2 y hy).1.1,λy hy hk=>?_,λx hx=>?_,h3,h4,h5,λi hi=>?_,?_⟩
 ·rcases(h2 y hy).1.2 with z|z
  ·exact absurd hk z
  ·exact z
 ·rcases(h2 _ hx).2 with (z|z)|z
  ·exact absurd rfl z
  ·exact .inl z
  ·exact .inr z
 ·have:=h6 i hi;split at this
  ·rename_i x e;exact⟨x,e,aac this⟩
  ·cases this
 ·cases t with
  |nm i =>
   obtain⟨g1,g2⟩:=aK h7;obtain rfl:i=0:=aac g1;cases target<;>first | (cases g2;done)|exact .inl ⟨_,_,rfl,rfl⟩
  |tp is =>
   obtain⟨es,hv,g⟩:=bx h7;obtain⟨k,p,rfl⟩:=iM hv;obtain⟨g1,g2⟩:=aK g;obtain rfl:is=_:=aac g1;exact .inr ⟨es,k,p,rfl,rfl,g2⟩
theorem ui{S:Sx}:∀{caps:aO},(∀i∈caps,∃x,S.N[i]?=some x)->(fT S caps).length=caps.length/\∀(j i:Nat),caps[j]?=some i->(fT S caps)[j]?=S.N[i]?
 |[],_=>⟨rfl,λj i h=>by simp at h⟩
 |i::caps,h=>by
  obtain⟨x,hx⟩:=h i aai;obtain⟨h1,h2⟩:=ui (caps:=caps) λj hj=>h j (aag _ hj);have e:fT S (i::caps)=x::fT S caps:=by unfold fT;rw[List.filterMap_cons,hx]
  rw[e];refine⟨by simp[h1],λj k hj=>?_⟩;cases j with
  |zero=>simp at hj;subst hj;simp[hx]
  |succ j=>simp at hj ⊢;exact h2 j k hj
variable {base h' h₁:Heap}
section
variable {X:Cx}{S:Sx}{k:Nat}{Φ:aY}{pins:aj}{σ:St}{H2:Hp}{s₂:Shared}
noncomputable def oB(n:Nat)(caps:aO)(σ:St):St:=List.replicate n none++caps.map λi=>σ[i]?.getD none
noncomputable def eH(aI:ak)(n:Nat):Obj:={ cls:=.type "list",data:=.seq aI.toArray n }
theorem F1{n:Nat}{t:Tg}{sc:Scope}{cl:List (Str×Addr)}(L:Lk X S k Φ)(co:jO S n t caps target sc)(I2:Inv X pins σ H2 s₂)
  (l3:∀x c,cl.lookup x=some c->X.env.cells.lookup x=some c) (vv:∀x,(x,NameKind.free)∈sc.names->∃c,cl.lookup x=some c) (Fq:∀b∈fp,og X pins H2 b) (J8:∀b∈fp,b<s₂.heap.objs.size) :
  (dZ X (bX target++fT S caps) sc cl (s₂.heap.objs.size+1) s₂ H2 fp).Ok:=by
 have Oy:=I2.kR;refine⟨I2.ok.mod,co.kind,I2.ok.glob,I2.ok.blt,ab_ _,λx y c h1 h2=>I2.ok.inj x y c (l3 x c h1) (l3 y c h2),λx hx=>?_,(λ_ _ z=>by cases z),I2.ok.hd,I2.ok.frames,.inl rfl,λb hb=>⟨?_,λx c e=>(Fq b hb).2.2.2.2.1 x c (l3 x c e)⟩,I2.bs,aaG I2.ok.Hs I2.sz,λb o e hb=>?_,λb hb z=>?_,I2.stack,I2.we⟩
 ·have BE:(relabel sc X.env).names.lookup x=some .cell\/(relabel sc X.env).names.lookup x=some .free:=hx;rcases BE with BE|BE
  ·rcases fg BE with z|z
   ·exact absurd rfl (co.A9 _ (dw z))
   ·exact vv x (dw z.2)
  ·rcases fg BE with z|z
   ·exact vv x (dw z)
   ·cases z.1
 ·exact aas (aaQ (J8 b hb))
 ·rcases(Fq b hb).2.2.2.1 with z|z
  ·exact I2.ok.A8 b o e z
  ·exact absurd (aal (aak e) (aaG I2.ok.Hs z)) (aaA _)
 ·rcases List.mem_cons.mp (Oy b z)with w|w
  ·exact(Fq b hb).2.1 w
  ·exact(Fq b hb).2.2.1 w
theorem BC{n:Nat}{t:Tg}{sc:Scope}{cl:List (Str×Addr)}{tk:Nat}(L:Lk X S k Φ)(co:jO S n t caps target sc)(I2:Inv X pins σ H2 s₂)
  (l3:∀x c,cl.lookup x=some c->X.env.cells.lookup x=some c) (vv:∀x,(x,NameKind.free)∈sc.names->∃c,cl.lookup x=some c) (Fq:∀b∈fp,og X pins H2 b) (J8:∀b∈fp,b<s₂.heap.objs.size)
  (yN:h₁.Ns (s₂.heap.objs.size+1) λ_=>none) (old:∀b o,s₂.heap.get? b=some o->h₁.get? b=some o) (fw:h₁.get? s₂.heap.objs.size=some (eH [] 0)) :
  Inv (dZ X (bX target++fT S caps) sc cl (s₂.heap.objs.size+1) s₂ H2 fp) [(s₂.heap.objs.size,eH [] 0)] (oB n caps σ) H2 { s₂ with heap:=h₁,toks:=tk }:=by
 have nE:∀i∈caps,∃x,S.N[i]?=some x:=λi hi=>let ⟨x,e,_⟩:=co.cL i hi;⟨x,e⟩;obtain⟨cl1,cl2⟩:=ui nE;refine⟨F1 L co I2 l3 vv Fq J8,rfl,I2.bare,Un.kept old,⟨_,yN,λi x v e1 e2 e3=>?_⟩,λx c e=>?_,I2.cM.fresh (ab_ _),λx c e=>I2.ji x c (l3 x c e),λp hp=>?_,I2.cM.kept old,?_⟩
 ·unfold oB at e2;have hi:n<=i:=by
   by_cases hi:i<n
   ·rw[List.getElem?_append_left (by simpa using hi),List.getElem?_replicate,if_pos hi]at e2;cases e2
   ·left
  have Rp:(bX target++fT S caps)[i]?=some x:=e1;rw[List.getElem?_append_right (by rw[<- co.n];exact hi),<- co.n]at Rp;rw[List.getElem?_append_right (by simpa using hi),List.length_replicate,List.getElem?_map]at e2;cases hc:caps[i - n]? with
  |none=>rw[hc]at e2;cases e2
  |some ci =>
   rw[hc]at e2;rw[cl2 _ _ hc]at Rp;obtain⟨x',Vl,Q4⟩:=co.cL ci (aaD hc);rw[Vl]at Rp;cases Rp;have e2':σ[ci]?=some (some v):=by
    have PN:σ[ci]?.getD none=some v:=aax e2;cases q:σ[ci]? with
    |none=>rw[q]at PN;cases PN
    |some o=>rw[q]at PN;simp at PN;rw[PN]
   have Uc:Hz X.env.scope x:=by
    unfold Hz;rw[L.sc];rcases co.free x (dw Q4)with z|z
    ·exact .inr (.inl z)
    ·exact .inr (.inr z)
   obtain⟨m,hn,hl⟩:=I2.loc;obtain⟨u,r,lk⟩:=hl ci x v (by rw[L.N];exact Vl) e2' Uc;refine⟨u,r,.inr ⟨?_,?_⟩⟩
   ·rcases de (env:=X.env) Q4 with z|z
    ·exact .inr z
    ·exact .inl z
   ·have Zu:∃c,X.env.cells.lookup x=some c/\s₂.heap.IsCell c (some u):=by
     rcases lk with ⟨z,_⟩|⟨_,z⟩
     ·have z':X.env.scope.names.lookup x=some .local:=z;rw[L.sc]at z';rcases co.free x (dw Q4)with w|w<;>(rw[w]at z';cases z')
     ·exact z
    obtain⟨c,ec,o,ho,hd⟩:=Zu;obtain⟨c',Xn⟩:=vv x (dw Q4);have:=l3 x c' Xn;rw[ec]at this;cases this;exact⟨c,Xn,o,old _ _ ho,hd⟩
 ·obtain⟨v,o,ho,hd⟩:=I2.cell x c (l3 x c e);exact⟨v,o,old _ _ ho,hd⟩
 ·have tM:p=(s₂.heap.objs.size,eH [] 0):=by simpa [dZ]using hp
  subst tM;refine⟨fw,I2.cM.fresh (aam _),aas (aa0 _),λz=>?_,λv z=>by cases z⟩;rcases List.mem_cons.mp (I2.kR _ z)with w|w
  ·exact absurd w (aaz I2.lt)
  ·exact I2.Jp (aam _) w
 ·show(oB n caps σ).length=(bX target++fT S caps).length;unfold oB;rw[List.length_append,List.length_append,List.length_replicate,List.length_map,cl1,co.n]
end
theorem aA.snoc{T:kG}{N:hU}{k:bj}:∀{n:Nat} {vs:ae} {ds:ab} {v:V} {d:D},aA T N k n vs ds->Rep T N ((n+ds.length)::k) v d->aA T N k n (vs++[v]) (ds++[d])
 |n,_,_,_,_,.nil,h=>.cons h .nil
 |n,_,_,_,_,.cons (ds:=ds) h t,r=>.cons h (aA.snoc t (by
  have e:n+(ds.length+1)=n+1+ds.length:=by left
  rw[List.length_cons,e]at r;exact r))
open Classical in
theorem cg.snoc{K:ao}{G R:ai}{τ:Addr->Option bj}{fv:aO}{H H1 H2:Hp}{v:V}{d:D}{vs:ae}{ds:ab}(e1:aJ H H1)(e2:aJ H1 H2)(h:cg K G R τ fv H H1 vs ds)(t:bQ K G R τ fv H1 H2 v d):
  cg K G R τ fv H H2 (vs++[v]) (ds++[d]):=by
 obtain⟨τ1,f1,h1⟩:=h;obtain⟨τ2,f2,h2⟩:=t;refine⟨λp=>if H1 p=none then(τ2 p).map (· ++ [ds.length])else τ1 p,λp q hq=>?_,aA.snoc (h1.imp (q:=[]) (q':=[]) (λ_ _ h=>aU.same e2 h) λc p xs f h=>?_) ((Nat.zero_add ds.length).symm▸h2.imp (q:=[]) (q':=[ds.length]) (λ_ _ h=>h) λc p xs f h=>?_)⟩
 ·dsimp only at hq;by_cases hp:H1 p=none
  ·exact e1.free hp
  ·rw[if_neg hp]at hq;exact f1 p q hq
 ·have h':=nd.same e2 h;cases f with
  |ow =>
   refine⟨h'.1,?_⟩;show(if H1 p=none then(τ2 p).map (· ++ [ds.length])else τ1 p)=_;rw[if_neg (h.1.ne)];exact h.2
  |fz=>exact h'
  |al=>exact h'
  |sc=>exact h'
 ·cases f with
  |ow =>
   refine⟨h.1,?_⟩;show(if H1 p=none then(τ2 p).map (· ++ [ds.length])else τ1 p)=_;rw[if_pos (f2 p _ h.2),h.2];simp
  |fz=>exact h
  |al=>exact h
  |sc=>exact h
structure Yl(K:ao)(J:It)(R:ai)(H1:Hp)(items:ab):Prop where
 go:∀i H',aJ H1 H'->i<items.length->J.go i H'
 uv:∀i H' x lP,aJ H1 H'->i<items.length->J.uv i H' x lP->aJ H' lP/\∃d,items[i]?=some d/\Rep (aU K lP) (nd K R (λ_=>False) (λ_=>none) lP) [] x d
 stop:∀i H',aJ H1 H'->items.length<=i->J.stop i H'
variable {C i1 i2 it l1 l2:Addr}{s₂:Shared}
section
variable {X:Cx}{S:Sx}{k:Nat}{F:ai}{Φ:aY}
def kU(X:Cx)(F:ai)(τ:Addr->Option bj)(fv:aO)(H2:Hp)(p:Addr):Prop:=H2 p≠none/\jl (gP X F) τ fv p
theorem uT{τt:Addr->Option bj}(Si:SI X F R τ ρ σ H)(fr:∀p q,τt p=some q->H p=none)(hs:∀i∈fv,i∈fv')(kp kq:bj)(p:Addr)(xs:Nd)(f:Fl)
  (h:nd X.K R (jl (gP X F) τ fv) τt H2 kp p xs f):nd X.K (kU X F τ fv' H2) (λ_=>False) (λ_=>none) H2 kq p xs (aW f):=by
 cases f with
 |ow=>exact⟨h.1,h.1.ne,.inr (Si.same.free (fr p _ h.2)),λc i e=>absurd (fr p _ h.2) (Si.th p _ e)⟩
 |fz=>exact⟨h.1,h.1.ne,Si.rf p h.2,λc i e=>by rw[Si.rt p h.2]at e;cases e⟩
 |al=>exact⟨h.1,h.1.ne,h.2.mono hs⟩
 |sc=>exact h
theorem Ds{a:Addr}{q:bj}(hl:dh X.K H1 a xs)(rs:aA (aU X.K H1) (nd X.K R (λ_=>False) (λ_=>none) H1) q 0 xs items):Yl X.K (Mm X.K a) R H1 items where
 go:=λi H' e hi=>⟨xs,xs[i]'(by rw[rs.length];exact hi),e.seq hl,aao _⟩
 uv:=λi H' x lP e hi y=>by
  obtain⟨rfl,y⟩:=y;obtain⟨d,hd,rd⟩:=rs.tR (y xs (e.seq hl));refine⟨aJ.refl _,d,hd,?_⟩;have:=Rep.ip (g:=id) (λ_ _ h=>h) nd.nH rd [];rw[dE]at this;exact this.imp (λ_ _ h=>aU.same e h) λ_ _ _ _ h=>nd.same e h
 stop:=λi H' e hi=>⟨xs,e.seq hl,by rw[rs.length];exact hi⟩
theorem HG{a:Addr}{q:bj}(hl:aU X.K H1 a xs)(rs:aA (aU X.K H1) (nd X.K R (λ_=>False) (λ_=>none) H1) q 0 xs items):Yl X.K (Ml X.K a) R H1 items where
 go:=λi H' e hi=>⟨xs,xs[i]'(by rw[rs.length];exact hi),aU.same e hl,aao _⟩
 uv:=λi H' x lP e hi y=>by
  obtain⟨rfl,y⟩:=y;obtain⟨d,hd,rd⟩:=rs.tR (y xs (aU.same e hl));refine⟨aJ.refl _,d,hd,?_⟩;have:=Rep.ip (g:=id) (λ_ _ h=>h) nd.nH rd [];rw[dE]at this;exact this.imp (λ_ _ h=>aU.same e h) λ_ _ _ _ h=>nd.same e h
 stop:=λi H' e hi=>⟨xs,aU.same e hl,by rw[rs.length];exact hi⟩
theorem HH{lo:Int}{n:Nat}:Yl X.K (zy lo n) R H1 ((List.range n).map λ(k:Nat)=>D.int (lo+(k:Int))) where
 go:=λi H' e hi=>by simpa [zy]using hi
 uv:=λi H' x lP e hi y=>by
  obtain⟨rfl,rfl⟩:=y;have mv:i<n:=by simpa using hi
  exact⟨aJ.refl _,.int (lo+i),by rw[List.getElem?_map,List.getElem?_range mv];rfl,.int _⟩
 stop:=λi H' e hi=>by simpa [zy]using hi
theorem Am{n:Nat}{t:Tg}{sc:Scope}{cl:List (Str×Addr)}(Si:SI X F R τ ρ σ H2)(hs:∀i∈caps,i∈fv):
  SI (dZ X (bX target++fT S caps) sc cl C s₂ H2 fp) (jl (gP X F) τ fv) (kU X F τ fv H2) (λ_=>none) (bF n caps ρ) (oB n caps σ) H2:=by
 refine⟨by simp[bF,oB],λi d hi=>?_,λ_ _=>rfl,λp h=>h.1,λp h=>.inl h.2,λ_ _ h=>by simp at h,λ_ _ h=>by simp at h,aJ.refl _⟩;unfold bF at hi;have hn:n<=i:=by
  by_cases hn:i<n
  ·rw[List.getElem?_append_left (by simpa using hn),List.getElem?_replicate,if_pos hn]at hi;cases hi
  ·left
 rw[List.getElem?_append_right (by simpa using hn),List.length_replicate,List.getElem?_map]at hi;cases hc:caps[i - n]? with
 |none=>rw[hc]at hi;exact nk hi
 |some ci =>
  rw[hc]at hi;have mv:(ρ[ci]?.getD none).map (aT aW)=some d:=aax hi;have hr:∃d0,ρ[ci]?=some (some d0)/\aT aW d0=d:=by
   cases q:ρ[ci]? with
   |none=>rw[q]at mv;cases mv
   |some o =>
    cases o with
    |none=>rw[q]at mv;cases mv
    |some d0=>rw[q]at mv;exact⟨d0,rfl,aax mv⟩
  obtain⟨d0,h0,rfl⟩:=hr;obtain⟨v,hv,rv⟩:=Si.rep ci d0 h0;refine⟨v,?_,Rep.ip (λ_ _ h=>h) (λkp kq p xs f h=>?_) ((rv.imp (q:=[ci]) (q':=[ci]) (N':=λq p xs f=>nd X.K R (λ_=>False) τ H2 q p xs f/\(f=.ow->∃c,q=c++[ci])) (λ_ _ h=>h) λc p xs f h=>⟨h,λ_=>⟨c,rfl⟩⟩)) [i]⟩
  ·unfold oB;rw[List.getElem?_append_right (by simpa using hn),List.length_replicate,List.getElem?_map,hc];simp[hv]
  ·obtain⟨h,hq⟩:=h;cases f with
   |ow =>
    obtain⟨c,rfl⟩:=hq rfl;refine⟨h.1,h.1.ne,.inr (Si.t0 p _ h.2),λc' i' e=>?_⟩;rw[h.2]at e;have:=aaU List.getLast? (aax e);simp at this;subst this;exact hs _ (aaD hc)
   |fz=>exact⟨h.1,h.1.ne,Si.rf p h.2,λc i e=>by rw[Si.rt p h.2]at e;cases e⟩
   |al=>exact h.2.elim
   |sc=>exact h
theorem Ba:∀{es:av},es.all isNm=true->∃xs:List (Str×Pos),es=xs.map λx=>Expr.Name x.1 x.2
 |[],_=>⟨[],rfl⟩
 |e::es,h=>by
  rw[List.all_cons,Bool.and_eq_true]at h;obtain⟨xs,rfl⟩:=Ba h.2;cases e<;>simp[isNm]at h;exact⟨(_,_)::xs,rfl⟩
theorem uN(xs:List (Str×Pos)):(xs.map λx=>Expr.Name x.1 x.2).filterMap (λe=>match e with|.Name x _=>some x|_=>none)=xs.map (·.1):=by
 induction xs with
 |nil=>rfl
 |cons x xs ih=>simp[ih]
def B5(i:Nat):Nat->Gh
 |0=>Ku
 |n+1=>B6 (pJ i) (B5 (i+1) n)
theorem wN{X:Cx}(hN:X.N.Nodup):∀(xs:List (Str×Pos)) (i:Nat),(∀(j:Nat) x,xs[j]?=some x->X.N[i+j]?=some x.1/\X.env.scope.names.lookup x.1=some .local) ->
  Mj X (xs.map λx=>Expr.Name x.1 x.2) (B5 i xs.length)/\(assignEach (xs.map λx=>Expr.Name x.1 x.2) X.env).length=xs.length/\(assignEach (xs.map λx=>Expr.Name x.1 x.2) X.env).findIdx? (·.1)=none
 |[],_,_=>⟨wL,rfl,rfl⟩
 |x::xs,i,h=>by
  obtain⟨h1,h2,h3⟩:=wN hN xs (i+1) λj y hy=>by
   have:=h (j+1) y (by simpa using hy)
   rwa [show i+(j+1)=i+1+j by left]at this
  obtain⟨g1,g2⟩:=h 0 x rfl;refine⟨sU (qp hN g1 (.inl g2) (.inr g2)) h1 rfl,?_,?_⟩
  ·show(_::assignEach _ X.env).length=_;rw[List.length_cons,h2];rfl
  ·show(((false,assign (.Name x.1 x.2) X.env)::assignEach (xs.map λx=>Expr.Name x.1 x.2) X.env)).findIdx? (·.1)=none;rw[List.findIdx?_cons];simp[h3]
end
section
variable {X:Cx}{F R:ai}{τ:Addr->Option bj}{ρ:a_}{σ σ':St}{H:Hp}
theorem SI.M1{i:Nat}{v:V}{d:D}(Si:SI X F R τ ρ σ H)(rp:Rep (aU X.K H) (nd X.K R (λ_=>False) (λ_=>none) H) [] v d)(hi:i<ρ.length):SI X F R τ (ρ.set i (some d)) (σ.set i (some v)) H:=by
 refine⟨by simp[Si.len],λj d' hj=>?_,Si.rt,Si.rh,Si.rf,Si.th,Si.t0,Si.same⟩;by_cases gS:j=i
 ·subst gS;rw[List.getElem?_set_self hi]at hj;cases hj;refine⟨v,List.getElem?_set_self (by rw[<- Si.len];exact hi),rp.imp (q':=[j]) (λ_ _ h=>h) λc p xs f h=>?_⟩;cases f with
  |ow=>exact nomatch h.2
  |fz=>exact h
  |al=>exact h
  |sc=>exact h
 ·rw[List.getElem?_set_ne (Ne.symm gS)]at hj;obtain⟨w,hw,j5⟩:=Si.rep j d' hj;exact⟨w,by rw[List.getElem?_set_ne (Ne.symm gS)];exact hw,j5⟩
theorem SI.sig(Si:SI X F R τ ρ σ H)(hl:σ'.length=σ.length)(h:∀(i:Nat) d,ρ[i]?=some (some d)->σ'[i]?=σ[i]?):SI X F R τ ρ σ' H :=
 ⟨by rw[hl];exact Si.len,λi d hi=>let ⟨v,hv,r⟩:=Si.rep i d hi;⟨v,by rw[h i d hi];exact hv,r⟩,Si.rt,Si.rh,Si.rf,Si.th,Si.t0,Si.same⟩
theorem mW{Q:St->Hp->Prop}(σ0:St)(hi:Nat):∀{m i:Nat} {vs:ae} {ds:ab} {kp:bj} {q:Nat} {σ:St} {ρ ρ':a_},i+m=hi->aA (aU X.K H) (nd X.K R (λ_=>False) (λ_=>none) H) kp q vs ds->SI X F R τ ρ σ H->gR (List.range' i m) ds ρ=ok ρ' ->
  σ.length=σ0.length->(∀j,hi<=j->σ[j]?=σ0[j]?)->(∀σ',σ'.length=σ0.length->(∀j,hi<=j->σ'[j]?=σ0[j]?)->SI X F R τ ρ' σ' H->Q σ' H)->B5 i m vs σ H Q
 |0,_,_,_,_,_,σ,_,_,_,.nil,Si,e,h1,h2,hq=>by
  cases e;exact⟨rfl,hq σ h1 h2 Si⟩
 |0,_,_,_,_,_,_,_,_,_,.cons _ _,_,e,_,_,_=>by cases e
 |m+1,_,_,_,_,_,_,_,_,_,.nil,_,e,_,_,_=>by cases e
 |m+1,i,_,_,_,_,σ,ρ,_,him,.cons (v:=v) (d:=d) h t,Si,e,h1,h2,hq=>by
  change (if _ then _ else _)=_ at e;split at e
  ·rename_i mv;have fL:=Si.M1 (i:=i) (Rep.qx h) mv;refine⟨_,_,rfl,mW σ0 hi (by left) t fL e (by simpa using h1) (λj hj=>?_) hq⟩;rw[List.getElem?_set_ne (by left)];exact h2 j hj
  ·cases e
end
section
variable {X:Cx}{S:Sx}{k:Nat}{F:ai}{Φ:aY}
theorem HV{n:Nat}{t:Tg}{sc:Scope}{cl:List (Str×Addr)}(OZ:X.calm=true)(co:jO S n t caps target sc):
  ∃g,PG (dZ X (bX target++fT S caps) sc cl C s₂ H2 fp) target g/\∀(F' R':ai) (x:V) (d:D) (σ':St) (lP:Hp) (Q:St->Hp->Prop) (ρb ρ1:a_),
   SI (dZ X (bX target++fT S caps) sc cl C s₂ H2 fp) F' R' (λ_=>none) ρb σ' lP->Rep (aU X.K lP) (nd X.K R' (λ_=>False) (λ_=>none) lP) [] x d->aR cB d=false->cv t d ρb=ok ρ1 ->
   (∀σ2,σ2.length=σ'.length->(∀j,n<=j->σ2[j]?=σ'[j]?)->SI (dZ X (bX target++fT S caps) sc cl C s₂ H2 fp) F' R' (λ_=>none) ρ1 σ2 lP->Q σ2 lP)->g x σ' lP Q:=by
 have J6:∀x∈bX target,(relabel sc X.env).names.lookup x=some .local:=λx hx=>lookup_relabel_local (co.tl x hx);rcases co.tg with ⟨x,p,rfl,rfl⟩|⟨es,kk,p,rfl,rfl,yQ⟩
 ·have hn:n=1:=co.n;subst hn;refine⟨pJ 0,qp co.nd rfl (.inl (J6 x (List.mem_singleton.mpr rfl:x∈[x]))) (.inr (J6 x (List.mem_singleton.mpr rfl:x∈[x]))),λF' R' v d σ' lP Q ρb ρ1 Si rp _ e hq=>?_⟩;simp only[cv]at e;split at e
  ·rename_i hi;cases e;refine hq _ (by simp) (λj hj=>?_) (Si.M1 rp hi);rw[List.getElem?_set_ne (by left)]
  ·cases e
 ·obtain⟨xs,rfl⟩:=Ba yQ;have hN:bX (.Tuple (xs.map λx=>Expr.Name x.1 x.2) kk p)=xs.map (·.1):=uN xs;have hn:n=xs.length:=by rw[co.n,hN,List.length_map]
  have:=wN (X:=dZ X (bX (.Tuple (xs.map λx=>Expr.Name x.1 x.2) kk p)++fT S caps) sc cl C s₂ H2 fp) co.nd xs 0 (λj y hy=>by
   refine⟨?_,J6 y.1 (by rw[hN];exact List.mem_map.mpr ⟨y,aaD hy,rfl⟩)⟩;show(bX (.Tuple (xs.map λx=>Expr.Name x.1 x.2) kk p)++fT S caps)[0+j]?=_;have hj:j<xs.length:=by
    by_cases hj:j<xs.length
    ·exact hj
    ·rw[List.getElem?_eq_none (by left)]at hy;cases hy
   rw[hN,Nat.zero_add,List.getElem?_append_left (by simpa using hj),List.getElem?_map,hy];rfl)
  obtain⟨h1,h2,h3⟩:=this;refine⟨_,AK OZ h1 h2 h3,λF' R' v d σ' lP Q ρb ρ1 Si rp ho e hq=>?_⟩;cases d<;>try (simp[cv]at e;done)
  rename_i ds;simp only[cv]at e;split at e
  ·cases e
  ·cases rp with
   | @tup _ a ys _ hp rs =>
    rw[List.length_map]at e;have e':gR (List.range' 0 xs.length) ds ρb=ok ρ1:=by rw[<- List.range_eq_range'];exact e
    refine⟨a,ys,rfl,hp,?_,mW (X:=dZ X (bX (.Tuple (xs.map λx=>Expr.Name x.1 x.2) kk p)++fT S caps) sc cl C s₂ H2 fp) σ' n (by left) rs Si e' rfl (λ_ _=>rfl) hq⟩;rw[rs.length];have:∀(is:aO) (ds:ab) (ρ ρ':a_),gR is ds ρ=ok ρ'->ds.length=is.length:=by
     intro is;induction is with
     |nil=>intro ds ρ ρ' e;cases ds with|nil=>rfl|cons _ _=>cases e
     |cons i is ih=>intro ds ρ ρ' e;cases ds with
      |nil=>cases e
      |cons d ds =>
       change (if _ then _ else _)=_ at e;split at e
       ·simp[ih ds _ _ e]
       ·cases e
    rw[this _ _ _ _ e',List.length_range']
theorem Tc:∀f:Fl,cB (aW f)=false:=by intro f;cases f<;>rfl
mutual
theorem EG:∀d:D,aR cB (aT aW d)=false
 |.cj=>by simp[aT,aR]
 |.bl _=>by simp[aT,aR]
 |.int _=>by simp[aT,aR]
 |.tup ds=>by simp[aT,aR,ff ds]
 |.lst f ds=>by simp[aT,aR,ff ds,Tc]
 |.bU f ks vs=>by simp[aT,aR,ff vs,Tc]
 |.dC f ks vs=>by simp[aT,aR,ff vs,Tc]
theorem ff:∀ds:ab,aP cB (aB aW ds)=false
 |[]=>by simp[aB,aP]
 |d::ds=>by simp[aB,aP,EG d,ff ds]
end
theorem xl{h:Heap}{a:Addr}{o:HO}(x:lq P w H h)(hn:H a=none)(new:cy P w (upd H a o) h a o):lq P w (upd H a o) h:=λb u e=>by
 by_cases hb:b=a
 ·subst hb;rw[aS]at e;cases e;exact new
 ·rw[aX hb]at e;exact(x b u e).jZ (λc v _ q=>q) (λc q=>by rw[aX (ck q hn)];exact q) λc xs q=>by rw[aX (ck q hn)];exact q
structure CAt(X X':Cx)(F' R':ai)(n:Nat)(base:a_)(σ0:St)(fp:aN)(tn:Nat->Heap->Prop)(H2:Hp)(D:Addr)(items:List DI.D)(bind:DI.D->O a_)(test:a_->O Bool)(el:a_->O DI.D)(all:List DI.D)(m:Nat)(s':Shared):Prop where
 ex:∃(i:Nat) (vs:ae) (aI:ak) (nn:Nat) (σ':St) (H':Hp) (dn rest:List DI.D),m=items.length - i/\i<=items.length/\Inv X' [(D,eH aI nn)] σ' H' s'/\tn i s'.heap/\(∀b∈fp,H' b=none)/\Vals vs aI/\aJ H2 H' /\
  SI X' F' R' (λ_=>none) base σ' H'/\cg X.K (gP X' F') R' (λ_=>none) [] H2 H' vs dn/\gU bind test el (items.drop i)=ok rest/\dn++rest=all
end
theorem cg.go(h:cg K G R τ fv H H1 vs ds)(e:aJ H1 H2):cg K G R τ fv H H2 vs ds :=
 let ⟨τt,h1,h2⟩:=h;⟨τt,h1,h2.imp (λ_ _ h=>aU.same e h) λ_ _ _ _ h=>nd.same e h⟩
theorem m6:∀{ds:ab} {d:D},aP cB ds=false->d∈ds->aR cB d=false
 |[],_,_,h=>nomatch h
 |e::ds,d,h,hm=>by
  rw[aP,Bool.or_eq_false_iff]at h;rcases List.mem_cons.mp hm with rfl|z
  ·exact h.1
  ·exact m6 h.2 z
theorem yp{d:D}(h:i_ d=ok items):∀d∈items,aR cB d=false:=by
 unfold i_ at h;split at h
 ·cases h;exact λd hd=>m6 (ff _) hd
 ·cases h
theorem vm{ik:IK}{xs:ab}(h:df Φ ik xs=ok items):∀d∈items,aR cB d=false:=by
 cases ik with
 |b9 p=>obtain⟨d,_,h⟩:=aG h;exact yp h
 |kZ =>
  cases xs with
  |nil=>cases h
  |cons x t=>cases x<;>first | (cases h;done) | (cases t with
   |cons _ _=>cases h
   |nil =>
    obtain⟨_,h⟩:=oj h;subst h;intro d hd;obtain⟨k,_,rfl⟩:=List.mem_map.mp hd;rfl)
 |seq =>
  cases xs with
  |nil=>cases h
  |cons x t=>cases x<;>first | (cases h;done) | (cases t with
   |cons _ _=>cases h
   |nil=>cases h;exact λd hd=>m6 (ff _) hd)
theorem vo{n:Nat}{i:Nat}{d:D}(h:(bF n caps ρ)[i]?=some (some d)):n<=i:=by
 unfold bF at h;by_cases hn:i<n
 ·rw[List.getElem?_append_left (by simpa using hn),List.getElem?_replicate,if_pos hn]at h;cases h
 ·left
variable {c' elt:CE}{bK cs es:aF}
section
variable {X:Cx}{S:Sx}{k:Nat}{F:ai}{Φ:aY}
theorem Bp{n:Nat}{t:Tg}{sc:Scope}{cl:List (Str×Addr)}(L:Lk X S k Φ)(co:jO S n t caps target sc):
  Lk (dZ X (bX target++fT S caps) sc cl C s₂ H2 fp) (S.inner target caps sc) k Φ:=by
 refine⟨?_,rfl,co.nd,L.calm,L.room,L.bl,λf x h=>⟨(L.fn f x h).ex⟩,L.cs,L.pr⟩;show relabel sc X.env=sP sc S.sc;rw[<- L.sc];rfl
theorem ue(L:Lk X S k Φ){n:Nat}{t:Tg}{ik:IK}{ifs:av}{sc:Scope}(co:jO S n t caps target sc)(yN:pk iter=true)
    (hE:∀(X':Cx) (F':ai),Lk X' (S.inner target caps sc) k Φ->PE X' jc (tD X' F' Φ elt))
    (hC:(bK=[]/\ifs=[])\/∃c e,bK=[c]/\ifs=[e]/\∀(X':Cx) (F':ai),Lk X' (S.inner target caps sc) k Φ->PT X' e (gy X' F' Φ c))
    (hI:∀(pins:aj) (s:Shared) (σ:St) (H:Hp) (R:ai) (τ:Addr->Option bj) (ρ:a_) (xs items:ab),Inv X pins σ H s->SI X F R τ ρ σ H->cu Φ es ρ=ok xs->df Φ ik xs=ok items->∀Rr:It->Hp->Prop,
      (∀J H2,aJ H H2->Yl X.K J (kU X F τ (caps++cW es) H2) H2 items->Rr J H2)->wpAny (model X.prog X.w) X.A (eval iter X.env) (λv s1=>wpAny (model X.prog X.w) X.A (pyIter v) (zF X pins σ target Rr) X.xe s1) X.xe s)
    {use:Option (Value->Sem Unit)} {Post:aw} {pins:aj} {s:Shared} {d:D} {Vg:Pos} (I:Inv X pins σ H s) (Si:SI X F R τ ρ σ H) (ev:bw Φ (.comp n t caps ik es bK elt) ρ=ok d)
    (OF:∀(acc C:Addr) (H1:Hp) (s1:Shared) (m:aZ),s1.heap.Ns C m->(C≠X.env.locals/\X.s₀.heap.objs.size<=C/\(∀x c,X.env.cells.lookup x=some c->c≠C)/\(∀p∈X.pn++pins,p.1≠C)/\H1 C=none)->(∀h',Heap.SameBut C s1.heap h'->Inv X pins σ H1 { s1 with heap:=h' })->aJ H H1 ->
      bQ X.K (gP X F) R τ (g9 (.comp n t caps ik es bK elt)) H H1 (.ref acc) d->compPost (model X.prog X.w) X.A X.xe use Post (.ref acc) C (.ok .next) s1) :
    wpAny (model X.prog X.w) X.A (comprehension (.ListComp jc [⟨target,iter,ifs,0⟩] sc pos) sc X.env Vg (newList []) false (eval iter X.env) use) Post X.xe s:=by
  obtain⟨xs,cK,ev⟩:=aG ev;obtain⟨items,vF,ev⟩:=aG ev;obtain⟨ds,K7,ev⟩:=aG ev;simp only[G8]at ev;obtain⟨nE,rfl⟩:=ev;have OL:=vm vF;obtain⟨cl,OY,l3,vv⟩:=vL (env:=X.env) (sc:=sc) (λx hx=>I.ok.has x (by
    show X.env.scope.names.lookup x=some .cell\/X.env.scope.names.lookup x=some .free;rw[L.sc];exact co.free x hx))
  have nC:∀x,foldedSetIterable iter X.env x=pure x:=by intro x;cases iter<;>first|rfl | (cases yN;done)
  refine wpAny_comprehension_free (use:=use) rfl nC OY co.kind co.loc (aaF (hI pins s σ H R τ ρ xs items I Si cK vF (λJ H2=>aJ H H2/\Yl X.K J (kU X F τ (caps++cW es) H2) H2 items) (λJ H2 e y=>⟨e,y⟩)) (λxv s₁ h₁=>aaF h₁ (λTN s₂ h₂=>?_) λ_ _ e=>e) λ_ _ e=>e);obtain⟨it,fp,tn,J,H2,rfl,I2,T,DS,f2,e2,yl⟩:=h₂;have uq:=Si.go e2;have J8:∀b∈fp,b<s₂.heap.objs.size:=λb hb=>let ⟨o,ho,_⟩:=T.obj 0 _ DS b hb;aak ho;refine aa4 (wpAny_newFunctionEnv co.A9 (by intro y hy;simp at hy) (λh₁ qE nB=>?_) co.kind);dsimp only at qE nB ⊢;generalize UY:s₂.heap.push { cls:=.type "list",dict:=none,data:=.seq ([]:ak).toArray }=G2 at qE nB ⊢;have Xb:G2.objs.size=s₂.heap.objs.size+1:=by rw[<- UY,Heap.size_push]
  have Q9:s₂.heap.objs.size≠s₂.heap.objs.size+1:=aas (aa0 _);rw[Xb]at qE nB;have old:∀b o,s₂.heap.get? b=some o->h₁.get? b=some o:=λb o e=>nB.extBut b o (aas (aaQ (aak e))) (aaj _ (UY▸aaj _ e));have fw:h₁.get? s₂.heap.objs.size=some (eH [] 0):=nB.extBut _ _ Q9 (aaj _ (UY▸aat _ rfl))
  let X':=dZ X (bX target++fT S caps) sc cl (s₂.heap.objs.size+1) s₂ H2 fp
  let F':=jl (gP X F) τ (caps++cW es)
  let R':=kU X F τ (caps++cW es) H2
  have L':Lk X' (S.inner target caps sc) k Φ:=Bp L co;have I4:=λtk=>BC (h₁:=h₁) (tk:=tk) L co I2 l3 vv f2 J8 (by simpa using qE) old fw;have S4:SI X' F' R' (λ_=>none) (bF n caps ρ) (oB n caps σ) H2:=Am (t:=t) uq (λi hi=>by simp[hi]);obtain⟨g,hg,BR⟩:=HV (X:=X) (S:=S) (cl:=cl) (fp:=fp) (s₂:=s₂) (H2:=H2) (C:=s₂.heap.objs.size+1) L.calm co;have UZ:s₂.heap.objs.size∉X'.fs:=λz=>by
    rcases List.mem_cons.mp (I2.kR _ z)with w|w
    · exact absurd w (aaz I2.lt)
    · exact I2.Jp (aam _) w
  have Ka:∀x c,cl.lookup x=some c->c≠s₂.heap.objs.size:=λx c e=>by
    obtain⟨v,q⟩:=I2.cell x c (l3 x c e);exact aas q.lt
  have Fp:∀b∈fp,b≠X'.env.locals/\b∉X'.fs/\(b∈X'.ex\/X'.s₀.heap.objs.size<=b)/\(∀x c,X'.env.cells.lookup x=some c->c≠b):=λb hb =>
    ⟨aas (aaQ (J8 b hb)),λz=>by
      rcases List.mem_cons.mp (I2.kR b z)with w|w
      · exact(f2 b hb).2.1 w
      · exact(f2 b hb).2.2.1 w,.inl hb,λx c e=>(f2 b hb).2.2.2.2.1 x c (l3 x c e)⟩
  have OS:∀b∈fp,b≠s₂.heap.objs.size:=λb hb=>aas (J8 b hb);have fin:∀(vs:ae) (aI:ak) (nn:Nat) (σ':St) (H':Hp) (s1:Shared),Inv X' [(s₂.heap.objs.size,eH aI nn)] σ' H' s1->Vals vs aI->aJ H2 H'->cg X.K (gP X' F') R' (λ_=>none) [] H2 H' vs ds ->
      compPost (model X.prog X.w) X.A X.xe use Post (.ref s₂.heap.objs.size) (s₂.heap.objs.size+1) (.ok .next) s1:=by
    intro vs aI nn σ' H' s1 I1 rv sm D_;obtain⟨m,hn,_⟩:=I1.loc;obtain⟨pD,nD,_,_,_⟩:=I1.pin (s₂.heap.objs.size,eH aI nn) (aau _ aai);have bs:=I1.base;have G3:∀b o,s₂.heap.get? b=some o->b≠s₂.heap.objs.size+1:=λb o e=>aas (aaQ (aak e));have YG:∀b o,s₂.heap.get? b=some o->b≠s₂.heap.objs.size:=λb o e=>aas (aak e);have RN:∀b u,H' b=some u->upd H' s₂.heap.objs.size (.lst vs) b=some u:=λb u e=>by rw[aX (ck e nD)];exact e
    have hlen:vs.length<=sizeLine:=by
      obtain⟨_,_,rr⟩:=D_;have hz:sizeLine=16777216:=aa2;have hc:cL=1000000:=rfl;rw[rr.length];left
    have IX:∀h',Heap.SameBut (s₂.heap.objs.size+1) s1.heap h'->Inv X pins σ (upd H' s₂.heap.objs.size (.lst vs)) { s1 with heap:=h' }:=λh' BI=>by
      have un:Un (zD X.stack) fp H2 (upd H' s₂.heap.objs.size (.lst vs)) s₂.heap h' :=
        ⟨λb o e n hb hx=>BI.extBut b o (G3 b o e) (bs.keep b o e n hb hx),
         λb o e n hb hx=>let ⟨sl,q⟩:=bs.slot b o e n hb hx;⟨sl,BI.extBut b _ (G3 b o e) q⟩,
         λb o e n hx=>by rw[aX (YG b o e)];exact bs.free b o e n hx,
         λb o e hx=>let ⟨o',q⟩:=bs.there b o e hx;⟨o',BI.extBut b _ (G3 b o e) q⟩,
         λb xs e=>RN b _ (bs.p7 b xs e),λb o u e=>RN b _ (bs.oM b o u e),λb ps e=>let ⟨more,q⟩:=bs.p9 b ps e;⟨more,RN b _ q⟩⟩
      have Ut:lq X.prog X.w H' h':=λa o e=>(I1.cM a o e).jZ (λb u hb q=>BI.extBut b u (by
        rintro rfl;have hf:H' (s₂.heap.objs.size+1)=none:=I1.free;rcases hb with z|z
        · rw[<- z,hf]at e;cases e
        · rw[hf]at z;cases z) q) (λ_ q=>q) λ_ _ q=>q
      have Us:lq X.prog X.w (upd H' s₂.heap.objs.size (.lst vs)) h':=xl Ut nD ⟨hlen,aI,nn,rv,BI.extBut _ _ Q9 pD⟩;exact I2.P8 (ch:=fp) I1.os un Us I1.bare λb hb=>⟨(f2 b hb).2.2.2.1,(f2 b hb).2.1,(f2 b hb).2.2.2.2.1,(f2 b hb).2.2.2.2.2⟩
    have eS:aJ H' (upd H' s₂.heap.objs.size (.lst vs)):=aJ.upd nD;obtain⟨τt,fr,rs⟩:=D_;have Ts:s₂.heap.objs.size+1≠s₂.heap.objs.size:=Nat.succ_ne_self _;refine OF s₂.heap.objs.size (s₂.heap.objs.size+1) _ s1 m hn ⟨aaz (aaQ I2.lt),acj I2.sz,λx c e=>?_,λp hp=>?_,?_⟩ IX ((e2.trans sm).trans eS) ⟨λq=>if q=s₂.heap.objs.size then some []else τt q,λq z hz=>?_,.lst ⟨aS,by simp⟩ (aA.map (q:=[]) (q':=[]) (λ_ _ h=>aU.same eS h) (λc p ys f h=>?_) rs [] rfl)⟩
    · obtain⟨v,z⟩:=I2.cell x c e
      exact aas (aaQ z.lt)
    · exact aas (aaQ (aak (I2.pin p hp).1))
    · rw[aX Ts];exact I1.free
    · by_cases rO:q=s₂.heap.objs.size
      · rw[rO];exact e2.free (sm.free nD)
      · simp only[rO,if_false]at hz;exact e2.free (fr q z hz)
    · have h':=nd.same eS h
      have VM:∀p,gP X' F' p->jl (gP X F) τ (caps++cW es) p:=λp hp=>hp.elim id λz=>⟨.inr (uq.same.free z),λc i e=>absurd z (uq.th p _ e)⟩
      cases f with
      |ow =>
        have rO:p≠s₂.heap.objs.size:=by
          intro z;subst z;exact h.1.ne nD
        refine⟨h'.1,?_⟩;show(if p=s₂.heap.objs.size then some []else τt p)=_;rw[if_neg rO];exact h'.2
      |fz=>exact⟨h'.1,h'.2.2⟩
      |al=>exact⟨h'.1,VM p h'.2.1⟩
      |sc=>exact h'
  have X7:∀(P:aj) (ρ1:a_) (b:Bool) (σ2:St) (H5:Hp) (s6:Shared),gT Φ bK ρ1=ok b->Inv X' P σ2 H5 s6->SI X' F' R' (λ_=>none) ρ1 σ2 H5 ->
      wpAny (model X.prog X.w) X.A (forIn ifs true λc r=>if r=true then do let ok <- isTrue c X'.env (eval c X'.env);pure (ForInStep.yield ok)else pure (ForInStep.yield r)) (λTi s7=>Ti=b/\∃H7,Inv X' P σ2 H7 s7/\aJ H5 H7) (λ_ _=>False) s6:=by
    intro P ρ1 b σ2 H5 s6 eb I6 S6;rcases hC with ⟨rfl,rfl⟩|⟨c,e,rfl,rfl,hPT⟩
    · rw[gT]at eb;cases eb
      exact wpAny_tests_nil ⟨rfl,H5,I6,aJ.refl _⟩
    · rw[gT]at eb
      obtain⟨b',Vr,eb⟩:=aG eb;have hb:b'=b:=by
        cases b' with
        |true=>rw[if_pos rfl,gT]at eb;cases eb;rfl
        |false=>rw[if_neg (by simp)]at eb;cases eb;rfl
      subst hb;refine wpAny_tests_one (aaF (hPT X' F' L' P s6 σ2 H5 (λXE H7=>XE=b'/\aJ H5 H7) I6 ⟨R',_,ρ1,b',S6,Vr,λH7 e7=>⟨rfl,e7⟩⟩) (λXE s7 ⟨H7,I7,hb,e7⟩=>⟨hb,H7,I7,e7⟩) λ_ _ e=>e)
  have loop:∀tk,codeAny (model X.prog X.w) X.A (.compLoop (.ListComp jc [⟨target,iter,ifs,0⟩] sc pos) 0 (.ref it) (.ref s₂.heap.objs.size) X'.env)
      (compPost (model X.prog X.w) X.A X.xe use Post (.ref s₂.heap.objs.size) (s₂.heap.objs.size+1)) { s₂ with heap:=h₁,toks:=tk }:=by
    intro tk;refine qT (CAt X X' F' R' n (bF n caps ρ) (oB n caps σ) fp tn H2 s₂.heap.objs.size items (λd=>cv t d (bF n caps ρ)) (λρ'=>gT Φ bK ρ') (λρ'=>bw Φ elt ρ') ds) ?_ items.length
      ⟨0,[],[],0,oB n caps σ,H2,[],ds,rfl,aaP _,I4 tk,T.keep _ _ _ DS (λb _ o e=>old b o e),λb hb=>(f2 b hb).1,.nil,aJ.refl _,S4,.nil,by rw[List.drop_zero];exact K7,rfl⟩
    rintro m s' ⟨i,vs,aI,nn,σ',H',dn,rest,hm,hi,I',lS,fr',rv,sm,fL,D_,fj,eall⟩;have Kw:∀b∈fp,og X' [(s₂.heap.objs.size,eH aI nn)] H' b:=λb hb=>⟨fr' b hb,(Fp b hb).1,(Fp b hb).2.1,(Fp b hb).2.2.1,(Fp b hb).2.2.2,λp hp=>by
      have tM:p=(s₂.heap.objs.size,eH aI nn):=by simpa [X',dZ]using hp
      rw[tM];exact(OS b hb).symm⟩
    by_cases fR:i<items.length
    · refine aaF (T.item X' rfl rfl rfl L.calm i _ s' σ' H' (λ_ _=>False) I' Kw lS (yl.go i H' sm fR)) (λr s1 h4=>?_) λ_ _ e=>e
      obtain⟨u,hr,h4⟩:=h4;subst hr;refine aaF h4 (λ_ s5 h5=>?_) λ_ _ e=>e;obtain⟨x,H5,I5,r5,y5,Ic,Vf⟩:=h5;obtain⟨e5,dd,hd,rd⟩:=yl.uv i H' x H5 sm fR y5;have VW:=I5.pinned (fp:=fp) (λb hb=>⟨Vf b hb,(Kw b hb).2⟩) (T.obj _ _ Ic);have tP:items.drop i=dd::items.drop (i+1):=by
        rw[List.drop_eq_getElem_cons fR];rw[List.getElem?_eq_getElem fR]at hd;cases hd;rfl
      rw[tP,gU]at fj;obtain⟨ρ1,eb,fj⟩:=aG fj;obtain⟨bb,et,fj⟩:=aG fj;refine aaF (hg _ s5 σ' H5 x u (λσ2 H6=>H6=H5/\σ2.length=σ'.length/\(∀j,n<=j->σ2[j]?=σ'[j]?)/\SI X' F' R' (λ_=>none) ρ1 σ2 H5) VW r5
        (BR F' R' x dd σ' H5 _ (bF n caps ρ) ρ1 (fL.go e5) rd (OL dd (aaD hd)) eb λσ2 g1 g2 g3=>⟨rfl,g1,g2,g3⟩)) (λ_ s6 h6=>?_) λ_ _ e=>e
      obtain⟨σ2,H6,I6,rfl,g1,g2,S6⟩:=h6;refine aaF (X7 _ ρ1 bb σ2 H6 s6 et I6 S6) (λTi s7 h7=>?_) λ_ _ e=>e;obtain⟨rfl,H7,I7,e7⟩:=h7;have RR:∀{P:aj} {σ3:St} {H8:Hp} {s8:Shared},Inv X' (P++ic fp s5.heap) σ3 H8 s8->tn (i+1) s8.heap/\∀b∈fp,H8 b=none:=λ{P σ3 H8 s8} I8 =>
        ⟨T.keep _ _ _ Ic λb hb o e=>(I8.pin (b,o) (aau _ (aau _ (gD hb e)))).1,λb hb=>by
          obtain⟨o,e,_⟩:=T.obj _ _ Ic b hb;exact(I8.pin (b,o) (aau _ (aau _ (gD hb e)))).2.1⟩
      have Hu:∀{H8:Hp},aJ H7 H8->SI X' F' R' (λ_=>none) (bF n caps ρ) σ2 H8:=λ{H8} e8=>(fL.go ((e5.trans e7).trans e8)).sig g1 λj d hj=>g2 j (vo hj);cases Ti with
      |false =>
        rw[if_neg (by simp)]at fj ⊢;exact⟨items.length - (i+1),by left,i+1,vs,aI,nn,σ2,H7,dn,rest,rfl,fR,I7.jW,(RR I7).1,(RR I7).2,rv,(sm.trans e5).trans e7,Hu (aJ.refl _),D_.go (e5.trans e7),fj,eall⟩
      |true =>
        rw[if_pos rfl]at fj ⊢;obtain⟨y,ey,fj⟩:=aG fj;obtain⟨ys,tX,fj⟩:=aG fj;cases fj;refine aaF (hE X' F' L' _ s7 σ2 H7 (λv H8=>aJ H7 H8/\bQ X.K (gP X' F') R' (λ_=>none) [] H7 H8 v y) I7 ⟨R',_,ρ1,y,S6.go e7,ey,λv H8 e8 r8=>⟨e8,?_⟩⟩) (λu8 s8 h8=>?_) λ_ _ e=>e
        · obtain⟨τt,fr,rr⟩:=r8
          exact⟨τt,fr,rr.imp (q:=[]) (q':=[]) (λ_ _ h=>h) λc p ys f h=>h.mono id (λh=>⟨h.1,λ_ _ e=>by cases e⟩) id⟩
        · obtain⟨v8,H8,I8,Ys,e8,r8⟩:=h8
          obtain⟨pD,nD,_,_,_⟩:=I8.pin (s₂.heap.objs.size,eH aI nn) (aau _ (aaI _ aai));have hlen:aI.length<=1000000:=by
            obtain⟨_,_,rr⟩:=D_;have h1:dn.length<=ds.length:=by rw[<- eall,List.length_append];left
            have hc:cL=1000000:=rfl;rw[<- rv.length,rr.length];left
          have hz:sizeLine=16777216:=aa2;refine abC abA ⟨_,pD,rfl⟩ PySem.F.entry_list_append (PySem.F.args_list_append_2 _ _) (PySem.list_append s₂.heap.objs.size aI.toArray nn u8 (by rw[List.size_toArray];left)) ⟨pD,?_⟩;have q:=PySem.IsL.update pD (λx=>x.push u8);have OD:aI.toArray.push u8=(aI++[u8]).toArray:=by simp
          rw[OD]at q;obtain⟨QT,q'⟩:∃QT,(s8.heap.update s₂.heap.objs.size (Obj.mapSeq λx=>x.push u8)).get? s₂.heap.objs.size=some (eH (aI++[u8]) QT):=⟨_,q⟩
          have I8d:Inv X' (ic fp s5.heap) σ2 H8 s8:=I8.iT λp hp=>I8.pin p (aau _ (aau _ hp));have XI:Inv X' (ic fp s5.heap) σ2 H8 { s8 with heap:=s8.heap.update s₂.heap.objs.size (Obj.mapSeq λx=>x.push u8),toks:=s8.toks } :=
            I8d.turned (it:=s₂.heap.objs.size) (λb o hb e=>(aaT s8.heap (Obj.mapSeq λx=>x.push u8) (aaK hb)).trans e) nD Q9 (.inr (aam _)) Ka λp hp=>by
              have tM:p∈ic fp s5.heap:=by simpa [X',dZ]using hp
              exact OS p.1 (pj tM).1
          have kp:=RR (P:=[]) (by rw[List.nil_append];exact XI);refine⟨items.length - (i+1),by left,i+1,vs++[v8],aI++[u8],QT,σ2,H8,dn++[y],ys,rfl,fR,XI.iT (λp hp=>?_),kp.1,kp.2,rv.append (.cons Ys .nil),((sm.trans e5).trans e7).trans e8,Hu e8,cg.snoc ((sm.trans e5).trans e7) e8 (D_.go (e5.trans e7)) r8,tX,by rw[List.append_assoc];exact eall⟩;have tM:p=(s₂.heap.objs.size,eH (aI++[u8]) QT):=by simpa using hp
          rw[tM];exact⟨q',nD,Q9,UZ,λv z=>by cases z⟩
    · refine aaF (T.done X' rfl rfl rfl L.calm i _ s' σ' H' (λ_ _=>False) I' Kw lS (yl.stop i H' sm (by left))) (λr s1 h1=>?_) λ_ _ e=>e
      obtain⟨hr,I1⟩:=h1;subst hr;have Uy:items.drop i=[]:=List.drop_eq_nil_of_le (by left);rw[Uy,gU]at fj;cases fj;rw[List.append_nil]at eall;subst eall;exact fin vs aI nn σ' H' s1 I1 rv sm D_
  have key:=λtk=>codeAny_compStart_list (loop tk) (T.self X.A 0 _ _ _ (T.keep _ _ _ DS λb _ o e=>old b o e) (loop tk));rw[Xb];exact key _
theorem D0(L:Lk X S k Φ){n:Nat}{t:Tg}{ik:IK}{ifs:av}{sc:Scope}(co:jO S n t caps target sc)(yN:pk iter=true)
  (hE:∀(X':Cx) (F':ai),Lk X' (S.inner target caps sc) k Φ->PE X' jc (tD X' F' Φ elt))
  (hC:(bK=[]/\ifs=[])\/∃c e,bK=[c]/\ifs=[e]/\∀(X':Cx) (F':ai),Lk X' (S.inner target caps sc) k Φ->PT X' e (gy X' F' Φ c))
  (hI:∀(pins:aj) (s:Shared) (σ:St) (H:Hp) (R:ai) (τ:Addr->Option bj) (ρ:a_) (xs items:ab),Inv X pins σ H s->SI X F R τ ρ σ H->cu Φ es ρ=ok xs->df Φ ik xs=ok items->∀Rr:It->Hp->Prop,
   (∀J H2,aJ H H2->Yl X.K J (kU X F τ (caps++cW es) H2) H2 items->Rr J H2)->wpAny (model X.prog X.w) X.A (eval iter X.env) (λv s1=>wpAny (model X.prog X.w) X.A (pyIter v) (zF X pins σ target Rr) X.xe s1) X.xe s) :
  PE X (.ListComp jc [⟨target,iter,ifs,0⟩] sc pos) (tD X F Φ (.comp n t caps ik es bK elt)):=by
 intro pins s σ H Q I hq;obtain⟨R,τ,ρ,d,Si,ev,hq⟩:=hq;rw[eval_ListComp];refine ue L co yN hE hC hI (use:=none) (Post:=EP X pins σ Q) I Si ev λacc C H1 s1 m hn _ IX sm rt=>?_;exact⟨m,hn,λh' BI=>⟨.ref acc,H1,IX h' BI,rfl,hq _ _ sm rt⟩⟩
end
section
variable {X:Cx}{pins:aj}{s:Shared}{σ:L2.St}{H:Hp}
theorem tG{A:aD}{E:aw}{l:Addr}{items:aM}{Q:aw}{s:Shared}(hl:s.heap.IsList l items)
  (h:∀s₂:Shared,s₂={ s with heap:=s.heap.push { cls:=.type "list_iterator",data:=.fields #[.ref l,.int 0 0] } }->s₂.heap.IsListIter s.heap.objs.size l 0/\s₂.heap.IsList l items->(∀b∈[s.heap.objs.size,l],b<s₂.heap.objs.size)->l≠s.heap.objs.size->Q (.ref s.heap.objs.size) s₂) :
  wpAny (model prog w) A (pyIter (.ref l)) Q E s:=by
 have fR:l<s.heap.objs.size:=by obtain⟨_,e,_⟩:=hl;exact aak e
 refine wpAny_pyIter_list hl (h _ rfl ⟨⟨_,aat _ rfl,rfl,rfl⟩,hl.push _⟩ (λb hb=>?_) (aas fR));have hz:(s.heap.push { cls:=.type "list_iterator",data:=.fields #[.ref l,.int 0 0] }).objs.size=s.heap.objs.size+1:=Heap.size_push ..;have oI:b=s.heap.objs.size\/b=l:=by simpa using hb
 show b<_;rw[hz];rcases oI with e|e
 ·rw[e];exact aa0 _
 ·rw[e];exact aaQ fR
theorem tE{o₀:Obj}{s:Shared}(hk:∀b o,b∉[s.heap.objs.size]->(s.heap.push o₀).get? b=some o->h'.get? b=some o):∀b o,s.heap.get? b=some o->h'.get? b=some o:=λb o e =>
 hk b o (λhm=>absurd ((by simpa using hm:b=s.heap.objs.size)▸aak e) (aaA _)) (aaj _ e)
theorem eB{h:Heap}{a:Addr}{aI:aM}(p:PlainL h a aI):h.IsList a aI:=let ⟨o,n,h1,h2,_,h4⟩:=p;⟨o,h1,h2,n,h4⟩
theorem lD(val:Nat->Int)(ns:aa)(hv:∀i,val i=ns.getD i 0):∀k,k<=ns.length->preSum val k=(ns.take k).sum
 |0,_=>by simp[preSum]
 |k+1,h=>by
  have hk:k<ns.length:=by left
  rw[preSum,lD val ns hv k (by left),hv k,List.take_add_one,List.sum_append];simp[List.getD,hk]
theorem zk(hc:X.calm=true):fM X (.builtin "sum") (λxs H Q=>∃(p:Addr) (ns:aa),xs=[.ref p]/\dh X.K H p (ns.map V.int)/\Q (.int ns.sum) H):=by
 intro pins s σ H xs us Q I r h;obtain⟨p,ns,rfl,hq,q⟩:=h;obtain⟨u,rfl,ru⟩:=r.one;cases ru;obtain⟨aI,rv,pl,hz⟩:=I.list hq;have hlen:aI.length=ns.length:=by have:=rv.length;simpa using this.symm
 refine call_sum_walkG (tG (eB pl) λs₂ e st Fq UD=>?_);subst e;refine⟨_,_,_,_,_,_,λi=>ns.getD i 0,rfl,Walks.list (A:=X.A.in1) (I.ok.hd hc) _ p UD aI.toArray,st,Fq,λi v hP=>?_,λh' tk t' hk=>?_⟩
 ·have hv:aI[i]?=some v:=by simpa using hP
  have hi:i<aI.length:=by
   by_cases z:i<aI.length
   ·exact z
   ·rw[List.getElem?_eq_none (by left)]at hv;cases hv
  have hn:(ns.map V.int)[i]?=some (.int (ns.getD i 0)):=by
   rw[List.getElem?_map,List.getElem?_eq_getElem (by left)];simp[List.getD,show i<ns.length by left]
  obtain⟨u,hu,ru⟩:=rv.get hn;rw[hv]at hu;cases hu;exact ru
 ·refine⟨.int ns.sum,H,I.kept (t':=tk) (tE hk),⟨t',?_⟩,q⟩;have hz:preSum (λi=>ns.getD i 0) aI.toArray.size=ns.sum:=by
   rw[List.size_toArray,hlen,lD _ ns (λ_=>rfl) _ (Nat.le_refl _),List.take_length]
  rw[hz]
theorem range_all{α:Type}(l:List α)(f:α->Bool)(tr:Nat->Bool)(h:∀i a,l[i]?=some a->tr i=f a):(List.range l.length).all tr=l.all f:=by
 rw[Bool.eq_iff_iff,List.all_eq_true,List.all_eq_true];constructor
 ·intro z a ha;obtain⟨i,hi,e⟩:=List.mem_iff_getElem.mp ha;have:=z i (List.mem_range.mpr hi);rw[h i a (by rw[List.getElem?_eq_getElem hi,e])]at this;exact this
 ·intro z i hi;have hi:=List.mem_range.mp hi;rw[h i l[i] (List.getElem?_eq_getElem hi)];exact z _ (abM hi)
theorem zo(hc:X.calm=true):fM X (.builtin "all") (λxs H Q=>∃(p:Addr) (bs:List Bool),xs=[.ref p]/\dh X.K H p (bs.map V.bl)/\Q (.bl (bs.all id)) H):=by
 intro pins s σ H xs us Q I r h;obtain⟨p,bs,rfl,hq,q⟩:=h;obtain⟨u,rfl,ru⟩:=r.one;cases ru;obtain⟨aI,rv,pl,hz⟩:=I.list hq;have hlen:aI.length=bs.length:=by have:=rv.length;simpa using this.symm
 refine call_all_walk (tG (eB pl) λs₂ e st Fq UD=>?_);subst e;refine⟨_,_,_,_,_,_,λi=>bs.getD i false,rfl,Walks.list (A:=X.A.in1) (I.ok.hd hc) _ p UD aI.toArray,st,λi v s' Q' E' hP hQ=>?_,λh' tk hk=>?_⟩
 ·have hv:aI[i]?=some v:=by simpa using hP
  have hi:i<aI.length:=by
   by_cases z:i<aI.length
   ·exact z
   ·rw[List.getElem?_eq_none (by left)]at hv;cases hv
  have hn:(bs.map V.bl)[i]?=some (.bl (bs.getD i false)):=by
   rw[List.getElem?_map,List.getElem?_eq_getElem (by left)];simp[List.getD,show i<bs.length by left]
  obtain⟨u,hu,ru⟩:=rv.get hn;rw[hv]at hu;cases hu;cases ru;exact aaX hQ
 ·refine⟨.bl (bs.all id),H,I.kept (t':=tk) (tE hk),?_,q⟩;show Value.bool _=Value.bool _;rw[List.size_toArray,hlen,range_all bs id _ λi a e=>by simp[List.getD,e]]
end
variable {ns:aa}{o oa:Obj}
section
variable {prog:aE}{w:World}{A:aD}{E:aw}{s:Shared}
theorem nY{l:Addr}{vs:ak}{Q:ak->Shared->Prop}{n:Nat}(ho:s.heap.get? l=some o)(hc:o.cls=.type "tuple")(hd:o.data=.seq vs.toArray n)
  (h:Q vs { s with heap:=(s.heap.push (seqObj "list" #[] 0)).update s.heap.objs.size (Obj.mapSeq (· ++ vs.toArray)) }) (hsz:vs.length<=sizeLine):wpAny (model prog w) A (collect (.ref l)) Q E s:=by
 unfold collect;refine aaa (wpAny_runValue (abu entry_proto_collect' ?_));show wpAny _ _ (newList [] >>= λz=>again (.builtin "list.__iadd__" ⟨[z,.ref l],[]⟩)) _ _ s;refine aaa (ach (aab ⟨Code.quiet_builtin _ (by decide +kernel),abu entry_list_iadd' ?_⟩));have z1:(s.heap.push (seqObj "list" #[] 0)).get? l=some o:=aaj _ ho;have z2:(s.heap.push (seqObj "list" #[] 0)).get? s.heap.objs.size=some (seqObj "list" #[] 0):=aat _ rfl;show wpAny _ _ (Builtin.List.listExtendWith (.ref s.heap.objs.size) (.ref l) (.ref s.heap.objs.size)) _ _ ({ s with heap:=s.heap.push (seqObj "list" #[] 0) }:Shared);unfold Builtin.List.listExtendWith;refine aaa (wpAny_typeOf (T:="tuple") ⟨o,z1,hc⟩ ?_);rw[aaZ (by rw[show(Value.type "tuple" == Value.type "tuple")=true from rfl,Bool.or_true])];refine aaa (listItems_at z1 hd (aaa (listItems_at z2 rfl ?_)));rw[if_neg (by simp)];refine aaa (listUpdate_at z2 rfl ?_ (aaP _) (by
  show(#[]++vs.toArray).size<=sizeLine+1;rw[Array.size_append,List.size_toArray];exact acj (by simpa using hsz)))
 refine aab ?_;show wpAny (model prog w) A (load s.heap.objs.size >>= λo=>match o.data with
   |.seq xs _=>pure xs.toList
   |_=>unsupported "internal:collect") Q E ({ s with heap:=(s.heap.push (seqObj "list" #[] 0)).update s.heap.objs.size (Obj.mapSeq (· ++ vs.toArray)) }:Shared)
 refine aaa (wpAny_load (get?_update_seq z2 _) ?_);show wpAny _ _ (pure ((#[]:aM)++vs.toArray).toList) Q E _;rw[show((#[]:aM)++vs.toArray).toList=vs by simp];exact aab h
theorem oz{l:Addr}{vs:ak}{Q:aw}{n:Nat}(ho:s.heap.get? l=some o)(hc:o.cls=.type "tuple")(hd:o.data=.seq vs.toArray n)(hI:IntsAre vs ns)(rP:vs.length<64)
  (h:∀(out:aM) (kK:aa),IntsAre out.toList kK->kK.Perm ns->kK.Pairwise (· <= ·)->Q (.ref (s.heap.objs.size+1)) { s with heap:=sortedAll s.heap vs out }):wpAny (model prog w) A (call (.builtin "sorted") [.ref l]) Q E s:=by
 refine Calls.call_function_entry kind_sorted plain_sorted entry_sorted (args_sorted1 _) ?_;unfold Builtin.«sorted»;have hz:vs.length<=sizeLine:=by rw[sizeLine_eq];left
 refine aaa (m:=checkCount "sorted" 1 1 _) (aab (aaa (nY ho hc hd (aaa (ach ?_)) hz)));have e1:((s.heap.push (seqObj "list" #[] 0)).update s.heap.objs.size (Obj.mapSeq (· ++ vs.toArray))).objs.size=s.heap.objs.size+1:=by rw[Heap.size_update,size_push']
 have e2:(((s.heap.push (seqObj "list" #[] 0)).update s.heap.objs.size (Obj.mapSeq (· ++ vs.toArray))).push (seqObj "list" vs.toArray 0)).get? (s.heap.objs.size+1)=some (seqObj "list" vs.toArray 0):=by
  rw[<- e1];exact aat _ rfl
 show wpAny _ _ _ _ _ ({ s with heap:=((s.heap.push (seqObj "list" #[] 0)).update s.heap.objs.size (Obj.mapSeq (· ++ vs.toArray))).push (seqObj "list" vs.toArray 0) }:Shared);rw[e1];refine aaa (aaM (aaL slot_list_sort ⟨_,e2,rfl⟩ entry_list_sort (list_sort_tree e2 hI rP λout kK a1 a2 a3=>⟨_,rfl,aab ⟨_,rfl,h out kK a1 a2 a3⟩⟩) (args_list_sort _)))
end
theorem sortI_perm(ns:aa):(sortI ns).Perm ns:=aaC ..
theorem sv(ns:aa):(sortI ns).Pairwise (· <= ·):=by
 have:=List.pairwise_mergeSort (le:=λa b:Int=>decide (a<=b)) (by intro a b c;simp;left) (by intro a b;simp;left) ns;unfold sortI;simpa using this
theorem dG:∀{vs:ak} {ns:aa},Vals (ns.map V.int) vs->IntsAre vs ns
 |_,[],h=>by cases h;exact .nil
 |_,n::ns,h=>by
  cases h with
  |cons r t=>obtain⟨tk,rfl⟩:=r;exact .cons n tk (dG t)
theorem qX:fM X (.builtin "sorted") (λxs H Q=>∃(p:Addr) (ns:aa),xs=[.ref p]/\(dh X.K H p (ns.map V.int)\/aU X.K H p (ns.map V.int))/\ns.length<64/\∀l,H l=none->Q (.ref l) (upd H l (.lst ((sortI ns).map V.int)))):=by
 intro pins s σ H xs us Q I r h;obtain⟨p,ns,rfl,hq,rP,q⟩:=h;obtain⟨u,rfl,ru⟩:=r.one;cases ru;have fin:∀(vs:ak) (out:aM) (kK:aa),IntsAre out.toList kK->kK.Perm ns->kK.Pairwise (· <= ·)->EP X pins σ Q (.ref (s.heap.objs.size+1)) { s with heap:=sortedAll s.heap vs out }:=by
  intro vs out kK h1 h2 h3;obtain rfl:kK=sortI ns:=PySem.W.ksm_same (h2.trans (sortI_perm ns).symm) h3 (sv ns);obtain⟨e,he⟩:=sortedAll_at s.heap vs out;have hn:H (s.heap.objs.size+1)=none:=I.cM.fresh (ab_ _);refine⟨.ref (s.heap.objs.size+1),upd H (s.heap.objs.size+1) (.lst ((sortI ns).map V.int)),I.laid (t':=s.toks) (λb u z=>sortedAll_old z) (ab_ _) ⟨?_,out.toList,e,kO h1,by simpa using he⟩,rfl,q _ hn⟩;rw[List.length_map,(sortI_perm ns).length_eq,sizeLine_eq];left
 rcases hq with hq|hq
 ·obtain⟨aI,rv,pl,hz⟩:=I.list hq;have hl:aI.length<64:=by rw[<- rv.length];simpa using rP
  exact sorted_ints (eB pl) (dG rv) hl λout kK h1 h2 h3=>fin aI out kK h1 h2 h3
 ·obtain⟨aI,rv,⟨o,ho,hc,n,hd⟩,hz⟩:=I.tuple hq;have hl:aI.length<64:=by rw[<- rv.length];simpa using rP
  exact oz ho hc hd (dG rv) hl λout kK h1 h2 h3=>fin aI out kK h1 h2 h3
theorem z3:isSubtype (.type "tuple") (.type "set")=pure false:=by rw[isSubtype_type];kernel_rfl
theorem se:isSubtype (.type "tuple") (.type "frozenset")=pure false:=by rw[isSubtype_type];kernel_rfl
noncomputable abbrev lT(led:Bool):Obj:={ cls:=.type "set",dict:=none,data:=.set #[] 0 (.fresh 0 0 led) }
noncomputable abbrev dist(ns:aa):aa:=firstMet (λi=>ns.getD i 0) ns.length
section
variable {prog:aE}{w:World}{A:aD}{E:aw}{s:Shared}
theorem uS{l:Addr}{aI:ak}{Q:aw}(hh:A.handled=none)(hl:s.heap.IsTuple l aI.toArray)(hi:IntsAre aI ns)(hb:aI.length+1<scanBound)
  (h:∀(h':Heap) (tk:Nat),h'.SetOf (intKind prog w) s.heap.objs.size (λk=>(dist ns).any (· == k)) (dist ns).length->(∀b o,b<s.heap.objs.size->s.heap.get? b=some o->h'.get? b=some o)->Q (.ref s.heap.objs.size) { s with heap:=h',toks:=tk }) :
  wpAny (model prog w) A (call (.type "set") [.ref l]) Q E s:=by
 have OM:aI.length=ns.length:=hi.length;obtain⟨c,tl,k1⟩:=F.called_set.mro;have k2:=F.called_set.made;have k3:=F.called_set.sub;have k4:=F.called_set.notType;have k5:=F.called_set.canCreate;have k6:=F.typeCall_set_1 (.ref l);refine wpAny_call (codeAny_of_tree (show wpAny _ _ (callAny (.type "set") _) _ _ _ from aab ⟨Code.quiet_builtin _ (by decide +kernel),abu F.entry_type_call ?_⟩));rw[Around.under_plain (weight_type_call_type "set" [.ref l] []) rfl]
 repeat (any_goals (first|assumption|wp_step))
 refine abS (code_set_new_1 (.ref l) (E:=E) (Q₁:=λz s₁=>∃led:Bool,z=.ref s.heap.objs.size/\s₁={ s with heap:=s.heap.push (lT led) }) λled=>⟨led,rfl,rfl⟩) λr s₁ hr=>?_;cases r with
 |error e=>exact hr
 |ok fl =>
  cases fl with
  |next=>exact hr.elim
  |brk=>exact hr.elim
  |cont=>exact hr.elim
  |ret z =>
   obtain⟨led,rfl,rfl⟩:=hr;have g1:(s.heap.push (lT led)).get? s.heap.objs.size=some (lT led):=aat _ rfl;have g2:Shared.TypeIs { s with heap:=s.heap.push (lT led) } (.ref s.heap.objs.size) "set":=⟨_,g1,rfl⟩
   have g3:=F.called_set.init.lookup;have g4:=F.called_set.init.bind (.ref s.heap.objs.size)
   repeat (any_goals (first|assumption|wp_step))
   refine abS (codeAny_call_builtin (R:=wants (λr s₂=>r=.none/\∃h' tk,s₂={ s with heap:=h',toks:=tk }/\h'.SetOf (intKind prog w) s.heap.objs.size (λk=>(dist ns).any (· == k)) (dist ns).length/\∀b o,b<s.heap.objs.size->s.heap.get? b=some o->h'.get? b=some o) E) F.called_set.init.plain F.entry_set_init (check_set_init_1 g2 ?_)) λr₂ s₂ tL=>?_
   ·obtain⟨ot,WT,W4,nt,W2⟩:=hl;obtain⟨oc,od,odt,C1⟩:=ot;simp only at W4 W2;subst W4;subst W2;have u1:(s.heap.push (lT led)).get? l=some { cls:=.type "tuple",dict:=od,data:=.seq aI.toArray nt,slots:=C1 }:=aaj _ WT;have u2:=z3;have u3:=se;have u4:(Value.type "tuple" == Value.type "dict")=false:=by decide
    have u5:(s.heap.push (lT led)).IsTuple l aI.toArray:=⟨_,u1,rfl,nt,rfl⟩
    unfold Builtin.«set.__init__» noKeywords Builtin.Frozenset.updateFrom;generalize ZH:pyIter=PI
    wp_walk
    subst ZH;refine wpAny_pyIter_tuple u5 (aaa (wpAny_runValue ?_));have u6:l<s.heap.objs.size:=aak WT;have u7:A.in1.in1.in1.handled=none:=by simp[hh]
    have hz:(s.heap.push (lT led)).objs.size=s.heap.objs.size+1:=Heap.size_push ..;have u8:l≠(s.heap.push (lT led)).objs.size:=by rw[hz];exact aas (aaQ u6)
    have u9:s.heap.objs.size∉[(s.heap.push (lT led)).objs.size,l]:=by
     rw[hz];intro m;simp at m;exact absurd m (aaz u6)
    have v1:∀(i:Nat) (v:Value),aI.toArray[i]?=some v->∃t,v=.int ((λi=>ns.getD i 0) i) t:=λi v hv=>hi.int_at i v (by simpa using hv);refine codeAny_set_update_loopS ((Walks.tuple u7 _ l u8 aI.toArray).toS) s.heap.objs.size u9 (λi=>ns.getD i 0) v1 (by rw[List.size_toArray];exact hb) (aI.toArray.size - 0) 0 _ (by left) (aaP _) ⟨⟨_,aat _ rfl,rfl,rfl⟩,u5.push _⟩ ?hS0 ?hR
    case hS0 =>
     have y1:((s.heap.push (lT led)).push { cls:=.type "tuple_iterator",data:=.fields #[.ref l,.int 0 0] }).get? s.heap.objs.size=some (lT led):=aaj _ g1;exact SetOf_congr ((setObjOf_fresh (knd:=intKind prog w) led).setOf y1 (by unfold scanBound;left)) (λ_=>rfl) rfl
    case hR =>
     intro s' hm yV;obtain⟨h',g',d',RS,Td⟩:=s';cases (show g'=s.gens from hm.gens);cases (show d'=s.drawn from hm.drawn);cases (show Td=s.os from hm.os);have yV:h'.SetOf (intKind prog w) s.heap.objs.size (λk=>(dist ns).any (· == k)) (dist ns).length:=by
      have e:aI.toArray.size=ns.length:=by rw[List.size_toArray,OM]
      rw[e]at yV;exact yV
     refine aab (show wpAny _ _ (ret Value.none) _ _ _ from aab ⟨rfl,h',RS,rfl,yV,λb o hb e=>hm.heap b o (λm=>?_) (aaj _ (aaj _ e))⟩);rcases List.mem_cons.mp m with m|m
     ·exact aas hb m
     ·have m:b=(s.heap.push (lT led)).objs.size:=by simpa using m
      rw[hz]at m;exact aas (aaQ hb) m
   ·cases r₂ with
    |error e=>exact tL
    |ok Pt =>
     cases Pt with
     |ret r =>
      obtain⟨rfl,h',tk,rfl,yV,C6⟩:=tL
      repeat (any_goals (first|assumption|wp_step))
      exact h _ _ yV C6
     |next=>exact tL.elim
     |brk=>exact tL.elim
     |cont=>exact tL.elim
end
theorem Cq(ns:aa):dist ns=qR ns:=by
 unfold dist firstMet qR;have e:(List.range ns.length).map (λi=>ns.getD i 0)=ns:=by
  refine abn (by simp) λi h1 h2=>?_;simp at h1;simp[h1]
 rw[e];rfl
def Yv(K:ao):ae->Hp->VK->Prop:=λxs H Q=>∃(p:Addr) (ns:aa),xs=[.ref p]/\aU K H p (ns.map V.int)/\ns.length<4000/\Q (.int (qR ns).length) H
theorem boot_set:bootBuiltins ("set" : Str)=some (.type "set"):=by decide +kernel
theorem Es{e:Expr}{t:TA}{p:Pos}(hc:X.calm=true)(UJ:Gl X ("len" : Str))(Y_:X.mg ("len" : Str)=none)(Zo:Gl X ("set" : Str))(Y9:X.mg ("set" : Str)=none)(ha:PA X [e] t)
  (pF:∀es,starEach (e::es) X.env=(false,eval e X.env)::starEach es X.env):PE X (.Call (.Name ("len" : Str) p) [.Call (.Name ("set" : Str) p') [e] [] pos'] [] pos) (MO (Yv X.K) t):=by
 intro pins s σ H Q I h;refine aa1 (dS I UJ Y_ PySem.boot_len ?_ (by decide) (by decide));refine PyProof.Rows.callWith_builtin1 ?_ rfl rfl;show wpAny _ _ (spliced ((false,eval (.Call (.Name ("set" : Str) p') [e] [] pos') X.env)::[])) _ _ s;refine abx ?_;refine aa1 (dS I Zo Y9 boot_set ?_ (by decide) (by decide));refine aaB (cS (ha pos' pins s σ H _ I h) λus s1 bL=>?_) (pF _) rfl;obtain⟨vs,H1,I1,r1,q1⟩:=bL;obtain⟨a,ns,rfl,hq,hl,q⟩:=q1;obtain⟨u,rfl,ru⟩:=r1.one;cases ru;obtain⟨aI,rv,it,hz⟩:=I1.tuple hq;have hle:aI.length=ns.length:=by rw[<- rv.length];simp
 refine uS (I1.ok.hd hc) it (dG rv) (by unfold scanBound;left) λh' tk hS kp=>abF ?_;rw[Cq]at hS;obtain⟨o,es,ep,tb,g1,g2,g3,_,_,g6,g7,g8⟩:=hS;refine call_len_set g1 g2 g3 g7 (by unfold scanBound at g6;omega) ?_;exact⟨.int (qR ns).length,H1,I1.kept (t':=tk+1+1) λb u z=>kp b u (aak z) z,⟨_,by rw[g8]⟩,q⟩
variable {args elts:av}
section
variable {X:Cx}{S:Sx}{k:Nat}{F:ai}{Φ:aY}
theorem Lk.V1(L:Lk X S k Φ):X.A.units+40<cLine:=by have:=L.room.units;left
def QE(K:ao)(neg:Bool):R2:=λv u H Q=>∃(d d':D) (N N':hU) (k k':bj),Rep (aU K H) N k v d/\Rep (aU K H) N' k' u d'/\(∀q p xs f,N q p (.l xs) f->dh K H p xs)/\(∀q p xs f,N' q p (.l xs) f->dh K H p xs)/\cI 40 d=true/\cI 40 d'=true /\
 Q (.bl (if neg then !lJ d d' else lJ d d')) H
theorem Jh(hu:X.A.units+40<cLine):jF X (compareOp .Eq) (QE X.K false):=by
 intro pins s σ H x y v u Q I rx ry h;obtain⟨d,d',N,N',k,k',r1,r2,n1,n2,o1,o2,q⟩:=h;exact(alike I n1 n2 40 X.A r1 r2 o1 o2 rx ry hu).rc X.prog X.w X.xe _ ⟨.bl _,H,I,rfl,q⟩
theorem Jg(hu:X.A.units+40<cLine):jF X (compareOp .NotEq) (QE X.K true):=by
 intro pins s σ H x y v u Q I rx ry h;obtain⟨d,d',N,N',k,k',r1,r2,n1,n2,o1,o2,q⟩:=h;exact(alike I n1 n2 40 X.A r1 r2 o1 o2 rx ry hu).ne X.prog X.w X.xe _ ⟨.bl _,H,I,rfl,q⟩
theorem Av{N':hU}{k:bj}{v v':V}{d d':D}(h:Rep T N k v d)(h':Rep T' N' k' v' d')(f:nK d=true)(f':nK d'=true):iz v=true/\De v v'=lJ d d':=by
 cases h<;>first | (cases f;done) | (cases h'<;>first | (cases f';done)|exact⟨rfl,by simp[De,lJ]⟩)
theorem o_{k:bj}{v:V}{d:D}(h:Rep T N k v d)(f:nK d=true):iz v=true:=by
 cases h<;>first | (cases f;done)|rfl
theorem qj{T T':kG}{N N':hU}{k':bj}{v:V}{d:D}(hv:Rep T' N' k' v d)(f:nK d=true):∀{k:bj} {n:Nat} {xs:ae} {ds:ab},aA T N k n xs ds->ds.all nK=true->xs.all iz=true/\QX v xs=inD d ds
 |_,_,_,_,.nil,_=>⟨rfl,rfl⟩
 |_,_,_,_,.cons h t,fs=>by
  rw[List.all_cons,Bool.and_eq_true]at fs;obtain⟨h1,h2⟩:=qj hv f t fs.2;obtain⟨g1,g2⟩:=Av h hv fs.1 f;refine⟨by rw[List.all_cons,g1,h1];rfl,?_⟩;unfold QX at h2 ⊢;rw[List.any_cons,g2,h2];rfl
def ID(K:ao)(op:zJ):R2:=match op with
 |.eq=>QE K false
 |.ne=>QE K true
 |.lt=>Ay λi j=>.bl (decide (i<j))
 |.le=>Ay λi j=>.bl (decide (i<=j))
 |.gt=>Ay λi j=>.bl (decide (j<i))
 |.ge=>Ay λi j=>.bl (decide (j<=i))
 |.Fd=>SS K false
theorem A1(L:Lk X S k Φ)(op:zJ):jF X (compareOp (Th op)) (ID X.K op):=by
 cases op with
 |eq=>exact Jh L.V1
 |ne=>exact Jg L.V1
 |lt=>exact NI
 |le=>exact NJ
 |gt=>exact NK
 |ge=>exact NL
 |Fd=>exact yC
theorem A_{op:CmpOp}{r:Expr}(h:pk r=true):behindInMarks op r=false:=by
 cases r<;>first|rfl | (cases h;done)
theorem mz{op:zJ}{x y d:D}(OG:op=.lt\/op=.le\/op=.gt\/op=.ge)(h:fA op x y=ok d):∃i j,x=.int i/\y=.int j:=by
 cases x with
 |int i=>cases y with
  |int j=>exact⟨i,j,rfl,rfl⟩
  |_=>rcases OG with rfl|rfl|rfl|rfl<;>exact nk h
 |_=>rcases OG with rfl|rfl|rfl|rfl<;>exact nk h
theorem uf{op:zJ}{a b:CE}(hq:tD X F Φ (.cmp op a b) σ H Q):GD (ID X.K op) (tD X F Φ a) (tD X F Φ b) σ H Q:=by
 obtain⟨R,τ,ρ,d,Si,ev,hq⟩:=hq;obtain⟨x,ex,ev⟩:=aG ev;obtain⟨y,ey,ev⟩:=aG ev;refine tD.intro Si ex λv H1 e1 r1=>tD.intro (Si.go e1) ey λu H2 e2 r2=>?_;have e:=e1.trans e2;have rv:=r1.go e2;have ru:=r2;obtain⟨τ1,f1,p1⟩:=rv;obtain⟨τ2,f2,p2⟩:=ru;have sq:∀{A:ai} {τ:Addr->Option bj} (q:bj) (p:Addr) (xs:ae) (f:Fl),nd X.K R A τ H2 q p (.l xs) f->dh X.K H2 p xs:=λq p xs f h=>h.sq;cases op with
 |eq =>
  obtain⟨hc,ev⟩:=oj ev
  ·subst ev;rw[Bool.and_eq_true]at hc;exact⟨x,y,_,_,_,_,p1,p2,sq,sq,hc.1,hc.2,hq _ H2 e .bl⟩
 |ne =>
  obtain⟨hc,ev⟩:=oj ev
  ·subst ev;rw[Bool.and_eq_true]at hc;exact⟨x,y,_,_,_,_,p1,p2,sq,sq,hc.1,hc.2,hq _ H2 e .bl⟩
 |lt=>obtain⟨i,j,rfl,rfl⟩:=mz (by simp) ev;cases ev;exact⟨_,_,(r1.go e2).isInt,r2.isInt,hq _ H2 e .bl⟩
 |le=>obtain⟨i,j,rfl,rfl⟩:=mz (by simp) ev;cases ev;exact⟨_,_,(r1.go e2).isInt,r2.isInt,hq _ H2 e .bl⟩
 |gt=>obtain⟨i,j,rfl,rfl⟩:=mz (by simp) ev;cases ev;exact⟨_,_,(r1.go e2).isInt,r2.isInt,hq _ H2 e .bl⟩
 |ge=>obtain⟨i,j,rfl,rfl⟩:=mz (by simp) ev;cases ev;exact⟨_,_,(r1.go e2).isInt,r2.isInt,hq _ H2 e .bl⟩
 |Fd =>
  simp only[fA]at ev;split at ev
  ·rename_i ds hi;split at ev
   ·rename_i hc;rw[Bool.and_eq_true]at hc;cases ev;cases p2 with
    |tup h rs=>cases hi;obtain⟨g1,g2⟩:=qj p1 hc.1 rs hc.2;exact⟨_,_,rfl,.inr h,o_ p1 hc.1,g1,by rw[g2];exact hq _ H2 e .bl⟩
    |lst h rs=>cases hi;obtain⟨g1,g2⟩:=qj p1 hc.1 rs hc.2;exact⟨_,_,rfl,.inl h.sq,o_ p1 hc.1,g1,by rw[g2];exact hq _ H2 e .bl⟩
    |_=>cases hi
   ·cases ev
  ·cases ev
theorem Ac{c:CE}{Q:Bool->Hp->Prop}(h:gy X F Φ c σ H Q):tB (tD X F Φ c) σ H Q:=by
 obtain⟨R,τ,ρ,b,Si,ev,hq⟩:=h;unfold y6 at ev;obtain⟨d,ed,et⟩:=aG ev;refine tD.intro Si ed λv H' e r=>?_;cases d<;>simp[gW]at et;cases et;exact⟨_,r.yK,hq H' e⟩
theorem cE{c:CE}{e:Expr}(h:PE X e (tD X F Φ c))(he:∀whole,isTrue e X.env whole=(do let v <- whole;standAt e.pos;holding [v] (truthy v))):PT X e (gy X F Φ c) :=
 PT.imp (IH h he) λ_ _ _ h=>Ac h
theorem ym{op:zJ}{a b:CE}{Q:Bool->Hp->Prop}(h:gy X F Φ (.cmp op a b) σ H Q):GC (GD (ID X.K op) (tD X F Φ a) (tD X F Φ b)) σ H Q :=
 uf (Ac h)
theorem dictAt{pins:aj}{s:Shared}{p:Addr}{cs:ag}(I:Inv X pins σ H s)(h:H p=some (.ext (DO p cs as xs ep))):∃o,s.heap.get? p=some o/\o.cls=.type "dict":=by
 obtain⟨⟨zs,o,es,_,_,_,ho,hx,_⟩,_⟩:=(show cy X.prog X.w H s.heap p (.ext (DO p cs as xs ep)) from I.cM p _ h)
 exact⟨o,ho,hx.1⟩
theorem Ex{pins:aj}{s:Shared}{p:Addr}{cs:ag}(I:Inv X pins σ H s)(h:H p=some (.ext (PJ p cs as xs ep))):∃o,s.heap.get? p=some o/\o.cls=.type "dict":=by
 obtain⟨⟨zs,o,es,_,_,_,ho,hx,_⟩,_⟩:=(show cy X.prog X.w H s.heap p (.ext (PJ p cs as xs ep)) from I.cM p _ h)
 exact⟨o,ho,hx.1⟩
theorem JF(L:Lk X S k Φ)(t:Ty):fM X (.builtin "isinstance") (λxs H Q=>∃(x:V) (d:D) (N:hU) (k:bj),xs=[x,.ty (tyName t)]/\Rep (aU X.K H) N k x d/\(∀q p xs f,N q p (.l xs) f->dh X.K H p xs)/\(∀q p cs as xs ep f,N q p (.d cs as xs ep) f->H p=some (.ext (DO p cs as xs ep)))/\(∀q p cs as xs ep f,N q p (.ej cs as xs ep) f->H p=some (.ext (PJ p cs as xs ep)))/\Q (.bl (dF t d)) H):=by
 intro pins s σ H xs us Q I r h;obtain⟨x,d,N,k,rfl,rp,hN,ZJ,ZI,q⟩:=h;obtain⟨u,w',rfl,ru,j5⟩:=vals2 r;cases (show w'=Value.type (tyName t) from j5);have kt:=EU X.K t;have fin:∀b:Bool,b=dF t d->∀tk,EP X pins σ Q (.bool b) { s with toks:=tk }:=λb e tk=>⟨.bl b,H,I.tok tk,rfl,by rw[e];exact q⟩
 cases rp with
 |cj=>cases ru;exact aa9 PySem.W.kitx_none I.yG True.intro (kt "NoneType" (by simp[kinds])) (λz=>nomatch z) (fin _ (by cases t<;>rfl))
 |bl b=>cases ru;exact aa9 PySem.W.kitx_bool I.yG True.intro (kt "bool" (by simp[kinds])) (λz=>nomatch z) (fin _ (by cases t<;>rfl))
 |int i=>obtain⟨t',rfl⟩:=ru;exact aa9 PySem.W.kitx_int I.yG True.intro (kt "int" (by simp[kinds])) (λz=>nomatch z) (fin _ (by cases t<;>rfl))
 |tup h _ =>
  cases ru;obtain⟨aI,_,⟨o,h1,h2,_⟩,_⟩:=I.tuple h;exact aa9 PySem.W.kitx_tuple I.yG ⟨o,h1,h2⟩ (kt "tuple" (by simp[kinds])) (λz=>nomatch z) (fin _ (by cases t<;>rfl))
 |lst h _ =>
  cases ru;obtain⟨aI,_,⟨o,n,h1,h2,_⟩,_⟩:=I.list (hN _ _ _ _ h);exact aa9 PySem.W.kitx_list I.yG ⟨o,h1,h2⟩ (kt "list" (by simp[kinds])) (λz=>nomatch z) (fin _ (by cases t<;>rfl))
 |bU h _ _ =>
  cases ru;obtain⟨o,h1,h2⟩:∃o,s.heap.get? _=some o/\o.cls=.type "dict":=dictAt I (ZJ _ _ _ _ _ _ _ h);exact aa9 PySem.W.kitx_dict I.yG ⟨o,h1,h2⟩ (kt "dict" (by simp[kinds])) (λz=>nomatch z) (fin _ (by cases t<;>rfl))
 |dC h _ _ =>
  cases ru;obtain⟨o,h1,h2⟩:∃o,s.heap.get? _=some o/\o.cls=.type "dict":=Ex I (ZI _ _ _ _ _ _ _ h);exact aa9 PySem.W.kitx_dict I.yG ⟨o,h1,h2⟩ (kt "dict" (by simp[kinds])) (λz=>nomatch z) (fin _ (by cases t<;>rfl))
theorem F7(t:Ty):bootBuiltins (tyName t:Str)=some (.type (tyName t)):=by
 cases t<;>decide +kernel
theorem oX(t:Ty):(tyName t:Str) ≠ "__name__" /\ ((tyName t:Str)==("__debug__" : Str))=false:=by
 cases t<;>decide +kernel
theorem Iq(L:Lk X S k Φ){a:CE}{t:Ty}{e:Expr}{p:Pos}(hf:gz S.sc ("isinstance" : Str)=true)(UL:("isinstance" : Str)∈S.bl)(hg:gz S.sc (tyName t:Str)=true)(UI:(tyName t:Str)∈S.bl)
  (ha:PE X e (tD X F Φ a)) (pF:∀es,starEach (e::es) X.env=(false,eval e X.env)::starEach es X.env):PE X (.Call (.Name ("isinstance" : Str) p) [e,.Name (tyName t:Str) p'] [] pos) (tD X F Φ (.rN a t)):=by
 have hT:PE X (.Name (tyName t:Str) p') (tC (.ty (tyName t))):=Ew (L.gl hg) (L.bl _ UI) (F7 t) rfl (oX t).1 (oX t).2;refine PE.imp (fe (JF L t) (L.gl hf) (L.bl _ UL) PyProof.Rows.boot_isinstance (cA ha (cA hT dR) (pF _)) (he:=pF _)) λσ H Q hq=>?_;obtain⟨R,τ,ρ,d,Si,ev,hq⟩:=hq;obtain⟨x,ex,ev⟩:=aG ev;cases ev;refine tD.intro Si ex λv H1 e1 r1=>?_;obtain⟨τ1,f1,p1⟩:=r1;exact⟨v,x,_,_,rfl,p1,λq p xs f h=>h.sq,λq p cs as xs ep f h=>h.dat,λq p cs as xs ep f h=>h.pat,hq _ H1 e1 .bl⟩
theorem JL:@DI.tF=@L2.tF:=rfl
theorem M3(L:Lk X S k Φ){a b:CE}{e i:Expr}(ha:PE X e (tD X F Φ a))(hb:PE X i (tD X F Φ b))(hp:mK i):PE X (.Subscript e i pos) (tD X F Φ (.ix a b)):=by
 refine PE.imp (AS (EW.or JK) ha hb hp) λσ H Q hq=>?_;obtain⟨R,τ,ρ,d,Si,ev,hq⟩:=hq;obtain⟨x,ex,ev⟩:=aG ev;obtain⟨y,ey,ev⟩:=aG ev;refine tD.intro Si ex λv H1 e1 r1=>tD.intro (Si.go e1) ey λu H2 e2 r2=>?_;have ee:=e1.trans e2;have rv:=(r1.go e2).mono (fv':=g9 (.ix a b)) λj hj=>aaI _ hj;have item:∀{q:bj} {xs:ae} {ds:ab} {τt:Addr->Option bj} {j:Int},(∀p q,τt p=some q->H p=none)->aA (aU X.K H2) (nd X.K R (jl (gP X F) τ (g9 (.ix a b))) τt H2) q 0 xs ds->rn ds j=ok d->∃w,L2.Mh xs j=some w/\Q w H2:=by
  intro q xs ds τt j fr rs h;unfold rn at h;split at h
  ·rename_i d' hd;cases h;cases hx:DI.tF ds.length j with
   |none=>rw[hx]at hd;cases hd
   |some m =>
    rw[hx]at hd;obtain⟨w,hw,j5⟩:=rs.get (show ds[m]?=some d' from hd);refine⟨w,?_,hq w H2 ee ⟨λ_=>none,λ_ _ h=>by simp at h,j5.eO Si fr⟩⟩;unfold L2.Mh;rw[<- JL,rs.length,hx];exact hw
  ·cases h
 cases y with
 |int j =>
  obtain⟨τt,fr,rp⟩:=rv;cases r2.isInt;cases x with
  |tup ds =>
   cases rp with
   | @tup _ p xs _ h rs=>obtain⟨w,h1,h2⟩:=item fr rs ev;exact .inr ⟨p,xs,j,w,rfl,rfl,h,h1,h2⟩
  |lst f ds =>
   cases rp with
   | @lst _ p xs _ _ h rs=>obtain⟨w,h1,h2⟩:=item fr rs ev;exact .inl ⟨p,xs,j,w,rfl,rfl,h.sq,h1,h2⟩
  |_=>exact nk ev
 |_=>cases x<;>cases ev
theorem nM:∀(cs:aF) {ρ:a_} {ds:ab},cu Φ cs ρ=ok ds->ds.length=cs.length
 |[],_,_,h=>by cases h;rfl
 |c::cs,_,_,h=>by
  obtain⟨x,_,h⟩:=aG h;obtain⟨xs,hx,h⟩:=aG h;cases h;simp[nM cs hx]
theorem Il{es:av}{n:Nat}(h:PA X es (si X F Φ cs))(hl:cs.length<=1000):PE X (.Tuple es n pos) (tD X F Φ (.tup cs)):=by
 refine PE.imp (AN h) λσ H Q hq=>?_;obtain⟨R,τ,ρ,d,Si,ev,hq⟩:=hq;obtain⟨ds,K7,ev⟩:=aG ev;cases ev;refine⟨R,τ,ρ,ds,Si,K7,λvs H1 e1 r1=>?_⟩;obtain⟨τt,fr,rs⟩:=r1;have hz:sizeLine=16777216:=aa2;refine⟨by rw[rs.length,nM cs K7];left,λp hp=>?_⟩;have es:aJ H1 (upd H1 p (.tup vs)):=aJ.upd hp;exact hq _ _ (e1.trans es) ⟨τt,fr,.tup (aU.of aS) (rs.imp (λ_ _ h=>aU.same es h) λ_ _ _ _ h=>nd.same es h)⟩
theorem Ip{es:av}(h:PA X es (si X F Φ cs))(hl:cs.length<=1000):PE X (.List es pos) (tD X F Φ (.lst cs)):=by
 refine PE.imp (AR h) λσ H Q hq=>?_;obtain⟨R,τ,ρ,d,Si,ev,hq⟩:=hq;obtain⟨ds,K7,ev⟩:=aG ev;cases ev;refine⟨R,τ,ρ,ds,Si,K7,λvs H1 e1 r1=>?_⟩;obtain⟨τt,fr,rs⟩:=r1;have hz:sizeLine=16777216:=aa2;refine⟨by rw[rs.length,nM cs K7];left,λp hp=>?_⟩;have es:aJ H1 (upd H1 p (.lst vs)):=aJ.upd hp;refine hq _ _ (e1.trans es) ⟨λq=>if q=p then some []else τt q,λq z hq=>?_,.lst ⟨aS,by simp⟩ (rs.imp (λ_ _ h=>aU.same es h) λc q xs f h=>?_)⟩
 ·by_cases rO:q=p
  ·subst rO;exact e1.free hp
  ·simp only[rO,if_false]at hq;exact fr q z hq
 ·have h':=nd.same es h;cases f with
  |ow =>
   have rO:q≠p:=by
    intro z;subst z;exact h.1.ne hp
   exact⟨h'.1,by simp only[rO,if_false];exact h'.2⟩
  |fz=>exact h'
  |al=>exact h'
  |sc=>exact h'
theorem D3(L:Lk X S k Φ){f:Nat}{x:Str}{y:Expr}{ys:av}{p:Pos}(hf:S.fn f=some x)(hg:gz S.sc x=true)(hn:lX x=true)(ha:PA X (y::ys) (si X F Φ cs))
  (pF:∀es,starEach (y::es) X.env=(false,eval y X.env)::starEach es X.env) (hpl:∀pos,(backTo pos (starEach ys X.env)).any (·.1)=false):PE X (.Call (.Name x p) (y::ys) [] pos) (tD X F Φ (.call f cs)):=by
 obtain⟨a,fd,ps,Fo,hm,hk,hb,hl⟩:=(L.fn f x hf).ex;unfold lX at hn;simp only[Bool.and_eq_true,Bool.not_eq_true']at hn;refine PE.imp (Eu Fo L.room (L.gl hg) hm hk hb .nil (NC (X:=X)) ha hn.1.1 (pF _) (hpl _)) λσ H Q hq=>?_;obtain⟨R,τ,ρ,d,Si,ev,hq⟩:=hq;obtain⟨xs,cK,ev⟩:=aG ev;obtain⟨r,er,ev⟩:=aG ev;cases ev;refine⟨R,τ,ρ,xs,Si,cK,λvs H1 e1 r1=>?_⟩;obtain⟨τt,fr,rs⟩:=r1;have fresh:∀p,H p=none->jl (gP X F) τ (cW cs) p:=λp hp=>⟨.inr (Si.same.free hp),λc i e=>absurd hp (Si.th p _ e)⟩
 have hR:∀p,R p->jl (gP X F) τ (cW cs) p:=λp hp=>⟨Si.rf p hp,λc i e=>by rw[Si.rt p hp]at e;cases e⟩
 rw[List.append_nil];refine⟨jl (gP X F) τ (cW cs),aB aW xs,r,by rw[rs.length,<- hl _ _ er,aQ,List.length_map],aA.ip (λ_ _ h=>h) (λk k' p xs f h=>?_) rs _ _,er,λv H2 e2 rr=>?_⟩
 ·cases f with
  |ow=>exact⟨h.1,fresh p (fr p _ h.2)⟩
  |fz=>exact⟨h.1,hR p h.2⟩
  |al=>exact h
  |sc=>exact h
 ·obtain⟨τ2,Mb,rp⟩:=rr;refine hq v H2 (e1.trans e2) ⟨τ2,λp q h=>e1.free (Mb p q h),Rep.map (q:=[]) (q':=[]) (λ_ _ h=>h) (λc p xs f h=>?_) rp [] rfl⟩;cases f with
  |ow=>exact h
  |fz=>exact⟨h.1,h.2.elim id λz=>fresh p (e1.free z)⟩
  |al=>exact h.2.elim
  |sc=>exact h
def Wg(K:ao)(f:Bf):ae->Hp->VK->Prop:=match f with
 |.len=>λxs H Q=>∃p ys,xs=[.ref p]/\(dh K H p ys\/aU K H p ys)/\Q (.int ys.length) H
 |.abs=>λxs H Q=>∃i,xs=[.int i]/\Q (.int (if i<0 then -i else i)) H
 |.tI=>λxs H Q=>(∃i,xs=[.int i]/\Q (.int i) H)\/∃k,xs=[.bl k]/\Q (.int (if k then 1 else 0)) H
 |.list1=>λxs H Q=>∃p ys,xs=[.ref p]/\(dh K H p ys\/aU K H p ys)/\∀l,H l=none->Q (.ref l) (upd H l (.lst ys))
 |.tuple1=>λxs H Q=>∃p ys,xs=[.ref p]/\((dh K H p ys/\∀l,H l=none->Q (.ref l) (upd H l (.tup ys)))\/(aU K H p ys/\Q (.ref p) H))
 |.gY=>λxs H Q=>∃(p:Addr) (ns:aa),xs=[.ref p]/\dh K H p (ns.map V.int)/\Q (.int ns.sum) H
 |.all1=>λxs H Q=>∃(p:Addr) (bs:List Bool),xs=[.ref p]/\dh K H p (bs.map V.bl)/\Q (.bl (bs.all id)) H
 |.cT=>λxs H Q=>∃(p:Addr) (ns:aa),xs=[.ref p]/\(dh K H p (ns.map V.int)\/aU K H p (ns.map V.int))/\ns.length<64/\∀l,H l=none->Q (.ref l) (upd H l (.lst ((sortI ns).map V.int)))
theorem aA.one{k:bj}{n:Nat}{d:D}(h:aA T N k n vs [d]):∃v,vs=[v]/\Rep T N (n::k) v d:=by
 cases h with
 |cons h t=>cases t;exact⟨_,rfl,h⟩
theorem aA.two{k:bj}{n:Nat}{d e:D}(h:aA T N k n vs [d,e]):∃v w,vs=[v,w]/\Rep T N (n::k) v d/\Rep T N ((n+1)::k) w e:=by
 cases h with
 |cons h t=>obtain⟨w,rfl,h'⟩:=t.one;exact⟨_,_,rfl,h,h'⟩
theorem aA.ints1{k:bj}{n:Nat}{i:Int}(h:aA T N k n vs [.int i]):vs=[.int i]:=by
 obtain⟨v,rfl,z⟩:=h.one;cases z;rfl
theorem aA.ints2{k:bj}{n:Nat}{i j:Int}(h:aA T N k n vs [.int i,.int j]):vs=[.int i,.int j]:=by
 obtain⟨v,w,rfl,z,z'⟩:=h.two;cases z;cases z';rfl
noncomputable def Bf.one:Bf->Bool
 |_=>true
theorem Ht{f:Bf}{xs:ab}{d:D}(hf:f.one=true)(h:kM f xs=ok d):∃x,xs=[x]:=by
 cases xs with
 |nil=>cases f<;>exact nk h
 |cons x xs=>cases xs with
  |nil=>exact⟨x,rfl⟩
  |cons y ys=>cases f<;>first | (cases hf;done) | (cases x<;>exact nk h)
theorem aA.ofInts{T:kG}{N:hU}{k:bj}:∀{ns:aa} {n:Nat} {vs:ae},aA T N k n vs (ns.map D.int)->vs=ns.map V.int
 |[],_,_,h=>by cases h;rfl
 |i::ns,_,_,h=>by
  cases h with
  |cons h t=>cases h;rw[aA.ofInts t];rfl
theorem aA.GY{T:kG}{N:hU}{k:bj}:∀{ns:List Bool} {n:Nat} {vs:ae},aA T N k n vs (ns.map D.bl)->vs=ns.map V.bl
 |[],_,_,h=>by cases h;rfl
 |i::ns,_,_,h=>by
  cases h with
  |cons h t=>cases h;rw[aA.GY t];rfl
theorem dW{T:kG}{N:hU}{k:bj}:∀(ns:aa) {n:Nat},aA T N k n (ns.map V.int) (ns.map D.int)
 |[],_=>.nil
 |i::ns,_=>.cons (.int i) (dW ns)
theorem F8{f:Bf}(hq:tD X F Φ (.bf f cs) σ H Q):MO (Wg X.K f) (si X F Φ cs) σ H Q:=by
 obtain⟨R,τ,ρ,d,Si,ev,hq⟩:=hq;obtain⟨xs,cK,ev⟩:=aG ev;refine⟨R,τ,ρ,xs,Si,cK,λvs H1 e1 r1=>?_⟩;obtain⟨τt,fr,rs⟩:=r1;cases f with
 |len =>
  obtain⟨x,rfl⟩:=Ht rfl ev;obtain⟨v,rfl,rv⟩:=rs.one;cases x with
  |tup ds=>cases ev;obtain⟨_,_,rfl,h,r⟩:=rv.ye;exact⟨_,_,rfl,.inr h,by rw[r.length];exact hq _ H1 e1 .int⟩
  |lst f ds=>cases ev;obtain⟨_,_,rfl,h,r⟩:=rv.rS;exact⟨_,_,rfl,.inl h.sq,by rw[r.length];exact hq _ H1 e1 .int⟩
  |_=>exact nk ev
 |abs =>
  obtain⟨x,rfl⟩:=Ht rfl ev;cases x with
  |int i=>cases ev;cases rs.ints1;exact⟨_,rfl,hq _ H1 e1 .int⟩
  |_=>exact nk ev
 |tI =>
  obtain⟨x,rfl⟩:=Ht rfl ev;obtain⟨v,rfl,rv⟩:=rs.one;cases x with
  |int i=>cases ev;cases rv;exact .inl ⟨_,rfl,hq _ H1 e1 .int⟩
  |bl i=>cases ev;cases rv;exact .inr ⟨_,rfl,hq _ H1 e1 .int⟩
  |_=>exact nk ev
 |list1 =>
  obtain⟨x,rfl⟩:=Ht rfl ev;obtain⟨v,rfl,rv⟩:=rs.one;cases x with
  |tup ds =>
   cases ev;obtain⟨_,_,rfl,h,r⟩:=rv.ye;refine⟨_,_,rfl,.inr h,λl hl=>?_⟩;exact hq _ _ (e1.trans (aJ.upd hl)) (bQ.qt (e1.free hl) (e1.trans (aJ.upd hl)) aS ((r.eO Si fr).imp (λ_ _ h=>aU.same (aJ.upd hl) h) λ_ _ _ _ h=>nd.same (aJ.upd hl) h))
  |lst f ds =>
   cases ev;obtain⟨_,_,rfl,h,r⟩:=rv.rS;refine⟨_,_,rfl,.inl h.sq,λl hl=>?_⟩;exact hq _ _ (e1.trans (aJ.upd hl)) (bQ.qt (e1.free hl) (e1.trans (aJ.upd hl)) aS ((r.eO Si fr).imp (λ_ _ h=>aU.same (aJ.upd hl) h) λ_ _ _ _ h=>nd.same (aJ.upd hl) h))
  |_=>exact nk ev
 |tuple1 =>
  obtain⟨x,rfl⟩:=Ht rfl ev;obtain⟨v,rfl,rv⟩:=rs.one;cases x with
  |tup ds =>
   cases ev;obtain⟨_,_,rfl,h,r⟩:=rv.ye;exact⟨_,_,rfl,.inr ⟨h,hq _ H1 e1 ⟨λ_=>none,λ_ _ h=>by simp at h,.tup h (r.eO Si fr)⟩⟩⟩
  |lst f ds =>
   cases ev;obtain⟨_,_,rfl,h,r⟩:=rv.rS;refine⟨_,_,rfl,.inl ⟨h.sq,λl hl=>?_⟩⟩;exact hq _ _ (e1.trans (aJ.upd hl)) ⟨λ_=>none,λ_ _ h=>by simp at h,.tup (aU.of aS) ((r.eO Si fr).imp (λ_ _ h=>aU.same (aJ.upd hl) h) λ_ _ _ _ h=>nd.same (aJ.upd hl) h)⟩
  |_=>exact nk ev
 |gY =>
  obtain⟨x,rfl⟩:=Ht rfl ev;obtain⟨v,rfl,rv⟩:=rs.one;cases x with
  |lst f ds =>
   have ev:(match intsOf ds with|some ns=>ok (.int ns.sum)|none=>none)=ok d:=ev;cases hn:intsOf ds with
   |none=>rw[hn]at ev;cases ev
   |some ns =>
    rw[hn]at ev;cases ev;cases cU hn;cases rv with
    |lst h r=>cases r.ofInts;exact⟨_,ns,rfl,h.sq,hq _ H1 e1 .int⟩
  |_=>exact nk ev
 |all1 =>
  obtain⟨x,rfl⟩:=Ht rfl ev;obtain⟨v,rfl,rv⟩:=rs.one;cases x with
  |lst f ds =>
   have ev:(match iF ds with|some bs=>ok (.bl (bs.all id))|none=>none)=ok d:=ev;cases hn:iF ds with
   |none=>rw[hn]at ev;cases ev
   |some ns =>
    rw[hn]at ev;cases ev;cases uj hn;cases rv with
    |lst h r=>cases r.GY;exact⟨_,ns,rfl,h.sq,hq _ H1 e1 .bl⟩
  |_=>exact nk ev
 |cT =>
  obtain⟨x,rfl⟩:=Ht rfl ev;obtain⟨v,rfl,rv⟩:=rs.one;have fin:∀ds,o5 ds=ok d->∃ns:aa,ds=ns.map D.int/\ns.length<64/\∀l,H1 l=none->Q (.ref l) (upd H1 l (.lst ((sortI ns).map V.int))):=by
   intro ds e;unfold o5 at e;split at e
   ·rename_i ns hn;split at e
    ·rename_i rP;cases e;refine⟨ns,cU hn,rP,λl hl=>hq _ _ (e1.trans (aJ.upd hl)) (bQ.qt (e1.free hl) (e1.trans (aJ.upd hl)) aS (dW _))⟩
    ·cases e
   ·cases e
  cases x with
  |tup ds =>
   obtain⟨ns,rfl,rP,q⟩:=fin ds ev;cases rv with
   |tup h r=>cases r.ofInts;exact⟨_,ns,rfl,.inr h,rP,q⟩
  |lst f ds =>
   obtain⟨ns,rfl,rP,q⟩:=fin ds ev;cases rv with
   |lst h r=>cases r.ofInts;exact⟨_,ns,rfl,.inl h.sq,rP,q⟩
  |_=>exact nk ev
theorem M4(L:Lk X S k Φ){f:Bf}{y:Expr}{ys:av}{p:Pos}(hg:gz S.sc (ra f:Str)=true)(hb:(ra f:Str)∈S.bl)(ha:PA X (y::ys) (si X F Φ cs))
  (pF:∀es,starEach (y::es) X.env=(false,eval y X.env)::starEach es X.env) (hpl:∀pos,(backTo pos (starEach ys X.env)).any (·.1)=false):PE X (.Call (.Name (ra f:Str) p) (y::ys) [] pos) (tD X F Φ (.bf f cs)):=by
 refine PE.imp (t:=MO (Wg X.K f) (si X F Φ cs)) ?_ λσ H Q hq=>F8 hq;cases f with
 |len=>exact fe qZ (L.gl hg) (L.bl _ hb) PySem.boot_len ha (he:=pF _) (hpl:=hpl _)
 |abs=>exact fe CD (L.gl hg) (L.bl _ hb) (by decide +kernel) ha (he:=pF _) (hpl:=hpl _)
 |tI=>exact k0 zm (L.gl hg) (L.bl _ hb) (by decide +kernel) ha (he:=pF _) (hpl:=hpl _)
 |list1=>exact k0 qY (L.gl hg) (L.bl _ hb) (by decide +kernel) ha (he:=pF _) (hpl:=hpl _)
 |tuple1=>exact k0 oP (L.gl hg) (L.bl _ hb) (by decide +kernel) ha (he:=pF _) (hpl:=hpl _)
 |gY=>exact fe (zk L.calm) (L.gl hg) (L.bl _ hb) (by decide +kernel) ha (he:=pF _) (hpl:=hpl _)
 |cT=>exact fe qX (L.gl hg) (L.bl _ hb) (by decide +kernel) ha (he:=pF _) (hpl:=hpl _)
 |all1=>exact fe (zo L.calm) (L.gl hg) (L.bl _ hb) (by decide +kernel) ha (he:=pF _) (hpl:=hpl _)
theorem DZ(L:Lk X S k Φ){a:CE}{e:Expr}{p:Pos}(hf:gz S.sc ("len" : Str)=true)(UL:("len" : Str)∈S.bl)(hg:gz S.sc ("set" : Str)=true)(UI:("set" : Str)∈S.bl)
  (ha:PE X e (tD X F Φ a)) (pF:∀es,starEach (e::es) X.env=(false,eval e X.env)::starEach es X.env):PE X (.Call (.Name ("len" : Str) p) [.Call (.Name ("set" : Str) p') [e] [] pos'] [] pos) (tD X F Φ (.j9 a)):=by
 refine PE.imp (Es L.calm (L.gl hf) (L.bl _ UL) (L.gl hg) (L.bl _ UI) (cA ha dR (pF _)) pF) λσ H Q hq=>?_;obtain⟨R,τ,ρ,d,Si,ev,hq⟩:=hq;obtain⟨x,ex,ev⟩:=aG ev;refine tD.intro Si ex λv H1 e1 r1=>?_;obtain⟨τ1,f1,rv⟩:=r1;cases x with
 |tup ds =>
  simp only[w9]at ev;split at ev
  ·rename_i ns hn;split at ev
   ·rename_i hl;cases ev;cases cU hn;cases rv with
    |tup h r=>cases r.ofInts;exact⟨_,ns,rfl,h,hl,hq _ H1 e1 .int⟩
   ·cases ev
  ·cases ev
 |_=>exact nk ev
theorem Im{a:CE}{e:Expr}(h:PE X e (tD X F Φ a)):PE X (.UnaryOp .Not e pos) (tD X F Φ (.not a)):=by
 refine PE.imp (IV h) λσ H Q hq=>?_;obtain⟨R,τ,ρ,d,Si,ev,hq⟩:=hq;obtain⟨b,eb,ev⟩:=aG ev;obtain⟨x,ex,eb⟩:=aG eb;cases ev;refine tD.intro Si ex λv H1 e1 r1=>?_;cases x<;>simp[gW]at eb;cases eb;exact⟨_,r1.yK,hq _ H1 e1 .bl⟩
theorem Ib{a:CE}{e:Expr}(h:PT X e (gy X F Φ a)):PT X (.UnaryOp .Not e pos) (gy X F Φ (.not a)):=by
 refine PT.imp (II h) λσ H Q hq=>?_;obtain⟨R,τ,ρ,b,Si,ev,hq⟩:=hq;unfold y6 at ev;obtain⟨d,ed,ev⟩:=aG ev;obtain⟨c,ec,ed⟩:=aG ed;cases ed;have Vm:b=!c:=by
  have e2:ok (!c)=ok b:=ev;exact(Except.ok.inj (aax e2)).symm
 subst Vm;exact⟨R,τ,ρ,c,Si,ec,λH' e=>hq H' e⟩
theorem Io{a:CE}{e:Expr}(h:PE X e (tD X F Φ a)):PE X (.UnaryOp .USub e pos) (tD X F Φ (.neg a)):=by
 refine PE.imp (Ny HS h) λσ H Q hq=>?_;obtain⟨R,τ,ρ,d,Si,ev,hq⟩:=hq;obtain⟨x,ex,ev⟩:=aG ev;refine tD.intro Si ex λv H1 e1 r1=>?_;cases x<;>simp[EI]at ev;cases ev;exact⟨_,r1.isInt,hq _ H1 e1 .int⟩
theorem Gb{c:CE}(hq:tD X F Φ (.and [c]) σ H Q):tD X F Φ c σ H Q:=by
 obtain⟨R,τ,ρ,d,Si,ev,hq⟩:=hq;obtain⟨b,eb,ev⟩:=aG ev;obtain⟨x,ex,eb⟩:=aG eb;cases ev;refine tD.intro Si ex λv H1 e1 r1=>?_;cases x<;>simp[gW]at eb;cases eb;rw[r1.yK];exact hq _ H1 e1 .bl
theorem Jd{c:CE}(hq:tD X F Φ (.or [c]) σ H Q):tD X F Φ c σ H Q:=by
 obtain⟨R,τ,ρ,d,Si,ev,hq⟩:=hq;obtain⟨b,eb,ev⟩:=aG ev;obtain⟨x,ex,eb⟩:=aG eb;cases ev;refine tD.intro Si ex λv H1 e1 r1=>?_;cases x<;>simp[gW]at eb;cases eb;rw[r1.yK];exact hq _ H1 e1 .bl
theorem CO{c:CE}{Q:Bool->Hp->Prop}(hq:gy X F Φ (.and [c]) σ H Q):gy X F Φ c σ H Q:=by
 obtain⟨R,τ,ρ,d,Si,ev,hq⟩:=hq;unfold y6 at ev;obtain⟨b,eb,ev⟩:=aG ev;obtain⟨x,ex,eb⟩:=aG eb;cases eb;cases ev;exact⟨R,τ,ρ,_,Si,ex,hq⟩
theorem Ey{c:CE}{Q:Bool->Hp->Prop}(hq:gy X F Φ (.or [c]) σ H Q):gy X F Φ c σ H Q:=by
 obtain⟨R,τ,ρ,d,Si,ev,hq⟩:=hq;unfold y6 at ev;obtain⟨b,eb,ev⟩:=aG ev;obtain⟨x,ex,eb⟩:=aG eb;cases eb;cases ev;exact⟨R,τ,ρ,_,Si,ex,hq⟩
theorem CP{c:CE}(hq:tD X F Φ (.and (c::c'::cs)) σ H Q):GG (tD X F Φ c) (tD X F Φ (.and (c'::cs))) σ H Q:=by
 obtain⟨R,τ,ρ,d,Si,ev,hq⟩:=hq;obtain⟨b,eb,ev⟩:=aG ev;obtain⟨x,ex,eb⟩:=aG eb;refine tD.intro Si ex λv H1 e1 r1=>?_;cases x<;>simp[gW]at eb;cases eb;refine⟨_,r1.yK,?_⟩;cases b with
 |true =>
  rw[if_pos rfl]at ev ⊢;exact tD.intro (Si.go e1) ev λv H' e r=>hq v H' (e1.trans e) ((r.old e1).mono λi hi=>aau _ hi)
 |false =>
  rw[if_neg (by simp)]at ev ⊢;cases ev;exact hq _ H1 e1 .bl
theorem Ez{c:CE}(hq:tD X F Φ (.or (c::c'::cs)) σ H Q):MJ (tD X F Φ c) (tD X F Φ (.or (c'::cs))) σ H Q:=by
 obtain⟨R,τ,ρ,d,Si,ev,hq⟩:=hq;obtain⟨b,eb,ev⟩:=aG ev;obtain⟨x,ex,eb⟩:=aG eb;refine tD.intro Si ex λv H1 e1 r1=>?_;cases x<;>simp[gW]at eb;cases eb;refine⟨_,r1.yK,?_⟩;cases b with
 |false =>
  rw[if_neg (by simp)]at ev ⊢;exact tD.intro (Si.go e1) ev λv H' e r=>hq v H' (e1.trans e) ((r.old e1).mono λi hi=>aau _ hi)
 |true =>
  rw[if_pos rfl]at ev ⊢;cases ev;exact hq _ H1 e1 .bl
theorem zu{c:CE}{Q:Bool->Hp->Prop}(hq:gy X F Φ (.and (c::c'::cs)) σ H Q):MP (gy X F Φ c) (gy X F Φ (.and (c'::cs))) σ H Q:=by
 obtain⟨R,τ,ρ,d,Si,ev,hq⟩:=hq;unfold y6 at ev;obtain⟨x,ex,et⟩:=aG ev;obtain⟨b,eb,ev⟩:=aG ex;refine⟨R,τ,ρ,b,Si,eb,λH1 e1=>?_⟩;cases b with
 |true =>
  rw[if_pos rfl]at ev ⊢;exact⟨R,τ,ρ,d,Si.go e1,by unfold y6;rw[show bw Φ (.and (c'::cs)) ρ=ok x from ev];exact et,λH' e=>hq H' (e1.trans e)⟩
 |false =>
  rw[if_neg (by simp)]at ev ⊢;cases ev;cases et;exact hq H1 e1
theorem AY{c:CE}{Q:Bool->Hp->Prop}(hq:gy X F Φ (.or (c::c'::cs)) σ H Q):V2 (gy X F Φ c) (gy X F Φ (.or (c'::cs))) σ H Q:=by
 obtain⟨R,τ,ρ,d,Si,ev,hq⟩:=hq;unfold y6 at ev;obtain⟨x,ex,et⟩:=aG ev;obtain⟨b,eb,ev⟩:=aG ex;refine⟨R,τ,ρ,b,Si,eb,λH1 e1=>?_⟩;cases b with
 |false =>
  rw[if_neg (by simp)]at ev ⊢;exact⟨R,τ,ρ,d,Si.go e1,by unfold y6;rw[show bw Φ (.or (c'::cs)) ρ=ok x from ev];exact et,λH' e=>hq H' (e1.trans e)⟩
 |true =>
  rw[if_pos rfl]at ev ⊢;cases ev;cases et;exact hq H1 e1
theorem jX{Q:ae->Hp->Prop}(hq:si X F Φ [] σ H Q):HX σ H Q:=by
 obtain⟨R,τ,ρ,d,Si,ev,hq⟩:=hq;cases ev;exact hq _ H (aJ.refl H) .nil
theorem gh{c:CE}{Q:ae->Hp->Prop}(hq:si X F Φ (c::cs) σ H Q):Ad (tD X F Φ c) (si X F Φ cs) σ H Q:=by
 obtain⟨R,τ,ρ,d,Si,ev,hq⟩:=hq;obtain⟨x,ex,ev⟩:=aG ev;obtain⟨xs,cK,ev⟩:=aG ev;cases ev;refine tD.intro Si ex λv H1 e1 r1=>⟨R,τ,ρ,xs,Si.go e1,cK,λvs H2 e2 r2=>hq _ H2 (e1.trans e2) (cg.cons e1 e2 (r1.mono λi hi=>aaI _ hi) (r2.mono λi hi=>aau _ hi))⟩
theorem bP{c:CE}{e:Expr}(h:cD S c e=true)(es:av)(env:Env):starEach (e::es) env=(false,eval e env)::starEach es env:=by
 cases e<;>first|rfl | (cases c<;>exact(aah h).elim)
theorem vM:∀{cs:aF} {es:av},bS S cs es=true->∀(pos:Pos) (env:Env),(backTo pos (starEach es env)).any (·.1)=false
 |[],[],_,_,_=>rfl
 |[],_::_,h,_,_=>by exact(aah h).elim
 |_::_,[],h,_,_=>by exact(aah h).elim
 |c::cs,e::es,h,pos,env=>by
  replace h:=aK h;rw[bP h.1];have:=vM h.2 pos env;unfold backTo at this ⊢;simp only[List.map_cons,List.any_cons,Bool.false_or];exact this
theorem pR{c:CE}{e:Expr}(h:cD S c e=true):mK e:=by
 intro o i;cases e<;>first|rfl | (cases c<;>exact(aah h).elim)
theorem Ao{j:Nat}:PE X (.Constant .none j pos) (tD X F Φ .cj):=PE.imp IW λσ H Q bL=>by obtain⟨R,τ,ρ,d,Si,ev,hq⟩:=bL;cases ev;exact hq _ H (aJ.refl H) .cj
theorem GN{b:Bool}{j:Nat}:PE X (.Constant (.bool b) j pos) (tD X F Φ (.bl b)):=PE.imp NB λσ H Q bL=>by obtain⟨R,τ,ρ,d,Si,ev,hq⟩:=bL;cases ev;exact hq _ H (aJ.refl H) .bl
theorem Ap{i:Int}{j:Nat}:PE X (.Constant (.int i) j pos) (tD X F Φ (.int i)):=PE.imp IY λσ H Q bL=>by obtain⟨R,τ,ρ,d,Si,ev,hq⟩:=bL;cases ev;exact hq _ H (aJ.refl H) .int
theorem JO(L:Lk X S k Φ){y:Expr}{p JS:Pos}(g1:gz S.sc ("range" : Str)=true)(g2:("range" : Str)∈S.bl)(pa:PA X [y] (si X F Φ es))(yQ:bS S es [y]=true)
  (pins:aj) (s:Shared) (σ:St) (H:Hp) (R:ai) (τ:Addr->Option bj) (ρ:a_) (xs items:ab) (I:Inv X pins σ H s) (Si:SI X F R τ ρ σ H) (cK:cu Φ es ρ=ok xs) (vF:df Φ .kZ xs=ok items) (Rr:It->Hp->Prop)
  (hR:∀J H2,aJ H H2->Yl X.K J (kU X F τ (caps++cW es) H2) H2 items->Rr J H2) :
  wpAny (model X.prog X.w) X.A (eval (.Call (.Name ("range" : Str) p) [y] [] JS) X.env) (λv s1=>wpAny (model X.prog X.w) X.A (pyIter v) (zF X pins σ target Rr) X.xe s1) X.xe s:=by
 match es,yQ with
 |[c],yQ =>
  replace yQ:=aK yQ;refine pf (L.gl g1) (L.bl _ g2) pa (bP yQ.1 _ _) pins s σ H Rr I ⟨R,τ,ρ,xs,Si,cK,λvs H1 e1 rv=>?_⟩;obtain⟨τt,fr,rs⟩:=rv;obtain⟨n,rfl⟩:∃n,xs=[.int n]:=by
   cases xs with
   |nil=>cases vF
   |cons x t=>cases x<;>first | (cases vF;done) | (cases t with|nil=>exact⟨_,rfl⟩|cons _ _=>cases vF)
  cases rs.ints1
  ·obtain⟨⟨c1,c2⟩,vF⟩:=oj vF;subst vF;have nE:(cL:Int)=1000000:=rfl;refine⟨n,rfl,by left,by left,hR _ H1 e1 ?_⟩;have:=HH (X:=X) (lo:=0) (n:=n.toNat) (R:=kU X F τ (caps++cW [c]) H1) (H1:=H1);simpa using this
 |[],yQ=>exact(aah yQ).elim
 |_::_::_,yQ=>exact(aah (aK yQ).2).elim
theorem JN(L:Lk X S k Φ){c:CE}{y:Expr}(pe:PE X y (tD X F Φ c))
  (pins:aj) (s:Shared) (σ:St) (H:Hp) (R:ai) (τ:Addr->Option bj) (ρ:a_) (xs items:ab) (I:Inv X pins σ H s) (Si:SI X F R τ ρ σ H) (cK:cu Φ [c] ρ=ok xs) (vF:df Φ .seq xs=ok items) (Rr:It->Hp->Prop)
  (hR:∀J H2,aJ H H2->Yl X.K J (kU X F τ (caps++cW [c]) H2) H2 items->Rr J H2) :
  wpAny (model X.prog X.w) X.A (eval y X.env) (λv s1=>wpAny (model X.prog X.w) X.A (pyIter v) (zF X pins σ target Rr) X.xe s1) X.xe s:=by
 obtain⟨x,ex,cK⟩:=aG cK;obtain⟨xs',Vi,cK⟩:=aG cK;cases Vi;cases cK;have W0:∀i∈g9 c,i∈caps++cW [c]:=λi hi=>aau _ (aaI _ hi);cases x with
 |tup ds =>
  cases vF;refine AJ pe pins s σ H Rr I (tD.intro Si ex λv H1 e1 rv=>?_);obtain⟨τt,fr,rp⟩:=rv;cases rp with
  | @tup _ p ys _ hp rs=>exact⟨p,rfl,⟨ys,hp⟩,hR _ H1 e1 (HG (q:=[]) hp (aA.ip (λ_ _ h=>h) (uT Si fr W0) rs _ _))⟩
 |lst f ds =>
  cases vF;refine wK pe pins s σ H Rr I (tD.intro Si ex λv H1 e1 rv=>?_);obtain⟨τt,fr,rp⟩:=rv;cases rp with
  | @lst _ p ys _ _ hp rs=>exact⟨p,rfl,⟨ys,hp.sq⟩,hR _ H1 e1 (Ds (q:=[]) hp.sq (aA.ip (λ_ _ h=>h) (uT Si fr W0) rs _ _))⟩
 |_=>cases vF
theorem Mp{xs:ab}{J:It}(Si:SI X F R τ ρ σ H)(hs:∀i∈fv,i∈fv')(r:cg X.K (gP X F) R τ fv H H2 vs xs)(y:Hy X.K J H2 vs xs items):
  Yl X.K J (kU X F τ fv' H2) H2 items:=by
 obtain⟨τt,fr,rs⟩:=r;have at':∀H',aJ H2 H'->aA (aU X.K H') (nd X.K (kU X F τ fv' H2) (λ_=>False) (λ_=>none) H') [] 0 vs (aB aW xs):=λH' e =>
  (aA.ip (T':=aU X.K H2) (λ_ _ h=>h) (uT Si fr hs) rs [] 0).imp (λ_ _ h=>aU.same e h) λ_ _ _ _ h=>nd.same e h
 have st:∀H',aJ H2 H'->pY X.K H2 vs xs H':=λH' e=>⟨⟨_,at' H2 (aJ.refl H2),λp o _ h=>e p o h⟩,λ_ _ h=>aU.same e h⟩
 exact⟨λi H' e hi=>y.go i H' _ (st H' e) (at' H' e) hi,λi H' x lP e hi hy=>y.uv i H' _ x lP (st H' e) (at' H' e) hi hy,λi H' e hi=>y.stop i H' _ (st H' e) (at' H' e) hi⟩
theorem JP(L:Lk X S k Φ){p:Nat}{y:Expr}(hp:S.px.pi p S.sc S.bl y=some args)(ht:(decide (1100<=p)||fQ target)=true)(hs:l9 X F Φ es args)
  (pins:aj) (s:Shared) (σ:St) (H:Hp) (R:ai) (τ:Addr->Option bj) (ρ:a_) (xs items:ab) (I:Inv X pins σ H s) (Si:SI X F R τ ρ σ H) (cK:cu Φ es ρ=ok xs) (vF:df Φ (.b9 p) xs=ok items) (Rr:It->Hp->Prop)
  (hR:∀J H2,aJ H H2->Yl X.K J (kU X F τ (caps++cW es) H2) H2 items->Rr J H2) :
  wpAny (model X.prog X.w) X.A (eval y X.env) (λv s1=>wpAny (model X.prog X.w) X.A (pyIter v) (zF X pins σ target Rr) X.xe s1) X.xe s:=by
 obtain⟨d,ed,ei⟩:=aG (show bd (Φ p xs) i_=ok items from vF);exact L.pr.i X _ _ k L.pX p y args hp F es target ht hs pins s σ H R τ ρ xs d items I Si cK ed ei Rr λJ H2 vs e2 r yz=>hR J H2 e2 (Mp Si (λi hi=>by simp[hi]) r yz)
theorem uc{S':Sx}{ifs:av}(h3:bK.length<=1)(h4:bS S' bK ifs=true)
  (vt:∀(X':Cx) (F':ai),Lk X' S' k Φ->∀(j:Nat) (c:CE) (e:Expr),bK[j]?=some c->ifs[j]?=some e->PE X' e (tD X' F' Φ c)/\PT X' e (gy X' F' Φ c)) :
  (bK=[]/\ifs=[])\/∃c e,bK=[c]/\ifs=[e]/\∀(X':Cx) (F':ai),Lk X' S' k Φ->PT X' e (gy X' F' Φ c):=by
 cases bK with
 |nil=>cases ifs with
  |nil=>exact .inl ⟨rfl,rfl⟩
  |cons _ _=>exact(aah h4).elim
 |cons c cs=>cases cs with
  |cons _ _=>simp at h3
  |nil=>cases ifs with
   |nil=>exact(aah h4).elim
   |cons e ifs=>cases ifs with
    |cons _ _=>exact(aah (aK h4).2).elim
    |nil=>exact .inr ⟨c,e,rfl,rfl,λX' F' L'=>(vt X' F' L' 0 c e rfl rfl).2⟩
def P4(S:Sx)(ik:IK)(es:aF)(target iter:Expr):Bool:=match ik with
 |.kZ=>bu (dP iter) λw=>decide (w.1=("range" : Str))&&gz S.sc w.1&&decide (w.1∈S.bl)&&bu (one w.2) λy=>bS S es [y]
 |.seq=>bS S es [iter]
 |.b9 p=>QL iter&&(decide (1100<=p)||fQ target)&&bu (S.px.pi p S.sc S.bl iter) λxs=>bS S es xs
theorem By(L:Lk X S k Φ){ik:IK}(yQ:∀l,bS S es l=true->PA X l (si X F Φ es))
  (vt:∀l,bS S es l=true->∀(j:Nat) (c:CE) (e:Expr),es[j]?=some c->l[j]?=some e->PE X e (tD X F Φ c)/\PT X e (gy X F Φ c)) (Y5:∀l,bS S es l=true->l9 X F Φ es l) (h6:P4 S ik es target iter=true) :
  ∀(pins:aj) (s:Shared) (σ:St) (H:Hp) (R:ai) (τ:Addr->Option bj) (ρ:a_) (xs items:ab),Inv X pins σ H s->SI X F R τ ρ σ H->cu Φ es ρ=ok xs->df Φ ik xs=ok items->∀(Rr:It->Hp->Prop),
   (∀J H2,aJ H H2->Yl X.K J (kU X F τ (caps++cW es) H2) H2 items->Rr J H2) ->
   wpAny (model X.prog X.w) X.A (eval iter X.env) (λv s1=>wpAny (model X.prog X.w) X.A (pyIter v) (zF X pins σ target Rr) X.xe s1) X.xe s:=by
 cases ik with
 |kZ =>
  obtain⟨⟨x,as⟩,hv,h6⟩:=bx h6;obtain⟨p,JS,rfl⟩:=cO hv;obtain⟨Kn,g3⟩:=aK h6;obtain⟨Km,g2⟩:=aK Kn;obtain⟨Kl,g1⟩:=aK Km;obtain rfl:x=_:=aac Kl;obtain⟨y,hu,FD⟩:=bx g3;obtain rfl:as=[y]:=bY hu;exact JO L g1 (aac g2) (yQ _ FD) FD
 |seq =>
  have Uq:=vt _ h6;cases es with
  |nil=>exact(aah h6).elim
  |cons c cs=>cases cs with
   |cons _ _=>exact(aah (aK h6).2).elim
   |nil=>exact JN L (Uq 0 c _ rfl rfl).1
 |b9 p =>
  obtain⟨h6,g3⟩:=aK h6;obtain⟨xs,ha,FD⟩:=bx g3;exact JP L ha (aK h6).2 (Y5 _ FD)
mutual
theorem bB:∀(c:CE) (X:Cx) (S:Sx) (F:ai) (L:Lk X S k Φ) (e:Expr),cD S c e=true->PE X e (tD X F Φ c)/\PT X e (gy X F Φ c)
 |.b9 p cs,X,S,F,L,e,h=>by
  obtain⟨args,ha,hb⟩:=bx (aK h).2;exact L.pr.e X _ _ k L.pX p e args ha F cs (iQ cs X S F L args hb)
 |.cj,X,S,F,L,e,h=>by
  obtain⟨c,hv,gZ⟩:=bx h;obtain⟨j,p,rfl⟩:=zW hv;obtain rfl:=yH gZ;exact⟨Ao,cE Ao λ_=>rfl⟩
 |.bl b,X,S,F,L,e,h=>by
  obtain⟨c,hv,gZ⟩:=bx h;obtain⟨j,p,rfl⟩:=zW hv;obtain rfl:=BB gZ;exact⟨GN,cE GN λ_=>rfl⟩
 |.int i,X,S,F,L,e,h=>by
  obtain⟨c,hv,gZ⟩:=bx h;obtain⟨j,p,rfl⟩:=zW hv;obtain rfl:=yI gZ;exact⟨Ap,cE Ap λ_=>rfl⟩
 |.v i,X,S,F,L,e,h=>by
  obtain⟨x,hv,h'⟩:=bx h;obtain⟨p,rfl⟩:=kP hv;have:=Sn (F:=F) L h;exact⟨this,cE this λ_=>rfl⟩
 |.glo x i,X,S,F,L,e,h=>by
  obtain⟨y,hv,gZ⟩:=bx h;obtain⟨pos,rfl⟩:=kP hv;obtain⟨l4,h3⟩:=aK gZ;obtain⟨oJ,h2⟩:=aK l4;obtain⟨BX,h1⟩:=aK oJ;obtain rfl:=aac BX;obtain⟨u,hm,r⟩:=L.cs _ _ (aac h2);have this:PE X (.Name y pos) (tD X F Φ (.glo y i)):=PE.imp (wQ (v:=.int i) (L.gl h1) hm r (lE h3)) λσ H Q bL=>by obtain⟨R,τ,ρ,d,Si,ev,hq⟩:=bL;cases ev;exact hq _ H (aJ.refl H) .int
  exact⟨this,cE this λ_=>rfl⟩
 |.glt x zs,X,S,F,L,e,h=>by
  obtain⟨y,hv,gZ⟩:=bx h;obtain⟨pos,rfl⟩:=kP hv;obtain⟨l4,h3⟩:=aK gZ;obtain⟨oJ,h2⟩:=aK l4;obtain⟨BX,h1⟩:=aK oJ;obtain rfl:=aac BX;obtain⟨u,hm,a,o,aI,n,rfl,q1,q2,q3,q4,q5⟩:=L.cs _ _ (aac h2);have this:PE X (.Name y pos) (tD X F Φ (.glt y zs)):=PE.imp (wQ (v:=.ref a) (L.gl h1) hm rfl (lE h3)) λσ H Q bL=>by
   obtain⟨R,τ,ρ,d,Si,ev,hq⟩:=bL;cases ev;exact hq _ H (aJ.refl H) ⟨λ_=>none,λ_ _ h=>by simp at h,.tup (.inr ⟨o,aI,n,q1,q2,q3,q4,q5⟩) (dW zs)⟩
  exact⟨this,cE this λ_=>rfl⟩
 |.bin op a b,X,S,F,L,e,h=>by
  obtain⟨⟨l,o,r⟩,hv,gZ⟩:=bx h;obtain⟨pos,rfl⟩:=vY hv;obtain⟨l4,h2⟩:=aK gZ;obtain⟨oJ,h1⟩:=aK l4;obtain rfl:o=NM op:=aac oJ;have:=Ir (F:=F) (pos:=pos) L (op:=op) (bB a X S F L _ h1).1 (bB b X S F L _ h2).1;exact⟨this,cE this λ_=>rfl⟩
 |.neg a,X,S,F,L,e,h=>by
  obtain⟨⟨o,x⟩,hv,gZ⟩:=bx h;obtain⟨pos,rfl⟩:=zU hv;obtain⟨l4,h1⟩:=aK gZ;obtain rfl:o=.USub:=aac l4;have:=Io (F:=F) (Φ:=Φ) (pos:=pos) (bB a X S F L _ h1).1;exact⟨this,cE this λ_=>rfl⟩
 |.not a,X,S,F,L,e,h=>by
  obtain⟨⟨o,x⟩,hv,gZ⟩:=bx h;obtain⟨pos,rfl⟩:=zU hv;obtain⟨l4,h1⟩:=aK gZ;obtain rfl:o=.Not:=aac l4;exact⟨Im (bB a X S F L _ h1).1,Ib (bB a X S F L _ h1).2⟩
 |.and cs,X,S,F,L,e,h=>by
  obtain⟨⟨o,vs⟩,hv,gZ⟩:=bx h;obtain⟨pos,rfl⟩:=rY hv;obtain⟨l4,h1⟩:=aK gZ;obtain rfl:o=.And:=aac l4;exact⟨(kT cs X S F L vs h1 pos).1,(kT cs X S F L vs h1 pos).2.pt⟩
 |.or cs,X,S,F,L,e,h=>by
  obtain⟨⟨o,vs⟩,hv,gZ⟩:=bx h;obtain⟨pos,rfl⟩:=rY hv;obtain⟨l4,h1⟩:=aK gZ;obtain rfl:o=.Or:=aac l4;exact⟨(mV cs X S F L vs h1 pos).1,(mV cs X S F L vs h1 pos).2.pt⟩
 |.cmp op a b,X,S,F,L,e,h=>by
  obtain⟨⟨l,os,rs⟩,hv,gZ⟩:=bx h;obtain⟨pos,rfl⟩:=vX hv;obtain⟨l4,h2⟩:=aK gZ;obtain⟨oJ,h1⟩:=aK l4;obtain⟨r,hr,U7⟩:=bx h2;obtain⟨Pf,h3⟩:=aK U7;obtain rfl:os=[Th op]:=aac oJ;obtain rfl:rs=[r]:=bY hr;exact⟨PE.imp (wR (A1 L op) (bB a X S F L _ h1).1 (bB b X S F L _ Pf).1 (A_ h3)) λ_ _ _ oJ=>uf oJ,PT.imp (wD (A1 L op) (bB a X S F L _ h1).1 (bB b X S F L _ Pf).1 (A_ h3)) λ_ _ _ oJ=>ym oJ⟩
 |.rN a t,X,S,F,L,e,h=>by
  obtain⟨⟨f,as⟩,hv,gZ⟩:=bx h;obtain⟨p,pos,rfl⟩:=cO hv;obtain⟨l4,h5⟩:=aK gZ;obtain⟨oJ,h2⟩:=aK l4;obtain⟨BX,h1⟩:=aK oJ;obtain rfl:f=_:=aac BX;obtain⟨⟨e,g⟩,hw,FC⟩:=bx h5;obtain rfl:as=[e,g]:=fN hw;obtain⟨Pb,h6⟩:=aK FC;obtain⟨x,hn,Kn⟩:=bx h6;obtain⟨p',rfl⟩:∃p,g=.Name x p:=kP hn;obtain⟨Km,h4⟩:=aK Kn;obtain⟨Kl,h3⟩:=aK Km;obtain rfl:=aac Kl;have:=Iq (F:=F) (p:=p) (p':=p') (pos:=pos) L h1 (aac h2) h3 (aac h4) (bB a X S F L _ Pb).1 (λes=>bP Pb es _);exact⟨this,cE this λ_=>rfl⟩
 |.call f cs,X,S,F,L,e,h=>by
  obtain⟨⟨x,as⟩,hv,gZ⟩:=bx h;obtain⟨p,pos,rfl⟩:=cO hv;obtain⟨l4,h4⟩:=aK gZ;obtain⟨oJ,h3⟩:=aK l4;obtain⟨h1,h2⟩:=aK oJ;obtain⟨⟨y,ys⟩,hu,qJ⟩:=bx h4;obtain rfl:as=y::ys:=zY hu;cases cs with
  |nil=>exact(aah qJ).elim
  |cons c Ho =>
   have Pd:=aK qJ;have:=D3 (F:=F) (p:=p) (pos:=pos) L (aac h1) h2 h3 (fc (c::Ho) X S F L (y::ys) qJ) (λes=>bP Pd.1 es _) (λpos=>vM Pd.2 pos _);exact⟨this,cE this λ_=>rfl⟩
 |.bf f cs,X,S,F,L,e,h=>by
  obtain⟨⟨x,as⟩,hv,gZ⟩:=bx h;obtain⟨p,pos,rfl⟩:=cO hv;obtain⟨l4,h4⟩:=aK gZ;obtain⟨oJ,h3⟩:=aK l4;obtain⟨BX,h2⟩:=aK oJ;obtain rfl:x=_:=aac BX;obtain⟨⟨y,ys⟩,hu,qJ⟩:=bx h4;obtain rfl:as=y::ys:=zY hu;cases cs with
  |nil=>exact(aah qJ).elim
  |cons c Ho =>
   have Pd:=aK qJ;have:=M4 (F:=F) (p:=p) (pos:=pos) L h2 (aac h3) (fc (c::Ho) X S F L (y::ys) qJ) (λes=>bP Pd.1 es _) (λpos=>vM Pd.2 pos _);exact⟨this,cE this λ_=>rfl⟩
 |.j9 a,X,S,F,L,e,h=>by
  obtain⟨⟨x,as⟩,hv,gZ⟩:=bx h;obtain⟨p,pos,rfl⟩:=cO hv;obtain⟨l4,h4⟩:=aK gZ;obtain⟨oJ,h2⟩:=aK l4;obtain⟨BX,h1⟩:=aK oJ;obtain rfl:x=_:=aac BX;obtain⟨y,hu,qJ⟩:=bx h4;obtain rfl:as=[y]:=bY hu;obtain⟨⟨z,bs⟩,hw,h4_3⟩:=bx qJ;obtain⟨p',pos',rfl⟩:=cO hw;obtain⟨U3,h5⟩:=aK h4_3;obtain⟨U2,h6⟩:=aK U3;obtain⟨U1,h3⟩:=aK U2;obtain rfl:z=_:=aac U1;obtain⟨u,Ud,FC⟩:=bx h5;obtain rfl:bs=[u]:=bY Ud;have:=DZ (F:=F) (p:=p) (p':=p') (pos:=pos) (pos':=pos') L h1 (aac h2) h3 (aac h6) (bB a X S F L _ FC).1 (λes=>bP FC es _);exact⟨this,cE this λ_=>rfl⟩
 |.ix a b,X,S,F,L,e,h=>by
  obtain⟨⟨l,r⟩,hv,gZ⟩:=bx h;obtain⟨pos,rfl⟩:=jU hv;obtain⟨h1,h2⟩:=aK gZ;have:=M3 (F:=F) (pos:=pos) L (bB a X S F L _ h1).1 (bB b X S F L _ h2).1 (pR h2);exact⟨this,cE this λ_=>rfl⟩
 |.tup cs,X,S,F,L,e,h=>by
  obtain⟨es,hv,gZ⟩:=bx h;obtain⟨n,pos,rfl⟩:=iM hv;obtain⟨h1,h2⟩:=aK gZ;have:=Il (F:=F) (n:=n) (pos:=pos) (fc cs X S F L es h1) (aac h2);exact⟨this,cE this λ_=>rfl⟩
 |.lst cs,X,S,F,L,e,h=>by
  obtain⟨es,hv,gZ⟩:=bx h;obtain⟨pos,rfl⟩:=vW hv;obtain⟨h1,h2⟩:=aK gZ;have:=Ip (F:=F) (pos:=pos) (fc cs X S F L es h1) (aac h2);exact⟨this,cE this λ_=>rfl⟩
 |.comp n t caps ik es bK elt,X,S,F,L,e,h=>by
  obtain⟨⟨jc,gens,sc⟩,hv,gZ⟩:=bx h;obtain⟨pos,rfl⟩:=zV hv;obtain⟨⟨target,iter,ifs,a⟩,hg,l4⟩:=bx gZ;obtain rfl:gens=_:=bY hg;obtain⟨oJ,h6⟩:=aK l4;obtain⟨BX,h5⟩:=aK oJ;obtain⟨ZE,h4⟩:=aK BX;obtain⟨ZD,h3⟩:=aK ZE;obtain⟨ZC,h2⟩:=aK ZD;obtain⟨ZA,h1⟩:=aK ZC;obtain rfl:a=0:=aac ZA;have vt:=λ(X':Cx) (F':ai) (L':Lk X' (S.inner target caps sc) k Φ)=>ia bK X' _ F' L' ifs h4;have this:PE X (.ListComp jc [⟨target,iter,ifs,0⟩] sc pos) (tD X F Φ (.comp n t caps ik es bK elt)) :=
   D0 L (pQ h1) h2 (λX' F' L'=>(bB elt X' _ F' L' jc h5).1) (uc (aac h3) h4 vt) (By L (λl=>fc es X S F L l) (λl=>ia es X S F L l) (λl=>iQ es X S F L l) h6)
  exact⟨this,cE this λ_=>rfl⟩
theorem ia:∀(cs:aF) (X:Cx) (S:Sx) (F:ai) (L:Lk X S k Φ) (es:av),bS S cs es=true->∀(j:Nat) (c:CE) (e:Expr),cs[j]?=some c->es[j]?=some e->PE X e (tD X F Φ c)/\PT X e (gy X F Φ c)
 |[],X,S,F,L,_,_=>λj c e h _=>by simp at h
 |_::_,X,S,F,L,[],h=>by exact(aah h).elim
 |c::cs,X,S,F,L,e::es,h=>λj c' e' hc he=>by
  replace h:=aK h;cases j with
  |zero=>simp at hc he;subst hc he;exact bB c X S F L e h.1
  |succ j=>exact ia cs X S F L es h.2 j c' e' (by simpa using hc) (by simpa using he)
theorem iQ:∀(cs:aF) (X:Cx) (S:Sx) (F:ai) (L:Lk X S k Φ) (es:av),bS S cs es=true->l9 X F Φ cs es
 |[],X,S,F,L,[],_=>trivial
 |[],X,S,F,L,_::_,h=>by exact(aah h).elim
 |_::_,X,S,F,L,[],h=>by exact(aah h).elim
 |c::cs,X,S,F,L,e::es,h=>by
  replace h:=aK h;exact⟨(bB c X S F L e h.1).1,λl=>bP h.1 l _,pR h.1,iQ cs X S F L es h.2⟩
theorem fc:∀(cs:aF) (X:Cx) (S:Sx) (F:ai) (L:Lk X S k Φ) (es:av),bS S cs es=true->PA X es (si X F Φ cs)
 |[],X,S,F,L,[],_=>PA.imp dR λ_ _ _ h=>jX h
 |[],X,S,F,L,_::_,h=>by exact(aah h).elim
 |_::_,X,S,F,L,[],h=>by exact(aah h).elim
 |c::cs,X,S,F,L,e::es,h=>by
  replace h:=aK h;exact PA.imp (cA (bB c X S F L e h.1).1 (fc cs X S F L es h.2) (bP h.1 es _)) λ_ _ _ h=>gh h
theorem kT:∀(cs:aF) (X:Cx) (S:Sx) (F:ai) (L:Lk X S k Φ) (es:av),bS S cs es=true->∀pos,PE X (.BoolOp .And es pos) (tD X F Φ (.and cs))/\PW X (.BoolOp .And es pos) (gy X F Φ (.and cs))
 |[],X,S,F,L,_,_,pos=>⟨λ_ _ _ _ _ _ ⟨_,_,_,_,_,ev,_⟩=>(by cases ev),λ_ _ _ _ _ _ _ bL=>by obtain⟨_,_,_,_,_,ev,_⟩:=bL;cases ev⟩
 |[c],X,S,F,L,[e],h,pos=>by
  replace h:=aK h;exact⟨PE.imp (AQ (bB c X S F L e h.1).1) λ_ _ _ h=>Gb h,PW.imp (Ei (bB c X S F L e h.1).2) λ_ _ _ h=>CO h⟩
 |[_],X,S,F,L,[],h,_=>by exact(aah h).elim
 |[_],X,S,F,L,_::_::_,h,_=>by exact(aah (aK h).2).elim
 |_::_::_,X,S,F,L,[],h,_=>by exact(aah h).elim
 |_::_::_,X,S,F,L,[_],h,_=>by exact(aah (aK h).2).elim
 |c::c'::cs,X,S,F,L,e::e'::es,h,pos=>by
  replace h:=aK h;have r:=kT (c'::cs) X S F L (e'::es) h.2 pos;exact⟨PE.imp (IZ (bB c X S F L e h.1).1 r.1) λ_ _ _ h=>CP h,PW.imp (IG (bB c X S F L e h.1).2 r.2) λ_ _ _ h=>zu h⟩
theorem mV:∀(cs:aF) (X:Cx) (S:Sx) (F:ai) (L:Lk X S k Φ) (es:av),bS S cs es=true->∀pos,PE X (.BoolOp .Or es pos) (tD X F Φ (.or cs))/\PW X (.BoolOp .Or es pos) (gy X F Φ (.or cs))
 |[],X,S,F,L,_,_,pos=>⟨λ_ _ _ _ _ _ ⟨_,_,_,_,_,ev,_⟩=>(by cases ev),λ_ _ _ _ _ _ _ bL=>by obtain⟨_,_,_,_,_,ev,_⟩:=bL;cases ev⟩
 |[c],X,S,F,L,[e],h,pos=>by
  replace h:=aK h;exact⟨PE.imp (AQ (bB c X S F L e h.1).1) λ_ _ _ h=>Jd h,PW.imp (IF (bB c X S F L e h.1).2) λ_ _ _ h=>Ey h⟩
 |[_],X,S,F,L,[],h,_=>by exact(aah h).elim
 |[_],X,S,F,L,_::_::_,h,_=>by exact(aah (aK h).2).elim
 |_::_::_,X,S,F,L,[],h,_=>by exact(aah h).elim
 |_::_::_,X,S,F,L,[_],h,_=>by exact(aah (aK h).2).elim
 |c::c'::cs,X,S,F,L,e::e'::es,h,pos=>by
  replace h:=aK h;have r:=mV (c'::cs) X S F L (e'::es) h.2 pos;exact⟨PE.imp (Nz (bB c X S F L e h.1).1 r.1) λ_ _ _ h=>Ez h,PW.imp (Nn (bB c X S F L e h.1).2 r.2) λ_ _ _ h=>AY h⟩
end
theorem h_(L:Lk X S k Φ)(c:CE)(e:Expr)(h:cD S c e=true):PE X e (tD X F Φ c)/\PT X e (gy X F Φ c):=bB c X S F L e h
theorem j4(L:Lk X S k Φ)(cs:aF)(es:av)(h:bS S cs es=true):l9 X F Φ cs es:=iQ cs X S F L es h
theorem wg(L:Lk X S k Φ)(cs:aF)(es:av)(h:bS S cs es=true):PA X es (si X F Φ cs):=fc cs X S F L es h
end
section
variable {X:Cx}{S:Sx}{k:Nat}{F:ai}{Φ:aY}
theorem uP(L:Lk X S k Φ)(c:CE)(e:Expr)(h:cD S c e=true):PE X e (tK X F Φ c):=by
 by_cases hv:∃i,c=.v i
 ·obtain⟨i,rfl⟩:=hv;obtain⟨x,hx,ha⟩:=bx h;obtain⟨p,rfl⟩:=kP hx;obtain⟨hb,h3⟩:=aK ha;obtain⟨h1,h2⟩:=aK hb;unfold lX at h3;simp only[Bool.and_eq_true,Bool.not_eq_true']at h3;refine PE.imp (qq (i:=i) (by rw[L.N];exact aac h1) (L.Qn h2) h3.1.1 h3.1.2) λσ H Q hq=>?_;obtain⟨R,τ,ρ,r,Si,ev,hq⟩:=hq;simp only[jx]at ev;split at ev
  ·rename_i d hd;split at ev
   ·cases ev;obtain⟨v,τ',hv,fL,rk⟩:=Si.move hd;exact⟨v,hv,hq v H R τ' (aJ.refl H) (λ_ h=>h) fL rk⟩
   ·rename_i ho;cases ev;obtain⟨v,hv,rp⟩:=Si.rep i d hd;exact⟨v,hv,hq v H R τ (aJ.refl H) (λ_ h=>h) Si (yS rp (by simpa using ho))⟩
  ·cases ev
 ·refine PE.imp (h_ (F:=F) L c e h).1 λσ H Q hq=>?_;obtain⟨R,τ,ρ,r,Si,ev,hq⟩:=hq;have Vm:bd (bw Φ c ρ) (λd=>ok (keep c d ρ))=ok r:=by
   cases c<;>first|exact ev|exact absurd ⟨_,rfl⟩ hv
  obtain⟨d,ed,er⟩:=aG Vm;cases er;refine tD.intro Si ed λv H' e' r'=>?_;obtain⟨R',τ',h1,h2,h3⟩:=G5 Si e' r';exact hq v H' R' τ' e' h1 h2 h3
end
structure Kp(R:ai)(H:Hp)(R':ai)(H':Hp):Prop where
 r:∀p,R p->R' p
 l:∀p (o:HO),R p->H p=some o->H' p=some o
 t:∀p xs,H p=some (.tup xs)->H' p=some (.tup xs)
 z:∀p o u,H p=some (.g_ o u)->H' p=some (.g_ o u)
theorem Kp.refl(R:ai)(H:Hp):Kp R H R H:=⟨λ_ h=>h,λ_ _ _ h=>h,λ_ _ h=>h,λ_ _ _ h=>h⟩
theorem Kp.of(e:aJ H H')(h:∀p,R p->R' p):Kp R H R' H':=⟨h,λp xs _ h=>e _ _ h,λp xs h=>e _ _ h,λp o u h=>e _ _ h⟩
theorem Kp.trans{R2:Addr->Prop}(a:Kp R H R1 H1)(b:Kp R1 H1 R2 H2):Kp R H R2 H2 :=
 ⟨λp h=>b.r p (a.r p h),λp xs h e=>b.l p xs (a.r p h) (a.l p xs h e),λp xs h=>b.t p xs (a.t p xs h),λp o u h=>b.z p o u (a.z p o u h)⟩
theorem Kp.Qy(a:Kp R H R' H'){p:Addr}(h:aU K H p xs):aU K H' p xs:=by
 rcases h with (h|⟨o,h⟩)|h
 ·exact .inl (.inl (a.t p xs h))
 ·exact .inl (.inr ⟨o,a.z p o _ h⟩)
 ·exact .inr h
theorem Kp.nd{K:ao}{R R':ai}{H H':Hp}(a:Kp R H R' H'){q:bj}{p:Addr}{xs:Nd}{f:Fl}(h:DI.nd K R (λ_=>False) (λ_=>none) H q p xs f):DI.nd K R' (λ_=>False) (λ_=>none) H' q p xs f:=by
 cases f with
 |ow=>exact nomatch h.2
 |fz=>exact⟨h.1.at λo e=>a.l p o h.2 e,a.r p h.2⟩
 |al=>exact h.2.elim
 |sc =>
  obtain⟨ys,rfl,h⟩:=h.Aq;exact h.elim (λ⟨o,h⟩=>.inl ⟨o,a.z p o _ h⟩) .inr
theorem Kp.rep(a:Kp R H R' H'){k:bj}{v:V}{d:D}(h:Rep (aU K H) (DI.nd K R (λ_=>False) (λ_=>none) H) k v d):Rep (aU K H') (DI.nd K R' (λ_=>False) (λ_=>none) H') k v d :=
 h.imp (λ_ _ h=>a.Qy h) λ_ _ _ _ h=>a.nd h
theorem Kp.SH(a:Kp R H R' H'){k:bj}{n:Nat}{v:ae}{d:ab}(h:aA (aU K H) (DI.nd K R (λ_=>False) (λ_=>none) H) k n v d):aA (aU K H') (DI.nd K R' (λ_=>False) (λ_=>none) H') k n v d :=
 h.imp (λ_ _ h=>a.Qy h) λ_ _ _ _ h=>a.nd h
def CU(X:Cx)(F:ai)(H':Hp)(v:V)(d:D):Prop:=∃τt:Addr->Option bj,(∀p q,τt p=some q->X.H₀ p=none)/\Rep (aU X.K H') (nd X.K (gP X F) (λ_=>False) τt H') [] v d
theorem gJ.ret{v:V}{d:D}(Si:SI X F R τ ρ σ H)(h:gJ X R τ H v d):CU X F H v d:=by
 obtain⟨τt,ht,rp⟩:=h;exact⟨τt,λp q e=>(ht p q e).2.2.1,rp.imp (λ_ _ h=>h) λ_ _ _ _ h=>h.mono (λh=>Si.rf _ h) id id⟩
def lO(X:Cx)(F:ai)(D:Ends)(R:ai)(H:Hp):Fo×a_->Prop
 | (.nx,ρ')=>∀σ' H' R' τ',SI X F R' τ' ρ' σ' H'->Kp R H R' H'->D.nx σ' H'
 | (.bk,ρ')=>∀σ' H' R' τ',SI X F R' τ' ρ' σ' H'->Kp R H R' H'->D.bk σ' H'
 | (.ct,ρ')=>∀σ' H' R' τ',SI X F R' τ' ρ' σ' H'->Kp R H R' H'->D.ct σ' H'
 | (.rt d,_)=>∀v H',aJ X.H₀ H'->CU X F H' v d->D.rt v H'
def lR(X:Cx)(F:ai)(Φ:aY)(c:CS):TS:=λD σ H=>∃R τ ρ r,SI X F R τ ρ σ H/\k_ Φ c ρ=ok r/\lO X F D R H r
def oy(X:Cx)(F:ai)(Φ:aY)(cs:ah):TS:=λD σ H=>∃R τ ρ r,SI X F R τ ρ σ H/\bI Φ cs ρ=ok r/\lO X F D R H r
noncomputable def JC(sc:Scope)(x:Str):Bool:=decide (sc.names.lookup x=some .local)||decide (sc.names.lookup x=some .cell)
def iD(S:Sx)(i:Nat):Expr->Bool
 |.Name x _=>decide (S.N[i]?=some x)&&JC S.sc x
 |_=>false
def NT:Expr->Bool
 |.Name x _=>lX x
 |_=>true
def Cw(S:Sx):aO->av->Bool
 |[],es=>match es with
  |[]=>true
  |_::_=>false
 |i::is,es=>match es with
  |[]=>false
  |e::es=>iD S i e&&Cw S is es
def ze(S:Sx):Tg->Expr->Bool
 |.nm i,e=>iD S i e
 |.tp is,e=>bu (uD e) λes=>Cw S is es
noncomputable def jv:Expr->Bool
 |.ListComp _ _ _ _=>true
 |_=>false
noncomputable def isTup:Expr->Bool
 |.Tuple _ _ _=>true
 |_=>false
noncomputable def Sf(S:Sx)(tg v:Expr):Bool:=match tg,v with
 |.Name x p,.ListComp _ _ sc pos=>(S.sc.names.lookup x==some .local)&&(p.line==pos.line)&&!(sc.names.any λ(n,k)=>n==x&&(k==.local||k==.cell))
 |_,_=>false
noncomputable def HQ:Expr->Option (Str×Pos)
 |.Name x p=>some (x,p)
 |_=>none
theorem vV{e:Expr}{x:Str}{p:Pos}(h:HQ e=some (x,p)):e=.Name x p:=by
 cases e<;>first|exact nk h | (cases h;done) | (cases h;rfl)
def Cv(S:Sx)(i j:Nat)(tg v:Expr):Bool :=
 bu (uD tg) λts=>bu (two ts) λt=>bu (HQ t.1) λx=>bu (HQ t.2) λy=>bu (uD v) λvs=>bu (two vs) λw =>
  decide (S.N[i]?=some x.1)&&decide (S.N[j]?=some y.1)&&decide (i≠j)&&decide (S.sc.names.lookup x.1=some .local)&&decide (S.sc.names.lookup y.1=some .local)&&decide (x.1≠y.1) &&
   decide (x.2.line=y.2.line)&&!([w.1,w.2].all (foldedForSure 8))&&!([w.1,w.2].all (constantsAlone 8))&&decide (([w.1,w.2].any λe=>match e with|.Starred ..=>true|_=>false)=false)
def P5(S:Sx)(it:CI)(e:Expr):Bool:=match it with
 |.kZ a=>bu (dP e) λw=>decide (w.1=("range" : Str))&&gz S.sc w.1&&decide (w.1∈S.bl)&&bu (one w.2) λy=>cD S a y
 |.seq a=>cD S a e&&pk e
 |.ux p es=>QL e&&bu (S.px.pi p S.sc S.bl e) λxs=>bS S es xs
noncomputable def A5:CI->Bool
 |.ux p _=>decide (1100<=p)
 |_=>true
noncomputable def yh:Stmt->Option (av×Expr)
 |.Assign ts v _=>some (ts,v)
 |_=>none
theorem l_{s:Stmt}{ts:av}{v:Expr}(h:yh s=some (ts,v)):∃p,s=.Assign ts v p:=by
 cases s<;>first|exact nk h | (cases h;done) | (cases h;exact⟨_,rfl⟩)
noncomputable def Mv:Stmt->Option (Option Expr)
 |.Return v _=>some v
 |_=>none
theorem Dx{s:Stmt}{v:Option Expr}(h:Mv s=some v):∃p,s=.Return v p:=by
 cases s<;>first|exact nk h | (cases h;done) | (cases h;exact⟨_,rfl⟩)
noncomputable def My:Stmt->Option Expr
 |.Expr v _=>some v
 |_=>none
theorem uF{s:Stmt}{v:Expr}(h:My s=some v):∃p,s=.Expr v p:=by
 cases s<;>first|exact nk h | (cases h;done) | (cases h;exact⟨_,rfl⟩)
noncomputable def RM:Stmt->Option (Expr×Operator×Expr)
 |.AugAssign o p v _=>some (o,p,v)
 |_=>none
theorem Qo{s:Stmt}{o v:Expr}{p:Operator}(h:RM s=some (o,p,v)):∃q,s=.AugAssign o p v q:=by
 cases s<;>first|exact nk h | (cases h;done) | (cases h;exact⟨_,rfl⟩)
noncomputable def Mw:Stmt->Option (Expr×br×br)
 |.If t x y _=>some (t,x,y)
 |_=>none
theorem Dz{s:Stmt}{t:Expr}{x y:br}(h:Mw s=some (t,x,y)):∃q,s=.If t x y q:=by
 cases s<;>first|exact nk h | (cases h;done) | (cases h;exact⟨_,rfl⟩)
noncomputable def Mu:Stmt->Option (Expr×br×br)
 |.While t x y _=>some (t,x,y)
 |_=>none
theorem Dw{s:Stmt}{t:Expr}{x y:br}(h:Mu s=some (t,x,y)):∃q,s=.While t x y q:=by
 cases s<;>first|exact nk h | (cases h;done) | (cases h;exact⟨_,rfl⟩)
noncomputable def Mx:Stmt->Option (Expr×Expr×br×br)
 |.For tg it x y _=>some (tg,it,x,y)
 |_=>none
theorem DA{s:Stmt}{it:Expr}{x y:br}(h:Mx s=some (tg,it,x,y)):∃q,s=.For tg it x y q:=by
 cases s<;>first|exact nk h | (cases h;done) | (cases h;exact⟨_,rfl⟩)
noncomputable def lA:Expr->Option (Expr×Str×Pos)
 |.Attribute o a p=>some (o,a,p)
 |_=>none
theorem jV{e o:Expr}{a:Str}{p:Pos}(h:lA e=some (o,a,p)):e=.Attribute o a p:=by
 cases e<;>first|exact nk h | (cases h;done) | (cases h;rfl)
noncomputable def jo:Expr->Option (Expr×av×List Keyword×Pos)
 |.Call f as ks p=>some (f,as,ks,p)
 |_=>none
theorem iN{e f:Expr}{as:av}{ks:List Keyword}{p:Pos}(h:jo e=some (f,as,ks,p)):e=.Call f as ks p:=by
 cases e<;>first|exact nk h | (cases h;done) | (cases h;rfl)
noncomputable def isNil{α:Type}:List α->Bool
 |[]=>true
 |_::_=>false
theorem ki{α:Type}{l:List α}(h:isNil l=true):l=[]:=by cases l<;>first|rfl|cases h
noncomputable def E_:Stmt->Bool
 |.Raise _ _ _=>true
 |_=>false
noncomputable def JR:Stmt->Bool
 |.Pass _=>true
 |_=>false
theorem LW{s:Stmt}(h:JR s=true):∃p,s=.Pass p:=by cases s<;>first|exact nk h | (cases h;done)|exact⟨_,rfl⟩
noncomputable def Om:Stmt->Bool
 |.Break _=>true
 |_=>false
theorem Ol{s:Stmt}(h:Om s=true):∃p,s=.Break p:=by cases s<;>first|exact nk h | (cases h;done)|exact⟨_,rfl⟩
noncomputable def TZ:Stmt->Bool
 |.Continue _=>true
 |_=>false
theorem QW{s:Stmt}(h:TZ s=true):∃p,s=.Continue p:=by cases s<;>first|exact nk h | (cases h;done)|exact⟨_,rfl⟩
theorem mB{i:Nat}{e:Expr}(h:iD S i e=true):∃x p,e=.Name x p:=by
 cases e<;>first|exact⟨_,_,rfl⟩|exact(aah h).elim
theorem Fb{e:Expr}(h:isNm e=true):∃x p,e=.Name x p:=by cases e<;>first|exact nk h | (cases h;done)|exact⟨_,_,rfl⟩
theorem yJ{e:Expr}(h:jv e=true):∃x g sc p,e=.ListComp x g sc p:=by cases e<;>first|exact nk h | (cases h;done)|exact⟨_,_,_,_,rfl⟩
mutual
noncomputable def P0(S:Sx):CS->Stmt->Bool
 |.asg t e,s0=>bu (yh s0) λz=>bu (one z.1) λtg=>cD S e z.2&&ze S t tg&&!(isTup z.2&&isTup tg)&&(!jv z.2||isNm tg)
 |.par i j a b,s0=>bu (yh s0) λz=>bu (one z.1) λtg=>cD S (.tup [a,b]) z.2&&Cv S i j tg z.2
 |.ret e,s0=>bu (Mv s0) λz=>bu z λv=>cD S e v
 |.rs _,s0=>E_ s0
 |.mut p i es,s0=>bu (S.px.pm p S.sc S.bl s0) λz=>iD S i z.1&&NT z.1&&bS S es z.2
 |.mu2 p i k e,s0=>bu (S.px.p2 p S.sc S.bl s0) λz=>iD S i z.1&&NT z.1&&bS S [k,e] z.2
 |.pop2 i j e,s0=>bu (yh s0) λz=>bu (one z.1) λtg=>iD S i tg&&bu (HR z.2) λw=>iD S i w.1&&NT w.1&&decide (w.2.1=.Add)&&bu (uD w.2.2) λts=>bu (one ts) λc=>bu (jo c) λu=>isNil u.2.2.1&&bu (lA u.1) λa=>decide (a.2.1=("pop" : Str))&&iD S j a.1&&NT a.1&&(a.2.2.endLine==u.2.2.2.line)&&bu (one u.2.1) λv=>cD S e v
 |.app i e,s0=>bu (My s0) λc=>bu (jo c) λz=>isNil z.2.2.1&&bu (lA z.1) λa=>decide (a.2.1=("append" : Str))&&iD S i a.1&&NT a.1&&(a.2.2.endLine==z.2.2.2.line)&&bu (one z.2.1) λv=>cD S e v
 |.ex e,s0=>bu (My s0) λv=>cD S e v&&!jv v
 |.ifs c a b,s0=>bu (Mw s0) λz=>cD S c z.1&&kz S a z.2.1&&kz S b z.2.2
 |.HK c b,s0=>bu (Mu s0) λz=>isNil z.2.2&&cD S c z.1&&kz S b z.2.1
 |.fr t it b,s0=>bu (Mx s0) λz=>isNil z.2.2.2&&ze S t z.1&&P5 S it z.2.1&&(fQ z.1||A5 it)&&kz S b z.2.2.1
noncomputable def kz(S:Sx):ah->br->Bool
 |[],ss=>match ss with
  |[]=>true
  |_::_=>false
 |c::cs,ss=>match ss with
  |[]=>false
  |s::ss=>P0 S c s&&kz S cs ss
end
structure LC(px:Px)(Φ:aY):Prop where
 m:∀(X:Cx) (sc:Scope) (bl:aq) (k:Nat),PX X sc bl k->X.N.Nodup->(∀x,X.fn x=true)->∀(p:Nat) (st:Stmt) (x:Str) (pos:Pos) (args:av),px.pm p sc bl st=some (.Name x pos,args)->∀(i:Nat),X.N[i]?=some x->L2.Loc X.env.scope x->PE X (.Name x pos) (uM i) ->
  ∀(F:ai) (cs:aF),l9 X F Φ cs args->PS X st (lR X F Φ (.mut p i cs))
 m2:∀(X:Cx) (sc:Scope) (bl:aq) (k:Nat),PX X sc bl k->X.N.Nodup->(∀x,X.fn x=true)->∀(p:Nat) (st:Stmt) (x:Str) (pos:Pos) (args:av),px.p2 p sc bl st=some (.Name x pos,args)->∀(i:Nat),X.N[i]?=some x->L2.Loc X.env.scope x->PE X (.Name x pos) (uM i) ->
  ∀(F:ai) (c1 c2:CE),l9 X F Φ [c1,c2] args->PS X st (lR X F Φ (.mu2 p i c1 c2))
structure oR(X:Cx)(S:Sx)(k:Nat)(Φ:aY):Prop extends Lk X S k Φ where
 Dc:∀x,X.fn x=true
 px:PassesOwn (model X.prog X.w) X.A X.env X.xe
 fk:S.sc.kind=.function
 pm:LC S.px Φ
section
variable {X:Cx}{S:Sx}{k:Nat}{F:ai}{Φ:aY}
theorem oR.loc(L:oR X S k Φ){x:Str}(h:JC S.sc x=true):L2.Loc X.env.scope x:=by
 unfold L2.Loc;rw[L.sc];unfold JC at h;rw[Bool.or_eq_true]at h;exact h.imp aac aac
theorem GH(L:oR X S k Φ){x:Str}{p:Pos}{l:Nat}{elt:Expr}{gens:List Comprehension}{sc:Scope}:swapsWith (.ListComp elt gens sc pos) (some (.Name x p)) l X.env=pure (Sf S (.Name x p) (.ListComp elt gens sc pos)):=by
 have hb:X.env.blockKind=.function:=by unfold Env.blockKind;rw[L.sc,L.fk];rfl
 have hk:(X.env.kindOf x==some .local)=(S.sc.names.lookup x==some .local):=by
  unfold Env.kindOf;rw[L.sc]
 unfold swapsWith Sf;simp only[hb,hk];rfl
theorem ug{c:CE}{e:Expr}(h:cD S c e=true)(hc:jv e=false)(t:Option Expr)(l:Nat)(env:Env):swapsWith e t l env=pure false:=by
 cases e<;>first|rfl | (cases hc;done) | (cases c<;>exact(aah h).elim)
def Vc:aO->Gh
 |[]=>Ku
 |i::is=>B6 (pJ i) (Vc is)
theorem wM(L:oR X S k Φ){i:Nat}{e:Expr}(h:iD S i e=true):PG X e (pJ i):=by
 cases e<;>try (exact(aah h).elim;done)
 replace h:=aK h;exact qp L.nd (by rw[L.N];exact aac h.1) (L.loc h.2) (.inl (L.Dc _))
theorem EH{i:Nat}{e:Expr}(h:iD S i e=true)(es:av)(env:Env):assignEach (e::es) env=(false,assign e env)::assignEach es env:=by
 cases e<;>first|rfl | (exact(aah h).elim;done)
theorem AL(L:oR X S k Φ):∀{is:aO} {es:av},Cw S is es=true->Mj X es (Vc is)/\(assignEach es X.env).length=is.length/\(assignEach es X.env).findIdx? (·.1)=none
 |[],[],_=>⟨wL,rfl,rfl⟩
 |[],_::_,h=>by exact(aah h).elim
 |_::_,[],h=>by exact(aah h).elim
 |i::is,e::es,h=>by
  replace h:=aK h;obtain⟨h1,h2,h3⟩:=AL L h.2;have he:=EH h.1 es X.env;refine⟨sU (wM L h.1) h1 (by rw[he];rfl),by rw[he];simp[h2],?_⟩;rw[he,List.findIdx?_cons];simp[h3]
theorem sA{H:Hp}{R:ai}{Q:St->Hp->Prop}:∀{is:aO} {vs:ae} {ds:ab} {kp:bj} {n:Nat} {σ:St} {τ:Addr->Option bj} {ρ ρ':a_},aA (aU X.K H) (nd X.K R (λ_=>False) (λ_=>none) H) kp n vs ds->SI X F R τ ρ σ H->gR is ds ρ=ok ρ' ->
  (∀σ' τ',SI X F R τ' ρ' σ' H->Q σ' H)->Vc is vs σ H Q
 |[],_,_,_,_,σ,τ,_,_,.nil,Si,e,hq=>by
  cases e;exact⟨rfl,hq σ τ Si⟩
 |[],_,_,_,_,_,_,_,_,.cons _ _,_,e,_=>by cases e
 |_::_,_,_,_,_,_,_,_,_,.nil,_,e,_=>by cases e
 |i::is,_,_,_,_,σ,τ,ρ,_,.cons (v:=v) (d:=d) h t,Si,e,hq=>by
  change (if _ then _ else _)=_ at e;split at e
  ·rename_i hi;obtain⟨τ',fL⟩:=Si.set (i:=i) (mh (τ':=τ) (Rep.qx h)) hi;exact⟨_,_,rfl,sA t fL e hq⟩
  ·cases e
theorem z9(L:oR X S k Φ){t:Tg}(h:ze S t tg=true):∃g,PG X tg g/\∀(v:V) (σ:St) (H:Hp) (Q:St->Hp->Prop) (R:ai) (τ:Addr->Option bj) (ρ ρ':a_) (d:D),SI X F R τ ρ σ H->gJ X R τ H v d->cv t d ρ=ok ρ' ->
  (∀σ' τ',SI X F R τ' ρ' σ' H->Q σ' H)->g v σ H Q:=by
 cases t with
 |nm i =>
  refine⟨pJ i,wM L h,λv σ H Q R τ ρ ρ' d Si rk e hq=>?_⟩;simp only[cv]at e;split at e
  ·rename_i hi;cases e;obtain⟨τ',fL⟩:=Si.set rk hi;exact hq _ τ' fL
  ·cases e
 |tp is =>
  obtain⟨es,hx,ha⟩:=bx h;obtain⟨nn,pp,rfl⟩:=iM hx;obtain⟨h1,h2,h3⟩:=AL L ha;refine⟨_,AK L.calm h1 h2 h3,λv σ H Q R τ ρ ρ' d Si rk e hq=>?_⟩;cases d<;>try (simp[cv]at e;done)
  rename_i ds;simp only[cv]at e;split at e
  ·cases e
  ·rename_i ho;obtain⟨τt,ht,rp⟩:=rk;cases rp with
   | @tup _ p xs _ hp rs =>
    have rL:aA (aU X.K H) (nd X.K R (λ_=>False) (λ_=>none) H) [] 0 xs ds:=aA.without (P:=cB) (λ_ _ h=>h) (λk k' p xs f hf h=>by
     cases f with
     |ow=>cases hf
     |fz=>exact h
     |al=>exact h.2.elim
     |sc=>exact h) rs (by simpa using ho) _ _
    refine⟨p,xs,rfl,hp,?_,sA rL Si e hq⟩;rw[rs.length];have:∀(is:aO) (ds:ab) (ρ ρ':a_),gR is ds ρ=ok ρ'->ds.length=is.length:=by
     intro is;induction is with
     |nil=>intro ds ρ ρ' e;cases ds with|nil=>rfl|cons _ _=>cases e
     |cons i is ih=>intro ds ρ ρ' e;cases ds with
      |nil=>cases e
      |cons d ds =>
       change (if _ then _ else _)=_ at e;split at e
       ·simp[ih ds _ _ e]
       ·cases e
    exact this _ _ _ _ e
end
section
variable {X:Cx}{S:Sx}{k:Nat}{F:ai}{Φ:aY}
theorem Ag(L:oR X S k Φ){t:Tg}{e:CE}{v:Expr}(he:cD S e v=true)(ht:ze S t tg=true)(hp:(isTup v&&isTup tg)=false)(JX:swapsWithSole [tg] v pos.line X.env=pure false):PS X (.Assign [tg] v pos) (lR X F Φ (.asg t e)):=by
 obtain⟨g,hg,BR⟩:=z9 (F:=F) L ht;have Gz:(∃x p,tg=.Name x p)\/∃es n p,tg=.Tuple es n p:=by
  cases t with
  |nm i=>cases tg<;>first|exact .inl ⟨_,_,rfl⟩|exact(aah ht).elim
  |tp is=>cases tg<;>first|exact .inr ⟨_,_,_,rfl⟩|exact(aah ht).elim
 have each:(assignEach [tg] X.env).map (·.2)=[assign tg X.env]:=by
  rcases Gz with ⟨x,p,rfl⟩|⟨es,n,p,rfl⟩<;>rfl
 have hw:swappedStores [tg] v X.env=pure none:=by
  rcases Gz with ⟨x,p,rfl⟩|⟨es,n,p,rfl⟩
  ·first|rfl | (cases v<;>rfl)
  ·cases v<;>first|rfl|exact absurd hp (by simp[isTup])
 refine PS.imp (AF (uP (F:=F) L.toLk e v he) hg JX hw each) λD σ H hq=>?_;obtain⟨R,τ,ρ,r,Si,ev,hq⟩:=hq;obtain⟨r1,zE,ev⟩:=aG ev;obtain⟨ρ',eρ,ev⟩:=aG ev;cases ev;exact⟨R,τ,ρ,r1,Si,zE,λv H' R' τ' es hR fL rk=>BR v σ H' _ R' τ' r1.2 ρ' r1.1 fL rk eρ λσ' zK Lx=>hq σ' H' R' zK Lx (Kp.of es hR)⟩
theorem DV(L:oR X S k Φ){i n:Nat}{t:Tg}{ik:IK}{x:Str}{p MY:Pos}{gens:List Comprehension}{sc:Scope}
  (he:cD S (.comp n t caps ik es bK elt) (.ListComp jc gens sc pos)=true) (hn:iD S i (.Name x p)=true) (JX:swapsWith (.ListComp jc gens sc pos) (some (.Name x p)) MY.line X.env=pure true) :
  PS X (.Assign [.Name x p] (.ListComp jc gens sc pos) MY) (lR X F Φ (.asg (.nm i) (.comp n t caps ik es bK elt))):=by
 intro pins s σ H D I hq;obtain⟨R,τ,ρ,r,Si,ev,hq⟩:=hq;obtain⟨r1,zE,ev⟩:=aG ev;obtain⟨ρ',eρ,ev⟩:=aG ev;cases ev;have zE:bd (bw Φ (.comp n t caps ik es bK elt) ρ) (λd=>ok (keep (.comp n t caps ik es bK elt) d ρ))=ok r1:=zE;obtain⟨d,ed,zE⟩:=aG zE;cases zE;have hg:=wM L hn;rw[exec_Assign_Name_used _ _ _ _ JX];refine aaa (acg (aaa ?_));obtain⟨⟨e0,g0,s0⟩,Q1,JV⟩:=bx he;cases Q1;obtain⟨⟨target,iter,ifs,a⟩,UJ,hz⟩:=bx JV;obtain rfl:gens=_:=bY UJ;obtain⟨hz,h6⟩:=aK hz;obtain⟨hz,h5⟩:=aK hz;obtain⟨hz,h4⟩:=aK hz;obtain⟨hz,h3⟩:=aK hz;obtain⟨hz,h2⟩:=aK hz;obtain⟨hz,h1⟩:=aK hz;obtain rfl:a=0:=aac hz;have hC:=uc (aac h3) h4 (λ(X':Cx) (F':ai) (L':Lk X' (S.inner target caps sc) k Φ)=>ia bK X' _ F' L' ifs h4);have run:wpAny (model X.prog X.w) X.A (comprehension (.ListComp jc [⟨target,iter,ifs,0⟩] sc pos) sc X.env (firstIterPos [⟨target,iter,ifs,0⟩] pos) (newList []) false (eval iter X.env) (some (assign (.Name x p) X.env))) (λ_ s'=>SP X pins D .next s') X.xe s:=by
  refine ue (F:=F) (k:=k) L.toLk (pQ h1) h2 (λX' F' L'=>(h_ (F:=F') L' elt jc h5).1) hC ?_ (use:=some (assign (.Name x p) X.env)) (Post:=λ_ s'=>SP X pins D .next s') I Si ed ?_
  ·exact By L.toLk (λl=>wg (F:=F) L.toLk es l) (λl=>ia es X S F L.toLk l) (λl=>j4 L.toLk es l) h6
  ·intro acc C H1 s1 m yN hc IX sm rt;obtain⟨c1,c2,c3,c4,c5⟩:=hc;obtain⟨R',τ',hR,fL,rk⟩:=G5 (e:=.comp n t caps ik es bK elt) Si sm rt;have I1:Inv X pins σ H1 s1:=IX s1.heap (.refl ..);obtain⟨oC,Z3,Z4,Y7,W3,Y4⟩:=yN;have cfs:C∉X.fs:=λz=>by
    obtain⟨_,o,ho,_⟩:=I1.ok.l6.mem z;exact absurd (aal (aak ho) c2) (aaA _)
   have I2:Inv X ((C,oC)::pins) σ H1 s1:=I1.iT λq hq=>by
    rcases List.mem_cons.mp hq with rfl|hq
    ·exact⟨Y7,c5,c1,cfs,λv z=>by rw[W3]at z;cases z⟩
    ·exact I1.pin q (aau _ hq)
   simp only[cv]at eρ;split at eρ
   ·rename_i hi;cases eρ;obtain⟨τ2,uq⟩:=fL.set rk hi;show wpAny _ _ (assign (.Name x p) X.env (.ref acc)) _ _ _;refine aaF (hg ((C,oC)::pins) s1 σ H1 (.ref acc) (.ref acc) (λσ' H'=>σ'=σ.set i (some (.ref acc))/\H'=H1) I2 rfl ⟨rfl,rfl⟩) (λ_ s2 h2=>?_) λ_ _ z=>z;obtain⟨σ',H',I3,rfl,rfl⟩:=h2;have ZK:=(I3.pin (C,oC) (aau _ aai)).1;refine⟨m,⟨oC,Z3,Z4,ZK,W3,Y4⟩,λh' BI=>?_⟩;have I4:Inv X pins (σ.set i (some (.ref acc))) H' s2:=I3.iT λq hq=>I3.pin q (aau _ (aag _ hq));have I5:=I4.turned (t':=s2.toks) (h':=h') (it:=C) (λb o hb e=>(BI.2 b hb).trans e) c5 c1 (.inr c2) c3 c4;exact⟨_,H',I5,hq _ H' R' τ2 uq (Kp.of sm hR)⟩
   ·cases eρ
 exact aaa (aaF run (λ_ s' h=>aab (aab h)) λ_ _ z=>z)
theorem Ie(L:oR X S k Φ){e:CE}{v:Expr}(he:cD S e v=true):PS X (.Return (some v) pos) (lR X F Φ (.ret e)):=by
 refine PS.imp (IL (uP (F:=F) L.toLk e v he)) λD σ H hq=>?_;obtain⟨R,τ,ρ,r,Si,ev,hq⟩:=hq;obtain⟨r1,zE,ev⟩:=aG ev;cases ev;exact⟨R,τ,ρ,r1,Si,zE,λv H' R' τ' es hR fL rk=>hq v H' fL.same (rk.ret fL)⟩
theorem MX(L:oR X S k Φ){e:CE}{v:Expr}(he:cD S e v=true)(Uz:jv v=false):PS X (.Expr v pos) (lR X F Φ (.ex e)):=by
 refine PS.imp (qm (h_ (F:=F) L.toLk e v he).1 (ug he Uz _ _ _)) λD σ H hq=>?_;obtain⟨R,τ,ρ,r,Si,ev,hq⟩:=hq;obtain⟨d,ed,ev⟩:=aG ev;cases ev;exact tD.intro Si ed λv H' es rv=>hq σ H' R τ (Si.go es) (Kp.of es λ_ h=>h)
theorem lO.from{D:Ends}{r:Fo×a_}(h:lO X F D R H r)(kp:Kp R H R1 H1):lO X F D R1 H1 r:=by
 obtain⟨fo,ρ'⟩:=r;cases fo with
 |nx=>exact λσ' H' R' τ' Si k2=>h σ' H' R' τ' Si (kp.trans k2)
 |bk=>exact λσ' H' R' τ' Si k2=>h σ' H' R' τ' Si (kp.trans k2)
 |ct=>exact λσ' H' R' τ' Si k2=>h σ' H' R' τ' Si (kp.trans k2)
 |rt d=>exact h
theorem MW(L:oR X S k Φ){c:CE}{a b:ah}{t:Expr}{x y:br}(hc:cD S c t=true)(ha:mL X x (oy X F Φ a))(hb:mL X y (oy X F Φ b)):PS X (.If t x y pos) (lR X F Φ (.ifs c a b)):=by
 refine PS.imp (Nt (h_ (F:=F) L.toLk c t hc).2 ha hb) λD σ H hq=>?_;obtain⟨R,τ,ρ,r,Si,ev,hq⟩:=hq;obtain⟨w,ew,ev⟩:=aG ev;refine⟨R,τ,ρ,w,Si,ew,λH1 e1=>?_⟩;cases w with
 |true=>rw[if_pos rfl]at ev ⊢;exact⟨R,τ,ρ,r,Si.go e1,ev,hq.from (Kp.of e1 λ_ h=>h)⟩
 |false=>rw[if_neg (by simp)]at ev ⊢;exact⟨R,τ,ρ,r,Si.go e1,ev,hq.from (Kp.of e1 λ_ h=>h)⟩
theorem Af(L:oR X S k Φ){c:CE}{b:ah}{t:Expr}{x:br}(hc:cD S c t=true)(hb:mL X x (oy X F Φ b)):PS X (.While t x [] pos) (lR X F Φ (.HK c b)):=by
 refine PS.imp (AD L.px (h_ (F:=F) L.toLk c t hc).2 hb) λD σ H hq=>?_;obtain⟨R,τ,ρ,r,Si,ev,hq⟩:=hq;obtain⟨n,hn⟩:=k7 ev;refine⟨λm σ' H'=>∃R' τ' ρ',SI X F R' τ' ρ' σ' H'/\Kp R H R' H'/\cQ m _ ρ'=ok r,⟨n,R,τ,ρ,Si,Kp.refl R H,hn⟩,?_⟩;rintro m σ1 H1 ⟨R1,τ1,ρ1,zw,k1,e1⟩;cases m with
 |zero=>simp[cQ]at e1
 |succ m =>
  rw[cQ]at e1;obtain⟨st,es,e1⟩:=aG e1;obtain⟨w,ew,es⟩:=aG es;refine⟨R1,τ1,ρ1,w,zw,ew,λH2 e2=>?_⟩;cases w with
  |false =>
   rw[if_neg (by simp)]at es ⊢;cases es;cases e1;exact hq σ1 H2 R1 τ1 (zw.go e2) (k1.trans (Kp.of e2 λ_ h=>h))
  |true =>
   rw[if_pos rfl]at es ⊢;obtain⟨⟨fo,ρ2⟩,eb,es⟩:=aG es;refine⟨λσ' H'=>∃R' τ' ρ',SI X F R' τ' ρ' σ' H'/\Kp R H R' H'/\cQ m _ ρ'=ok r,λσ' H' h=>⟨m,aa0 m,h⟩,R1,τ1,ρ1,(fo,ρ2),zw.go e2,eb,?_⟩;have k2:Kp R H R1 H2:=k1.trans (Kp.of e2 λ_ h=>h);cases fo with
   |nx=>cases es;exact λσ' H' R' τ' fL k3=>⟨R',τ',ρ2,fL,k2.trans k3,e1⟩
   |ct=>cases es;exact λσ' H' R' τ' fL k3=>⟨R',τ',ρ2,fL,k2.trans k3,e1⟩
   |bk=>cases es;cases e1;exact λσ' H' R' τ' fL k3=>hq σ' H' R' τ' fL (k2.trans k3)
   |rt d=>cases es;cases e1;exact hq
def kJ(X:Cx)(F:ai)(Φ:aY)(t:Tg)(b:ah)(R1:ai)(H1:Hp)(r:Fo×a_)(items:List DI.D)(i:Nat)(σ:St)(H:Hp):Prop :=
 ∃R' τ' ρ',SI X F R' τ' ρ' σ H/\Kp R1 H1 R' H/\dN (λd ρ=>cv t d ρ) (λρ=>bI Φ b ρ) (items.drop i) ρ'=ok r
theorem nI{g:TG}{t:Tg}{b:ah}{D:Ends}{r:Fo×a_}{items:List DI.D}{q:bj}
  (BR:∀(v:V) (σ:St) (H:Hp) (Q:St->Hp->Prop) (R:ai) (τ:Addr->Option bj) (ρ ρ':a_) (d:DI.D),SI X F R τ ρ σ H->gJ X R τ H v d->cv t d ρ=ok ρ'->(∀σ' τ',SI X F R τ' ρ' σ' H->Q σ' H)->g v σ H Q)
  (rs:aA (aU X.K H1) (nd X.K R1 (λ_=>False) (λ_=>none) H1) q 0 xs items) (hq:lO X F D R1 H1 r) (i:Nat) (x:V) (σ:St) (H:Hp) (hx:xs[i]?=some x) (h:kJ X F Φ t b R1 H1 r items i σ H) :
  g x σ H λσ2 H2=>oy X F Φ b { D with nx:=kJ X F Φ t b R1 H1 r items (i+1),ct:=kJ X F Φ t b R1 H1 r items (i+1),bk:=D.nx } σ2 H2:=by
 obtain⟨R',τ',ρ',Si,kp,ef⟩:=h;obtain⟨d,hd,rd⟩:=rs.tR hx;have hi:i<items.length:=by
  by_cases hi:i<items.length
  ·exact hi
  ·rw[List.getElem?_eq_none (by left)]at hd;cases hd
 have tP:items.drop i=d::items.drop (i+1):=by
  rw[List.drop_eq_getElem_cons hi];rw[List.getElem?_eq_getElem hi]at hd;cases hd;rfl
 rw[tP,dN]at ef;obtain⟨ρ1,e1,ef⟩:=aG ef;obtain⟨⟨fo,ρ2⟩,e2,ef⟩:=aG ef;refine BR x σ H _ R' τ' ρ' ρ1 d Si (mh (Rep.qx (kp.rep rd))) e1 λσ' zK fL=>⟨R',zK,ρ1,(fo,ρ2),fL,e2,?_⟩
 cases fo with
 |nx=>exact λσ3 H3 R3 τ3 rC k3=>⟨R3,τ3,ρ2,rC,kp.trans k3,ef⟩
 |ct=>exact λσ3 H3 R3 τ3 rC k3=>⟨R3,τ3,ρ2,rC,kp.trans k3,ef⟩
 |bk=>cases ef;exact λσ3 H3 R3 τ3 rC k3=>hq σ3 H3 R3 τ3 rC (kp.trans k3)
 |rt d=>cases ef;exact hq
theorem mx{t:Tg}{b:ah}{D:Ends}{r:Fo×a_}{items:List DI.D}{n:Nat}(hn:n=items.length)(hq:lO X F D R1 H1 r)(σ:St)(H:Hp)(h:kJ X F Φ t b R1 H1 r items n σ H):D.nx σ H:=by
 obtain⟨R',τ',ρ',Si,kp,ef⟩:=h;subst hn;rw[List.drop_length,dN]at ef;cases ef;exact hq σ H R' τ' Si kp
theorem xA(ρ:a_):g_ [] ρ=ρ:=by
 unfold g_;apply List.ext_getElem?;intro i;rw[List.getElem?_mapIdx];cases ρ[i]? with
 |none=>rfl
 |some o=>simp
theorem xD{v:V}{d:DI.D}(Si:SI X F R τ ρ σ H)(es:aJ H H')(r:bQ X.K (gP X F) R τ fv H H' v d):
  ∃R' τ',(∀p,R p->R' p)/\SI X F R' τ' (if aR bJ d then g_ fv ρ else ρ) σ H'/\Rep (aU X.K H') (nd X.K R' (λ_=>False) (λ_=>none) H') [] v (aT aW d):=by
 by_cases ha:aR bJ d=true
 ·rw[if_pos ha];exact qL Si es r
 ·rw[if_neg ha];have r':bQ X.K (gP X F) R τ [] H H' v d:=by
   obtain⟨τt,fr,rp⟩:=r;exact⟨τt,fr,Rep.jS (P:=bJ) (λ_ _ h=>h) (λk p xs f hf h=>by
    cases f with
    |ow=>exact h
    |fz=>exact h
    |al=>cases hf
    |sc=>exact h) rp (by simpa using ha)⟩
  have:=qL Si es r';rw[xA]at this;exact this
theorem B8{ds:List DI.D}(Si:SI X F R τ ρ σ H)(es:aJ H H')(r:cg X.K (gP X F) R τ fv H H' vs ds):
  ∃R' τ',(∀p,R p->R' p)/\SI X F R' τ' (if aP bJ ds then g_ fv ρ else ρ) σ H'/\aA (aU X.K H') (nd X.K R' (λ_=>False) (λ_=>none) H') [] 0 vs (aB aW ds):=by
 by_cases ha:aP bJ ds=true
 ·rw[if_pos ha];exact tS Si es r
 ·rw[if_neg ha];have r':cg X.K (gP X F) R τ [] H H' vs ds:=by
   obtain⟨τt,fr,rp⟩:=r;exact⟨τt,fr,aA.jS (P:=bJ) (λ_ _ h=>h) (λk p xs f hf h=>by
    cases f with
    |ow=>exact h
    |fz=>exact h
    |al=>cases hf
    |sc=>exact h) rp (by simpa using ha)⟩
  have:=tS Si es r';rw[xA]at this;exact this
def X3(X:Cx)(F:ai)(Φ:aY)(p:Nat)(cs:aF):TI:=λσ H Rr=>∃R τ ρ xs d items,SI X F R τ ρ σ H/\cu Φ cs ρ=ok xs/\Φ p xs=ok d/\i_ d=ok items /\
 ∀J H2 vs,aJ H H2->cg X.K (gP X F) R τ (cW cs) H H2 vs xs->Hy X.K J H2 vs xs items->Rr J H2
theorem DU(L:oR X S k Φ){t:Tg}{p:Nat}{b:ah}{x:br}(ht:ze S t tg=true)(hi:S.px.pi p S.sc S.bl iter=some args)(hc:bS S cs args=true)(JZ:QL iter=true)(Y0:(decide (1100<=p)||fQ tg)=true)(hb:mL X x (oy X F Φ b)):PS X (.For tg iter x [] pos) (lR X F Φ (.fr t (.ux p cs) b)):=by
 obtain⟨g,hg,BR⟩:=z9 (F:=F) L ht;have nC:∀y,foldedSetIterable iter X.env y=pure y:=by
  intro y;cases iter<;>first|rfl | (cases JZ;done)
 have pi:PI X tg iter (X3 X F Φ p cs):=λpins s σ H Rr I ⟨R,τ,ρ,xs,d,items,Si,cK,ed,ei,hR⟩ =>
  L.pr.i X _ _ k L.toLk.pX p iter args hi F cs tg Y0 (j4 L.toLk cs args hc) pins s σ H R τ ρ xs d items I Si cK ed ei Rr hR
 refine PS.imp (ql L.px L.calm pi hg hb nC) λD σ H hq=>?_;obtain⟨R,τ,ρ,r,Si,ev,hq⟩:=hq;obtain⟨⟨items,ρ1⟩,ei,ef⟩:=aG ev;obtain⟨xs,cK,ei⟩:=aG ei;obtain⟨d,ed,ei⟩:=aG ei;obtain⟨TQ,Z9,ei⟩:=aG ei;cases ei;refine⟨R,τ,ρ,xs,d,items,Si,cK,ed,Z9,λJ H2 vs e2 D_ yz=>?_⟩;obtain⟨R',τ',hR,fL,rs⟩:=B8 Si e2 D_;have xk:=hq.from (Kp.of e2 hR);refine⟨λi m σ' H'=>m=items.length - i/\i<=items.length/\kJ X F Φ t b R' H2 r items i σ' H',⟨_,rfl,aaP _,R',τ',_,fL,Kp.refl R' H2,by rw[List.drop_zero];exact ef⟩,?_⟩;rintro i m σ1 H1 ⟨rfl,L4,hf⟩;obtain⟨R1,τ1,ρ2,zw,k1,e1⟩:=id hf;have M9:=k1.SH rs;have GI:pY X.K H2 vs xs H1:=⟨⟨R',rs,k1.l⟩,λa ys h=>k1.Qy h⟩
 by_cases fR:i<items.length
 ·refine .inr ⟨yz.go i H1 R1 GI M9 fR,λσ' H'=>kJ X F Φ t b R' H2 r items (i+1) σ' H',λσ' H' h=>⟨items.length - (i+1),by left,rfl,fR,h⟩,λv H3 hy=>?_⟩;obtain⟨e3,dd,hd,rd⟩:=yz.uv i H1 R1 v H3 GI M9 fR hy;have tP:items.drop i=dd::items.drop (i+1):=by
   rw[List.drop_eq_getElem_cons fR];rw[List.getElem?_eq_getElem fR]at hd;cases hd;rfl
  rw[tP,dN]at e1;obtain⟨ρ3,eb,e1⟩:=aG e1;obtain⟨⟨fo,ρ4⟩,e4,e1⟩:=aG e1;have k3:Kp R' H2 R1 H3:=k1.trans (Kp.of e3 λ_ h=>h);refine BR v σ1 H3 _ R1 τ1 ρ2 ρ3 dd (zw.go e3) (mh rd) eb λσ' zK Lx=>⟨R1,zK,ρ3,(fo,ρ4),Lx,e4,?_⟩
  cases fo with
  |nx=>exact λσ3 H4 R3 τ3 rC k4=>⟨R3,τ3,ρ4,rC,k3.trans k4,e1⟩
  |ct=>exact λσ3 H4 R3 τ3 rC k4=>⟨R3,τ3,ρ4,rC,k3.trans k4,e1⟩
  |bk=>cases e1;exact λσ3 H4 R3 τ3 rC k4=>xk σ3 H4 R3 τ3 rC (k3.trans k4)
  |rt d=>cases e1;exact xk
 ·exact .inl ⟨yz.stop i H1 R1 GI M9 (by left),mx (n:=i) (by left) xk σ1 H1 hf⟩
theorem aA.ints{T:kG}{N:hU}:∀(is:aa) {k:bj} {n:Nat},aA T N k n (is.map V.int) (is.map DI.D.int)
 |[],_,_=>.nil
 |i::is,_,_=>.cons (.int i) (aA.ints is)
theorem Ih(L:oR X S k Φ){t:Tg}{it:CI}{b:ah}{x:br}(ht:ze S t tg=true)(hi:P5 S it iter=true)(Y8:(fQ tg||A5 it)=true)(hb:mL X x (oy X F Φ b)):PS X (.For tg iter x [] pos) (lR X F Φ (.fr t it b)):=by
 obtain⟨g,hg,BR⟩:=z9 (F:=F) L ht;have nC:∀y,foldedSetIterable iter X.env y=pure y:=by
  intro y;cases iter<;>first|rfl | (cases it<;>first|exact(aah hi).elim|exact(aah (aK hi).2).elim)
 have kZ:∀{lo:Int} {n:Nat} {D:Ends} {R:ai} {τ:Addr->Option bj} {ρ:a_} {σ:St} {H H1:Hp} {r:Fo×a_},SI X F R τ ρ σ H->aJ H H1->lO X F D R H r ->
   dN (λd ρ=>cv t d ρ) (λρ=>bI Φ b ρ) ((List.range n).map λ(k:Nat)=>DI.D.int (lo+(k:Int))) ρ=ok r ->
   ∃W:Nat->Nat->L2.St->Hp->Prop,(∃m,W 0 m σ H1)/\∀i m σ H,W i m σ H ->
    ((zy lo n).stop i H/\D.nx σ H)\/((zy lo n).go i H/\∃N:L2.St->Hp->Prop,(∀σ' H',N σ' H'->∃m',m'<m/\W (i+1) m' σ' H')/\∀x H',(zy lo n).uv i H x H'->g x σ H' λσ2 H2=>oy X F Φ b { D with nx:=N,ct:=N,bk:=D.nx } σ2 H2):=by
  intro lo n D R τ ρ σ H H1 r Si e1 hq ef;have rs:aA (aU X.K H1) (nd X.K R (λ_=>False) (λ_=>none) H1) [] 0 ((List.range n).map λ(k:Nat)=>V.int (lo+(k:Int))) ((List.range n).map λ(k:Nat)=>DI.D.int (lo+(k:Int))):=by
   have:=aA.ints (T:=aU X.K H1) (N:=nd X.K R (λ_=>False) (λ_=>none) H1) ((List.range n).map λ(k:Nat)=>lo+(k:Int)) (k:=[]) (n:=0);rw[List.map_map,List.map_map]at this;exact this
  have xk:=hq.from (Kp.of e1 (R':=R) λ_ h=>h);refine y4 (kJ X F Φ t b R H1 r _) ⟨R,τ,ρ,Si.go e1,Kp.refl R H1,by rw[List.drop_zero];exact ef⟩ (λi σ' H' Zj h=>?_) (λσ' H' h=>mx (by simp) xk σ' H' h);exact nI BR rs xk i (.int (lo+i)) σ' H' (by rw[List.getElem?_map,List.getElem?_range Zj];rfl) h
 intro pins s σ H D I Uk;cases it with
 |ux p cs =>
  obtain⟨JZ,hz⟩:=aK hi;obtain⟨args,ha,QY⟩:=bx hz;exact DU L ht ha QY JZ (by rw[Bool.or_comm];exact Y8) hb pins s σ H D I Uk
 |kZ a =>
  obtain⟨R,τ,ρ,r,Si,ev,hq⟩:=Uk;obtain⟨⟨items,ρ1⟩,ei,ef⟩:=aG ev;obtain⟨⟨y,as⟩,hv,hz⟩:=bx hi;obtain⟨p,JS,rfl⟩:=cO hv;obtain⟨WI,QY⟩:=aK hz;obtain⟨YR,h2⟩:=aK WI;obtain⟨YQ,h1⟩:=aK YR;obtain rfl:y=_:=aac YQ;obtain⟨e,hu,h3⟩:=bx QY;obtain rfl:as=[e]:=bY hu;have pa:PA X [e] (si X F Φ [a]):=PA.imp (cA (h_ (F:=F) L.toLk a e h3).1 dR (bP h3 _ _)) λ_ _ _ h=>by
   have:=gh h;obtain⟨R,τ,ρ,d,Si,ev,hq⟩:=this;exact⟨R,τ,ρ,d,Si,ev,λv H' e r=>jX (hq v H' e r)⟩
  refine ql L.px L.calm (pf (L.gl h1) (L.bl _ (aac h2)) pa (bP h3 _ _)) hg hb nC pins s σ H D I ?_;obtain⟨d,ed,ei⟩:=aG ei;cases d<;>try (simp at ei;done)
  rename_i n;simp at ei;obtain⟨⟨c1,c2⟩,rfl,rfl⟩:=ei;have nE:(cL:Int)=1000000:=rfl;refine⟨R,τ,ρ,[.int n],Si,by show bd (bw Φ a ρ) _=_;rw[ed];rfl,λvs H1 e1 rv=>?_⟩;obtain⟨τt,fr,rs⟩:=rv;cases rs.ints1
  ·refine⟨n,rfl,by left,by left,?_⟩;refine kZ (lo:=0) Si e1 hq ?_;simpa using ef
 |seq a =>
  obtain⟨R,τ,ρ,r,Si,ev,hq⟩:=Uk;obtain⟨⟨items,ρ1⟩,ei,ef⟩:=aG ev;replace hi:=aK hi;obtain⟨d,ed,ei⟩:=aG ei;have pe:=(h_ (F:=F) L.toLk a iter hi.1).1;cases d<;>try (simp at ei;done)
  ·rename_i ds;simp at ei;obtain⟨rfl,rfl⟩:=ei;refine ql L.px L.calm (AJ pe) hg hb nC pins s σ H D I (tD.intro Si ed λv H1 e1 rv=>?_);obtain⟨R',τ',hR,fL,rp⟩:=xD Si e1 rv;rw[aT]at rp;cases rp with
   | @tup _ p xs _ hp rs =>
    have xk:=hq.from (Kp.of e1 hR);refine⟨p,rfl,⟨xs,hp⟩,FE (xs:=xs) (kJ X F Φ t b R' H1 r (aB aW ds)) ⟨R',τ',_,fL,Kp.refl R' H1,by rw[List.drop_zero];exact ef⟩ (λi σ' H' _ h=>?_) (λi x σ' H' hx h=>nI BR rs xk i x σ' H' hx h) (λσ' H' h=>mx (rs.length) xk σ' H' h)⟩;obtain⟨R2,τ2,ρ2,_,kp,_⟩:=h;exact kp.Qy hp
  ·rename_i f ds;simp at ei;obtain⟨rfl,rfl⟩:=ei;refine ql L.px L.calm (wK pe) hg hb nC pins s σ H D I (tD.intro Si ed λv H1 e1 rv=>?_);obtain⟨R',τ',hR,fL,rp⟩:=xD Si e1 rv;rw[aT]at rp;obtain⟨p,xs,rfl,hp,rs⟩:=rp.rS;have xk:=hq.from (Kp.of e1 hR);refine⟨p,rfl,⟨xs,hp.sq⟩,B9 (xs:=xs) (kJ X F Φ t b R' H1 r (aB aW ds)) ⟨R',τ',_,fL,Kp.refl R' H1,by rw[List.drop_zero];exact ef⟩ (λi σ' H' _ h=>?_) (λi x σ' H' hx h=>nI BR rs xk i x σ' H' hx h) (λσ' H' h=>mx (rs.length) xk σ' H' h)⟩;obtain⟨R2,τ2,ρ2,_,kp,_⟩:=h;exact(kp.nd hp).sq
theorem nq{ρ':a_}{p:Addr}{q:bj}{n:Nd}{o:HO}(Si:SI X F R' τ' ρ' σ H1)(es:aJ H H1)(hR:∀p,R p->R' p)(hp:dO H1 p n)(ht:τ' p=some q):Kp R H R' (upd H1 p o):=by
 obtain⟨o0,BM,OE,LZ⟩:=dO.some hp;exact⟨hR,λa u ha e=>by
  have ne:a≠p:=λz=>by subst z;rw[Si.rt _ (hR _ ha)]at ht;cases ht
  rw[aX ne];exact es _ _ e,λa zs e=>by
  have e1:=es _ _ e;have ne:a≠p:=λz=>by subst z;rw[BM]at e1;cases e1;exact OE _ rfl
  rw[aX ne];exact e1,λa o u e=>by
  have e1:=es _ _ e;have ne:a≠p:=λz=>by subst z;rw[BM]at e1;cases e1;exact LZ _ _ rfl
  rw[aX ne];exact e1⟩
theorem gJ.go{v:V}{d:DI.D}(h:gJ X R τ H v d)(e:aJ H H'):gJ X R τ H' v d :=
 let ⟨τt,h1,h2⟩:=h;⟨τt,λp q z=>let ⟨a,b,c,d⟩:=h1 p q z;⟨a,b,c,aJ.ne e d⟩,h2.imp (λ_ _ h=>aU.same e h) λ_ _ _ _ h=>nd.same e h⟩
theorem NS(L:oR X S k Φ){i:Nat}{o:Expr}(h:iD S i o=true)(hv:∀x p,o=.Name x p->lX x=true):∃x p,o=.Name x p/\X.N[i]?=some x/\L2.Loc X.env.scope x/\PE X o (uM i):=by
 cases o<;>try (exact(aah h).elim;done)
 rename_i x p;have hn:=hv x p rfl;replace h:=aK h;unfold lX at hn;simp only[Bool.and_eq_true,Bool.not_eq_true']at hn;have hN:X.N[i]?=some x:=by rw[L.N];exact aac h.1
 have hl:=L.loc h.2;exact⟨x,p,rfl,hN,hl,qq hN (hl.imp id .inl) hn.1.1 hn.1.2⟩
theorem FJ{e:CE}{r:DI.D×a_}{i:Nat}{ds:List DI.D}(h:jx Φ e ρ=ok r)(ho:r.2[i]?=some (some (.lst .ow ds))):ρ[i]?=some (some (.lst .ow ds)):=by
 by_cases hv:∃j,e=.v j
 ·obtain⟨j,rfl⟩:=hv;simp only[jx]at h;split at h
  ·split at h
   ·cases h;by_cases gS:i=j
    ·subst gS;rw[List.getElem?_set]at ho;simp at ho
    ·rw[List.getElem?_set_ne (Ne.symm gS)]at ho;exact ho
   ·cases h;exact ho
  ·cases h
 ·have h':bd (bw Φ e ρ) (λd=>ok (keep e d ρ))=ok r:=by
   cases e<;>first|exact h|exact absurd ⟨_,rfl⟩ hv
  obtain⟨d,_,er⟩:=aG h';cases er;unfold keep at ho;split at ho
  ·obtain⟨d',h1,h2⟩:=xB _ _ _ _ ho;split at h2
   ·cases d'<;>simp[aT]at h2;rename_i f ds';cases f<;>simp[aW]at h2
   ·rw[h2];exact h1
  ·exact ho
theorem Ii(L:oR X S k Φ){i:Nat}{e:CE}{x:Str}{v:Expr}{p:Pos}(hn:iD S i (.Name x p)=true)(hx:lX x=true)(he:cD S e v=true)(xo:(p1.endLine==p2.line)=true):PS X (.Expr (.Call (.Attribute (.Name x p) ("append" : Str) p1) [v] [] p2) pos) (lR X F Φ (.app i e)):=by
 obtain⟨_,_,z,hN,hl,pe⟩:=NS L hn (λy q e=>by cases e;exact hx);cases z;refine PS.imp (qm (AU abE abA PySem.F.type_list_append pw pe (cA (uP (F:=F) L.toLk e v he) dR (bP he _ _)) (hfew:=by rw[bP he];rfl) (hline:=xo) (hs:=bP he _ _))) λD σ H hq=>?_;obtain⟨R,τ,ρ,r,Si,ev,hq⟩:=hq;obtain⟨r1,zE,ev⟩:=aG ev;split at ev
 ·rename_i ds ho;split at ev
  ·rename_i hc;cases ev;have ho:=wV ho;obtain⟨a,xs,hv,ha,YW,Uh,_⟩:=Si.own (FJ zE ho);refine⟨.ref a,hv,.inl ⟨rfl,_,dh.of ha⟩,R,τ,ρ,r1,Si,zE,λw H1 R1 τ1 es hR zw rk=>?_⟩;obtain⟨a1,LF,Q0,UT,YV,Ox,M9⟩:=zw.own ho;rw[hv]at Q0;cases Q0;have hz:sizeLine=16777216:=aa2;have nE:cL=1000000:=rfl;refine⟨a,LF,w,rfl,rfl,UT,by left,?_⟩;obtain⟨τ2,uq⟩:=zw.put (m:=ds.length) (g:=λys=>ys++[w]) ho hv UT Ox M9 rk λrs r=>aA.wj rs (by simpa using r);exact hq σ _ R1 τ2 uq (nq (n:=.l _) zw es hR UT Ox)
  ·cases ev
 ·cases ev
end
section
variable {X:Cx}{S:Sx}{k:Nat}{F:ai}{Φ:aY}
theorem IP(x:Str)(p:Pos):(Expr.Name x p).pos=p:=rfl
theorem uO{x y:Str}{px py pt LJ:Pos}{kt:Nat}{a b:Expr}(hk:env.scope.kind=.function)(hx:env.scope.names.lookup x=some .local)(hy:env.scope.names.lookup y=some .local)(WJ:x≠y)(hl:px.line=py.line)
  (h1:[a,b].all (foldedForSure 8)=false) (h2:[a,b].all (constantsAlone 8)=false) (h3:([a,b].any λe=>match e with|.Starred ..=>true|_=>false)=false) :
  swappedStores [.Tuple [.Name x px,.Name y py] kt pt] (.Tuple [a,b] k2 LJ) env=pure (some [x,y]):=by
 have hb:env.blockKind=.function:=by unfold Env.blockKind;rw[hk];rfl
 have kx:env.kindOf x=some .local:=hx;have ky:env.kindOf y=some .local:=hy;have e1:([x,y].eraseDups.length != [x,y].length)=false:=by
  have:¬ (y==x)=true:=by simp;exact λz=>WJ z.symm
  have h':(y==x)=false:=by simpa using this
  simp[List.eraseDups_cons,List.filter,h',WJ]
 unfold swappedStores;simp only[hb,h3,List.filterMap_cons,List.filterMap_nil,kx,ky,hl,IP,List.head?_cons,Option.map_some,Option.getD_some,h1,h2];simp only[beq_self_eq_true,Bool.and_self,if_true];rw[if_neg (by simp)];refine(acb ?_).trans ?_
 ·intro z;exact aah (h3.symm.trans z)
 rw[if_neg (by
  rw[e1];simp),if_neg Bool.false_ne_true,if_neg Bool.false_ne_true]
theorem mX{kp:bj}{v:V}{d:DI.D}(h:Rep (aU X.K H) (nd X.K R A τ H) kp v d)(hf:aR anyF d=false):gJ X R' τ' H v d :=
 ⟨λ_=>none,λ_ _ h=>by simp at h,Rep.without (P:=anyF) (λ_ _ h=>h) (λk k' p xs f hf h=>by cases hf) h hf _⟩
theorem Ig(L:oR X S k Φ){i j:Nat}{a b:CE}{v:Expr}(he:cD S (.tup [a,b]) v=true)(hp:Cv S i j tg v=true):PS X (.Assign [tg] v pos) (lR X F Φ (.par i j a b)):=by
 obtain⟨ts,Q0,q1⟩:=bx hp;obtain⟨kt,pt,rfl⟩:=iM Q0;obtain⟨⟨t1,t2⟩,QZ,q2⟩:=bx q1;obtain rfl:ts=[t1,t2]:=fN QZ;obtain⟨⟨x,px⟩,hv3,q3⟩:=bx q2;obtain rfl:t1=_:=vV hv3;obtain⟨⟨y,py⟩,hv4,q4⟩:=bx q3;obtain rfl:t2=_:=vV hv4;obtain⟨vs,YX,q5⟩:=bx q4;obtain⟨k2,LJ,rfl⟩:=iM YX;obtain⟨⟨ea,eb⟩,hv6,q6⟩:=bx q5;obtain rfl:vs=[ea,eb]:=fN hv6
 ·obtain⟨q7,Kq⟩:=aK q6;obtain⟨q8,h9⟩:=aK q7;obtain⟨q9,h8⟩:=aK q8;obtain⟨Nm,h7⟩:=aK q9;obtain⟨S3,h6⟩:=aK Nm;obtain⟨S0,h5⟩:=aK S3;obtain⟨SY,h4⟩:=aK S0;obtain⟨SX,h3⟩:=aK SY;obtain⟨h1,h2⟩:=aK SX;replace h1:S.N[i]?=some x:=aac h1;replace h2:S.N[j]?=some y:=aac h2;replace h3:=aac h3;replace h4:=aac h4;replace h5:=aac h5;replace h6:=aac h6;replace h7:=aac h7;replace h8:=lE h8;replace h9:=lE h9;replace Kq:=aac Kq;replace he:=aK he;have pa:=wg (F:=F) L.toLk [a,b] [ea,eb] he.1;refine PS.imp (IM L.calm L.nd (by rw[L.N];exact h1) (by rw[L.N];exact h2) h3 (by rw[L.sc];exact h4) (by rw[L.sc];exact h5) pa (uO (by rw[L.sc];exact L.fk) (by rw[L.sc];exact h4) (by rw[L.sc];exact h5) h6 h7 h8 h9 Kq)) λD σ H hq=>?_;obtain⟨R,τ,ρ,r,Si,ev,hq⟩:=hq;obtain⟨d1,ed1,ev⟩:=aG ev;obtain⟨d2,Z_,ev⟩:=aG ev;simp only[G8]at ev;obtain⟨⟨f1,f2,l1,l2⟩,rfl⟩:=ev;refine⟨R,τ,ρ,[d1,d2],Si,by show bd (bw Φ a ρ) _=_;rw[ed1];show bd (bd (bw Φ b ρ) _) _=_;rw[Z_];rfl,λvs H1 e1 rv=>?_⟩;obtain⟨τt,fr,rs⟩:=rv;obtain⟨v1,v2,rfl,r1,r2⟩:=rs.two
  ·obtain⟨τ1,S1⟩:=(Si.go e1).set (i:=i) (mX r1 f1) l1;obtain⟨τ2,S2⟩:=S1.set (i:=j) (mX r2 f2) (by simpa using l2);exact⟨v1,v2,rfl,hq _ H1 R τ2 S2 (Kp.of e1 λ_ h=>h)⟩
theorem El{i j:Nat}{z:Int}{r:Fo×a_}(h:pd i j ρ z=ok r):∃(ns ms:aa) (m:Nat),ρ[i]?=some (some (.tup (ns.map D.int)))/\ρ[j]?=some (some (.lst .ow (ms.map D.int)))/\DI.tF ms.length z=some m/\ns.length<1000/\ms.length<1000/\i≠j /\
  r=(.nx,(ρ.set j (some (.lst .ow ((ms.eraseIdx m).map D.int)))).set i (some (.tup ((ns++[ms.getD m 0]).map D.int)))):=by
 unfold pd at h;split at h
 ·rename_i ds hi;split at h
  ·rename_i es hj;split at h
   ·rename_i ns hn;split at h
    ·rename_i ms hm;split at h
     ·rename_i m hx;obtain⟨hc,h⟩:=oj h;cases cU hn;cases cU hm;exact⟨ns,ms,m,hi,wV hj,hx,hc.1,hc.2.1,hc.2.2,h.symm⟩
     ·cases h
    ·cases h
   ·cases h
  ·cases h
 ·cases h
theorem pz{α β:Type}(f:α->β):∀(ms:List α) (m:Nat),(ms.map f).eraseIdx m=(ms.eraseIdx m).map f
 |[],_=>rfl
 |_::_,0=>rfl
 |x::ms,m+1=>by
  show f x::(ms.map f).eraseIdx m=f x::(ms.eraseIdx m).map f;rw[pz f ms m]
theorem DT(L:oR X S k Φ){i j nt:Nat}{e:CE}{x y:Str}{v:Expr}{p q q1 p3 p4:Pos}(hn:iD S i (.Name x p)=true)(qF:iD S i (.Name x q)=true)(hx:lX x=true)(hm:iD S j (.Name y q1)=true)(hy:lX y=true)(he:cD S e v=true)(xo:(p1.endLine==p2.line)=true):
  PS X (.Assign [.Name x p] (.BinOp (.Name x q) .Add (.Tuple [.Call (.Attribute (.Name y q1) ("pop" : Str) p1) [v] [] p2] nt p3) p4) pos) (lR X F Φ (.pop2 i j e)):=by
 obtain⟨_,_,z,hN,hl,pe⟩:=NS L qF (λy q e=>by cases e;exact hx);cases z;obtain⟨_,_,z,hN2,tN,YF⟩:=NS L hm (λy q e=>by cases e;exact hy);cases z;refine PS.imp (AF (wO wW pe (AN (cA (AU abE PySem.F.slot_list_pop PySem.F.type_list_pop Bh YF (cA (h_ (F:=F) L.toLk e v he).1 dR (bP he _ _)) (hfew:=by rw[bP he];rfl) (hline:=xo) (hs:=bP he _ _)) dR))) (wM L hn)) λE σ H hq=>?_;obtain⟨R,τ,ρ,r,Si,ev,hq⟩:=hq;obtain⟨z,ez,ev⟩:=aG ev;obtain⟨d,ed,ez⟩:=aG ez;have ez:=Fc ez;subst ez;obtain⟨ns,ms,m,hi,hj,Zi,yN,hms,gS,rfl⟩:=El ev;obtain⟨v0,Q1,rp0⟩:=Si.rep i _ hi;obtain⟨a,xs,hv,ha,YW,Uh,rs⟩:=Si.own hj;have hz:sizeLine=16777216:=aa2;refine⟨v0,Q1,.ref a,hv,.inl ⟨rfl,_,dh.of ha⟩,tD.intro Si ed λu H1 e1 ru=>?_⟩;cases ru.isInt;have zw:=Si.go e1;obtain⟨a2,zQ,QZ,US,YU,Ow,yv⟩:=zw.own hj;rw[hv]at QZ;cases QZ;have T_:=yv.ofInts;have WR:=qB Zi;have UB:ms[m]?=some (ms.getD m 0):=by rw[List.getD_eq_getElem?_getD,List.getElem?_eq_getElem WR.2.1];rfl
 refine⟨a,zQ,z,m,.int (ms.getD m 0),rfl,rfl,US,by left,by left,by rw[T_,List.length_map];exact WR.1,by rw[T_,List.getElem?_map,UB];rfl,by show 1<=sizeLine;left,λp hp=>?_⟩;obtain⟨τ2,uq⟩:=zw.put (m:=0) (g:=λys=>ys.eraseIdx m) (v:=.int 0) (d:=.int 0) (ds':=(ms.eraseIdx m).map D.int) hj hv US Ow yv ⟨λ_=>none,λ_ _ h=>by simp at h,.int 0⟩ (λ_ _=>by
  show aA _ _ _ _ (zQ.eraseIdx m) _;rw[T_,pz];exact dW _)
 have es:aJ (upd H1 a (.lst (zQ.eraseIdx m))) (upd (upd H1 a (.lst (zQ.eraseIdx m))) p (.tup [.int (ms.getD m 0)])):=aJ.upd hp;have rC:=uq.go es;have kp:Kp R H R (upd (upd H1 a (.lst (zQ.eraseIdx m))) p (.tup [.int (ms.getD m 0)])):=(nq (n:=.l _) zw e1 (λ_ h=>h) US Ow).trans (Kp.of es λ_ h=>h);have UH:(ρ.set j (some (.lst .ow ((ms.eraseIdx m).map D.int))))[i]?=some (some (.tup (ns.map D.int))):=by rw[List.getElem?_set_ne (Ne.symm gS)];exact hi
 have fR:i<(ρ.set j (some (.lst .ow ((ms.eraseIdx m).map D.int)))).length:=by
  by_cases z:i<(ρ.set j (some (.lst .ow ((ms.eraseIdx m).map D.int)))).length
  ·exact z
  ·rw[List.getElem?_eq_none (by left)]at UH;cases UH
 obtain⟨w0,WL,Yu⟩:=rC.rep i _ UH;rw[Q1]at WL;cases WL;cases Yu with
 | @tup _ p0 xs0 _ hn0 SF =>
  have Ua:=SF.ofInts;refine⟨p0,p,xs0,[.int (ms.getD m 0)],rfl,rfl,hn0,aU.of aS,by rw[Ua,List.length_map];simp;left,λz=>?_,(λz=>by cases z),λp' tM=>?_⟩
  ·rw[Ua]at z;have z:=List.map_eq_nil_iff.mp z;subst z;obtain⟨τ4,Mi⟩:=rC.set (i:=i) (v:=.ref p) (d:=.tup (([]++[ms.getD m 0]).map D.int)) ⟨λ_=>none,λ_ _ h=>by simp at h,.tup (aU.of aS) (dW [ms.getD m 0])⟩ fR;exact hq _ _ R τ4 Mi kp
  ·have Dd:=aJ.upd (o:=.tup (xs0++[.int (ms.getD m 0)])) tM;obtain⟨τ4,Mi⟩:=(rC.go Dd).set (i:=i) (v:=.ref p') (d:=.tup ((ns++[ms.getD m 0]).map D.int)) ⟨λ_=>none,λ_ _ h=>by simp at h,.tup (aU.of aS) (by rw[Ua,show ns.map V.int++[V.int (ms.getD m 0)]=(ns++[ms.getD m 0]).map V.int by simp];exact dW _)⟩ fR;exact hq _ _ R τ4 Mi (kp.trans (Kp.of Dd λ_ h=>h))
theorem aA.PR{T:kG}{N:hU}:∀{k:bj} {n:Nat} {vs:ae} {ds:ab},aA T N k n vs ds->aA T N k n vs.dropLast ds.dropLast
 |_,_,_,_,.nil=>.nil
 |_,_,_,_,.cons _ .nil=>.nil
 |_,_,_,_,.cons h (.cons h' t)=>.cons h (aA.PR (.cons h' t))
mutual
theorem Ij(L:oR X S k Φ):∀(c:CS) (st:Stmt),P0 S c st=true->PS X st (lR X F Φ c)
 |.asg t e,st,h=>by
  obtain⟨⟨Gz,v⟩,v1,q1⟩:=bx h;obtain⟨pos,rfl⟩:=l_ v1;obtain⟨tg,v2,q2⟩:=bx q1;obtain rfl:Gz=[tg]:=bY v2;obtain⟨q3,h4⟩:=aK q2;obtain⟨q4,h3⟩:=aK q3;obtain⟨h1,h2⟩:=aK q4;have h1:cD S e v=true:=h1;replace h3:(isTup v&&isTup tg)=false:=lE h3;cases hc:jv v with
  |false=>exact Ag L h1 h2 h3 (ug h1 hc _ _ _)
  |true =>
   have h4:(!jv v||isNm tg)=true:=h4;rw[hc]at h4;obtain⟨x,p,rfl⟩:=Fb h4;obtain⟨jc,gens,sc,Mt,rfl⟩:=yJ hc;cases e<;>try (exact(aah h1).elim)
   cases t with
   |tp is=>exact(aah h2).elim
   |nm i =>
    cases hb:Sf S (.Name x p) (.ListComp jc gens sc Mt)with
    |true=>exact DV L h1 h2 (by rw[GH L,hb])
    |false=>exact Ag L h1 h2 h3 (by
      show swapsWith (.ListComp jc gens sc Mt) (some (.Name x p)) pos.line X.env=_;rw[GH L,hb])
 |.par i j a b,st,h=>by
  obtain⟨⟨Gz,v⟩,v1,q1⟩:=bx h;obtain⟨pos,rfl⟩:=l_ v1;obtain⟨tg,v2,q2⟩:=bx q1;obtain rfl:Gz=[tg]:=bY v2;exact Ig L (aK q2).1 (aK q2).2
 |.ret e,st,h=>by
  obtain⟨z,v1,q1⟩:=bx h;obtain⟨pos,rfl⟩:=Dx v1;obtain⟨v,v2,q2⟩:=bx q1;obtain rfl:z=some v:=v2;exact Ie L q2
 |.rs c,st,h=>λ_ _ _ _ _ _ bL=>by obtain⟨R,τ,ρ,r,Si,ev,hq⟩:=bL;cases ev
 |.ex e,st,h=>by
  obtain⟨v,v1,q1⟩:=bx h;obtain⟨pos,rfl⟩:=uF v1;exact MX L (aK q1).1 (lE (aK q1).2)
 |.mut p i es,st,h=>by
  obtain⟨⟨o,args⟩,ha,q1⟩:=bx h;obtain⟨q2,h3⟩:=aK q1;obtain⟨h1,h2⟩:=aK q2;obtain⟨x,pp,rfl,hN,hl,pe⟩:=NS L h1 (λy q e=>by cases e;exact h2);exact L.pm.m X _ _ k L.toLk.pX L.nd L.Dc p st x pp args ha i hN hl pe F es (j4 L.toLk es args h3)
 |.mu2 p i k e,st,h=>by
  obtain⟨⟨o,args⟩,ha,q1⟩:=bx h;obtain⟨q2,h3⟩:=aK q1;obtain⟨h1,h2⟩:=aK q2;obtain⟨x,pp,rfl,hN,hl,pe⟩:=NS L h1 (λy q e=>by cases e;exact h2);exact L.pm.m2 X _ _ _ L.toLk.pX L.nd L.Dc p st x pp args ha i hN hl pe F k e (j4 L.toLk [k,e] args h3)
 |.pop2 i j e,st,h=>by
  obtain⟨⟨Gz,v⟩,v1,q1⟩:=bx h;obtain⟨pos,rfl⟩:=l_ v1;obtain⟨tg,v2,q2⟩:=bx q1;obtain rfl:Gz=[tg]:=bY v2;obtain⟨h1,q3⟩:=aK q2;obtain⟨⟨l,o,t⟩,v3,q4⟩:=bx q3;obtain⟨p4,rfl⟩:∃p,v=.BinOp l o t p:=vY v3;obtain⟨q5,q6⟩:=aK q4;obtain⟨q7,h4⟩:=aK q5;obtain⟨h2,h3⟩:=aK q7;obtain rfl:o=.Add:=aac h4;obtain⟨ts,v4,q8⟩:=bx q6;obtain⟨nt,p3,rfl⟩:∃n p,t=.Tuple ts n p:=iM v4;obtain⟨c,v5,q9⟩:=bx q8;obtain rfl:ts=[c]:=bY v5;obtain⟨⟨fn,as,ks,p2⟩,v6,Nm⟩:=bx q9;obtain rfl:c=_:=iN v6;obtain⟨S3,S0⟩:=aK Nm;obtain rfl:ks=[]:=ki S3;obtain⟨⟨ob,nm,p1⟩,v7,SY⟩:=bx S0;obtain rfl:fn=_:=jV v7;obtain⟨SX,YD⟩:=aK SY;obtain⟨w,v8,h9⟩:=bx YD;obtain rfl:as=[w]:=bY v8;obtain⟨YC,h8⟩:=aK SX;obtain⟨YB,h7⟩:=aK YC;obtain⟨h5,h6⟩:=aK YB;obtain rfl:nm=_:=aac h5;obtain⟨x,p,rfl⟩:∃x p,tg=.Name x p:=mB h1;obtain⟨x',q',rfl⟩:∃x p,l=.Name x p:=mB h2;obtain⟨y,q1,rfl⟩:∃x p,ob=.Name x p:=mB h6;obtain rfl:x'=x:=by
   have a:=aac (aK (show _=true from h1)).1;have b:=aac (aK (show _=true from h2)).1;exact aax (b.symm.trans a)
  exact DT L h1 h2 h3 h6 h7 h9 h8
 |.app i e,st,h=>by
  obtain⟨c,v1,q1⟩:=bx h;obtain⟨pos,rfl⟩:=uF v1;obtain⟨⟨fn,as,ks,p2⟩,v2,q2⟩:=bx q1;obtain rfl:c=_:=iN v2;obtain⟨q3,q4⟩:=aK q2;obtain rfl:ks=[]:=ki q3;obtain⟨⟨o,a,p1⟩,v3,q5⟩:=bx q4;obtain rfl:fn=_:=jV v3;obtain⟨q6,q7⟩:=aK q5;obtain⟨v,v4,h4⟩:=bx q7;obtain rfl:as=[v]:=bY v4;obtain⟨q8,h5⟩:=aK q6;obtain⟨q9,h2⟩:=aK q8;obtain⟨Nm,h1⟩:=aK q9;obtain rfl:a=_:=aac Nm;obtain⟨x,p,rfl⟩:∃x p,o=.Name x p:=mB h1;exact Ii L h1 h2 h4 h5
 |.ifs c a b,st,h=>by
  obtain⟨⟨t,x,y⟩,v1,q1⟩:=bx h;obtain⟨pos,rfl⟩:=Dz v1;obtain⟨q2,h3⟩:=aK q1;obtain⟨h1,h2⟩:=aK q2;exact MW L h1 (iP L a _ h2) (iP L b _ h3)
 |.HK c b,st,h=>by
  obtain⟨⟨t,x,y⟩,v1,q1⟩:=bx h;obtain⟨pos,rfl⟩:=Dw v1;obtain⟨q2,h3⟩:=aK q1;obtain⟨h1,h2⟩:=aK q2;obtain rfl:y=[]:=ki h1;exact Af L h2 (iP L b _ h3)
 |.fr t it b,st,h=>by
  obtain⟨⟨tg,iter,x,y⟩,v1,q1⟩:=bx h;obtain⟨pos,rfl⟩:=DA v1;obtain⟨q2,h5⟩:=aK q1;obtain⟨q3,h4⟩:=aK q2;obtain⟨q4,h3⟩:=aK q3;obtain⟨h1,h2⟩:=aK q4;obtain rfl:y=[]:=ki h1;exact Ih L h2 h3 h4 (iP L b _ h5)
theorem iP(L:oR X S k Φ):∀(cs:ah) (MU:br),kz S cs MU=true->mL X MU (oy X F Φ cs)
 |[],[],_=>mL.imp Ej λD σ H bL=>by obtain⟨R,τ,ρ,r,Si,ev,hq⟩:=bL;cases ev;exact hq σ H R τ Si (Kp.refl R H)
 |[],_::_,h=>by exact(aah h).elim
 |_::_,[],h=>by exact(aah h).elim
 |c::cs,st::MU,h=>by
  replace h:=aK h;have h1:PS X st (lR X F Φ c):=Ij L c st h.1;have h2:mL X MU (oy X F Φ cs):=iP L cs MU h.2;refine mL.imp (AB h1 h2) λD σ H hq=>?_;obtain⟨R,τ,ρ,r,Si,ev,hq⟩:=hq;obtain⟨⟨fo,ρ1⟩,e1,ev⟩:=aG ev;refine⟨R,τ,ρ,(fo,ρ1),Si,e1,?_⟩;cases fo with
  |nx=>exact λσ' H' R' τ' fL kp=>⟨R',τ',ρ1,r,fL,ev,hq.from kp⟩
  |bk=>cases ev;exact hq
  |ct=>cases ev;exact hq
  |rt d=>cases ev;exact hq
end
end
variable {mg:Str->Option Value}{ps:aq}{qual:Str}
theorem tT{x:Str}{f:Addr}{fd:FuncData}{k:Nat}{N bl:aq}{cs:List (Str×GK)}{px:Px}{Dc:Nat->Option Str}{m:az}{body:ah}
  (Fu:Gp K x qual st f fd) (Sc:i8 N ps (bG st)) (J_:kz ⟨bG st,N,Dc,bl,cs,px⟩ body (dk st)=true) (JZ:vR px Φ) (Um:LC px Φ)
  (Ft:∀y∈bl,mg y=none) (vt:∀y i,(y,i)∈cs->∃u,mg y=some u/\Gn K i u)
  (yP:∀g y,Dc g=some y->∃(f:Addr) (fd:FuncData) (ps:aq),jd P w K mg base zI k f fd ps (DW K ps.length (Φ g))/\mg y=some (.ref f)/\PySem.W.keepIn K (.ref f)=true/\Binds K fd ps []/\∀ds r,Φ g ds=ok r->ds.length=ps.length)
  (hm:∀ds r,m ds=ok r->ds.length=ps.length/\qi Φ N.length body ds=ok r):jd P w K mg base zI (k+1) f fd ps (DW K ps.length m):=by
 refine Fu.ok (N:=N) Sc (λvs H Q E ⟨_,_,_,h,_⟩=>h) λjk A outer s H vs Q E hr C5=>?_;obtain⟨F,ds,r,hl,rs,er,hq⟩:=C5;obtain⟨Q5,vp⟩:=hm ds r er
 let X:=(vK zI P w K mg base N qual (bG st) f jk A outer s H E).NO
 have L:oR X ⟨bG st,N,Dc,bl,cs,px⟩ k Φ:=⟨⟨rfl,rfl,Sc.nd,rfl,hr,Ft,λg y h=>⟨yP g y h⟩,vt,JZ⟩,λ_=>rfl,PassesOwn.never,Sc.kind,Um⟩
 refine⟨oy X F Φ body,iP L body _ J_,?_⟩;unfold qi at vp;obtain⟨⟨fo,ρ'⟩,eb,vp⟩:=aG vp;have hpl:ps.length<=N.length:=by have:=aaU List.length Sc.pre;rw[List.length_take]at this;left
 have C4:vs.length=ds.length:=rs.length;refine⟨λp=>F p/\H p≠none,λ_=>none,_,(fo,ρ'),⟨?_,λi d hi=>?_,λ_ _=>rfl,λp h=>h.2,λp h=>.inl h.1,λ_ _ h=>by simp at h,λ_ _ h=>by simp at h,aJ.refl H⟩,eb,?_⟩
 ·unfold L2.start;simp[C4]
 ·have WY:i<ds.length:=by
   by_cases mv:i<ds.length
   ·exact mv
   ·rw[List.getElem?_append_right (by simpa using mv)]at hi;rw[List.getElem?_replicate]at hi;split at hi<;>simp at hi
  rw[List.getElem?_append_left (by simpa using WY),List.getElem?_map]at hi;have hd:ds[i]?=some d:=by
   cases q:ds[i]? with
   |none=>rw[q]at hi;cases hi
   |some z=>rw[q]at hi;simp at hi;rw[hi]
  obtain⟨v,hv,rv⟩:=rs.get hd;refine⟨v,?_,rv.imp (q:=[0+i]) (q':=[i]) (λ_ _ h=>h) λc p xs f h=>?_⟩
  ·unfold L2.start;rw[List.getElem?_append_left (by rw[List.length_map,C4];exact WY),List.getElem?_map,hv];rfl
  ·cases f with
   |ow=>exact nomatch h.2
   |fz=>exact⟨h.1,h.2,h.1.ne⟩
   |al=>exact h.2.elim
   |sc=>exact h
 ·cases fo with
  |nx =>
   cases vp;exact λσ' H' R' τ' fL kp=>hq .cj H' fL.same ⟨λ_=>none,λ_ _ h=>by simp at h,.cj⟩
  |bk=>simp at vp
  |ct=>simp at vp
  |rt d =>
   cases vp;exact λv H' es rr=>hq v H' es rr
structure Ent(P:aE)(w:World)(K:ao)(mg:aZ)(base:Heap)(k:Nat)(y:Str)(m:az):Prop where
 ex:∃(f:Addr) (fd:FuncData) (ps:aq),jd P w K mg base zI k f fd ps (DW K ps.length m)/\mg y=some (.ref f)/\PySem.W.keepIn K (.ref f)=true/\Binds K fd ps []/\∀ds r,m ds=ok r->ds.length=ps.length
theorem Ent.up{k k':Nat}{y:Str}{m:az}(h:Ent P w K mg base k y m)(hk:k<=k'):Ent P w K mg base k' y m:=by
 obtain⟨f,fd,ps,h1,h2⟩:=h.ex;exact⟨f,fd,ps,h1.mono hk,h2⟩
theorem ent{x:Str}{f:Addr}{fd:FuncData}{k:Nat}{N bl:aq}{cs:List (Str×GK)}{px:Px}{Dc:Nat->Option Str}{m:az}{body:ah}
  (Fu:Gp K x qual st f fd) (hmg:mg x=some (.ref f)) (hb:Binds K fd ps []) (Sc:i8 N ps (bG st)) (J_:kz ⟨bG st,N,Dc,bl,cs,px⟩ body (dk st)=true) (JZ:vR px Φ) (Um:LC px Φ) (Ft:∀y∈bl,mg y=none) (vt:∀y i,(y,i)∈cs->∃u,mg y=some u/\Gn K i u)
  (yP:∀g y,Dc g=some y->Ent P w K mg base k y (Φ g)) (hm:∀ds r,m ds=ok r->ds.length=ps.length/\qi Φ N.length body ds=ok r):Ent P w K mg base (k+1) x m :=
 ⟨f,fd,ps,tT Fu Sc J_ JZ Um Ft vt (λg y h=>(yP g y h).ex) hm,hmg,Fu.kp,hb,λds r h=>(hm ds r h).1⟩
noncomputable def du{α:Type}(P:α->Prop):List α->Prop
 |[]=>True
 |a::l=>P a/\du P l
theorem du.mem{α:Type}{P:α->Prop}:∀{l:List α},du P l->∀a∈l,P a
 |[],_,_,h=>by cases h
 |_::_,h,_,hm=>(List.mem_cons.mp hm).elim (λe=>e▸h.1) (du.mem h.2 _)
theorem du.tab{β:Type}{P:Nat->β->Prop}:∀{l:List (Nat×β)},du (λp=>P p.1 p.2) l->∀g y,l.lookup g=some y->P g y
 |[],_,_,_,h=>by cases h
 | (k,b)::l,h,g,y,e=>by
  rw[List.lookup_cons]at e;cases hg:g==k with
  |true=>rw[hg]at e;cases e;rw[eq_of_beq hg];exact h.1
  |false=>rw[hg]at e;exact du.tab h.2 g y e
theorem du.two{β γ:Type}{P:β->γ->Prop}{l:List (β×γ)}(h:du (λp=>P p.1 p.2) l)(y:β)(i:γ)(hm:(y,i)∈l):P y i:=du.mem h _ hm
theorem N_{α:Type}{l:List α}(h:l.length=1):∃a,l=[a]:=List.length_eq_one_iff.mp h
theorem N9{α:Type}{l:List α}(h:l.length=2):∃a b,l=[a,b]:=by
 cases l with
 |nil=>cases h
 |cons a l=>obtain⟨b,rfl⟩:=N_ (Nat.succ.inj h);exact⟨a,b,rfl⟩
theorem N8{α:Type}{l:List α}(h:l.length=3):∃a b c,l=[a,b,c]:=by
 cases l with
 |nil=>cases h
 |cons a l=>obtain⟨b,c,rfl⟩:=N9 (Nat.succ.inj h);exact⟨a,b,c,rfl⟩
theorem Tx{α:Type}{l:List α}(h:l.length=4):∃a b c d,l=[a,b,c,d]:=by
 cases l with
 |nil=>cases h
 |cons a l=>obtain⟨b,c,d,rfl⟩:=N8 (Nat.succ.inj h);exact⟨a,b,c,d,rfl⟩
noncomputable def nA:ab->Option (aa)
 |[]=>some []
 |.int i::ds=>(nA ds).map (i :: ·)
 |_::_=>none
theorem ny:∀ns:aa,nA (ns.map D.int)=some ns
 |[]=>rfl
 |n::ns=>by simp[nA,ny ns]
theorem sX:∀{ds:ab} {ns:aa},nA ds=some ns->ds=ns.map D.int
 |[],ns,h=>by simp[nA]at h;subst h;rfl
 |d::ds,ns,h=>by
  cases d<;>simp[nA]at h;obtain⟨ms,h1,rfl⟩:=h;rw[sX h1];rfl
def qy:az
 |[.lst .sc ds]=>match nA ds with
  |some ns=>if ns.length<=63 then ok (.bl true)else none
  |none=>none
 |_=>none
theorem ER(h:ns.length<=63):qy [.lst .sc (ns.map D.int)]=ok (.bl true):=by
 simp[qy,ny,h]
theorem Bl{n:Nat}{b:ah}(h:∀ns:aa,ns.length<=63->qi Φ n b [.lst .sc (ns.map D.int)]=ok (.bl true)):∀ds r,qy ds=ok r->ds.length=1/\qi Φ n b ds=ok r:=by
 intro ds r e
 match ds,e with
 |[.lst .sc ds],e =>
  simp only[qy]at e;split at e
  ·rename_i ns yN;split at e
   ·rename_i hl;cases e;obtain rfl:=sX yN;exact⟨rfl,h ns hl⟩
   ·cases e
  ·cases e
theorem JE(K:ao)(H:Hp)(a:Addr)(ns:aa)(m:az)(hm:m [.lst .sc (ns.map D.int)]=ok (.bl true))(hO:Gk H)(hS:dh K H a (ns.map V.int)):DW K 1 m [.ref a] H (λv _=>v=.bl true) λ_ _ _=>False:=by
 refine⟨λ_=>True,_,.bl true,rfl,.cons (.lst ?_ (aA.ints ns)) .nil,hm,λv H' _ bL=>by obtain⟨τt,_,rp⟩:=bL;cases rp;rfl⟩;rcases hS with (h|h)|h
 ·rcases hO a with z|⟨o,xs,z⟩
  ·rw[h]at z;cases z
  ·rw[h]at z;cases z
 ·exact .inl h
 ·exact .inr h
section
variable {X:Cx}{pins:aj}{σ:St}{H:Hp}{s:Shared}{h':Heap}
theorem v9(I:Inv X pins σ H s)(hf:∀b∈ch,og X pins H b)(k:∀b u,b∉ch->s.heap.get? b=some u->h'.get? b=some u):Inv X pins σ H { s with heap:=h',toks:=t' }:=by
 have G0:∀b u,H b=some u->b∉ch:=λb u e z=>by rw[(hf b z).1]at e;cases e
 refine I.step (g':=s.gens) (d':=s.drawn) (ch:=ch) (λb hb=>⟨(hf b hb).2.2.2.1,(hf b hb).2.1,(hf b hb).2.2.2.2.1,(hf b hb).2.2.2.2.2⟩) (λb o _ _ hc e _=>k b o hc e) (λb o _ _ hc e _=>⟨o.slots,k b o hc e⟩) (λ_ _ _ _ n=>n)
  (λb o hc e=>⟨o,k b o hc e⟩) (λ_ _ e=>e) (λ_ _ _ e=>e) (λb ps e=>⟨#[],by rw[e];simp⟩) (λm hm=>?_) (λb u e=>?_) I.bare
 ·obtain⟨o,es,ep,ho,r⟩:=hm;exact⟨o,es,ep,k _ o (λz=>(hf _ z).2.1 rfl) ho,r⟩
 ·refine(I.cM b u e).jZ (λc v hc q=>k c v ?_ q) (λ_ q=>q) λ_ _ q=>q;rcases hc with z|z
  ·rw[z];exact G0 b u e
  ·exact G0 c _ z
theorem v_{T:Addr}{o:HO}(I:Inv X pins σ H s)(hf:∀b∈ch,og X pins H b)(k:∀b u,b∉ch->s.heap.get? b=some u->h'.get? b=some u)(hT:s.heap.objs.size<=T)(new:cy X.prog X.w (upd H T o) h' T o):
  Inv X pins σ (upd H T o) { s with heap:=h',toks:=t' }:=by
 have G0:∀b u,H b=some u->b∉ch:=λb u e z=>by rw[(hf b z).1]at e;cases e
 have hn:H T=none:=I.cM.fresh hT;have ne:∀b (u:Obj),s.heap.get? b=some u->b≠T:=λb u e z=>absurd (aak e) (by rw[z];exact Nat.not_lt.mpr hT);have up:∀b u,H b=some u->upd H T o b=some u:=λb u e=>by rw[aX (ck e hn)];exact e
 refine I.step (g':=s.gens) (d':=s.drawn) (ch:=ch) (λb hb=>⟨(hf b hb).2.2.2.1,(hf b hb).2.1,(hf b hb).2.2.2.2.1,(hf b hb).2.2.2.2.2⟩) (λb o _ _ hc e _=>k b o hc e) (λb o _ _ hc e _=>⟨o.slots,k b o hc e⟩) (λb u _ e n=>by rw[aX (ne b u e)];exact n)
  (λb o hc e=>⟨o,k b o hc e⟩) (λ_ _ e=>up _ _ e) (λ_ _ _ e=>up _ _ e) (λb ps e=>⟨#[],by rw[up _ _ e];simp⟩) (λm hm=>?_) (xl (λb u e=>?_) hn new) I.bare
 ·obtain⟨o,es,ep,ho,r⟩:=hm;exact⟨o,es,ep,k _ o (λz=>(hf _ z).2.1 rfl) ho,r⟩
 ·refine(I.cM b u e).jZ (λc v hc q=>k c v ?_ q) (λ_ q=>q) λ_ _ q=>q;rcases hc with z|z
  ·rw[z];exact G0 b u e
  ·exact G0 c _ z
end
def VU(K:ao)(a b:Addr):It :=
  ⟨λi H=>∃xs ys x y,dh K H a xs/\dh K H b ys/\xs[i]?=some x/\ys[i]?=some y,
   λi H v H'=>∃T x y,(∀xs,dh K H a xs->xs[i]?=some x)/\(∀ys,dh K H b ys->ys[i]?=some y)/\H T=none/\v=.ref T/\H'=upd H T (.tup [x,y]),
   λi H=>∃xs ys,dh K H a xs/\dh K H b ys/\(xs.length<=i\/ys.length<=i)⟩
theorem p8{h:Heap}{T:Addr}{x y:V}{u v:Value}(rx:RelV x u)(ry:RelV y v)(e:h.get? T=some { cls:=.type "tuple",data:=.seq #[u,v] }):cy P w H h T (.tup [x,y]) :=
 ⟨by rw[sizeLine_eq];simp,[u,v],.cons rx (.cons ry .nil),⟨_,e,rfl,_,rfl⟩⟩
theorem bD{h:Heap}{a b:Addr}{u:Obj}(ha:h.get? a=some o)(hb:h.get? b=some u)(hc:o.cls≠u.cls):a≠b:=λz=>by
 subst z;rw[ha]at hb;cases hb;exact hc rfl
theorem z0{tp:Pos}{a b z TI TO:Addr}(UW:TI≠TO)(vy:i1≠i2):
  Turn P w K (.Tuple elts n1 tp) (VU K a b) [z,TI,TO,i1,i2] z (λi h=>IsZip h z TI TO .none/\IsPair h TI (.ref i1) (.ref i2)/\(∃x y,IsPair h TO x y)/\h.IsListIter i1 a i/\h.IsListIter i2 b i):=by
 have apart:∀{h:Heap} {x y:Value} {xs ys:aM} {i:Nat},IsZip h z TI TO .none->IsPair h TI (.ref i1) (.ref i2)->IsPair h TO x y->h.IsListIter i1 a i->h.IsListIter i2 b i->h.IsList a xs->h.IsList b ys->ZipApart z TI TO i1 i2 a b:=by
  intro h x y xs ys i hz hI hO l1 l2 ha hb;obtain⟨o1,e1,c1,_⟩:=l1;obtain⟨o2,e2,c2,_⟩:=l2;obtain⟨oa,ea,ca,_⟩:=ha;obtain⟨ob,eb,cb,_⟩:=hb;exact⟨bD hI hz (by simp),bD hO hz (by simp),bD e1 hz (by rw[c1];simp),bD e2 hz (by rw[c2];simp),UW,bD hI e1 (by rw[c1];simp),bD hI e2 (by rw[c2];simp),bD hO e1 (by rw[c1];simp),bD hO e2 (by rw[c2];simp),vy,
   bD ea hz (by rw[ca];simp),bD ea hO (by rw[ca];simp),bD ea e1 (by rw[ca,c1];simp),bD ea e2 (by rw[ca,c2];simp),bD eb hz (by rw[cb];simp),bD eb hO (by rw[cb];simp),bD eb e1 (by rw[cb,c1];simp),bD eb e2 (by rw[cb,c2];simp)⟩
 refine⟨by simp,λi h st c hc=>?_,λi h h' st k=>?_,?_,?_,λA i s Q E st hQ=>abo st.1 hQ⟩
 ·obtain⟨hz,hI,⟨x,y,hO⟩,⟨o1,e1,_,d1⟩,⟨o2,e2,_,d2⟩⟩:=st;simp only[List.mem_cons,List.not_mem_nil,or_false]at hc;rcases hc with rfl|rfl|rfl|rfl|rfl
  ·exact⟨_,hz,λv q=>by cases q⟩
  ·exact⟨_,hI,λv q=>by cases q⟩
  ·exact⟨_,hO,λv q=>by cases q⟩
  ·exact⟨o1,e1,λv q=>by rw[d1]at q;cases q⟩
  ·exact⟨o2,e2,λv q=>by rw[d2]at q;cases q⟩
 ·obtain⟨hz,hI,⟨x,y,hO⟩,l1,l2⟩:=st;exact⟨k z (by simp) _ hz,k TI (by simp) _ hI,⟨x,y,k TO (by simp) _ hO⟩,l1.at λo e=>k i1 (by simp) o e,l2.at λo e=>k i2 (by simp) o e⟩
 ·intro X hP hw hK hc i pins s σ H E I hf st hg;subst hP hw hK;obtain⟨xs,ys,x,y,q1,q2,ex,ey⟩:=hg;obtain⟨hz,hI,⟨x0,y0,hO⟩,l1,l2⟩:=st;obtain⟨aI,rv,p,_⟩:=I.list q1;obtain⟨its',uw,p',_⟩:=I.list q2;obtain⟨u,hu,ru⟩:=rv.get ex;obtain⟨u',tJ,SE⟩:=uw.get ey;have D:=apart hz hI hO l1 l2 p.isList p'.isList;refine wpAny_pyNext_zip_item D hz hI hO l1 l2 p.isList p'.isList (x:=u) (y:=u') (by simpa using hu) (by simpa using tJ) λh1 z1 o1 a1 b1 t1 Qw k1=>⟨_,rfl,?_⟩
  refine wpAny_letOwnedTupleGo_zip z1 λh2 z2 yr=>?_;have RH:s.heap.objs.size≠z:=aaz (aak hz);have kk:∀c o,c∉[z,TI,TO,i1,i2]->s.heap.get? c=some o->h2.get? c=some o:=λc o hc e=>by
   simp only[List.mem_cons,List.not_mem_nil,or_false,not_or]at hc;exact yr.extBut c o hc.1 (k1 c o hc.1 hc.2.2.1 hc.2.2.2.1 hc.2.2.2.2 e)
  have hT:h2.get? s.heap.objs.size=some { cls:=.type "tuple",data:=.seq #[u,u'] }:=yr.extBut _ _ RH t1;have hn:H s.heap.objs.size=none:=I.cM.fresh (aam _);refine⟨.ref s.heap.objs.size,upd H s.heap.objs.size (.tup [x,y]),v_ (s:=s) (h':=h2) (t':=s.toks) I hf kk (aam _) (p8 ru SE hT),rfl,⟨_,x,y,λzs hz=>by rw[I.iq hz q1];exact ex,λzs hz=>by rw[I.iq hz q2];exact ey,hn,rfl,rfl⟩,⟨z2,yr.extBut _ _ D.TIz (k1 _ _ D.TIz D.TITO D.TIi1 D.TIi2 hI),⟨_,_,yr.extBut _ _ D.TOz o1⟩,a1.extBut yr.extBut D.i1z,b1.extBut yr.extBut D.i2z⟩,λc hc=>?_⟩;rw[aX]
  ·exact(hf c hc).1
  ·intro z;subst z;simp only[List.mem_cons,List.not_mem_nil,or_false]at hc;rcases hc with e|e|e|e|e
   ·exact absurd (aak hz) (by rw[<- e];exact aaA _)
   ·exact absurd (aak hI) (by rw[<- e];exact aaA _)
   ·exact absurd (aak hO) (by rw[<- e];exact aaA _)
   ·obtain⟨_,w,_⟩:=l1;exact absurd (aak w) (by rw[<- e];exact aaA _)
   ·obtain⟨_,w,_⟩:=l2;exact absurd (aak w) (by rw[<- e];exact aaA _)
 ·intro X hP hw hK hc i pins s σ H E I hf st hg;subst hP hw hK;obtain⟨xs,ys,q1,q2,hl⟩:=hg;obtain⟨hz,hI,⟨x0,y0,hO⟩,l1,l2⟩:=st;obtain⟨aI,rv,p,_⟩:=I.list q1;obtain⟨its',uw,p',_⟩:=I.list q2;have e1:=rv.length;have e2:=uw.length;refine wpAny_pyNext_zip_end (I.ok.hd hc) (apart hz hI hO l1 l2 p.isList p'.isList) hz hI hO l1 l2 p.isList p'.isList (by simp;left) λh1 k1=>⟨rfl,v9 (t':=s.toks) I hf λc o hc e=>?_⟩
  simp only[List.mem_cons,List.not_mem_nil,or_false,not_or]at hc;exact k1 c o hc.1 hc.2.2.1 hc.2.2.2.1 hc.2.2.2.2 e
variable {ta:TA}
theorem IT{tp p:Pos}(hg:Gl X "zip")(hm:X.mg "zip" = none)(ha:PA X [e1,e2] ta)(hs:∀es,starEach (e1::es) X.env=(false,eval e1 X.env)::starEach es X.env)(Ha:∀es,starEach (e2::es) X.env=(false,eval e2 X.env)::starEach es X.env):
  PI X (.Tuple elts n1 tp) (.Call (.Name "zip" p) [e1,e2] [] pos) (λσ H R=>ta σ H λvs H1=>∃a b,vs=[.ref a,.ref b]/\(∃xs,dh X.K H1 a xs)/\(∃ys,dh X.K H1 b ys)/\R (VU X.K a b) H1):=by
 intro pins s σ H R I h;refine Call_ (dS I hg hm boot_zip (aaB (cS (ha pos pins s σ H _ I h) λus s1 bL=>?_) (hs _) (by rw[Ha];rfl)));obtain⟨vs,H1,I1,r1,q1⟩:=bL;obtain⟨a,b,e,⟨xs,q1⟩,⟨ys,q2⟩,q⟩:=q1;subst e;obtain⟨u,v,rfl,ru,rv⟩:=vals2 r1;cases ru;cases rv;obtain⟨aI,_,p1,_⟩:=I1.list q1;obtain⟨its',_,p2,_⟩:=I1.list q2;refine call_zip_2 p1.isList p2.isList λh' z t o l1 l2 sz k=>abo z ?_;refine⟨s1.heap.objs.size+4,[s1.heap.objs.size+4,s1.heap.objs.size+2,s1.heap.objs.size+3,s1.heap.objs.size,s1.heap.objs.size+1],_,_,H1,rfl,I1.kept (t':=s1.toks) k,z0 (aas (aa0 _)) (aas (aa0 _)),⟨z,t,⟨_,_,o⟩,l1,l2⟩,λb hb=>?_,q⟩;have oI:s1.heap.objs.size<=b:=by
  simp only[List.mem_cons,List.not_mem_nil,or_false]at hb;rcases hb with rfl|rfl|rfl|rfl|rfl<;>first|exact acn .. |exact aam _
 exact I1.yZ oI (I1.cM.fresh oI)
def fS(sc:Scope)(bl:aq)(e:Expr):Option (av):=match dP e with
 |some z=>match two z.2 with
  |some _=>if z.1=("zip" : Str)/\gz sc z.1=true/\z.1∈bl then some z.2 else none
  |none=>none
 |none=>none
theorem lh{sc:Scope}{bl:aq}{e:Expr}(h:fS sc bl e=some args):∃p pos a b,e=.Call (.Name ("zip" : Str) p) [a,b] [] pos/\args=[a,b]/\gz sc ("zip" : Str)=true/\("zip" : Str)∈bl:=by
 unfold fS at h;cases hv:dP e with
 |none=>rw[hv]at h;exact nk h
 |some z =>
  obtain⟨x,as⟩:=z;rw[hv]at h;obtain⟨p,pos,rfl⟩:=cO hv;have h:(match two as with|some _=>if x=("zip" : Str)/\gz sc x=true/\x∈bl then some as else none|none=>none)=some args:=h;cases hw:two as with
  |none=>rw[hw]at h;exact nk h
  |some w =>
   obtain⟨a,b⟩:=w;rw[hw]at h;have h:(if x=("zip" : Str)/\gz sc x=true/\x∈bl then some as else none)=some args:=h;obtain rfl:=fN hw;by_cases hc:x=("zip" : Str)/\gz sc x=true/\x∈bl
   ·rw[if_pos hc]at h;cases h;obtain⟨rfl,h1,h2⟩:=hc;exact⟨_,_,_,_,rfl,rfl,h1,h2⟩
   ·rw[if_neg hc]at h;cases h
theorem ig{a b:Expr}(h:l9 X F Φ cs [a,b]):(∃c d,cs=[c,d]/\PE X a (tD X F Φ c)/\PE X b (tD X F Φ d))/\PA X [a,b] (si X F Φ cs)/\(∀es,starEach (a::es) X.env=(false,eval a X.env)::starEach es X.env)/\(∀es,starEach (b::es) X.env=(false,eval b X.env)::starEach es X.env):=by
 match cs,h with
 |[c,d],h =>
  obtain⟨h1,h2,_,h3,h4,_,_⟩:=h;exact⟨⟨c,d,rfl,h1,h3⟩,PA.imp (cA h1 (PA.imp (cA h3 (PA.imp dR λ_ _ _ h=>jX h) (h4 _)) λ_ _ _ h=>gh h) (h2 _)) λ_ _ _ h=>gh h,h2,h4⟩
 |[],h=>exact h.elim
 |[_],h=>exact h.2.2.2.elim
 |_::_::_::_,h=>exact h.2.2.2.2.2.2.elim
theorem Rep.Qt{k:bj}{v:V}{d:D}(e:aJ H H')(h:Rep (aU K H) (nd K R (λ_=>False) (λ_=>none) H) k v d):Rep (aU K H') (nd K R (λ_=>False) (λ_=>none) H') k' v d :=
 (Rep.qx h (k':=k')).imp (λ_ _ h=>aU.same e h) λ_ _ _ _ h=>nd.same e h
variable {g:Fl}
theorem Dq{p q:Addr}{f:Fl}{a b:ab}:Hy K (VU K p q) H2 [.ref p,.ref q] [.lst f a,.lst g b] (aB aW (List.zipWith (λx y=>.tup [x,y]) a b)):=by
 have len:(aB aW (List.zipWith (λx y=>D.tup [x,y]) a b)).length=min a.length b.length:=by rw[aQ];simp
 have two:∀{H':Hp} {R':ai},aA (aU K H') (nd K R' (λ_=>False) (λ_=>none) H') [] 0 [.ref p,.ref q] (aB aW [.lst f a,.lst g b]) ->
   ∃xs ys,dh K H' p xs/\dh K H' q ys/\aA (aU K H') (nd K R' (λ_=>False) (λ_=>none) H') [0] 0 xs (aB aW a)/\aA (aU K H') (nd K R' (λ_=>False) (λ_=>none) H') [1] 0 ys (aB aW b):=by
  intro H' R' h;rw[aB,aT,aB,aT,aB]at h;cases h with
  |cons h t=>cases t with
   |cons h' t=>cases h with
    |lst h r=>cases h' with
     |lst h' r'=>exact⟨_,_,h.sq,h'.sq,r,r'⟩
 refine⟨λi H' R' _ h hi=>?_,λi H' R' x lP _ h hi hy=>?_,λi H' R' _ h hi=>?_⟩
 ·obtain⟨xs,ys,h1,h2,r1,r2⟩:=two h;rw[len]at hi;have l1:=r1.length;have l2:=r2.length;rw[aQ,List.length_map]at l1 l2;exact⟨xs,ys,xs[i]'(by left),ys[i]'(by left),h1,h2,aao _,aao _⟩
 ·obtain⟨xs,ys,h1,h2,r1,r2⟩:=two h;obtain⟨T,u,v,g1,g2,hn,rfl,rfl⟩:=hy;obtain⟨d1,e1,p1⟩:=r1.tR (g1 xs h1);obtain⟨d2,e2,p2⟩:=r2.tR (g2 ys h2);have es:aJ H' (upd H' T (.tup [u,v])):=aJ.upd hn;refine⟨es,.tup [d1,d2],?_,.tup (aU.of aS) (.cons (p1.Qt es) (.cons (p2.Qt es) .nil))⟩;rw[aQ,List.getElem?_map]at e1 e2 ⊢;obtain⟨c1,q1,rfl⟩:=Option.map_eq_some_iff.mp e1;obtain⟨c2,q2,rfl⟩:=Option.map_eq_some_iff.mp e2;rw[List.getElem?_zipWith,q1,q2];simp[aT,aB]
 ·obtain⟨xs,ys,h1,h2,r1,r2⟩:=two h;rw[len]at hi;have l1:=r1.length;have l2:=r2.length;rw[aQ,List.length_map]at l1 l2;exact⟨xs,ys,h1,h2,by left⟩
theorem HF{n:Nat}(hΦ:Φ n=oq){sc:Scope}{bl:aq}{k:Nat}(L:PX X sc bl k){e:Expr}(he:fS sc bl e=some args)(ht:fQ tg=true)(hs:l9 X F Φ cs args)
  {pins:aj} {s:Shared} {xs:ab} {d:D} (I:Inv X pins σ H s) (Si:SI X F R τ ρ σ H) (cK:cu Φ cs ρ=ok xs) (ed:Φ n xs=ok d) (ei:i_ d=ok items) (Rr:It->Hp->Prop)
  (hR:∀J H2 vs,aJ H H2->cg X.K (gP X F) R τ (cW cs) H H2 vs xs->Hy X.K J H2 vs xs items->Rr J H2) :
  wpAny (model X.prog X.w) X.A (eval e X.env) (λv s1=>wpAny (model X.prog X.w) X.A (pyIter v) (zF X pins σ tg Rr) X.xe s1) X.xe s:=by
 obtain⟨p,pos,a,b,rfl,rfl,h1,h2⟩:=lh he;cases tg<;>try (cases ht;done)
 obtain⟨_,pa,s1,s2⟩:=ig hs;refine IT (L.gl h1) (L.bl _ h2) pa s1 s2 pins s σ H Rr I ⟨R,τ,ρ,xs,Si,cK,λvs H1 e1 rv=>?_⟩;have Sz:=rv;obtain⟨τt,fr,rs⟩:=rv;rw[hΦ]at ed;unfold oq at ed;split at ed
 ·cases ed;cases ei;obtain⟨v,w,rfl,rx,ry⟩:=rs.two;cases rx with
  |lst hx _=>cases ry with
   |lst hy _=>exact⟨_,_,rfl,⟨_,hx.sq⟩,⟨_,hy.sq⟩,hR _ H1 _ e1 Sz Dq⟩
 ·cases ed
section
variable {X:Cx}
end
def iC(f:Str)(sc:Scope)(bl:aq)(e:Expr):Option (av):=match dP e with
 |some z=>match one z.2 with
  |some _=>if z.1=f/\gz sc z.1=true/\z.1∈bl then some z.2 else none
  |none=>none
 |none=>none
theorem pS{f:Str}{sc:Scope}{bl:aq}{e:Expr}(h:iC f sc bl e=some args):∃p pos a,e=.Call (.Name f p) [a] [] pos/\args=[a]/\gz sc f=true/\f∈bl:=by
 unfold iC at h;cases hv:dP e with
 |none=>rw[hv]at h;exact nk h
 |some z =>
  obtain⟨x,as⟩:=z;rw[hv]at h;obtain⟨p,pos,rfl⟩:=cO hv;have h:(match one as with|some _=>if x=f/\gz sc x=true/\x∈bl then some as else none|none=>none)=some args:=h;cases hw:one as with
  |none=>rw[hw]at h;exact nk h
  |some a =>
   rw[hw]at h;have h:(if x=f/\gz sc x=true/\x∈bl then some as else none)=some args:=h;obtain rfl:=bY hw;by_cases hc:x=f/\gz sc x=true/\x∈bl
   ·rw[if_pos hc]at h;cases h;obtain⟨rfl,h1,h2⟩:=hc;exact⟨_,_,_,rfl,rfl,h1,h2⟩
   ·rw[if_neg hc]at h;cases h
section
variable {prog:aE}{w:World}{A:aD}{E:aw}{s:Shared}
def rB(h:Heap)(vs:ak)(nss:ag):Prop:=vs.length=nss.length/\∀(i:Nat) (ns:aa),nss[i]?=some ns->∃t aI,vs[i]?=some (.ref t)/\IsTup h t aI.toArray/\IntsAre aI ns/\ns≠[]
theorem tq{fin:Bool}{Q:Bool->Shared->Prop}:∀{aI EV:ak} {ns ms:aa} (i:Nat),IntsAre aI ns->IntsAre EV ms->fin=decide (aI.length<EV.length)->Q (HT.lexLt ns ms) s->PySem.W.KatLex prog w A true fin Q (aI.zip EV) i s
 |_,_,_,_,i,.nil,.nil,hf,h=>by subst hf;exact h
 |_,_,_,_,i,.nil,.cons _ _ _,hf,h=>by subst hf;exact h
 |_,_,_,_,i,.cons _ _ _,.nil,hf,h=>by subst hf;exact h
 |_,_,_,_,i,.cons (ns:=ns) a t h1,.cons (ns:=ms) b u h2,hf,h=>by
  rw[HT.dq]at h;refine PySem.W.kat_cons (wpAny_eqBool_int (PySem.W.kat_go (λe=>?_) λe=>?_))
  ·have e:a=b:=by simpa using e
   rw[if_pos e]at h;exact PySem.W.kat_yes (tq (i+1) h1 h2 (by rw[hf];simp) h)
  ·have e:¬ a=b:=by simpa using e
   rw[if_neg e]at h;refine PySem.W.kat_no ?_;rw[Bool.true_and];cases i==0 with
   |true=>exact oneLt_int h
   |false=>exact PySem.W.kat_one _ _ (lt_int h)
theorem rB.mono{h:Heap}{vs:ak}{nss:ag}(k:∀b o,h.get? b=some o->h'.get? b=some o)(t:rB h vs nss):rB h' vs nss :=
 ⟨t.1,λi ns e=>let ⟨a,aI,e1,⟨o,ho,r⟩,e3⟩:=t.2 i ns e;⟨a,aI,e1,⟨o,k _ _ ho,r⟩,e3⟩⟩
end
noncomputable def dQ(ns:aa):D:=.tup (ns.map D.int)
theorem j0{p a:Addr}{ys:ae}{o:HO}(hp:H p=some (.lst xs))(h:aU K H a ys):aU K (upd H p o) a ys:=by
 rcases h with (h|⟨o',h⟩)|h
 ·exact .inl (.inl (by rw[aX (λz=>by subst z;rw[hp]at h;cases h)];exact h))
 ·exact .inl (.inr ⟨o',by rw[aX (λz=>by subst z;rw[hp]at h;cases h)];exact h⟩)
 ·exact .inr h
theorem EJ{n i:Nat}{xs:ab}{r:Fo×a_}(ev:vb Φ n i (nu cs xs ρ)=ok r)(ha:aP bJ xs=false):∃d d',ρ[i]?=some (some d)/\Φ n (d::xs)=ok d'/\r=(.nx,ρ.set i (some d')):=by
 unfold nu at ev;rw[if_neg (by rw[ha];exact Bool.false_ne_true)]at ev;unfold vb at ev;split at ev
 ·rename_i d hd;obtain⟨d',h1,h2⟩:=aG ev;cases h2;exact⟨d,d',hd,h1,rfl⟩
 ·cases ev
theorem Jr{n i:Nat}{xs:ab}{r:Fo×a_}(ev:vb Φ n i (nu cs xs ρ)=ok r)(ha:aP bJ xs=true):∃d d',Φ n (d::aB aW xs)=ok d':=by
 unfold nu at ev;rw[if_pos ha]at ev;unfold vb at ev;split at ev
 ·rename_i d hd;obtain⟨d',h1,h2⟩:=aG ev;exact⟨d,d',h1⟩
 ·cases ev
def NH:D->Option (ab)
 |.lst f ds=>if cB f then some ds else none
 |_=>none
theorem Jb{d:D}(h:NH d=some ds):d=.lst .ow ds:=by
 cases d<;>first|exact nk h | (cases h;done)|skip
 rename_i f es;have h:(if cB f then some es else none)=some ds:=h;cases f<;>first | (cases h;rfl) | (cases h;done)
def oU(m:Str)(st:Stmt):Option (Expr×av):=match My st with
 |some c=>match jo c with
  |some z=>match lA z.1 with
   |some y=>if y.2.1=m/\z.2.2.1=[]/\(y.2.2.endLine==z.2.2.2.line)=true then some (y.1,z.2.1)else none
   |none=>none
  |none=>none
 |none=>none
theorem rX{m:Str}{o:Expr}{as:av}(h:oU m st=some (o,as)):∃p1 p2 pos,st=.Expr (.Call (.Attribute o m p1) as [] p2) pos/\(p1.endLine==p2.line)=true:=by
 unfold oU at h;cases h1:My st with
 |none=>rw[h1]at h;exact nk h
 |some c =>
  obtain⟨pos,rfl⟩:=uF h1;rw[h1]at h;cases h2:jo c with
  |none=>simp only[h2]at h;cases h
  |some z =>
   obtain⟨f,RA,ks,p2⟩:=z;obtain rfl:=iN h2;simp only[h2]at h;cases h3:lA f with
   |none=>simp only[h3]at h;cases h
   |some y =>
    obtain⟨o',a,p1⟩:=y;obtain rfl:=jV h3;simp only[h3]at h;by_cases hc:a=m/\ks=[]/\(p1.endLine==p2.line)=true
    ·rw[if_pos hc]at h;cases h;obtain⟨rfl,rfl,hl⟩:=hc;exact⟨p1,p2,pos,rfl,hl⟩
    ·rw[if_neg hc]at h;cases h
noncomputable def oW(J:Nat)(d:D):Nat->ab->ab
 |_,[]=>[]
 |n,x::xs=>(if n=J then d else x)::oW J d (n+1) xs
theorem aA.oW{T T':kG}{N N':hU}{q:bj}{J:Nat}{d:D}(hT:∀p xs,T p xs->T' p xs)(hN:∀c m p xs f,m≠J->N (c++(m::q)) p xs f->N' (c++(m::q)) p xs f):∀{n:Nat} {vs:ae} {ds:ab},aA T N q n vs ds->(∀k v,vs[k]?=some v->n+k=J->Rep T' N' (J::q) v d)->aA T' N' q n vs (DI.oW J d n ds)
 |_,_,_,.nil,_=>.nil
 |n,_,_,.cons (d:=x) h t,hj=>by
  refine .cons ?_ (aA.oW hT hN t λk v e z=>hj (k+1) v e (by left));by_cases hn:n=J
  ·rw[if_pos hn];subst hn;exact hj 0 _ rfl rfl
  ·rw[if_neg hn];exact h.imp (q:=n::q) (q':=n::q) hT λc p xs f h=>hN c n p xs f hn h
section
variable {X:Cx}{F R:ai}{τ:Addr->Option bj}{ρ:a_}{σ:St}{H:Hp}
theorem SI.QU{p a:Addr}{q q0:bj}{n:Nd}{f:Fl}{o:HO}(Si:SI X F R τ ρ σ H)(hp:H p=some (.lst xs))(ht:τ p=some q0)(hq:q≠q0)(h:nd X.K R (λ_=>False) τ H q a n f):nd X.K R (λ_=>False) τ (upd H p o) q a n f:=by
 have low:∀{a:Addr} {z:Nd},a≠p->dO H a z->dO (upd H p o) a z:=λne h=>h.at λu e=>by rw[aX ne];exact e
 cases f with
 |ow=>exact⟨low (λz=>by subst z;exact hq (aax (h.2.symm.trans ht))) h.1,h.2⟩
 |fz=>exact⟨low (λz=>by subst z;rw[Si.rt _ h.2]at ht;cases ht) h.1,h.2⟩
 |al=>exact h.2.elim
 |sc =>
  obtain⟨ys,rfl,h⟩:=h.Aq;exact h.elim (λ⟨o',w⟩=>.inl ⟨o',by rw[aX (λz=>by subst z;rw[hp]at w;cases w)];exact w⟩) .inr
theorem SI.clr{i j:Nat}{d1:D}{p:Addr}{ys:ae}(Si:SI X F R τ ρ σ H)(hi:ρ[i]?=some (some d0))(hp:H p=some (.lst xs))(ht:τ p=some [j,i])
  {v:V} (hv:σ[i]?=some (some v)) (hb:Rep (aU X.K (upd H p (.lst ys))) (nd X.K R (λ_=>False) τ (upd H p (.lst ys))) [i] v d1):SI X F R τ (ρ.set i (some d1)) σ (upd H p (.lst ys)):=by
 have L4:i<ρ.length:=by
  by_cases z:i<ρ.length
  ·exact z
  ·rw[List.getElem?_eq_none (by left)]at hi;cases hi
 have there:∀a,H a≠none->upd H p (.lst ys) a≠none:=λa h=>by
  by_cases z:a=p
  ·rw[z,aS];simp
  ·rw[aX z];exact h
 refine⟨by simp[Si.len],λm d hm=>?_,Si.rt,λa ha=>there a (Si.rh a ha),Si.rf,λa q e=>there a (Si.th a q e),Si.t0,λa u e=>?_⟩
 ·by_cases z:m=i
  ·subst z;rw[List.getElem?_set_self L4]at hm;cases hm;exact⟨v,hv,hb⟩
  ·rw[List.getElem?_set_ne (Ne.symm z)]at hm;obtain⟨v,h1,h2⟩:=Si.rep m d hm;refine⟨v,h1,h2.imp (q:=[m]) (q':=[m]) (λ_ _ h=>j0 hp h) λc a n f h=>Si.QU hp ht (λe=>?_) h⟩;have:=aaU List.getLast? e;simp at this;exact z this
 ·rw[aX (λz=>by subst z;rw[Si.t0 _ _ ht]at e;cases e)];exact Si.same a u e
end
variable {ys:aM}
section
variable {prog:aE}{w:World}{A:aD}{E:aw}{s:Shared}
theorem r_{l:Addr}:∀{s:Shared} {i:Nat} {Q E:aw},s.heap.IsTupleIter it l i->(∀o,s.heap.get? it=some o->o.cls=.type "tuple_iterator" -> o.data=.fields #[.ref l,.int i 0]->wpAny (model prog w) A.in1 (Builtin.«tuple_iterator.__next__» ⟨[.ref it],[]⟩) (λfin s'=>∃v,fin=.done (.ret v)/\Q v s') E s)->wpAny (model prog w) A (Builtin.SmallTypes.nextOf (.ref it)) Q E s:=by
 intro s i Q E hit h;obtain⟨o,ho,hc,hd⟩:=id hit;unfold Builtin.SmallTypes.nextOf;exact aaa (aaS (name:=Str.ofString "__next__") hit.typeIs F.slot_tuple_iterator_next (aaL F.slot_tuple_iterator_next hit.typeIs F.entry_tuple_iterator_next (aaF (h o ho hc hd) (λfin s' ⟨v,e,q⟩=>⟨v,e,aab q⟩) λ_ _ e=>e) (F.args_tuple_iterator_next_1 _)))
def Ends(prog:aE)(w:World)(A:aD)(it:Addr)(S:Heap->Prop):Prop:=∀(s:Shared) (Q E:aw),S s.heap->(∀h' e,Heap.ExtBut it s.heap h'->(∃o,h'.get? e=some o/\o.cls=.type "StopIteration")->E (.ref e) { s with heap:=h' })->wpAny (model prog w) A (Builtin.SmallTypes.nextOf (.ref it)) Q E s
theorem oY(hh:A.handled=none){l:Addr}{items:aM}{i:Nat}(hi:items[i]?=none):Ends prog w A it (λh=>h.IsTupleIter it l i/\h.IsTuple l items):=by
 intro s Q E st hE;refine r_ st.1 λo ho hc hd=>?_;obtain⟨ol,Ur,_,nl,Q5⟩:=id st.2;show wpAny _ _ (field (.ref it) 0 >>= _) _ _ _;refine aaa (aaJ ho hd (x:=.ref l) rfl ?_);rw[if_neg (show ¬ (Value.ref l==Value.none)=true from Bool.false_ne_true)];refine aaa (aaJ ho hd (x:=.int i 0) rfl (aaa (aaN Ur Q5 ?_)));simp only[Int.toNat_natCast,hi];refine aaa (aba (aaa (ab6 ho hd (by simp) ?_)));show wpAny _ _ (newExc (.type "StopIteration") [] >>= _) _ _ _;refine aaa ?_;simp only[newExc,newTuple];refine aaa (aa4 (aaa (m:=firstArgMember _ _) (wpAny_of_eq (a:=Value.none) (by first|rfl | (simp only[firstArgMember];rfl)) (aa4 ?_ (by size_fits)))) (by size_fits));simp only[raiseNew];refine aaa (wpAny_handled ?_);rw[show A.in1.in1.handled=none from hh];exact aaa (aab (wpAny_throw (hE _ _ (((aaV ..).extBut.push _).push _) ⟨_,aat _ rfl,rfl⟩)))
theorem lK(hh:A.handled=none)(it l:Addr)(Fh:l≠it)(items:aM):Draws prog w A it [it,l] items.size (λi v=>items[i]?=some v) (λi h=>h.IsTupleIter it l i/\h.IsTuple l items):=by
 refine⟨λ_ _ st=>let ⟨o,ho,_⟩:=st.1;⟨o,ho⟩,λ_ _ _ st hk=>?_,λi s Q E hi st hQ=>?_,λs Q E st hE=>?_⟩
 ·obtain⟨⟨o,ho,r⟩,o',eF,r'⟩:=st;exact⟨⟨o,hk it (by simp) o ho,r⟩,o',hk l (by simp) o' eF,r'⟩
 ·refine r_ st.1 λo ho hc hd=>?_;obtain⟨ol,Ur,_,nl,Q5⟩:=id st.2;show wpAny _ _ (field (.ref it) 0 >>= _) _ _ _;refine aaa (aaJ ho hd (x:=.ref l) rfl ?_);rw[if_neg (show ¬ (Value.ref l==Value.none)=true from Bool.false_ne_true)];refine aaa (aaJ ho hd (x:=.int i 0) rfl (aaa (aaN Ur Q5 ?_)));simp only[Int.toNat_natCast,show items[i]?=some items[i] by simp[hi]];refine aaa (ab6 ho hd (by simp) (aab ⟨_,rfl,hQ _ _ s.toks (by simp[hi]) ⟨?_,st.2.extBut (aaV ..).extBut Fh⟩ (aaV ..)⟩));exact⟨_,aaW _ ho (Obj.isFreed_of_fields (Obj.data_mapFields hd _)),(Obj.cls_mapFields ..).trans hc,by rw[Obj.data_mapFields hd];simp[rawInt]⟩
 ·exact oY hh (by simp) s Q E st hE
structure vS(z TI TO i1 i2:Addr)(f1 f2:aN):Prop where
 n1:TI≠z/\TO≠z/\i1≠z/\i2≠z
 n2:TI≠TO/\TI≠i1/\TI≠i2/\TO≠i1/\TO≠i2/\i1≠i2
 f1:z∉f1/\TO∉f1/\i2∉f1
 f2:z∉f2/\TO∉f2/\i1∉f2
theorem dY{c:Addr}{n i:Nat}{P:Nat->Value->Prop}{St:Nat->Heap->Prop}{h:Heap}(D:Draws prog w A it fp n P St)(hs:Heap.SameBut c h h')(hc:c∉fp)(st:St i h):St i h':=D.frame i h h' st λb hb o e=>hs.extBut b o (λz=>hc (z▸hb)) e
section
variable {z TI TO i1 i2:Addr}{f1 f2:aN}{n1 n2 k:Nat}{P1 P2:Nat->Value->Prop}{S1 S2:Nat->Heap->Prop}{a b:Value}
theorem yd{Q:aw}(D1:Draws prog w A i1 f1 n1 P1 S1)(D2:Draws prog w A i2 f2 n2 P2 S2)(ap:vS z TI TO i1 i2 f1 f2)(hz:IsZip s.heap z TI TO .none)(xq:IsPair s.heap TI (.ref i1) (.ref i2))(C8:IsPair s.heap TO a b)(GI:S1 k s.heap)(DS:S2 k s.heap)(l1:k<n1)(l2:k<n2)
  (hQ:∀x y h' tk,P1 k x->P2 k y->IsZip h' z TI TO (rawInt s.heap.objs.size)->IsPair h' TO x y->S1 (k+1) h'->S2 (k+1) h'->IsPair h' s.heap.objs.size x y->(∀c o,c≠z->c≠TO->c≠i1->c≠i2->s.heap.get? c=some o->h'.get? c=some o)->Q (.ref s.heap.objs.size) { s with heap:=h',toks:=tk }) :
  wpAny (model prog w) A (Builtin.«zip.__next__» ⟨[.ref z],[]⟩) (λfin s'=>∃v,fin=.done (.ret v)/\Q v s') E s:=by
 obtain⟨⟨TIz,TOz,i1z,i2z⟩,⟨TITO,TIi1,TIi2,TOi1,TOi2,i12⟩,⟨zf1,TOf1,i2f1⟩,zf2,TOf2,i1f2⟩:=ap;show wpAny _ _ (field (.ref z) 2 >>= _) _ _ _;refine aaa (aaJ hz rfl (x:=.bool false) rfl (aaa (aaJ hz rfl (x:=.ref TI) rfl (aaa (aaN xq rfl ?_)))));show wpAny _ _ (Builtin.SmallTypes.ownedTupleIsFree (.ref z) >>= _) _ _ _;unfold Builtin.SmallTypes.ownedTupleIsFree;refine aaa (aaa (aaJ hz rfl (x:=.none) rfl (aab ?_)));simp only[if_true];refine aaa (aba (aaa (aaJ hz rfl (x:=.ref TO) rfl (aaa (aa7 hz (by simp) λg1 z1 e1=>aaa ?_)))));replace z1:IsZip g1 z TI TO .ellipsis:=z1;simp only[List.zipIdx_cons,List.zipIdx_nil,List.forIn_cons,List.forIn_nil];refine aaa (aaa (aci ?_));show wpAny _ _ (Builtin.SmallTypes.nextOf (.ref i1) >>= _) _ _ _;refine aaa (D1.item k _ _ _ l1 (dY D1 e1 zf1 GI) λx g2 tk p1 MV e2=>aab ?_);have t2:IsPair g2 TO a b:=e2.extBut _ _ TOi1 (e1.extBut _ _ TOz C8);refine aaa (aaN t2 rfl (aaa (abX t2 λg3 t3 e3=>aaa (wpAny_letGo (aab (aaa (aaa (aci ?_))))))));replace t3:IsPair g3 TO x b:=t3;show wpAny _ _ (Builtin.SmallTypes.nextOf (.ref i2) >>= _) _ _ _;refine aaa (D2.item k _ _ _ l2 (dY D2 e3 TOf2 (dY D2 e2 i1f2 (dY D2 e1 zf2 DS))) λy g4 RS p2 Sg e4=>aab ?_);have t4:IsPair g4 TO x b:=e4.extBut _ _ TOi2 t3;refine aaa (aaN t4 rfl (aaa (abX t4 λg5 t5 e5=>aaa (wpAny_letGo (aab (aab ?_))))));replace t5:IsPair g5 TO x y:=t5;refine aaa (aaN t5 rfl (aaa (wpAny_newTuple ?_)));have sz:g5.objs.size=s.heap.objs.size:=by rw[e5.1,e4.1,e3.1,e2.1,e1.1]
 have kp:∀c o,c≠z->c≠TO->c≠i1->c≠i2->s.heap.get? c=some o->g5.get? c=some o:=λc o c1 c2 c3 c4 e=>e5.extBut _ _ c2 (e4.extBut _ _ c4 (e3.extBut _ _ c2 (e2.extBut _ _ c3 (e1.extBut _ _ c1 e))));have z5:IsZip g5 z TI TO .ellipsis:=e5.extBut _ _ (aaK TOz) (e4.extBut _ _ (aaK i2z) (e3.extBut _ _ (aaK TOz) (e2.extBut _ _ (aaK i1z) z1)));have zl:z<g5.objs.size:=aak z5;show wpAny _ _ (Builtin.SmallTypes.ownedTupleHandOut (.ref z) (.ref g5.objs.size) >>= _) _ _ _;unfold Builtin.SmallTypes.ownedTupleHandOut;refine aaa (aaa (aa7 (aaj _ z5) (by simp) λg7 z7 e7=>?_));replace z7:IsZip g7 z TI TO (rawInt g5.objs.size):=z7;refine aa7 z7 (by simp) λg8 z8 e8=>aab ⟨_,rfl,?_⟩;replace z8:IsZip g8 z TI TO (rawInt g5.objs.size):=z8;have up:∀c o,c≠z->g5.get? c=some o->g8.get? c=some o:=λc o c1 e=>e8.extBut _ _ c1 (e7.extBut _ _ c1 (aaj _ e));have t8:IsPair g8 g5.objs.size x y:=e8.extBut _ _ (aaz zl) (e7.extBut _ _ (aaz zl) (aat _ rfl));have f8:∀{fp:aN},z∉fp->∀c∈fp,∀o,g5.get? c=some o->g8.get? c=some o:=λhf c hc o e=>up c o (λq=>hf (q▸hc)) e;have s1:S1 (k+1) g8:=D1.frame _ _ _ (dY D1 e5 TOf1 (dY D1 e4 i2f1 (dY D1 e3 TOf1 MV))) (f8 zf1);have s2:S2 (k+1) g8:=D2.frame _ _ _ (dY D2 e5 TOf2 Sg) (f8 zf2);show Q (.ref g5.objs.size) _;rw[sz]at z8 t8 ⊢;exact hQ x y g8 RS p1 p2 z8 (up _ _ TOz t5) s1 s2 t8 λc o c1 c2 c3 c4 e=>up c o c1 (kp c o c1 c2 c3 c4 e)
theorem zO{Q:PySem.Fin->Shared->Prop}(D1:Draws prog w A i1 f1 n1 P1 S1)(D2:Draws prog w A i2 f2 n2 P2 S2)(ap:vS z TI TO i1 i2 f1 f2)(hz:IsZip s.heap z TI TO .none)(xq:IsPair s.heap TI (.ref i1) (.ref i2))(C8:IsPair s.heap TO a b)(GI:S1 k s.heap)(DS:S2 k s.heap)(hl:Ends prog w A i1 (S1 k)\/(k<n1/\Ends prog w A i2 (S2 k)))
  (hE:∀h' e tk,(∀c o,c≠z->c≠TO->c≠i1->c≠i2->s.heap.get? c=some o->h'.get? c=some o)->(∃o,h'.get? e=some o/\o.cls=.type "StopIteration")->E (.ref e) { s with heap:=h',toks:=tk }) :
  wpAny (model prog w) A (Builtin.«zip.__next__» ⟨[.ref z],[]⟩) Q E s:=by
 obtain⟨⟨TIz,TOz,i1z,i2z⟩,⟨TITO,TIi1,TIi2,TOi1,TOi2,i12⟩,⟨zf1,TOf1,i2f1⟩,zf2,TOf2,i1f2⟩:=ap;have ends:∀{g:Heap} {e:Addr} {tk:Nat},IsZip g z TI TO .ellipsis->(∃o,g.get? e=some o/\o.cls=.type "StopIteration")->(∀c o,c≠z->c≠TO->c≠i1->c≠i2->s.heap.get? c=some o->g.get? c=some o)->wpAny (model prog w) A (setField (.ref z) 0 .none) (λ_ s'=>E (.ref e) s') E ({ s with heap:=g,toks:=tk }:Shared):=by
  intro g e tk zg ⟨o,ho,hc⟩ kp;refine aa7 zg (by simp) λg' _ e'=>hE g' e tk (λc o c1 c2 c3 c4 x=>e'.extBut _ _ c1 (kp c o c1 c2 c3 c4 x)) ⟨o,e'.extBut _ _ (λq=>?_) ho,hc⟩;subst q;rw[zg]at ho;cases ho;simp at hc
 show wpAny _ _ (field (.ref z) 2 >>= _) _ _ _;refine aaa (aaJ hz rfl (x:=.bool false) rfl (aaa (aaJ hz rfl (x:=.ref TI) rfl (aaa (aaN xq rfl ?_)))));show wpAny _ _ (Builtin.SmallTypes.ownedTupleIsFree (.ref z) >>= _) _ _ _;unfold Builtin.SmallTypes.ownedTupleIsFree;refine aaa (aaa (aaJ hz rfl (x:=.none) rfl (aab ?_)));simp only[if_true];refine aaa (aba (aaa (aaJ hz rfl (x:=.ref TO) rfl (aaa (aa7 hz (by simp) λg1 z1 e1=>aaa ?_)))));replace z1:IsZip g1 z TI TO .ellipsis:=z1;simp only[List.zipIdx_cons,List.zipIdx_nil,List.forIn_cons,List.forIn_nil];refine aaa (aaa (aci ?_));show wpAny _ _ (Builtin.SmallTypes.nextOf (.ref i1) >>= _) _ _ _;rcases hl with d1|⟨l1,d2⟩
 ·exact aaa (d1 _ _ _ (dY D1 e1 zf1 GI) λg2 e e2 he=>ends (e2 _ _ (aaK i1z) z1) he λc o c1 _ c3 _ x=>e2 _ _ c3 (e1.extBut _ _ c1 x))
 ·refine aaa (D1.item k _ _ _ l1 (dY D1 e1 zf1 GI) λx g2 tk p1 MV e2=>aab ?_);have t2:IsPair g2 TO a b:=e2.extBut _ _ TOi1 (e1.extBut _ _ TOz C8);refine aaa (aaN t2 rfl (aaa (abX t2 λg3 t3 e3=>aaa (wpAny_letGo (aab (aaa (aaa (aci ?_))))))));show wpAny _ _ (Builtin.SmallTypes.nextOf (.ref i2) >>= _) _ _ _;exact aaa (d2 _ _ _ (dY D2 e3 TOf2 (dY D2 e2 i1f2 (dY D2 e1 zf2 DS))) λg4 e e4 he=>ends (e4 _ _ (aaK i2z) (e3.extBut _ _ (aaK TOz) (e2.extBut _ _ (aaK i1z) z1))) he λc o c1 c2 c3 c4 x=>e4 _ _ c4 (e3.extBut _ _ c2 (e2.extBut _ _ c3 (e1.extBut _ _ c1 x))))
end
theorem Tr(l1 l2:Addr)(xs ys:aM):Meets (Builtin.«zip.__new__» ⟨[.type "zip",.ref l1,.ref l2],[]⟩) (λ_ R s=>s.heap.IsTuple l1 xs/\s.heap.IsList l2 ys /\
   ∀h',IsZip h' (s.heap.objs.size+4) (s.heap.objs.size+2) (s.heap.objs.size+3) .none->IsPair h' (s.heap.objs.size+2) (.ref s.heap.objs.size) (.ref (s.heap.objs.size+1))->IsPair h' (s.heap.objs.size+3) .none .none->h'.IsTupleIter s.heap.objs.size l1 0->h'.IsListIter (s.heap.objs.size+1) l2 0->(∀c o,s.heap.get? c=some o->h'.get? c=some o) ->
   R (.ok (.ret (.ref (s.heap.objs.size+4)))) { s with heap:=h' }) :=
 .of_wp λprog w A R s h=>by
  obtain⟨hp,g,d,tk,os⟩:=s;obtain⟨xp,tN,h⟩:=h;have Oy:=sub_zip;have a1:Heap.IsTuple (Shared.heap ⟨hp,g,d,tk,os⟩) l1 xs:=xp;have a2:Heap.IsList (Shared.heap ⟨hp.push { cls:=.type "tuple_iterator",data:=.fields #[.ref l1,.int 0 0] },g,d,tk,os⟩) l2 ys:=Heap.IsList.push tN _
  wp_walk using wpAny_pyIter_tuple a1,wpAny_pyIter_list a2
  refine⟨_,rfl,?_⟩;have q:∀(h:Heap) (o:Obj),(h.push o).objs.size=h.objs.size+1:=λh o=>Heap.size_push ..;simp only[q]at h ⊢;have at_:∀{h:Heap} {o:Obj} {n:Nat},h.objs.size=n->o.isFreed=false->(h.push o).get? n=some o:=λe f=>by subst e;exact aat _ f
  have up:∀{h:Heap} {o o':Obj} {n:Nat},h.get? n=some o->(h.push o').get? n=some o:=λe=>aaj _ e;refine h _ (at_ (by simp only[q]) rfl) (up (up (at_ (by simp only[q]) rfl))) (up (at_ (by simp only[q]) rfl)) ⟨_,up (up (up (up (at_ rfl rfl)))),rfl,rfl⟩ ⟨_,up (up (up (at_ (by simp only[q]) rfl))),rfl,rfl⟩ λc o e=>up (up (up (up (up e))))
theorem zj{xs:aM}{Q:aw}(h1:s.heap.IsTuple l1 xs)(h2:s.heap.IsList l2 ys)
  (h:∀h',IsZip h' (s.heap.objs.size+4) (s.heap.objs.size+2) (s.heap.objs.size+3) .none->IsPair h' (s.heap.objs.size+2) (.ref s.heap.objs.size) (.ref (s.heap.objs.size+1))->IsPair h' (s.heap.objs.size+3) .none .none->h'.IsTupleIter s.heap.objs.size l1 0->h'.IsListIter (s.heap.objs.size+1) l2 0->(∀c o,s.heap.get? c=some o->h'.get? c=some o)->Q (.ref (s.heap.objs.size+4)) { s with heap:=h' }) :
  wpAny (model prog w) A (call (.type "zip") [.ref l1,.ref l2]) Q E s :=
 callType_new F.called_zip (by decide) (F.typeCall_zip_2 _ _) (F.newCall_zip_2 _ _) (λobj=>F.args_object_init_3 obj _ _) F.entry_zip_new (Tr l1 l2 xs ys) ⟨h1,h2,λh' z t o a b k=>⟨⟨_,z,rfl⟩,h h' z t o a b k⟩⟩
end
def VV(K:ao)(a b:Addr):It :=
  ⟨λi H=>∃xs ys x y,aU K H a xs/\dh K H b ys/\xs[i]?=some x/\ys[i]?=some y,
   λi H v H'=>∃T x y,(∀xs,aU K H a xs->xs[i]?=some x)/\(∀ys,dh K H b ys->ys[i]?=some y)/\H T=none/\v=.ref T/\H'=upd H T (.tup [x,y]),
   λi H=>∃xs ys,aU K H a xs/\dh K H b ys/\(xs.length<=i\/ys.length<=i)⟩
theorem yi{tp:Pos}{a b z TI TO:Addr}(UW:TI≠TO)(vy:i1≠i2)(Zz:a≠TO):
  Turn P w K (.Tuple elts n1 tp) (VV K a b) [z,TI,TO,i1,i2] z (λi h=>IsZip h z TI TO .none/\IsPair h TI (.ref i1) (.ref i2)/\(∃x y,IsPair h TO x y)/\h.IsTupleIter i1 a i/\h.IsListIter i2 b i):=by
 have apart:∀{h:Heap} {x y:Value} {xs ys:aM} {i:Nat},IsZip h z TI TO .none->IsPair h TI (.ref i1) (.ref i2)->IsPair h TO x y->h.IsTupleIter i1 a i->h.IsListIter i2 b i->h.IsTuple a xs->h.IsList b ys->vS z TI TO i1 i2 [i1,a] [i2,b]/\a≠i1/\b≠i2:=by
  intro h x y xs ys i hz hI hO ⟨o1,e1,c1,_⟩ ⟨o2,e2,c2,_⟩ ⟨oa,ea,ca,_⟩ ⟨ob,eb,cb,_⟩;have u1:a≠i1:=bD ea e1 (by rw[ca,c1];simp);have u2:b≠i2:=bD eb e2 (by rw[cb,c2];simp);have v1:a≠z:=bD ea hz (by rw[ca];simp);have v2:a≠i2:=bD ea e2 (by rw[ca,c2];simp);have v3:b≠z:=bD eb hz (by rw[cb];simp);have v4:b≠TO:=bD eb hO (by rw[cb];simp);have v5:b≠i1:=bD eb e1 (by rw[cb,c1];simp);have w1:i1≠z:=bD e1 hz (by rw[c1];simp);have w2:i2≠z:=bD e2 hz (by rw[c2];simp);have w3:TO≠i1:=bD hO e1 (by rw[c1];simp);have w4:TO≠i2:=bD hO e2 (by rw[c2];simp);have no:∀{c p q:Addr},c≠p->c≠q->c∉[p,q]:=λh1 h2 m=>by
   simp only[List.mem_cons,List.not_mem_nil,or_false]at m;exact m.elim h1 h2
  exact⟨⟨⟨bD hI hz (by simp),bD hO hz (by simp),w1,w2⟩,⟨UW,bD hI e1 (by rw[c1];simp),bD hI e2 (by rw[c2];simp),w3,w4,vy⟩,⟨no (aaK w1) (aaK v1),no w3 (aaK Zz),no (aaK vy) (aaK v2)⟩,no (aaK w2) (aaK v3),no w4 (aaK v4),no vy (aaK v5)⟩,u1,u2⟩
 refine⟨by simp,λi h st c hc=>?_,λi h h' st k=>?_,?_,?_,λA i s Q E st hQ=>abo st.1 hQ⟩
 ·obtain⟨hz,hI,⟨x,y,hO⟩,⟨o1,e1,_,d1⟩,⟨o2,e2,_,d2⟩⟩:=st;simp only[List.mem_cons,List.not_mem_nil,or_false]at hc;rcases hc with rfl|rfl|rfl|rfl|rfl
  ·exact⟨_,hz,λv q=>by cases q⟩
  ·exact⟨_,hI,λv q=>by cases q⟩
  ·exact⟨_,hO,λv q=>by cases q⟩
  ·exact⟨o1,e1,λv q=>by rw[d1]at q;cases q⟩
  ·exact⟨o2,e2,λv q=>by rw[d2]at q;cases q⟩
 ·obtain⟨hz,hI,⟨x,y,hO⟩,⟨o,ho,r⟩,l2⟩:=st;exact⟨k z (by simp) _ hz,k TI (by simp) _ hI,⟨x,y,k TO (by simp) _ hO⟩,⟨o,k i1 (by simp) o ho,r⟩,l2.at λo e=>k i2 (by simp) o e⟩
 ·intro X hP hw hK hc i pins s σ H E I hf st hg;subst hP hw hK;obtain⟨xs,ys,x,y,q1,q2,ex,ey⟩:=hg;obtain⟨hz,hI,⟨x0,y0,hO⟩,l1,l2⟩:=st;obtain⟨aI,rv,p,_⟩:=I.tuple q1;obtain⟨its',uw,p',_⟩:=I.list q2;obtain⟨u,hu,ru⟩:=rv.get ex;obtain⟨u',tJ,SE⟩:=uw.get ey;obtain⟨ap,n1,n2⟩:=apart hz hI hO l1 l2 p p'.isList;have hh:X.A.in1.handled=none:=I.ok.hd hc;have lt:∀{vs:ak} {v:Value},vs[i]?=some v->i<vs.toArray.size:=λ{vs v} e=>by
   by_cases z:i<vs.length
   ·simpa using z
   ·rw[List.getElem?_eq_none (by left)]at e;cases e
  have hT:s.TypeIs (.ref z) "zip":=⟨_,hz,rfl⟩
  unfold pyNext;refine aaa (abq (aaS (name:=Str.ofString "__next__") hT abY (aaL abY hT F.entry_zip_next (yd (lK hh i1 a n1 aI.toArray) (Draws.list hh i2 b n2 its'.toArray) ap hz hI hO ⟨l1,p⟩ ⟨l2,p'.isList⟩ (lt hu) (lt tJ) λv v' h1 tk w1 w2 z1 o1 a1 b1 t1 k1=>aab ⟨_,rfl,?_⟩) (F.args_zip_next_1 _))));obtain rfl:u=v:=by simpa [hu]using w1
  obtain rfl:u'=v':=by simpa [tJ]using w2
  refine wpAny_letOwnedTupleGo_zip z1 λh2 z2 yr=>?_;have RH:s.heap.objs.size≠z:=aaz (aak hz);have kk:∀c o,c∉[z,TI,TO,i1,i2]->s.heap.get? c=some o->h2.get? c=some o:=λc o hc e=>by
   simp only[List.mem_cons,List.not_mem_nil,or_false,not_or]at hc;exact yr.extBut c o hc.1 (k1 c o hc.1 hc.2.2.1 hc.2.2.2.1 hc.2.2.2.2 e)
  have hT:h2.get? s.heap.objs.size=some { cls:=.type "tuple",data:=.seq #[u,u'] }:=yr.extBut _ _ RH t1;have hn:H s.heap.objs.size=none:=I.cM.fresh (aam _);refine⟨.ref s.heap.objs.size,upd H s.heap.objs.size (.tup [x,y]),v_ (s:=s) (h':=h2) (t':=tk) I hf kk (aam _) (p8 ru SE hT),rfl,⟨_,x,y,λzs hz=>by rw[I.kQ hz q1];exact ex,λzs hz=>by rw[I.iq hz q2];exact ey,hn,rfl,rfl⟩,⟨z2,yr.extBut _ _ ap.n1.1 (k1 _ _ ap.n1.1 ap.n2.1 ap.n2.2.1 ap.n2.2.2.1 hI),⟨_,_,yr.extBut _ _ ap.n1.2.1 o1⟩,?_,b1.1.extBut yr.extBut ap.n1.2.2.2⟩,λc hc=>?_⟩
  ·obtain⟨o,ho,r⟩:=a1.1;exact⟨o,yr.extBut _ _ ap.n1.2.2.1 ho,r⟩
  ·rw[aX]
   ·exact(hf c hc).1
   ·intro z;subst z;simp only[List.mem_cons,List.not_mem_nil,or_false]at hc;rcases hc with e|e|e|e|e
    ·exact absurd (aak hz) (by rw[<- e];exact aaA _)
    ·exact absurd (aak hI) (by rw[<- e];exact aaA _)
    ·exact absurd (aak hO) (by rw[<- e];exact aaA _)
    ·obtain⟨_,w,_⟩:=l1;exact absurd (aak w) (by rw[<- e];exact aaA _)
    ·obtain⟨_,w,_⟩:=l2;exact absurd (aak w) (by rw[<- e];exact aaA _)
 ·intro X hP hw hK hc i pins s σ H E I hf st hg;subst hP hw hK;obtain⟨xs,ys,q1,q2,hl⟩:=hg;obtain⟨hz,hI,⟨x0,y0,hO⟩,l1,l2⟩:=st;obtain⟨aI,rv,p,_⟩:=I.tuple q1;obtain⟨its',uw,p',_⟩:=I.list q2;have e1:xs.length=aI.toArray.size:=by rw[rv.length];simp
  have e2:ys.length=its'.toArray.size:=by rw[uw.length];simp
  obtain⟨ap,n1,n2⟩:=apart hz hI hO l1 l2 p p'.isList;have hh:X.A.in1.handled=none:=I.ok.hd hc;have hT:s.TypeIs (.ref z) "zip":=⟨_,hz,rfl⟩
  unfold pyNext;refine aaa (abq (aaS (name:=Str.ofString "__next__") hT abY (aaL abY hT F.entry_zip_next (zO (lK hh i1 a n1 aI.toArray) (Draws.list hh i2 b n2 its'.toArray) ap hz hI hO ⟨l1,p⟩ ⟨l2,p'.isList⟩ (by
   by_cases z:aI.toArray.size<=i
   ·exact .inl (oY hh (abk z))
   ·exact .inr ⟨by left,λs Q E st hE=>abP hh st.1 st.2 (abk (by left)) hE⟩) λh1 e tk k1 he=>?_) (F.args_zip_next_1 _))))
  obtain⟨o,ho,hc⟩:=he;refine aaa (abd (T:="StopIteration") (b:=true) ⟨o,ho,hc⟩ isSubtype_stop (aab ⟨rfl,v9 (t':=tk) I hf λc o hc e=>?_⟩));simp only[List.mem_cons,List.not_mem_nil,or_false,not_or]at hc;exact k1 c o hc.1 hc.2.2.1 hc.2.2.2.1 hc.2.2.2.2 e
theorem Eo{tp p:Pos}(hg:Gl X "zip")(hm:X.mg "zip" = none)(ha:PA X [e1,e2] ta)(hs:∀es,starEach (e1::es) X.env=(false,eval e1 X.env)::starEach es X.env)(Ha:∀es,starEach (e2::es) X.env=(false,eval e2 X.env)::starEach es X.env):
  PI X (.Tuple elts n1 tp) (.Call (.Name "zip" p) [e1,e2] [] pos) (λσ H R=>ta σ H λvs H1=>∃a b,vs=[.ref a,.ref b]/\(∃xs,aU X.K H1 a xs)/\(∃ys,dh X.K H1 b ys)/\R (VV X.K a b) H1):=by
 intro pins s σ H R I h;refine Call_ (dS I hg hm boot_zip (aaB (cS (ha pos pins s σ H _ I h) λus s1 bL=>?_) (hs _) (by rw[Ha];rfl)));obtain⟨vs,H1,I1,r1,q1⟩:=bL;obtain⟨a,b,e,⟨xs,q1⟩,⟨ys,q2⟩,q⟩:=q1;subst e;obtain⟨u,v,rfl,ru,rv⟩:=vals2 r1;cases ru;cases rv;obtain⟨aI,_,p1,_⟩:=I1.tuple q1;obtain⟨its',_,p2,_⟩:=I1.list q2;have la:a<s1.heap.objs.size:=by obtain⟨o,ho,_⟩:=p1;exact aak ho
 refine zj p1 p2.isList λh' z t o l1 l2 k=>abo z ?_;refine⟨s1.heap.objs.size+4,[s1.heap.objs.size+4,s1.heap.objs.size+2,s1.heap.objs.size+3,s1.heap.objs.size,s1.heap.objs.size+1],_,_,H1,rfl,I1.kept (t':=s1.toks) k,yi (aas (aa0 _)) (aas (aa0 _)) (aas (aal la (acn ..))),⟨z,t,⟨_,_,o⟩,l1,l2⟩,λb hb=>?_,q⟩;have oI:s1.heap.objs.size<=b:=by
  simp only[List.mem_cons,List.not_mem_nil,or_false]at hb;rcases hb with rfl|rfl|rfl|rfl|rfl<;>first|exact acn .. |exact aam _
 exact I1.yZ oI (I1.cM.fresh oI)
noncomputable def lu:az
 |[.tup a,.lst _ b]=>ok (.lst .ow (List.zipWith (λx y=>.tup [x,y]) a b))
 |_=>none
theorem zP{p q:Addr}{a b:ab}:Hy K (VV K p q) H2 [.ref p,.ref q] [.tup a,.lst g b] (aB aW (List.zipWith (λx y=>.tup [x,y]) a b)):=by
 have len:(aB aW (List.zipWith (λx y=>D.tup [x,y]) a b)).length=min a.length b.length:=by rw[aQ];simp
 have two:∀{H':Hp} {R':ai},aA (aU K H') (nd K R' (λ_=>False) (λ_=>none) H') [] 0 [.ref p,.ref q] (aB aW [.tup a,.lst g b]) ->
   ∃xs ys,aU K H' p xs/\dh K H' q ys/\aA (aU K H') (nd K R' (λ_=>False) (λ_=>none) H') [0] 0 xs (aB aW a)/\aA (aU K H') (nd K R' (λ_=>False) (λ_=>none) H') [1] 0 ys (aB aW b):=by
  intro H' R' h;rw[aB,aT,aB,aT,aB]at h;cases h with
  |cons h t=>cases t with
   |cons h' t=>cases h with
    |tup h r=>cases h' with
     |lst h' r'=>exact⟨_,_,h,h'.sq,r,r'⟩
 refine⟨λi H' R' _ h hi=>?_,λi H' R' x lP _ h hi hy=>?_,λi H' R' _ h hi=>?_⟩
 ·obtain⟨xs,ys,h1,h2,r1,r2⟩:=two h;rw[len]at hi;have l1:=r1.length;have l2:=r2.length;rw[aQ,List.length_map]at l1 l2;exact⟨xs,ys,xs[i]'(by left),ys[i]'(by left),h1,h2,aao _,aao _⟩
 ·obtain⟨xs,ys,h1,h2,r1,r2⟩:=two h;obtain⟨T,u,v,g1,g2,hn,rfl,rfl⟩:=hy;obtain⟨d1,e1,p1⟩:=r1.tR (g1 xs h1);obtain⟨d2,e2,p2⟩:=r2.tR (g2 ys h2);have es:aJ H' (upd H' T (.tup [u,v])):=aJ.upd hn;refine⟨es,.tup [d1,d2],?_,.tup (aU.of aS) (.cons (p1.Qt es) (.cons (p2.Qt es) .nil))⟩;rw[aQ,List.getElem?_map]at e1 e2 ⊢;obtain⟨c1,q1,rfl⟩:=Option.map_eq_some_iff.mp e1;obtain⟨c2,q2,rfl⟩:=Option.map_eq_some_iff.mp e2;rw[List.getElem?_zipWith,q1,q2];simp[aT,aB]
 ·obtain⟨xs,ys,h1,h2,r1,r2⟩:=two h;rw[len]at hi;have l1:=r1.length;have l2:=r2.length;rw[aQ,List.length_map]at l1 l2;exact⟨xs,ys,h1,h2,by left⟩
theorem Dm{n:Nat}(hΦ:Φ n=lu){sc:Scope}{bl:aq}{k:Nat}(L:PX X sc bl k){e:Expr}(he:fS sc bl e=some args)(ht:fQ tg=true)(hs:l9 X F Φ cs args)
  {pins:aj} {s:Shared} {xs:ab} {d:D} (I:Inv X pins σ H s) (Si:SI X F R τ ρ σ H) (cK:cu Φ cs ρ=ok xs) (ed:Φ n xs=ok d) (ei:i_ d=ok items) (Rr:It->Hp->Prop)
  (hR:∀J H2 vs,aJ H H2->cg X.K (gP X F) R τ (cW cs) H H2 vs xs->Hy X.K J H2 vs xs items->Rr J H2) :
  wpAny (model X.prog X.w) X.A (eval e X.env) (λv s1=>wpAny (model X.prog X.w) X.A (pyIter v) (zF X pins σ tg Rr) X.xe s1) X.xe s:=by
 obtain⟨p,pos,a,b,rfl,rfl,h1,h2⟩:=lh he;cases tg<;>try (cases ht;done)
 obtain⟨_,pa,s1,s2⟩:=ig hs;refine Eo (L.gl h1) (L.bl _ h2) pa s1 s2 pins s σ H Rr I ⟨R,τ,ρ,xs,Si,cK,λvs H1 e1 rv=>?_⟩;have Sz:=rv;obtain⟨τt,fr,rs⟩:=rv;rw[hΦ]at ed;unfold lu at ed;split at ed
 ·cases ed;cases ei;obtain⟨v,w,rfl,rx,ry⟩:=rs.two;cases rx with
  |tup hx _=>cases ry with
   |lst hy _=>exact⟨_,_,rfl,⟨_,hx⟩,⟨_,hy.sq⟩,hR _ H1 _ e1 Sz zP⟩
 ·cases ed
noncomputable abbrev rA(h:Heap)(z TI TO a:Addr)(f:Bool):Prop :=
 h.get? z=some { cls:=.type "zip",dict:=none,data:=.fields #[rawInt a,.bool f,.bool false,.ref TI,.ref TO],slots:=#[] }
section
variable {prog:aE}{w:World}{A:aD}{E:aw}{s:Shared}
theorem zL{a:Addr}{Q:Option Obj->Shared->Prop}(ho:s.heap.get? a=some o)(h:Q (some o) s):wpAny (model prog w) A (loadIfAlive a) Q E s:=by
 have h':Q (s.heap.get? a) s:=by rw[ho];exact h
 exact λ_ _ _=>h'
theorem vT{z TI TO a:Addr}{f:Bool}{Q:Bool->Shared->Prop}(hz:rA s.heap z TI TO a f)(ha:s.heap.get? a=some oa)(hQ:∀h',rA h' z TI TO a true->Heap.SameBut z s.heap h'->Q false { s with heap:=h' }):
  wpAny (model prog w) A (Builtin.SmallTypes.ownedTupleIsFree (.ref z)) Q E s:=by
 unfold Builtin.SmallTypes.ownedTupleIsFree;refine aaa (aaJ hz rfl (x:=rawInt a) rfl ?_);show wpAny _ _ (loadIfAlive ((a:Int).toNat) >>= _) _ _ _;rw[Int.toNat_natCast];refine aaa (zL ha ?_);simp only[Option.isNone_some,Bool.false_eq_true,if_false];refine aaa (aaJ hz rfl (x:=.bool f) rfl ?_);cases f with
 |true =>
  rw[if_neg (show ¬ ((Value.bool true != Value.bool true)=true) from Bool.false_ne_true)];exact aab (hQ s.heap hz (Heap.SameBut.refl _ _))
 |false =>
  rw[if_pos (show(Value.bool false != Value.bool true)=true from rfl)];exact aaa (aa7 hz (by simp) λh₃ OT lF=>aab (hQ h₃ OT lF))
theorem rR{z TI TO a:Addr}{f:Bool}{xs:aM}{x y:Value}{Q:aw}(D:ZipApart z TI TO i1 i2 l1 l2)
  (hz:rA s.heap z TI TO a f) (ha:s.heap.get? a=some oa) (xq:IsPair s.heap TI (.ref i1) (.ref i2))
  (h1:s.heap.IsListIter i1 l1 k1) (h2:s.heap.IsListIter i2 l2 k2) (xp:s.heap.IsList l1 xs) (tN:s.heap.IsList l2 ys) (hx:xs[k1]?=some x) (hy:ys[k2]?=some y)
  (hQ:∀h',rA h' z TI TO a true->h'.IsListIter i1 l1 (k1+1)->h'.IsListIter i2 l2 (k2+1)->IsPair h' s.heap.objs.size x y->h'.objs.size=s.heap.objs.size+1 ->
   (∀c o,c≠z->c≠i1->c≠i2->s.heap.get? c=some o->h'.get? c=some o)->Q (.ref s.heap.objs.size) { s with heap:=h' }) :
  wpAny (model prog w) A (Builtin.«zip.__next__» ⟨[.ref z],[]⟩) (λfin s'=>∃v,fin=.done (.ret v)/\Q v s') E s:=by
 show wpAny _ _ (field (.ref z) 2 >>= _) _ _ _;refine aaa (aaJ hz rfl (x:=.bool false) rfl ?_);show wpAny _ _ (field (.ref z) 3 >>= _) _ _ _;refine aaa (aaJ hz rfl (x:=.ref TI) rfl ?_);refine aaa (aaN xq rfl ?_);show wpAny _ _ (Builtin.SmallTypes.ownedTupleIsFree (.ref z) >>= _) _ _ _;refine aaa (vT hz ha λh₁ G9 fh=>?_);simp only[Bool.false_eq_true,if_false];refine aaa ?_;rw[<- Array.forIn_toList];simp only[List.forIn_cons,List.forIn_nil];refine aaa (aaa (aaM ?_));show wpAny _ _ (Builtin.SmallTypes.nextOf (.ref i1) >>= _) _ _ _;refine aaa (abI (h1.extBut fh.extBut D.i1z) (xp.extBut fh.extBut D.l1z) hx λh₂ Hd iu=>aab ?_);refine aab ?_;refine aaa (aaa (aaM ?_));show wpAny _ _ (Builtin.SmallTypes.nextOf (.ref i2) >>= _) _ _ _;refine aaa (abI ((h2.extBut fh.extBut D.i2z).extBut iu.extBut D.i12.symm) ((tN.extBut fh.extBut D.l2z).extBut iu.extBut D.l2i1) hy λh₃ Pe lF=>aab ?_);refine aab ?_;refine aab ?_;have hsz:h₃.objs.size=s.heap.objs.size:=by rw[lF.1,iu.1,fh.1]
 refine aaa (wpAny_newTuple ?_ (by show 2<=_;rw[sizeLine_eq];decide));refine aab ⟨_,rfl,?_⟩;show Q (.ref h₃.objs.size) _;have fR:∀{c o},h₃.get? c=some o->c≠h₃.objs.size:=λe=>aas (aak e);have hk:∀c o,c≠z->c≠i1->c≠i2->s.heap.get? c=some o->(h₃.push { cls:=.type "tuple",data:=.seq #[x,y] }).get? c=some o:=λc o c1 c2 c3 e=>aaj _ (lF.extBut _ _ c3 (iu.extBut _ _ c2 (fh.extBut _ _ c1 e)));rw[hsz];refine hQ _ (aaj _ (lF.extBut _ _ D.i2z.symm (iu.extBut _ _ D.i1z.symm G9))) ((Hd.extBut lF.extBut D.i12).at λo e=>aaj _ e) (Pe.at λo e=>aaj _ e) ?_ (by rw[Heap.size_push,hsz]) hk;rw[<- hsz];exact aat _ rfl
theorem uA{z TI TO a:Addr}{f:Bool}{xs:aM}{Q:Fin->Shared->Prop}(hh:A.handled=none)(D:ZipApart z TI TO i1 i2 l1 l2)
  (hz:rA s.heap z TI TO a f) (ha:s.heap.get? a=some oa) (xq:IsPair s.heap TI (.ref i1) (.ref i2))
  (h1:s.heap.IsListIter i1 l1 k1) (h2:s.heap.IsListIter i2 l2 k2) (xp:s.heap.IsList l1 xs) (tN:s.heap.IsList l2 ys) (tO:xs[k1]?=none\/ys[k2]?=none)
  (hE:∀h' e,(∀c o,c≠z->c≠i1->c≠i2->s.heap.get? c=some o->h'.get? c=some o)->(∃o,h'.get? e=some o/\o.cls=.type "StopIteration")->E (.ref e) { s with heap:=h' }) :
  wpAny (model prog w) A (Builtin.«zip.__next__» ⟨[.ref z],[]⟩) Q E s:=by
 show wpAny _ _ (field (.ref z) 2 >>= _) _ _ _;refine aaa (aaJ hz rfl (x:=.bool false) rfl ?_);show wpAny _ _ (field (.ref z) 3 >>= _) _ _ _;refine aaa (aaJ hz rfl (x:=.ref TI) rfl ?_);refine aaa (aaN xq rfl ?_);show wpAny _ _ (Builtin.SmallTypes.ownedTupleIsFree (.ref z) >>= _) _ _ _;refine aaa (vT hz ha λh₁ G9 fh=>?_);simp only[Bool.false_eq_true,if_false];refine aaa ?_;rw[<- Array.forIn_toList];simp only[List.forIn_cons,List.forIn_nil];refine aaa (aaa (aaM ?_));show wpAny _ _ (Builtin.SmallTypes.nextOf (.ref i1) >>= _) _ _ _;cases hx:xs[k1]? with
 |none =>
  refine aaa (abP hh (h1.extBut fh.extBut D.i1z) (xp.extBut fh.extBut D.l1z) hx λh₂ e iu he=>?_);exact hE h₂ e (λc o c1 c2 c3 x=>iu _ _ c2 (fh.extBut _ _ c1 x)) he
 |some x =>
  have hy:ys[k2]?=none:=by rcases tO with h|h;rw[hx]at h;cases h;exact h
  refine aaa (abI (h1.extBut fh.extBut D.i1z) (xp.extBut fh.extBut D.l1z) hx λh₂ Hd iu=>aab ?_);refine aab ?_;refine aaa (aaa (aaM ?_));show wpAny _ _ (Builtin.SmallTypes.nextOf (.ref i2) >>= _) _ _ _;refine aaa (abP hh ((h2.extBut fh.extBut D.i2z).extBut iu.extBut D.i12.symm) ((tN.extBut fh.extBut D.l2z).extBut iu.extBut D.l2i1) hy λh₃ e lF he=>?_);exact hE h₃ e (λc o c1 c2 c3 x=>lF _ _ c3 (iu.extBut _ _ c2 (fh.extBut _ _ c1 x))) he
theorem mM{z TI TO a:Addr}{f:Bool}{xs:aM}{x y:Value}{Q:Option Value->Shared->Prop}(D:ZipApart z TI TO i1 i2 l1 l2)
  (hz:rA s.heap z TI TO a f) (ha:s.heap.get? a=some oa) (xq:IsPair s.heap TI (.ref i1) (.ref i2))
  (h1:s.heap.IsListIter i1 l1 k1) (h2:s.heap.IsListIter i2 l2 k2) (xp:s.heap.IsList l1 xs) (tN:s.heap.IsList l2 ys) (hx:xs[k1]?=some x) (hy:ys[k2]?=some y)
  (hQ:∀h',rA h' z TI TO a true->h'.IsListIter i1 l1 (k1+1)->h'.IsListIter i2 l2 (k2+1)->IsPair h' s.heap.objs.size x y->h'.objs.size=s.heap.objs.size+1 ->
   (∀c o,c≠z->c≠i1->c≠i2->s.heap.get? c=some o->h'.get? c=some o)->Q (some (.ref s.heap.objs.size)) { s with heap:=h' }) :
  wpAny (model prog w) A (pyNext (.ref z)) Q E s:=by
 have hT:s.TypeIs (.ref z) "zip":=⟨_,hz,rfl⟩
 unfold pyNext;exact aaa (abq (aaS (name:=Str.ofString "__next__") hT abl
  (aaL abl hT PySem.F.entry_zip_next
   (rR D hz ha xq h1 h2 xp tN hx hy λh' a1 a2 a3 a4 a5 a6=>aab (hQ h' a1 a2 a3 a4 a5 a6)) (PySem.F.args_zip_next_1 _))))
theorem oo{z TI TO a:Addr}{f:Bool}{xs:aM}{Q:Option Value->Shared->Prop}(hh:A.handled=none)(D:ZipApart z TI TO i1 i2 l1 l2)
  (hz:rA s.heap z TI TO a f) (ha:s.heap.get? a=some oa) (xq:IsPair s.heap TI (.ref i1) (.ref i2))
  (h1:s.heap.IsListIter i1 l1 k1) (h2:s.heap.IsListIter i2 l2 k2) (xp:s.heap.IsList l1 xs) (tN:s.heap.IsList l2 ys) (tO:xs[k1]?=none\/ys[k2]?=none)
  (hQ:∀h',(∀c o,c≠z->c≠i1->c≠i2->s.heap.get? c=some o->h'.get? c=some o)->Q none { s with heap:=h' }):wpAny (model prog w) A (pyNext (.ref z)) Q E s:=by
 have hT:s.TypeIs (.ref z) "zip":=⟨_,hz,rfl⟩
 unfold pyNext;refine aaa (abq (aaS (name:=Str.ofString "__next__") hT abl
  (aaL abl hT PySem.F.entry_zip_next (uA hh D hz ha xq h1 h2 xp tN tO λh' e hk he=>?_) (PySem.F.args_zip_next_1 _))))
 obtain⟨o,ho,hc⟩:=he;refine aaa (abd (T:="StopIteration") (b:=true) ⟨o,ho,hc⟩ isSubtype_stop ?_);exact aab (hQ _ hk)
end
theorem HE:typeLookup (.type "zip") "__len__" = pure none:=by rw[typeLookup_type,builtinLookup_eq_fast];kernel_rfl
theorem Mo:typeLookup (.type "zip") "__length_hint__" = pure none:=by rw[typeLookup_type,builtinLookup_eq_fast];kernel_rfl
section
variable {prog:aE}{w:World}{A:aD}{E:aw}{s:Shared}
theorem Dj{z:Addr}(hT:s.TypeIs (.ref z) "zip"){Q:Bool->Shared->Prop}(h:Q true s):wpAny (model prog w) A (Builtin.List.listLengthHint (.ref z)) Q E s:=by
 unfold Builtin.List.listLengthHint;refine aaa (abh hT HE ?_);refine wpAny_ite_split (λqI=>absurd qI (by decide)) (λ_=>?_);refine wpAny_ite_split (λqI=>absurd qI (by decide)) (λ_=>?_);refine aaa (abh hT Mo ?_);exact aab h
end
structure Zl(h:Heap)(z TI TO i1 i2 l1 l2 S:Addr)(xs ys:aM)(i:Nat):Prop where
 st:(IsZip h z TI TO .none/\∃a b,IsPair h TO a b)\/∃a f oa,rA h z TI TO a f/\h.get? a=some oa/\S<a
 ti:IsPair h TI (.ref i1) (.ref i2)
 w1:h.IsListIter i1 l1 i
 w2:h.IsListIter i2 l2 i
 q1:h.IsList l1 xs
 q2:h.IsList l2 ys
structure Below(z TI TO i1 i2 l1 l2 S:Addr):Prop where
 D:ZipApart z TI TO i1 i2 l1 l2
 z:z<S
 TI:TI<S
 TO:TO<S
 i1:i1<S
 i2:i2<S
 l1:l1<S
 l2:l2<S
section
variable {prog:aE}{w:World}{A:aD}{E:aw}{s:Shared}{z TI TO i1 i2 l1 l2 S:Addr}{xs ys:aM}{i:Nat}
theorem Zl.keep{h:Heap}(B:Below z TI TO i1 i2 l1 l2 S)(Z:Zl h z TI TO i1 i2 l1 l2 S xs ys i)(hk:∀b o,b≠S->h.get? b=some o->h'.get? b=some o):Zl h' z TI TO i1 i2 l1 l2 S xs ys i:=by
 have n:∀{b},b<S->b≠S:=λh=>aas h;refine⟨?_,hk _ _ (n B.TI) Z.ti,Z.w1.at λo e=>hk _ o (n B.i1) e,Z.w2.at λo e=>hk _ o (n B.i2) e,Z.q1.at λo e=>hk _ o (n B.l1) e,Z.q2.at λo e=>hk _ o (n B.l2) e⟩;rcases Z.st with ⟨h1,a,b,h2⟩|⟨a,f,oa,h1,h2,h3⟩
 ·exact .inl ⟨hk _ _ (n B.z) h1,a,b,hk _ _ (n B.TO) h2⟩
 ·exact .inr ⟨a,f,oa,hk _ _ (n B.z) h1,hk _ _ (aaz h3) h2,h3⟩
theorem Dh{x y:Value}{Q:Option Value->Shared->Prop}(B:Below z TI TO i1 i2 l1 l2 S)(Z:Zl s.heap z TI TO i1 i2 l1 l2 S xs ys i)(hS:S<s.heap.objs.size)(hx:xs[i]?=some x)(hy:ys[i]?=some y)
  (hQ:∀h',Zl h' z TI TO i1 i2 l1 l2 S xs ys (i+1)->IsPair h' s.heap.objs.size x y->h'.objs.size=s.heap.objs.size+1->(∀c o,c≠z->c≠TO->c≠i1->c≠i2->s.heap.get? c=some o->h'.get? c=some o)->Q (some (.ref s.heap.objs.size)) { s with heap:=h' }) :
  wpAny (model prog w) A (pyNext (.ref z)) Q E s:=by
 have D:=B.D;rcases Z.st with ⟨hz,a,b,C8⟩|⟨a,f,oa,hz,ha,hSa⟩
 ·refine wpAny_pyNext_zip_item D hz Z.ti C8 Z.w1 Z.w2 Z.q1 Z.q2 hx hy λh' z1 o1 a1 b1 t1 Qw k1=>hQ h' ?_ t1 Qw k1;exact⟨.inr ⟨s.heap.objs.size,false,_,z1,t1,hS⟩,k1 _ _ D.TIz D.TITO D.TIi1 D.TIi2 Z.ti,a1,b1,Z.q1.at λo e=>k1 _ o D.l1z D.l1TO D.l1i1 D.l1i2 e,Z.q2.at λo e=>k1 _ o D.l2z D.l2TO D.l2i1 D.l2i2 e⟩
 ·refine mM D hz ha Z.ti Z.w1 Z.w2 Z.q1 Z.q2 hx hy λh' z1 a1 b1 t1 Qw k1=>hQ h' ?_ t1 Qw λc o c1 _ c3 c4 e=>k1 c o c1 c3 c4 e;have n:∀{b},b<S->a≠b:=λh=>aaz (abm h hSa);exact⟨.inr ⟨a,true,oa,z1,k1 _ _ (n B.z) (n B.i1) (n B.i2) ha,hSa⟩,k1 _ _ D.TIz D.TIi1 D.TIi2 Z.ti,a1,b1,Z.q1.at λo e=>k1 _ o D.l1z D.l1i1 D.l1i2 e,Z.q2.at λo e=>k1 _ o D.l2z D.l2i1 D.l2i2 e⟩
theorem Dk{Q:Option Value->Shared->Prop}(hh:A.handled=none)(B:Below z TI TO i1 i2 l1 l2 S)(Z:Zl s.heap z TI TO i1 i2 l1 l2 S xs ys i)(tO:xs[i]?=none\/ys[i]?=none)
  (hQ:∀h',(∀c o,c≠z->c≠TO->c≠i1->c≠i2->s.heap.get? c=some o->h'.get? c=some o)->Q none { s with heap:=h' }):wpAny (model prog w) A (pyNext (.ref z)) Q E s:=by
 have D:=B.D;rcases Z.st with ⟨hz,a,b,C8⟩|⟨a,f,oa,hz,ha,hSa⟩
 ·exact wpAny_pyNext_zip_end hh D hz Z.ti C8 Z.w1 Z.w2 Z.q1 Z.q2 tO hQ
 ·exact oo hh D hz ha Z.ti Z.w1 Z.w2 Z.q1 Z.q2 tO λh' k=>hQ h' λc o c1 _ c3 c4 e=>k c o c1 c3 c4 e
end
structure Qi(xs ys:aM)(lo:Addr)(h:Heap)(as:aN):Prop where
 above:∀a∈as,lo<a
 nd:as.Nodup
 pairs:∀(j:Nat) (a:Addr),as[j]?=some a->∃x y,xs[j]?=some x/\ys[j]?=some y/\IsPair h a x y
section
variable {prog:aE}{w:World}{A:aD}{s:Shared}{R:Result->Shared->Prop}{z TI TO i1 i2 l1 l2 S:Addr}{xs ys:aM}
theorem Dg(hh:A.handled=none)(B:Below z TI TO i1 i2 l1 l2 S)(hn:min xs.size ys.size<=sizeLine)(res:Value) 
  (hR:∀h' tk acc c as,(∀b o,b≠S->b≠z->b≠TO->b≠i1->b≠i2->h₁.get? b=some o->h'.get? b=some o)->h'.get? S=some { cls:=.type "list",dict:=none,data:=.seq acc c,slots:=#[] }->as.length=min xs.size ys.size->Qi xs ys S h' as ->
   acc.toList=as.map Value.ref->R (.ok (.ret res)) { s with heap:=h',toks:=tk }) :
  ∀(k i:Nat) (h:Heap) (tk c:Nat) (acc:aM) (as:aN),min xs.size ys.size - i=k->i<=min xs.size ys.size->Zl h z TI TO i1 i2 l1 l2 S xs ys i->(∀b o,b≠S->b≠z->b≠TO->b≠i1->b≠i2->h₁.get? b=some o->h.get? b=some o) ->
   h.get? S=some { cls:=.type "list",dict:=none,data:=.seq acc c,slots:=#[] }->acc.toList=as.map Value.ref->as.length=i->Qi xs ys S h as ->
   codeAny (model prog w) A (.builtin "list.extend.loop" ⟨[.ref S,.ref z,res],[]⟩) R { s with heap:=h,toks:=tk }:=by
 have nz:S≠z:=aaz B.z;have nO:S≠TO:=aaz B.TO;have n1:S≠i1:=aaz B.i1;have n2:S≠i2:=aaz B.i2;have V0:∀{a:Addr},S<a->a≠z/\a≠TO/\a≠i1/\a≠i2:=λh=>⟨aaz (abm B.z h),aaz (abm B.TO h),aaz (abm B.i1 h),aaz (abm B.i2 h)⟩
 intro k;induction k with
 |zero =>
  intro i h tk c acc as hk hi Z BO hS fw O8 hG;refine abu PySem.F.entry_extend_loop ?_;rw[Around.under_plainId PySem.F.plain_extend_loop _];show wpAny _ A.in1 (pyNext (.ref z) >>= _) _ _ _;have tO:xs[i]?=none\/ys[i]?=none:=by
   rcases Nat.le_total xs.size ys.size with q|q
   ·exact .inl (abk (by left))
   ·exact .inr (abk (by left))
  refine aaa (Dk (s:={ s with heap:=h,toks:=tk }) (A:=A.in1) hh B Z tO λh' he=>?_);refine aab (hR h' tk acc c as (λb o h1 h2 h3 h4 h5 e=>he b o h2 h3 h4 h5 (BO b o h1 h2 h3 h4 h5 e)) (he S _ nz nO n1 n2 hS) (by left) ⟨hG.above,hG.nd,λj a hj=>?_⟩ fw);obtain⟨x,y,e1,e2,e3⟩:=hG.pairs j a hj;obtain⟨a1,a2,a3,a4⟩:=V0 (hG.above a (aaD hj));exact⟨x,y,e1,e2,he a _ a1 a2 a3 a4 e3⟩
 |succ k ih =>
  intro i h tk c acc as hk hi Z BO hS fw O8 hG;have fR:i<min xs.size ys.size:=by left
  have hx:xs[i]?=some (xs[i]'(by left)):=abb _;have hy:ys[i]?=some (ys[i]'(by left)):=abb _;have hsz:acc.size=i:=by rw[<- Array.length_toList,fw,List.length_map,O8]
  have UX:S<h.objs.size:=aak hS;refine abu PySem.F.entry_extend_loop ?_;rw[Around.under_plainId PySem.F.plain_extend_loop _];show wpAny _ A.in1 (pyNext (.ref z) >>= _) _ _ _;refine aaa (Dh (s:={ s with heap:=h,toks:=tk }) B Z UX hx hy λh' Z' ht hz L3=>?_);dsimp only at ht hz L3 ⊢;have yV:=L3 S _ nz nO n1 n2 hS;have up:∀b o,b≠S->h'.get? b=some o->(h'.update S (Obj.mapSeq (·.push (Value.ref h.objs.size)))).get? b=some o:=λb o hb e=>(aaT _ _ (aaK hb)).trans e;show wpAny _ A.in1 (updateSeq S (·.push (Value.ref h.objs.size)) >>= _) _ _ _;refine aaa ?_;refine abZ yV rfl (aab ⟨plainId_quiet PySem.F.plain_extend_loop _,ih (i+1) _ tk _ (acc.push (Value.ref h.objs.size)) (as++[h.objs.size]) (by left) fR (Z'.keep B up)
   (λb o h1 h2 h3 h4 h5 e=>up b o h1 (L3 b o h2 h3 h4 h5 (BO b o h1 h2 h3 h4 h5 e))) (aaW _ yV rfl) (by rw[Array.toList_push,fw,List.map_append];rfl) (by rw[List.length_append,O8];rfl) ⟨?_,?_,?_⟩⟩) (by rw[hsz];left) (by show(acc.push (Value.ref h.objs.size)).size<=sizeLine+1;rw[Array.size_push,hsz];left)
  ·intro a ha;rcases List.mem_append.mp ha with ha|ha
   ·exact hG.above a ha
   ·rw[List.mem_singleton.mp ha];exact UX
  ·refine List.nodup_append.mpr ⟨hG.nd,List.nodup_cons.mpr ⟨List.not_mem_nil,aaR⟩,λa ha b hb e=>?_⟩;rw[List.mem_singleton.mp hb]at e;subst e;obtain⟨j,hj⟩:=List.mem_iff_getElem?.mp ha;obtain⟨_,_,_,_,e⟩:=hG.pairs j _ hj;exact absurd (aak e) (aaA _)
  ·intro j b hj;rcases Nat.lt_trichotomy j as.length with q|q|q
   ·rw[List.getElem?_append_left q]at hj;obtain⟨x',y',e1,e2,e3⟩:=hG.pairs j b hj;have hb:=hG.above b (aaD hj);obtain⟨a1,a2,a3,a4⟩:=V0 hb;exact⟨x',y',e1,e2,up b _ (aaz hb) (L3 b _ a1 a2 a3 a4 e3)⟩
   ·subst q;have hb:h.objs.size=b:=by simpa using hj
    subst hb;exact⟨_,_,by rw[O8];exact hx,by rw[O8];exact hy,up _ _ (aaz UX) ht⟩
   ·have OJ:(as++[h.objs.size])[j]?=none:=List.getElem?_eq_none (by rw[List.length_append,List.length_singleton];left);rw[OJ]at hj;exact nk hj
theorem yc(hh:A.handled=none)(B:Below z TI TO i1 i2 l1 l2 S)(hn:min xs.size ys.size<=sizeLine)(Z:Zl s.heap z TI TO i1 i2 l1 l2 S xs ys 0)(JV:IsZip s.heap z TI TO .none)(res:Value)(c₀:Nat)(hS:s.heap.get? S=some { cls:=.type "list",data:=.seq #[] c₀ })
  (hR:∀h' tk acc c as,(∀b o,b≠S->b≠z->b≠TO->b≠i1->b≠i2->s.heap.get? b=some o->h'.get? b=some o)->h'.get? S=some { cls:=.type "list",dict:=none,data:=.seq acc c,slots:=#[] }->as.length=min xs.size ys.size->Qi xs ys S h' as ->
   acc.toList=as.map Value.ref->R (.ok (.ret res)) { s with heap:=h',toks:=tk }) :
  wpAny (model prog w) A.in1 (Builtin.List.listExtendWith (.ref S) (.ref z) res)
   (λfin s'=>match fin with|.done f=>R (.ok f) s'|.again c'=>c'.quiet=true/\codeAny (model prog w) A c' R s') (λe s'=>R (.error e) s') s:=by
 have ZG:S≠z:=aaz B.z;have hT:s.TypeIs (.ref z) "zip":=⟨_,JV,rfl⟩
 unfold Builtin.List.listExtendWith;refine aaa (wpAny_typeOf (T:="zip") hT ?_);have h1:Builtin.List.listSameRef (.ref S) (.ref z)=false:=by simp[Builtin.List.listSameRef,ZG]
 have h2:(Value.type "zip" == Value.type "list")=false:=by decide
 have h3:(Value.type "zip" == Value.type "tuple")=false:=by decide
 simp only[h1,h2,h3,Bool.or_false,Bool.false_eq_true,if_false];refine aaa (abo JV ?_);refine aaa (aaM (Dj hT ?_));refine wpAny_ite_split (λ_=>?_) (λqI=>absurd rfl qI);refine aaa (aba ?_);refine aaa ?_;show wpAny _ _ (updateSeq S (·.push .none) >>= λ_=>updateSeq S (·.pop)) _ _ _;refine aaa (abZ hS rfl ?_);have xr:=aaW (Obj.mapSeq (·.push Value.none)) hS rfl;refine abZ (hz:=by seq_fits) xr rfl ?_;have O_:=aaW (Obj.mapSeq (·.pop)) xr rfl;have LL:∀b o,b≠S->s.heap.get? b=some o->((s.heap.update S (Obj.mapSeq (·.push Value.none))).update S (Obj.mapSeq (·.pop))).get? b=some o:=λb o hb e=>(aaT _ _ (aaK hb)).trans ((aaT _ _ (aaK hb)).trans e);refine aab ⟨plainId_quiet PySem.F.plain_extend_loop _,?_⟩;exact Dg hh B hn res (s:=s) (h₁:=s.heap) hR (min xs.size ys.size) 0 _ s.toks _ #[] [] (Nat.sub_zero _) (aaP _) (Z.keep B LL) (λb o h1 _ _ _ _ e=>LL b o h1 e) O_ rfl rfl ⟨(λ_ ha=>nomatch ha),aaR,λj a hj=>by simp at hj⟩
theorem Di(hh:A.handled=none)(B:Below z TI TO i1 i2 l1 l2 S)(hn:min xs.size ys.size<=sizeLine)(Z:Zl s.heap z TI TO i1 i2 l1 l2 S xs ys 0)(JV:IsZip s.heap z TI TO .none)(hS:s.heap.get? S=some { cls:=.type "list",data:=.seq #[] })
  (hR:∀h' tk acc c as,(∀b o,b≠S->b≠z->b≠TO->b≠i1->b≠i2->s.heap.get? b=some o->h'.get? b=some o)->h'.get? S=some { cls:=.type "list",dict:=none,data:=.seq acc c,slots:=#[] }->as.length=min xs.size ys.size->Qi xs ys S h' as ->
   acc.toList=as.map Value.ref->R (.ok (.ret .none)) { s with heap:=h',toks:=tk }) :
  wpAny (model prog w) A.in1 (Builtin.«list.__init__» ⟨[.ref S,.ref z],[]⟩)
   (λfin s'=>match fin with|.done f=>R (.ok f) s'|.again c'=>c'.quiet=true/\codeAny (model prog w) A c' R s') (λe s'=>R (.error e) s') s:=by
 show wpAny _ _ (do let old <- Builtin.List.listItems (.ref S);Builtin.List.listUpdate (.ref S) (λ_=>#[]);letGo old.toList.reverse;Builtin.List.listExtendWith (.ref S) (.ref z) .none) _ _ s;refine aaa ?_;unfold Builtin.List.listItems;refine aaa (aaN hS rfl (aab ?_));show wpAny _ _ (updateSeq S (λ_=>#[]) >>= λ_=>letGo (#[]:aM).toList.reverse >>= λ_=>Builtin.List.listExtendWith (.ref S) (.ref z) .none) _ _ s;refine aaa (abZ hS rfl ?_);have xr:=aaW (Obj.mapSeq (λ_=>(#[]:aM))) hS rfl;have LL:∀b o,b≠S->s.heap.get? b=some o->(s.heap.update S (Obj.mapSeq (λ_=>(#[]:aM)))).get? b=some o :=
  λb o hb e=>(aaT _ _ (aaK hb)).trans e
 refine aaa (wpAny_letGo ?_);refine yc hh B hn (Z.keep B LL) (LL _ _ (aas B.z) JV) .none _ xr λh' tk acc c as hk yV hl hG fw=>?_;exact hR h' tk acc c as (λb o h1 h2 h3 h4 h5 e=>hk b o h1 h2 h3 h4 h5 (LL b o h1 e)) yV hl hG fw
end
section
variable {prog:aE}{w:World}{A:aD}{E:aw}{s:Shared}{z TI TO i1 i2 l1 l2:Addr}{xs ys:aM}
theorem Dl{Q:aw}(hh:A.handled=none)(D:ZipApart z TI TO i1 i2 l1 l2)(hn:min xs.size ys.size<=sizeLine)(hz:IsZip s.heap z TI TO .none)(xq:IsPair s.heap TI (.ref i1) (.ref i2)){a b:Value}(C8:IsPair s.heap TO a b)(h1:s.heap.IsListIter i1 l1 0)(h2:s.heap.IsListIter i2 l2 0)(q1:s.heap.IsList l1 xs)(q2:s.heap.IsList l2 ys)
  (hQ:∀h' tk acc c as,(∀b o,b≠z->b≠TO->b≠i1->b≠i2->s.heap.get? b=some o->h'.get? b=some o)->h'.get? s.heap.objs.size=some { cls:=.type "list",dict:=none,data:=.seq acc c,slots:=#[] }->as.length=min xs.size ys.size->Qi xs ys s.heap.objs.size h' as ->
   acc.toList=as.map Value.ref->Q (.ref s.heap.objs.size) { s with heap:=h',toks:=tk }) :
  wpAny (model prog w) A (call (.type "list") [.ref z]) Q E s:=by
 refine callType_codes (Q₁:=λobj s₁=>obj=.ref s.heap.objs.size/\s₁={ s with heap:=s.heap.push { cls:=.type "list",data:=.seq #[] } }) PySem.F.called_list (PySem.F.typeCall_list_1 _) PySem.F.entry_list_init
  (code_list_new _ ⟨rfl,rfl⟩) λobj s₁ h₁=>?_
 obtain⟨rfl,rfl⟩:=h₁;have hS:(s.heap.push { cls:=.type "list",data:=.seq #[] }).get? s.heap.objs.size=some { cls:=.type "list",data:=.seq #[] }:=aat _ rfl;have up:∀b o,s.heap.get? b=some o->(s.heap.push { cls:=.type "list",data:=.seq #[] }).get? b=some o:=λb o e=>aaj _ e;have B:Below z TI TO i1 i2 l1 l2 s.heap.objs.size:=⟨D,aak hz,aak xq,aak C8,(by obtain⟨_,e,_⟩:=h1;exact aak e),(by obtain⟨_,e,_⟩:=h2;exact aak e),(by obtain⟨_,e,_⟩:=q1;exact aak e),(by obtain⟨_,e,_⟩:=q2;exact aak e)⟩
 refine⟨⟨_,hS,rfl⟩,PySem.F.args_list_init_2 _ _,Di (A:=A.in1) hh B hn ⟨.inl ⟨up _ _ hz,a,b,up _ _ C8⟩,up _ _ xq,h1.at λo e=>up _ o e,h2.at λo e=>up _ o e,q1.at λo e=>up _ o e,q2.at λo e=>up _ o e⟩ (up _ _ hz) hS λh' tk acc c as hk yV hl hG fw=>?_⟩;exact⟨rfl,hQ h' tk acc c as (λb o h2 h3 h4 h5 e=>hk b o (aas (aak e)) h2 h3 h4 h5 (up b o e)) yV hl hG fw⟩
end
theorem Inv.Od{pins:aj}{s:Shared}(I:Inv X pins σ H s)(k:∀b u,s.heap.get? b=some u->h'.get? b=some u)(up:∀b u,H b=some u->H' b=some u)
  (nw:∀b u,H' b=some u->H b=some u\/(s.heap.objs.size<=b/\cy X.prog X.w H' h' b u)):Inv X pins σ H' { s with heap:=h',toks:=t' }:=by
 refine I.step (g':=s.gens) (d':=s.drawn) (ch:=[]) (λb hb=>nomatch hb) (λb o _ _ _ e _=>k b o e) (λb o _ _ _ e _=>⟨o.slots,k b o e⟩) (λb u _ e n=>?_)
  (λb o _ e=>⟨o,k b o e⟩) (λ_ _ e=>up _ _ e) (λ_ _ _ e=>up _ _ e) (λb ps e=>⟨#[],by rw[up _ _ e];simp⟩) (λm hm=>?_) (λb u e=>?_) I.bare
 ·cases q:H' b with
  |none=>rfl
  |some v =>
   rcases nw b v q with z|⟨z,_⟩
   ·rw[n]at z;exact nk z
   ·exact absurd (aak e) (Nat.not_lt.mpr z)
 ·obtain⟨o,es,ep,ho,r⟩:=hm;exact⟨o,es,ep,k _ o ho,r⟩
 ·rcases nw b u e with e|⟨_,e⟩
  ·exact(I.cM b u e).jZ (λc v _ q=>k c v q) (λ_ q=>up _ _ q) λ_ _ q=>up _ _ q
  ·exact e
def oH(H:Hp):List (Addr×V×V)->Hp
 |[]=>H
 |q::r=>upd (oH H r) q.1 (.tup [q.2.1,q.2.2])
theorem kb{H:Hp}{b:Addr}{u:HO}(e:H b=some u):∀{r:List (Addr×V×V)},(∀q∈r,H q.1=none)->oH H r b=some u
 |[],_=>e
 |q::r,h=>by
  have hn:b≠q.1:=λz=>by rw[z,h q List.mem_cons_self]at e;cases e
  show upd (oH H r) q.1 _ b=_;rw[aX hn];exact kb e λq hq=>h q (aag _ hq)
theorem xc{H:Hp}:∀{r:List (Addr×V×V)},(r.map (·.1)).Nodup->∀q∈r,oH H r q.1=some (.tup [q.2.1,q.2.2])
 |[],_,_,h=>nomatch h
 |q'::r,hn,q,h=>by
  show upd (oH H r) q'.1 _ q.1=_;have qF:=List.nodup_cons.mp hn;rcases List.mem_cons.mp h with rfl|h
  ·exact aS
  ·have:q.1≠q'.1:=λz=>qF.1 (by show q'.1∈_;rw[<- z];exact aay h);rw[aX this];exact xc qF.2 q h
theorem tu{H:Hp}{b:Addr}{u:HO}:∀{r:List (Addr×V×V)},oH H r b=some u->H b=some u\/∃q∈r,q.1=b/\u=.tup [q.2.1,q.2.2]
 |[],e=>.inl e
 |q::r,e=>by
  replace e:upd (oH H r) q.1 (.tup [q.2.1,q.2.2]) b=some u:=e;by_cases z:b=q.1
  ·subst z;rw[aS]at e;cases e;exact .inr ⟨q,aai,rfl,rfl⟩
  ·rw[aX z]at e;rcases tu e with h|⟨q',h1,h2⟩
   ·exact .inl h
   ·exact .inr ⟨q',aag _ h1,h2⟩
def Ya(K:ao)(ta:TA):TE:=λσ H Q=>ta σ H λvs H1=>∃a b xs ys,vs=[.ref a,.ref b]/\dh K H1 a xs/\dh K H1 b ys /\
 ∀(l:Addr) (r:List (Addr×V×V)),H1 l=none->(∀q∈r,H1 q.1=none)->(r.map (·.1)).Nodup->l∉r.map (·.1)->r.map (·.2)=xs.zip ys->Q (.ref l) (upd (oH H1 r) l (.lst (r.map λq=>V.ref q.1)))
theorem Er{p:Pos}(hc:X.calm=true)(zC:Gl X "list")(UA:X.mg "list" = none)(hg:Gl X "zip")(hm:X.mg "zip" = none)(ha:PA X [e1,e2] ta)(hs:∀es,starEach (e1::es) X.env=(false,eval e1 X.env)::starEach es X.env)(Ha:∀es,starEach (e2::es) X.env=(false,eval e2 X.env)::starEach es X.env):
  PE X (.Call (.Name "list" p') [.Call (.Name "zip" p) [e1,e2] [] pos] [] pos') (Ya X.K ta):=by
 intro pins s σ H Q I h;refine aa1 (dS I zC UA boot_list ?_);refine aaB ?_;show wpAny _ _ (spliced ((false,eval (.Call (.Name "zip" p) [e1,e2] [] pos) X.env)::backTo pos' (starEach [] X.env))) _ _ s;refine abx ?_;refine Call_ (dS I hg hm boot_zip (aaB (cS (ha pos pins s σ H _ I h) λus s1 bL=>?_) (hs _) (by rw[Ha];rfl)));obtain⟨vs,H1,I1,r1,q1⟩:=bL;obtain⟨a,b,xs,ys,e,q1,q2,hq⟩:=q1;subst e;obtain⟨u,v,rfl,ru,rv⟩:=vals2 r1;cases ru;cases rv;obtain⟨aI,rx,p1,WI⟩:=I1.list q1;obtain⟨its',ry,p2,QY⟩:=I1.list q2;refine call_zip_2 p1.isList p2.isList λh' z t o l1 l2 sz k=>abF ?_;have xp:h'.IsList a aI.toArray:=p1.isList.at λo e=>k _ o e;have tN:h'.IsList b its'.toArray:=p2.isList.at λo e=>k _ o e;have cls:∀{x y:Addr} {o u:Obj},h'.get? x=some o->h'.get? y=some u->o.cls≠u.cls->x≠y:=λh1 h2 h3=>bD h1 h2 h3;have al:@LT.lt Nat _ a s1.heap.objs.size:=by obtain⟨_,e,_⟩:=p1.isList;exact aak e
 have bl:@LT.lt Nat _ b s1.heap.objs.size:=by obtain⟨_,e,_⟩:=p2.isList;exact aak e
 have D:ZipApart (s1.heap.objs.size+4) (s1.heap.objs.size+2) (s1.heap.objs.size+3) s1.heap.objs.size (s1.heap.objs.size+1) a b:=by
  constructor<;>first|exact aas (by left)|exact aaz (by left)
 have lx:=rx.length;have ly:=ry.length;have hn:min aI.toArray.size its'.toArray.size<=sizeLine:=by simp;left
 refine Dl (s:={ s1 with heap:=h' }) (I1.ok.hd hc) D hn z t o l1 l2 xp tN λZZ tk acc c as hk hS hl hG fw=>?_;dsimp only at hk hS hG ⊢;have hlen:as.length=(xs.zip ys).length:=by rw[hl,List.length_zip];simp;left
 have keep:∀b o,s1.heap.get? b=some o->ZZ.get? b=some o:=λb o e=>by
  have:@LT.lt Nat _ b s1.heap.objs.size:=aak e;exact hk b o (aas (by left)) (aas (by left)) (aas (by left)) (aas (by left)) (k b o e)
 have fresh:∀c,s1.heap.objs.size<=c->H1 c=none:=λc h=>I1.cM.fresh h;have hS5:h'.objs.size=s1.heap.objs.size+5:=sz
 let r:List (Addr×V×V):=as.zip (xs.zip ys)
 have r1:r.map (·.1)=as:=List.map_fst_zip (by left);have r2:r.map (·.2)=xs.zip ys:=List.map_snd_zip (by left);have qI:∀c∈as,@LT.lt Nat _ h'.objs.size c:=hG.above;have Ui:∀q∈r,H1 q.1=none:=λq hq=>fresh _ (by have:=qI q.1 (by rw[<- r1];exact aay hq);left);have xo:H1 h'.objs.size=none:=fresh _ (by left);have J5:h'.objs.size∉r.map (·.1):=by rw[r1];exact λz=>absurd (qI _ z) (aaA _)
 have zB:(r.map (·.1)).Nodup:=by rw[r1];exact hG.nd
 have BN:(as.map V.ref)=r.map λq=>V.ref q.1:=by rw[<- r1,List.map_map];rfl
 refine⟨.ref h'.objs.size,upd (oH H1 r) h'.objs.size (.lst (r.map λq=>V.ref q.1)),?_,rfl,hq _ r xo Ui zB J5 r2⟩;refine Inv.Od (s:=s1) (t':=tk) I1 keep (λb u e=>?_) λb u e=>?_
 ·rw[aX λz=>by rw[z,xo]at e;cases e];exact kb e Ui
 ·by_cases zb:b=h'.objs.size
  ·subst zb;rw[aS]at e;cases e;refine .inr ⟨by left,?_,acc.toList,c,?_,by rw[Array.toArray_toList];exact hS⟩
   ·rw[<- BN,List.length_map,hlen,List.length_zip];left
   ·rw[<- BN,fw];clear fw BN hG hl hlen r1 qI zB r r2 Ui J5 hS hk keep;induction as with
    |nil=>exact .nil
    |cons a as ih=>exact .cons rfl ih
  ·rw[aX zb]at e;rcases tu e with e|⟨q,hq,rfl,rfl⟩
   ·exact .inl e
   ·have hm:q.1∈as:=by rw[<- r1];exact aay hq
    refine .inr ⟨by have:=qI _ hm;left,?_⟩;obtain⟨j,hj⟩:=List.mem_iff_getElem?.mp hq;have UG:as[j]?=some q.1/\(xs.zip ys)[j]?=some q.2:=by
     have:=List.getElem?_zip_eq_some.mp hj;exact this
    obtain⟨x,y,ex,ey,hp⟩:=hG.pairs j q.1 UG.1;obtain⟨e1,e2⟩:xs[j]?=some q.2.1/\ys[j]?=some q.2.2:=List.getElem?_zip_eq_some.mp UG.2;obtain⟨u1,Ue,SD⟩:=rx.get e1;obtain⟨u2,YZ,SA⟩:=ry.get e2;rw[List.getElem?_toArray,Ue]at ex;rw[List.getElem?_toArray,YZ]at ey;cases ex;cases ey;exact p8 SD SA hp
noncomputable def pairD(x y:D):D:=.tup [x,y]
def N5(xs:ab):O D:=match two xs with
 |some z=>match z.1 with
  |.lst _ a=>match z.2 with
   |.lst _ b=>ok (.lst .ow (aB bo (List.zipWith pairD a b)))
   |_=>none
  |_=>none
 |none=>none
theorem Jx{x y d:D}(h:N5 [x,y]=ok d):∃f a g b,x=.lst f a/\y=.lst g b/\d=.lst .ow (aB bo (List.zipWith pairD a b)):=by
 cases x<;>first|exact nk h | (cases h;done)|skip
 cases y<;>first|exact nk h | (cases h;done)|skip
 cases h;exact⟨_,_,_,_,rfl,rfl,rfl⟩
def xT(sc:Scope)(bl:aq)(e:Expr):Option (av):=match dP e with
 |some z=>match one z.2 with
  |some i=>if z.1=("list" : Str)/\gz sc z.1=true/\z.1∈bl then fS sc bl i else none
  |none=>none
 |none=>none
theorem Cy{sc:Scope}{bl:aq}{e:Expr}(h:xT sc bl e=some args):∃p pos i,e=.Call (.Name ("list" : Str) p) [i] [] pos/\gz sc ("list" : Str)=true/\("list" : Str)∈bl/\fS sc bl i=some args:=by
 unfold xT at h;cases hv:dP e with
 |none=>rw[hv]at h;exact nk h
 |some z =>
  obtain⟨x,as⟩:=z;rw[hv]at h;obtain⟨p,pos,rfl⟩:=cO hv;have h2:(match one as with|some i=>if x=("list" : Str)/\gz sc x=true/\x∈bl then fS sc bl i else none|none=>none)=some args:=h;clear h;cases hw:one as with
  |none=>rw[hw]at h2;exact nk h2
  |some a =>
   rw[hw]at h2;have h3:(if x=("list" : Str)/\gz sc x=true/\x∈bl then fS sc bl a else none)=some args:=h2;clear h2;obtain rfl:=bY hw;by_cases hc:x=("list" : Str)/\gz sc x=true/\x∈bl
   ·rw[if_pos hc]at h3;obtain⟨rfl,h1,h2⟩:=hc;exact⟨_,_,_,rfl,h1,h2,h3⟩
   ·rw[if_neg hc]at h3;cases h3
theorem sN{T:kG}{N:hU}(hN:∀k k' p xs f,N k p xs f->N k' p xs f):∀{r:List (Addr×V×V)} {xs ys:ae} {a b:ab} {k1 k2 k:bj} {n1 n2 n:Nat},aA T N k1 n1 xs a->aA T N k2 n2 ys b->r.map (·.2)=xs.zip ys->(∀q∈r,T q.1 [q.2.1,q.2.2])->aA T N k n (r.map λq=>V.ref q.1) (List.zipWith pairD a b)
 |[],xs,ys,a,b,_,_,_,_,_,_,r1,r2,e,_=>by
  have l1:=r1.length;have l2:=r2.length;have e':=aaU List.length e;rw[List.length_zip]at e';have:List.zipWith pairD a b=[]:=List.eq_nil_of_length_eq_zero (by rw[List.length_zipWith];simp at e';left);rw[this];exact .nil
 |q::r,xs,ys,a,b,k1,k2,k,n1,n2,n,r1,r2,e,ht=>by
  cases r1 with
  |nil=>cases e
  |cons h1 t1=>cases r2 with
   |nil=>cases e
   |cons h2 t2 =>
    have e1:q.2=(_,_):=(abg e).1;have e2:=(abg e).2;refine .cons (.tup (ht q aai) ?_) (sN hN t1 t2 e2 λq hq=>ht q (aag _ hq));rw[e1];have m1:=Rep.ip (T':=T) (N':=N) (g:=id) (λ_ _ h=>h) hN h1 (0::n::k);have m2:=Rep.ip (T':=T) (N':=N) (g:=id) (λ_ _ h=>h) hN h2 (1::n::k);rw[dE]at m1 m2;exact .cons m1 (.cons m2 .nil)
theorem cz(g:Fl->Fl):∀a b:ab,aB g (List.zipWith pairD a b)=List.zipWith pairD (aB g a) (aB g b)
 |[],_=>by cases ‹ab› <;> rfl
 |_::_,[]=>rfl
 |x::a,y::b=>by
  show aT g (pairD x y)::aB g (List.zipWith pairD a b)=_;rw[cz g a b];rfl
theorem N4{n:Nat}(hΦ:Φ n=N5){sc:Scope}{bl:aq}{k:Nat}(L:PX X sc bl k){e:Expr}(he:xT sc bl e=some args)(hs:l9 X F Φ cs args):PE X e (tD X F Φ (.b9 n cs))/\PT X e (gy X F Φ (.b9 n cs)):=by
 obtain⟨p,pos,i,rfl,h1,h2,hz⟩:=Cy he;obtain⟨p',pos',a,b,rfl,rfl,h3,h4⟩:=lh hz;obtain⟨⟨c,d,rfl,_,_⟩,pa,s1,s2⟩:=ig hs;have this:PE X (.Call (.Name ("list" : Str) p) [.Call (.Name ("zip" : Str) p') [a,b] [] pos'] [] pos) (tD X F Φ (.b9 n [c,d])):=by
  refine PE.imp (Er L.calm (L.gl h1) (L.bl _ h2) (L.gl h3) (L.bl _ h4) pa s1 s2) λσ H Q hq=>?_;obtain⟨R,τ,ρ,d',Si,ev,hq⟩:=hq;obtain⟨xs,cK,ev⟩:=aG ev;rw[hΦ]at ev;refine⟨R,τ,ρ,xs,Si,cK,λvs H1 e1 r1=>?_⟩;obtain⟨τt,fr,rs⟩:=r1;have hl:∃x y,xs=[x,y]:=by
   unfold N5 at ev;cases hw:two xs with
   |none=>rw[hw]at ev;exact nk ev
   |some z=>exact⟨z.1,z.2,fN hw⟩
  obtain⟨x,y,rfl⟩:=hl;obtain⟨f,da,g,db,rfl,rfl,rfl⟩:=Jx ev;obtain⟨v,w,rfl,rx,ry⟩:=rs.two;cases rx with
  |lst hx ax=>cases ry with
   |lst hy ay =>
    refine⟨_,_,_,_,rfl,hx.sq,hy.sq,λl r hl hr hn J5 hz=>hq _ _ ?_ ?_⟩
    ·intro b o e;have e':=e1 b o e;rw[aX λz=>by rw[z,hl]at e';cases e'];exact kb e' hr
    ·have sm:aJ H1 (upd (oH H1 r) l (.lst (r.map λq=>V.ref q.1))):=λb o e=>by
      rw[aX λz=>by rw[z,hl]at e;cases e];exact kb e hr
     refine bQ.qt (e1.free hl) (e1.trans sm) aS ?_;rw[cz];refine sN nd.nH ((ax.eO Si fr (k':=[]) (n':=0)).imp (λ_ _ h=>aU.same sm h) λ_ _ _ _ h=>nd.same sm h) ((ay.eO Si fr (k':=[]) (n':=0)).imp (λ_ _ h=>aU.same sm h) λ_ _ _ _ h=>nd.same sm h) hz λq hq=>?_;have xk:q.1≠l:=λz=>J5 (by rw[<- z];exact aay hq);exact aU.of (by rw[aX xk];exact xc hn q hq)
 exact⟨this,cE this λ_=>rfl⟩
noncomputable def oV(n:Int):aa:=(List.range n.toNat).map λ(k:Nat)=>(k:Int)
def LR(xs:ab):O D:=match one xs with
 |some x=>match x with
  |.int n=>if n<=cL /\ -cL<=n then ok (.lst .ow ((oV n).map D.int))else none
  |_=>none
 |none=>none
theorem JA{xs:ab}{d:D}(h:LR xs=ok d):∃n:Int,xs=[.int n]/\n<=cL /\ -cL<=n/\d=.lst .ow ((oV n).map D.int):=by
 unfold LR at h;cases hw:one xs with
 |none=>rw[hw]at h;exact nk h
 |some x =>
  obtain rfl:=bY hw;rw[hw]at h;cases x<;>first|exact nk h | (cases h;done)|skip
  rename_i n;obtain⟨⟨h1,h2⟩,h3⟩:=oj h;exact⟨n,rfl,h1,h2,h3.symm⟩
def xU(sc:Scope)(bl:aq)(e:Expr):Option (av):=match dP e with
 |some z=>match one z.2 with
  |some i=>if z.1=("list" : Str)/\gz sc z.1=true/\z.1∈bl then iC ("range" : Str) sc bl i else none
  |none=>none
 |none=>none
theorem Cz{sc:Scope}{bl:aq}{e:Expr}(h:xU sc bl e=some args):∃p pos i,e=.Call (.Name ("list" : Str) p) [i] [] pos/\gz sc ("list" : Str)=true/\("list" : Str)∈bl/\iC ("range" : Str) sc bl i=some args:=by
 unfold xU at h;cases hv:dP e with
 |none=>rw[hv]at h;exact nk h
 |some z =>
  obtain⟨x,as⟩:=z;rw[hv]at h;obtain⟨p,pos,rfl⟩:=cO hv;have h2:(match one as with|some i=>if x=("list" : Str)/\gz sc x=true/\x∈bl then iC ("range" : Str) sc bl i else none|none=>none)=some args:=h;clear h;cases hw:one as with
  |none=>rw[hw]at h2;exact nk h2
  |some a =>
   rw[hw]at h2;have h3:(if x=("list" : Str)/\gz sc x=true/\x∈bl then iC ("range" : Str) sc bl a else none)=some args:=h2;clear h2;obtain rfl:=bY hw;by_cases hc:x=("list" : Str)/\gz sc x=true/\x∈bl
   ·rw[if_pos hc]at h3;obtain⟨rfl,h1,h2⟩:=hc;exact⟨_,_,_,rfl,h1,h2,h3⟩
   ·rw[if_neg hc]at h3;cases h3
def Yb(ta:TA):TE:=λσ H Q=>ta σ H λvs H1=>∃n:Int,vs=[.int n]/\n<=cL /\ -cL<=n/\∀l,H1 l=none->Q (.ref l) (upd H1 l (.lst ((oV n).map V.int)))
theorem rW:∀{ns:aa} {us:ak},us.length=ns.length->(∀(i:Nat) (u:Value),us[i]?=some u->∃t,u=.int (ns.getD i 0) t)->Vals (ns.map V.int) us
 |[],[],_,_=>.nil
 |[],_::_,h,_=>by simp at h
 |_::_,[],h,_=>by simp at h
 |n::ns,u::us,h,hu=>.cons (hu 0 u rfl) (rW (by simpa using h) λi v hv=>hu (i+1) v hv)
theorem yy{p:Pos}(hc:X.calm=true)(zC:Gl X "list")(UA:X.mg "list" = none)(hg:Gl X "range")(hm:X.mg "range" = none)(ha:PA X [e1] ta)(hs:starEach [e1] X.env=[(false,eval e1 X.env)]):
  PE X (.Call (.Name "list" p') [.Call (.Name "range" p) [e1] [] pos] [] pos') (Yb ta):=by
 intro pins s σ H Q I h;refine aa1 (dS I zC UA boot_list ?_);refine aaB ?_;show wpAny _ _ (spliced ((false,eval (.Call (.Name "range" p) [e1] [] pos) X.env)::backTo pos' (starEach [] X.env))) _ _ s;refine abx ?_;refine Call_ (dS I hg hm boot_range (aaB (cS (ha pos pins s σ H _ I h) λus s1 bL=>?_) hs rfl));obtain⟨vs,H1,I1,r1,q1⟩:=bL;obtain⟨n,e,n1,n2,hq⟩:=q1;subst e;have n1':n<=1000000:=n1;have n2':-1000000<=n:=n2;cases r1 with
 |cons r rr =>
  cases rr;obtain⟨t,rfl⟩:=r;refine call_range_1 (abF ?_);have e2:Builtin.Range.rangeSize 0 n 1=((n.toNat:Nat):Int):=by rw[rangeSize_one];split<;>left
  refine call_list_range (I1.ok.hd hc) (IsRange.new ..) (small_one (by left) (by left) (by left) (by left)) e2 (by left) λh' tk Lv c' hk hS fw=>?_;have keep:∀b o,s1.heap.get? b=some o->h'.get? b=some o:=λb o e=>hk b o (aaj _ e);have hsz:Lv.size=n.toNat:=fw.1;refine⟨.ref _,upd H1 _ (.lst ((oV n).map V.int)),I1.laid (t':=tk) keep ?_ ⟨?_,Lv.toList,c',?_,?_⟩,rfl,hq _ (I1.cM.fresh ?_)⟩
  ·show s1.heap.objs.size<=(s1.heap.push _).objs.size;simp[Heap.push]
  ·rw[sizeLine_eq];simp[oV];left
  ·refine rW (by simp[oV,hsz]) λi u hu=>?_;have tJ:Lv[i]?=some u:=by simpa using hu
   have hi:i<n.toNat:=by rw[<- hsz];exact(Array.getElem?_eq_some_iff.mp tJ).1
   obtain⟨t,rfl⟩:=fw.2 i u tJ;refine⟨t,?_⟩;have:(oV n).getD i 0=(i:Int):=by unfold oV;simp[List.getD,hi]
   rw[this];congr 1;left
  ·rw[Array.toArray_toList];exact hS
  ·show s1.heap.objs.size<=(s1.heap.push _).objs.size;simp[Heap.push]
theorem N6{n:Nat}(hΦ:Φ n=LR){sc:Scope}{bl:aq}{k:Nat}(L:PX X sc bl k){e:Expr}(he:xU sc bl e=some args)(hs:l9 X F Φ cs args):PE X e (tD X F Φ (.b9 n cs))/\PT X e (gy X F Φ (.b9 n cs)):=by
 obtain⟨p,pos,i,rfl,h1,h2,hz⟩:=Cz he;obtain⟨p',pos',a,rfl,rfl,h3,h4⟩:=pS hz;cases cs with
 |nil=>exact hs.elim
 |cons c cs=>cases cs with
  |cons _ _=>exact hs.2.2.2.elim
  |nil =>
   have pa:PA X [a] (si X F Φ [c]):=PA.imp (cA hs.1 (PA.imp dR λ_ _ _ h=>jX h) (hs.2.1 _)) λ_ _ _ h=>gh h;have this:PE X (.Call (.Name ("list" : Str) p) [.Call (.Name ("range" : Str) p') [a] [] pos'] [] pos) (tD X F Φ (.b9 n [c])):=by
    refine PE.imp (yy L.calm (L.gl h1) (L.bl _ h2) (L.gl h3) (L.bl _ h4) pa (hs.2.1 _)) λσ H Q hq=>?_;obtain⟨R,τ,ρ,d,Si,ev,hq⟩:=hq;obtain⟨xs,cK,ev⟩:=aG ev;rw[hΦ]at ev;obtain⟨m,rfl,m1,m2,rfl⟩:=JA ev;refine⟨R,τ,ρ,_,Si,cK,λvs H1 e1 r1=>?_⟩;obtain⟨τt,fr,rs⟩:=r1;obtain⟨v,rfl,rv⟩:=rs.one;cases rv;refine⟨m,rfl,m1,m2,λl hl=>hq _ _ ?_ ?_⟩
    ·intro b o e;have e':=e1 b o e;rw[aX λz=>by rw[z,hl]at e';cases e'];exact e'
    ·refine bQ.qt (e1.free hl) (λb o e=>?_) aS (dW _);have e':=e1 b o e;rw[aX λz=>by rw[z,hl]at e';cases e'];exact e'
   exact⟨this,cE this λ_=>rfl⟩
theorem aA.Hm{T:kG}{N:hU}{k:bj}:∀(j:Nat) {n:Nat} {vs:ae} {ds:ab},aA T N k n vs ds->aA T N k (n+j) (vs.drop j) (ds.drop j)
 |0,_,_,_,h=>h
 |j+1,_,_,_,.nil=>.nil
 |j+1,n,_,_,.cons h t=>by
  rw[show n+(j+1)=n+1+j by left];exact aA.Hm j t
theorem aA.GB{T:kG}{N:hU}{k:bj}:∀(j:Nat) {n:Nat} {vs:ae} {ds:ab},aA T N k n vs ds->aA T N k n (vs.take j) (ds.take j)
 |0,_,_,_,_=>by rw[List.take_zero,List.take_zero];exact .nil
 |j+1,_,_,_,.nil=>.nil
 |j+1,n,_,_,.cons h t=>.cons h (aA.GB j t)
noncomputable def oN{α:Type}(b:Bool)(k:Nat)(xs:List α):List α:=if b then xs.drop k else xs.take k
def Nc(K:ao)(b:Bool):V->Option Int->Option Int->Hp->VK->Prop:=λx lo hi H Q=>∃(a:Addr) (xs:ae) (k:Nat),x=.ref a/\dh K H a xs/\lo=(if b then some (k:Int)else none)/\hi=(if b then none else some (k:Int))/\k<=xs.length/\∀p,H p=none->Q (.ref p) (upd H p (.lst (oN b k xs)))
theorem wt(b:Bool):VP X (Nc X.K b):=by
 intro pins s σ H x v vl vu lo hi sl Q I rx hs pl pu h;obtain⟨a,xs,k,rfl,hx,rfl,rfl,hk,q⟩:=h;cases rx;obtain⟨aI,r,GV,hz⟩:=I.list hx;have hl:=eB GV;have hlen:aI.length=xs.length:=r.length.symm;refine⟨"list",_,slot_list_getitem.lookup,hl.typeIs,wpAny_getItem_list_slice hl hs pl pu .none (by simp) ?_ (by rw[List.size_toArray,hlen];exact hz)⟩;have e:slicePick aI.toArray (if b then some (k:Int)else none) (if b then none else some (k:Int)) none=(oN b k aI).toArray:=by
  cases b with
  |true=>exact slicePick_from aI.toArray k (by simp;left)
  |false=>exact slicePick_upto aI.toArray k (by simp;left)
 have rc:Vals (oN b k xs) (oN b k aI):=by
  cases b with
  |true=>exact r.drop k
  |false=>exact r.take k
 have lc:(oN b k xs).length<=xs.length:=by
  cases b with
  |true=>show(xs.drop k).length<=_;rw[List.length_drop];left
  |false=>show(xs.take k).length<=_;rw[List.length_take];left
 rw[e];exact⟨.ref s.heap.objs.size,_,I.JD (t':=s.toks) rc (aaG lc hz),rfl,q _ I.fresh⟩
def cutD(b:Bool)(xs:ab):O D:=match two xs with
 |some z=>match z.1 with
  |.lst _ ds=>match z.2 with
   |.int k=>if 0<=k/\k<=ds.length then ok (.lst .ow (aB bo (oN b k.toNat ds)))else none
   |_=>none
  |_=>none
 |none=>none
theorem F0{b:Bool}{x y d:D}(h:cutD b [x,y]=ok d):∃(f:Fl) (ds:ab) (k:Nat),x=.lst f ds/\y=.int k/\k<=ds.length/\d=.lst .ow (aB bo (oN b k ds)):=by
 cases x<;>first|exact nk h | (cases h;done) | (cases y<;>first|exact nk h | (cases h;done)|skip)
 obtain⟨⟨h1,h2⟩,h3⟩:=oj h;rename_i f ds k;exact⟨f,ds,k.toNat,rfl,by rw[Int.toNat_of_nonneg h1],by left,h3.symm⟩
noncomputable def DC(b:Bool)(e:Expr):Option Expr:=match e with
 |.Slice lo hi st _=>match st with
  |none=>match b with
   |true=>match hi with
    |none=>lo
    |some _=>none
   |false=>match lo with
    |none=>hi
    |some _=>none
  |some _=>none
 |_=>none
theorem DB{b:Bool}{e k:Expr}(h:DC b e=some k):∃p,e=.Slice (if b then some k else none) (if b then none else some k) none p:=by
 cases e<;>first|exact nk h | (cases h;done)|skip
 rename_i lo hi st p;cases st with
 |some _=>cases h
 |none=>cases b with
  |true=>cases hi with
   |some _=>cases h
   |none=>cases h;exact⟨p,rfl⟩
  |false=>cases lo with
   |some _=>cases h
   |none=>cases h;exact⟨p,rfl⟩
def qV(b:Bool)(_:Scope)(_:aq)(e:Expr):Option (av):=match mR e with
 |some z=>match DC b z.2 with
  |some k=>some [z.1,k]
  |none=>none
 |none=>none
theorem zh{b:Bool}{sc:Scope}{bl:aq}{e:Expr}(h:qV b sc bl e=some args):∃a k p pos,e=.Subscript a (.Slice (if b then some k else none) (if b then none else some k) none p) pos/\args=[a,k]:=by
 unfold qV at h;cases hv:mR e with
 |none=>rw[hv]at h;exact nk h
 |some z =>
  obtain⟨a,s⟩:=z;rw[hv]at h;obtain⟨pos,rfl⟩:=jU hv;have h:(match DC b s with|some k=>some [a,k]|none=>none)=some args:=h;cases hw:DC b s with
  |none=>rw[hw]at h;exact nk h
  |some k =>
   rw[hw]at h;cases h;obtain⟨p,rfl⟩:=DB hw;exact⟨a,k,p,pos,rfl,rfl⟩
theorem Lj{b:Bool}{n:Nat}(hΦ:Φ n=cutD b){sc:Scope}{bl:aq}{k:Nat}(L:PX X sc bl k){e:Expr}(he:qV b sc bl e=some args)(hs:l9 X F Φ cs args):PE X e (tD X F Φ (.b9 n cs))/\PT X e (gy X F Φ (.b9 n cs)):=by
 obtain⟨a,ke,p,pos,rfl,rfl⟩:=zh he;cases cs with
 |nil=>exact hs.elim
 |cons c cs=>cases cs with
  |nil=>exact hs.2.2.2.elim
  |cons c' cs=>cases cs with
   |cons _ _=>exact hs.2.2.2.2.2.2.elim
   |nil =>
    obtain⟨h1,_,_,h2,_,_,_⟩:=hs;have this:PE X (.Subscript a (.Slice (if b then some ke else none) (if b then none else some ke) none p) pos) (tD X F Φ (.b9 n [c,c'])):=by
     have go:∀{tl th:TO},PO X (if b then some ke else none) tl->PO X (if b then none else some ke) th->(∀(H1:Hp) (R:ai) (τ:Addr->Option bj) (ρ:a_) (k:Nat) (σ:St) (Q:Option Int->Option Int->Hp->Prop),SI X F R τ ρ σ H1->bw Φ c' ρ=ok (.int k)->(∀H2,aJ H1 H2->Q (if b then some (k:Int)else none) (if b then none else some (k:Int)) H2)->tl σ H1 λl H2=>th σ H2 λu H3=>Q l u H3)->PE X (.Subscript a (.Slice (if b then some ke else none) (if b then none else some ke) none p) pos) (tD X F Φ (.b9 n [c,c'])):=by
      intro tl th pl pu hh;refine PE.imp (AO (wt b) h1 pl pu) λσ H Q hq=>?_;obtain⟨R,τ,ρ,d,Si,ev,hq⟩:=hq;obtain⟨xs,cK,ev⟩:=aG ev;obtain⟨x,ex,cK⟩:=aG cK;obtain⟨ys,tX,cK⟩:=aG cK;cases cK;obtain⟨y,ey,tX⟩:=aG tX;cases tX;rw[hΦ]at ev;obtain⟨f,ds,j,rfl,rfl,hj,rfl⟩:=F0 ev;refine tD.intro Si ex λv H1 e1 r1=>hh H1 R τ ρ j σ (λl u H3=>Nc X.K b v l u H3 Q) (Si.go e1) ey λH2 e2=>?_;have r2:=(r1.go e2).mono (fv':=g9 (.b9 n [c,c'])) λi hi=>aaI _ hi;obtain⟨τt,fr,rp⟩:=r2;obtain⟨q,xs,rfl,hn,rs⟩:=rp.rS;have ee:=e1.trans e2;refine⟨q,xs,j,rfl,hn.sq,rfl,rfl,by rw[rs.length];exact hj,λl hl=>hq _ _ (ee.trans (aJ.upd hl)) (bQ.qt (ee.free hl) (ee.trans (aJ.upd hl)) aS ?_)⟩;have rc:∃n',aA (aU X.K H2) (nd X.K R (jl (gP X F) τ (g9 (.b9 n [c,c']))) τt H2) [] n' (oN b j xs) (oN b j ds):=by
       cases b with
       |true=>exact⟨_,rs.Hm j⟩
       |false=>exact⟨_,rs.GB j⟩
      obtain⟨n',rc⟩:=rc;exact(rc.eO Si fr).imp (λ_ _ h=>aU.same (aJ.upd hl) h) λ_ _ _ _ h=>nd.same (aJ.upd hl) h
     cases b with
     |true =>
      refine go (wG h2) wH λH1 R τ ρ k σ Q Si ek hk=>tD.intro Si ek λv H2 e2 r2=>?_;cases r2.isInt;exact⟨k,rfl,hk H2 e2⟩
     |false =>
      refine go wH (wG h2) λH1 R τ ρ k σ Q Si ek hk=>tD.intro Si ek λv H2 e2 r2=>?_;cases r2.isInt;exact⟨k,rfl,hk H2 e2⟩
    exact⟨this,cE this λ_=>by cases b<;>rfl⟩
section
open PySem.SeqAt
open PySem.AutoSeq1 (wpAny_loadPart')
open PySem.MeetsSeq PySem.MeetsSeq2 PySem.MeetsSeq3
theorem Ax(A:aD)(s:Shared)(a:Int)(t:Tok)(c:Int)(u:Tok)(prog:aE)(w:World)(E:aw)(Q:aw)(h:Q (.bool (decide (a ≥ c))) s):wpAny (model prog w) A (richCompare .GtE (.int a t) (.int c u)) Q E s :=
 (PyProof.Rows.ge_int h:wpAny (model prog w) A (compareOp .GtE (.int a t) (.int c u)) Q E s)
theorem ES{vs ws:ak}{ms:aa}{m n:Nat}(h1:IntsAre vs ns)(h2:IntsAre ws ms)(hz:vs.zip ws=[])(hl:ns.length+n=ms.length+m):(!HT.lexLt ns ms)=decide (m ≥ n):=by
 cases h1 with
 |nil=>cases h2 with
  |nil=>simp only[List.length_nil]at hl;exact(abc (by left)).symm
  |cons c u h=>simp only[List.length_nil,List.length_cons]at hl;exact(aa3 (by left)).symm
 |cons a t h=>cases h2 with
  |nil=>simp only[List.length_nil,List.length_cons]at hl;exact(abc (by left)).symm
  |cons c u h=>rw[List.zip_cons_cons]at hz;cases hz
theorem ox(l b:Addr)(items dg:aM)(n n2:Nat)(dd xP:Option Addr)(sl wu:Array (Option Value))(ns ms:aa)(hi:IntsAre items.toList ns)(hj:IntsAre dg.toList ms):
  Meets (Builtin.«tuple.__ge__» ⟨[.ref l,.ref b],[]⟩) (λ_ R s=>s.heap.get? l=some { cls:=.type "tuple",dict:=dd,data:=.seq items n,slots:=sl }/\s.heap.get? b=some { cls:=.type "tuple",dict:=xP,data:=.seq dg n2,slots:=wu }/\R (.ok (.ret (.bool (!HT.lexLt ns ms)))) s) :=
 .of_wp λprog w A R s h=>by
  obtain⟨hp,g,d,tk,os⟩:=s;obtain⟨hl,hb,h⟩:=h;have f2:=AutoSeq1.sub_tuple_tuple;have z1:items.size=ns.length:=by rw[<- hi.length];simp
  have z2:dg.size=ms.length:=by rw[<- hj.length];simp
  wp_walk using wpAny_loadPart' hl,wpAny_loadPart' hb,wpAny_forIn_list _ (λrest b s'=>b.1=none/\s'=⟨hp,g,d,tk,os⟩/\∃(vs ws:ak) (kK zA:aa),rest=vs.zip ws/\IntsAre vs kK/\IntsAre ws zA/\kK.length+dg.size=zA.length+items.size/\R (.ok (.ret (.bool (!HT.lexLt kK zA)))) ⟨hp,g,d,tk,os⟩) _
  case turn =>
   rintro ⟨y,x⟩ rest b s' ⟨oI,rfl,vs,ws,kK,zA,hz,JW,G_,hlen,hR⟩;cases JW with
   |nil=>rw[List.zip_nil_left]at hz;cases hz
   |cons a t hvi'=>cases G_ with
    |nil=>rw[List.zip_nil_right]at hz;cases hz
    |cons c u hwi' =>
     rw[List.zip_cons_cons]at hz;injection hz with T9 BK
     injection T9 with hy hx
     subst hy hx;rw[HT.dq]at hR;simp only[List.length_cons]at hlen;obtain⟨e,he,BP⟩:=HT.tY A.in1 ⟨hp,g,d,tk,os⟩ a t c u;refine aaa (he prog w _ _ ?_);cases e with
     |true =>
      rw[if_pos (BP.mp rfl)]at hR
      wp_walk
      exact⟨rfl,rfl,_,_,_,_,BK,hvi',hwi',by left,hR⟩
     |false =>
      have Fh:¬ a=c:=λq=>absurd (BP.mpr q) aah;rw[if_neg Fh,show(!decide (a<c))=decide (a ≥ c) by by_cases q:a<c<;>simp[q]<;>left]at hR;have Uj:=Ax A.in1 ⟨hp,g,d,tk,os⟩ a t c u prog w
      wp_walk using Uj
      exact⟨_,rfl,by simpa using hR⟩
  case fin =>
   rintro ⟨b1,b2⟩ s' ⟨oI,rfl,vs,ws,kK,zA,hz,JW,G_,hlen,hR⟩;simp only at oI;subst oI;rw[ES JW G_ hz.symm hlen]at hR
   wp_walk
   exact⟨_,rfl,by simpa [Builtin.Tuple.tupleCompareSizes]using hR⟩
  case h=>exact⟨rfl,rfl,items.toList,dg.toList,ns,ms,rfl,hi,hj,by left,h⟩
end
def Nb(K:ao):R2:=λx y H Q=>∃a b ns ms,x=.ref a/\y=.ref b/\aU K H a (ns.map V.int)/\aU K H b (ms.map V.int)/\Q (.bl (!HT.lexLt ns ms)) H
theorem AZ(hu:X.A.units<cLine):jF X (compareOp .GtE) (Nb X.K):=by
 intro pins s σ H x y v u Q I rx ry h;obtain⟨a,b,ns,ms,rfl,rfl,ha,hb,q⟩:=h;cases rx;cases ry;obtain⟨aI,r1,⟨⟨cls,dd,data,sl⟩,ho,hc,n,hd⟩,_⟩:=I.tuple ha;obtain⟨vk,r2,⟨⟨F2,xP,data2,wu⟩,qC,hc2,n2,hd2⟩,_⟩:=I.tuple hb;simp only at hc hd hc2 hd2;subst hc hd hc2 hd2;exact richCompare_meets_room (op:=.GtE) ⟨_,ho,rfl⟩ ⟨_,qC,rfl⟩ PySem.F.slot_tuple_ge PySem.F.entry_tuple_ge (PySem.F.args_tuple_ge_2 _ _) (ox a b aI.toArray vk.toArray n n2 dd xP sl wu ns ms (intsAre_of r1) (intsAre_of r2))
  ⟨ho,qC,show Value.bool (!HT.lexLt ns ms)≠Value.notImplemented/\EP X pins σ Q (.bool (!HT.lexLt ns ms)) s from⟨(λx=>nomatch x),⟨.bl _,H,I,rfl,q⟩⟩⟩ hu
def L9(xs:ab):O D:=match two xs with
 |some z=>match z.1 with
  |.tup a=>match z.2 with
   |.tup b=>match intsOf a with
    |some ns=>match intsOf b with
     |some ms=>ok (.bl (!HT.lexLt ns ms))
     |none=>none
    |none=>none
   |_=>none
  |_=>none
 |none=>none
theorem Ks{x y d:D}(h:L9 [x,y]=ok d):∃ns ms:aa,x=.tup (ns.map D.int)/\y=.tup (ms.map D.int)/\d=.bl (!HT.lexLt ns ms):=by
 cases x<;>first|exact nk h | (cases h;done) | (cases y<;>first|exact nk h | (cases h;done)|skip)
 rename_i a b;have h:(match intsOf a with|some ns=>(match intsOf b with|some ms=>ok (D.bl (!HT.lexLt ns ms))|none=>none)|none=>none)=ok d:=h;cases h1:intsOf a with
 |none=>rw[h1]at h;exact nk h
 |some ns=>cases h2:intsOf b with
  |none=>rw[h1,h2]at h;cases h
  |some ms =>
   rw[h1,h2]at h;cases h;exact⟨ns,ms,by rw[cU h1],by rw[cU h2],rfl⟩
def xV(_:Scope)(_:aq)(e:Expr):Option (av):=match DD e with
 |some z=>match one z.2.2 with
  |some r=>if z.2.1=[.GtE]then some [z.1,r]else none
  |none=>none
 |none=>none
theorem CA{sc:Scope}{bl:aq}{e:Expr}(h:xV sc bl e=some args):∃l r p,e=.Compare l [.GtE] [r] p/\args=[l,r]:=by
 unfold xV at h;cases hv:DD e with
 |none=>rw[hv]at h;exact nk h
 |some z =>
  obtain⟨l,os,rs⟩:=z;rw[hv]at h;obtain⟨p,rfl⟩:=vX hv;replace h:(match one rs with|some r=>if os=[.GtE]then some [l,r]else none|none=>none)=some args:=h;cases hw:one rs with
  |none=>rw[hw]at h;exact nk h
  |some r =>
   rw[hw]at h;replace h:(if os=[.GtE]then some [l,r]else none)=some args:=h;obtain rfl:=bY hw;by_cases hc:os=[.GtE]
   ·rw[if_pos hc]at h;cases h;subst hc;exact⟨l,r,p,rfl,rfl⟩
   ·rw[if_neg hc]at h;cases h
theorem Po{n:Nat}(hΦ:Φ n=L9){sc:Scope}{bl:aq}{k:Nat}(L:PX X sc bl k){e:Expr}(he:xV sc bl e=some args)(hs:l9 X F Φ cs args):PE X e (tD X F Φ (.b9 n cs))/\PT X e (gy X F Φ (.b9 n cs)):=by
 obtain⟨l,r,p,rfl,rfl⟩:=CA he;have hu:X.A.units<cLine:=by have:=L.room.units;left
 cases cs with
 |nil=>exact hs.elim
 |cons c cs=>cases cs with
  |nil=>exact hs.2.2.2.elim
  |cons c' cs=>cases cs with
   |cons _ _=>exact hs.2.2.2.2.2.2.elim
   |nil =>
    obtain⟨h1,_,_,h2,_,_,_⟩:=hs;have key:∀{σ:St} {H:Hp} {R:ai} {τ:Addr->Option bj} {ρ:a_} {d:D} {Q:VK},SI X F R τ ρ σ H->bw Φ (.b9 n [c,c']) ρ=ok d->(∀b H2,d=.bl b->aJ H H2->Q (.bl b) H2)->GD (Nb X.K) (tD X F Φ c) (tD X F Φ c') σ H Q:=by
     intro σ H R τ ρ d Q Si ev hq;obtain⟨xs,cK,ev⟩:=aG ev;obtain⟨x,ex,cK⟩:=aG cK;obtain⟨ys,tX,cK⟩:=aG cK;cases cK;obtain⟨y,ey,tX⟩:=aG tX;cases tX;rw[hΦ]at ev;obtain⟨ns,ms,rfl,rfl,rfl⟩:=Ks ev;refine tD.intro Si ex λv H1 e1 r1=>tD.intro (Si.go e1) ey λu H2 e2 r2=>?_;obtain⟨_,_,p1⟩:=r1.go e2;obtain⟨_,_,p2⟩:=r2;cases p1 with
     |tup t1 s1=>cases p2 with
      |tup t2 s2 =>
       cases s1.ofInts;cases s2.ofInts;exact⟨_,_,ns,ms,rfl,rfl,t1,t2,hq _ H2 rfl (e1.trans e2)⟩
    refine⟨PE.imp (wR (AZ hu) h1 h2 (A7 _)) λσ H Q hq=>?_,PT.imp (wD (AZ hu) h1 h2 (A7 _)) λσ H Q hq=>?_⟩
    ·obtain⟨R,τ,ρ,d,Si,ev,hq⟩:=hq;exact key Si ev λb H2 e es=>hq _ H2 es (by subst e;exact .bl)
    ·obtain⟨R,τ,ρ,b,Si,ev,hq⟩:=hq;obtain⟨d,ed,et⟩:=aG ev;refine key Si ed λb' H2 e es=>?_;subst e;cases et;exact⟨_,rfl,hq H2 es⟩
section
variable {X:Cx}
end
end DI
end
section
namespace DI
open PySem PySem.Spec PyProof.Rows L2 PySem.W
noncomputable def cN{α:Type}(lt:Nat->Nat->Bool):KasT α->α
 |.ret a=>a
 |.ask i j k=>cN lt (k (lt i j))
theorem gn{α β:Type}(lt:Nat->Nat->Bool)(f:α->KasT β):∀t:KasT α,cN lt (t.bind f)=cN lt (f (cN lt t))
 |.ret a=>rfl
 |.ask i j k=>gn lt f (k (lt i j))
section
noncomputable def je{α:Type}(n:Nat)(lt:Nat->Nat->Bool):KasT α->Prop
 |.ret _=>True
 |.ask i j k=>i<n/\j<n/\je n lt (k (lt i j))
end
theorem x8{α:Type}{cmp:Nat->Nat->(Bool->Shared->Prop)->Shared->Prop}{lt:Nat->Nat->Bool}{s:Shared}{n:Nat}(hc:∀i j C,i<n->j<n->C (lt i j) s->cmp i j C s){Q:α->Shared->Prop}:
  ∀(t:KasT α),je n lt t->Q (cN lt t) s->t.kasWp cmp Q s
 |.ret a,_,h=>h
 |.ask i j k,⟨h1,h2,h3⟩,h=>hc i j _ h1 h2 (x8 hc (k (lt i j)) h3 h)
theorem eZ{α β:Type}{lt:Nat->Nat->Bool}{n:Nat}{f:α->KasT β}:∀{t:KasT α},je n lt t->je n lt (f (cN lt t))->je n lt (t.bind f)
 |.ret _,_,h=>h
 |.ask i j k,⟨h1,h2,h3⟩,h=>⟨h1,h2,eZ h3 h⟩
structure Ord(lt:Nat->Nat->Bool)(n:Nat):Prop where
 tr:∀a b c,a<n->b<n->c<n->lt a b=true->lt b c=true->lt a c=true
 as:∀a b,a<n->b<n->lt a b=true->lt b a=false
 Qs:∀a b,a<n->b<n->a≠b->lt a b=true\/lt b a=true
structure Arr(p:Array Nat)(n:Nat):Prop where
 sz:p.size=n
 pm:p.toList.Perm (List.range n)
section
variable {lt:Nat->Nat->Bool}{n:Nat}{p:Array Nat}
theorem Arr.bd(h:Arr p n){i:Nat}(hi:i<n):p.getD i 0<n:=by
 have mv:i<p.size:=by rw[h.sz];exact hi
 have:p.getD i 0=p[i]:=by simp[Array.getD,mv]
 rw[this];have hm:p[i]∈p.toList:=Array.getElem_mem_toList mv;exact List.mem_range.mp (h.pm.mem_iff.mp hm)
theorem Arr.inj(h:Arr p n){i j:Nat}(hi:i<n)(hj:j<n)(e:p.getD i 0=p.getD j 0):i=j:=by
 have mv:i<p.toList.length:=by rw[Array.length_toList,h.sz];exact hi
 have UG:j<p.toList.length:=by rw[Array.length_toList,h.sz];exact hj
 have nd:p.toList.Nodup:=h.pm.nodup_iff.mpr List.nodup_range;have e1:p.getD i 0=p.toList[i]:=by simp[Array.getD,show i<p.size by rw[h.sz];exact hi]
 have e2:p.getD j 0=p.toList[j]:=by simp[Array.getD,show j<p.size by rw[h.sz];exact hj]
 rw[e1,e2]at e;exact(acm nd).mp e
def Up(lt:Nat->Nat->Bool)(p:Array Nat)(k:Nat):Prop:=∀i j,i<j->j<k->lt (p.getD i 0) (p.getD j 0)=true
def Dn(lt:Nat->Nat->Bool)(p:Array Nat)(k:Nat):Prop:=∀i j,i<j->j<k->lt (p.getD j 0) (p.getD i 0)=true
theorem Up.snoc(O:Ord lt n)(h:Arr p n){k:Nat}(hk:k<n)(h1:1<=k)(u:Up lt p k)(hl:lt (p.getD (k - 1) 0) (p.getD k 0)=true):Up lt p (k+1):=λi j gS hj=>by
 by_cases e:j=k
 ·subst e;by_cases e2:i=j - 1
  ·subst e2;exact hl
  ·exact O.tr _ _ _ (h.bd (by left)) (h.bd (by left)) (h.bd hk) (u i (j - 1) (by left) (by left)) hl
 ·exact u i j gS (by left)
theorem Dn.snoc(O:Ord lt n)(h:Arr p n){k:Nat}(hk:k<n)(h1:1<=k)(u:Dn lt p k)(hl:lt (p.getD k 0) (p.getD (k - 1) 0)=true):Dn lt p (k+1):=λi j gS hj=>by
 by_cases e:j=k
 ·subst e;by_cases e2:i=j - 1
  ·subst e2;exact hl
  ·exact O.tr _ _ _ (h.bd hk) (h.bd (by left)) (h.bd (by left)) hl (u i (j - 1) (by left) (by left))
 ·exact u i j gS (by left)
theorem rq(O:Ord lt n)(h:Arr p n):∀(f k:Nat),1<=k->k+f<=n->Up lt p k->je n lt (kas_asc p f k)/\k<=cN lt (kas_asc p f k)/\cN lt (kas_asc p f k)<=k+f/\Up lt p (cN lt (kas_asc p f k))
 |0,k,_,_,u=>⟨trivial,aam _,aam _,u⟩
 |f+1,k,h1,hf,u=>by
  have a1:p.getD k 0<n:=h.bd (by left);have a2:p.getD (k - 1) 0<n:=h.bd (by left);cases c:lt (p.getD k 0) (p.getD (k - 1) 0)with
  |true =>
   have e:cN lt (kas_asc p (f+1) k)=k:=by
    show cN lt (if lt (p.getD k 0) (p.getD (k - 1) 0)=true then .ret k else kas_asc p f (k+1))=k;rw[c];rfl
   refine⟨⟨a1,a2,?_⟩,by rw[e];exact aam _,by rw[e];left,by rw[e];exact u⟩;show je n lt (if lt (p.getD k 0) (p.getD (k - 1) 0)=true then .ret k else kas_asc p f (k+1));rw[c];trivial
  |false =>
   have e:cN lt (kas_asc p (f+1) k)=cN lt (kas_asc p f (k+1)):=by
    show cN lt (if lt (p.getD k 0) (p.getD (k - 1) 0)=true then .ret k else kas_asc p f (k+1))=_;rw[c];rfl
   have hl:lt (p.getD (k - 1) 0) (p.getD k 0)=true:=by
    rcases O.Qs _ _ a2 a1 (λz=>absurd (h.inj (by left) (by left) z) (by left))with z|z
    ·exact z
    ·rw[c]at z;cases z
   obtain⟨b1,b2,b3,b4⟩:=rq O h f (k+1) (by left) (by left) (u.snoc O h (by left) h1 hl);refine⟨⟨a1,a2,?_⟩,by rw[e];left,by rw[e];left,by rw[e];exact b4⟩;show je n lt (if lt (p.getD k 0) (p.getD (k - 1) 0)=true then .ret k else kas_asc p f (k+1));rw[c];exact b1
theorem xO(O:Ord lt n)(h:Arr p n):∀(f k:Nat),1<=k->k+f<=n->Dn lt p k->je n lt (kas_desc f p k 0)/\∃m,cN lt (kas_desc f p k 0)=(p,m,0)/\k<=m/\m<=k+f/\Dn lt p m
 |0,k,_,_,u=>⟨trivial,k,rfl,aam _,aam _,u⟩
 |f+1,k,h1,hf,u=>by
  have a1:p.getD k 0<n:=h.bd (by left);have a2:p.getD (k - 1) 0<n:=h.bd (by left);cases c:lt (p.getD k 0) (p.getD (k - 1) 0)with
  |true =>
   obtain⟨b1,m,b2,b3,b4,b5⟩:=xO O h f (k+1) (by left) (by left) (u.snoc O h (by left) h1 c);have e:kas_desc (f+1) p k 0=.ask (p.getD k 0) (p.getD (k - 1) 0) λc=>if c=true then(if (0:Nat)>0 then kas_desc f (kas_rev p (k - (0+1)) k) (k+1) 0 else kas_desc f p (k+1) 0)else .ask (p.getD (k - 1) 0) (p.getD k 0) λd=>if d=true then .ret (p,k,0)else kas_desc f p (k+1) (0+1):=rfl
   rw[e];refine⟨⟨a1,a2,?_⟩,m,?_,by left,by left,b5⟩
   ·rw[c];exact b1
   ·show cN lt (if lt (p.getD k 0) (p.getD (k - 1) 0)=true then _ else _)=_;rw[c];exact b2
  |false =>
   have hl:lt (p.getD (k - 1) 0) (p.getD k 0)=true:=by
    rcases O.Qs _ _ a2 a1 (λz=>absurd (h.inj (by left) (by left) z) (by left))with z|z
    ·exact z
    ·rw[c]at z;cases z
   have e:kas_desc (f+1) p k 0=.ask (p.getD k 0) (p.getD (k - 1) 0) λc=>if c=true then(if (0:Nat)>0 then kas_desc f (kas_rev p (k - (0+1)) k) (k+1) 0 else kas_desc f p (k+1) 0)else .ask (p.getD (k - 1) 0) (p.getD k 0) λd=>if d=true then .ret (p,k,0)else kas_desc f p (k+1) (0+1):=rfl
   rw[e];refine⟨⟨a1,a2,?_⟩,k,?_,aam _,by left,u⟩
   ·rw[c];exact⟨a2,a1,by rw[hl];trivial⟩
   ·show cN lt (if lt (p.getD k 0) (p.getD (k - 1) 0)=true then _ else _)=_;rw[c];show cN lt (if lt (p.getD (k - 1) 0) (p.getD k 0)=true then _ else _)=_;rw[hl];rfl
theorem mw{p q:Array Nat}{i j:Nat}(h:p[i]?=q[j]?):p.getD i 0=q.getD j 0:=by
 rw[Array.getD_eq_getD_getElem?,Array.getD_eq_getD_getElem?,h]
theorem IA(h:Arr p n){m:Nat}(hm:m<=n):Arr (kas_rev p 0 m) n/\(Dn lt p m->Up lt (kas_rev p 0 m) m):=by
 have hs:(kas_rev p 0 m).size=p.size:=mirror_size _ _ _ _;refine⟨⟨by rw[hs];exact h.sz,?_⟩,λu i j gS hj=>?_⟩
 ·have:=(mirror_perm p 0 m ((m - 0) / 2)).toList;exact this.trans h.pm
 ·have g:∀k,k<m->(kas_rev p 0 m).getD k 0=p.getD (m - 1 - k) 0:=λk hk=>by
   refine mw ?_;rw[show kas_rev p 0 m=mirror p 0 m ((m - 0) / 2) from rfl,getElem?_mirror_all (by rw[h.sz];exact hm),if_pos ⟨Nat.zero_le _,hk⟩];congr 1;left
  rw[g i (by left),g j hj];exact u (m - 1 - j) (m - 1 - i) (by left) (by left)
theorem z_(O:Ord lt n)(h:Arr p n){m:Nat}(h1:1<=m)(hm:m<=n)(u:Dn lt p m):je n lt (kas_tail3 m n p)/\∃r,cN lt (kas_tail3 m n p)=r/\Arr r.2 n/\1<=r.1/\r.1<=n/\Up lt r.2 r.1:=by
 obtain⟨a1,a2⟩:=IA (lt:=lt) h hm;obtain⟨b1,b2,b3,b4⟩:=rq O a1 (n - m) m h1 (by left) (a2 u);unfold kas_tail3;refine⟨eZ b1 trivial,_,rfl,?_⟩;rw[gn];exact⟨a1,aaG h1 b2,by show cN lt _<=n;left,b4⟩
theorem Ct(O:Ord lt n)(h:Arr p n)(hn:2<=n):je n lt (kas_count n p)/\∃r,cN lt (kas_count n p)=r/\Arr r.2 n/\1<=r.1/\r.1<=n/\Up lt r.2 r.1:=by
 obtain⟨b1,b2,b3,b4⟩:=rq O h (n - 1) 1 (aam _) (by left) (λi j _ _=>by left);generalize hk:cN lt (kas_asc p (n - 1) 1)=k at *;have key:∀t:KasT (Nat×Array Nat),t=(if (k==n)=true then .ret (k,p)else if k>1 then .ask (p.getD 0 0) (p.getD (k - 1) 0) λc=>if c=true then .ret (k,p)else kas_descPart k n (kas_rev p 0 k)else kas_descPart k n p) ->
   je n lt t/\∃r,cN lt t=r/\Arr r.2 n/\1<=r.1/\r.1<=n/\Up lt r.2 r.1:=by
  intro t ht;by_cases e:k=n
  ·rw[if_pos (by simpa using e)]at ht;subst ht;exact⟨trivial,(k,p),rfl,h,b2,by show k<=n;left,b4⟩
  ·rw[if_neg (by simpa using e)]at ht;by_cases e1:k>1
   ·rw[if_pos e1]at ht;subst ht;have hl:lt (p.getD 0 0) (p.getD (k - 1) 0)=true:=b4 0 (k - 1) (by left) (by left);refine⟨⟨h.bd (by left),h.bd (by left),by rw[hl];trivial⟩,(k,p),?_,h,b2,by left,b4⟩;show cN lt (if lt (p.getD 0 0) (p.getD (k - 1) 0)=true then _ else _)=_;rw[hl];rfl
   ·rw[if_neg e1]at ht;have Zh:k=1:=by left
    subst Zh;subst ht;have hl:lt (p.getD 1 0) (p.getD 0 0)=true:=by
     have a1:p.getD 1 0<n:=h.bd (by left);have a0:p.getD 0 0<n:=h.bd (by left);cases c:lt (p.getD 1 0) (p.getD 0 0)with
     |true=>rfl
     |false =>
      exfalso;obtain⟨f,hf⟩:∃f,n - 1=f+1:=⟨n - 2,by left⟩
      rw[hf]at hk;have e':cN lt (kas_asc p (f+1) 1)=cN lt (kas_asc p f 2):=by
       show cN lt (if lt (p.getD 1 0) (p.getD (1 - 1) 0)=true then .ret 1 else kas_asc p f 2)=_;rw[show(1 - 1:Nat)=0 from rfl,c];rfl
      rw[e']at hk;have u2:Up lt p 2:=λi j gS hj=>by
       have:i=0/\j=1:=by left
       obtain⟨rfl,rfl⟩:=this;rcases O.Qs _ _ a0 a1 (λz=>absurd (h.inj (by left) (by left) z) (by left))with z|z
       ·exact z
       ·rw[c]at z;cases z
      obtain⟨_,c2,_,_⟩:=rq O h f 2 (by left) (by left) u2;left
    have d2:Dn lt p 2:=λi j gS hj=>by
     have:i=0/\j=1:=by left
     obtain⟨rfl,rfl⟩:=this;exact hl
    obtain⟨c1,m,c2,c3,c4,c5⟩:=xO O h (n - 2) 2 (by left) (by left) d2;obtain⟨t1,r,t2,t3⟩:=z_ O h (m:=m) (by left) (by left) c5;unfold kas_descPart;refine⟨eZ c1 ?_,r,?_,t3⟩
    ·rw[show(1+1:Nat)=2 from rfl,show n - 2=n - 2 from rfl,c2];exact t1
    ·rw[gn,show(1+1:Nat)=2 from rfl,c2];exact t2
 have e:=key _ rfl;refine⟨?_,?_⟩
 ·unfold kas_count;exact eZ b1 (by rw[hk];exact e.1)
 ·unfold kas_count;rw[gn,hk];exact e.2
theorem Arr.or(O:Ord lt n)(h:Arr p n){i j:Nat}(hi:i<n)(hj:j<n)(e:i≠j)(c:lt (p.getD i 0) (p.getD j 0)=false):lt (p.getD j 0) (p.getD i 0)=true:=by
 rcases O.Qs _ _ (h.bd hi) (h.bd hj) (λz=>e (h.inj hi hj z))with z|z
 ·rw[c]at z;cases z
 ·exact z
theorem mY(O:Ord lt n)(h:Arr p n){k:Nat}(hk:k<n)(u:Up lt p k):∀(f l r:Nat),l<=r->r<=k->r - l<=f->(∀i,i<l->lt (p.getD i 0) (p.getD k 0)=true)->(∀i,r<=i->i<k->lt (p.getD k 0) (p.getD i 0)=true) ->
  je n lt (kas_place p k f l r)/\∃m,cN lt (kas_place p k f l r)=m/\m<=k/\(∀i,i<m->lt (p.getD i 0) (p.getD k 0)=true)/\∀i,m<=i->i<k->lt (p.getD k 0) (p.getD i 0)=true
 |0,l,r,hl,hr,hf,a,b=>by
  have:l=r:=by left
  subst this;exact⟨trivial,l,rfl,hr,a,b⟩
 |f+1,l,r,hl,hr,hf,a,b=>by
  have e:kas_place p k (f+1) l r=if l ≥ r then .ret l else .ask (p.getD k 0) (p.getD ((l+r) / 2) 0) λc=>if c=true then kas_place p k f l ((l+r) / 2)else kas_place p k f ((l+r) / 2+1) r:=rfl
  rw[e];by_cases J5:l ≥ r
  ·rw[if_pos J5];have:l=r:=by left
   subst this;exact⟨trivial,l,rfl,hr,a,b⟩
  ·rw[if_neg J5];have hm:l<=(l+r) / 2/\(l+r) / 2<r:=by left
   generalize (l+r) / 2=m at *;have b1:p.getD k 0<n:=h.bd hk;have b2:p.getD m 0<n:=h.bd (by left);cases c:lt (p.getD k 0) (p.getD m 0)with
   |true =>
    obtain⟨c1,m',c2,c3⟩:=mY O h hk u f l m hm.1 (by left) (by left) a λi h1 h2=>by
     by_cases e:i=m
     ·subst e;exact c
     ·exact O.tr _ _ _ b1 b2 (h.bd (by left)) c (u m i (by left) h2)
    refine⟨⟨b1,b2,by rw[c];exact c1⟩,m',?_,c3⟩;show cN lt (if lt (p.getD k 0) (p.getD m 0)=true then _ else _)=_;rw[c];exact c2
   |false =>
    have mr:=h.or O hk (by left) (by left) c;obtain⟨c1,m',c2,c3⟩:=mY O h hk u f (m+1) r (by left) hr (by left) (λi hi=>by
     by_cases e:i=m
     ·subst e;exact mr
     ·exact O.tr _ _ _ (h.bd (by left)) b2 b1 (u i m (by left) (by left)) mr) b
    refine⟨⟨b1,b2,by rw[c];exact c1⟩,m',?_,c3⟩;show cN lt (if lt (p.getD k 0) (p.getD m 0)=true then _ else _)=_;rw[c];exact c2
theorem zq(h:Arr p n){k m:Nat}(hk:k<n)(hm:m<=k)(u:Up lt p k)(a:∀i,i<m->lt (p.getD i 0) (p.getD k 0)=true)(b:∀i,m<=i->i<k->lt (p.getD k 0) (p.getD i 0)=true):
  Arr (bubble p k (k - m)) n/\Up lt (bubble p k (k - m)) (k+1):=by
 have hs:(bubble p k (k - m)).size=p.size:=bubble_size _ _ _;refine⟨⟨by rw[hs];exact h.sz,(bubble_perm p k (k - m)).toList.trans h.pm⟩,λi j gS hj=>?_⟩;have g:∀t,(bubble p k (k - m)).getD t 0=if t=m then p.getD k 0 else if m<t/\t<=k then p.getD (t - 1) 0 else p.getD t 0:=λt=>by
  have e:=getElem?_bubble (xs:=p) (src:=k) (by rw[h.sz];exact hk) (k - m) (Nat.sub_le _ _) t;rw[show k - (k - m)=m by left]at e;by_cases h1:t=m
  ·rw[if_pos h1]at e ⊢;exact mw e
  ·rw[if_neg h1]at e ⊢;by_cases h2:m<t/\t<=k
   ·rw[if_pos h2]at e ⊢;exact mw e
   ·rw[if_neg h2]at e ⊢;exact mw e
 rw[g i,g j];by_cases i1:i=m
 ·rw[if_pos i1,if_neg (by left),if_pos (by left)];exact b (j - 1) (by left) (by left)
 ·rw[if_neg i1];by_cases i2:m<i/\i<=k
  ·rw[if_pos i2,if_neg (by left),if_pos (by left)];exact u (i - 1) (j - 1) (by left) (by left)
  ·rw[if_neg i2];by_cases j1:j=m
   ·rw[if_pos j1];exact a i (by left)
   ·rw[if_neg j1];by_cases j2:m<j/\j<=k
    ·rw[if_pos j2];by_cases e:i=j - 1
     ·left
     ·exact u i (j - 1) (by left) (by left)
    ·rw[if_neg j2];exact u i j gS (by left)
end
theorem CK{lt:Nat->Nat->Bool}{n:Nat}(O:Ord lt n):∀(f:Nat) {p:Array Nat} {k:Nat},Arr p n->k+f=n->Up lt p k->je n lt (kas_bin f p k)/\Arr (cN lt (kas_bin f p k)) n/\Up lt (cN lt (kas_bin f p k)) n
 |0,p,k,h,hk,u=>⟨trivial,h,by rw[<- hk];exact u⟩
 |f+1,p,k,h,hk,u=>by
  obtain⟨a1,m,a2,a3,a4,a5⟩:=mY O h (k:=k) (by left) u k 0 k (aaP _) (aam _) (aam _) (λi hi=>by left) (λi h1 h2=>by left);obtain⟨b1,b2⟩:=zq h (by left) a3 u a4 a5;obtain⟨c1,c2,c3⟩:=CK O f b1 (by left) b2;have e:kas_bin (f+1) p k=(kas_place p k k 0 k).bind λl=>kas_bin f (bubble p k (k - l)) (k+1):=rfl;rw[e];refine⟨eZ a1 (by rw[a2];exact c1),?_⟩;rw[gn,a2];exact⟨c2,c3⟩
theorem DX{lt:Nat->Nat->Bool}{n:Nat}(O:Ord lt n)(hn:2<=n):je n lt (kas_sort n)/\Arr (cN lt (kas_sort n)) n/\Up lt (cN lt (kas_sort n)) n:=by
 have h0:Arr (List.toArray (List.range n)) n:=⟨by simp,by simp⟩
 obtain⟨a1,r,a2,a3,a4,a5,a6⟩:=Ct O h0 hn;unfold kas_sort;have key:∀t,t=(if r.1<n then kas_bin (n - max r.1 1) r.2 (max r.1 1)else .ret r.2)->je n lt t/\Arr (cN lt t) n/\Up lt (cN lt t) n:=by
  intro t ht;by_cases h:r.1<n
  ·rw[if_pos h]at ht;subst ht;rw[show max r.1 1=r.1 by left];exact CK O _ a3 (by left) a6
  ·rw[if_neg h]at ht;subst ht;have:r.1=n:=by left
   exact⟨trivial,a3,by rw[this]at a6;exact a6⟩
 have e:=key _ rfl;refine⟨eZ a1 (by rw[a2];exact e.1),?_⟩;rw[gn,a2];exact e.2
end DI
end
section
namespace DI
open PySem PySem.Spec PyProof.Rows L2
def oQ(h:Heap)(vs:ak)(nss:ag):Prop:=vs.length=nss.length/\∀(i:Nat) (ns:aa),nss[i]?=some ns->∃t aI,vs[i]?=some (.ref t)/\IsTup h t aI.toArray/\IntsAre aI ns
variable {h':Heap}{nss:ag}{vs:ak}
theorem oQ.mono{h:Heap}(k:∀b o,h.get? b=some o->h'.get? b=some o)(t:oQ h vs nss):oQ h' vs nss :=
 ⟨t.1,λi ns e=>let ⟨a,aI,e1,⟨o,ho,r⟩,e3⟩:=t.2 i ns e;⟨a,aI,e1,⟨o,k _ _ ho,r⟩,e3⟩⟩
theorem oQ.mem{h:Heap}(t:oQ h vs nss){v:Value}(hv:v∈vs):∃a aI ns,v=.ref a/\IsTup h a aI.toArray/\IntsAre aI ns:=by
 obtain⟨i,hi⟩:=List.mem_iff_getElem?.mp hv;have hl:i<nss.length:=by rw[<- t.1];exact(List.getElem?_eq_some_iff.mp hi).1
 obtain⟨a,aI,e1,e2,e3⟩:=t.2 i _ (aao hl);rw[hi]at e1;cases e1;exact⟨a,aI,_,rfl,e2,e3⟩
section
variable {prog:aE}{w:World}{A:aD}{E:aw}{s:Shared}
theorem nL:∀{vs:ak} {nss:ag} {Q:List (Option Value)->Shared->Prop},oQ s.heap vs nss->(∀fs:List (Option Value),fs.length=vs.length->(∀f∈fs,∀v,f=some v->∃n t,v=.int n t)->Q fs s)->wpAny (model prog w) A (vs.mapM firstOfTuple') Q E s
 |[],_,_,_,h=>by rw[List.mapM_nil];exact aab (h [] rfl λ_ h=>nomatch h)
 |v::vs,[],_,t,_=>by have:=t.1;simp at this
 |v::vs,ns::nss,Q,t,h=>by
  obtain⟨a,aI,e,⟨o,ho,hc,n,hd⟩,hi⟩:=t.2 0 ns rfl;cases e;rw[List.mapM_cons];refine aaa ?_;rw[PySem.W.kas_first_eq];refine aaa (PySem.W.Looks.here (show PySem.W.Looks (model prog w) s.heap (typeOf (.ref a)) o.cls from(PySem.W.Looks.ld ho).andThen .now) ?_);rw[hc,if_neg (by first|decide|simp)];refine aaa (listItems_at ho hd (aab ?_));refine aaa (nL (vs:=vs) (nss:=nss) ⟨by simpa using t.1,λi ms e=>t.2 (i+1) ms e⟩ λfs h1 h2=>aab (h _ (by simp[h1]) λf hf v hv=>?_));rcases List.mem_cons.mp hf with rfl|hf
  ·cases hi with
   |nil=>simp at hv
   |cons a' tk hi=>simp at hv;exact⟨_,_,hv.symm⟩
  ·exact h2 f hf v hv
def HC(κ:SortKind):Prop:=κ=tuples' true\/κ=general'\/κ=oneType'
theorem kind_any{Q:SortKind->Shared->Prop}(t:oQ s.heap vs nss)(Fh:vs≠[])(h:∀κ,HC κ->Q κ s):wpAny (model prog w) A (keyKind' vs.toArray) Q E s:=by
 obtain⟨v0,vr,rfl⟩:∃v0 vr,vs=v0::vr:=by
  cases vs with
  |nil=>exact absurd rfl Fh
  |cons v0 vr=>exact⟨v0,vr,rfl⟩
 rw[kat_kind_eq,List.mapM_toArray,map_eq_pure_bind];refine aaa (aaa (nL t λfs hl hf=>aab ?_));by_cases ha:(fs.toArray.all λx=>x.isSome)=true
 ·rw[if_pos ha];refine aaa (aba ?_);obtain⟨gs,hg,hgi⟩:∃gs:ak,fs=gs.map some/\∀v∈gs,∃n t,v=.int n t:=by
   clear h hl t;induction fs with
   |nil=>exact⟨[],rfl,λ_ h=>nomatch h⟩
   |cons f fs ih =>
    simp only[List.all_toArray,List.all_cons,Bool.and_eq_true]at ha;obtain⟨gs,e1,e2⟩:=ih (λf UN=>hf f (aag _ UN)) (by simpa using ha.2);cases f with
    |none=>simp at ha
    |some v =>
     exact⟨v::gs,by rw[e1];rfl,λu hu=>by
      rcases List.mem_cons.mp hu with rfl|hu
      ·exact hf _ aai _ rfl
      ·exact e2 u hu⟩
  subst hg;obtain⟨g0,gr,rfl⟩:∃g0 gr,gs=g0::gr:=by
   cases gs with
   |nil=>simp at hl
   |cons a b=>exact⟨a,b,rfl⟩
  have Zp:(((g0::gr).map some).toArray.filterMap id)=(g0::gr).toArray:=by simp
  rw[Zp,oneTypeOnly'_eq,List.mapM_toArray,map_eq_pure_bind];refine aaa (aaa (aaa (PySem.W.kas_mapM (r:=Value.type "int") _ (λv hv Q' hq=>by
   obtain⟨n,t,rfl⟩:=hgi v hv;exact(PySem.W.Looks.of_pure (M:=model prog w) rfl).here hq) (aab ?_))))
  have BW:((List.map (λ_=>Value.type "int") (g0::gr)).toArray.all λx=>x==Value.type "int")=true:=by
   simp only[List.all_toArray,List.all_map,List.all_eq_true];intro _ _;show(Value.type "int" == Value.type "int")=true;decide
  have h0:(List.map (λ_=>Value.type "int") (g0::gr)).toArray[0]?=some (Value.type "int"):=by simp
  rw[h0];simp only[BW,if_true];exact aab (aab (h _ (.inl rfl)))
 ·rw[if_neg ha];by_cases hb:((fs.toArray[0]?.bind id).isSome)=true
  ·rw[if_pos hb];exact aab (h _ (.inr (.inl rfl)))
  ·rw[if_neg hb];rw[oneTypeOnly'_eq,List.mapM_toArray,map_eq_pure_bind];refine aaa (aaa (aaa (PySem.W.kas_mapM (r:=Value.type "tuple") _ (λv hv Q' hq=>by
    obtain⟨a,aI,ns,rfl,⟨o,ho,hc,_⟩,_⟩:=t.mem hv;refine PySem.W.Looks.here (show PySem.W.Looks (model prog w) s.heap (typeOf (.ref a)) o.cls from(PySem.W.Looks.ld ho).andThen .now) ?_;rw[hc];exact hq) (aab ?_))))
   have BW:((List.map (λ_=>Value.type "tuple") (v0::vr)).toArray.all λx=>x==Value.type "tuple")=true:=by
    simp only[List.all_toArray,List.all_map,List.all_eq_true];intro _ _;show(Value.type "tuple" == Value.type "tuple")=true;decide
   have h0:(List.map (λ_=>Value.type "tuple") (v0::vr)).toArray[0]?=some (Value.type "tuple"):=by simp
   rw[h0];simp only[BW,if_true];exact aab (aab (h _ (.inr (.inr rfl))))
theorem Jy{κ:SortKind}(hk:HC κ)(hu:A.units<cLine){a b:Addr}{aI EV:ak}{ns ms:aa}{Q:Bool->Shared->Prop}(ha:IsTup s.heap a aI.toArray)(hb:IsTup s.heap b EV.toArray)(hi:IntsAre aI ns)(hj:IntsAre EV ms)(h:Q (HT.lexLt ns ms) s):
  wpAny (model prog w) A (keyLt' κ (.ref a) (.ref b)) Q E s:=by
 rcases hk with rfl|rfl|rfl
 ·obtain⟨o,ho,_,n,hd⟩:=ha;obtain⟨o',eF,_,n',Fs⟩:=hb;exact PySem.W.kat_lt ho hd eF Fs (tq 0 hi hj (by simp) h)
 ·exact PySem.W.kat_one _ _ (HT.vf ha hb (by simpa using hi) (by simpa using hj) hu h)
 ·show wpAny (model prog w) A (oneLt' true (.ref a) (.ref b)) Q E s;rw[oneLt'_eq];simp only[if_true];refine aaa (wpAny_cRoomFor hu ?_);obtain⟨⟨cls,dd,data,sl⟩,ho,hc,n,hd⟩:=id ha;obtain⟨⟨F2,xP,data2,wu⟩,qC,hc2,n2,hd2⟩:=id hb;simp only at hc hd hc2 hd2;subst hc hd hc2 hd2;refine aaa (wpAny_callSpecialIfBound?_slot (name:=Str.ofString "__lt__") ⟨_,ho,rfl⟩ abO (abC abO ⟨_,ho,rfl⟩ PySem.F.entry_tuple_lt (PySem.F.args_tuple_lt_2 _ _) (HT.jf a b _ _ n n2 dd xP sl wu ns ms (by simpa using hi) (by simpa using hj)) ⟨ho,qC,?_⟩));exact aaX h
end
def rG(h:Heap)(d:Addr)(es:Array DictEntry)(ep:Nat):Prop:=∃o,h.get? d=some o/\o.ExactDict/\o.data=.dict es ep
variable {Q:Value->Shared->Prop}
section
variable {prog:aE}{w:World}{A:aD}{E:aw}{s:Shared}{d it:Addr}{es:Array DictEntry}{ep i:Nat}
theorem rG.typeIs(h:rG s.heap d es ep):s.TypeIs (.ref d) "dict":=let ⟨o,ho,hx,_⟩:=h;⟨o,ho,hx.1⟩
theorem xN(hd:(d==sysModules)=false)(hm:rG s.heap d es ep)
  (hQ:Q (.ref s.heap.objs.size) { s with heap:=s.heap.push { cls:=.type "dict_keyiterator",data:=.fields #[.ref d,.int 0 0,.int es.size 0,.int ep 0] } }):wpAny (model prog w) A (pyIter (.ref d)) Q E s:=by
 have hT:=hm.typeIs;obtain⟨o,ho,hx,OX⟩:=hm;refine wpAny_pyIter_slot hT PySem.F.slot_dict_iter (aaL PySem.F.slot_dict_iter hT PySem.F.entry_dict_iter ?_ (PySem.F.args_dict_iter_1 _));unfold Builtin.«dict.__iter__» Builtin.Dict.dictSlotNone;refine aaa (aaa (wpAny_notOrdered_dict hT (aab ?_)));show wpAny _ _ (Builtin.Dict.showsAll d >>= _) _ _ s;unfold Builtin.Dict.showsAll;rw[if_neg (by rw[hd];exact Bool.false_ne_true)];refine aaa (aab (aaa (abG ho OX (aaa (wpAny_dictEpoch ho OX ?_)))));exact aaa (aa4 (aab ⟨_,rfl,"dict_keyiterator",_,⟨_,aat _ rfl,rfl⟩,PySem.F.slot_dict_keyiterator_next.lookup,hQ⟩))
theorem xM{Q:Option Value->Shared->Prop}(hit:s.heap.IsKeyIter it d i es.size ep)(hm:rG s.heap d es ep)(fR:i<es.size)
  (hQ:∀h',h'.IsKeyIter it d (i+1) es.size ep->Heap.SameBut it s.heap h'->Q (some es[i].key) { s with heap:=h' }):wpAny (model prog w) A (pyNext (.ref it)) Q E s:=by
 obtain⟨o,ho,hc,hd⟩:=id hit;obtain⟨od,OH,yR,OW⟩:=hm;unfold pyNext;refine aaa (abq (aaS (name:=Str.ofString "__next__") hit.typeIs aaY (aaL aaY hit.typeIs PySem.F.entry_dict_keyiterator_next ?_ (PySem.F.args_dict_keyiterator_next_1 _))));refine aaa (aab (aaa (aaa ?_)))
 first|refine aaa (aa5 hit.typeIs (aab ?_))|refine aaa (abe hit.typeIs (aab ?_))
 refine aaa (wpAny_fieldsOf ho hd ?_);simp only[show Builtin.Dict_items.ownsTuple "dict_keyiterator" = false by decide,Bool.false_eq_true,if_false];show wpAny _ _ (if (Value.ref d==Value.none)=true then _ else _) _ _ s;rw[if_neg (show ¬ ((Value.ref d==Value.none)=true) from Bool.false_ne_true)];refine aaa (aab (aaa (abG OH OW ?_)));rw[if_neg (by simp)];refine aaa (aab (aaa (wpAny_dictEpoch OH OW ?_)));rw[if_neg (by simp)];refine aab ?_;simp only[show ¬ ((i:Int)<0) from by left,if_false,Int.toNat_natCast,Array.getElem?_eq_getElem fR];refine aaa ?_
 first|refine aaa (aa5 hit.typeIs (aab ?_))|refine aaa (abe hit.typeIs (aab ?_))
 refine aaa (wpAny_isOneOf_keyiter hit.typeIs ?_);show wpAny _ _ (setField (.ref it) 1 (rawInt ((i:Int)+1)) >>= _) _ _ s;refine aaa (ab6 ho hd (by simp) ?_);have Fn:(s.heap.update it (Obj.mapFields (·.setIfInBounds 1 (rawInt ((i:Int)+1))))).IsKeyIter it d (i+1) es.size ep :=
  ⟨_,aaW _ ho (Obj.isFreed_of_fields (Obj.data_mapFields hd _)),(Obj.cls_mapFields ..).trans hc,by rw[Obj.data_mapFields hd];simp[rawInt]⟩
 refine aaa (aaM (aaa (wpAny_isOneOf_keyiter (s:={ s with heap:=s.heap.update it (Obj.mapFields (·.setIfInBounds 1 (rawInt ((i:Int)+1)))) }) Fn.typeIs ?_)));show wpAny _ _ (pure es[i].key) _ _ _;exact aab (aab ⟨_,rfl,aab (hQ _ Fn (aaV ..))⟩)
theorem Cp{Q:Option Value->Shared->Prop}(hh:A.handled=none)(hit:s.heap.IsKeyIter it d i es.size ep)(hm:rG s.heap d es ep)(Zn:es.size<=i)
  (hQ:∀h',Heap.ExtBut it s.heap h'->Q none { s with heap:=h' }):wpAny (model prog w) A (pyNext (.ref it)) Q E s:=by
 obtain⟨o,ho,hc,hd⟩:=id hit;obtain⟨od,OH,yR,OW⟩:=hm;unfold pyNext;refine aaa (abq (aaS (name:=Str.ofString "__next__") hit.typeIs aaY (aaL aaY hit.typeIs PySem.F.entry_dict_keyiterator_next ?_ (PySem.F.args_dict_keyiterator_next_1 _))));refine aaa (aab (aaa (aaa ?_)))
 first|refine aaa (aa5 hit.typeIs (aab ?_))|refine aaa (abe hit.typeIs (aab ?_))
 refine aaa (wpAny_fieldsOf ho hd ?_);simp only[show Builtin.Dict_items.ownsTuple "dict_keyiterator" = false by decide,Bool.false_eq_true,if_false];show wpAny _ _ (if (Value.ref d==Value.none)=true then _ else _) _ _ s;rw[if_neg (show ¬ ((Value.ref d==Value.none)=true) from Bool.false_ne_true)];refine aaa (aab (aaa (abG OH OW ?_)));rw[if_neg (by simp)];refine aaa (aab (aaa (wpAny_dictEpoch OH OW ?_)));rw[if_neg (by simp)];refine aab ?_;simp only[show ¬ ((i:Int)<0) from by left,if_false,Int.toNat_natCast,Array.getElem?_eq_none Zn];refine aaa ?_
 first|refine aaa (aa5 hit.typeIs (aab ?_))|refine aaa (abe hit.typeIs (aab ?_))
 show wpAny _ _ (setField (.ref it) 0 .none >>= _) _ _ s;refine aaa (ab6 ho hd (by simp) ?_);show wpAny _ _ (newExc (.type "StopIteration") [] >>= _) _ _ _;refine aaa ?_;simp only[newExc,newTuple];refine aaa (aa4 ?_ (by size_fits));refine aaa (m:=firstArgMember _ _) (wpAny_of_eq (a:=Value.none) (by first|rfl | (simp only[firstArgMember];rfl)) ?_);refine aa4 ?_ (by size_fits);simp only[raiseNew];refine aaa (wpAny_handled ?_);rw[show A.in1.handled=none from hh];refine aaa (aab (wpAny_throw ?_));refine aaa (abd (T:="StopIteration") (b:=true) ⟨_,aat _ rfl,rfl⟩ isSubtype_stop ?_);exact aab (hQ _ (((aaV ..).extBut.push _).push _))
end
theorem vj:∀a b c:aa,HT.lexLt a b=true->HT.lexLt b c=true->HT.lexLt a c=true
 |[],[],_,h,_=>by rw[HT.jh]at h;cases h
 |[],_::_,[],_,h=>by rw[HT.cP]at h;cases h
 |[],_::_,_::_,_,_=>rfl
 |_::_,[],_,h,_=>by rw[HT.cP]at h;cases h
 |_::_,_::_,[],_,h=>by rw[HT.cP]at h;cases h
 |x::a,y::b,z::c,h1,h2=>by
  rw[HT.dq]at *;by_cases e1:x=y
  ·subst e1;rw[if_pos rfl]at h1;by_cases e2:x=z
   ·subst e2;rw[if_pos rfl]at h2 ⊢;exact vj a b c h1 h2
   ·rw[if_neg e2]at h2 ⊢;exact h2
  ·rw[if_neg e1]at h1;have l1:x<y:=aac h1;by_cases e2:y=z
   ·subst e2;rw[if_neg (by left)];exact abc l1
   ·rw[if_neg e2]at h2;have l2:y<z:=aac h2;rw[if_neg (by left)];exact abc (by left)
theorem k9:∀a b:aa,HT.lexLt a b=true->HT.lexLt b a=false
 |[],[],_=>rfl
 |[],_::_,_=>rfl
 |_::_,[],h=>by rw[HT.cP]at h;cases h
 |x::a,y::b,h=>by
  rw[HT.dq]at *;by_cases e:x=y
  ·subst e;rw[if_pos rfl]at h ⊢;exact k9 a b h
  ·rw[if_neg e]at h;have l:x<y:=aac h;rw[if_neg (by left)];exact aa3 (by left)
theorem mq:∀a b:aa,a≠b->HT.lexLt a b=true\/HT.lexLt b a=true
 |[],[],h=>absurd rfl h
 |[],_::_,_=>.inl rfl
 |_::_,[],_=>.inr rfl
 |x::a,y::b,h=>by
  rw[HT.dq,HT.dq];by_cases e:x=y
  ·subst e;rw[if_pos rfl,if_pos rfl];exact mq a b λz=>h (by rw[z])
  ·rw[if_neg e,if_neg (Ne.symm e)];rcases Int.lt_or_gt_of_ne e with l|l
   ·exact .inl (abc l)
   ·exact .inr (abc l)
def bc(nss:ag):ag:=nss.mergeSort λa b=>!HT.lexLt b a
def rF(nss:ag):Prop:=nss.Pairwise λa b=>HT.lexLt a b=true
theorem wz:∀{l m:ag},rF l->rF m->l.Perm m->l=m
 |[],m,_,_,p=>(List.perm_nil.mp p.symm).symm
 |a::l,[],_,_,p=>by have:=p.length_eq;simp at this
 |a::l,b::m,h1,h2,p=>by
  have e:a=b:=by
   have ha:a∈b::m:=p.mem_iff.mp aai;have hb:b∈a::l:=p.mem_iff.mpr aai;rcases List.mem_cons.mp ha with e|ha
   ·exact e
   ·rcases List.mem_cons.mp hb with e|hb
    ·exact e.symm
    ·have l1:=(List.pairwise_cons.mp h2).1 a ha;have l2:=(List.pairwise_cons.mp h1).1 b hb;rw[k9 _ _ l1]at l2;cases l2
  subst e;rw[wz (List.pairwise_cons.mp h1).2 (List.pairwise_cons.mp h2).2 (List.perm_cons a |>.mp p)]
theorem gB(h:nss.Nodup):rF (bc nss):=by
 have p:(bc nss).Perm nss:=aaC _ _;have nd:(bc nss).Nodup:=p.nodup_iff.mpr h;have sd:(bc nss).Pairwise λa b=>(!HT.lexLt b a)=true:=List.pairwise_mergeSort (λa b c h1 h2=>by
  cases e:HT.lexLt c a with
  |false=>rfl
  |true =>
   exfalso;by_cases qI:b=c
   ·subst qI;rw[e]at h1;cases h1
   ·rcases mq b c qI with l|l
    ·rw[vj _ _ _ l e]at h1;cases h1
    ·rw[l]at h2;cases h2) (λa b=>by
  cases e:HT.lexLt b a with
  |false=>rfl
  |true=>rw[k9 _ _ e];rfl) nss
 exact(sd.and nd).imp λ{a b} ⟨h1,h2⟩=>by
  rcases mq a b h2 with l|l
  ·exact l
  ·rw[l]at h1;cases h1
theorem Aj{l:ag}(h:nss.Nodup)(hr:rF l)(p:l.Perm nss):l=bc nss:=wz hr (gB h) (p.trans (aaC _ _).symm)
def ltN(nss:ag)(i j:Nat):Bool:=HT.lexLt (nss.getD i []) (nss.getD j [])
theorem Jc(h:nss.Nodup):Ord (ltN nss) nss.length :=
 ⟨λa b c _ _ _ h1 h2=>vj _ _ _ h1 h2,λa b _ _ h=>k9 _ _ h,λa b ha hb qI=>mq _ _ λe=>qI (by
  have e1:nss.getD a []=nss[a]:=by simp[ha]
  have e2:nss.getD b []=nss[b]:=by simp[hb]
  rw[e1,e2]at e;exact(acm h).mp e)⟩
theorem oZ(h:nss.Nodup){p:Array Nat}(ha:Arr p nss.length)(hu:Up (ltN nss) p nss.length):(p.toList.map λi=>nss.getD i [])=bc nss:=by
 refine Aj h ?_ ?_
 ·refine List.pairwise_iff_getElem.mpr λi j hi hj gS=>?_;simp only[List.length_map,Array.length_toList]at hi hj;have:=hu i j gS (by rw[<- ha.sz];exact hj);unfold ltN at this;have e:∀k (hk:k<p.size),p.getD k 0=p[k]:=λk hk=>by simp[Array.getD,hk]
  rw[e i hi,e j hj]at this;simpa using this
 ·have e:nss=(List.range nss.length).map λi=>nss.getD i []:=by
   refine abn (by simp) λi h1 h2=>?_;simp[h1]
  refine(ha.pm.map λi=>nss.getD i []).trans ?_;rw[<- e]
variable {ep:Nat}
section
variable {prog:aE}{w:World}{A:aD}{E:aw}{s:Shared}
theorem Ai{a:Addr}{n:Nat}{P:PySem.Fin->Shared->Prop}(hu:A.units<cLine)(ho:s.heap.get? a=some (seqObj "list" vs.toArray n))(rP:vs.length<64)(zB:nss.Nodup)
  (ht:oQ (((s.heap.update a (Obj.mapSeq λ_=>#[])).push (seqObj "tuple" vs.toArray 0)).push (seqObj "list" #[] 0)) vs nss)
  (h:∀p:Array Nat,Arr p vs.length->(p.toList.map λi=>nss.getD i [])=bc nss->P (.done (.ret .none)) { s with heap:=sortedHeap s.heap a vs (List.toArray (p.toList.map λi=>vs.getD i Value.none)) }) :
  wpAny (model prog w) A (Builtin.«list.sort» ⟨[.ref a],[]⟩) P E s:=by
 rw[list_sort_plain];have ha:a<s.heap.objs.size:=aak ho;have hsz:vs.toArray.size=vs.length:=by simp
 have hz:vs.length<=sizeLine:=by rw[sizeLine_eq];left
 have hl:=ht.1;refine aaa (listItems_at ho rfl (aaa (listUpdate_at ho rfl ?_ (by rw[hsz];exact hz) (aaP _))));obtain⟨e1,Hb⟩:∃e1,(s.heap.update a (Obj.mapSeq λ_=>#[])).get? a=some (seqObj "list" #[] e1):=⟨_,get?_update_seq ho (λ_=>#[])⟩
 refine aaa (seqEpoch_at Hb rfl (aaa (wpAny_newTuple (aaa (ach (aaM ?_) (aaP _))) (by simpa using hz))));have WW:(((s.heap.update a (Obj.mapSeq λ_=>#[])).push (seqObj "tuple" vs.toArray 0)).push (seqObj "list" #[] 0)).get? a=some (seqObj "list" #[] e1):=aaj _ (aaj _ Hb);show wpAny (model prog w) A _ P E ({ s with heap:=((s.heap.update a (Obj.mapSeq λ_=>#[])).push (seqObj "tuple" vs.toArray 0)).push (seqObj "list" #[] 0) }:Shared);dsimp only;have fin:∀(lS:SortSt) (p:Array Nat),Arr p vs.length->(p.toList.map λi=>nss.getD i [])=bc nss->(arrOf lS).map (·.2)=List.toArray (p.toList.map λi=>vs.getD i Value.none)->failedOf lS=none->wpAny (model prog w) A (do
   let touched:=(<- seqEpoch a) != e1
   Builtin.List.listUpdate (.ref a) λ_=>(arrOf lS).map (·.2)
   if let some e:=failedOf lS then rule "list.sort.comparison-raised";throw e
   if touched then rule "list.sort.modified";raiseError "ValueError" "list modified during sort"
   ret .none) P E ({ s with heap:=((s.heap.update a (Obj.mapSeq λ_=>#[])).push (seqObj "tuple" vs.toArray 0)).push (seqObj "list" #[] 0) }:Shared):=by
  intro lS p hp hs hA hF;refine aaa (seqEpoch_at WW rfl ?_);rw[hA];refine aaa (listUpdate_at WW rfl ?_ (aaP _) (by rw[List.size_toArray,List.length_map,Array.length_toList,hp.sz];exact acj hz));rw[hF];simp only[bne_self_eq_false,Bool.false_eq_true,if_false];exact aab (h p hp hs)
 by_cases h2:vs.toArray.size<2
 ·rw[if_pos h2,if_pos h2];refine aaa (aab ?_);rw[StateT.run_pure];refine aaa (aab ?_);rw[hsz]at h2;have UU:Arr (List.toArray (List.range vs.length)) vs.length:=⟨by simp,by simp⟩
  refine fin (SortSt.mk' general' (vs.toArray.zip vs.toArray) #[] 7 none) (List.toArray (List.range vs.length)) UU ?_ ?_ rfl
  ·rw[hl]at UU ⊢;exact oZ zB UU λi j gS hj=>by left
  ·apply Array.toList_inj.mp;show(Array.map (·.2) (vs.toArray.zip vs.toArray)).toList=_;rw[Array.toList_map,show(vs.toArray.zip vs.toArray)=pairsOf vs from rfl,pairsOf_toList,List.map_snd_zip (Nat.le_refl _)];refine abn (by simp) λi h1 h2=>?_;simp[h1]
 ·rw[if_neg h2,if_neg h2];rw[hsz]at h2;refine aaa (kind_any ht (λz=>by rw[z]at h2;simp at h2) λκ hk=>?_);have ok:=DX (Jc zB) (by rw[<- hl];left);refine aaa (aaF (PySem.W.kat_run (ks:=vs) (vs:=vs) (κ:=κ) (Q:=λlS s'=>s'=({ s with heap:=((s.heap.update a (Obj.mapSeq λ_=>#[])).push (seqObj "tuple" vs.toArray 0)).push (seqObj "list" #[] 0) }:Shared)/\∃p,Arr p vs.length/\(p.toList.map λi=>nss.getD i [])=bc nss/\(arrOf lS).map (·.2)=List.toArray (p.toList.map λi=>vs.getD i Value.none)/\failedOf lS=none)
   (G:=λp s'=>s'=({ s with heap:=((s.heap.update a (Obj.mapSeq λ_=>#[])).push (seqObj "tuple" vs.toArray 0)).push (seqObj "list" #[] 0) }:Shared)/\Arr p vs.length/\(p.toList.map λi=>nss.getD i [])=bc nss) rfl (by left) rP (λp lS s' Ff Zy hf hG=>⟨hG.1,p,hG.2.1,hG.2.2,PySem.W.kat_snds rfl Zy,hf⟩) ?_) (λr s' ⟨e,p,hp,hs,hA,hF⟩=>?_) λ_ _ e=>e)
  rotate_left
  ·subst e;exact fin r.2 p hp hs hA hF
  ·rw[hl];refine x8 (lt:=ltN nss) (n:=nss.length) (λi j C hi hj hC=>?_) _ ok.1 ⟨rfl,ok.2.1,oZ zB ok.2.1 ok.2.2⟩;obtain⟨x,aI,e1,i1,i2⟩:=ht.2 i _ (aao hi);obtain⟨y,EV,e2,j1,j2⟩:=ht.2 j _ (aao hj);unfold PySem.W.kas_ask;rw[show vs.getD i Value.none=.ref x by simp[e1],show vs.getD j Value.none=.ref y by simp[e2]];refine Jy hk hu i1 j1 i2 j2 ?_;have e3:nss.getD i []=nss[i]:=by simp[hi]
   have e4:nss.getD j []=nss[j]:=by simp[hj]
   have Xc:C (HT.lexLt (nss.getD i []) (nss.getD j [])) _:=hC;rw[e3,e4]at Xc;exact Xc
theorem Co{es:Array DictEntry}(hh:A.handled=none)(I d:Addr)(Fh:d≠I):Walks prog w A I [I,d] [I] es.size (λi v=>∃e,es[i]?=some e/\v=e.key) (λi h=>h.IsKeyIter I d i es.size ep/\rG h d es ep) where
 sub:=λb hb=>by simp at hb;simp[hb]
 frame:=λ_ _ _ st hk=>⟨st.1.at λo e=>hk I (by simp) o e,let ⟨o,ho,r⟩:=st.2;⟨o,hk d (by simp) o ho,r⟩⟩
 item:=λi s Q E hi st hQ=>xM st.1 st.2 hi λh' Fn Fe=>hQ _ h' s.toks ⟨es[i],abb hi,rfl⟩ ⟨Fn,let ⟨o,ho,r⟩:=st.2;⟨o,Fe.extBut d o Fh ho,r⟩⟩ λb o hb e=>Fe.extBut b o (λh=>hb (by simp[h])) e
 done:=λs Q E st hQ=>Cp hh st.1 st.2 (aam _) λh' Zs=>hQ h' s.toks λb o hb e=>Zs b o (λh=>hb (by simp[h])) e
 self:=λ_ _ _ _ st hQ=>wpAny_pyIter_keyiter st.1 hQ
theorem Lf{d:Addr}{es:Array DictEntry}(lo:(d==sysModules)=false):PySem.W.KdlSrc prog w "dict" d d es.size (λi v=>∃e,es[i]?=some e/\v=e.key) (λh=>rG h d es ep) where
 type:=λ_ hm=>hm.typeIs
 there:=λ_ hm=>let ⟨_,ho,_⟩:=hm;⟨aak ho,aak ho⟩
 keep:=λ_ _ hm hk=>let ⟨o,ho,r⟩:=hm;⟨o,hk d (.inl rfl) o ho,r⟩
 notList:=by decide
 notTuple:=by decide
 hint:=λ_ _ _ _ hm hq=>PySem.W.kdl_hint_dict hm.typeIs hq
 iter:=λ_ _ hh hm=>⟨_,_,(λ_ _ hq=>xN lo hm hq),Co hh _ d (let ⟨_,ho,_⟩:=hm;aas (aak ho)),⟨⟨_,aat _ rfl,rfl,rfl⟩,let ⟨o,ho,r⟩:=hm;⟨o,aaj _ ho,r⟩⟩⟩
theorem so{d:Addr}{es:Array DictEntry}(hh:A.handled=none)(hu:A.units+2<cLine)(lo:(d==sysModules)=false)(hm:rG s.heap d es ep)(rP:es.size<64)(zB:nss.Nodup)(ht:oQ s.heap (es.toList.map (·.key)) nss)
  (h:∀(S:Addr) (h':Heap) (tk e:Nat) (p:Array Nat),s.heap.get? S=none->(∀b o,s.heap.get? b=some o->h'.get? b=some o)->Arr p es.size->(p.toList.map λi=>nss.getD i [])=bc nss ->
   h'.get? S=some (seqObj "list" (List.toArray (p.toList.map λi=>(es.toList.map (·.key)).getD i Value.none)) e)->Q (.ref S) { s with heap:=h',toks:=tk }) :
  wpAny (model prog w) A (call (.builtin "sorted") [.ref d]) Q E s:=by
 refine Calls.call_function_entry kind_sorted plain_sorted entry_sorted (args_sorted1 _) ?_;unfold Builtin.«sorted»;have hz:es.size<=sizeLine:=by rw[sizeLine_eq];left
 refine aaa (m:=checkCount "sorted" 1 1 _) (aab (aaa (PySem.W.kdu_collect (A:=A.in1) (Lf lo) hh hm hz λh1 tk acc hk fw=>?_)));have O9:acc.toList=es.toList.map (·.key):=by
  refine List.ext_getElem? λi=>?_;rw[List.getElem?_map,Array.getElem?_toList,Array.getElem?_toList];by_cases hi:i<es.size
  ·have OQ:i<acc.size:=by rw[fw.1];exact hi
   obtain⟨e,he,hv⟩:=fw.2 i acc[i] (abb OQ);rw[Array.getElem?_eq_getElem OQ,he,hv];rfl
  ·rw[Array.getElem?_eq_none (by rw[fw.1];left),Array.getElem?_eq_none (by left)];rfl
 rw[O9];generalize Uc:es.toList.map (·.key)=vs at *;have C4:vs.length=es.size:=by rw[<- Uc];simp
 refine aaa (ach ?_ (by rw[C4];exact hz));show wpAny _ _ _ _ _ ({ s with heap:=h1.push (seqObj "list" vs.toArray 0),toks:=tk }:Shared);have OI:(h1.push (seqObj "list" vs.toArray 0)).get? h1.objs.size=some (seqObj "list" vs.toArray 0):=aat _ rfl;have k6:∀b o,s.heap.get? b=some o->((((h1.push (seqObj "list" vs.toArray 0)).update h1.objs.size (Obj.mapSeq λ_=>#[])).push (seqObj "tuple" vs.toArray 0)).push (seqObj "list" #[] 0)).get? b=some o:=λb o e=>by
  refine aaj _ (aaj _ ?_);rw[Heap.get?_update_other _ _ (Nat.ne_of_gt (Heap.lt_size (hk b o e)))];exact aaj _ (hk b o e)
 have hle:s.heap.get? h1.objs.size=none:=by
  cases q:s.heap.get? h1.objs.size with
  |none=>rfl
  |some o=>exact absurd (aak (hk _ o q)) (aaA _)
 refine aaa (aaM (aaL slot_list_sort ⟨_,OI,rfl⟩ entry_list_sort (Ai (s:={ s with heap:=h1.push (seqObj "list" vs.toArray 0),toks:=tk }) (nss:=nss) (show A.in1.in1.units<cLine by show A.units+1+1<cLine;left) OI (by rw[C4];exact rP) zB (ht.mono k6) λp hp hs=>⟨_,rfl,?_⟩) (args_list_sort _)));obtain⟨e,he⟩:=sortedHeap_at (out:=List.toArray (p.toList.map λi=>vs.getD i Value.none)) OI;refine aab ⟨_,rfl,h h1.objs.size _ tk e p hle (λb o e=>?_) (by rw[<- C4];exact hp) hs he⟩;have fR:=aak (hk b o e);rw[sortedHeap_old (Nat.ne_of_lt fR) (by rw[size_push'];exact Nat.lt_succ_of_lt fR)];exact aaj _ (hk b o e)
end
section
variable {α β:Type}
noncomputable def bA:ag->List α->aa->Option α
 |c'::cs,v::vs,c=>if c'=c then some v else bA cs vs c
 |_,_,_=>none
noncomputable def setC:ag->List α->aa->α->List α
 |c'::cs,v'::vs,c,v=>(if c'=c then v else v')::setC cs vs c v
 |_,_,_,_=>[]
noncomputable def aL(cs:ag)(c:aa):ag:=if c∈cs then cs else cs++[c]
noncomputable def jD(cs:ag)(as:List α)(c:aa)(a:α):List α:=if c∈cs then as else as++[a]
def bC(cs:ag)(vs:List α)(c:aa)(v:α):List α:=if c∈cs then setC cs vs c v else vs++[v]
end
section
variable {zs:List (aa×Addr×Value)}{c:aa}
theorem gv:∀(zs:List (aa×Addr×Value)) (c:aa),(atKey zs c).map (·.2)=bA (zs.map (·.1)) (zs.map (·.2.2)) c
 |[],_=>rfl
 |z::zs,c=>by
  have ih:=gv zs c;unfold atKey at ih ⊢;rw[List.find?_cons];show _=if z.1=c then some z.2.2 else bA (zs.map (·.1)) (zs.map (·.2.2)) c
  by_cases e:z.1=c
  ·rw[decide_eq_true e,if_pos e];rfl
  ·rw[decide_eq_false e,if_neg e];exact ih
theorem dz:∀(zs:List (aa×Addr×Value)) (c:aa),(atKey zs c).isSome=true ↔ c∈zs.map (·.1)
 |[],c=>by simp[atKey]
 |z::zs,c=>by
  have ih:=dz zs c;unfold atKey at ih ⊢;rw[List.find?_cons,List.map_cons,List.mem_cons];by_cases e:z.1=c
  ·rw[decide_eq_true e];simp[e]
  ·rw[decide_eq_false e];rw[ih];exact⟨.inr,λh=>h.resolve_left λz=>e z.symm⟩
theorem fB(a:Addr)(v:Value):(storedH zs c a v).map (·.1)=aL (zs.map (·.1)) c:=by
 unfold storedH aL;by_cases h:c∈zs.map (·.1)
 ·rw[if_pos ((dz zs c).mpr h),if_pos h,List.map_map];refine aan λz _=>?_;show(putAt c v z).1=z.1;unfold putAt;split<;>rfl
 ·rw[if_neg (λz=>h ((dz zs c).mp z)),if_neg h,List.map_append];rfl
theorem lC(a:Addr)(v:Value):(storedH zs c a v).map (·.2.1)=jD (zs.map (·.1)) (zs.map (·.2.1)) c a:=by
 unfold storedH jD;by_cases h:c∈zs.map (·.1)
 ·rw[if_pos ((dz zs c).mpr h),if_pos h,List.map_map];refine aan λz _=>?_;show(putAt c v z).2.1=z.2.1;unfold putAt;split<;>rfl
 ·rw[if_neg (λz=>h ((dz zs c).mp z)),if_neg h,List.map_append];rfl
theorem sS(v:Value):∀zs:List (aa×Addr×Value),(zs.map (putAt c v)).map (·.2.2)=setC (zs.map (·.1)) (zs.map (·.2.2)) c v
 |[]=>rfl
 |z::zs=>by
  show(putAt c v z).2.2::((zs.map (putAt c v)).map (·.2.2))=(if z.1=c then v else z.2.2)::setC (zs.map (·.1)) (zs.map (·.2.2)) c v;rw[sS v zs];unfold putAt;by_cases e:z.1=c
  ·rw[if_pos e,if_pos e]
  ·rw[if_neg e,if_neg e]
theorem lB(a:Addr)(v:Value):(storedH zs c a v).map (·.2.2)=bC (zs.map (·.1)) (zs.map (·.2.2)) c v:=by
 unfold storedH bC;by_cases h:c∈zs.map (·.1)
 ·rw[if_pos ((dz zs c).mpr h),if_pos h];exact sS v zs
 ·rw[if_neg (λz=>h ((dz zs c).mp z)),if_neg h,List.map_append];rfl
end
theorem rT{c:aa}{v:V}{u:Value}(r:RelV v u):∀{cs:ag} {xs:ae} {us:ak},Vals xs us->Vals (setC cs xs c v) (setC cs us c u)
 |[],_,_,h=>by cases h<;>exact .nil
 |c'::cs,_,_,h=>by
  cases h with
  |nil=>exact .nil
  |cons h t =>
   refine .cons ?_ (rT r t);show RelV (if c'=c then v else _) (if c'=c then u else _);by_cases e:c'=c
   ·rw[if_pos e,if_pos e];exact r
   ·rw[if_neg e,if_neg e];exact h
theorem oT{v:V}{u:Value}(r:RelV v u):∀{xs:ae} {us:ak},Vals xs us->Vals (xs++[v]) (us++[u])
 |_,_,.nil=>.cons r .nil
 |_,_,.cons h t=>.cons h (oT r t)
theorem rV{cs:ag}{xs:ae}{us:ak}(h:Vals xs us){c:aa}{v:V}{u:Value}(r:RelV v u):Vals (bC cs xs c v) (bC cs us c u):=by
 unfold bC;by_cases e:c∈cs
 ·rw[if_pos e,if_pos e];exact rT r h
 ·rw[if_neg e,if_neg e];exact oT r h
theorem hV:∀{cs:ag} {xs:ae} {us:ak} (_:Vals xs us) (c:aa),l8 (bA cs xs c) (bA cs us c)
 |[],_,_,_,_=>by cases ‹Vals _ _› <;> exact True.intro
 |c'::cs,_,_,h,c=>by
  cases h with
  |nil=>exact True.intro
  |cons h t =>
   show l8 (if c'=c then some _ else _) (if c'=c then some _ else _);by_cases e:c'=c
   ·rw[if_pos e,if_pos e];exact h
   ·rw[if_neg e,if_neg e];exact hV t c
variable {pos pos':Pos}
section
variable {X:Cx}{pins:aj}{σ:St}{H:Hp}{s:Shared}{p b:Addr}{cs:ag}{as:aN}{xs:ae}{ep:Nat}{c:aa}{A:aD}{E:aw}
theorem items_int:∀{c:aa} {aI:ak},Vals (c.map V.int) aI->ItemsAre (intKind X.prog X.w) c aI
 |[],_,h=>by cases h;exact .nil
 |i::c,_,h=>by
  cases h with
  |cons h t =>
   obtain⟨t',rfl⟩:=h;exact .cons (by simp[intKind,Value.isInt]) (items_int t)
theorem nr(I:Inv X pins σ H s)(h:aU X.K H b (c.map V.int)):(tupleKind (intKind X.prog X.w)).is s.heap c b:=by
 obtain⟨aI,rv,⟨o,h1,h2,n,h3⟩,_⟩:=I.tuple h;exact⟨o,aI.toArray,n,h1,h2,h3,by simpa using items_int rv⟩
theorem qP(I:Inv X pins σ H s)(h:H p=some (.ext (DO p cs as xs ep)))(k:eG (aU X.K H) as cs):
  ∃(zs:List (aa×Addr×Value)) (o:Obj) (es:Array DictEntry),zs.map (·.1)=cs/\zs.map (·.2.1)=as/\Vals xs (zs.map (·.2.2))/\s.heap.get? p=some o/\o.ExactDict/\o.data=.dict es ep /\
   s.heap.DictOfH (tupleKind (intKind X.prog X.w)) p zs/\es.toList=zs.map (entryOfKey (tupleKind (intKind X.prog X.w)))/\cs.length<=sizeLine/\(p==sysModules)=false:=by
 obtain⟨⟨zs,o,es,e1,e2,e3,ho,hx,hd,he,hn,hl,hs⟩,_⟩:=(show cy X.prog X.w H s.heap p (.ext (DO p cs as xs ep)) from I.cM p _ h)
 refine⟨zs,o,es,e1,e2,e3,ho,hx,hd,⟨o,es,ep,ho,hx,hd,he,λz hz=>?_,by rw[e1];exact hn⟩,he,hl,hs⟩;obtain⟨j,hj⟩:=List.mem_iff_getElem?.mp hz;exact nr I (k.tup j z.2.1 z.1 (by rw[<- e2,List.getElem?_map,hj];rfl) (by rw[<- e1,List.getElem?_map,hj];rfl))
theorem dict_cls(I:Inv X pins σ H s)(h:H p=some (.ext (DO p cs as xs ep))):s.TypeIs (.ref p) "dict" /\ ∀b,Value.ref p=.ref b->∃ob,s.heap.get? b=some ob/\ob.dict=none:=by
 obtain⟨⟨zs,o,es,e1,e2,e3,ho,hx,_⟩,_⟩:=(show cy X.prog X.w H s.heap p (.ext (DO p cs as xs ep)) from I.cM p _ h)
 exact⟨⟨o,ho,hx.1⟩,λb q=>by cases q;exact⟨o,ho,hx.2.1⟩⟩
theorem FY{d:V}{r:Value}(hu:A.units+1<cLine)(I:Inv X pins σ H s)(h:H p=some (.ext (DO p cs as xs ep)))(k:eG (aU X.K H) as cs)(hb:aU X.K H b (c.map V.int))(rd:RelV d r)(hQ:∀w' s',Inv X pins σ H s'->RelV ((bA cs xs c).getD d) w'->Q w' s'):
  wpAny (model X.prog X.w) A (call (.builtin "dict.get") [.ref p,.ref b,r]) Q E s:=by
 obtain⟨zs,o,es,e1,e2,e3,ho,hx,hd,dd,_,hl,hs⟩:=qP I h k;refine call_meetsIn PySem.F.slot_dict_get dd.typeIs PySem.F.entry_dict_get (PySem.F.args_dict_get_3 _ _ _) (meetsH_dict_get_default (tupleKind (intKind X.prog X.w)) p b hs r) ⟨acd hu,c,zs,nr I hb,dd,hQ _ _ (I.tok _) ?_⟩;rw[gv,e1];have hg:=hV (cs:=cs) e3 c;cases q:bA cs xs c with
 |none =>
  rw[q]at hg;rw[l8.none_of hg];exact rd
 |some v =>
  rw[q]at hg;obtain⟨u,tJ,ru⟩:=l8.some_of hg;rw[tJ];exact ru
theorem vJ{v:V}{r:Value}{Q:Unit->Shared->Prop}(hu:A.units+1<cLine)(I:Inv X pins σ H s)(h:H p=some (.ext (DO p cs as xs ep)))(k:eG (aU X.K H) as cs)(hb:aU X.K H b (c.map V.int))(rv:RelV v r)(fR:cs.length<sizeLine)
  (hQ:∀kr s',Inv X pins σ (upd H p (.ext (DO p (aL cs c) (jD cs as c b) (bC cs xs c v) kr))) s'->Q () s') :
  wpAny (model X.prog X.w) A (setItem (.ref p) (.ref b) r) Q E s:=by
 obtain⟨zs,o,es,e1,e2,e3,ho,hx,hd,dd,_,hl,hs⟩:=qP I h k;have hz:zs.length<=sizeLine:=by rw[<- e1,List.length_map]at hl;exact hl
 refine wpAny_setItem_heap (hsz:=hz) (acd hu) (nr I hb) dd λh' VA BI=>?_;obtain⟨q,Dd,kr,hq,h2,h3,h4,_,h5⟩:=VA;refine hQ kr _ (I.write (x:=p) (e:=p) (by rw[h];exact True.intro) (.inl rfl) (λb q hb z=>(BI.2 b hb).trans z) ⟨q,hq⟩ ⟨⟨storedH zs c b r,q,Dd,?_,?_,?_,hq,h2,h3,h4,?_,?_,hs⟩,⟨q,hq⟩,?_⟩)
 ·rw[fB,e1]
 ·rw[lC,e1,e2]
 ·rw[lB,e1];exact rV e3 rv
 ·rw[<- e1,<- fB (zs:=zs) (c:=c) b r];exact h5
 ·unfold aL;split
  ·exact hl
  ·rw[List.length_append,List.length_singleton];left
 ·rintro h1 Ph ⟨Gu,o',es'',f1,f2,f3,f4,f5⟩ kk;exact⟨Gu,o',es'',f1,f2,f3,kk _ f4,f5⟩
theorem Et:PE X (.Dict [] [] pos) (λ_ H Q=>∀p,H p=none->Q (.ref p) (upd H p (.ext (DO p [] [] [] 0)))):=λpins s σ H Q I h=>by
 have Kb:sysModules<s.heap.objs.size:=abm (by decide) (show mainGlobals<s.heap.objs.size from(I.mod.glob.keeps I.bk).lt);refine wpAny_Dict_empty ⟨.ref s.heap.objs.size,_,I.laid (a:=s.heap.objs.size) (o:=.ext (DO s.heap.objs.size [] [] [] 0)) (t':=s.toks) (λ_ _ q=>aaj _ q) (aam _) ?_,rfl,h _ (I.cM.fresh (aam _))⟩;have hg:(s.heap.push { cls:=.type "dict",data:=.dict #[] }).get? s.heap.objs.size=some { cls:=.type "dict",data:=.dict #[] }:=aat _ rfl;refine⟨⟨[],_,#[],rfl,rfl,.nil,hg,⟨rfl,rfl,rfl⟩,rfl,rfl,aaR,aaP _,beq_eq_false_iff_ne.mpr (aaK (aas Kb))⟩,⟨_,hg⟩,?_⟩;rintro h1 Ph ⟨Gu,o',es'',f1,f2,f3,f4,f5⟩ kk;exact⟨Gu,o',es'',f1,f2,f3,kk _ f4,f5⟩
end
variable {N:hU}{T:kG}
theorem iR{N':hU}{k k':bj}{v:V}{d:D}(h:Rep T N k v d)(hf:aR anyF d=false):Rep T N' k' v d:=by
 have:=Rep.gen (T':=T) (N':=N') (g:=id) (P:=anyF) (C:=λ_ _=>True) (I:=λ_ _=>True) (λ_ _ h=>h) trivial (λ_ _ e=>e) (λ_ _ _ _ e _=>e) (λk k' p xs f _ hz _=>nomatch hz) h (k':=k') trivial hf;rw[dE]at this;exact this
theorem j6{T:kG}{N:hU}:∀{cs:ag} {k:bj} {n:Nat} {xs:ae} {ds:ab} (_:aA T N k n xs ds) (c:aa),(bA cs xs c=none/\bA cs ds c=none)\/∃v d k',bA cs xs c=some v/\bA cs ds c=some d/\Rep T N k' v d/\d∈ds
 |[],_,_,_,_,_,_=>by cases ‹aA _ _ _ _ _ _› <;> exact .inl ⟨rfl,rfl⟩
 |c'::cs,_,_,_,_,r,c=>by
  cases r with
  |nil=>exact .inl ⟨rfl,rfl⟩
  | @cons _ _ v d vs ds h t =>
   by_cases e:c'=c
   ·exact .inr ⟨v,d,_,aaZ e,aaZ e,h,aai⟩
   ·have e1:∀{α:Type} (a:α) (l:List α),bA (c'::cs) (a::l) c=bA cs l c:=λa l=>acb e;rw[e1,e1];rcases j6 (cs:=cs) t c with h|⟨v',d',k',h1,h2,h3,h4⟩
    ·exact .inl h
    ·exact .inr ⟨v',d',k',h1,h2,h3,aag _ h4⟩
theorem pH{p:Fl->Bool}:∀{ds:ab},aP p ds=false->∀d∈ds,aR p d=false
 |[],_,_,h=>nomatch h
 |d::ds,h,d',hd=>by
  have h:=C2 h;rcases List.mem_cons.mp hd with rfl|hd
  ·exact h.1
  ·exact pH h.2 d' hd
theorem sO{T:kG}{N:hU}{c:aa}{v:V}{d:D}(hv:∀k,Rep T N k v d):∀{cs:ag} {k:bj} {n:Nat} {xs:ae} {ds:ab},aA T N k n xs ds->aA T N k n (setC cs xs c v) (setC cs ds c d)
 |[],_,_,_,_,r=>by cases r<;>exact .nil
 |c'::cs,_,_,_,_,r=>by
  cases r with
  |nil=>exact .nil
  |cons h t =>
   refine .cons ?_ (sO hv t);show Rep _ _ _ (if c'=c then v else _) (if c'=c then d else _);by_cases e:c'=c
   ·rw[if_pos e,if_pos e];exact hv _
   ·rw[if_neg e,if_neg e];exact h
theorem o8{T:kG}{N:hU}{v:V}{d:D}(hv:∀k,Rep T N k v d):∀{k:bj} {n:Nat} {xs:ae} {ds:ab},aA T N k n xs ds->aA T N k n (xs++[v]) (ds++[d])
 |_,_,_,_,.nil=>.cons (hv _) .nil
 |_,_,_,_,.cons h t=>.cons h (o8 hv t)
variable {ds xs:ab}
theorem Au{c:aa}{v:V}{d:D}(hv:∀k,Rep T N k v d){cs:ag}{k:bj}{n:Nat}{xs:ae}(r:aA T N k n xs ds):aA T N k n (bC cs xs c v) (bC cs ds c d):=by
 unfold bC;by_cases e:c∈cs
 ·rw[if_pos e,if_pos e];exact sO hv r
 ·rw[if_neg e,if_neg e];exact o8 hv r
theorem Bv{as:aN}{cs:ag}(k:eG T as cs){b:Addr}{c:aa}(hb:T b (c.map V.int)):eG T (jD cs as c b) (aL cs c):=by
 unfold jD aL;by_cases e:c∈cs
 ·rw[if_pos e,if_pos e];exact k
 ·rw[if_neg e,if_neg e];refine⟨by rw[List.length_append,List.length_append,k.len];rfl,λj a c' ha hc=>?_⟩;by_cases hj:j<as.length
  ·rw[List.getElem?_append_left hj]at ha;rw[List.getElem?_append_left (by rw[<- k.len];exact hj)]at hc;exact k.tup j a c' ha hc
  ·rw[List.getElem?_append_right (by left)]at ha;rw[List.getElem?_append_right (by rw[<- k.len];left),<- k.len]at hc;cases hz:j - as.length with
   |zero =>
    rw[hz]at ha hc;cases ha;cases hc;exact hb
   |succ m=>rw[hz]at ha;cases ha
variable {F R:Addr->Prop}{H:Hp}{K:ao}{τ:Addr->Option bj}
theorem bQ.newD{G:Addr->Prop}{fv:aO}{H':Hp}{p:Addr}(hp:H p=none)(hl:H' p=some (.ext (DO p [] [] [] 0))):bQ K G R τ fv H H' (.ref p) (.bU .ow [] []):=by
 refine⟨λq=>if q=p then some []else none,λq k hq=>?_,.bU (ep:=0) (as:=[]) (xs:=[]) ⟨hl,by simp⟩ ⟨rfl,λj a c h=>by simp at h⟩ .nil⟩;by_cases rO:q=p
 ·subst rO;exact hp
 ·simp[rO]at hq
noncomputable def xK(xs:ab):O D:=match xs with
 |[]=>ok (.bU .ow [] [])
 |_::_=>none
noncomputable def iY(_:Scope)(_:aq)(e:Expr):Option (av):=match e with
 |.Dict [] [] _=>some []
 |_=>none
variable {X:Cx}{args:av}{cs:aF}{Φ:aY}
theorem FV{n:Nat}(hΦ:Φ n=xK){sc:Scope}{bl:aq}{k:Nat}(L:PX X sc bl k){e:Expr}(he:iY sc bl e=some args)(hs:l9 X F Φ cs args):PE X e (tD X F Φ (.b9 n cs))/\PT X e (gy X F Φ (.b9 n cs)):=by
 have h1:∃pos,e=.Dict [] [] pos/\args=[]:=by
  unfold iY at he;split at he
  ·cases he;exact⟨_,rfl,rfl⟩
  ·cases he
 obtain⟨pos,rfl,rfl⟩:=h1;cases cs with
 |cons _ _=>exact hs.elim
 |nil =>
  have this:PE X (.Dict [] [] pos) (tD X F Φ (.b9 n [])):=by
   refine PE.imp (Et (X:=X) (pos:=pos)) λσ H Q hq p hp=>?_;obtain⟨R,τ,ρ,d,Si,ev,hq⟩:=hq;have ev:Φ n []=ok d:=ev;rw[hΦ]at ev;cases ev;exact hq _ _ (aJ.upd hp) (bQ.newD hp aS)
  exact⟨this,cE this λ_=>rfl⟩
noncomputable def three{α:Type}:List α->Option (α×α×α)
 |[a,b,c]=>some (a,b,c)
 |_=>none
theorem sf{α:Type}{l:List α}{z:α×α×α}(h:three l=some z):l=[z.1,z.2.1,z.2.2]:=by
 unfold three at h;split at h
 ·cases h;rfl
 ·cases h
noncomputable def gp:D->Option (ag×ab)
 |.bU _ cs vs=>some (cs,vs)
 |_=>none
def keyOf:D->Option (aa)
 |.tup ks=>intsOf ks
 |_=>none
theorem kv{d:D}{z:ag×ab}(h:gp d=some z):∃f,d=.bU f z.1 z.2:=by
 cases d<;>first | (cases h;done) | (cases h;exact⟨_,rfl⟩)
theorem kg{d:D}{c:aa}(h:keyOf d=some c):d=.tup (c.map D.int):=by
 cases d<;>first | (cases h;done)|skip
 rw[cU (show intsOf _=some c from h)]
def zd(xs:ab):O D:=match two xs with
 |some z=>match gp z.1 with
  |some d=>match keyOf z.2 with
   |some c=>match bA d.1 d.2 c with
    |some v=>if aR anyF v=false then ok v else none
    |none=>none
   |none=>none
  |none=>none
 |none=>none
theorem FW{r:D}(h:zd xs=ok r):∃f cs vs c,xs=[.bU f cs vs,.tup (c.map D.int)]/\bA cs vs c=some r/\aR anyF r=false:=by
 unfold zd at h;cases h1:two xs with
 |none=>rw[h1]at h;cases h
 |some z =>
  rw[h1]at h;have h:(match gp z.1 with|some d=>(match keyOf z.2 with|some c=>(match bA d.1 d.2 c with|some v=>if aR anyF v=false then ok v else none|none=>none)|none=>none)|none=>none)=ok r:=h;cases h2:gp z.1 with
  |none=>rw[h2]at h;cases h
  |some d =>
   rw[h2]at h;have h:(match keyOf z.2 with|some c=>(match bA d.1 d.2 c with|some v=>if aR anyF v=false then ok v else none|none=>none)|none=>none)=ok r:=h;cases h3:keyOf z.2 with
   |none=>rw[h3]at h;cases h
   |some c =>
    rw[h3]at h;have h:(match bA d.1 d.2 c with|some v=>if aR anyF v=false then ok v else none|none=>none)=ok r:=h;cases h4:bA d.1 d.2 c with
    |none=>rw[h4]at h;cases h
    |some v =>
     rw[h4]at h;obtain⟨hf,rfl⟩:=oj (show(if aR anyF v=false then ok v else none)=ok r from h);obtain⟨f,e1⟩:=kv h2;exact⟨f,d.1,d.2,c,by rw[fN h1,e1,kg h3],h4,hf⟩
def SR(K:ao):R2:=λx y H Q=>∃p b cs as xs ep c v,x=.ref p/\y=.ref b/\H p=some (.ext (DO p cs as xs ep))/\eG (aU K H) as cs/\aU K H b (c.map V.int)/\bA cs xs c=some v/\Q v H
theorem EX(hu:X.A.units+1<cLine):Gm X (SR X.K):=by
 intro value slice pins s σ H x y v u Q I rx ry h hs;obtain⟨p,b,cs,as,xs,ep,c,w,rfl,rfl,hp,hk,hb,hg,q⟩:=h;cases rx;cases ry;obtain⟨zs,o,es,e1,e2,e3,ho,hx,hd,dd,_,hl,BH⟩:=qP I hp hk;have OR:=hV (cs:=cs) e3 c;rw[hg]at OR;obtain⟨u,tJ,ru⟩:=l8.some_of OR;have:(atKey zs c).map (·.2)=some u:=by rw[gv,e1];exact tJ
 obtain⟨q',Ul,rfl⟩:=Option.map_eq_some_iff.mp this;exact abi (x:=q'.2) dd.typeIs PySem.F.slot_dict_getitem.lookup
  (wpAny_getItem_heap (Q:=λr s'=>r=q'.2/\EP X pins σ Q r s') (acd hu) (nr I hb) dd Ul ⟨rfl,w,H,I.tok _,ru,q⟩) hs
def lj(_:Scope)(_:aq)(e:Expr):Option (av):=match mR e with
 |some z=>some [z.1,z.2]
 |none=>none
theorem Lg{n:Nat}(hΦ:Φ n=zd){sc:Scope}{bl:aq}{k:Nat}(L:PX X sc bl k){e:Expr}(he:lj sc bl e=some args)(hs:l9 X F Φ cs args):PE X e (tD X F Φ (.b9 n cs))/\PT X e (gy X F Φ (.b9 n cs)):=by
 unfold lj at he;cases h1:mR e with
 |none=>rw[h1]at he;cases he
 |some z =>
  rw[h1]at he;cases he;obtain⟨pos,rfl⟩:=jU h1;obtain⟨⟨c1,c2,rfl,p1,p2⟩,_⟩:=ig hs;have this:PE X (.Subscript z.1 z.2 pos) (tD X F Φ (.b9 n [c1,c2])):=by
   refine PE.imp (AS (EX (BF L.room)) p1 p2 hs.2.2.2.2.2.1) λσ H Q hq=>?_;obtain⟨R,τ,ρ,d,Si,ev,hq⟩:=hq;obtain⟨xs,cK,ev⟩:=aG ev;rw[hΦ]at ev;obtain⟨f,cs,vs,c,rfl,hg,hf⟩:=FW ev;obtain⟨x,ex,cK⟩:=aG cK;obtain⟨ys,tX,cK⟩:=aG cK;obtain⟨y,ey,PB⟩:=aG tX;cases PB;cases cK;refine tD.intro Si ex λv H1 e1 r1=>tD.intro (Si.go e1) ey λu H2 e2 r2=>?_;obtain⟨τ1,f1,q1⟩:=r1;obtain⟨τ2,f2,q2⟩:=r2;cases q1 with
   |bU hn hk hr=>cases q2 with
    |tup ht OC =>
     cases OC.ofInts;rcases j6 hr c with ⟨_,hz⟩|⟨w,d',k',g1,g2,g3,_⟩
     ·rw[hg]at hz;cases hz
     ·rw[hg]at g2;cases g2;refine⟨_,_,_,_,_,_,c,w,rfl,rfl,e2 _ _ hn.dat,hk.imp λ_ _ h=>aU.same e2 h,ht,g1,hq w H2 (e1.trans e2) ⟨λ_=>none,λ_ _ h=>by simp at h,?_⟩⟩;exact(iR (N':=nd X.K R (jl (gP X F) τ (g9 (.b9 n [c1,c2]))) (λ_=>none) H1) (k':=[]) g3 hf).imp (λ_ _ h=>aU.same e2 h) λ_ _ _ _ h=>nd.same e2 h
  exact⟨this,cE this λ_=>rfl⟩
def pP(xs:ab):O D:=match three xs with
 |some z=>match gp z.1 with
  |some d=>match keyOf z.2.1 with
   |some c=>if aP anyF d.2=false/\aR anyF z.2.2=false then ok ((bA d.1 d.2 c).getD z.2.2)else none
   |none=>none
  |none=>none
 |none=>none
theorem Cr{r:D}(h:pP xs=ok r):∃f cs vs c x,xs=[.bU f cs vs,.tup (c.map D.int),x]/\aP anyF vs=false/\aR anyF x=false/\r=(bA cs vs c).getD x:=by
 unfold pP at h;cases h1:three xs with
 |none=>rw[h1]at h;cases h
 |some z =>
  rw[h1]at h;have h:(match gp z.1 with|some d=>(match keyOf z.2.1 with|some c=>if aP anyF d.2=false/\aR anyF z.2.2=false then ok ((bA d.1 d.2 c).getD z.2.2)else none|none=>none)|none=>none)=ok r:=h;cases h2:gp z.1 with
  |none=>rw[h2]at h;cases h
  |some d =>
   rw[h2]at h;have h:(match keyOf z.2.1 with|some c=>if aP anyF d.2=false/\aR anyF z.2.2=false then ok ((bA d.1 d.2 c).getD z.2.2)else none|none=>none)=ok r:=h;cases h3:keyOf z.2.1 with
   |none=>rw[h3]at h;cases h
   |some c =>
    rw[h3]at h;obtain⟨⟨hf,hx⟩,rfl⟩:=oj (show(if aP anyF d.2=false/\aR anyF z.2.2=false then ok ((bA d.1 d.2 c).getD z.2.2)else none)=ok r from h);obtain⟨f,e1⟩:=kv h2;exact⟨f,d.1,d.2,c,z.2.2,by rw[sf h1,e1,kg h3],hf,hx,rfl⟩
def mD(_:Scope)(_:aq)(e:Expr):Option (av):=match oU ("get" : Str) (.Expr e ⟨0,0,0,0⟩)with
 |some z=>match two z.2 with
  |some y=>if isNm z.1=true then some [z.1,y.1,y.2]else none
  |none=>none
 |none=>none
theorem vO{sc:Scope}{bl:aq}{e:Expr}(h:mD sc bl e=some args):∃x p p1 p2 a b,e=.Call (.Attribute (.Name x p) ("get" : Str) p1) [a,b] [] p2/\args=[.Name x p,a,b]/\(p1.endLine==p2.line)=true:=by
 unfold mD at h;cases h1:oU ("get" : Str) (.Expr e ⟨0,0,0,0⟩)with
 |none=>rw[h1]at h;cases h
 |some z =>
  obtain⟨o,as⟩:=z;rw[h1]at h;have h2:(match two as with|some y=>if isNm o=true then some [o,y.1,y.2]else none|none=>none)=some args:=h;clear h;cases h3:two as with
  |none=>rw[h3]at h2;cases h2
  |some y =>
   rw[h3]at h2;have h4:(if isNm o=true then some [o,y.1,y.2]else none)=some args:=h2;clear h2;by_cases hn:isNm o=true
   ·rw[if_pos hn]at h4;cases h4;obtain⟨p1,p2,pos,e1,hl⟩:=rX h1;cases e1;cases o<;>first | (cases hn;done)|skip
    rw[fN h3];exact⟨_,_,_,_,_,_,rfl,rfl,hl⟩
   ·rw[if_neg hn]at h4;cases h4
theorem yA{x:Str}{p p1 p2:Pos}{a b:Expr}{td:TE}{ta:TA}(hu:X.A.units+1<cLine)(ho:PE X (.Name x p) td)(ha:PA X [a,b] ta)(s1:∀es,starEach (a::es) X.env=(false,eval a X.env)::starEach es X.env)(s2:∀es,starEach (b::es) X.env=(false,eval b X.env)::starEach es X.env)(hl:(p1.endLine==p2.line)=true):
  PE X (.Call (.Attribute (.Name x p) ("get" : Str) p1) [a,b] [] p2) (λσ H Q=>td σ H λv H1=>∃q cs as xs ep,v=.ref q/\H1 q=some (.ext (DO q cs as xs ep))/\ta σ H1 λys H2=>∃k c z,ys=[.ref k,z]/\H2 q=some (.ext (DO q cs as xs ep))/\eG (aU X.K H2) as cs/\aU X.K H2 k (c.map V.int)/\Q ((bA cs xs c).getD z) H2):=by
 intro pins s σ H Q I h;refine wpAny_Call_method rfl (by rw[s1,s2];rfl) hl PySem.F.plainAttrs_dict PySem.F.slot_dict_get PySem.F.type_dict_get (cS (ho pins s σ H _ I h) λu Sv bL=>?_);obtain⟨v,H1,I1,rx,q,cs,as,xs,ep,ex,hd,q1⟩:=bL;subst ex;obtain rfl:u=Value.ref q:=rx;obtain⟨t1,t2⟩:=dict_cls I1 hd;refine⟨t1,t2,?_⟩;have hA:=ha p2 pins Sv σ H1 _ I1 q1;rw[s1]at hA ⊢;refine abj (by show(false||(backTo p2 (starEach [b] X.env)).any (·.1))=false;rw[s2];rfl) (abW ?_);refine cS hA λus s3 bL=>?_;obtain⟨ys,H2,I2,r2,k,c,z,ey,hd2,hk,hb,q2⟩:=bL;subst ey;obtain⟨w1,w2,rfl,Sy,QC⟩:=vals2 r2;cases Sy;exact FY hu I2 hd2 hk hb QC λw' s4 I4 j5=>⟨_,H2,I4,j5,q2⟩
theorem FX{n:Nat}(hΦ:Φ n=pP){sc:Scope}{bl:aq}{k:Nat}(L:PX X sc bl k){e:Expr}(he:mD sc bl e=some args)(hs:l9 X F Φ cs args):PE X e (tD X F Φ (.b9 n cs))/\PT X e (gy X F Φ (.b9 n cs)):=by
 obtain⟨x,p,p1,p2,a,b,rfl,rfl,hl⟩:=vO he;cases cs with
 |nil=>exact hs.elim
 |cons c0 cs =>
  obtain⟨h0,_,_,Fe⟩:=hs;obtain⟨⟨c1,c2,rfl,_,_⟩,pa,s1,s2⟩:=ig Fe;have this:PE X (.Call (.Attribute (.Name x p) ("get" : Str) p1) [a,b] [] p2) (tD X F Φ (.b9 n [c0,c1,c2])):=by
   refine PE.imp (yA (BF L.room) h0 pa s1 s2 hl) λσ H Q hq=>?_;obtain⟨R,τ,ρ,d,Si,ev,hq⟩:=hq;obtain⟨xs,cK,ev⟩:=aG ev;rw[hΦ]at ev;obtain⟨f,cs,vs,c,y,rfl,hf,hy,rfl⟩:=Cr ev;obtain⟨x0,ex,cK⟩:=aG cK;obtain⟨ys,tX,cK⟩:=aG cK;cases cK;refine tD.intro Si ex λv H1 e1 r1=>?_;obtain⟨τ1,f1,q1⟩:=r1;cases q1 with
   |bU hn hk hr =>
    refine⟨_,_,_,_,_,rfl,hn.dat,R,τ,ρ,_,Si.go e1,tX,λus H2 e2 r2=>?_⟩;obtain⟨τ2,f2,q2⟩:=r2;obtain⟨u1,u2,rfl,SD,SA⟩:=q2.two;obtain⟨_,_,rfl,ht,OC⟩:=SD.ye;cases OC.ofInts;refine⟨_,c,u2,rfl,e2 _ _ hn.dat,hk.imp λ_ _ h=>aU.same e2 h,ht,?_⟩;refine hq _ H2 (e1.trans e2) ⟨λ_=>none,λ_ _ h=>by simp at h,?_⟩;rcases j6 hr c with ⟨g1,g2⟩|⟨w,d',k',g1,g2,g3,g4⟩
    ·rw[g1,g2];exact iR (T:=aU X.K H2) SA hy
    ·rw[g1,g2];exact(iR (N':=nd X.K R (jl (gP X F) τ (g9 (.b9 n [c0,c1,c2]))) (λ_=>none) H1) (k':=[]) g3 (pH hf _ g4)).imp (λ_ _ h=>aU.same e2 h) λ_ _ _ _ h=>nd.same e2 h
  exact⟨this,cE this λ_=>rfl⟩
def pN(xs:ab):O D:=match three xs with
 |some z=>match z.1 with
  |.bU f cs vs=>match keyOf z.2.2 with
   |some c=>if cB f=true/\aR anyF z.2.1=false/\cs.length<cL then ok (.bU .ow (aL cs c) (bC cs vs c z.2.1))else none
   |none=>none
  |_=>none
 |none=>none
theorem tZ{d:D}{r:D}(h:pN (d::xs)=ok r):∃cs vs c x,d=.bU .ow cs vs/\xs=[x,.tup (c.map D.int)]/\aR anyF x=false/\cs.length<cL/\r=.bU .ow (aL cs c) (bC cs vs c x):=by
 unfold pN at h;cases h1:three (d::xs)with
 |none=>rw[h1]at h;cases h
 |some z =>
  rw[h1]at h;have e0:=sf h1;obtain⟨d',x,y⟩:=z;obtain⟨rfl,rfl⟩:d=d'/\xs=[x,y]:=abg e0;cases d<;>first | (cases h;done)|skip
  rename_i f cs vs;have h:(match keyOf y with|some c=>if cB f=true/\aR anyF x=false/\cs.length<cL then ok (D.bU .ow (aL cs c) (bC cs vs c x))else none|none=>none)=ok r:=h;cases h3:keyOf y with
  |none=>rw[h3]at h;cases h
  |some c =>
   rw[h3]at h;obtain⟨⟨hf,hx,hl⟩,rfl⟩:=oj (show(if cB f=true/\aR anyF x=false/\cs.length<cL then ok (D.bU .ow (aL cs c) (bC cs vs c x))else none)=ok r from h);cases f<;>first | (cases hf;done)|exact⟨cs,vs,c,x,rfl,by rw[kg h3],hx,hl,rfl⟩
def mC(_:Scope)(_:aq)(st:Stmt):Option (Expr×av):=match yh st with
 |some z=>match one z.1 with
  |some t=>match mR t with
   |some y=>some (y.1,[z.2,y.2])
   |none=>none
  |none=>none
 |none=>none
variable {o tg value:Expr}{st:Stmt}
theorem vN{sc:Scope}{bl:aq}(h:mC sc bl st=some (o,args)):∃v i pos' pos,st=.Assign [.Subscript o i pos'] v pos/\args=[v,i]:=by
 unfold mC at h;cases h1:yh st with
 |none=>rw[h1]at h;cases h
 |some z =>
  obtain⟨ts,v⟩:=z;rw[h1]at h;have h2:(match one ts with|some t=>(match mR t with|some y=>some (y.1,[v,y.2])|none=>none)|none=>none)=some (o,args):=h;clear h;cases h3:one ts with
  |none=>rw[h3]at h2;cases h2
  |some t =>
   rw[h3]at h2;have h4:(match mR t with|some y=>some (y.1,[v,y.2])|none=>none)=some (o,args):=h2;clear h2;cases h5:mR t with
   |none=>rw[h5]at h4;cases h4
   |some y =>
    rw[h5]at h4;cases h4;obtain⟨pos,rfl⟩:=l_ h1;obtain rfl:=bY h3;obtain⟨p,rfl⟩:=jU h5;exact⟨_,_,_,_,rfl,rfl⟩
mutual
theorem any_map(g:Fl->Fl):∀d:D,aR anyF (aT g d)=aR anyF d
 |.cj=>rfl
 |.bl _=>rfl
 |.int _=>rfl
 |.tup ds=>uo g ds
 |.lst _ ds=>rfl
 |.bU _ _ ds=>rfl
 |.dC _ _ ds=>rfl
theorem uo(g:Fl->Fl):∀ds:ab,aP anyF (aB g ds)=aP anyF ds
 |[]=>rfl
 |d::ds=>by show(aR _ _||aP _ _)=(aR _ d||aP _ ds);rw[any_map g d,uo g ds]
end
mutual
theorem vQ:∀d:D,aR anyF d=false->aR bJ d=false
 |.cj,_=>rfl
 |.bl _,_=>rfl
 |.int _,_=>rfl
 |.tup ds,h=>x_ ds h
 |.lst _ ds,h=>nomatch h
 |.bU _ _ ds,h=>nomatch h
 |.dC _ _ ds,h=>nomatch h
theorem x_:∀ds:ab,aP anyF ds=false->aP bJ ds=false
 |[],_=>rfl
 |d::ds,h=>by
  have h:=C2 h;show(aR _ d||aP _ ds)=false;rw[vQ d h.1,x_ ds h.2];rfl
end
theorem any_ints:∀c:aa,aP anyF (c.map D.int)=false
 |[]=>rfl
 |i::c=>any_ints c
theorem H_{i:Expr}{l:Nat}{env:Env}:swapsWith value (some (.Subscript o i pos')) l env=pure false:=by
 unfold swapsWith;cases value<;>rfl
theorem AE{x:Str}{p0:Pos}{i:Expr}{tv to ti:TE}(hu:X.A.units+1<cLine)(hv:PE X value tv)(ho:PE X (.Name x p0) to)(hi:PE X i ti):
  PS X (.Assign [.Subscript (.Name x p0) i pos'] value pos) (λD σ H=>tv σ H λv H1=>to σ H1 λo H2=>ti σ H2 λy H3=>∃q b cs as xs ep c,o=.ref q/\y=.ref b/\H3 q=some (.ext (DO q cs as xs ep))/\eG (aU X.K H3) as cs/\aU X.K H3 b (c.map V.int)/\cs.length<sizeLine /\
   ∀kr,D.nx σ (upd H3 q (.ext (DO q (aL cs c) (jD cs as c b) (bC cs xs c v) kr)))):=by
 intro pins s σ H D I h;refine wpAny_Assign_Subscript (cS (hv pins s σ H _ I h) λr s1 ⟨v,H1,I1,rv,q1⟩=>cS (ho pins s1 σ H1 _ I1 q1) λu s2 ⟨o,H2,I2,rx,q2⟩=>cS (hi pins s2 σ H2 _ I2 q2) λiv s3 bL=>?_) H_;obtain⟨y,H3,I3,ry,q,b,cs,as,xs,ep,c,eo,ey,hd,hk,hb,hl,q3⟩:=bL;subst eo ey;obtain rfl:u=Value.ref q:=rx;obtain rfl:iv=Value.ref b:=ry;exact vJ hu I3 hd hk hb rv hl λkr s4 I4=>⟨σ,_,I4,q3 kr⟩
variable {ρ:a_}{σ:L2.St}
theorem SI.NG{i:Nat}{cs:ag}(Si:SI X F R τ ρ σ H)(hi:ρ[i]?=some (some (.bU .ow cs ds))):
  ∃p as xs ep,σ[i]?=some (some (.ref p))/\H p=some (.ext (DO p cs as xs ep))/\τ p=some [i]/\eG (aU X.K H) as cs/\aA (aU X.K H) (nd X.K R (λ_=>False) τ H) [i] 0 xs ds:=by
 obtain⟨v,hv,rp⟩:=Si.rep i _ hi;cases rp with
 |bU h k r=>exact⟨_,_,_,_,hv,h.1,h.2,k,r⟩
theorem FU{n:Nat}(hΦ:Φ n=pN){sc:Scope}{bl:aq}{k:Nat}(L:PX X sc bl k)(hN:X.N.Nodup)(yP:∀x,X.fn x=true){x:Str}(he:mC sc bl st=some (.Name x pos,args))
  {i:Nat} (hi:X.N[i]?=some x) (hl:L2.Loc X.env.scope x) (pe:PE X (.Name x pos) (uM i)) (hs:l9 X F Φ cs args):PS X st (lR X F Φ (.mut n i cs)):=by
 obtain⟨v,ix,p1,p2,rfl,rfl⟩:=vN he;obtain⟨⟨c1,c2,rfl,h1,h2⟩,_⟩:=ig hs;refine PS.imp (AE (BF L.room) h1 pe h2) λD σ H hq=>?_;obtain⟨R,τ,ρ,r,Si,ev,hq⟩:=hq;obtain⟨xs,cK,ev⟩:=aG ev;obtain⟨y,ey,cK⟩:=aG cK;obtain⟨ys,tX,cK⟩:=aG cK;cases cK;obtain⟨kd,ek,PB⟩:=aG tX;cases PB;have key:∃cs vs c,kd=.tup (c.map DI.D.int)/\ρ[i]?=some (some (.bU .ow cs vs))/\aR anyF y=false/\cs.length<cL/\r=(.nx,ρ.set i (some (.bU .ow (aL cs c) (bC cs vs c y)))):=by
  cases hz:aP bJ [y,kd]with
  |true =>
   obtain⟨d,d',h⟩:=Jr ev hz;rw[hΦ]at h;obtain⟨cs,vs,c,x',_,e1,e2,_⟩:=tZ h;have e3:aT aW y=x'/\aT aW kd=.tup (c.map DI.D.int):=by
    have:=abg e1;exact⟨this.1,(abg this.2).1⟩
   have a1:aR bJ y=false:=vQ y (by rw[<- any_map aW y,e3.1];exact e2);have a2:aR bJ kd=false:=vQ kd (by rw[<- any_map aW kd,e3.2];exact any_ints c);have:aP bJ [y,kd]=false:=by show(aR bJ y||(aR bJ kd||false))=false;rw[a1,a2];rfl
   rw[this]at hz;cases hz
  |false =>
   obtain⟨d,d',h,h',rfl⟩:=EJ ev hz;rw[hΦ]at h';obtain⟨cs,vs,c,x',rfl,e1,e2,e3,rfl⟩:=tZ h';cases e1;exact⟨cs,vs,c,rfl,h,e2,e3,rfl⟩
 obtain⟨cs,vs,c,rfl,ho,hf,hc,rfl⟩:=key;obtain⟨p,as,zs,ep,hv,hd,ht,hk,rs⟩:=Si.NG ho;refine tD.intro Si ey λu H1 e1 ru=>⟨.ref p,hv,tD.intro (Si.go e1) ek λw H2 e2 j5=>?_⟩
 obtain⟨τ1,f1,q1⟩:=ru;obtain⟨τ2,f2,q2⟩:=j5;cases q2 with
 | @tup _ b _ _ hb OC =>
  cases OC.ofInts;have es:=e1.trans e2;have uq:=Si.go es;have hd2:=es _ _ hd;have nE:cL=1000000:=rfl;have hz:sizeLine=16777216:=aa2;refine⟨p,b,cs,as,zs,ep,c,rfl,rfl,hd2,hk.imp λ_ _ h=>aU.same es h,hb,by left,λkr=>?_⟩;have hn:dO H2 p (.d cs as zs ep):=hd2;have rk:gJ X R τ H2 u y:=mX ((iR (N':=nd X.K R (λ_=>False) τ H1) (k':=[]) q1 hf).imp (λ_ _ h=>aU.same e2 h) λ_ _ _ _ h=>nd.same e2 h) hf;obtain⟨p',RA,Gu,Z5,WN,Fs,WQ,C6,rL⟩:=uq.NG ho;rw[hv]at WN;cases WN;rw[hd2]at Fs;obtain⟨τ3,rC⟩:=uq.Nq (m:=0) (n':=.d (aL cs c) (jD cs as c b) (bC cs zs c u) kr) (o:=.ext (DO p (aL cs c) (jD cs as c b) (bC cs zs c u) kr)) (d1:=.bU .ow (aL cs c) (bC cs vs c y)) (xs':=bC cs zs c u) (ds':=bC cs vs c y) ho hv hn ht (rs.imp (λ_ _ h=>aU.same es h) λ_ _ _ _ h=>nd.same es h) rk aS
   (λhN r=>.bU hN (Bv ((hk.imp λ_ _ h=>aU.same es h).imp λ_ _ h=>kS hn h) (kS hn hb)) r) (λrs r=>Au (λk=>iR r hf) rs)
  exact hq σ _ R τ3 rC (nq uq es (λ_ h=>h) hn ht)
variable {P:aE}{w:World}
theorem Jm{h:Heap}{a:Addr}{o:HO}(x:cy P w H h a o):∃u,h.get? a=some u:=by
 cases o with
 |lst xs=>obtain⟨_,_,_,_,e⟩:=x;exact⟨_,e⟩
 |tup xs=>obtain⟨_,_,_,o,e,_⟩:=x;exact⟨_,e⟩
 |dK nj=>obtain⟨_,_,_,_,o,_,_,e,_⟩:=x;exact⟨_,e⟩
 |dT nj=>obtain⟨_,_,_,_,o,_,_,e,_⟩:=x;exact⟨_,e⟩
 |set S n=>obtain⟨o,_,_,_,e,_⟩:=x;exact⟨_,e⟩
 |ins C dx fs=>obtain⟨_,_,_,e,_⟩:=x;exact⟨_,e⟩
 |own y=>exact x
 |xd fs=>obtain⟨_,⟨o,_,_,e,_⟩,_⟩:=x;exact⟨_,e⟩
 |kZ lo hi=>obtain⟨_,_,_,e⟩:=x;exact⟨_,e⟩
 |g_ o u=>exact⟨_,x.1⟩
 |GA ps=>exact⟨_,x⟩
 |met f y=>exact⟨_,x⟩
 |ext φ=>exact x.2.1
theorem Inv.Oc{pins:aj}{s:Shared}{t':Nat}{a:Addr}{o:HO}(I:Inv X pins σ H s)(k:∀b u,s.heap.get? b=some u->h'.get? b=some u)(ha:s.heap.get? a=none)(new:cy X.prog X.w (upd H a o) h' a o):
  H a=none/\Inv X pins σ (upd H a o) { s with heap:=h',toks:=t' }:=by
 have hn:H a=none:=by
  cases q:H a with
  |none=>rfl
  |some u =>
   obtain⟨z,hz⟩:=Jm (I.cM a u q);rw[ha]at hz;exact nk hz
 have up:∀b u,H b=some u->upd H a o b=some u:=λb u e=>by rw[aX (ck e hn)];exact e
 refine⟨hn,I.step (g':=s.gens) (d':=s.drawn) (ch:=[]) (λb hb=>nomatch hb) (λb o _ _ _ e _=>k b o e) (λb o _ _ _ e _=>⟨o.slots,k b o e⟩) (λb u _ e n=>?_)
  (λb o _ e=>⟨o,k b o e⟩) (λ_ _ e=>up _ _ e) (λ_ _ _ e=>up _ _ e) (λb ps e=>⟨#[],by rw[up _ _ e];simp⟩) (λm hm=>?_) (λb u e=>?_) I.bare⟩
 ·rw[aX λz=>by rw[z,ha]at e;cases e];exact n
 ·obtain⟨o,es,ep,ho,r⟩:=hm;exact⟨o,es,ep,k _ o ho,r⟩
 ·by_cases z:b=a
  ·subst z;rw[aS]at e;cases e;exact new
  ·rw[aX z]at e;exact(I.cM b u e).jZ (λc v _ q=>k c v q) (λ_ q=>up _ _ q) λ_ _ q=>up _ _ q
section
variable {X:Cx}{pins:aj}{σ:St}{H:Hp}{s:Shared}{d:Addr}{cs:ag}{as:aN}{xs:ae}{ep:Nat}
theorem qk(I:Inv X pins σ H s)(h:H d=some (.ext (DO d cs as xs ep))):∃es:Array DictEntry,rG s.heap d es ep/\es.size=as.length/\es.toList.map (·.key)=as.map Value.ref/\cs.Nodup/\as.length=cs.length/\(d==sysModules)=false:=by
 obtain⟨⟨zs,o,es,e1,e2,e3,ho,hx,hd,he,hn,hl,hs⟩,_⟩:=(show cy X.prog X.w H s.heap d (.ext (DO d cs as xs ep)) from I.cM d _ h)
 refine⟨es,⟨o,ho,hx,hd⟩,?_,?_,hn,?_,hs⟩
 ·rw[<- Array.length_toList,he,<- e2,List.length_map,List.length_map]
 ·rw[he,<- e2,List.map_map,List.map_map];rfl
 ·rw[<- e1,<- e2,List.length_map,List.length_map]
noncomputable def XH(d:Addr)(cs:ag)(as:aN)(xs:ae)(ep:Nat):It :=
 ⟨λi H=>H d=some (.ext (DO d cs as xs ep))/\i<as.length,λi H v H'=>H'=H/\∃a,as[i]?=some a/\v=.ref a,λi H=>H d=some (.ext (DO d cs as xs ep))/\as.length<=i⟩
theorem yk(d it:Addr)(cs:ag)(as:aN)(xs:ae)(ep:Nat):Turn P w K tg (XH d cs as xs ep) [it] it (λi h=>h.IsKeyIter it d i as.length ep) where
 mem:=by simp
 obj:=λi h st b hb=>by
  have e:b=it:=by simpa using hb
  subst e;obtain⟨o,e,c,d⟩:=st;exact⟨o,e,λv z=>by rw[d]at z;cases z⟩
 keep:=λi h h' st k=>st.at λo e=>k it (by simp) o e
 item:=by
  intro X hP hw hK hc i pins s σ H E I hf st hg;subst hP hw hK;obtain⟨hd,hi⟩:=hg;obtain⟨es,hr,hz,lH,_⟩:=qk I hd;obtain⟨f0,f1,f2,f3,f4,f5⟩:=hf it (by simp);have mv:i<es.size:=by rw[hz];exact hi
  have vq:es[i].key=.ref as[i]:=by
   have:=aaU (λl=>l[i]?) lH;simp only[List.getElem?_map,Array.getElem?_toList]at this;rw[Array.getElem?_eq_getElem mv,List.getElem?_eq_getElem hi]at this;exact aax this
  rw[<- hz]at st;refine xM st hr mv λh' lS sb=>?_;have I1:Inv X pins σ H { s with heap:=h' }:=I.turned (t':=s.toks) (λb o hb e=>(sb.2 b hb).trans e) f0 f1 f3 f4 f5;obtain⟨o,e,c,d'⟩:=id lS;refine⟨_,rfl,xw (s:={ s with heap:=h' }) e c d' (by decide) ⟨.ref as[i],H,I1,by rw[vq];rfl,⟨rfl,as[i],aao hi,rfl⟩,?_,λb hb=>(hf b hb).1⟩⟩;rw[hz]at lS;exact lS
 done:=by
  intro X hP hw hK hc i pins s σ H E I hf st hg;subst hP hw hK;obtain⟨hd,hi⟩:=hg;obtain⟨es,hr,hz,lH,_⟩:=qk I hd;obtain⟨f0,f1,f2,f3,f4,f5⟩:=hf it (by simp);rw[<- hz]at st;exact Cp (I.ok.hd hc) st hr (by rw[hz];exact hi) λh' eb=>⟨rfl,I.turned (t':=s.toks) (λb o hb e=>eb b o hb e) f0 f1 f3 f4 f5⟩
 self:=λ_ _ _ _ _ st h=>wpAny_pyIter_keyiter st h
end
def nV(xs:ab):O D:=match one xs with
 |some d=>match gp d with
  |some z=>ok (.lst .ow (z.1.map dQ))
  |none=>none
 |none=>none
theorem zc{r:D}(h:nV xs=ok r):∃f cs vs,xs=[.bU f cs vs]/\r=.lst .ow (cs.map dQ):=by
 unfold nV at h;cases h1:one xs with
 |none=>rw[h1]at h;exact nk h
 |some d =>
  rw[h1]at h;have h:(match gp d with|some z=>ok (D.lst .ow (z.1.map dQ))|none=>none)=ok r:=h;cases h2:gp d with
  |none=>rw[h2]at h;exact nk h
  |some z =>
   rw[h2]at h;cases h;obtain⟨f,e⟩:=kv h2;exact⟨f,z.1,z.2,by rw[bY h1,e],rfl⟩
theorem eE(g:Fl->Fl):∀cs:ag,aB g (cs.map dQ)=cs.map dQ
 |[]=>rfl
 |c::cs=>by
  show aT g (dQ c)::aB g (cs.map dQ)=_;rw[eE g cs];have:∀c:aa,aB g (c.map D.int)=c.map D.int:=λc=>by
   induction c with
   |nil=>rfl
   |cons i c ih=>show D.int i::aB g (c.map D.int)=_;rw[ih];rfl
  show D.tup (aB g (c.map D.int))::_=_;rw[this];rfl
theorem wB{k:bj}{a:Addr}{c:aa}(h:T a (c.map V.int)):Rep T N k (.ref a) (dQ c):=.tup h (aA.ints c)
def CB(_:Scope)(_:aq)(e:Expr):Option (av):=if isNm e=true then some [e]else none
theorem Cn{n:Nat}(hΦ:Φ n=nV){sc:Scope}{bl:aq}{k:Nat}(L:PX X sc bl k){e:Expr}(he:CB sc bl e=some args)(ht:(decide (1100<=n)||fQ tg)=true)(hs:l9 X F Φ cs args)
  {pins:aj} {s:Shared} {d:D} {items:ab} (I:Inv X pins σ H s) (Si:SI X F R τ ρ σ H) (cK:cu Φ cs ρ=ok xs) (ed:Φ n xs=ok d) (ei:i_ d=ok items) (Rr:It->Hp->Prop)
  (hR:∀J H2 vs,aJ H H2->cg X.K (gP X F) R τ (cW cs) H H2 vs xs->Hy X.K J H2 vs xs items->Rr J H2) :
  wpAny (model X.prog X.w) X.A (eval e X.env) (λv s1=>wpAny (model X.prog X.w) X.A (pyIter v) (zF X pins σ tg Rr) X.xe s1) X.xe s:=by
 unfold CB at he;by_cases hn:isNm e=true
 ·rw[if_pos hn]at he;cases he;cases cs with
  |nil=>exact hs.elim
  |cons c cs=>cases cs with
   |cons _ _=>exact hs.2.2.2.elim
   |nil =>
    rw[hΦ]at ed;obtain⟨f,ks,vs,rfl,rfl⟩:=zc ed;cases ei;obtain⟨x,ex,cK⟩:=aG cK;cases cK;refine cS (hs.1 pins s σ H _ I (tD.intro Si ex (Q:=λv H1=>aJ H H1/\bQ X.K (gP X F) R τ (g9 c) H H1 v (.bU f ks vs)) λv H1 e1 r1=>⟨e1,r1⟩)) λu s1 bL=>?_;obtain⟨v,H1,I1,rv,e1,r1⟩:=bL;obtain⟨τt,fr,q1⟩:=id r1;cases q1 with
    | @bU _ p _ as ys ep _ _ zB hk hr =>
     cases rv;have hd:=zB.dat;obtain⟨es,JY,hz,lH,OK,hlen,BH⟩:=qk I1 hd;refine xN BH JY ?_;have hb:s1.heap.objs.size<=s1.heap.objs.size:=aam _;refine⟨s1.heap.objs.size,[s1.heap.objs.size],_,XH p ks as ys ep,H1,rfl,I1.kept (t':=s1.toks) (λb o e=>aaj _ e),yk p s1.heap.objs.size ks as ys ep,⟨_,aat _ rfl,rfl,by rw[hz];rfl⟩,λb hb=>?_,hR _ H1 [.ref p] e1 (cg.cons e1 (aJ.refl _) (r1.mono λj hj=>aaI _ hj) ⟨λ_=>none,λ_ _ h=>by simp at h,.nil⟩) ?_⟩
     ·have:b=s1.heap.objs.size:=by simpa using hb
      subst this;exact I1.yZ (aam _) (I1.cM.fresh (aam _))
     ·rw[eE];have jZ:∀H',pY X.K H1 [.ref p] [.bU f ks vs] H'->H' p=some (.ext (DO p ks as ys ep)):=λH' st=>by
       obtain⟨R0,SF,hl⟩:=st.n0;cases SF with
       |cons h0 _=>cases h0 with
        |bU h1 _ _ =>
         cases f with
         |sc=>exact h1.elim
         |ow=>exact hl p _ h1.2 hd
         |fz=>exact hl p _ h1.2 hd
         |al=>exact hl p _ h1.2 hd
      refine⟨λi H' R' st rs hi=>⟨jZ H' st,by rw[List.length_map]at hi;left⟩,λi H' R' x lP st rs hi hy=>?_,λi H' R' st rs hi=>⟨jZ H' st,by rw[List.length_map]at hi;left⟩⟩;obtain⟨rfl,a,ha,rfl⟩:=hy;rw[List.length_map]at hi;refine⟨aJ.refl _,dQ ks[i],by rw[List.getElem?_map,List.getElem?_eq_getElem hi];rfl,wB (st.tp _ _ (hk.tup i a _ ha (aao hi)))⟩
 ·rw[if_neg hn]at he;cases he
theorem vP(hc:X.calm=true)(hu:X.A.units+2<cLine):fM X (.builtin "sorted") (λxs H Q=>∃(d:Addr) (cs:ag) (as:aN) (ys:ae) (ep:Nat),xs=[.ref d]/\H d=some (.ext (DO d cs as ys ep))/\eG (aU X.K H) as cs/\cs.length<64 /\
  ∀(l:Addr) (bs:aN),H l=none->eG (aU X.K H) bs (bc cs)->Q (.ref l) (upd H l (.lst (bs.map V.ref)))):=by
 intro pins s σ H xs us Q I r h;obtain⟨d,cs,as,ys,ep,rfl,hd,hk,rP,q⟩:=h;obtain⟨u,rfl,ru⟩:=r.one;cases ru;obtain⟨es,JY,hz,lH,OK,hlen,BH⟩:=qk I hd;have ht:oQ s.heap (es.toList.map (·.key)) cs:=by
  rw[lH];refine⟨by rw[List.length_map,hlen],λi ns e=>?_⟩;have hi:i<as.length:=by rw[hlen];exact(List.getElem?_eq_some_iff.mp e).1
  obtain⟨EV,rj,ij,_⟩:=I.tuple (hk.tup i as[i] ns (aao hi) e);exact⟨as[i],EV,by rw[List.getElem?_map,List.getElem?_eq_getElem hi];rfl,ij,dG rj⟩
 refine so (I.ok.hd hc) hu BH JY (by rw[hz,hlen];exact rP) OK ht λS h' tk e p hS L3 hp hs hl=>?_;rw[lH]at hl;have Uo:(p.toList.map λi=>(as.map Value.ref).getD i Value.none)=(p.toList.map λi=>as.getD i 0).map Value.ref:=by
  rw[List.map_map];refine aan λi hi=>?_;have mv:i<as.length:=by
   have:=List.mem_range.mp (hp.pm.mem_iff.mp hi);left
  simp[mv]
 rw[Uo]at hl;have UP:eG (aU X.K H) (p.toList.map λi=>as.getD i 0) (bc cs):=by
  rw[<- hs];refine⟨by simp,λj a c h1 h2=>?_⟩;rw[List.getElem?_map]at h1 h2;cases hj:p.toList[j]? with
  |none=>rw[hj]at h1;exact nk h1
  |some i =>
   rw[hj]at h1 h2;have mv:i<as.length:=by
    have:=List.mem_range.mp (hp.pm.mem_iff.mp (aaD hj));left
   cases h1;cases h2;exact hk.tup i _ _ (by simp[mv]) (by simp[show i<cs.length by left])
 have Ov:∀l:aN,Vals (l.map V.ref) (l.map Value.ref):=λl=>by
  induction l with
  |nil=>exact .nil
  |cons a l ih=>exact .cons rfl ih
 have hsz:sizeLine=16777216:=aa2;obtain⟨hn,I'⟩:=Inv.Oc (t':=tk) (o:=.lst ((p.toList.map λi=>as.getD i 0).map V.ref)) I L3 hS ⟨by rw[List.length_map,List.length_map,Array.length_toList,hp.sz];left,_,e,Ov _,hl⟩;exact⟨.ref S,_,I',rfl,q S _ hn UP⟩
def lg(xs:ab):O D:=match one xs with
 |some d=>match gp d with
  |some z=>if z.1.length<64 then ok (.lst .ow ((bc z.1).map dQ))else none
  |none=>none
 |none=>none
theorem y_{r:D}(h:lg xs=ok r):∃f cs vs,xs=[.bU f cs vs]/\cs.length<64/\r=.lst .ow ((bc cs).map dQ):=by
 unfold lg at h;cases h1:one xs with
 |none=>rw[h1]at h;exact nk h
 |some d =>
  rw[h1]at h;have h:(match gp d with|some z=>if z.1.length<64 then ok (D.lst .ow ((bc z.1).map dQ))else none|none=>none)=ok r:=h;cases h2:gp d with
  |none=>rw[h2]at h;exact nk h
  |some z =>
   rw[h2]at h;obtain⟨hl,rfl⟩:=oj (show(if z.1.length<64 then ok (D.lst .ow ((bc z.1).map dQ))else none)=ok r from h);obtain⟨f,e⟩:=kv h2;exact⟨f,z.1,z.2,by rw[bY h1,e],hl,rfl⟩
theorem o9{T:kG}{N:hU}:∀{bs:aN} {cs:ag} {k:bj} {n:Nat},eG T bs cs->aA T N k n (bs.map V.ref) (cs.map dQ)
 |[],[],_,_,_=>.nil
 |[],_::_,_,_,h=>by have:=h.len;simp at this
 |_::_,[],_,_,h=>by have:=h.len;simp at this
 |b::bs,c::cs,_,_,h=>.cons (wB (h.tup 0 b c rfl rfl)) (o9 ⟨by have:=h.len;simpa using this,λj a c' h1 h2=>h.tup (j+1) a c' h1 h2⟩)
theorem Cm{n:Nat}(hΦ:Φ n=lg){sc:Scope}{bl:aq}{k:Nat}(L:PX X sc bl k){e:Expr}(he:iC ("sorted" : Str) sc bl e=some args)(hs:l9 X F Φ cs args):PE X e (tD X F Φ (.b9 n cs))/\PT X e (gy X F Φ (.b9 n cs)):=by
 obtain⟨p,pos,a,rfl,rfl,h1,h2⟩:=pS he;cases cs with
 |nil=>exact hs.elim
 |cons c cs=>cases cs with
  |cons _ _=>exact hs.2.2.2.elim
  |nil =>
   have pa:PA X [a] (si X F Φ [c]):=PA.imp (cA hs.1 (PA.imp dR λ_ _ _ h=>jX h) (hs.2.1 _)) λ_ _ _ h=>gh h;have hu:X.A.units+2<cLine:=aaE (ab5 (by decide:2<=64) _) L.room.units;have this:PE X (.Call (.Name ("sorted" : Str) p) [a] [] pos) (tD X F Φ (.b9 n [c])):=by
    refine PE.imp (fe (vP L.calm hu) (L.gl h1) (L.bl _ h2) (by decide +kernel) pa (he:=hs.2.1 _)) λσ H Q hq=>?_;obtain⟨R,τ,ρ,d,Si,ev,hq⟩:=hq;obtain⟨xs,cK,ev⟩:=aG ev;rw[hΦ]at ev;obtain⟨f,ks,vs,rfl,hl,rfl⟩:=y_ ev;refine⟨R,τ,ρ,_,Si,cK,λus H1 e1 r1=>?_⟩;obtain⟨τt,fr,rs⟩:=r1;obtain⟨v,rfl,rv⟩:=rs.one;cases rv with
    |bU hn hk hr =>
     refine⟨_,ks,_,_,_,rfl,hn.dat,hk,hl,λl bs mr UP=>hq _ _ (e1.trans (aJ.upd mr)) (bQ.qt (e1.free mr) (e1.trans (aJ.upd mr)) aS ?_)⟩;exact o9 (UP.imp λ_ _ h=>aU.same (aJ.upd mr) h)
   exact⟨this,cE this λ_=>rfl⟩
section
variable {prog:aE}{w:World}{A:aD}{E:aw}{s:Shared}
end
end DI
end
section
namespace DI
open PySem (Str)
section
variable {α β:Type}
@[simp]theorem cx(a:α)(f:α->O β):bd (ok a) f=f a:=rfl
@[simp]theorem Rx(c:Nat)(f:α->O β):bd (some (.error c)) f=some (.error c):=rfl
noncomputable def Hx(f:α->O β)(x:O α):O β:=bd x f
@[simp]theorem VH(f:α->O β)(a:α):Hx f (ok a)=f a:=rfl
@[simp]theorem RC(f:α->O β)(c:Nat):Hx f (some (.error c))=some (.error c):=rfl
end
def Qc(op:Gr)(x y:O D):O D:=bd x λx=>bd y λy=>cX op x y
@[simp]theorem Rv(op:Gr)(x y:D):Qc op (ok x) (ok y)=cX op x y:=rfl
def PZ(op:zJ)(x y:O D):O D:=bd x λx=>bd y λy=>fA op x y
@[simp]theorem xS(op:zJ)(x y:D):PZ op (ok x) (ok y)=fA op x y:=rfl
def WC(x y:O D):O D:=bd x λx=>bd y λy=>uy x y
@[simp]theorem TM(x y:D):WC (ok x) (ok y)=uy x y:=rfl
def NQ(x:O D):O D:=bd (bd x gW) λb=>ok (.bl (!b))
@[simp]theorem QR(b:Bool):NQ (ok (.bl b))=ok (.bl (!b)):=rfl
@[simp]theorem MD(b:Bool):gW (.bl b)=ok b:=rfl
def uK(x:O D):O Bool:=bd x gW
@[simp]theorem Qq(b:Bool):uK (ok (.bl b))=ok b:=rfl
@[simp]theorem MC(c:Nat):uK (some (.error c))=some (.error c):=rfl
def WD(t:Ty)(x:O D):O D:=bd x λx=>ok (.bl (dF t x))
@[simp]theorem TY(t:Ty)(x:D):WD t (ok x)=ok (.bl (dF t x)):=rfl
def CF(m:az)(xs:O (ab)):O D:=bd xs λxs=>bd (m (aB aW xs)) λr=>ok (aT l5 r)
def Ve(x:O D):O D:=bd x λr=>ok (aT l5 r)
@[simp]theorem Vd(r:D):Ve (ok r)=ok (aT l5 r):=rfl
@[simp]theorem Rf(c:Nat):Ve (some (.error c))=some (.error c):=rfl
@[simp]theorem P7(m:az)(xs:ab):CF m (ok xs)=Ve (m (aB aW xs)):=rfl
@[simp]theorem Mg(m:az)(c:Nat):CF m (some (.error c))=some (.error c):=rfl
noncomputable def xR(x:O D)(xs:O (ab)):O (ab):=bd x λx=>bd xs λxs=>ok (x::xs)
@[simp]theorem PY(x:D)(xs:ab):xR (ok x) (ok xs)=ok (x::xs):=rfl
@[simp]theorem Md(c:Nat)(xs:O (ab)):xR (some (.error c)) xs=some (.error c):=rfl
@[simp]theorem Ll(x:D)(c:Nat):xR (ok x) (some (.error c))=some (.error c):=rfl
noncomputable def Oi(x:O Bool)(a b:O D):O D:=bd x λk=>if k then a else b
@[simp]theorem TV(a b:O D):Oi (ok true) a b=a:=rfl
@[simp]theorem TX(a b:O D):Oi (ok false) a b=b:=rfl
def Gd(x y:O D):O D:=bd (bd x gW) λc=>if c then y else ok (.bl false)
@[simp]theorem VI(y:O D):Gd (ok (.bl true)) y=y:=rfl
@[simp]theorem VJ(y:O D):Gd (ok (.bl false)) y=ok (.bl false):=rfl
@[simp]theorem VL(a b:Bool):Gd (ok (.bl a)) (ok (.bl b))=ok (.bl (a&&b)):=by cases a<;>rfl
def QN(x y:O D):O D:=bd (bd x gW) λc=>if c then ok (.bl true)else y
@[simp]theorem Wh(y:O D):QN (ok (.bl true)) y=ok (.bl true):=rfl
@[simp]theorem Wi(y:O D):QN (ok (.bl false)) y=y:=rfl
@[simp]theorem Wj(a b:Bool):QN (ok (.bl a)) (ok (.bl b))=ok (.bl (a||b)):=by cases a<;>rfl
def Bt(x:O D):O D:=bd (bd x gW) λc=>ok (.bl c)
@[simp]theorem Ob(c:Bool):Bt (ok (.bl c))=ok (.bl c):=rfl
@[simp]theorem MZ(d:D):wq (some (some d))=ok (aT bo d):=rfl
section
variable (Φ:aY)(ρ:a_)
@[simp]theorem Xr:bw Φ .cj ρ=ok .cj:=rfl
@[simp]theorem aae(b:Bool):bw Φ (.bl b) ρ=ok (.bl b):=rfl
@[simp]theorem Hk(i:Int):bw Φ (.int i) ρ=ok (.int i):=rfl
@[simp]theorem Xx(x:Str)(i:Int):bw Φ (.glo x i) ρ=ok (.int i):=rfl
@[simp]theorem Xw(x:Str)(zs:aa):bw Φ (.glt x zs) ρ=ok (.tup (zs.map D.int)):=rfl
@[simp]theorem e_v(i:Nat):bw Φ (.v i) ρ=wq ρ[i]?:=rfl
@[simp]theorem Xy(op:Gr)(a b:CE):bw Φ (.bin op a b) ρ=Qc op (bw Φ a ρ) (bw Φ b ρ):=rfl
@[simp]theorem Hl(op:zJ)(a b:CE):bw Φ (.cmp op a b) ρ=PZ op (bw Φ a ρ) (bw Φ b ρ):=rfl
@[simp]theorem Xt(a:CE):bw Φ (.neg a) ρ=Hx EI (bw Φ a ρ):=rfl
@[simp]theorem Xq(a:CE):bw Φ (.not a) ρ=NQ (bw Φ a ρ):=rfl
@[simp]theorem Xv(a:CE)(t:Ty):bw Φ (.rN a t) ρ=WD t (bw Φ a ρ):=rfl
@[simp]theorem Vu(f:Nat)(es:aF):bw Φ (.call f es) ρ=CF (Φ f) (cu Φ es ρ):=rfl
@[simp]theorem aaf(f:Bf)(es:aF):bw Φ (.bf f es) ρ=Hx (kM f) (cu Φ es ρ):=rfl
@[simp]theorem Xp(f:Nat)(es:aF):bw Φ (.b9 f es) ρ=Hx (Φ f) (cu Φ es ρ):=rfl
@[simp]theorem aad(a b:CE):bw Φ (.ix a b) ρ=WC (bw Φ a ρ) (bw Φ b ρ):=rfl
@[simp]theorem Vs(a:CE):bw Φ (.j9 a) ρ=Hx w9 (bw Φ a ρ):=rfl
@[simp]theorem Xo(es:aF):bw Φ (.tup es) ρ=Hx (λxs=>ok (.tup xs)) (cu Φ es ρ):=rfl
@[simp]theorem Xu(es:aF):bw Φ (.lst es) ρ=Hx (λxs=>ok (.lst .ow xs)) (cu Φ es ρ):=rfl
@[simp]theorem Cj(es:aF):bw Φ (.and es) ρ=pM Φ es ρ:=rfl
@[simp]theorem PL(es:aF):bw Φ (.or es) ρ=y7 Φ es ρ:=rfl
@[simp]theorem vH(e:CE):pM Φ [e] ρ=Bt (bw Φ e ρ):=rfl
@[simp]theorem vG(e e':CE)(es:aF):pM Φ (e::e'::es) ρ=Gd (bw Φ e ρ) (pM Φ (e'::es) ρ):=rfl
@[simp]theorem Hj(e:CE):y7 Φ [e] ρ=Bt (bw Φ e ρ):=rfl
@[simp]theorem Hi(e e':CE)(es:aF):y7 Φ (e::e'::es) ρ=QN (bw Φ e ρ) (y7 Φ (e'::es) ρ):=rfl
@[simp]theorem Xs:cu Φ [] ρ=ok []:=rfl
@[simp]theorem Vt(e:CE)(es:aF):cu Φ (e::es) ρ=xR (bw Φ e ρ) (cu Φ es ρ):=rfl
@[simp]theorem e_T(e:CE):y6 Φ e ρ=uK (bw Φ e ρ):=rfl
theorem Vx(e:CE):bd (bw Φ e ρ) gW=uK (bw Φ e ρ):=rfl
@[simp]theorem Vw:gT Φ [] ρ=ok true:=rfl
@[simp]theorem Vv(e:CE):gT Φ [e] ρ=uK (bw Φ e ρ):=by
 rw[gT,Vx];cases h:uK (bw Φ e ρ)with
 |none=>rfl
 |some r=>cases r with
  |error c=>rfl
  |ok b=>cases b<;>simp[gT,bd,ok]
end
def qK(is:aO):Nat->a_->a_
 |_,[]=>[]
 |n,d::ρ=>(if n∈is then d.map (aT aW)else d)::qK is (n+1) ρ
theorem Hf(is:aO):∀(ρ:a_) (n:Nat),ρ.mapIdx (λi d=>if i+n∈is then d.map (aT aW)else d)=qK is n ρ
 |[],_=>rfl
 |d::ρ,n=>by
  rw[List.mapIdx_cons,qK,<- Hf is ρ (n+1)];simp only[Nat.zero_add,Nat.add_assoc,Nat.add_comm 1 n]
theorem B7(is:aO)(ρ:a_):g_ is ρ=qK is 0 ρ:=by rw[<- Hf];rfl
@[simp]theorem Pp(is:aO)(n:Nat):qK is n []=[]:=rfl
@[simp]theorem L_(is:aO)(n:Nat)(d:aH)(ρ:a_):qK is n (d::ρ)=(if n∈is then d.map (aT aW)else d)::qK is (n+1) ρ:=rfl
def c_(e:CE)(ρ:a_)(x:O D):O (D×a_):=bd x λd=>ok (keep e d ρ)
variable {ρ ρ1:a_}
@[simp]theorem kh{e:CE}{d:D}(h:aR bJ d=false):c_ e ρ (ok d)=ok (d,ρ):=by
 show ok (keep e d ρ)=_;rw[keep,h];rfl
@[simp]theorem Oe{e:CE}{d:D}(h:aR bJ d=true):c_ e ρ (ok d)=ok (aT aW d,qK (g9 e) 0 ρ):=by
 show ok (keep e d ρ)=_;rw[keep,h,<- B7];rfl
@[simp]theorem LS(e:CE)(ρ:a_)(c:Nat):c_ e ρ (some (.error c))=some (.error c):=rfl
def Bi(i:Nat)(ρ:a_)(o:Option (aH)):O (D×a_):=match o with
 |some (some d)=>if aR cB d then ok (d,ρ.set i none)else ok (d,ρ)
 |_=>none
@[simp]theorem NX{i:Nat}{d:D}(h:aR cB d=true):Bi i ρ (some (some d))=ok (d,ρ.set i none):=aaZ h
@[simp]theorem NY{i:Nat}{d:D}(h:aR cB d=false):Bi i ρ (some (some d))=ok (d,ρ):=acb (by rw[h];exact aah)
@[simp]theorem k_v(Φ:aY)(i:Nat)(ρ:a_):jx Φ (.v i) ρ=Bi i ρ ρ[i]?:=rfl
noncomputable def YN:CE->Bool
 |.v _=>true
 |_=>false
@[simp]theorem Wx(Φ:aY)(ρ:a_)(op:Gr)(a b:CE):jx Φ (.bin op a b) ρ=c_ (.bin op a b) ρ (bw Φ (.bin op a b) ρ):=rfl
@[simp]theorem Ww(Φ:aY)(ρ:a_)(op:zJ)(a b:CE):jx Φ (.cmp op a b) ρ=c_ (.cmp op a b) ρ (bw Φ (.cmp op a b) ρ):=rfl
@[simp]theorem TH(Φ:aY)(ρ:a_)(f:Nat)(es:aF):jx Φ (.call f es) ρ=c_ (.call f es) ρ (bw Φ (.call f es) ρ):=rfl
@[simp]theorem YL(Φ:aY)(ρ:a_)(f:Bf)(es:aF):jx Φ (.bf f es) ρ=c_ (.bf f es) ρ (bw Φ (.bf f es) ρ):=rfl
@[simp]theorem Wq(Φ:aY)(ρ:a_)(f:Nat)(es:aF):jx Φ (.b9 f es) ρ=c_ (.b9 f es) ρ (bw Φ (.b9 f es) ρ):=rfl
@[simp]theorem YJ(Φ:aY)(ρ:a_)(a b:CE):jx Φ (.ix a b) ρ=c_ (.ix a b) ρ (bw Φ (.ix a b) ρ):=rfl
@[simp]theorem Wo(Φ:aY)(ρ:a_)(es:aF):jx Φ (.tup es) ρ=c_ (.tup es) ρ (bw Φ (.tup es) ρ):=rfl
@[simp]theorem Wu(Φ:aY)(ρ:a_)(es:aF):jx Φ (.lst es) ρ=c_ (.lst es) ρ (bw Φ (.lst es) ρ):=rfl
@[simp]theorem G6(Φ:aY)(ρ:a_)(i:Int):jx Φ (.int i) ρ=c_ (.int i) ρ (bw Φ (.int i) ρ):=rfl
@[simp]theorem YK(Φ:aY)(ρ:a_)(i:Bool):jx Φ (.bl i) ρ=c_ (.bl i) ρ (bw Φ (.bl i) ρ):=rfl
@[simp]theorem Ws(Φ:aY)(ρ:a_): jx Φ (.cj) ρ=c_ (.cj) ρ (bw Φ (.cj) ρ):=rfl
@[simp]theorem Wt(Φ:aY)(ρ:a_)(a:CE):jx Φ (.neg a) ρ=c_ (.neg a) ρ (bw Φ (.neg a) ρ):=rfl
@[simp]theorem Wr(Φ:aY)(ρ:a_)(a:CE):jx Φ (.not a) ρ=c_ (.not a) ρ (bw Φ (.not a) ρ):=rfl
@[simp]theorem Og(Φ:aY)(ρ:a_)(es:aF):jx Φ (.and es) ρ=c_ (.and es) ρ (bw Φ (.and es) ρ):=rfl
@[simp]theorem YI(Φ:aY)(ρ:a_)(es:aF):jx Φ (.or es) ρ=c_ (.or es) ρ (bw Φ (.or es) ρ):=rfl
@[simp]theorem TF(Φ:aY)(ρ:a_)(n:Nat)(t:Tg)(caps:aO)(ik:IK)(es bK:aF)(elt:CE):jx Φ (.comp n t caps ik es bK elt) ρ=c_ (.comp n t caps ik es bK elt) ρ (bw Φ (.comp n t caps ik es bK elt) ρ):=rfl
@[simp]theorem Wv(Φ:aY)(ρ:a_)(a:CE)(t:Ty):jx Φ (.rN a t) ρ=c_ (.rN a t) ρ (bw Φ (.rN a t) ρ):=rfl
@[simp]theorem TC(Φ:aY)(ρ:a_)(a:CE):jx Φ (.j9 a) ρ=c_ (.j9 a) ρ (bw Φ (.j9 a) ρ):=rfl
theorem Of(Φ:aY)(e:CE)(ρ:a_)(h:YN e=false):jx Φ e ρ=c_ e ρ (bw Φ e ρ):=by cases e<;>first|rfl|cases h
@[simp]theorem LI(ρ:a_):gR [] [] ρ=ok ρ:=rfl
variable {ds xs:ab}{is:aO}
@[simp]theorem Ik{i:Nat}{d:D}(h:i<ρ.length):gR (i::is) (d::ds) ρ=gR is ds (ρ.set i (some d)):=aaZ h
@[simp]theorem QB{i:Nat}{d:D}(h:i<ρ.length):cv (.nm i) d ρ=ok (ρ.set i (some d)):=aaZ h
@[simp]theorem QA(h:aP cB ds=false):cv (.tp is) (.tup ds) ρ=gR is ds ρ:=acb (by rw[h];exact aah)
def Lu(i:Nat)(r:O (D×a_)):O (Fo×a_):=bd r λr=>bd (cv (.nm i) r.1 r.2) λρ'=>ok (.nx,ρ')
@[simp]theorem x9{i:Nat}{d:D}(h:i<ρ.length):Lu i (ok (d,ρ))=ok (.nx,ρ.set i (some d)):=by
 show bd (cv (.nm i) d ρ) _=_;rw[cv,if_pos h];rfl
@[simp]theorem Qg(i:Nat)(c:Nat):Lu i (some (.error c))=some (.error c):=rfl
def Qf(is:aO)(r:O (D×a_)):O (Fo×a_):=bd r λr=>bd (cv (.tp is) r.1 r.2) λρ'=>ok (.nx,ρ')
@[simp]theorem Rz(h:aP cB ds=false):Qf is (ok (.tup ds,ρ))=bd (gR is ds ρ) λρ'=>ok (.nx,ρ'):=by
 show bd (cv (.tp is) (.tup ds) ρ) _=_;rw[cv,h];rfl
noncomputable def retS(r:O (D×a_)):O (Fo×a_):=bd r λr=>ok (.rt r.1,r.2)
@[simp]theorem QD(d:D)(ρ:a_):retS (ok (d,ρ))=ok (.rt d,ρ):=rfl
@[simp]theorem M_(c:Nat):retS (some (.error c))=some (.error c):=rfl
noncomputable def Vk(ρ:a_)(x:O D):O (Fo×a_):=bd x λ_=>ok (.nx,ρ)
@[simp]theorem Vj(ρ:a_)(d:D):Vk ρ (ok d)=ok (.nx,ρ):=rfl
@[simp]theorem Rm(ρ:a_)(c:Nat):Vk ρ (some (.error c))=some (.error c):=rfl
noncomputable def mT(Φ:aY)(ss:ah)(r:O (Fo×a_)):O (Fo×a_):=bd r λr=>match r with
 | (.nx,ρ')=>bI Φ ss ρ'
 |r=>ok r
@[simp]theorem sg(Φ:aY)(ss:ah)(ρ:a_):mT Φ ss (ok (.nx,ρ))=bI Φ ss ρ:=rfl
@[simp]theorem ME(Φ:aY)(ss:ah)(d:D)(ρ:a_):mT Φ ss (ok (.rt d,ρ))=ok (.rt d,ρ):=rfl
@[simp]theorem MG(Φ:aY)(ss:ah)(ρ:a_):mT Φ ss (ok (.bk,ρ))=ok (.bk,ρ):=rfl
@[simp]theorem MF(Φ:aY)(ss:ah)(ρ:a_):mT Φ ss (ok (.ct,ρ))=ok (.ct,ρ):=rfl
@[simp]theorem LH(Φ:aY)(ss:ah)(c:Nat):mT Φ ss (some (.error c))=some (.error c):=rfl
noncomputable def EY(Φ:aY)(a b:ah)(ρ:a_)(x:O Bool):O (Fo×a_):=bd x λk=>if k then bI Φ a ρ else bI Φ b ρ
@[simp]theorem TR(Φ:aY)(a b:ah)(ρ:a_):EY Φ a b ρ (ok true)=bI Φ a ρ:=rfl
@[simp]theorem TU(Φ:aY)(a b:ah)(ρ:a_):EY Φ a b ρ (ok false)=bI Φ b ρ:=rfl
@[simp]theorem Oh(Φ:aY)(a b:ah)(ρ:a_)(c:Nat):EY Φ a b ρ (some (.error c))=some (.error c):=rfl
def Qh(i:Nat)(r:O (D×a_)):O (Fo×a_):=bd r λr=>match u_ r.2[i]? with
  |some ds=>if ds.length<cL then ok (.nx,r.2.set i (some (.lst .ow (ds++[r.1]))))else none
  |none=>none
@[simp]theorem RB{i:Nat}{d:D}(h:ρ[i]?=some (some (.lst .ow ds)))(hl:ds.length<cL):Qh i (ok (d,ρ))=ok (.nx,ρ.set i (some (.lst .ow (ds++[d])))):=by
 show(match u_ ρ[i]? with|some ds=>_|none=>_)=_;rw[h];exact aaZ hl
section
variable (Φ:aY)(ρ:a_)
@[simp]theorem VZ:bI Φ [] ρ=ok (.nx,ρ):=rfl
@[simp]theorem bW(s:CS)(ss:ah):bI Φ (s::ss) ρ=mT Φ ss (k_ Φ s ρ):=rfl
@[simp]theorem Gv(i:Nat)(e:CE):k_ Φ (.asg (.nm i) e) ρ=Lu i (jx Φ e ρ):=rfl
@[simp]theorem RI(is:aO)(e:CE):k_ Φ (.asg (.tp is) e) ρ=Qf is (jx Φ e ρ):=rfl
@[simp]theorem Mq(e:CE):k_ Φ (.ret e) ρ=retS (jx Φ e ρ):=rfl
theorem oS(c:CE)(b:ah):k_ Φ (.HK c b) ρ=e_ (λρ=>bd (y6 Φ c ρ) λk=>if k then bd (bI Φ b ρ) λr=>match r with
   | (.nx,ρ')=>ok (.inl ρ')
   | (.ct,ρ')=>ok (.inl ρ')
   | (.bk,ρ')=>ok (.inr (.nx,ρ'))
   | (.rt d,ρ')=>ok (.inr (.rt d,ρ'))
  else ok (.inr (.nx,ρ))) ρ:=rfl
theorem Mr(i j:Nat)(a b:CE):k_ Φ (.par i j a b) ρ=bd (bw Φ a ρ) λx=>bd (bw Φ b ρ) λy=>if aR anyF x=false/\aR anyF y=false/\i<ρ.length/\j<ρ.length then ok (.nx,(ρ.set i (some x)).set j (some y))else none:=rfl
@[simp]theorem X1(c:Nat):k_ Φ (.rs c) ρ=some (.error c):=rfl
@[simp]theorem X2(e:CE):k_ Φ (.ex e) ρ=Vk ρ (bw Φ e ρ):=rfl
@[simp]theorem Dt(c:CE)(a b:ah):k_ Φ (.ifs c a b) ρ=EY Φ a b ρ (uK (bw Φ c ρ)):=rfl
@[simp]theorem Gw(i:Nat)(e:CE):k_ Φ (.app i e) ρ=Qh i (jx Φ e ρ):=rfl
end
noncomputable def mk(Φ:aY)(ar n:Nat)(b:ah):az:=λds=>if ds.length=ar then qi Φ n b ds else none
noncomputable def l7(r:O (Fo×a_)):O D:=bd r λr=>match r.1 with
 |.nx=>ok .cj
 |.rt d=>ok d
 |_=>none
@[simp]theorem Ro(ρ:a_):l7 (ok (.nx,ρ))=ok .cj:=rfl
@[simp]theorem Rn(d:D)(ρ:a_):l7 (ok (.rt d,ρ))=ok d:=rfl
@[simp]theorem PK(c:Nat):l7 (some (.error c))=some (.error c):=rfl
variable {ar:Nat}{Φ:aY}
theorem mk_eq{n:Nat}{b:ah}(h:ds.length=ar):mk Φ ar n b ds=l7 (bI Φ b (ds.map some++List.replicate (n - ds.length) none)):=aaZ h
theorem vc{n:Nat}{b:ah}(ds:ab)(r:D)(h:mk Φ ar n b ds=ok r):ds.length=ar/\qi Φ n b ds=ok r:=by
 unfold mk at h;split at h
 ·rename_i hl;exact⟨hl,h⟩
 ·cases h
theorem Int.beq_eq_decide_eq(i j:Int):(i==j)=decide (i=j):=rfl
section
variable (g:Fl->Fl)(p:Fl->Bool)
@[simp]theorem EO(b:Bool):aT g (.bl b)=.bl b:=rfl
@[simp]theorem tf(b:Int):aT g (.int b)=.int b:=rfl
@[simp]theorem N1:aT g .cj=.cj:=rfl
@[simp]theorem Bk(ds:ab):aT g (.tup ds)=.tup (aB g ds):=rfl
@[simp]theorem N2(f:Fl)(ds:ab):aT g (.lst f ds)=.lst (g f) (aB g ds):=rfl
@[simp]theorem N0(f:Fl)(ks:ag)(vs:ab):aT g (.dC f ks vs)=.dC (g f) ks (aB g vs):=rfl
@[simp]theorem N3(f:Fl)(ks:ag)(vs:ab):aT g (.bU f ks vs)=.bU (g f) ks (aB g vs):=rfl
@[simp]theorem LO:aB g []=[]:=rfl
@[simp]theorem Jt(d:D)(ds:ab):aB g (d::ds)=aT g d::aB g ds:=rfl
@[simp]theorem LQ(a b:ab):aB g (a++b)=aB g a++aB g b:=by simp only[aQ,List.map_append]
@[simp]theorem LP(ds:ab):(aB g ds).length=ds.length:=by rw[aQ,List.length_map]
theorem cw{α:Type}{e:α->D}(h:∀x,aT g (e x)=e x)(xs:List α):aB g (xs.map e)=xs.map e:=by
 rw[aQ,List.map_map];exact aan λx _=>h x
theorem b7{α:Type}{e:α->D}(h:∀x,aR p (e x)=false):∀xs:List α,aP p (xs.map e)=false
 |[]=>by rw[List.map_nil,aP]
 |x::xs=>by rw[List.map_cons,aP,h x,b7 h xs];rfl
@[simp]theorem FA(b:Bool):aR p (.bl b)=false:=abQ rfl
@[simp]theorem kl(b:Int):aR p (.int b)=false:=abQ rfl
@[simp]theorem O6:aR p .cj=false:=abQ rfl
@[simp]theorem O4(ds:ab):aR p (.tup ds)=aP p ds:=abQ rfl
@[simp]theorem BV(f:Fl)(ds:ab):aR p (.lst f ds)=(p f||aP p ds):=abQ rfl
@[simp]theorem O5(f:Fl)(ks:ag)(vs:ab):aR p (.dC f ks vs)=(p f||aP p vs):=abQ rfl
@[simp]theorem O7(f:Fl)(ks:ag)(vs:ab):aR p (.bU f ks vs)=(p f||aP p vs):=abQ rfl
@[simp]theorem L8:aP p []=false:=abQ rfl
@[simp]theorem Ke(d:D)(ds:ab):aP p (d::ds)=(aR p d||aP p ds):=abQ rfl
@[simp]theorem yU:∀a b:ab,aP p (a++b)=(aP p a||aP p b)
 |[],b=>by simp
 |d::a,b=>by simp[yU a b,Bool.or_assoc]
@[simp]theorem m_(ns:aa):aB g (ns.map D.int)=ns.map D.int:=cw g (tf g) ns
@[simp]theorem vw(ns:aa):aP p (ns.map D.int)=false:=b7 p (kl p) ns
@[simp]theorem yD(ns:List Bool):aB g (ns.map D.bl)=ns.map D.bl:=cw g (EO g) ns
@[simp]theorem yT(ns:List Bool):aP p (ns.map D.bl)=false:=b7 p (FA p) ns
@[simp]theorem LU(t:Ty)(d:D):dF t (aT g d)=dF t d:=by cases d<;>cases t<;>rfl
end
@[simp]theorem KG:bo .ow=.al:=rfl
@[simp]theorem KH:bo .fz=.fz:=rfl
@[simp]theorem KI:bo .al=.al:=rfl
@[simp]theorem KD:bo .sc=.sc:=rfl
@[simp]theorem Kz:aW .ow=.fz:=rfl
@[simp]theorem KA:aW .fz=.fz:=rfl
@[simp]theorem KC:aW .al=.fz:=rfl
@[simp]theorem Ky:aW .sc=.sc:=rfl
@[simp]theorem K1:l5 .ow=.ow:=rfl
@[simp]theorem K3:l5 .fz=.al:=rfl
@[simp]theorem K4:l5 .al=.al:=rfl
@[simp]theorem K0:l5 .sc=.sc:=rfl
@[simp]theorem KW:bJ .ow=false:=rfl
@[simp]theorem KY:bJ .fz=false:=rfl
@[simp]theorem KZ:bJ .al=true:=rfl
@[simp]theorem KU:bJ .sc=false:=rfl
@[simp]theorem KQ:cB .ow=true:=rfl
@[simp]theorem KR:cB .fz=false:=rfl
@[simp]theorem KS:cB .al=false:=rfl
@[simp]theorem KP:cB .sc=false:=rfl
@[simp]theorem KJ:vn .ow=false:=rfl
@[simp]theorem KN:vn .fz=false:=rfl
@[simp]theorem KO:vn .al=false:=rfl
noncomputable def af(ns:aa):ab:=ns.map D.int
noncomputable def kA(ns:List Bool):ab:=ns.map D.bl
@[simp]theorem LY(ns:aa):(af ns).length=ns.length:=aa_ ..
@[simp]theorem Qb(ns:List Bool):(kA ns).length=ns.length:=aa_ ..
@[simp]theorem LX:af []=[]:=rfl
@[simp]theorem JU(n:Int)(ns:aa):af (n::ns)=.int n::af ns:=rfl
@[simp]theorem JT(ns:aa)(n:Int):af ns++[.int n]=af (ns++[n]):=by simp[af]
@[simp]theorem pE(ns:aa)(i:Nat):(af ns)[i]?=ns[i]?.map D.int:=List.getElem?_map ..
@[simp]theorem b_(g:Fl->Fl)(ns:aa):aB g (af ns)=af ns:=m_ g ns
@[simp]theorem tQ(p:Fl->Bool)(ns:aa):aP p (af ns)=false:=vw p ns
@[simp]theorem Ju(g:Fl->Fl)(ns:List Bool):aB g (kA ns)=kA ns:=yD g ns
@[simp]theorem Kf(p:Fl->Bool)(ns:List Bool):aP p (kA ns)=false:=yT p ns
@[simp]theorem XD(i j:Int):cX .add (.int i) (.int j)=ok (.int (i+j)):=rfl
@[simp]theorem XB(i j:Int):cX .sub (.int i) (.int j)=ok (.int (i - j)):=rfl
theorem gq{i j:Int}(h:gj i j=true):cX .mul (.int i) (.int j)=ok (.int (i*j)):=aaZ h
theorem rl{i j:Int}(h:pO j=true):cX .fdiv (.int i) (.int j)=ok (.int (i.fdiv j)):=aaZ h
@[simp]theorem Hw{i j:Int}(h:j≠0):cX .mod (.int i) (.int j)=ok (.int (i.fmod j)):=aaZ h
@[simp]theorem XC{i j:Int}(h:0<=j):cX .shr (.int i) (.int j)=ok (.int (i / 2 ^ j.toNat)):=aaZ h
theorem Hv{i j:Int}(h:wF i j=true):cX .pow (.int i) (.int j)=ok (.int (i ^ j.toNat)):=aaZ h
@[simp]theorem Wn(i:Int):EI (.int i)=ok (.int (-i)):=rfl
theorem mulOk_of{i j:Int}(h:i.natAbs<2 ^ 9000)(h':j.natAbs<2 ^ 9000):gj i j=true:=by
 simp only[gj,big,h,h',decide_true,Bool.and_self,Bool.or_true]
theorem vg{n:Nat}(h:n<2 ^ 64):n<2 ^ 9000:=aal h (aaw (by decide) (by decide))
theorem qu{i:Int}(j:Int)(h:i.natAbs<2 ^ 64):gj i j=true:=by simp only[gj,h,decide_true,Bool.true_or]
theorem EK{j:Int}(i:Int)(h:j.natAbs<2 ^ 64):gj i j=true:=by simp only[gj,h,decide_true,Bool.true_or,Bool.or_true]
theorem ku{j:Int}(h0:j≠0)(h:j.natAbs<2 ^ 9000):pO j=true:=by
 simp only[pO,big,h,decide_true,Bool.and_true,decide_eq_true_eq];exact h0
@[simp]theorem Ry{i j:Int}(h:j.natAbs<2 ^ 64):cX .mul (.int i) (.int j)=ok (.int (i*j)):=gq (EK i h)
@[simp]theorem i5{i j:Int}(h:i.natAbs<2 ^ 64):cX .mul (.int i) (.int j)=ok (.int (i*j)):=gq (qu j h)
@[simp]theorem Qd{i j:Int}(h0:j≠0)(h:j.natAbs<2 ^ 64):cX .fdiv (.int i) (.int j)=ok (.int (i.fdiv j)):=rl (ku h0 (vg h))
theorem zp{a b:D}(ha:cI 40 a=true)(hb:cI 40 b=true):fA .eq a b=ok (.bl (lJ a b)):=by
 show(if cI 40 a&&cI 40 b then _ else _)=_;rw[ha,hb];rfl
theorem P_{a b:D}(ha:cI 40 a=true)(hb:cI 40 b=true):fA .ne a b=ok (.bl (!lJ a b)):=by
 show(if cI 40 a&&cI 40 b then _ else _)=_;rw[ha,hb];rfl
@[simp]theorem fD(n:Nat)(i:Int):cI n (.int i)=true:=by cases n<;>rfl
@[simp]theorem Tn(n:Nat)(i:Bool):cI n (.bl i)=true:=by cases n<;>rfl
@[simp]theorem QP(n:Nat):cI n .cj=true:=by cases n<;>rfl
@[simp]theorem mj(n:Nat)(ds:ab):cI (n+1) (.tup ds)=ds.all (cI n):=rfl
@[simp]theorem wX(n:Nat)(f:Fl)(ds:ab):cI (n+1) (.lst f ds)=ds.all (cI n):=rfl
@[simp]theorem SW(i j:Int):fA .eq (.int i) (.int j)=ok (.bl (decide (i=j))):=by rw[zp (fD _ _) (fD _ _)];show ok (D.bl (i==j))=_;rw[Int.beq_eq_decide_eq]
@[simp]theorem SV(i j:Int):fA .ne (.int i) (.int j)=ok (.bl (!decide (i=j))):=by rw[P_ (fD _ _) (fD _ _)];show ok (D.bl (!(i==j)))=_;rw[Int.beq_eq_decide_eq]
@[simp]theorem Yx(i j:Int):fA .lt (.int i) (.int j)=ok (.bl (decide (i<j))):=rfl
@[simp]theorem Yy(i j:Int):fA .le (.int i) (.int j)=ok (.bl (decide (i<=j))):=rfl
@[simp]theorem Yz(i j:Int):fA .gt (.int i) (.int j)=ok (.bl (decide (j<i))):=rfl
@[simp]theorem YA(i j:Int):fA .ge (.int i) (.int j)=ok (.bl (decide (j<=i))):=rfl
@[simp]theorem WG(ds:ab)(i:Int):uy (.tup ds) (.int i)=rn ds i:=rfl
@[simp]theorem WH(f:Fl)(ds:ab)(i:Int):uy (.lst f ds) (.int i)=rn ds i:=rfl
theorem n4{n:Nat}{d:D}(h:ds[n]?=some d):rn ds (n:Int)=ok (aT bo d):=by
 have hn:n<ds.length:=(List.getElem?_eq_some_iff.mp h).1;have e:tF ds.length (n:Int)=some n:=by unfold tF;rw[if_pos (by left),if_pos (by left)];rfl
 unfold rn;rw[e,Option.bind_some,h]
theorem at_of{i:Int}{d:D}(h0:0<=i)(h:ds[i.toNat]?=some d):rn ds i=ok (aT bo d):=by
 have:=n4 h
 rwa [show((i.toNat:Nat):Int)=i by left]at this
@[simp]theorem aar(d:D)(ds:ab):rn (d::ds) 0=ok (aT bo d):=n4 (n:=0) rfl
@[simp]theorem aaq(a d:D)(ds:ab):rn (a::d::ds) 1=ok (aT bo d):=n4 (n:=1) rfl
@[simp]theorem aap(a b d:D)(ds:ab):rn (a::b::d::ds) 2=ok (aT bo d):=n4 (n:=2) rfl
@[simp]theorem Rj(ds:ab):kM .len [.tup ds]=ok (.int ds.length):=rfl
@[simp]theorem Rl(f:Fl)(ds:ab):kM .len [.lst f ds]=ok (.int ds.length):=rfl
@[simp]theorem Xj(i:Int):kM .abs [.int i]=ok (.int i.natAbs):=by
 show ok (D.int (if i<0 then -i else i))=_;congr 2;split<;>left
@[simp]theorem Pz(f:Fl)(ds:ab):kM .list1 [.lst f ds]=ok (.lst .ow (aB bo ds)):=rfl
@[simp]theorem Py(ds:ab):kM .list1 [.tup ds]=ok (.lst .ow (aB bo ds)):=rfl
@[simp]theorem Ri(f:Fl)(ds:ab):kM .tuple1 [.lst f ds]=ok (.tup (aB bo ds)):=rfl
@[simp]theorem Rh(ds:ab):kM .tuple1 [.tup ds]=ok (.tup (aB bo ds)):=rfl
@[simp]theorem Xh(f:Fl)(ns:aa):kM .gY [.lst f (af ns)]=ok (.int ns.sum):=by
 show(match intsOf (ns.map D.int)with|some ns=>_|none=>_)=_;rw[bh]
@[simp]theorem Xi(f:Fl)(bs:List Bool):kM .all1 [.lst f (kA bs)]=ok (.bl (bs.all id)):=by
 show(match iF (bs.map D.bl)with|some ns=>_|none=>_)=_;rw[ll]
variable {ns ws:aa}
@[simp]theorem qO(h:ns.length<64):kM .cT [.tup (af ns)]=ok (.lst .ow (af (sortI ns))):=by
 show o5 _=_;unfold o5 af;rw[bh];exact aaZ h
@[simp]theorem K5(h:ns.length<4000):w9 (.tup (af ns))=ok (.int (qR ns).length):=by
 show(match intsOf (ns.map D.int)with|some ns=>_|none=>_)=_;rw[bh];exact aaZ h
@[simp]theorem ko(i j:Int):lJ (.int i) (.int j)=decide (i=j):=by show(i==j)=_;rw[Int.beq_eq_decide_eq]
@[simp]theorem Vo(i j:Bool):lJ (.bl i) (.bl j)=(i==j):=rfl
@[simp]theorem FN(a b:ab):lJ (.tup a) (.tup b)=dt a b:=rfl
@[simp]theorem FO(f g:Fl)(a b:ab):lJ (.lst f a) (.lst g b)=dt a b:=rfl
@[simp]theorem Ce:dt [] []=true:=rfl
@[simp]theorem lb(a b:D)(as bs:ab):dt (a::as) (b::bs)=(lJ a b&&dt as bs):=rfl
theorem nP:∀{as bs:ab},dt as bs=true->as.length=bs.length
 |[],[],_=>rfl
 |[],_::_,h=>(aah h).elim
 |_::_,[],h=>(aah h).elim
 |a::as,b::bs,h=>by
  replace h:(_&&_)=true:=h;rw[Bool.and_eq_true]at h;rw[List.length_cons,List.length_cons,nP h.2]
theorem iB{α:Type}{e:α->D}[DecidableEq α](h:∀x y,lJ (e x) (e y)=decide (x=y)):∀xs ys:List α,dt (xs.map e) (ys.map e)=decide (xs=ys)
 |[],[]=>by simp
 |[],y::ys=>by
  cases z:dt ([].map e) ((y::ys).map e)with
  |true=>have:=nP z;simp at this
  |false=>simp
 |x::xs,[]=>by
  cases z:dt ((x::xs).map e) ([].map e)with
  |true=>have:=nP z;simp at this
  |false=>simp
 |x::xs,y::ys=>by
  rw[List.map_cons,List.map_cons,lb,h,iB h xs ys];by_cases e1:x=y<;>by_cases e2:xs=ys<;>simp[e1,e2]
theorem j7{α:Type}{e:α->D}{n:Nat}(h:∀x,cI n (e x)=true)(xs:List α):(xs.map e).all (cI n)=true:=by
 rw[List.all_map];exact List.all_eq_true.mpr λx _=>h x
theorem bO{bind:D->O a_}{test:a_->O Bool}{el:a_->O D}{α:Type}{e:α->D}{g:α->D}:∀{xs:List α},(∀x∈xs,∃ρ,bind (e x)=ok ρ/\test ρ=ok true/\el ρ=ok (g x))->gU bind test el (xs.map e)=ok (xs.map g)
 |[],_=>rfl
 |x::xs,h=>by
  obtain⟨ρ,h1,h2,h3⟩:=h x (aai ..);have ih:=bO (xs:=xs) λy hy=>h y (aag _ hy);rw[List.map_cons,gU,h1,cx,h2,cx,if_pos rfl,h3,cx,ih];rfl
theorem lL{bind:D->O a_}{test:a_->O Bool}{el:a_->O D}{α:Type}{e:α->D}{g:α->D}{t:α->Bool}:∀{xs:List α},(∀x∈xs,∃ρ,bind (e x)=ok ρ/\test ρ=ok (t x)/\(t x=true->el ρ=ok (g x)))->gU bind test el (xs.map e)=ok ((xs.filter t).map g)
 |[],_=>rfl
 |x::xs,h=>by
  obtain⟨ρ,h1,h2,h3⟩:=h x (aai ..);have ih:=lL (xs:=xs) λy hy=>h y (aag _ hy);rw[List.map_cons,gU,h1,cx,h2,cx,List.filter_cons];cases ht:t x with
  |true=>rw[if_pos rfl,h3 ht,cx,ih,if_pos rfl];rfl
  |false=>rw[if_neg Bool.false_ne_true,ih,if_neg Bool.false_ne_true]
section
variable {Φ:aY}{n:Nat}{t:Tg}{caps:aO}{ik:IK}{es bK:aF}{elt:CE}{ρ:a_}{xs items ds:ab}
theorem cR(h1:cu Φ es ρ=ok xs)(h2:df Φ ik xs=ok items)
  (h3:gU (λd=>cv t d (bF n caps ρ)) (λρ'=>gT Φ bK ρ') (λρ'=>bw Φ elt ρ') items=ok ds) (hl:ds.length<=cL):bw Φ (.comp n t caps ik es bK elt) ρ=ok (.lst .ow (aB l5 ds)):=by
 show bd (cu Φ es ρ) _=_;rw[h1,cx,h2,cx,h3,cx,if_pos hl]
end
theorem xi(Φ:aY)(ds:ab):df Φ .seq [.tup ds]=ok (aB aW ds):=rfl
theorem fF(Φ:aY)(f:Fl)(ds:ab):df Φ .seq [.lst f ds]=ok (aB aW ds):=rfl
theorem xj(Φ:aY){n:Int}(h0:0<=n)(h:n<=1000000):df Φ .kZ [.int n]=ok ((List.range n.toNat).map λ(k:Nat)=>D.int (k:Int)):=by
 show(if n<=(cL:Int) /\ -(cL:Int)<=n then _ else _)=_;have:(cL:Int)=1000000:=rfl;rw[if_pos (by left)]
theorem cc{n:Nat}(h:n<=1000000):n<=cL:=h
theorem e9{t:Tg}{it:CI}{b:ah}{items:ab}{r:O (Fo×a_)}(h:cJ Φ it ρ=ok (items,ρ1))(h':dN (λd ρ=>cv t d ρ) (λρ=>bI Φ b ρ) items ρ1=r):k_ Φ (.fr t it b) ρ=r:=by
 show bd (cJ Φ it ρ) _=_;rw[h];exact h'
theorem qN(bind:D->a_->O a_)(body:a_->O (Fo×a_))(ρ:a_):dN bind body [] ρ=ok (.nx,ρ):=rfl
theorem dH{bind:D->a_->O a_}{body:a_->O (Fo×a_)}{x:D}{ρ2:a_}{r:O (Fo×a_)}(h1:bind x ρ=ok ρ1)(h2:body ρ1=ok (.nx,ρ2))(h3:dN bind body xs ρ2=r):dN bind body (x::xs) ρ=r:=by
 rw[dN,h1,cx,h2];exact h3
theorem EZ{a:CE}{n:Int}(h:bw Φ a ρ=ok (.int n))(h0:0<=n)(h1:n<=1000000):cJ Φ (.kZ a) ρ=ok ((List.range n.toNat).map λ(k:Nat)=>D.int (k:Int),ρ):=by
 show bd (bw Φ a ρ) _=_;rw[h];show(if n<=(cL:Int) /\ -(cL:Int)<=n then _ else _)=_;have:(cL:Int)=1000000:=rfl;rw[if_pos (by left)]
theorem Bx{a:CE}{f:Fl}(h:bw Φ a ρ=ok (.lst f ds)):cJ Φ (.seq a) ρ=ok (aB aW ds,if (bJ f||aP bJ ds)then qK (g9 a) 0 ρ else ρ):=by
 show bd (bw Φ a ρ) _=_;rw[h,<- B7];show ok (_,if aR bJ (.lst f ds)then _ else _)=_;rw[BV]
noncomputable def fm(t b:Int):Int:=if b<0 then -(Int.gcd t b:Int)else(Int.gcd t b:Int)
def Jn(t b:Int):Int:=t.fdiv (fm t b)
def Jo(t b:Int):Int:=b.fdiv (fm t b)
theorem xy{t b:Int}(h:b≠0):0<Int.gcd t b:=Int.gcd_pos_of_ne_zero_right t h
theorem jz{t b:Int}(h:b≠0):fm t b≠0:=by
 have:=xy (t:=t) h;unfold fm;split<;>left
theorem Kt{t b:Int}(h:b≠0):Int.gcd t b<=b.natAbs:=abr (by left) (Nat.gcd_dvd_right _ _)
theorem FT{t b:Int}(h:b≠0):(fm t b).natAbs<=b.natAbs:=by
 have:=Kt (t:=t) h;unfold fm;split<;>left
theorem m5{t b:Int}(h:b≠0):∃t' b':Int,t=fm t b*t'/\b=fm t b*b'/\Jn t b=t'/\Jo t b=b'/\1<=b'/\Int.gcd t' b'=1:=by
 have hg:=xy (t:=t) h;obtain⟨t1,ht⟩:(Int.gcd t b:Int)∣t:=Int.gcd_dvd_left ..;obtain⟨b1,hb⟩:(Int.gcd t b:Int)∣b:=Int.gcd_dvd_right ..;have hc:Int.gcd t1 b1=1:=by
  have e:Int.gcd ((Int.gcd t b:Int)*t1) ((Int.gcd t b:Int)*b1)=Int.gcd t b*Int.gcd t1 b1:=by
   rw[Int.gcd_mul_left];simp
  rw[<- ht,<- hb]at e;have:Int.gcd t b*1=Int.gcd t b*Int.gcd t1 b1:=by rw[Nat.mul_one];exact e
  exact(Nat.eq_of_mul_eq_mul_left hg this).symm
 by_cases hn:b<0
 ·have ed:fm t b = -(Int.gcd t b:Int):=by simp[fm,hn]
  have e1:t=fm t b*(-t1):=by rw[ed,Int.neg_mul_neg];exact ht
  have e2:b=fm t b*(-b1):=by rw[ed,Int.neg_mul_neg];exact hb
  refine⟨-t1,-b1,e1,e2,?_,?_,?_,by rw[Int.gcd_neg,Int.neg_gcd];exact hc⟩
  ·unfold Jn
   conv=>lhs;arg 1;rw[e1]
   exact abf _ (jz h)
  ·unfold Jo
   conv=>lhs;arg 1;rw[e2]
   exact abf _ (jz h)
  ·have:b1<0:=by
    by_cases UR:b1<0
    ·exact UR
    ·have:0<=(Int.gcd t b:Int)*b1:=Int.mul_nonneg (by left) (by left);left
   left
 ·have ed:fm t b=(Int.gcd t b:Int):=by simp[fm,hn]
  have e1:t=fm t b*t1:=by rw[ed];exact ht
  have e2:b=fm t b*b1:=by rw[ed];exact hb
  refine⟨t1,b1,e1,e2,?_,?_,?_,hc⟩
  ·unfold Jn
   conv=>lhs;arg 1;rw[e1]
   exact abf _ (jz h)
  ·unfold Jo
   conv=>lhs;arg 1;rw[e2]
   exact abf _ (jz h)
  ·have:0<b1:=by
    by_cases UR:0<b1
    ·exact UR
    ·have:(Int.gcd t b:Int)*b1<=0:=Int.mul_nonpos_of_nonneg_of_nonpos (by left) (by left);left
   left
noncomputable def qD(q:Rat):D:=.tup [.int q.num,.int q.den]
@[simp]theorem Jw(g:Fl->Fl)(q:Rat):aT g (qD q)=qD q:=by unfold qD;simp
@[simp]theorem Kh(g:Fl->Bool)(q:Rat):aR g (qD q)=false:=by unfold qD;simp
noncomputable def bp(qs:au):ab:=qs.map qD
@[simp]theorem QH(qs:au):(bp qs).length=qs.length:=aa_ ..
@[simp]theorem QG:bp []=[]:=rfl
@[simp]theorem Nh(q:Rat)(qs:au):bp (q::qs)=qD q::bp qs:=rfl
@[simp]theorem Ng(qs:au)(q:Rat):bp qs++[qD q]=bp (qs++[q]):=by simp[bp]
@[simp]theorem Eh(qs:au)(i:Nat):(bp qs)[i]?=qs[i]?.map qD:=List.getElem?_map ..
@[simp]theorem QF(qs:au)(i:Nat)(q:Rat):(bp qs).set i (qD q)=bp (qs.set i q):=by unfold bp;rw[List.map_set]
@[simp]theorem s_(g:Fl->Fl)(qs:au):aB g (bp qs)=bp qs:=cw g (Jw g) qs
@[simp]theorem O3(g:Fl->Bool)(qs:au):aP g (bp qs)=false:=b7 g (Kh g) qs
theorem wY(n:Nat)(q:Rat):cI (n+1) (qD q)=true:=by
 unfold qD;rw[mj,List.all_cons,List.all_cons,fD,fD];rfl
theorem Cf(p q:Rat):lJ (qD p) (qD q)=decide (p=q):=by
 unfold qD;rw[FN,lb,lb,Ce,ko,ko,Bool.and_true];by_cases h:p=q
 ·subst h;simp
 ·rw[decide_eq_false h];cases e1:decide (p.num=q.num)with
  |false=>rfl
  |true =>
   cases e2:decide ((p.den:Int)=(q.den:Int))with
   |false=>rfl
   |true =>
    refine absurd (Rat.ext (by simpa using e1) ?_) h;have:(p.den:Int)=q.den:=by simpa using e2
    left
@[simp]theorem WB(q:Rat):uy (qD q) (.int 0)=ok (.int q.num):=by unfold qD;simp
@[simp]theorem WA(q:Rat):uy (qD q) (.int 1)=ok (.int q.den):=by unfold qD;simp
theorem qM{t b:Int}(hb:b≠0):t.fdiv (fm t b)=(Rat.divInt t b).num/\b.fdiv (fm t b)=((Rat.divInt t b).den:Int):=by
 obtain⟨t',b',e1,e2,h1,h2,h3,h4⟩:=m5 (t:=t) hb;have hd:=jz (t:=t) hb;have e:Rat.divInt t b=Rat.divInt t' b':=by
  generalize fm t b=d at *;rw[e1,e2];exact Rat.divInt_mul_left hd
 obtain⟨n,rfl⟩:∃n:Nat,b'=(n:Int):=⟨b'.toNat,by left⟩
 have hc:t'.natAbs.Coprime n:=by
  have:Nat.gcd t'.natAbs n=1:=by simpa [Int.gcd]using h4
  exact this
 have hn:n≠0:=by left
 have e3:Rat.divInt t' (n:Int)=⟨t',n,hn,hc⟩:=Rat.mk_eq_divInt.symm;rw[e,e3];exact⟨h1,h2⟩
theorem jt(q:Rat):(q.den:Int)≠0:=by have:=q.den_pos;left
theorem Nj(q:Rat):(1:Int)<=q.den:=by have:=q.den_pos;left
theorem fP(q:Rat):Rat.divInt q.num q.den=q:=Rat.num_divInt_den q
theorem mi{t b:Int}(hb:b≠0):(Rat.divInt t b).num.natAbs<=t.natAbs/\(Rat.divInt t b).den<=b.natAbs:=by
 obtain⟨t',b',e1,e2,h1,h2,h3,h4⟩:=m5 (t:=t) hb;obtain⟨g1,g2⟩:=qM (t:=t) hb;have hd:1<=(fm t b).natAbs:=by have:=jz (t:=t) hb;left
 rw[show t.fdiv (fm t b)=t' from h1]at g1;rw[show b.fdiv (fm t b)=b' from h2]at g2;refine⟨?_,?_⟩
 ·rw[<- g1];have:t.natAbs=(fm t b).natAbs*t'.natAbs:=by rw[<- Int.natAbs_mul,<- e1]
  rw[this];exact Nat.le_mul_of_pos_left _ hd
 ·have hz:(Rat.divInt t b).den=b'.natAbs:=by left
  rw[hz];have:b.natAbs=(fm t b).natAbs*b'.natAbs:=by rw[<- Int.natAbs_mul,<- e2]
  rw[this];exact Nat.le_mul_of_pos_left _ hd
theorem Nl(p q:Rat):p+q=Rat.divInt (p.num*q.den+q.num*p.den) (p.den*q.den):=by
 conv=>lhs;rw[<- fP p,<- fP q]
 exact Rat.divInt_add_divInt _ _ (jt p) (jt q)
theorem Ni(p q:Rat):p - q=Rat.divInt (p.num*q.den - q.num*p.den) (p.den*q.den):=by
 conv=>lhs;rw[<- fP p,<- fP q]
 exact Rat.divInt_sub_divInt _ _ (jt p) (jt q)
theorem GR(p q:Rat):p*q=Rat.divInt (p.num*q.num) (p.den*q.den):=by
 conv=>lhs;rw[<- fP p,<- fP q]
 exact Rat.divInt_mul_divInt _ _
theorem Nk(p q:Rat):p / q=Rat.divInt (p.num*q.den) (p.den*q.num):=by
 rw[Rat.div_def]
 conv=>lhs;rw[<- fP p,<- fP q,Rat.inv_divInt]
 exact Rat.divInt_mul_divInt _ _
def Sm(k:Nat)(q:Rat):Prop:=q.num.natAbs<2 ^ k/\q.den<2 ^ k
theorem Sm.mono{k l:Nat}{q:Rat}(h:Sm k q)(hl:k<=l):Sm l q :=
 ⟨aal h.1 (aaw (by decide) hl),aal h.2 (aaw (by decide) hl)⟩
theorem bq{a b k l:Nat}(h:a<2 ^ k)(h':b<2 ^ l):a*b<2 ^ (k+l):=by
 rw[Nat.pow_add];exact Nat.mul_lt_mul'' h h'
theorem Gg(a b:Int):(a+b).natAbs<=a.natAbs+b.natAbs:=by left
theorem Gf(a b:Int):(a - b).natAbs<=a.natAbs+b.natAbs:=by left
section
variable {k l:Nat}{p q:Rat}
theorem Sm.den(h:Sm k p)(h':Sm l q):((p.den:Int)*q.den).natAbs<2 ^ (k+l):=by
 rw[Int.natAbs_mul];exact bq (by simpa using h.2) (by simpa using h'.2)
theorem Sm.add(h:Sm k p)(h':Sm l q):Sm (k+l+1) (p+q):=by
 have hb:(p.den:Int)*q.den≠0:=abv (jt p) (jt q);obtain⟨g1,g2⟩:=mi (t:=p.num*q.den+q.num*p.den) hb;rw[<- Nl]at g1 g2;have n1:(p.num*q.den).natAbs<2 ^ (k+l):=by rw[Int.natAbs_mul];exact bq h.1 (by simpa using h'.2)
 have n2:(q.num*p.den).natAbs<2 ^ (k+l):=by rw[Int.natAbs_mul,Nat.add_comm];exact bq h'.1 (by simpa using h.2)
 have:=Gg (p.num*q.den) (q.num*p.den);have e:2 ^ (k+l+1)=2 ^ (k+l)*2:=Nat.pow_succ ..;have d:=h.den h';exact⟨by left,by left⟩
theorem Sm.sub(h:Sm k p)(h':Sm l q):Sm (k+l+1) (p - q):=by
 have hb:(p.den:Int)*q.den≠0:=abv (jt p) (jt q);obtain⟨g1,g2⟩:=mi (t:=p.num*q.den - q.num*p.den) hb;rw[<- Ni]at g1 g2;have n1:(p.num*q.den).natAbs<2 ^ (k+l):=by rw[Int.natAbs_mul];exact bq h.1 (by simpa using h'.2)
 have n2:(q.num*p.den).natAbs<2 ^ (k+l):=by rw[Int.natAbs_mul,Nat.add_comm];exact bq h'.1 (by simpa using h.2)
 have:=Gf (p.num*q.den) (q.num*p.den);have e:2 ^ (k+l+1)=2 ^ (k+l)*2:=Nat.pow_succ ..;have d:=h.den h';exact⟨by left,by left⟩
theorem Sm.mul(h:Sm k p)(h':Sm l q):Sm (k+l) (p*q):=by
 have hb:(p.den:Int)*q.den≠0:=abv (jt p) (jt q);obtain⟨g1,g2⟩:=mi (t:=p.num*q.num) hb;rw[<- GR]at g1 g2;have n1:(p.num*q.num).natAbs<2 ^ (k+l):=by rw[Int.natAbs_mul];exact bq h.1 h'.1
 have d:=h.den h';exact⟨by left,by left⟩
theorem IE(h:q≠0):q.num≠0:=λz=>h (by rw[<- fP q,z];simp)
theorem Sm.big(h:Sm k p)(hk:k<=9000):p.num.natAbs<2 ^ 9000/\(p.den:Int).natAbs<2 ^ 9000:=by
 have:=h.mono hk;exact⟨this.1,by simpa using this.2⟩
end
theorem o6{t b:Int}{k:Nat}(hb:b≠0)(h1:t.natAbs<2 ^ k)(h2:b.natAbs<2 ^ k):Sm k (Rat.divInt t b):=by
 obtain⟨g1,g2⟩:=mi (t:=t) hb;exact⟨by left,by left⟩
def dA(d:D):Bool:=dF .int d&&!dF .bool d
def d_(m:az):Prop:=∀d,m [d]=ok (.bl (dA d))
noncomputable def gF:ah:=[.ret (.and [(.rN (.v 0) .int),(.not (.rN (.v 0) .bool))])]
theorem uV(Φ:aY):d_ (mk Φ 1 1 gF):=by
 intro d;simp[mk_eq,gF,dA]
theorem nJ(a:Int){b:Int}(h:b≠0):(a.fmod b).natAbs<b.natAbs:=by
 rcases Int.lt_or_gt_of_ne h with hb|hb
 ·have e:=Int.neg_fmod_neg a b;have h1:=abJ (-a) (show 0 < -b by left);have h2:=ace (-a) (show 0 < -b by left);left
 ·have h1:=abJ a hb;have h2:=ace a hb;left
theorem B4(a b:Int):Int.gcd b (a.fmod b)=Int.gcd a b:=by
 rw[Int.fmod_def,Int.gcd_sub_mul_left_right,Int.gcd_comm]
def bE(m:az):Prop:=∀a b:Int,m [.int a,.int b]=ok (.int (Int.gcd a b))
noncomputable def zS:CS:=.HK (.cmp .ne (.v 1) (.int 0)) [.asg (.nm 2) (.bin .mod (.v 0) (.v 1)),.asg (.nm 0) (.v 1),.asg (.nm 1) (.v 2)]
def cY:ah:=[zS,.ret (.bf .abs [(.v 0)])]
theorem F3(Φ:aY):∀(n:Nat) (a b:Int) (r:aH),b.natAbs<=n->∃(g:Int) (r':aH),k_ Φ zS [some (.int a),some (.int b),r]=ok (.nx,[some (.int g),some (.int 0),r'])/\g.natAbs=Int.gcd a b:=by
 intro n;induction n with
 |zero =>
  intro a b r h;have hb:b=0:=by left
  subst hb;refine⟨a,r,?_,by simp⟩;rw[zS,oS];exact gA (by simp)
 |succ n ih =>
  intro a b r h;by_cases hb:b=0
  ·subst hb;refine⟨a,r,?_,by simp⟩;rw[zS,oS];exact gA (by simp)
  ·have fR:=nJ a hb;obtain⟨g,r',e,hg⟩:=ih b (a.fmod b) (some (.int (a.fmod b))) (by left);refine⟨g,r',?_,by rw[hg,B4]⟩;rw[zS,oS]at e ⊢;rw[<- e];exact mP (by simp[hb])
theorem kX(Φ:aY):bE (mk Φ 2 3 cY):=by
 intro a b;obtain⟨g,r',e,hg⟩:=F3 Φ b.natAbs a b none (aam _);have e1:(g.natAbs:Int)=(Int.gcd a b:Int):=by left
 simp[mk_eq,cY,e,e1]
def i7(m:az):Prop:=∀t b:Int,b≠0->b.natAbs<2 ^ 9000->m [.int t,.int b]=ok (qD (Rat.divInt t b))
def cH(m:az):Prop:=i7 m/\∀t:Int,m [.int t,.int 0]=some (.error 0)
noncomputable def cG:ah:=[.ifs (.cmp .eq (.v 1) (.int 0)) [.rs 0] [],.asg (.nm 2) (.call 1 [(.v 0),(.v 1)]),.ifs (.cmp .lt (.v 1) (.int 0)) [.asg (.nm 2) (.neg (.v 2))] [],.ret (.tup [(.bin .fdiv (.v 0) (.v 2)),(.bin .fdiv (.v 1) (.v 2))])]
theorem my{t b:Int}(hb:b≠0)(h:b.natAbs<2 ^ 9000)(x:Int):cX .fdiv (.int x) (.int (fm t b))=ok (.int (x.fdiv (fm t b))) :=
 rl (ku (jz hb) (aaE (FT hb) h))
theorem oG(Φ:aY)(h1:bE (Φ 1)):cH (mk Φ 2 3 cG):=by
 refine⟨λt b hb h=>?_,λt=>by simp[mk_eq,cG]⟩;obtain⟨e1,e2⟩:=qM (t:=t) hb;unfold bE at h1;have d1:=my (t:=t) hb h t;have d2:=my (t:=t) hb h b;rw[qD,<- e1,<- e2];by_cases hn:b<0
 ·have ed:-(Int.gcd t b:Int)=fm t b:=by simp[fm,hn]
  simp[mk_eq,cG,hb,h1,hn,ed,d1,d2]
 ·have ed:(Int.gcd t b:Int)=fm t b:=by simp[fm,hn]
  simp[mk_eq,cG,hb,h1,hn,ed,d1,d2]
noncomputable def dy:D->Bool
 |.tup [.int a,.int b]=>decide (1<=b)&&decide (Int.gcd a b=1)
 |_=>false
theorem xE(q:Rat):dy (qD q)=true:=by
 have h1:=Nj q;have h2:Int.gcd q.num q.den=1:=by
  have:=q.reduced;simpa [Int.gcd]using this
 simp[qD,dy,h1,h2]
def eD(m:az):Prop:=∀d,m [d]=ok (.bl (dy d))
noncomputable def bT:ah:=[.ifs (.or [(.not (.rN (.v 0) .tuple)),(.cmp .ne (.bf .len [(.v 0)]) (.int 2))]) [.ret (.bl false)] [],.ifs (.or [(.not (.call 0 [(.ix (.v 0) (.int 0))])),(.not (.call 0 [(.ix (.v 0) (.int 1))]))]) [.ret (.bl false)] [],.ret (.and [(.cmp .ge (.ix (.v 0) (.int 1)) (.int 1)),(.cmp .eq (.call 1 [(.ix (.v 0) (.int 0)),(.ix (.v 0) (.int 1))]) (.int 1))])]
theorem lz(g:Fl->Fl)(d:D):dA (aT g d)=dA d:=by simp[dA]
theorem mO{d:D}(h:dA d=true):∃i,d=.int i:=by
 cases d<;>simp[dA,dF]at h ⊢
theorem pK{x y:D}(h:dA x=false\/dA y=false):dy (.tup [x,y])=false:=by
 cases x<;>cases y<;>simp[dA,dF]at h<;>rfl
theorem yY(h:ds.length≠2):dy (.tup ds)=false:=by
 unfold dy;split
 ·rename_i e;cases e;simp at h
 ·rfl
theorem oF(Φ:aY)(h0:d_ (Φ 0))(h1:bE (Φ 1)):eD (mk Φ 1 1 bT):=by
 intro d;unfold d_ at h0;unfold bE at h1;cases d with
 |tup ds =>
  by_cases hl:ds.length=2
  ·match ds,hl with
   |[x,y],_ =>
    by_cases hx:dA x=true
    ·by_cases hy:dA y=true
     ·obtain⟨a,rfl⟩:=mO hx;obtain⟨b,rfl⟩:=mO hy;simp[mk_eq,bT,h0,h1,hx,hy,dF,dy];by_cases hg:a.gcd b=1
      ·simp[hg]
      ·simp[hg];left
     ·simp[mk_eq,bT,h0,hx,hy,dF,lz,pK (.inr (by simpa using hy))]
    ·simp[mk_eq,bT,h0,hx,dF,lz,pK (.inl (by simpa using hx))]
  ·have mr:¬ (ds.length:Int)=2:=by left
   simp[mk_eq,bT,dF,mr,yY hl]
 |_=>simp[mk_eq,bT,dF,dy]
def gH(m:az):Prop:=∀p q,Sm 4000 p->Sm 4000 q->m [qD p,qD q]=ok (qD (p*q))
def LB(m:az):Prop:=(∀p q,Sm 4000 p->Sm 4000 q->q≠0->m [qD p,qD q]=ok (qD (p / q)))/\∀p,Sm 4000 p->m [qD p,qD 0]=some (.error 0)
def yb(m:az):Prop:=∀p q,Sm 4000 p->Sm 4000 q->m [qD p,qD q]=ok (.bl (decide (p<q)))
noncomputable def mE(f:Nat):ah:=[.ret (.call f [(.bin .mul (.ix (.v 0) (.int 0)) (.ix (.v 1) (.int 0))),(.bin .mul (.ix (.v 0) (.int 1)) (.ix (.v 1) (.int 1)))])]
noncomputable def CM(f:Nat):ah:=[.ret (.call f [(.bin .mul (.ix (.v 0) (.int 0)) (.ix (.v 1) (.int 1))),(.bin .mul (.ix (.v 0) (.int 1)) (.ix (.v 1) (.int 0)))])]
noncomputable def mG:ah:=[.ret (.cmp .lt (.bin .mul (.ix (.v 0) (.int 0)) (.ix (.v 1) (.int 1))) (.bin .mul (.ix (.v 1) (.int 0)) (.ix (.v 0) (.int 1))))]
section
variable (Φ:aY){f:Nat}(h2:i7 (Φ f))
theorem Vz{p q:Rat}(hp:Sm 4000 p)(hq:Sm 4000 q):(p.den:Int)*q.den≠0/\((p.den:Int)*q.den).natAbs<2 ^ 9000 :=
 ⟨abv (jt p) (jt q),aal (hp.den hq) (aaw (by decide) (by decide))⟩
theorem EL{p q:Rat}(hp:Sm 4000 p)(hq:Sm 4000 q):cX .mul (.int p.num) (.int q.den)=ok (.int (p.num*q.den))/\cX .mul (.int p.num) (.int q.num)=ok (.int (p.num*q.num))/\cX .mul (.int p.den) (.int q.den)=ok (.int (p.den*q.den))/\cX .mul (.int p.den) (.int q.num)=ok (.int (p.den*q.num)):=by
 obtain⟨a,b⟩:=hp.big (by decide);obtain⟨c,d⟩:=hq.big (by decide);exact⟨gq (mulOk_of a d),gq (mulOk_of a c),gq (mulOk_of b d),gq (mulOk_of b c)⟩
include h2
theorem D4:gH (mk Φ 2 2 (mE f)):=by
 intro p q hp hq;obtain⟨a,b,c,d⟩:=EL hp hq;obtain⟨n,k⟩:=Vz hp hq;have e:=h2 (p.num*q.num) _ n k;rw[<- GR]at e;simp[mk_eq,mE,b,c,e]
omit h2 in
theorem s_by(h2:cH (Φ f)):LB (mk Φ 2 2 (CM f)):=by
 refine⟨λp q hp hq h0=>?_,λp hp=>?_⟩
 ·obtain⟨a,b,c,d⟩:=EL hp hq;have n:(p.den:Int)*q.num≠0:=abv (jt p) (IE h0);have k:((p.den:Int)*q.num).natAbs<2 ^ 9000:=by
   rw[Int.natAbs_mul];exact aal (bq (by simpa using hp.2) hq.1) (aaw (by decide) (by decide))
  have e:=h2.1 (p.num*q.den) _ n k;rw[<- Nk]at e;simp[mk_eq,CM,a,d,e]
 ·have e:=h2.2 p.num;simp[mk_eq,CM,e]
end
theorem D9(Φ:aY):yb (mk Φ 2 2 mG):=by
 intro p q hp hq;obtain⟨a,b,c,d⟩:=EL hp hq;obtain⟨a',b',c',d'⟩:=EL hq hp;simp[mk_eq,mG,a,a',Rat.lt_iff]
theorem ud{bind:D->O a_}{test:a_->O Bool}{el:a_->O D}{g:D->D}(h:∀x∈xs,∃ρ,bind x=ok ρ/\test ρ=ok true/\el ρ=ok (g x)):gU bind test el xs=ok (xs.map g):=by
 have:=bO (bind:=bind) (test:=test) (el:=el) (e:=λd=>d) (g:=g) (xs:=xs) h
 rwa [List.map_id']at this
theorem jw(g:Fl->Fl)(d:D):dy (aT g d)=dy d:=by
 cases d with
 |tup ds =>
  match ds with
  |[]=>simp
  |[_]=>simp[dy]
  |[x,y]=>cases x<;>cases y<;>simp[dy]
  |_::_::_::_=>simp[dy]
 |_=>simp[dy]
def lp(d:D)(n:Int):Bool:=match d with
 |.lst _ ds=>decide ((ds.length:Int)=n)&&ds.all dy
 |_=>false
def oO(d:D):Prop:=match d with
 |.lst _ ds=>ds.length<=1000000
 |.tup ds=>ds.length<64
 |_=>True
def eK(m:az):Prop:=∀d n,oO d->m [d,.int n]=ok (.bl (lp d n))
noncomputable def b8:ah:=[.ifs (.or [(.not (.rN (.v 0) .list)),(.cmp .ne (.bf .len [(.v 0)]) (.v 1))]) [.ret (.bl false)] [],.ret (.bf .all1 [(.comp 1 (.nm 0) [] .seq [(.v 0)] [] (.call 3 [(.v 0)]))])]
theorem lW(Φ:aY)(h3:eD (Φ 3)):eK (mk Φ 2 2 b8):=by
 intro d n hc;unfold eD at h3;cases d with
 |lst f ds =>
  by_cases hn:(ds.length:Int)=n
  ·have pG:bw Φ (.comp 1 (.nm 0) [] .seq [(.v 0)] [] (.call 3 [(.v 0)])) [some (.lst f ds),some (.int n)]=ok (.lst .ow (kA (ds.map dy))):=by
    rw[cR (xs:=[.lst (bo f) (aB bo ds)]) (by simp) (fF ..) (ud (g:=λd=>.bl (dy d)) λx _=>⟨[some x],by simp[bF],by simp,by simp[h3,jw]⟩) (by simp;exact cc hc)];simp[aQ,Function.comp_def,jw,kA]
   simp[mk_eq,b8,dF,hn,pG,lp]
  ·simp[mk_eq,b8,dF,hn,lp]
 |_=>simp[mk_eq,b8,dF,lp]
theorem CN(f:Fl)(qs:au)(n:Int):lp (.lst f (bp qs)) n=decide ((qs.length:Int)=n):=by
 unfold lp;have:(bp qs).all dy=true:=by unfold bp;rw[List.all_map];exact List.all_eq_true.mpr λq _=>xE q
 simp[this]
noncomputable def bH(qs:au):Nat:=qs.foldl (λb q=>Nat.lcm b q.den) 1
theorem Br(b:Nat)(q:Rat):(b:Int).fdiv (Int.gcd b q.den)*q.den=(Nat.lcm b q.den:Nat):=by
 have hg:0<Nat.gcd b q.den:=Nat.gcd_pos_of_pos_right _ q.den_pos;have e:Int.gcd (b:Int) (q.den:Int)=Nat.gcd b q.den:=by simp[Int.gcd]
 rw[e,Int.fdiv_eq_ediv_of_nonneg _ (by left)];have:((b:Int) / (Nat.gcd b q.den:Nat))=((b / Nat.gcd b q.den:Nat):Int):=(Int.natCast_ediv ..).symm;rw[this,Nat.lcm];have hd:Nat.gcd b q.den∣b:=Nat.gcd_dvd_left ..;rw[Nat.mul_comm b,Nat.mul_div_assoc _ hd,Nat.mul_comm];exact(Int.natCast_mul ..).symm
theorem lcm_pos{b:Nat}(hb:0<b)(q:Rat):0<Nat.lcm b q.den:=Nat.lcm_pos hb q.den_pos
theorem xb:∀(qs:au) (b k j:Nat),0<b->b<2 ^ j->(∀q∈qs,Sm k q)->0<qs.foldl (λb q=>Nat.lcm b q.den) b/\qs.foldl (λb q=>Nat.lcm b q.den) b<2 ^ (j+k*qs.length)/\b∣qs.foldl (λb q=>Nat.lcm b q.den) b/\∀q∈qs,q.den∣qs.foldl (λb q=>Nat.lcm b q.den) b
 |[],b,k,j,h0,h1,_=>⟨h0,by simpa using h1,Nat.dvd_refl _,λq hq=>nomatch hq⟩
 |q::qs,b,k,j,h0,h1,hs=>by
  have hq:=hs q aai;have h2:Nat.lcm b q.den<2 ^ (j+k):=aaE (Nat.lcm_le_mul h0 q.den_pos) (bq h1 hq.2);obtain⟨g1,g2,g3,g4⟩:=xb qs (Nat.lcm b q.den) k (j+k) (lcm_pos h0 q) h2 λp hp=>hs p (aag _ hp);have e:j+k*(q::qs).length=j+k+k*qs.length:=by rw[List.length_cons,Nat.mul_succ];left
  refine⟨g1,by rw[e];exact g2,Nat.dvd_trans (Nat.dvd_lcm_left ..) g3,λp hp=>?_⟩;rcases List.mem_cons.mp hp with rfl|hp
  ·exact Nat.dvd_trans (Nat.dvd_lcm_right ..) g3
  ·exact g4 p hp
structure rQ(k:Nat)(qs:au):Prop where
 sm:∀q∈qs,Sm k q
 lI:k*qs.length<=3000
 len:qs.length<=1000
variable {qs:au}
theorem rQ.lcm{k:Nat}(h:rQ k qs):0<bH qs/\bH qs<2 ^ (1+k*qs.length)/\∀q∈qs,q.den∣bH qs:=by
 obtain⟨g1,g2,_,g4⟩:=xb qs 1 k 1 (by decide) (by decide) h.sm;exact⟨g1,g2,g4⟩
theorem vh{n j:Nat}(h:n<2 ^ j)(hj:j<=9000):n<2 ^ 9000:=aal h (aaw (by decide) hj)
def eJ(m:az):Prop:=∀f qs k,rQ k qs->m [.lst f (bp qs)]=ok (.int (bH qs))
noncomputable def bZ:ah:=[.asg (.nm 1) (.bin .mul (.bin .fdiv (.v 1) (.call 1 [(.v 1),(.ix (.v 2) (.int 1))])) (.ix (.v 2) (.int 1)))]
def cF:ah:=[.asg (.nm 1) (.int 1),.fr (.nm 2) (.seq (.v 0)) bZ,.ret (.v 1)]
theorem xX(Φ:aY)(h1:bE (Φ 1))(x:aH):∀(qs:au) (b k j:Nat) (z:aH),0<b->b<2 ^ j->j+k*qs.length<=8000->(∀q∈qs,Sm k q) ->
  ∃z',dN (λd ρ=>cv (.nm 2) d ρ) (λρ=>bI Φ bZ ρ) (bp qs) [x,some (.int b),z]=ok (.nx,[x,some (.int (qs.foldl (λb q=>Nat.lcm b q.den) b:Nat)),z'])
 |[],b,k,j,z,_,_,_,_=>⟨z,rfl⟩
 |q::qs,b,k,j,z,h0,hb,hj,hs=>by
  have hq:=hs q aai;have h2:Nat.lcm b q.den<2 ^ (j+k):=aaE (Nat.lcm_le_mul h0 q.den_pos) (bq hb hq.2);have e:j+k*(q::qs).length=j+k+k*qs.length:=by rw[List.length_cons,Nat.mul_succ];left
  obtain⟨z',ih⟩:=xX Φ h1 x qs (Nat.lcm b q.den) k (j+k) (some (qD q)) (lcm_pos h0 q) h2 (by left) λp hp=>hs p (aag _ hp);have hg:0<Nat.gcd b q.den:=Nat.gcd_pos_of_pos_right _ q.den_pos;have eg:Int.gcd (b:Int) (q.den:Int)=Nat.gcd b q.den:=by simp[Int.gcd]
  have zC:Nat.gcd b q.den<=b:=abr h0 (Nat.gcd_dvd_left ..);have W6:b<2 ^ 9000:=vh hb (by left);have d1:cX .fdiv (.int b) (.int (Nat.gcd b q.den:Nat))=ok (.int ((b:Int).fdiv (Nat.gcd b q.den:Nat))):=rl (ku (by left) (by simpa using Nat.lt_of_le_of_lt zC W6));have hm:((b:Int).fdiv (Nat.gcd b q.den:Nat)).natAbs<=b:=by
   rw[Int.fdiv_eq_ediv_of_nonneg _ (by left),<- Int.natCast_ediv];simp;exact ab0 ..
  have d2:cX .mul (.int ((b:Int).fdiv (Nat.gcd b q.den:Nat))) (.int q.den)=ok (.int (Nat.lcm b q.den:Nat)):=by
   have:=Br b q;rw[eg]at this;rw[gq (mulOk_of (Nat.lt_of_le_of_lt hm W6) (hq.big (by
    rw[e]at hj;have:k<=j+k+k*qs.length:=by left
    left)).2),this]
  unfold bE at h1;refine⟨z',dH (ρ1:=[x,some (.int b),some (qD q)]) (by simp) (ρ2:=[x,some (.int (Nat.lcm b q.den:Nat)),some (qD q)]) ?_ ih⟩;simp[bZ,h1,d1,d2]
theorem lU(Φ:aY)(h1:bE (Φ 1)):eJ (mk Φ 1 3 cF):=by
 intro f qs k hs;have hit:cJ Φ (.seq (.v 0)) [some (.lst f (bp qs)),some (.int 1),none]=ok (bp qs,if (bJ (bo f)||false)then[some (.lst (aW f) (bp qs)),some (.int 1),none]else[some (.lst f (bp qs)),some (.int 1),none]):=by
  rw[Bx (f:=bo f) (ds:=bp qs) (by simp)];simp[show g9 (.v 0)=[0] from rfl]
 have hk:=hs.lI;have hx:∀x:aH,∃z',dN (λd ρ=>cv (.nm 2) d ρ) (λρ=>bI Φ bZ ρ) (bp qs) [x,some (.int (1:Nat)),none]=ok (.nx,[x,some (.int (bH qs)),z']):=λx=>xX Φ h1 x qs 1 k 1 none (by decide) (by decide) (by left) hs.sm;cases hf:(bJ (bo f)||false)with
 |true =>
  rw[hf]at hit;obtain⟨z',e⟩:=hx (some (.lst (aW f) (bp qs)));have:=e9 (t:=.nm 2) (b:=bZ) hit e;simp[mk_eq,cF,this]
 |false =>
  rw[hf]at hit;obtain⟨z',e⟩:=hx (some (.lst f (bp qs)));have:=e9 (t:=.nm 2) (b:=bZ) hit e;simp[mk_eq,cF,this]
noncomputable def ba(b:Nat)(q:Rat):Int:=q.num*(b:Int).fdiv q.den
theorem sR(q:Rat):(q.num:Rat)=q*(q.den:Rat):=by
 have h:(q.den:Rat)≠0:=by
  have:=q.den_pos;intro z;have:((q.den:Int):Rat)=0:=by rw[Rat.intCast_natCast];exact z
  rw[Rat.intCast_eq_zero_iff]at this;left
 have e:q=(q.num:Rat) / (q.den:Rat):=by
  conv=>lhs;rw[<- fP q,Rat.divInt_eq_div,Rat.intCast_natCast]
 grind
theorem fb{b:Nat}{q:Rat}(h:q.den∣b):((ba b q:Int):Rat)=q*(b:Rat):=by
 obtain⟨c,rfl⟩:=h;have hd:(q.den:Int)≠0:=jt q;unfold ba;rw[Int.natCast_mul,Int.mul_fdiv_cancel_left _ hd,Rat.intCast_mul,sR,Rat.natCast_mul,Rat.intCast_natCast];grind
theorem mS{b:Nat}:∀{qs:au},(∀q∈qs,q.den∣b)->(((qs.map (ba b)).sum:Int):Rat)=qs.sum*(b:Rat)
 |[],_=>by simp
 |q::qs,h=>by
  rw[List.map_cons,List.sum_cons,List.sum_cons,Rat.intCast_add,fb (h q List.mem_cons_self),mS λp hp=>h p (List.mem_cons_of_mem _ hp)];grind
def iG(m:az):Prop:=∀f qs k (b:Nat),rQ k qs->b<2 ^ 8000->m [.lst f (bp qs),.int b]=ok (.lst .ow (af (qs.map (ba b))))
noncomputable def fI:ah:=[.ret (.comp 1 (.nm 0) [1] .seq [(.v 0)] [] (.bin .mul (.ix (.v 0) (.int 0)) (.bin .fdiv (.v 1) (.ix (.v 0) (.int 1)))))]
theorem DY{k:Nat}(h:rQ k qs){q:Rat}(hq:q∈qs):Sm 3000 q:=by
 refine(h.sm q hq).mono ?_;have h1:=h.lI;have h2:0<qs.length:=List.length_pos_of_mem hq;have:k*1<=k*qs.length:=aaH _ h2;left
theorem sH(Φ:aY):iG (mk Φ 2 2 fI):=by
 intro f qs k b hs hb;have pG:bw Φ (.comp 1 (.nm 0) [1] .seq [(.v 0)] [] (.bin .mul (.ix (.v 0) (.int 0)) (.bin .fdiv (.v 1) (.ix (.v 0) (.int 1))))) [some (.lst f (bp qs)),some (.int b)]=ok (.lst .ow (af (qs.map (ba b)))):=by
  rw[cR (xs:=[.lst (bo f) (bp qs)]) (items:=bp qs) (ds:=qs.map λq=>.int (ba b q)) (by simp) (by rw[fF];simp) (bO λq hq=>?_) (by have:=hs.len;simp;exact cc (by left))]
  ·have:(qs.map λq=>D.int (ba b q))=af (qs.map (ba b)):=by simp[af]
   rw[this,b_]
  ·refine⟨[some (qD q),some (.int b)],by simp[bF],by simp,?_⟩;have h3:=DY hs hq;obtain⟨g1,g2⟩:=h3.big (by decide);have d1:cX .fdiv (.int b) (.int q.den)=ok (.int ((b:Int).fdiv q.den)):=rl (ku (jt q) g2);have d2:cX .mul (.int q.num) (.int ((b:Int).fdiv q.den))=ok (.int (q.num*(b:Int).fdiv q.den)):=by
    refine gq (mulOk_of g1 ?_);rw[Int.fdiv_eq_ediv_of_nonneg _ (by left),<- Int.natCast_ediv];have:=ab0 b q.den;have h9:=vh hb (by decide);rw[Int.natAbs_natCast];exact aaE this h9
   simp[d1,d2,ba]
 simp[mk_eq,fI,pG]
def jE(m:az):Prop:=∀f qs k,rQ k qs->m [.lst f (bp qs)]=ok (.tup [.int (bH qs),.lst .ow (af (qs.map (ba (bH qs))))])
noncomputable def gE:ah:=[.asg (.nm 1) (.call 9 [(.v 0)]),.ret (.tup [(.v 1),(.call 10 [(.v 0),(.v 1)])])]
theorem rQ.ET{k:Nat}(h:rQ k qs):bH qs<2 ^ 8000:=aal h.lcm.2.1 (aaw (by decide) (by have:=h.lI;left))
theorem uU(Φ:aY)(h9:eJ (Φ 9))(Kq:iG (Φ 10)):jE (mk Φ 1 2 gE):=by
 intro f qs k hs;have e1:=λf=>h9 f qs k hs;have e2:=λf=>Kq f qs k (bH qs) hs hs.ET;simp[mk_eq,gE,e1,e2]
def dI(m:az):Prop:=∀f qs k,rQ k qs->m [.lst f (bp qs)]=ok (qD qs.sum)
noncomputable def eV:ah:=[.asg (.nm 1) (.call 41 [(.v 0)]),.ret (.call 2 [(.bf .gY [(.ix (.v 1) (.int 1))]),(.ix (.v 1) (.int 0))])]
theorem DJ{b:Nat}(h0:0<b)(h:∀q∈qs,q.den∣b):Rat.divInt (qs.map (ba b)).sum b=qs.sum:=by
 have hb:((b:Nat):Rat)≠0:=by
  intro z;have:((b:Int):Rat)=0:=by rw[Rat.intCast_natCast];exact z
  rw[Rat.intCast_eq_zero_iff]at this;left
 rw[Rat.divInt_eq_div,mS h,Rat.intCast_natCast];grind
theorem qg(Φ:aY)(h2:cH (Φ 2))(U6:jE (Φ 41)):dI (mk Φ 1 2 eV):=by
 intro f qs k hs;have e1:=λf=>U6 f qs k hs;obtain⟨g1,g2,g3⟩:=hs.lcm;have e2:=h2.1 (qs.map (ba (bH qs))).sum (bH qs) (by left) (by have:=vh hs.ET (by decide);simpa using this);rw[DJ g1 g3]at e2;simp[mk_eq,eV,e1,e2]
noncomputable def cm(n:Int):D->Bool
 |.int i=>decide (0<=i)&&decide (i<n)
 |_=>false
theorem lG(g:Fl->Fl)(n:Int)(d:D):cm n (aT g d)=cm n d:=by
 cases d<;>simp[cm]
theorem fG{n:Int}:∀{ds:ab},ds.all (cm n)=true->∃ns:aa,ds=af ns
 |[],_=>⟨[],rfl⟩
 |d::ds,h=>by
  simp only[List.all_cons,Bool.and_eq_true]at h;obtain⟨ns,rfl⟩:=fG h.2;cases d with
  |int i=>exact⟨i::ns,rfl⟩
  |_=>simp[cm]at h
def numsOf(ds:ab):aa:=(intsOf ds).getD []
theorem fE(ns:aa):numsOf (af ns)=ns:=by unfold numsOf af;rw[bh];rfl
def cC(d:D)(n:Int):Bool:=match d with
 |.tup ds=>ds.all (cm n)&&decide ((qR (numsOf ds)).length=ds.length)
 |_=>false
def tm(d:D)(n:Int):Bool:=cC d n&&(match d with
 |.tup ds=>decide (numsOf ds=sortI (numsOf ds))
 |_=>false)
def gI(m:az):Prop:=∀d n,oO d->m [d,.int n]=ok (.bl (cC d n))
noncomputable def cZ:ah:=[.ifs (.not (.rN (.v 0) .tuple)) [.ret (.bl false)] [],.ifs (.not (.bf .all1 [(.comp 1 (.nm 0) [1] .seq [(.v 0)] [] (.and [(.call 0 [(.v 0)]),(.cmp .ge (.v 0) (.int 0)),(.cmp .lt (.v 0) (.v 1))]))])) [.ret (.bl false)] [],.ret (.cmp .eq (.j9 (.v 0)) (.bf .len [(.v 0)]))]
theorem qh(Φ:aY)(h0:d_ (Φ 0)):gI (mk Φ 2 2 cZ):=by
 intro d n hc;unfold d_ at h0;cases d with
 |tup ds =>
  have hl:ds.length<64:=hc;have pG:bw Φ (.comp 1 (.nm 0) [1] .seq [(.v 0)] [] (.and [(.call 0 [(.v 0)]),(.cmp .ge (.v 0) (.int 0)),(.cmp .lt (.v 0) (.v 1))])) [some (.tup ds),some (.int n)]=ok (.lst .ow (kA (ds.map (cm n)))):=by
   rw[cR (xs:=[.tup (aB bo ds)]) (by simp) (xi ..) (ud (g:=λd=>.bl (cm n d)) λx _=>⟨[some x,some (.int n)],by simp[bF],by simp,?_⟩) (by simp;exact cc (by left))]
   ·simp[aQ,Function.comp_def,lG,kA]
   ·cases x with
    |int i =>
     simp[h0,dA,dF,cm]
    |_=>simp[h0,dA,dF,cm]
  cases ha:ds.all (cm n)with
  |true =>
   obtain⟨ns,rfl⟩:=fG ha;have mr:ns.length<4000:=by simp at hl;left
   have e:(List.all (List.map (cm n) (af ns)) id)=true:=by rw[List.all_map];exact ha
   simp[mk_eq,cZ,dF,pG,e,K5 mr,cC,ha,fE];simp[Int.natCast_inj]
  |false =>
   have e:(List.all (List.map (cm n) ds) id)=false:=by rw[List.all_map];exact ha
   simp only[mk_eq,cZ,List.length_cons,List.length_nil];simp[dF,pG,e,cC,ha]
 |_=>simp[mk_eq,cZ,dF,cC]
def ur(m:az):Prop:=∀d n,oO d->m [d,.int n]=ok (.bl (tm d n))
noncomputable def gu:ah:=[.ret (.and [(.call 43 [(.v 0),(.v 1)]),(.cmp .eq (.bf .list1 [(.v 0)]) (.bf .cT [(.v 0)]))])]
theorem sW(n:Nat)(f:Fl)(ns:aa):cI (n+1) (.lst f (af ns))=true:=j7 (fD n) ns
theorem y8(ns ms:aa):dt (af ns) (af ms)=decide (ns=ms):=iB (λx y=>ko x y) ns ms
theorem kj(g:Fl->Fl)(d:D)(n:Int):cC (aT g d) n=cC d n:=by
 cases d with
 |tup ds =>
  cases h:ds.all (cm n)with
  |true =>
   obtain⟨ns,rfl⟩:=fG h;simp
  |false =>
   have h2:(aB g ds).all (cm n)=false:=by
    rw[aQ,List.all_map,show(cm n∘aT g)=cm n from funext λd=>lG g n d];exact h
   simp[cC,h,h2]
 |_=>simp[cC]
theorem iZ{g:Fl->Fl}{d:D}(h:oO d):oO (aT g d):=by
 cases d<;>simp_all [oO]
theorem As(Φ:aY)(U5:gI (Φ 43)):ur (mk Φ 2 2 gu):=by
 intro d n hc;have e1:=U5 (aT aW (aT bo d)) n (iZ (iZ hc));rw[kj,kj]at e1;cases d with
 |tup ds =>
  have hl:ds.length<64:=hc;simp only[Bk]at e1;cases ha:cC (.tup ds) n with
  |true =>
   have Q8:=ha;simp only[cC,Bool.and_eq_true]at Q8;obtain⟨ns,rfl⟩:=fG Q8.1;have mr:ns.length<64:=by simpa using hl
   have e2:fA .eq (.lst .ow (af ns)) (.lst .ow (af (sortI ns)))=ok (.bl (decide (ns=sortI ns))):=by
    rw[zp (sW 39 _ _) (sW 39 _ _),FO,y8]
   rw[ha]at e1;simp at e1;simp[mk_eq,gu,e1,qO mr,e2,tm,ha,fE]
  |false =>
   rw[ha]at e1;simp[mk_eq,gu,e1,tm,ha]
 |_=>(simp at e1;simp[mk_eq,gu,e1,tm,cC])
def zG(n:Nat)(l:aa):Prop:=l.Pairwise (· < ·)/\∀h∈l,0<=h/\h<(n:Int)
theorem qQ:∀(l m:aa),(∀x∈l,x∉m)->l.Nodup->l.foldl (λ(m:aa) (k:Int)=>if m.any (· == k)then m else m++[k]) m=m++l
 |[],m,_,_=>by simp
 |x::l,m,h,hn=>by
  have hx:m.any (· == x)=false:=by
   rw[List.any_eq_false];intro y hy z;have:y=x:=by simpa using z
   exact h x aai (this▸hy)
  rw[List.foldl_cons,hx,if_neg Bool.false_ne_true,qQ l (m++[x])]
  ·simp
  ·intro y hy z;rcases List.mem_append.mp z with z|z
   ·exact h y (aag _ hy) z
   ·have:y=x:=by simpa using z
    subst this;exact(List.nodup_cons.mp hn).1 hy
  ·exact(List.nodup_cons.mp hn).2
theorem zG.nodup{n:Nat}{l:aa}(h:zG n l):l.Nodup:=h.1.imp λz=>by left
theorem sr{l:aa}(h:l.Pairwise (· < ·)):sortI l=l:=by
 unfold sortI;apply List.mergeSort_of_pairwise;exact h.imp λz=>by simp;left
theorem zG.tm{n:Nat}{l:aa}(h:zG n l):tm (.tup (af l)) n=true:=by
 have h1:(af l).all (cm n)=true:=by
  unfold af;rw[List.all_map,List.all_eq_true];intro x hx;have:=h.2 x hx;simp[cm,this.1,this.2]
 have h2:qR l=l:=by
  have:=qQ l [] (by simp) h.nodup;rw[List.nil_append]at this;exact this
 simp[DI.tm,cC,h1,fE,h2,sr h.1]
def kH(c:Nat)(p:D->Int->Bool)(m:az):Prop:=∀d n,oO d->m [d,.int n]=if p d n then ok .cj else some (.error c)
noncomputable def kE(f c:Nat):ah:=[.ifs (.not (.call f [(.v 0),(.v 1)])) [.rs c] []]
theorem zt(g:Fl->Fl)(d:D)(n:Int):lp (aT g d) n=lp d n:=by
 cases d<;>simp[lp];rw[aQ,List.all_map,show(dy∘aT g)=dy from funext λd=>jw g d]
theorem D8(Φ:aY){f c:Nat}{p:D->Int->Bool}(hp:∀g d n,p (aT g d) n=p d n)(h:∀d n,oO d->Φ f [d,.int n]=ok (.bl (p d n))):kH c p (mk Φ 2 2 (kE f c)):=by
 intro d n hc;have e1:=h (aT aW (aT bo d)) n (iZ (iZ hc));rw[hp,hp]at e1;cases hd:p d n with
 |true=>rw[hd]at e1;simp[mk_eq,kE,e1]
 |false=>rw[hd]at e1;simp[mk_eq,kE,e1]
noncomputable def iE(ns:aa)(k:Int):Int :=
 let c:=if k<ns.length then ns.getD k.toNat 0 else 0
 if (10:Int) ^ 18<=c then(c - 10 ^ 18).fmod (10 ^ 60)else
  let n:=(c*48271+k*69621+11).fmod 2147483629
  let n:=(n*n).fmod 2147483587
  n*2147483563+(n*n).fmod 2147483563
def n_(m:az):Prop:=∀(ns:aa) (k:Int),0<=k->m [.lst .sc (af ns),.int k]=ok (.int (iE ns k))
noncomputable def eI:ah:=[.asg (.nm 2) (.int 0),.ifs (.cmp .lt (.v 1) (.bf .len [(.v 0)])) [.asg (.nm 2) (.ix (.v 0) (.v 1))] [],.ifs (.cmp .ge (.v 2) (.bin .pow (.int 10) (.int 18))) [.ret (.bin .mod (.bin .sub (.v 2) (.bin .pow (.int 10) (.int 18))) (.bin .pow (.int 10) (.int 60)))] [],.asg (.nm 3) (.bin .mod (.bin .add (.bin .add (.bin .mul (.v 2) (.int 48271)) (.bin .mul (.v 1) (.int 69621))) (.int 11)) (.int 2147483629)),.asg (.nm 3) (.bin .mod (.bin .mul (.v 3) (.v 3)) (.int 2147483587)),.ret (.bin .add (.bin .mul (.v 3) (.int 2147483563)) (.bin .mod (.bin .mul (.v 3) (.v 3)) (.int 2147483563)))]
theorem eT(a:Int){b:Int}(h:0<b):0<=a.fmod b/\a.fmod b<b:=⟨abJ a h,ace a h⟩
theorem zi(Φ:aY)(x:D)(k c:Int)(hx:dF .list x=true)(o:aH):l7 (bI Φ (eI.drop 2) [some x,some (.int k),some (.int c),o])=ok (.int (if (10:Int) ^ 18<=c then(c - 10 ^ 18).fmod (10 ^ 60)else
  let n:=(c*48271+k*69621+11).fmod 2147483629
  let n:=(n*n).fmod 2147483587
  n*2147483563+(n*n).fmod 2147483563)):=by
 have p1:cX .pow (.int 10) (.int 18)=ok (.int (10 ^ 18)):=Hv (by decide);have p2:cX .pow (.int 10) (.int 60)=ok (.int (10 ^ 60)):=Hv (by decide);by_cases h:(10:Int) ^ 18<=c
 ·have h':(1000000000000000000:Int)<=c:=h;simp[eI,p1,p2,h']
 ·have h':¬ (1000000000000000000:Int)<=c:=h;obtain⟨a1,a2⟩:=eT (c*48271+k*69621+11) (b:=2147483629) (by decide);generalize hn:(c*48271+k*69621+11).fmod 2147483629=n at *;obtain⟨a3,a4⟩:=eT (n*n) (b:=2147483587) (by decide);have m1:cX .mul (.int n) (.int n)=ok (.int (n*n)):=gq (qu _ (by left));generalize hm:(n*n).fmod 2147483587=m at *;have m2:cX .mul (.int m) (.int m)=ok (.int (m*m)):=gq (qu _ (by left));simp[eI,p1,h',hn,m1,hm,m2]
theorem Iy(Φ:aY):n_ (mk Φ 2 4 eI):=by
 intro ns k hk;have:=λc=>zi Φ (.lst .sc (af ns)) k c rfl none;by_cases h:k<ns.length
 ·have hg:rn (af ns) k=ok (.int (ns.getD k.toNat 0)):=by
   have hl:k.toNat<ns.length:=by left
   rw[at_of hk (d:=.int (ns.getD k.toNat 0)) (by rw[pE,List.getElem?_eq_getElem hl,Option.map_some,List.getD_eq_getElem?_getD,List.getElem?_eq_getElem hl];rfl)];simp
  have e:l7 (bI Φ eI ([some (D.lst Fl.sc (af ns)),some (D.int k)]++[none,none]))=l7 (bI Φ (eI.drop 2) [some (.lst .sc (af ns)),some (.int k),some (.int (ns.getD k.toNat 0)),none]):=by
   rw[eI,bW,Gv];simp only[G6,Hk,kh,kl];simp only[List.cons_append,List.nil_append,x9,List.length_cons,List.length_nil,Nat.reduceAdd,Nat.reduceLT,sg,List.set_cons_succ,List.set_cons_zero];rw[bW,Dt];simp[h,hg]
  rw[mk_eq (ar:=2) (ds:=[_,_]) rfl];refine(show _=_ from e).trans ?_;rw[this,iE,if_pos h]
 ·have e:l7 (bI Φ eI ([some (D.lst Fl.sc (af ns)),some (D.int k)]++[none,none]))=l7 (bI Φ (eI.drop 2) [some (.lst .sc (af ns)),some (.int k),some (.int 0),none]):=by
   rw[eI,bW,Gv];simp only[G6,Hk,kh,kl];simp only[List.cons_append,List.nil_append,x9,List.length_cons,List.length_nil,Nat.reduceAdd,Nat.reduceLT,sg,List.set_cons_succ,List.set_cons_zero];rw[bW,Dt];simp[h]
  rw[mk_eq (ar:=2) (ds:=[_,_]) rfl];refine(show _=_ from e).trans ?_;rw[this,iE,if_neg h]
noncomputable def jT:CS:=.HK (.cmp .gt (.v 3) (.int 0)) [.par 2 3 (.v 3) (.bin .mod (.v 2) (.v 3))]
def kB:ah:=[.asg (.nm 2) (.bf .abs [(.v 0)]),.asg (.nm 3) (.bf .abs [(.v 1)]),jT,.ifs (.cmp .lt (.v 1) (.int 0)) [.asg (.nm 2) (.bin .sub (.int 0) (.v 2))] [],.ret (.tup [(.bin .fdiv (.v 0) (.v 2)),(.bin .fdiv (.v 1) (.v 2))])]
theorem vi(Φ:aY)(x y:aH):∀(n:Nat) (a b:Nat),b<=n->k_ Φ jT [x,y,some (.int a),some (.int b)]=ok (.nx,[x,y,some (.int (Nat.gcd a b)),some (.int 0)]):=by
 intro n;induction n with
 |zero =>
  intro a b h;have hb:b=0:=by left
  subst hb;rw[jT,oS];exact gA (by simp)
 |succ n ih =>
  intro a b h;by_cases hb:b=0
  ·subst hb;rw[jT,oS];exact gA (by simp)
  ·have fR:=Nat.mod_lt a (show 0<b by left);have e:=ih b (a % b) (by left);have eg:Nat.gcd b (a % b)=Nat.gcd a b:=by rw[Nat.gcd_comm a b,Nat.gcd_rec b a,Nat.gcd_comm]
   rw[eg]at e;rw[jT,oS]at e ⊢;rw[<- e];have oI:0<b:=by left
   have em:((a:Int)).fmod (b:Int)=((a % b:Nat):Int):=by
    rw[Int.fmod_eq_emod_of_nonneg _ (by left)];exact(Int.natCast_emod a b).symm
   have ep:k_ Φ (.par 2 3 (.v 3) (.bin .mod (.v 2) (.v 3))) [x,y,some (.int a),some (.int b)]=ok (.nx,[x,y,some (.int b),some (.int ((a % b:Nat):Int))]):=by
    rw[Mr];simp[hb,em]
   exact mP (by simp[oI,ep])
theorem D7(Φ:aY):i7 (mk Φ 2 4 kB):=by
 intro t b hb h;obtain⟨e1,e2⟩:=qM (t:=t) hb;have d1:=my (t:=t) hb h t;have d2:=my (t:=t) hb h b;have hl:=vi Φ (some (.int t)) (some (.int b)) b.natAbs t.natAbs b.natAbs (aam _);rw[qD,<- e1,<- e2];by_cases hn:b<0
 ·have ed:0 - (Nat.gcd t.natAbs b.natAbs:Int)=fm t b:=by simp[fm,hn,Int.gcd]
  have ed':-(Nat.gcd t.natAbs b.natAbs:Int)=fm t b:=by simp[fm,hn,Int.gcd]
  simp[mk_eq,kB,hl,hn,ed',d1,d2]
 ·have ed:(Nat.gcd t.natAbs b.natAbs:Int)=fm t b:=by simp[fm,hn,Int.gcd]
  simp[mk_eq,kB,hl,hn,ed,d1,d2]
noncomputable def jQ(qs:au)(h:Int):Rat:=qs.getD h.toNat 0
theorem mH{h:Int}(h0:0<=h)(h1:h<qs.length):qs[h.toNat]?=some (jQ qs h)/\jQ qs h∈qs:=by
 have hl:h.toNat<qs.length:=by left
 have e:qs[h.toNat]?=some (jQ qs h):=by
  unfold jQ;rw[List.getD_eq_getElem?_getD,List.getElem?_eq_getElem hl];rfl
 exact⟨e,aaD e⟩
theorem Qe{h:Int}(h0:0<=h)(h1:h<qs.length):rn (bp qs) h=ok (qD (jQ qs h)):=by
 rw[at_of h0 (d:=qD (jQ qs h)) (by rw[Eh,(mH h0 h1).1];rfl)];simp
theorem FL(ps qs:au):dt (bp ps) (bp qs)=decide (ps=qs):=iB Cf ps qs
theorem Jl(n:Nat)(f:Fl)(qs:au):cI (n+2) (.lst f (bp qs))=true:=j7 (wY n) qs
theorem pb{q:Rat}(h:0<q):0<q.num:=by
 have:=(Rat.lt_iff 0 q).mp h;simpa using this
theorem zG.len{n:Nat}{l:aa}(h:zG n l):l.length<=n:=by
 have hn:(l.map Int.toNat).Nodup:=by
  unfold List.Nodup;rw[List.pairwise_map];refine h.1.imp_of_mem λha hb z e=>?_;have:=h.2 _ ha;have:=h.2 _ hb;left
 have hs:(l.map Int.toNat) ⊆ List.range n:=λx hx=>by
  obtain⟨y,hy,rfl⟩:=List.mem_map.mp hx;have:=h.2 y hy;rw[List.mem_range];left
 have:=hn.length_le_of_subset hs;simpa using this
theorem zG.cL{n:Nat}{l:aa}(h:zG n l)(hn:n<=12):oO (.tup (af l)):=by
 have:=h.len;show(af l).length<64;simp;left
theorem wm{t b:Int}{k:Nat}(h0:b≠0)(h1:t.natAbs<2 ^ k)(h2:b.natAbs<2 ^ k):Sm k (Rat.divInt t b):=o6 h0 h1 h2
theorem jA{t b:Int}(ht:0<t)(hb:0<b):0<Rat.divInt t b:=by
 rw[Rat.divInt_eq_div];have h1:(0:Rat)<(t:Rat):=by
  have:=abK (a:=0) (b:=t);simpa using this.mpr ht
 have h2:(0:Rat)<(b:Rat):=by
  have:=abK (a:=0) (b:=b);simpa using this.mpr hb
 rw[Rat.div_def];exact Rat.mul_pos h1 (Rat.inv_pos.mpr h2)
theorem Sm.neg{k:Nat}{q:Rat}(h:Sm k q):Sm k (-q):=⟨by simpa using h.1,h.2⟩
theorem Sm.zero(k:Nat)(h:1<=k):Sm k 0:=by
 have:Sm 1 (0:Rat):=by constructor<;>decide
 exact this.mono h
theorem Sm.sum{k:Nat}:∀{qs:au},(∀q∈qs,Sm k q)->Sm (1+(k+1)*qs.length) qs.sum
 |[],_=>Sm.zero _ (by simp)
 |q::qs,h=>by
  have h1:=h q aai;have h2:=Sm.sum (qs:=qs) λp hp=>h p (aag _ hp);rw[List.sum_cons];refine(h1.add h2).mono ?_;rw[List.length_cons,Nat.mul_succ];left
noncomputable def hZ(l:aa)(f:Int->Rat):Rat:=(l.map f).sum
@[simp]theorem MT(f:Int->Rat):hZ [] f=0:=rfl
theorem gi(h:Int)(l:aa)(f:Int->Rat):hZ (h::l) f=f h+hZ l f:=rfl
theorem jr{l:aa}{f g:Int->Rat}(h:∀x∈l,f x=g x):hZ l f=hZ l g:=by
 unfold hZ;rw[List.map_congr_left h]
theorem Ae(l:aa)(f g:Int->Rat):hZ l (λh=>f h+g h)=hZ l f+hZ l g:=by
 induction l with
 |nil=>simp[Rat.add_zero]
 |cons h l ih=>rw[gi,gi,gi,ih];grind
theorem sj(c:Rat)(l:aa)(f:Int->Rat):hZ l (λh=>c*f h)=c*hZ l f:=by
 induction l with
 |nil=>simp[Rat.mul_zero]
 |cons h l ih=>rw[gi,gi,ih];grind
noncomputable abbrev Row:=Rat×aa
abbrev aC:=List Row
def rD(r:Row):D:=.tup [qD r.1,.tup (af r.2)]
@[simp]theorem Jv(g:Fl->Fl)(r:Row):aT g (rD r)=rD r:=by unfold rD;simp
@[simp]theorem Kg(g:Fl->Bool)(r:Row):aR g (rD r)=false:=by unfold rD;simp
noncomputable def bM(rs:aC):ab:=rs.map rD
@[simp]theorem Eb(rs:aC):(bM rs).length=rs.length:=aa_ ..
@[simp]theorem j8(g:Fl->Fl)(rs:aC):aB g (bM rs)=bM rs:=cw g (Jv g) rs
@[simp]theorem O2(g:Fl->Bool)(rs:aC):aP g (bM rs)=false:=b7 g (Kg g) rs
theorem NN(n:Nat)(r:Row):cI (n+2) (rD r)=true:=by
 unfold rD;rw[mj,List.all_cons,List.all_cons,wY n];have:cI (n+1) (.tup (af r.2))=true:=by
  rw[mj];exact j7 (λ_=>by cases n<;>rfl) r.2
 rw[this];rfl
theorem Cg(a b:aa):dt (af a) (af b)=decide (a=b):=iB (λx y=>by show(x==y)=_;rfl) a b
theorem PH(r s:Row):lJ (rD r) (rD s)=decide (r=s):=by
 unfold rD;show(lJ (qD r.1) (qD s.1)&&(dt (af r.2) (af s.2)&&true))=_;rw[Cf,Cg,Bool.and_true];have:decide (r=s)=decide (r.1=s.1/\r.2=s.2):=by
  congr 1;exact propext ⟨λh=>by rw[h];exact⟨rfl,rfl⟩,λh=>Prod.ext h.1 h.2⟩
 rw[this,<- Bool.decide_and]
theorem FK(r s:aC):dt (bM r) (bM s)=decide (r=s):=iB PH r s
def bN(n:Nat)(rs:aC):D:=.tup [.int n,.lst .fz (bM rs)]
def rK(rs:aC):Prop:=∃W:Nat,0<W/\W<64/\∀r∈rs,r.1.den∣W
def Rw(n:Nat)(l:aa):Prop:=l.Nodup/\l.length<=n/\∀h∈l,0<=h/\h<(n:Int)
theorem zG.rw{n:Nat}{l:aa}(h:zG n l):Rw n l:=⟨h.nodup,h.len,h.2⟩
structure Dp(P:aa->Prop)(k n:Nat)(rs:aC):Prop where
 n1:1<=n
 n2:n<=12
 lI:k*(rs.length+1)<=66
 fin:k*(rs.length+1)<=60\/rK rs
 len:rs.length<=1000
 lot:∀r∈rs,P r.2
 pos:∀r∈rs,0<r.1
 sm:∀r∈rs,Sm k r.1
 one:(rs.map (·.1)).sum=1
 rise:rF (rs.map (·.2))
abbrev Dr(k n:Nat)(rs:aC):Prop:=Dp (zG n) k n rs
variable {rs:aC}
theorem Dp.imp{P Q:aa->Prop}{k n:Nat}(I:Dp P k n rs)(h:∀r∈rs,P r.2->Q r.2):Dp Q k n rs:=⟨I.n1,I.n2,I.lI,I.fin,I.len,λr hr=>h r hr (I.lot r hr),I.pos,I.sm,I.one,I.rise⟩
noncomputable def dM(rs:aC):au:=rs.map (·.1)
section
variable {P:aa->Prop}{k n:Nat}{rs:aC}(I:Dp P k n rs)
include I
theorem Dp.GJ:rQ k (dM rs):=⟨λq hq=>by
 obtain⟨r,hr,rfl⟩:=List.mem_map.mp hq;exact I.sm r hr,by
  have:=I.lI;have h:k*(dM rs).length<=k*(rs.length+1):=aaH _ (by simp[dM]);left,by simp[dM];exact I.len⟩
omit I in
theorem ni{W:Nat}:∀(qs:au) (b:Nat),b∣W->(∀q∈qs,q.den∣W)->qs.foldl (λb q=>Nat.lcm b q.den) b∣W
 |[],_,h,_=>h
 |q::qs,b,h,hq=>ni qs _ (Nat.lcm_dvd h (hq q aai)) λp hp=>hq p (aag _ hp)
theorem Dp.bot:0<bH (dM rs)/\bH (dM rs)<2 ^ 61/\∀q∈dM rs,q.den∣bH (dM rs):=by
 obtain⟨a,b,c⟩:=I.GJ.lcm;refine⟨a,?_,c⟩;rcases I.fin with f|⟨W,w0,w1,w2⟩
 ·refine aal b (aaw (by decide) ?_);have h:k*(dM rs).length<=k*(rs.length+1):=aaH _ (by simp[dM]);left
 ·have:bH (dM rs)∣W:=ni _ 1 (Nat.one_dvd _) λq hq=>by
   obtain⟨r,hr,rfl⟩:=List.mem_map.mp hq;exact w2 r hr
  exact aaE (abr w0 this) (aal w1 (by decide))
theorem Dp.top{r:Row}(hr:r∈rs):(ba (bH (dM rs)) r.1).natAbs<2 ^ 64:=by
 obtain⟨a,b,c⟩:=I.GJ.lcm;have s:=I.sm r hr;unfold ba;rw[Int.natAbs_mul,Int.fdiv_eq_ediv_of_nonneg _ (by left),<- Int.natCast_ediv,Int.natAbs_natCast];have h4:(dM rs).length=rs.length:=by simp[dM]
 have h3:=I.lI;rcases I.fin with f|⟨W,w0,w1,w2⟩
 ·have h1:bH (dM rs) / r.1.den<2 ^ (1+k*(dM rs).length):=aaE (ab0 _ _) b;have h2:=bq s.1 h1;refine aal h2 (aaw (by decide) ?_);rw[h4];rw[Nat.mul_succ]at f;left
 ·have:bH (dM rs)∣W:=ni _ 1 (Nat.one_dvd _) λq hq=>by
   obtain⟨r,hr,rfl⟩:=List.mem_map.mp hq;exact w2 r hr
  have h1:bH (dM rs) / r.1.den<2 ^ 6:=aaE (ab0 _ _) (aaE (abr w0 this) w1);have h2:=bq s.1 h1;refine aal h2 (aaw (by decide) ?_);have hl:1<=rs.length:=List.length_pos_of_mem hr;have:k*2<=k*(rs.length+1):=aaH _ (by left);left
end
def n6(m:az):Prop:=∀(r:Row) (n:Nat),n<=12->Rw n r.2->0<r.1->m [rD r,.int n]=ok (.bl true)
noncomputable def kD:ah:=[.ifs (.or [(.not (.rN (.v 0) .tuple)),(.cmp .ne (.bf .len [(.v 0)]) (.int 2))]) [.ret (.bl false)] [],.ifs (.not (.call 43 [(.ix (.v 0) (.int 1)),(.v 1)])) [.ret (.bl false)] [],.ret (.and [(.call 3 [(.ix (.v 0) (.int 0))]),(.cmp .gt (.ix (.ix (.v 0) (.int 0)) (.int 0)) (.int 0))])]
theorem Rw.J2{n:Nat}{l:aa}(h:Rw n l):cC (.tup (af l)) n=true:=by
 have h1:(af l).all (cm n)=true:=by
  unfold af;rw[List.all_map,List.all_eq_true];intro x hx;have:=h.2.2 x hx;simp[cm,this.1,this.2]
 have h2:qR l=l:=by
  have:=qQ l [] (by simp) h.1;rw[List.nil_append]at this;exact this
 simp[cC,h1,fE,h2]
theorem Rw.cL{n:Nat}{l:aa}(h:Rw n l)(hn:n<=12):oO (.tup (af l)):=by
 have:=h.2.1;show(af l).length<64;simp;left
theorem Ar(Φ:aY)(h3:eD (Φ 3))(U5:gI (Φ 43)):n6 (mk Φ 2 2 kD):=by
 intro r n hn hl hp;have e1:=U5 (.tup (af r.2)) n (hl.cL hn);rw[hl.J2]at e1;have e2:=h3 (qD r.1);rw[xE]at e2;have Uw:=pb hp;have e3:rD r=.tup [qD r.1,.tup (af r.2)]:=rfl;have e4:qD r.1=.tup [.int r.1.num,.int r.1.den]:=rfl;simp[mk_eq,kD,e3,dF,e1,e2];simp[e4,Uw]
theorem Ec(pI:Φ 1022=L9){a b:aa}(h:HT.lexLt a b=true):Φ 1022 [.tup (af a),.tup (af b)]=ok (.bl false):=by
 rw[pI];show(match intsOf (af a)with|some ns=>(match intsOf (af b)with|some ms=>ok (D.bl (!HT.lexLt ns ms))|none=>none)|none=>none)=_;unfold af;rw[bh,bh];show ok (D.bl (!HT.lexLt a b))=_;rw[h];rfl
def lN(m:az):Prop:=∀(rs:aC),1<=rs.length->rF (rs.map (·.2))->m [.lst .fz (bM rs)]=ok (.bl true)
noncomputable def DK:ah:=[.ifs (.b9 1022 [(.ix (.v 1) (.int 1)),(.ix (.v 2) (.int 1))]) [.ret (.bl false)] []]
def fK:ah:=[.fr (.tp [1,2]) (.ux 1000 [(.v 0),(.b9 1020 [(.v 0),(.int 1)])]) DK,.ret (.bl true)]
theorem wx(Φ:aY)(pI:Φ 1022=L9)(c0:aH):∀(rs:aC) (r:Row) (c1 c2:aH),rF ((r::rs).map (·.2)) ->
  ∃VC Lr,dN (λd ρ=>cv (.tp [1,2]) d ρ) (λρ=>bI Φ DK ρ) (List.zipWith (λx y=>D.tup [x,y]) (bM (r::rs)) (bM rs)) [c0,c1,c2]=ok (.nx,[c0,VC,Lr])
 |[],r,c1,c2,_=>⟨c1,c2,rfl⟩
 |s::rs,r,c1,c2,h=>by
  have h':=List.pairwise_cons.mp h;obtain⟨VC,Lr,ih⟩:=wx Φ pI c0 rs s (some (rD r)) (some (rD s)) h'.2;have hl:=h'.1 s.2 (by simp);have e:=Ec pI hl;refine⟨VC,Lr,dH (ρ1:=[c0,some (rD r),some (rD s)]) (by simp) (ρ2:=[c0,some (rD r),some (rD s)]) ?_ ih⟩;have e1:∀r:Row,rD r=.tup [qD r.1,.tup (af r.2)]:=λ_=>rfl;simp[DK,e1,e]
theorem sJ(Φ:aY)(gm:Φ 1000=oq)(Pn:Φ 1020=cutD true)(pI:Φ 1022=L9):lN (mk Φ 1 3 fK):=by
 intro rs h1 hr;obtain⟨r,rs,rfl⟩:∃r rL,rs=r::rL:=by
  cases rs with
  |nil=>simp at h1
  |cons r rs=>exact⟨r,rs,rfl⟩
 obtain⟨c1,c2,e⟩:=wx Φ pI (some (.lst .fz (bM (r::rs)))) rs r none none hr;have e1:Φ 1020 [.lst .fz (bM (r::rs)),.int 1]=ok (.lst .ow (bM rs)):=by
  rw[Pn];show(if (0:Int)<=1/\(1:Int)<=((bM (r::rs)).length:Nat)then ok (D.lst .ow (aB bo (oN true (1:Int).toNat (bM (r::rs)))))else none)=_;rw[if_pos ⟨by decide,by simp;left⟩];show ok (D.lst .ow (aB bo (bM rs)))=_;simp
 have e2:Φ 1000 [.lst .fz (bM (r::rs)),.lst .ow (bM rs)]=ok (.lst .ow (List.zipWith (λx y=>D.tup [x,y]) (bM (r::rs)) (bM rs))):=by rw[gm];rfl
 have e3:aB aW (List.zipWith (λx y=>D.tup [x,y]) (bM (r::rs)) (bM rs))=List.zipWith (λx y=>D.tup [x,y]) (bM (r::rs)) (bM rs):=by
  have:=cz aW (bM (r::rs)) (bM rs);rw[j8,j8]at this;exact this
 have hit:cJ Φ (.ux 1000 [(.v 0),(.b9 1020 [(.v 0),(.int 1)])]) [some (.lst .fz (bM (r::rs))),none,none]=ok (List.zipWith (λx y=>D.tup [x,y]) (bM (r::rs)) (bM rs),[some (.lst .fz (bM (r::rs))),none,none]):=by
  show bd (cu Φ [(.v 0),(.b9 1020 [(.v 0),(.int 1)])] [some (.lst .fz (bM (r::rs))),none,none]) _=_;have:cu Φ [(.v 0),(.b9 1020 [(.v 0),(.int 1)])] [some (.lst .fz (bM (r::rs))),none,none]=ok [.lst .fz (bM (r::rs)),.lst .ow (bM rs)]:=by simp[e1]
  rw[this,cx,e2,cx];show ok (aB aW (List.zipWith (λx y=>D.tup [x,y]) (bM (r::rs)) (bM rs)),if aP bJ [D.lst .fz (bM (r::rs)),.lst .ow (bM rs)]then _ else _)=_;rw[e3];simp
 have hf:=e9 (Φ:=Φ) (t:=.tp [1,2]) (b:=DK) hit e;simp[mk_eq,fK,hf]
def nc(rs:aC):ab:=rs.map λr=>.tup (af r.2)
@[simp]theorem m9(g:Fl->Fl)(rs:aC):aB g (nc rs)=nc rs:=cw g (λr=>by simp) rs
@[simp]theorem Kd(g:Fl->Bool)(rs:aC):aP g (nc rs)=false:=b7 g (λr=>by simp) rs
def jR(b:Nat)(rs:aC):ab:=rs.map λr=>.tup [.int (ba b r.1),.tup (af r.2)]
@[simp]theorem s9(g:Fl->Fl)(b:Nat)(rs:aC):aB g (jR b rs)=jR b rs:=cw g (λr=>by simp) rs
@[simp]theorem O1(g:Fl->Bool)(b:Nat)(rs:aC):aP g (jR b rs)=false:=b7 g (λr=>by simp) rs
noncomputable def FR:CE:=.comp 2 (.tp [0,1]) [] .seq [(.v 0)] [] (.v 0)
noncomputable def FP:CE:=.comp 2 (.tp [0,1]) [] .seq [(.v 0)] [] (.v 1)
theorem P6(Φ:aY)(h:rs.length<=1000)(r:a_):bw Φ FR (some (.lst .fz (bM rs))::r)=ok (.lst .ow (bp (dM rs))):=by
 unfold FR;rw[cR (xs:=[.lst .fz (bM rs)]) (items:=bM rs) (ds:=rs.map λr=>qD r.1) (by simp) (by rw[fF];simp) (bO λr hr=>?_) (by simp;exact cc (by left))]
 ·simp[bp,dM,aQ]
 ·exact⟨[some (qD r.1),some (.tup (af r.2))],by simp[bF,rD],by simp,by simp⟩
theorem N7(Φ:aY)(h:rs.length<=1000)(r:a_):bw Φ FP (some (.lst .fz (bM rs))::r)=ok (.lst .ow (nc rs)):=by
 unfold FP;rw[cR (xs:=[.lst .fz (bM rs)]) (items:=bM rs) (ds:=rs.map λr=>.tup (af r.2)) (by simp) (by rw[fF];simp) (bO λr hr=>?_) (by simp;exact cc (by left))]
 ·exact aaU (λx=>ok (D.lst .ow x)) (m9 l5 rs)
 ·exact⟨[some (qD r.1),some (.tup (af r.2))],by simp[bF,rD],by simp,by simp⟩
def gw(m:az):Prop:=∀(rs:aC) k,rQ k (dM rs)->m [.lst .fz (bM rs)]=ok (.tup [.int (bH (dM rs)),.lst .ow (jR (bH (dM rs)) rs)])
def i4:ah:=[.asg (.nm 1) FR,.asg (.nm 2) FP,.asg (.nm 3) (.call 9 [(.v 1)]),.ret (.tup [(.v 3),(.b9 1040 [(.call 10 [(.v 1),(.v 3)]),(.v 2)])])]
theorem yt(Φ:aY)(h9:eJ (Φ 9))(Kq:iG (Φ 10))(Pm:Φ 1040=N5):gw (mk Φ 1 4 i4):=by
 intro rs k hs;have hl:rs.length<=1000:=by have:=hs.len;simpa [dM]using this
 have e1:=P6 Φ hl;have e2:=N7 Φ hl;have e3:=λf=>h9 f (dM rs) k hs;have e4:=λf=>Kq f (dM rs) k (bH (dM rs)) hs hs.ET;generalize bH (dM rs)=b at *;have e5:Φ 1040 [.lst .ow (af ((dM rs).map (ba b))),.lst .al (nc rs)]=ok (.lst .ow (jR b rs)):=by
  rw[Pm];show ok (D.lst .ow (aB bo (List.zipWith pairD (af ((dM rs).map (ba b))) (nc rs))))=_;rw[cz,b_,m9];unfold dM af nc jR;rw[List.map_map,List.map_map,List.zipWith_map,List.zipWith_self];rfl
 simp[mk_eq,i4,Of Φ FR _ rfl,Of Φ FP _ rfl,e1,e2,e3,e4,e5]
noncomputable def K9:CE:=.comp 2 (.tp [0,1]) [] .seq [(.ix (.v 1) (.int 1))] [] (.v 0)
def jm(m:az):Prop:=∀(rs:aC) k,rQ k (dM rs)->(dM rs).sum=1->m [.lst .fz (bM rs)]=ok (.bl true)
def eC:ah:=[.asg (.nm 1) (.call 14 [(.v 0)]),.ret (.cmp .eq (.bf .gY [K9]) (.ix (.v 1) (.int 0)))]
theorem z6{b:Nat}(h:∀q∈qs,q.den∣b)(h1:qs.sum=1):(qs.map (ba b)).sum=(b:Int):=by
 have:=mS h;rw[h1,Rat.one_mul,<- Rat.intCast_natCast]at this;exact Rat.intCast_inj.mp this
theorem oE(Φ:aY)(Ko:gw (Φ 14)):jm (mk Φ 1 2 eC):=by
 intro rs k hs h1;have hl:rs.length<=1000:=by have:=hs.len;simpa [dM]using this
 have e1:=Ko rs k hs;have hb:=hs.lcm;have e2:=z6 hb.2.2 h1;generalize bH (dM rs)=b at *;have e3:∀c0,bw Φ K9 [c0,some (.tup [.int b,.lst .ow (jR b rs)])]=ok (.lst .ow (af ((dM rs).map (ba b)))):=λc0=>by
  unfold K9;rw[cR (xs:=[.lst .al (jR b rs)]) (items:=jR b rs) (ds:=rs.map λr=>.int (ba b r.1)) (by simp) (by rw[fF];simp) (bO λr hr=>?_) (by simp;exact cc (by left))]
  ·simp[af,dM,aQ]
  ·exact⟨[some (.int (ba b r.1)),some (.tup (af r.2))],by simp[bF],by simp,by simp⟩
 have e4:kM .gY [.lst .ow (af ((dM rs).map (ba b)))]=ok (.int b):=by
  show(match intsOf (af ((dM rs).map (ba b)))with|some ns=>ok (D.int ns.sum)|none=>none)=_;unfold af;rw[bh];show ok (D.int ((dM rs).map (ba b)).sum)=_;rw[e2]
 have e5:fA .eq (.int (b:Int)) (.int (b:Int))=ok (.bl true):=by
  show(if cI 40 (.int (b:Int))&&cI 40 (.int (b:Int))then ok (D.bl ((b:Int)==(b:Int)))else none)=_;simp[cI]
 simp[mk_eq,eC,e1,e3,e4,e5]
noncomputable def mf:ah:=[.ifs (.not (.call 12 [(.v 3),(.v 1)])) [.ret (.bl false)] []]
def gG:ah:=[.ifs (.or [(.not (.rN (.v 0) .tuple)),(.cmp .ne (.bf .len [(.v 0)]) (.int 2))]) [.ret (.bl false)] [],.asg (.nm 1) (.ix (.v 0) (.int 0)),.asg (.nm 2) (.ix (.v 0) (.int 1)),.ifs (.or [(.not (.call 0 [(.v 1)])),(.cmp .lt (.v 1) (.int 1)),(.cmp .gt (.v 1) (.glo "MOST_HOUSES" 12))]) [.ret (.bl false)] [],.ifs (.not (.rN (.v 2) .list)) [.ret (.bl false)] [],.fr (.nm 3) (.seq (.v 2)) mf,.ret (.and [(.call 44 [(.v 2)]),(.call 15 [(.v 2)])])]
def Qk(m:az):Prop:=∀k n rs,Dr k n rs->m [bN n rs]=ok (.bl true)
def uu(m:az):Prop:=∀k n rs,Dp (Rw n) k n rs->m [bN n rs]=ok (.bl true)
theorem nU(Φ:aY)(vy:n6 (Φ 12)){n:Nat}(hn:n<=12)(c0 c2:aH):∀(rs:aC) (c3:aH),(∀r∈rs,Rw n r.2/\0<r.1)->∃F6,dN (λd ρ=>cv (.nm 3) d ρ) (λρ=>bI Φ mf ρ) (bM rs) [c0,some (.int n),c2,c3]=ok (.nx,[c0,some (.int n),c2,F6])
 |[],c3,_=>⟨c3,rfl⟩
 |r::rs,c3,h=>by
  obtain⟨F6,ih⟩:=nU Φ vy hn c0 c2 rs (some (rD r)) λs hs=>h s (aag _ hs);have h1:=h r aai;have e:=vy r n hn h1.1 h1.2;refine⟨F6,dH (ρ1:=[c0,some (.int n),c2,some (rD r)]) (by simp) (ρ2:=[c0,some (.int n),c2,some (rD r)]) ?_ ih⟩;simp[mf,e]
theorem Dp.some{P:aa->Prop}{k n:Nat}(I:Dp P k n rs):1<=rs.length:=by
 cases rs with
 |nil=>have:=I.one;simp at this
 |cons r rs=>simp
theorem uW(Φ:aY)(h0:d_ (Φ 0))(vy:n6 (Φ 12))(ZW:jm (Φ 15))(ZS:lN (Φ 44)):uu (mk Φ 1 4 gG):=by
 intro k n rs I;have n1:=I.n1;have n2:=I.n2;have e1:=ZW rs k I.GJ I.one;have e2:=ZS rs I.some I.rise;have e3:Φ 0 [.int (n:Int)]=ok (.bl true):=by rw[h0];rfl
 obtain⟨c3,e4⟩:=nU Φ vy n2 (some (bN n rs)) (some (.lst .fz (bM rs))) rs none λr hr=>⟨I.lot r hr,I.pos r hr⟩
 have hit:cJ Φ (.seq (.v 2)) [some (bN n rs),some (.int n),some (.lst .fz (bM rs)),none]=ok (bM rs,[some (bN n rs),some (.int n),some (.lst .fz (bM rs)),none]):=by
  rw[Bx (f:=.fz) (ds:=bM rs) (by simp)];simp
 have hf:=e9 (Φ:=Φ) (t:=.nm 3) (b:=mf) hit e4;have c1:fA .lt (.int (n:Int)) (.int 1)=ok (.bl false):=by
  show ok (D.bl (decide ((n:Int)<1)))=_;rw[decide_eq_false (by left)]
 have c2:fA .gt (.int (n:Int)) (.int 12)=ok (.bl false):=by
  show ok (D.bl (decide ((12:Int)<n)))=_;rw[decide_eq_false (by left)]
 have X6:∀ds,dF .tuple (.tup ds)=true:=λ_=>rfl;have RP:∀f ds,dF .list (.lst f ds)=true:=λ_ _=>rfl;unfold bN at hf ⊢;simp[mk_eq,gG,X6,RP,e3,c1,c2,hf,e2,e1]
noncomputable def Lc:CE:=.comp 2 (.tp [0,1]) [0] .seq [(.ix (.v 0) (.int 1))] [] (.call 11 [(.v 1),(.ix (.v 2) (.int 0))])
def eU:ah:=[.ret (.and [(.call 45 [(.v 0)]),(.bf .all1 [Lc])])]
theorem qf(Φ:aY)(ZX:ur (Φ 11))(U4:uu (Φ 45)):Qk (mk Φ 1 1 eU):=by
 intro k n rs I;have e1:=U4 k n rs (I.imp λ_ _ h=>h.rw);have e2:bw Φ Lc [some (bN n rs)]=ok (.lst .ow (kA (rs.map λ_=>true))):=by
  unfold Lc;rw[cR (xs:=[.lst .fz (bM rs)]) (items:=bM rs) (ds:=rs.map λ_=>.bl true) (by simp[bN]) (by rw[fF];simp) (bO λr hr=>?_) (by simp;exact cc (by have:=I.len;left))]
  ·simp[kA,aQ]
  ·have hl:=I.lot r hr;have e:=ZX (.tup (af r.2)) n (hl.cL I.n2);rw[hl.tm]at e;exact⟨[some (qD r.1),some (.tup (af r.2)),some (bN n rs)],by simp[bF,rD,bN],by simp,by simp[bN,e]⟩
 have e3:kM .all1 [.lst .ow (kA (rs.map λ_=>true))]=ok (.bl true):=by
  show(match iF (kA (rs.map λ_=>true))with|some bs=>ok (D.bl (bs.all id))|none=>none)=_;unfold kA;rw[ll];show ok (D.bl ((rs.map λ_=>true).all id))=_;congr 2;simp
 have m1:aT aW (bN n rs)=bN n rs:=by simp[bN]
 have m2:aT bo (bN n rs)=bN n rs:=by simp[bN]
 simp[mk_eq,eU,m1,m2,e1,e2,e3]
def n9(m:az):Prop:=∀k n rs,Dr k n rs->m [bN n rs]=ok .cj
noncomputable def dm:ah:=[.ifs (.not (.call 16 [(.v 0)])) [.rs 1] []]
theorem lV(Φ:aY)(ZV:Qk (Φ 16)):n9 (mk Φ 1 1 dm):=by
 intro k n rs I;have e1:=ZV k n rs I;have m1:aT aW (bN n rs)=bN n rs:=by simp[bN]
 have m2:aT bo (bN n rs)=bN n rs:=by simp[bN]
 simp[mk_eq,dm,m1,m2,e1]
noncomputable def Nv(ws xs:au):au:=(ws.zip xs).map λp=>p.1*p.2
structure Gs(j n:Nat)(ws xs:au):Prop where
 l1:ws.length=n
 l2:xs.length=n
 s1:∀q∈ws,Sm j q
 s2:∀q∈xs,Sm j q
 jj:j<=100
theorem Gs.GJ{j n:Nat}{ws xs:au}(G:Gs j n ws xs)(hn:n<=12):rQ (j+j) (Nv ws xs):=by
 have hl:(Nv ws xs).length=n:=by unfold Nv;rw[List.length_map,List.length_zip,G.l1,G.l2,Nat.min_self]
 have hj:=G.jj;refine⟨λq hq=>?_,?_,by left⟩
 ·obtain⟨p,hp,rfl⟩:=List.mem_map.mp hq;have m:=aaO hp;exact(G.s1 _ m.1).mul (G.s2 _ m.2)
 ·rw[hl];have:(j+j)*n<=200*12:=ab7 (by left) hn;left
theorem Gs.at{j n:Nat}{ws xs:au}(G:Gs j n ws xs){h:Int}(h0:0<=h)(h1:h<n):jQ (Nv ws xs) h=jQ ws h*jQ xs h:=by
 obtain⟨g1,_⟩:=mH (qs:=ws) h0 (by rw[G.l1];exact h1);obtain⟨g2,_⟩:=mH (qs:=xs) h0 (by rw[G.l2];exact h1);unfold jQ at *;unfold Nv;rw[List.getD_eq_getElem?_getD,List.getElem?_map,List.zip,List.getElem?_zipWith,g1,g2];rfl
noncomputable def y9:CE:=.comp 2 (.tp [0,1]) [] (.b9 1000) [(.ix (.v 2) (.int 1)),(.ix (.v 1) (.int 1))] [] (.bin .mul (.ix (.v 0) (.int 0)) (.v 1))
def i6:ah:=[.asg (.nm 2) (.call 14 [(.v 0)]),.asg (.nm 3) (.bf .gY [y9]),.ret (.call 2 [(.v 3),(.bin .mul (.ix (.v 2) (.int 0)) (.ix (.v 1) (.int 0)))])]
def gX(b:Nat)(rs:aC)(gs:aa):Int:=((rs.zip gs).map λp=>ba b p.1.1*p.2).sum
def pZ(m:az):Prop:=∀{P:aa->Prop} k n rs gs (gb:Nat),Dp P k n rs->gs.length=rs.length->0<gb->gb<2 ^ 8000->m [.lst .fz (bM rs),.tup [.int gb,.lst .fz (af gs)]]=ok (qD (Rat.divInt (gX (bH (dM rs)) rs gs) ((bH (dM rs):Int)*gb)))
theorem yu(Φ:aY)(h2:cH (Φ 2))(Ko:gw (Φ 14))(gm:Φ 1000=oq):pZ (mk Φ 2 4 i6):=by
 intro P k n rs gs gb I hl g0 g1;have e1:=Ko rs k I.GJ;obtain⟨b0,b1,_⟩:=I.bot;have ht:=λr hr=>I.top (r:=r) hr;generalize bH (dM rs)=b at *;have hz:df Φ (.b9 1000) [.lst .al (jR b rs),.lst .fz (af gs)]=ok ((rs.zip gs).map λp=>.tup [.tup [.int (ba b p.1.1),.tup (af p.1.2)],.int p.2]):=by
  show bd (Φ 1000 _) i_=_;rw[gm];show ok (aB aW (List.zipWith (λx y=>D.tup [x,y]) (jR b rs) (af gs)))=_;have:=cz aW (jR b rs) (af gs);rw[s9,b_]at this;refine aaU ok (aco this ?_);unfold jR af;rw[List.zipWith_map,List.zip,List.map_zipWith];rfl
 have k1:∀a b',bw Φ y9 [a,some (.tup [.int gb,.lst .fz (af gs)]),some (.tup [.int b,.lst .ow (jR b rs)]),b']=ok (.lst .ow (af ((rs.zip gs).map λp=>ba b p.1.1*p.2))):=λa b'=>by
  unfold y9;rw[cR (xs:=[.lst .al (jR b rs),.lst .fz (af gs)]) (by simp) hz (ds:=(rs.zip gs).map λp=>.int (ba b p.1.1*p.2)) (bO λp hp=>?_) (by simp;exact cc (by have:=I.len;left))]
  ·simp[af,aQ]
  ·have m:=aaO hp;have e:=i5 (j:=p.2) (ht p.1 m.1);exact⟨[some (.tup [.int (ba b p.1.1),.tup (af p.1.2)]),some (.int p.2)],by simp[bF],by simp,by simp[e]⟩
 have k2:kM .gY [.lst .ow (af ((rs.zip gs).map λp=>ba b p.1.1*p.2))]=ok (.int (gX b rs gs)):=by
  show(match intsOf (af ((rs.zip gs).map λp=>ba b p.1.1*p.2))with|some ns=>ok (D.int ns.sum)|none=>none)=_;unfold af;rw[bh];rfl
 have Fv:((b:Int)).natAbs<2 ^ 64:=by rw[Int.natAbs_natCast];exact aal b1 (by decide)
 have k3:=i5 (j:=(gb:Int)) Fv;have k4:=h2.1 (gX b rs gs) ((b:Int)*gb) (by
  have:(0:Int)<(b:Int)*gb:=Int.mul_pos (by left) (by left);left) (by
  rw[Int.natAbs_mul,Int.natAbs_natCast,Int.natAbs_natCast];exact aal (bq b1 g1) (aaw (by decide) (by decide)))
 simp[mk_eq,i6,e1,k1,k2,k3,k4]
theorem zR{p i:Nat}{es:aF}{d d':D}(h1:cu Φ es ρ=ok xs)(h2:aP bJ xs=false)(h3:ρ[i]?=some (some d))(h4:Φ p (d::xs)=ok d'):k_ Φ (.mut p i es) ρ=ok (.nx,ρ.set i (some d')):=by
 show bd (cu Φ es ρ) (λxs=>vb Φ p i (nu es xs ρ))=_;rw[h1,cx];unfold nu;rw[h2,if_neg Bool.false_ne_true];unfold vb;rw[h3];show bd (Φ p (d::xs)) _=_;rw[h4];rfl
theorem iV(c:aa):∀(cs:ag) (ws:aa),bA cs (af ws) c=(bA cs ws c).map D.int
 |[],_=>by cases ‹aa› <;> rfl
 |_::_,[]=>rfl
 |c'::cs,w::ws=>by
  show(if c'=c then some (D.int w)else bA cs (af ws) c)=Option.map D.int (if c'=c then some w else bA cs ws c);by_cases e:c'=c
  ·rw[if_pos e,if_pos e];rfl
  ·rw[if_neg e,if_neg e];exact iV c cs ws
theorem o7(c:aa)(v:Int):∀(cs:ag) (ws:aa),setC cs (af ws) c (.int v)=af (setC cs ws c v)
 |[],_=>by cases ‹aa› <;> rfl
 |_::_,[]=>rfl
 |c'::cs,w::ws=>by
  show(if c'=c then D.int v else D.int w)::setC cs (af ws) c (.int v)=D.int (if c'=c then v else w)::af (setC cs ws c v);rw[o7 c v cs ws];by_cases e:c'=c
  ·rw[if_pos e,if_pos e]
  ·rw[if_neg e,if_neg e]
theorem uC(cs:ag)(ws:aa)(c:aa)(v:Int):bC cs (af ws) c (.int v)=af (bC cs ws c v):=by
 unfold bC;by_cases e:c∈cs
 ·rw[if_pos e,if_pos e];exact o7 c v cs ws
 ·rw[if_neg e,if_neg e];simp
def bR(cs:ag)(ws:aa)(c:aa):Int:=(bA cs ws c).getD 0
theorem nG{α:Type}{c:aa}:∀{cs:ag} (ws:List α),c∉cs->bA cs ws c=none
 |[],_,_=>by cases ‹List α› <;> rfl
 |_::_,[],_=>rfl
 |c'::cs,w::ws,h=>by
  show(if c'=c then some w else bA cs ws c)=none;rw[if_neg λe=>h (by rw[e];exact List.mem_cons_self)];exact nG ws λz=>h (aag _ z)
theorem iW{α:Type}{c:aa}:∀{cs:ag} {ws:List α},cs.length=ws.length->c∈cs->∃w,bA cs ws c=some w/\w∈ws
 |[],_,_,h=>nomatch h
 |_::_,[],hl,_=>by simp at hl
 |c'::cs,w::ws,hl,h=>by
  by_cases e:c'=c
  ·exact⟨w,aaZ e,aai⟩
  ·have h':c∈cs:=(List.mem_cons.mp h).resolve_left λz=>e z.symm;obtain⟨w',e1,e2⟩:=iW (cs:=cs) (ws:=ws) (by simpa using hl) h';exact⟨w',(acb e).trans e1,aag _ e2⟩
theorem m8:∀{cs:ag} {ws:aa},cs.Nodup->cs.length=ws.length->cs.map (bR cs ws)=ws
 |[],[],_,_=>rfl
 |[],_::_,_,h=>by simp at h
 |_::_,[],_,h=>by simp at h
 |c::cs,w::ws,hn,hl=>by
  have qF:=List.nodup_cons.mp hn;have ih:=m8 (cs:=cs) (ws:=ws) qF.2 (by simpa using hl);rw[List.map_cons];have e1:bR (c::cs) (w::ws) c=w:=by
   show(if c=c then some w else bA cs ws c).getD 0=w;rw[if_pos rfl];rfl
  have e2:cs.map (bR (c::cs) (w::ws))=cs.map (bR cs ws):=aan λx hx=>by
   show(if c=x then some w else bA cs ws x).getD 0=_;rw[if_neg (show ¬ c=x from λz=>qF.1 (by rw[z];exact hx))];rfl
  rw[e1,e2,ih]
theorem sD{c:aa}{v:Int}:∀{cs:ag} {ws:aa},cs.Nodup->cs.length=ws.length->c∈cs->(setC cs ws c v).sum=ws.sum - bR cs ws c+v/\(setC cs ws c v).length=ws.length
 |[],_,_,_,h=>nomatch h
 |_::_,[],_,h,_=>by simp at h
 |c'::cs,w::ws,hn,hl,h=>by
  have qF:=List.nodup_cons.mp hn;have mr:cs.length=ws.length:=by simpa using hl
  have es:setC (c'::cs) (w::ws) c v=(if c'=c then v else w)::setC cs ws c v:=rfl;by_cases e:c'=c
  ·have BJ:∀{cs:ag} {ws:aa},cs.length=ws.length->c∉cs->setC cs ws c v=ws:=λ{cs}=>by
    induction cs with
    |nil=>intro ws hl _;cases ws with|nil=>rfl|cons _ _=>simp at hl
    |cons d cs ih =>
     intro ws hl hc;cases ws with
     |nil=>simp at hl
     |cons w ws =>
      show(if d=c then v else w)::setC cs ws c v=_;rw[if_neg λz=>hc (by rw[z];exact List.mem_cons_self),ih (by simpa using hl) λz=>hc (List.mem_cons_of_mem _ z)]
   have Zv:c∉cs:=e▸qF.1;rw[es,if_pos e,BJ mr Zv];have eg:bR (c'::cs) (w::ws) c=w:=by
    show(if c'=c then some w else bA cs ws c).getD 0=w;rw[if_pos e];rfl
   rw[eg];refine⟨?_,rfl⟩;rw[List.sum_cons,List.sum_cons];left
  ·have h':c∈cs:=(List.mem_cons.mp h).resolve_left λz=>e z.symm;obtain⟨i1,i2⟩:=sD (v:=v) qF.2 mr h';have eg:bR (c'::cs) (w::ws) c=bR cs ws c:=by
    show(if c'=c then some w else bA cs ws c).getD 0=_;rw[if_neg e];rfl
   rw[es,if_neg e,eg];refine⟨?_,by rw[List.length_cons,List.length_cons,i2]⟩;rw[List.sum_cons,List.sum_cons,i1];left
theorem sE{c:aa}{v:Int}:∀{cs:ag} {ws:aa} {x:Int},x∈setC cs ws c v->x∈ws\/x=v
 |[],_,_,h=>by cases ‹aa› <;> exact nomatch h
 |_::_,[],_,h=>nomatch h
 |c'::cs,w::ws,x,h=>by
  have h:x∈(if c'=c then v else w)::setC cs ws c v:=h;rcases List.mem_cons.mp h with e|h
  ·by_cases q:c'=c
   ·rw[if_pos q]at e;exact .inr e
   ·rw[if_neg q]at e;rw[e];exact .inl aai
  ·rcases sE h with h|h
   ·exact .inl (aag _ h)
   ·exact .inr h
structure Tab(P:aa->Prop)(j:Nat)(cs:ag)(ws:aa):Prop where
 nd:cs.Nodup
 ln:cs.length=ws.length
 lI:cs.length<=j
 lot:∀c∈cs,P c
 pos:∀w∈ws,1<=w
 sum:ws.sum<=7*j
 ne:1<=j->cs≠[]
variable {cs:ag}
theorem Tab.get{n:aa->Prop}{j:Nat}(T:Tab n j cs ws)(c:aa):0<=bR cs ws c:=by
 by_cases h:c∈cs
 ·obtain⟨w,e,m⟩:=iW T.ln h;unfold bR;rw[e];have:=T.pos w m;show 0<=w;left
 ·unfold bR;rw[nG ws h];exact Int.le_refl _
theorem Tab.put{n:aa->Prop}{j:Nat}(T:Tab n j cs ws){c:aa}(hc:n c){i:Int}(h1:1<=i)(h7:i<=7):Tab n (j+1) (aL cs c) (bC cs ws c (bR cs ws c+i)):=by
 have hg:=T.get c;have hf:=T.lI;have hs:=T.sum;by_cases h:c∈cs
 ·obtain⟨s1,s2⟩:=sD (v:=bR cs ws c+i) T.nd T.ln h;unfold aL bC;rw[if_pos h,if_pos h];refine⟨T.nd,by rw[s2];exact T.ln,by left,T.lot,λw hw=>?_,by rw[s1];left,λ_ z=>by rw[z]at h;cases h⟩;rcases sE hw with hw|rfl
  ·exact T.pos w hw
  ·left
 ·have hz:bR cs ws c=0:=by unfold bR;rw[nG ws h];rfl
  unfold aL bC;rw[if_neg h,if_neg h,hz];refine⟨?_,by rw[List.length_append,List.length_append,T.ln];rfl,by rw[List.length_append,List.length_singleton];left,λd hd=>?_,λw hw=>?_,by rw[List.sum_append];simp;left,λ_ z=>by simp at z⟩
  ·refine List.nodup_append.mpr ⟨T.nd,List.nodup_cons.mpr ⟨List.not_mem_nil,aaR⟩,λa ha b hb e=>?_⟩;rw[List.mem_singleton.mp hb]at e;exact h (e▸ha)
  ·rcases List.mem_append.mp hd with hd|hd
   ·exact T.lot d hd
   ·rw[List.mem_singleton.mp hd];exact hc
  ·rcases List.mem_append.mp hw with hw|hw
   ·exact T.pos w hw
   ·rw[List.mem_singleton.mp hw];left
def lQ(cs:ag)(ws:aa):aC:=(bc cs).map λc=>(Rat.divInt (bR cs ws c) ws.sum,c)
theorem Tab.w5{n:aa->Prop}{j:Nat}(T:Tab n j cs ws):∀w∈ws,w<=ws.sum:=λw hw=>by
 have:∀l:aa,(∀x∈l,1<=x)->0<=l.sum/\∀x∈l,x<=l.sum:=λl=>by
  induction l with
  |nil=>intro _;exact⟨Int.le_refl _,λ_ h=>nomatch h⟩
  |cons a l ih =>
   intro h;obtain⟨i1,i2⟩:=ih λx hx=>h x (aag _ hx);have ha:=h a aai;rw[List.sum_cons];refine⟨by left,λx hx=>?_⟩;rcases List.mem_cons.mp hx with rfl|hx
   ·left
   ·have:=i2 x hx;left
 exact(this ws T.pos).2 w hw
theorem wc(W:Int)(hW:W≠0):∀ls:aa,(ls.map λx=>Rat.divInt x W).sum=Rat.divInt ls.sum W
 |[]=>by simp
 |x::ls=>by
  rw[List.map_cons,List.sum_cons,wc W hW ls,List.sum_cons,Rat.divInt_eq_div,Rat.divInt_eq_div,Rat.divInt_eq_div,Rat.intCast_add];grind
theorem AM{a b:au}(h:a.Perm b):a.sum=b.sum:=by
 induction h with
 |nil=>rfl
 |cons x _ ih=>rw[List.sum_cons,List.sum_cons,ih]
 |swap x y l=>rw[List.sum_cons,List.sum_cons,List.sum_cons,List.sum_cons];grind
 |trans _ _ i1 i2=>rw[i1,i2]
theorem Tab.dr{P:aa->Prop}{n j:Nat}(T:Tab P j cs ws)(h1:1<=j)(h6:j<=8)(n1:1<=n)(n2:n<=12):Dp P 6 n (lQ cs ws):=by
 have hp:(bc cs).Perm cs:=aaC _ _;have hl:(lQ cs ws).length=cs.length:=by unfold lQ;rw[List.length_map];exact hp.length_eq
 have hf:=T.lI;have hs:=T.sum;have val:∀c∈bc cs,1<=bR cs ws c/\bR cs ws c<=ws.sum:=λc hc=>by
  obtain⟨w,e,m⟩:=iW T.ln (hp.mem_iff.mp hc);unfold bR;rw[e];exact⟨T.pos w m,T.w5 w m⟩
 have hW:1<=ws.sum:=by
  obtain⟨c,hc⟩:=abw cs (T.ne h1);have:=val c (hp.mem_iff.mpr hc);left
 refine⟨n1,n2,by rw[hl];left,.inl (by rw[hl];left),by rw[hl];left,λr hr=>?_,λr hr=>?_,λr hr=>?_,?_,?_⟩
 ·obtain⟨c,hc,rfl⟩:=List.mem_map.mp hr;exact T.lot c (hp.mem_iff.mp hc)
 ·obtain⟨c,hc,rfl⟩:=List.mem_map.mp hr;exact jA (by have:=val c hc;left) (by left)
 ·obtain⟨c,hc,rfl⟩:=List.mem_map.mp hr;have:=val c hc;exact wm (by left) (by show _<64;left) (by show _<64;left)
 ·have e:(lQ cs ws).map (·.1)=(bc cs).map λc=>Rat.divInt (bR cs ws c) ws.sum:=by
   unfold lQ;rw[List.map_map];rfl
  rw[e];have e2:((bc cs).map λc=>Rat.divInt (bR cs ws c) ws.sum).sum=(cs.map λc=>Rat.divInt (bR cs ws c) ws.sum).sum:=AM (hp.map _);have e3:(cs.map λc=>Rat.divInt (bR cs ws c) ws.sum)=(cs.map (bR cs ws)).map λx=>Rat.divInt x ws.sum:=by rw[List.map_map];rfl
  rw[e2,e3,m8 T.nd T.ln,wc _ (by left),Rat.divInt_eq_div];have z:((ws.sum:Int):Rat)≠0:=λz=>by rw[Rat.intCast_eq_zero_iff]at z;left
  grind
 ·have e:(lQ cs ws).map (·.2)=bc cs:=by
   unfold lQ;rw[List.map_map];exact(aan λ_ _=>rfl).trans (aca _)
  rw[e];exact gB T.nd
structure CW(Φ:aY):Prop where
 B3:Φ 1030=xK
 B2:Φ 1031=pP
 B1:Φ 1032=zd
 BZ:Φ 1033=pN
 BY:Φ 1035=lg
 Pj:Φ 1100=nV
theorem Lh(P:CW Φ)(f:Fl)(cs:ag)(ws:aa)(c:aa):Φ 1031 [.bU f cs (af ws),.tup (af c),.int 0]=ok (.int (bR cs ws c)):=by
 rw[P.B2];show(match intsOf (af c)with|some c=>if aP anyF (af ws)=false/\aR anyF (.int 0)=false then ok ((bA cs (af ws) c).getD (.int 0))else none|none=>none)=_;unfold af;rw[bh];show(if aP anyF (af ws)=false/\aR anyF (.int 0)=false then ok ((bA cs (af ws) c).getD (.int 0))else none)=_;rw[if_pos ⟨tQ _ _,rfl⟩,iV];unfold bR;cases bA cs ws c<;>rfl
theorem Le(P:CW Φ)(hl:cs.length<1000)(ws:aa)(c:aa)(v:Int):Φ 1033 [.bU .ow cs (af ws),.int v,.tup (af c)]=ok (.bU .ow (aL cs c) (af (bC cs ws c v))):=by
 rw[P.BZ];show(match intsOf (af c)with|some c=>if cB .ow=true/\aR anyF (.int v)=false/\cs.length<cL then ok (D.bU .ow (aL cs c) (bC cs (af ws) c (.int v)))else none|none=>none)=_;unfold af;rw[bh];show(if cB .ow=true/\aR anyF (.int v)=false/\cs.length<cL then ok (D.bU .ow (aL cs c) (bC cs (af ws) c (.int v)))else none)=_;rw[if_pos ⟨rfl,rfl,by show _<1000000;left⟩,uC];rfl
theorem Hn(P:CW Φ)(f:Fl)(hl:cs.length=ws.length){c:aa}(h:c∈cs):Φ 1032 [.bU f cs (af ws),.tup (af c)]=ok (.int (bR cs ws c)):=by
 obtain⟨w,e,_⟩:=iW hl h;rw[P.B1];show(match intsOf (af c)with|some c=>(match bA cs (af ws) c with|some v=>if aR anyF v=false then ok v else none|none=>none)|none=>none)=_;unfold af;rw[bh];show(match bA cs (af ws) c with|some v=>if aR anyF v=false then ok v else none|none=>none)=_;rw[iV,e];unfold bR;rw[e];rfl
theorem nX{t b:Int}(hb:b≠0):(Rat.divInt t b).den∣b.natAbs:=by
 obtain⟨t',b',e1,e2,h1,h2,h3,h4⟩:=m5 (t:=t) hb;obtain⟨g1,g2⟩:=qM (t:=t) hb;rw[show b.fdiv (fm t b)=b' from h2]at g2;have hz:(Rat.divInt t b).den=b'.natAbs:=by left
 have:b.natAbs=(fm t b).natAbs*b'.natAbs:=by rw[<- Int.natAbs_mul,<- e2]
 rw[hz,this];exact Nat.dvd_mul_left ..
def rE(m:az):Prop:=∀(N:Int) (n:Nat),n<=12->∃qs:au,m [.int N,.int n]=ok (.lst .ow (bp qs))/\qs.length=n/\∀q∈qs,Sm 3 q
noncomputable def me:ah:=[.app 2 (.call 201 [(.bin .sub (.bin .mod (.v 0) (.int 13)) (.int 6)),(.bin .add (.int 1) (.bin .mod (.bin .fdiv (.v 0) (.int 13)) (.int 4)))]),.asg (.nm 0) (.bin .fdiv (.v 0) (.int 52))]
def mF:ah:=[.asg (.nm 2) (.lst []),.fr (.nm 3) (.kZ (.v 1)) me,.ret (.v 2)]
theorem ng(Φ:aY)(yX:i7 (Φ 201))(y:aH):∀(ks:ab) (acc:au) (n:Int) (w:aH),acc.length+ks.length<=1000->(∀q∈acc,Sm 3 q) ->
  ∃(qs:au) (n' w':aH),dN (λd ρ=>cv (.nm 3) d ρ) (λρ=>bI Φ me ρ) ks [some (.int n),y,some (.lst .ow (bp acc)),w]=ok (.nx,[n',y,some (.lst .ow (bp qs)),w'])/\qs.length=acc.length+ks.length/\∀q∈qs,Sm 3 q
 |[],acc,n,w,_,hs=>⟨acc,some (.int n),w,rfl,rfl,hs⟩
 |k::ks,acc,n,w,h,hs=>by
  simp only[List.length_cons]at h;obtain⟨a1,a2⟩:=eT n (b:=13) (by decide);obtain⟨a3,a4⟩:=eT (n.fdiv 13) (b:=4) (by decide);have e:=yX (n.fmod 13 - 6) (1+(n.fdiv 13).fmod 4) (by left) (vg (by left));have sq:Sm 3 (Rat.divInt (n.fmod 13 - 6) (1+(n.fdiv 13).fmod 4)):=wm (by left) (by left) (by left);generalize Rat.divInt (n.fmod 13 - 6) (1+(n.fdiv 13).fmod 4)=q at *;obtain⟨qs,n',w',e',l,s⟩:=ng Φ yX y ks (acc++[q]) (n.fdiv 52) (some k) (by simp;left) (λp hp=>by
   rcases List.mem_append.mp hp with hp|hp
   ·exact hs p hp
   ·have:p=q:=by simpa using hp
    subst this;exact sq)
  have hc:acc.length<cL:=by show _<1000000;left
  refine⟨qs,n',w',dH (ρ1:=[some (.int n),y,some (.lst .ow (bp acc)),some k]) (by simp) (ρ2:=[some (.int (n.fdiv 52)),y,some (.lst .ow (bp (acc++[q]))),some k]) ?_ e',by rw[l];simp;left,s⟩;simp[me,e,hc]
theorem D5(Φ:aY)(yX:i7 (Φ 201)):rE (mk Φ 2 4 mF):=by
 intro N n hn;have hit:=EZ (Φ:=Φ) (a:=.v 1) (ρ:=[some (.int N),some (.int n),some (.lst .ow []),none]) (n:=n) (by simp) (by left) (by left);obtain⟨qs,n',w',el,l,s⟩:=ng Φ yX (some (.int n)) ((List.range (n:Int).toNat).map λ(k:Nat)=>D.int (k:Int)) [] N none (by simp;left) (by simp);have hf:=e9 (t:=.nm 3) (b:=me) hit el;refine⟨qs,?_,by simpa using l,s⟩;simp[mk_eq,mF,hf]
structure Gs2(i j n:Nat)(ws xs:au):Prop where
 l1:ws.length=n
 l2:xs.length=n
 s1:∀q∈ws,Sm i q
 s2:∀q∈xs,Sm j q
 jj:i+j<=20
theorem Gs.two{j n:Nat}{ws xs:au}(G:Gs j n ws xs)(hj:j<=10):Gs2 j j n ws xs:=⟨G.l1,G.l2,G.s1,G.s2,by left⟩
noncomputable def Se:ah:=[.asg (.nm 9) (.call 202 [(.v 9),(.v 10)])]
def Wc:ah:=[.asg (.nm 8) (.call 51 [(.ix (.v 6) (.int 0)),(.ix (.v 6) (.int 1)),(.bf .list1 [(.v 7)])]),.ifs (.or [(.not (.call 204 [(.v 8)])),(.cmp .ne (.v 8) (.call 232 [(.v 1),(.v 3),(.v 7)]))]) [.ret (.bl false)] [],.asg (.nm 9) (.tup [(.int 0),(.int 1)]),.fr (.nm 10) (.seq (.v 7)) Se,.ifs (.or [(.not (.call 204 [(.call 52 [(.v 7)])])),(.cmp .ne (.call 52 [(.v 7)]) (.v 9))]) [.ret (.bl false)] []]
theorem G1(q:Rat):fA .ne (qD q) (qD q)=ok (.bl false):=by
 rw[P_ (wY 39 _) (wY 39 _),Cf];simp
def iX(f:Fl)(n:Nat)(rs:aC):D:=.tup [.int n,.lst f (bM rs)]
@[simp]theorem QV(g:Fl->Fl)(f:Fl)(n:Nat)(rs:aC):aT g (iX f n rs)=iX (g f) n rs:=by simp[iX]
theorem nS(n:Nat)(rs:aC):iX .fz n rs=bN n rs:=rfl
@[simp]theorem Q7(p:Fl->Bool)(f:Fl)(n:Nat)(rs:aC):aR p (iX f n rs)=p f:=by simp[iX]
@[simp]theorem TL(f:Fl)(n:Nat)(rs:aC):uy (iX f n rs) (.int 0)=ok (.int n):=by simp[iX]
noncomputable def Qa(g h:Int)(r:Row):Bool:=decide (g∈r.2)&&decide (h∈r.2)
def ND(rs:aC)(g h:Int):Rat:=(dM (rs.filter (Qa g h))).sum
def Wf(n:Nat)(rs:aC):au:=(List.range n).map λ(k:Nat)=>ND rs k k
@[simp]theorem Qz(n:Nat)(rs:aC):(Wf n rs).length=n:=by simp[Wf]
noncomputable def GQ(q:Rat):D:=if 0<q then qD (1 / q)else .cj
@[simp]theorem EN(g:Fl->Fl)(q:Rat):aT g (GQ q)=GQ q:=by
 unfold GQ;split
 ·simp
 ·rfl
@[simp]theorem Fz(g:Fl->Bool)(q:Rat):aR g (GQ q)=false:=by
 unfold GQ;split
 ·simp
 ·rfl
@[simp]theorem LN(g:Fl->Fl)(qs:au):aB g (qs.map GQ)=qs.map GQ:=cw g (λq=>EN g q) qs
@[simp]theorem L7(g:Fl->Bool)(qs:au):aP g (qs.map GQ)=false:=b7 g (λq=>Fz g q) qs
theorem Sh:Sm 1 (1:Rat):=by constructor<;>decide
theorem Sj:Sm 1 (0:Rat):=by constructor<;>decide
noncomputable def gf(n:Nat)(h:Nat):au:=(List.range n).map λ(k:Nat)=>if k=h then 1 else 0
theorem eP(Φ:aY):∀(a b:ah) (ρ ρ':a_),bI Φ a ρ=ok (.nx,ρ')->bI Φ (a++b) ρ=bI Φ b ρ'
 |[],b,ρ,ρ',h=>by cases h;rfl
 |s::a,b,ρ,ρ',h=>by
  rw[bW]at h;rw[List.cons_append,bW];cases e:k_ Φ s ρ with
  |none=>rw[e]at h;cases h
  |some r=>cases r with
   |error c=>rw[e]at h;cases h
   |ok r =>
    obtain⟨fo,ρ1⟩:=r;rw[e]at h;cases fo with
    |nx=>exact eP Φ a b ρ1 ρ' h
    |_=>cases h
theorem DG{n x:Nat}:∀q∈gf n x,Sm 1 q:=λq hq=>by
 unfold gf at hq;obtain⟨k,_,rfl⟩:=List.mem_map.mp hq;split
 ·exact Sh
 ·exact Sj
@[simp]theorem Mz(n x:Nat):(gf n x).length=n:=by simp[gf]
def kL(f:Fl)(ls:List (au)):ab:=ls.map λl=>.lst f (bp l)
theorem qv{i j:Int}(h:i.natAbs<2 ^ 9000)(h':j.natAbs<2 ^ 9000):gj i j=true:=by simp only[gj,big,h,h',decide_true,Bool.and_self,Bool.or_true]
theorem ya{B:Nat}:∀(l:aa),(∀z∈l,z.natAbs<=B)->l.sum.natAbs<=l.length*B
 |[],_=>by simp
 |z::l,h=>by
  have ih:=ya l λx hx=>h x (aag _ hx);have hz:=h z aai;have ht:=Int.natAbs_add_le z l.sum;rw[List.sum_cons,List.length_cons,Nat.succ_mul];left
def sk(b:Nat)(rs:aC)(gs:aa):Int:=((rs.zip gs).map λp=>ba b p.1.1*p.2*p.2).sum
def j3(b gb:Nat)(rs:aC)(gs:aa):Rat:=Rat.divInt ((b:Int)*sk b rs gs - gX b rs gs*gX b rs gs) ((b:Int)*gb*((b:Int)*gb))
noncomputable def K8:CE:=.comp 2 (.tp [0,1]) [] (.b9 1000) [(.ix (.v 2) (.int 1)),(.ix (.v 1) (.int 1))] [] (.bin .mul (.bin .mul (.ix (.v 0) (.int 0)) (.v 1)) (.v 1))
def fJ:ah:=[.asg (.nm 2) (.call 14 [(.v 0)]),.asg (.nm 3) (.bf .gY [y9]),.asg (.nm 4) (.bf .gY [K8]),.asg (.nm 5) (.bin .mul (.ix (.v 2) (.int 0)) (.ix (.v 1) (.int 0))),.ret (.call 2 [(.bin .sub (.bin .mul (.ix (.v 2) (.int 0)) (.v 4)) (.bin .mul (.v 3) (.v 3))),(.bin .mul (.v 5) (.v 5))])]
def lM(m:az):Prop:=∀{P:aa->Prop} k n rs gs (gb:Nat),Dp P k n rs->gs.length=rs.length->0<gb->gb<2 ^ 2000->(∀g∈gs,g.natAbs<2 ^ 2000)->m [.lst .fz (bM rs),.tup [.int gb,.lst .fz (af gs)]]=ok (qD (j3 (bH (dM rs)) gb rs gs))
theorem sI(Φ:aY)(h2:cH (Φ 2))(Ko:gw (Φ 14))(gm:Φ 1000=oq):lM (mk Φ 2 6 fJ):=by
 intro P k n rs gs gb I hl g0 g1 Xf;have e1:=Ko rs k I.GJ;obtain⟨b0,b1,_⟩:=I.bot;have ht:=λr hr=>I.top (r:=r) hr;have hlen:=I.len;generalize bH (dM rs)=b at *;have hz:df Φ (.b9 1000) [.lst .al (jR b rs),.lst .fz (af gs)]=ok ((rs.zip gs).map λp=>.tup [.tup [.int (ba b p.1.1),.tup (af p.1.2)],.int p.2]):=by
  show bd (Φ 1000 _) i_=_;rw[gm];show ok (aB aW (List.zipWith (λx y=>D.tup [x,y]) (jR b rs) (af gs)))=_;have:=cz aW (jR b rs) (af gs);rw[s9,b_]at this;refine aaU ok (aco this ?_);unfold jR af;rw[List.zipWith_map,List.zip,List.map_zipWith];rfl
 have pr:∀p∈rs.zip gs,(ba b p.1.1*p.2).natAbs<2 ^ 2064:=λp hp=>by
  have m:=aaO hp;rw[Int.natAbs_mul,show(2064:Nat)=64+2000 from rfl];exact bq (ht p.1 m.1) (Xf p.2 m.2)
 have k1:∀r,bw Φ y9 (some (.lst .fz (bM rs))::some (.tup [.int gb,.lst .fz (af gs)])::some (.tup [.int b,.lst .ow (jR b rs)])::r)=ok (.lst .ow (af ((rs.zip gs).map λp=>ba b p.1.1*p.2))):=λr=>by
  unfold y9;rw[cR (xs:=[.lst .al (jR b rs),.lst .fz (af gs)]) (by simp) hz (ds:=(rs.zip gs).map λp=>.int (ba b p.1.1*p.2)) (bO λp hp=>?_) (by simp;exact cc (by left))]
  ·simp[af,aQ]
  ·have m:=aaO hp;have e:=i5 (j:=p.2) (ht p.1 m.1);exact⟨[some (.tup [.int (ba b p.1.1),.tup (af p.1.2)]),some (.int p.2)],by simp[bF],by simp,by simp[e]⟩
 have YM:∀r,bw Φ K8 (some (.lst .fz (bM rs))::some (.tup [.int gb,.lst .fz (af gs)])::some (.tup [.int b,.lst .ow (jR b rs)])::r)=ok (.lst .ow (af ((rs.zip gs).map λp=>ba b p.1.1*p.2*p.2))):=λr=>by
  unfold K8;rw[cR (xs:=[.lst .al (jR b rs),.lst .fz (af gs)]) (by simp) hz (ds:=(rs.zip gs).map λp=>.int (ba b p.1.1*p.2*p.2)) (bO λp hp=>?_) (by simp;exact cc (by left))]
  ·simp[af,aQ]
  ·have m:=aaO hp;have e:=i5 (j:=p.2) (ht p.1 m.1);have e':cX .mul (.int (ba b p.1.1*p.2)) (.int p.2)=ok (.int (ba b p.1.1*p.2*p.2)):=gq (qv (aal (pr p hp) (aaw (by decide) (by decide))) (aal (Xf p.2 m.2) (aaw (by decide) (by decide))));exact⟨[some (.tup [.int (ba b p.1.1),.tup (af p.1.2)]),some (.int p.2)],by simp[bF],by simp,by simp[e,e']⟩
 have ks:∀l:aa,kM .gY [.lst .ow (af l)]=ok (.int l.sum):=λl=>by
  show(match intsOf (af l)with|some ns=>ok (D.int ns.sum)|none=>none)=_;unfold af;rw[bh]
 have kt:kM .gY [.lst .ow (af ((rs.zip gs).map λp=>ba b p.1.1*p.2))]=ok (.int (gX b rs gs)):=ks _;have kq:kM .gY [.lst .ow (af ((rs.zip gs).map λp=>ba b p.1.1*p.2*p.2))]=ok (.int (sk b rs gs)):=ks _;have ta:(gX b rs gs).natAbs<2 ^ 2100:=by
  have h:=ya (B:=2 ^ 2064) ((rs.zip gs).map λp=>ba b p.1.1*p.2) λz hz=>by
   obtain⟨p,hp,rfl⟩:=List.mem_map.mp hz;exact ack (pr p hp)
  have hz:((rs.zip gs).map λp=>ba b p.1.1*p.2).length<=1000:=by simp;left
  refine aaE (aaG h (abp _ hz)) ?_;rw[show(2100:Nat)=36+2064 from rfl,Nat.pow_add];exact Nat.mul_lt_mul_of_pos_right (by decide) (Nat.two_pow_pos _)
 have Fv:((b:Int)).natAbs<2 ^ 64:=by rw[Int.natAbs_natCast];exact aal b1 (by decide)
 have m1:=i5 (j:=(gb:Int)) Fv;have m2:=i5 (j:=sk b rs gs) Fv;have m3:cX .mul (.int (gX b rs gs)) (.int (gX b rs gs))=ok (.int (gX b rs gs*gX b rs gs)):=gq (qv (aal ta (aaw (by decide) (by decide))) (aal ta (aaw (by decide) (by decide))));have Q6:((b:Int)*gb).natAbs<2 ^ 2061:=by
  rw[Int.natAbs_mul,Int.natAbs_natCast,Int.natAbs_natCast,show(2061:Nat)=61+2000 from rfl];exact bq b1 g1
 have m4:cX .mul (.int ((b:Int)*gb)) (.int ((b:Int)*gb))=ok (.int ((b:Int)*gb*((b:Int)*gb))):=gq (qv (aal Q6 (aaw (by decide) (by decide))) (aal Q6 (aaw (by decide) (by decide))));have k4:=h2.1 ((b:Int)*sk b rs gs - gX b rs gs*gX b rs gs) ((b:Int)*gb*((b:Int)*gb)) (by
  have:(0:Int)<(b:Int)*gb:=Int.mul_pos (by left) (by left);have:=Int.mul_pos this this;left) (by
  rw[Int.natAbs_mul];exact aal (bq Q6 Q6) (aaw (by decide) (by decide)))
 change _=ok (qD (j3 b gb rs gs))at k4;generalize j3 b gb rs gs=sp at *;simp[mk_eq,fJ,e1,k1,YM,kt,kq,m1,m2,m3,m4,k4]
end DI
end
section
namespace DI
open PySem PySem.Spec PyProof.Rows L2
def Df(K:ao)(x:Str)(st:Stmt):Prop:=∃f fd,Gp K x x st f fd/\PySem.W.nsIn K mainGlobals x=some (some (.ref f))
variable {K:ao}{st:Stmt}
theorem dmk{x:Str}{f:Addr}{oc:Value}{od an:Option Addr}{sl:Array (Option Value)}{kV dc pm cd ct:Value}(a:PySem.W.nsIn K mainGlobals x=some (some (.ref f)))(l:K.lookup f=some ⟨oc,od,.func (PySem.W.fnOf x x (fH st) (dk st) (bG st) .none kV dc pm an cd ct),sl⟩)(c:PySem.W.codeIn K cd x=true)(k:PySem.W.keepIn K (.ref f)=true):Df K x st:=⟨f,_,Kv l c k,a⟩
noncomputable def Xg(N P:aq)(sc:Scope):Bool:=decide (sc.kind=.function)&&(!sc.isCoroutine&&(!sc.isGenerator&&(decide N.Nodup&&(decide (N.take P.length=P)&&(P.all (λx=>decide (sc.names.lookup x=some .local\/sc.names.lookup x=some .cell))&&sc.names.all λy=>decide (y.2≠.free))))))
variable {N:aq}
theorem He{P:aq}{sc:Scope}(h:Xg N P sc=true):i8 N P sc:=by
 obtain⟨h1,h⟩:=aK h;obtain⟨h2,h⟩:=aK h;obtain⟨h3,h⟩:=aK h;obtain⟨h4,h⟩:=aK h;obtain⟨h5,h⟩:=aK h;obtain⟨h6,h7⟩:=aK h;exact⟨aac h1,lE h2,lE h3,aac h4,aac h5,λx hx=>aac (List.all_eq_true.mp h6 x hx),λy hy=>aac (List.all_eq_true.mp h7 y hy)⟩
def Ru(st:Stmt)(N ps:aq)(tb:List (Nat×Str))(bl:aq)(cs:List (Str×GK))(px:Px)(b:ah):Bool:=Xg N ps (bG st)&&kz ⟨bG st,N,λn=>List.lookup n tb,bl,cs,px⟩ b (dk st)
theorem u1{α:Type}{P:List α->Prop}(h:∀a,P [a])(us:List α)(e:us.length=1):P us:=by obtain⟨a,rfl⟩:=N_ e;exact h a
theorem u2{α:Type}{P:List α->Prop}(h:∀a b,P [a,b])(us:List α)(e:us.length=2):P us:=by obtain⟨a,b,rfl⟩:=N9 e;exact h a b
theorem u3{α:Type}{P:List α->Prop}(h:∀a b c,P [a,b,c])(us:List α)(e:us.length=3):P us:=by obtain⟨a,b,c,rfl⟩:=N8 e;exact h a b c
theorem u4{α:Type}{P:List α->Prop}(h:∀a b c d,P [a,b,c,d])(us:List α)(e:us.length=4):P us:=by obtain⟨a,b,c,d,rfl⟩:=Tx e;exact h a b c d
theorem u5{α:Type}{P:List α->Prop}(h:∀a b c d e,P [a,b,c,d,e])(us:List α)(e:us.length=5):P us:=by
 match us,e with
 |[a,b,c,d,e],_=>exact h a b c d e
variable {P:aE}{base:Heap}{mg:Str->Option Value}{w:World}
theorem Ent.u{k k':Nat}{y:Str}{m:az}(h:Ent P w K mg base k y m)(hk:k<=k':=by decide):Ent P w K mg base k' y m:=h.up hk
theorem en{h:Heap}(X:K.In h)(G:h.Ns mainGlobals mg)⦃x:Str⦄⦃st:Stmt⦄⦃N ps bl:aq⦄⦃tb:List (Nat×Str)⦄⦃cs:List (Str×GK)⦄⦃px:Px⦄⦃b:ah⦄(k:Nat)(Φ:aY)(m:az)(d:Df K x st)(hc:Ru st N ps tb bl cs px b=true)
  (hp:vR px Φ/\LC px Φ) (Ft:du (λy=>mg y=none) bl) (vt:du (λp:Str×GK=>∃u,mg p.1=some u/\Gn K p.2 u) cs)
  (hf:du (λp:Nat×Str=>Ent P w K mg base k p.2 (Φ p.1)) tb) (hm:∀ds r,m ds=ok r->ds.length=ps.length/\qi Φ N.length b ds=ok r) (hb:∀(kV doc pm:Value) (an:Option Addr) (jk ct:Value) (us:ak),us.length=ps.length->bindArgs (PySem.W.fnOf x x (fH st) (dk st) (bG st) .none kV doc pm an jk ct) ⟨us,[]⟩=pure (ps.zip us):=by first|exact λ_ _ _ _ _ _=>u1 λ_=>rfl|exact λ_ _ _ _ _ _=>u2 λ_ _=>rfl|exact λ_ _ _ _ _ _=>u3 λ_ _ _=>rfl|exact λ_ _ _ _ _ _=>u4 λ_ _ _ _=>rfl|exact λ_ _ _ _ _ _=>u5 λ_ _ _ _ _=>rfl):Ent P w K mg base (k+1) x m:=by
 obtain⟨f,fd,Fu,a⟩:=d;obtain⟨h1,h2⟩:=aK hc;exact ent Fu (PySem.W.mg_of X G a) (Fu.binds hb) (He h1) h2 hp.1 hp.2 (du.mem Ft) (du.two (P:=λy i=>∃u,mg y=some u/\Gn K i u) vt) (du.tab (P:=λg y=>Ent P w K mg base k y (Φ g)) hf) hm
noncomputable def xm(PT F:aY)(i:Nat)(m:az):aY:=λn=>bif Nat.ble 1000 n then PT n else bif Nat.beq n i then m else F n
theorem T7{α:Type}{Q:Nat->Prop}(p:Nat){k:Nat}{a b c:α}(h:(if p=k then a else b)=c)(h1:a=c->Q k)(h2:b=c->Q p):Q p:=by
 by_cases e:p=k
 ·subst e;rw[if_pos rfl]at h;exact h1 h
 ·rw[if_neg e]at h;exact h2 h
variable {F:Addr->Prop}{Z:Cx}{cs:aF}{Φ:aY}
theorem C3{α:Type}{e:Expr}{p k:Nat}{a b c:α}(h:(if p=k then a else b)=c)(h1:a=c->PE Z e (tD Z F Φ (.b9 k cs))/\L2.PT Z e (gy Z F Φ (.b9 k cs)))(h2:b=c->PE Z e (tD Z F Φ (.b9 p cs))/\L2.PT Z e (gy Z F Φ (.b9 p cs))):PE Z e (tD Z F Φ (.b9 p cs))/\L2.PT Z e (gy Z F Φ (.b9 p cs)):=T7 (Q:=λp=>PE Z e (tD Z F Φ (.b9 p cs))/\L2.PT Z e (gy Z F Φ (.b9 p cs))) p h h1 h2
theorem YO{α:Type}{i p k:Nat}{a b c:α}(h:(if p=k then a else b)=c)(h1:a=c->PS Z st (lR Z F Φ (.mut k i cs)))(h2:b=c->PS Z st (lR Z F Φ (.mut p i cs))):PS Z st (lR Z F Φ (.mut p i cs)):=T7 (Q:=λp=>PS Z st (lR Z F Φ (.mut p i cs))) p h h1 h2
theorem T6{α:Type}{c1 c2:CE}{i p k:Nat}{a b c:α}(h:(if p=k then a else b)=c)(h1:a=c->PS Z st (lR Z F Φ (.mu2 k i c1 c2)))(h2:b=c->PS Z st (lR Z F Φ (.mu2 p i c1 c2))):PS Z st (lR Z F Φ (.mu2 p i c1 c2)):=T7 (Q:=λp=>PS Z st (lR Z F Φ (.mu2 p i c1 c2))) p h h1 h2
theorem fO:True:=trivial
theorem du.nn{K:ao}{h:Heap}{mg:aZ}(X:K.In h)(G:h.Ns mainGlobals mg):∀{l:aq},du (λy=>PySem.W.nsIn K mainGlobals y=some none) l->du (λy=>mg y=none) l
 |[],_=>trivial
 |_::_,z=>⟨PySem.W.mg_none_of X G z.1,du.nn X G z.2⟩
theorem Z7{P:aE}{w:World}{K:ao}{h base:Heap}{mg:aZ}{bl:aq}{cs:List (Str×GK)}{px:Px}{PT:aY}(X:K.In h)(G:h.Ns mainGlobals mg)(hp:∀F i m,vR px (xm PT F i m)/\LC px (xm PT F i m))(Ft:du (λy=>mg y=none) bl)(vt:du (λp:Str×GK=>∃u,mg p.1=some u/\Gn K p.2 u) cs)
  ⦃x:Str⦄ ⦃st:Stmt⦄ (k:Nat) (Φ:aY) (d:Df K x st) (N:aq) (a:Nat) (tb:List (Nat×Str)) (b:ah)
  (hf:du (λp:Nat×Str=>Ent P w K mg base k p.2 (Φ p.1)) tb) (hc:Ru st N (N.take a) tb bl cs px b=true:=by decide +kernel) (e:∃F i m,Φ=xm PT F i m:=by exact⟨_,_,_,rfl⟩) (ha:(N.take a).length=a:=by rfl) (hb:∀(kV doc pm:Value) (an:Option Addr) (jk ct:Value) (us:ak),us.length=a->bindArgs (PySem.W.fnOf x x (fH st) (dk st) (bG st) .none kV doc pm an jk ct) ⟨us,[]⟩=pure ((N.take a).zip us):=by first|exact λ_ _ _ _ _ _=>u1 λ_=>rfl|exact λ_ _ _ _ _ _=>u2 λ_ _=>rfl|exact λ_ _ _ _ _ _=>u3 λ_ _ _=>rfl|exact λ_ _ _ _ _ _=>u4 λ_ _ _ _=>rfl|exact λ_ _ _ _ _ _=>u5 λ_ _ _ _ _=>rfl):Ent P w K mg base (k+1) x (mk Φ a N.length b):=by
 obtain⟨F,i,m,e⟩:=e;exact en X G k Φ _ d hc (e▸hp F i m) Ft vt hf (λds r q=>⟨(vc ds r q).1.trans ha.symm,(vc ds r q).2⟩) (λkV doc pm an jk ct us hu=>hb kV doc pm an jk ct us (hu.trans ha))
theorem Z6{x:Str}{ps bl:aq}{tb:List (Nat×Str)}{cs:List (Str×GK)}{px:Px}{b:ah}{f:Addr}{fd:FuncData}(k:Nat)(Φ:aY)(m:az)(Fu:Gp K x x st f fd)(hc:Ru st N ps tb bl cs px b=true)
  (hp:vR px Φ/\LC px Φ) (Ft:du (λy=>mg y=none) bl) (vt:du (λp:Str×GK=>∃u,mg p.1=some u/\Gn K p.2 u) cs)
  (hf:du (λp:Nat×Str=>Ent P w K mg base k p.2 (Φ p.1)) tb) (hm:∀ds r,m ds=ok r->ds.length=ps.length/\qi Φ N.length b ds=ok r):jd P w K mg base zI (k+1) f fd ps (DW K ps.length m):=by
 obtain⟨h1,h2⟩:=aK hc;exact tT Fu (He h1) h2 hp.1 hp.2 (du.mem Ft) (du.two (P:=λy i=>∃u,mg y=some u/\Gn K i u) vt) (λg y h=>(du.tab (P:=λg y=>Ent P w K mg base k y (Φ g)) hf g y h).ex) hm
end DI
end
section
namespace DI
open PySem (Str)
noncomputable def CY(p:Int×Int):D:=.tup [.int p.1,.int p.2]
def DH(ps:List (Int×Int)):ab:=ps.map CY
@[simp]theorem EM(g:Fl->Fl)(p:Int×Int):aT g (CY p)=CY p:=by unfold CY;simp
@[simp]theorem Fx(g:Fl->Bool)(p:Int×Int):aR g (CY p)=false:=by unfold CY;simp
@[simp]theorem LM(g:Fl->Fl)(ps:List (Int×Int)):aB g (DH ps)=DH ps:=cw g (EM g) ps
@[simp]theorem L6(g:Fl->Bool)(ps:List (Int×Int)):aP g (DH ps)=false:=b7 g (Fx g) ps
@[simp]theorem MA(ps:List (Int×Int)):(DH ps).length=ps.length:=aa_ ..
@[simp]theorem TK(p:Int×Int):uy (CY p) (.int 0)=ok (.int p.1):=by unfold CY;simp
@[simp]theorem TJ(p:Int×Int):uy (CY p) (.int 1)=ok (.int p.2):=by unfold CY;simp
theorem DF(n:Nat):(oV (n:Int)).length=n:=by simp[oV]
theorem DE{n:Nat}{h:Int}:h∈oV (n:Int) ↔ ∃k:Nat,k<n/\h=k:=by
 unfold oV;simp[eq_comm]
def Fm(M B:Nat)(q:Rat):Prop:=0<M/\∃z:Int,z.natAbs<=B/\q*(M:Rat)=(z:Rat)
section
variable {M N B C:Nat}{p q:Rat}
theorem ju{M:Nat}(h:0<M):(M:Rat)≠0:=λz=>by
 have:((M:Int):Rat)=0:=by rw[Rat.intCast_natCast];exact z
 rw[Rat.intCast_eq_zero_iff]at this;left
theorem Fm.divInt(h:Fm M B q):∃z:Int,z.natAbs<=B/\q=Rat.divInt z M:=by
 obtain⟨h0,z,hz,e⟩:=h;refine⟨z,hz,?_⟩;rw[Rat.divInt_eq_div,<- e,Rat.intCast_natCast];have:=ju h0;grind
theorem Fm.sm{k:Nat}(h:Fm M B q)(h1:M<2 ^ k)(h2:B<2 ^ k):Sm k q:=by
 have h0:=h.1;obtain⟨z,hz,rfl⟩:=h.divInt;exact o6 (by left) (by left) (by simpa using h1)
theorem Fm.mono(h:Fm M B q)(hl:B<=C):Fm M C q:=⟨h.1,h.2.choose,aaG h.2.choose_spec.1 hl,h.2.choose_spec.2⟩
theorem Fm.add(h:Fm M B p)(h':Fm M C q):Fm M (B+C) (p+q):=by
 obtain⟨h0,z,hz,e⟩:=h;obtain⟨_,w,hw,e'⟩:=h';exact⟨h0,z+w,by left,by rw[Rat.intCast_add,<- e,<- e'];grind⟩
theorem Fm.sub(h:Fm M B p)(h':Fm M C q):Fm M (B+C) (p - q):=by
 obtain⟨h0,z,hz,e⟩:=h;obtain⟨_,w,hw,e'⟩:=h';exact⟨h0,z - w,by left,by rw[Rat.intCast_sub,<- e,<- e'];grind⟩
theorem Fm.mul(h:Fm M B p)(h':Fm N C q):Fm (M*N) (B*C) (p*q):=by
 obtain⟨h0,z,hz,e⟩:=h;obtain⟨ZY,w,hw,e'⟩:=h';exact⟨Nat.mul_pos h0 ZY,z*w,by rw[Int.natAbs_mul];exact ab7 hz hw,by rw[Rat.intCast_mul,<- e,<- e',Rat.natCast_mul];grind⟩
theorem Fm.zero(h:0<M):Fm M 0 0:=⟨h,0,by decide,by rw[Rat.zero_mul];rfl⟩
theorem Fm.sum{qs:au}(h0:0<M)(h:∀q∈qs,Fm M B q):Fm M (qs.length*B) qs.sum:=by
 induction qs with
 |nil=>simpa using Fm.zero h0
 |cons q qs ih =>
  rw[List.sum_cons,List.length_cons,Nat.succ_mul,Nat.add_comm];exact(h q aai).add (ih λp hp=>h p (aag _ hp))
theorem Kx(h0:0<M)(hd:q.den∣M)(hn:q.num.natAbs<=B*q.den):Fm M (B*M) q:=by
 obtain⟨c,rfl⟩:=hd;refine⟨h0,q.num*c,?_,?_⟩
 ·rw[Int.natAbs_mul,Int.natAbs_natCast,<- Nat.mul_assoc];exact abp _ hn
 ·rw[Rat.intCast_mul,sR,Rat.natCast_mul,Rat.intCast_natCast];grind
theorem Vh(h:Sm 3 q):Fm 420 (7*420) q:=by
 have hp:=q.den_pos;have h1:=h.1;have h2:=h.2;refine Kx (by decide) ?_ ?_
 ·have:q.den=1\/q.den=2\/q.den=3\/q.den=4\/q.den=5\/q.den=6\/q.den=7:=by left
  rcases this with e|e|e|e|e|e|e<;>rw[e]<;>decide
 ·have:7*1<=7*q.den:=aaH _ hp;left
end
structure LsB(W M Bm Bg dv:Nat):Prop where
 w1:W<64
 m1:M<2 ^ 200
 m2:M*M<2 ^ 200
 m3:W*(M*M)<2 ^ 200
 bm:Bm<2 ^ 200
 bg:Bg<2 ^ 200
 ds:Bg+Bm<=dv
 d1:dv<2 ^ 200
 d2:dv*dv<2 ^ 200
 d3:12*(64*(dv*dv))<2 ^ 200
abbrev Rg:=Row×au
noncomputable def aV(ps:List Rg):aC:=ps.map (·.1)
def cV(f:Fl)(ps:List Rg):ab:=ps.map λp=>.lst f (bp p.2)
@[simp]theorem Ea(ps:List Rg):(aV ps).length=ps.length:=aa_ ..
@[simp]theorem Rc(f:Fl)(ps:List Rg):(cV f ps).length=ps.length:=aa_ ..
@[simp]theorem Bj(g:Fl->Fl)(f:Fl)(ps:List Rg):aB g (cV f ps)=cV (g f) ps:=by
 unfold cV;rw[aQ,List.map_map];refine aan λx _=>?_;show aT g (.lst f (bp _))=_;simp
theorem iw(g:Fl->Bool)(f:Fl)(ps:List Rg)(h:g f=false):aP g (cV f ps)=false:=b7 g (λx=>by simp[h]) ps
def RJ(ws:au)(row:aa)(xs:au):Rat:=((row.zip ws).map λp=>p.2*jQ xs p.1).sum
def bV(xs:au)(p:Rg):Rat:=RJ p.2 p.1.2 xs
structure Rk(j n:Nat)(ps:List Rg)(xs:au):Prop where
 dr:Dp (Rw n) 6 n (aV ps)
 ln:∀p∈ps,p.2.length=p.1.2.length
 sw:∀p∈ps,∀q∈p.2,Sm j q
 jb:(j+4)*(n+1)<=125
 l2:xs.length=n
 s2:∀q∈xs,Sm 3 q
section
variable {j n:Nat}{ps:List Rg}{xs:au}(K:Rk j n ps xs)
include K
theorem Rk.NW:n<=12:=K.dr.n2
theorem Rk.Wz:j<=121:=by
 have:=K.jb;have h:(j+4)*1<=(j+4)*(n+1):=aaH _ (by left);left
theorem Rk.jn{l:Nat}(h:l<=n):(j+4)*l<=125:=aaG (aaH _ (by left)) K.jb
theorem Rk.lI:ps.length<=10:=by have:=K.dr.lI;rw[Ea]at this;left
theorem Rk.rw{p:Rg}(hp:p∈ps):Rw n p.1.2:=K.dr.lot p.1 (aay hp)
theorem Rk.at{p:Rg}(hp:p∈ps){h:Int}(hh:h∈p.1.2):rn (bp xs) h=ok (qD (jQ xs h))/\Sm 3 (jQ xs h):=by
 have:=(K.rw hp).2.2 h hh;have l:=K.l2;exact⟨Qe this.1 (by left),K.s2 _ (mH this.1 (by left)).2⟩
theorem Rk.AG{p:Rg}(hp:p∈ps):rQ (j+3) ((p.1.2.zip p.2).map λz=>z.2*jQ xs z.1):=by
 have hl:=(K.rw hp).2.1;have:=K.NW;refine⟨λq hq=>?_,?_,by rw[List.length_map,List.length_zip];left⟩
 ·obtain⟨z,hz,rfl⟩:=List.mem_map.mp hq;have m:=aaO hz;exact(K.sw p hp _ m.2).mul (K.at hp m.1).2
 ·have h1:=K.jn hl;have h2:(j+3)*((p.1.2.zip p.2).map λz=>z.2*jQ xs z.1).length<=(j+4)*p.1.2.length:=ab7 (by left) (by rw[List.length_map,List.length_zip];left);left
theorem Rk.pv{p:Rg}(hp:p∈ps):Sm 126 (bV xs p):=by
 have h:=Sm.sum (K.AG hp).sm;have hl:=(K.rw hp).2.1;have h1:=K.jn hl;have h2:(j+4)*((p.1.2.zip p.2).map λz=>z.2*jQ xs z.1).length<=(j+4)*p.1.2.length:=aaH _ (by rw[List.length_map,List.length_zip];left);exact h.mono (by first|left | (rw[show j+3+1=j+4 by left];left))
theorem Rk.CZ:rQ 126 (ps.map (bV xs)):=by
 have:=K.lI;refine⟨λq hq=>?_,by rw[List.length_map];left,by rw[List.length_map];left⟩;obtain⟨p,hp,rfl⟩:=List.mem_map.mp hq;exact K.pv hp
end
noncomputable def rg:ah:=[.ret (.call 45 [(.v 0)])]
theorem Iv(Φ:aY)(U4:uu (Φ 45)):uu (mk Φ 1 1 rg):=by
 intro k n rs I;have e:=U4 k n rs I;have m1:aT aW (bN n rs)=bN n rs:=by simp[bN]
 have m2:aT bo (bN n rs)=bN n rs:=by simp[bN]
 simp[mk_eq,rg,m1,m2,e]
def n8(m:az):Prop:=∀k n rs,Dp (Rw n) k n rs->m [bN n rs]=ok .cj
noncomputable def rm:ah:=[.ifs (.not (.call 72 [(.v 0)])) [.rs 1] []]
theorem Iw(Φ:aY)(ZP:uu (Φ 72)):n8 (mk Φ 1 1 rm):=by
 intro k n rs I;have e:=ZP k n rs I;have m1:aT aW (bN n rs)=bN n rs:=by simp[bN]
 have m2:aT bo (bN n rs)=bN n rs:=by simp[bN]
 simp[mk_eq,rm,m1,m2,e]
def rM(p:Rg):D:=.tup [rD p.1,.lst .fz (bp p.2)]
theorem zM(ps:List Rg):List.zipWith (λx y=>D.tup [x,y]) (bM (aV ps)) (cV .fz ps)=ps.map rM:=by
 unfold bM aV cV;rw[List.map_map,List.zipWith_map,List.zipWith_self];rfl
variable {Φ:aY}{ρ:a_}
theorem zN(gm:Φ 1000=oq)(a b:Nat)(ps:List Rg)(ha:bw Φ (.v a) ρ=ok (.lst .fz (bM (aV ps))))(hb:bw Φ (.v b) ρ=ok (.lst .fz (cV .fz ps))):cJ Φ (.ux 1000 [(.v a),(.v b)]) ρ=ok (ps.map rM,ρ):=by
 show bd (cu Φ [(.v a),(.v b)] ρ) _=_;have:cu Φ [(.v a),(.v b)] ρ=ok [.lst .fz (bM (aV ps)),.lst .fz (cV .fz ps)]:=by simp[ha,hb]
 rw[this,cx,gm];show bd (ok (D.lst .ow (List.zipWith (λx y=>D.tup [x,y]) (bM (aV ps)) (cV .fz ps)))) _=_;rw[zM,cx];have e:aB aW (ps.map rM)=ps.map rM:=cw aW (λp=>by unfold rM;simp) ps;show ok (aB aW (ps.map rM),if aP bJ [D.lst .fz (bM (aV ps)),.lst .fz (cV .fz ps)]then _ else _)=_;rw[e];have:aP bJ [D.lst .fz (bM (aV ps)),.lst .fz (cV .fz ps)]=false:=by
  have:=iw bJ .fz ps rfl;simp[this]
 rw[this];rfl
noncomputable def DP:ah:=[.ifs (.not (.call 40 [(.v 3),(.bf .len [(.ix (.v 2) (.int 1))])])) [.rs 8] []]
def Ga:ah:=[.ifs (.or [(.not (.rN (.v 0) .list)),(.cmp .ne (.bf .len [(.v 0)]) (.bf .len [(.v 1)]))]) [.rs 8] [],.fr (.tp [2,3]) (.ux 1000 [(.v 1),(.v 0)]) DP]
def CT(m:az):Prop:=∀j n ps xs,Rk j n ps xs->m [.lst .fz (cV .fz ps),.lst .fz (bM (aV ps))]=ok .cj
theorem xW(Φ:aY)(Rb:eK (Φ 40))(c0 c1:aH):∀(ps:List Rg) (c2 c3:aH),(∀p∈ps,p.2.length=p.1.2.length/\p.2.length<=12)->∃Lr F6,dN (λd ρ=>cv (.tp [2,3]) d ρ) (λρ=>bI Φ DP ρ) (ps.map rM) [c0,c1,c2,c3]=ok (.nx,[c0,c1,Lr,F6])
 |[],c2,c3,_=>⟨c2,c3,rfl⟩
 |p::ps,c2,c3,h=>by
  obtain⟨Lr,F6,ih⟩:=xW Φ Rb c0 c1 ps (some (rD p.1)) (some (.lst .fz (bp p.2))) λs hs=>h s (aag _ hs);have h1:=h p aai;have e:=λf=>Rb (.lst f (bp p.2)) p.1.2.length (by show(bp p.2).length<=1000000;simp;left);simp only[CN,h1.1,decide_true]at e;have e1:rD p.1=.tup [qD p.1.1,.tup (af p.1.2)]:=rfl;refine⟨Lr,F6,dH (ρ1:=[c0,c1,some (rD p.1),some (.lst .fz (bp p.2))]) (by simp[rM]) (ρ2:=[c0,c1,some (rD p.1),some (.lst .fz (bp p.2))]) ?_ ih⟩;simp[DP,e1,e]
theorem Su(Φ:aY)(Rb:eK (Φ 40))(gm:Φ 1000=oq):CT (mk Φ 2 4 Ga):=by
 intro j n ps xs K;have hn:=K.NW;obtain⟨c2,c3,e⟩:=xW Φ Rb (some (.lst .fz (cV .fz ps))) (some (.lst .fz (bM (aV ps)))) ps none none λp hp=>⟨K.ln p hp,by have:=(K.rw hp).2.1;have:=K.ln p hp;left⟩
 have hit:=zN gm 1 0 ps (ρ:=[some (.lst .fz (cV .fz ps)),some (.lst .fz (bM (aV ps))),none,none]) (by simp) (by simp);have hf:=e9 (Φ:=Φ) (t:=.tp [2,3]) (b:=DP) hit e;have RP:∀f ds,dF .list (.lst f ds)=true:=λ_ _=>rfl;simp[mk_eq,Ga,RP,hf]
noncomputable def Lb:CE:=.comp 2 (.tp [0,1]) [2] (.b9 1015) [(.ix (.v 4) (.int 1)),(.v 5)] [] (.call 6 [(.v 1),(.ix (.v 2) (.v 0))])
def DL:ah:=[.app 3 (.call 42 [Lb])]
def F9:ah:=[.asg (.nm 3) (.lst []),.fr (.tp [4,5]) (.ux 1000 [(.v 0),(.v 1)]) DL,.ret (.call 41 [(.v 3)])]
def Gi(m:az):Prop:=∀j n ps xs,Rk j n ps xs->m [.lst .fz (bM (aV ps)),.lst .fz (cV .fz ps),.lst .fz (bp xs)]=ok (.tup [.int (bH (ps.map (bV xs))),.lst .ow (af ((ps.map (bV xs)).map (ba (bH (ps.map (bV xs))))))])
theorem Ef(Φ:aY)(h6:gH (Φ 6))(iy:Φ 1015=lu){j n:Nat}{qs:List Rg}{xs:au}(K:Rk j n qs xs){p:Rg}(hp:p∈qs)(c0 c1 c3:aH):bw Φ Lb [c0,c1,some (.lst .fz (bp xs)),c3,some (rD p.1),some (.lst .fz (bp p.2))]=ok (.lst .ow (bp ((p.1.2.zip p.2).map λz=>z.2*jQ xs z.1))):=by
 have hl:=(K.rw hp).2.1;have hn:=K.NW;have hz:df Φ (.b9 1015) [.tup (af p.1.2),.lst .fz (bp p.2)]=ok ((p.1.2.zip p.2).map λz=>.tup [.int z.1,qD z.2]):=by
  show bd (Φ 1015 _) i_=_;rw[iy];show ok (aB aW (List.zipWith (λx y=>D.tup [x,y]) (af p.1.2) (bp p.2)))=_;have:=cz aW (af p.1.2) (bp p.2);rw[s_,b_]at this;refine aaU ok (aco this ?_);unfold bp af;rw[List.zipWith_map,List.zip,List.map_zipWith];rfl
 unfold Lb;have e1:rD p.1=.tup [qD p.1.1,.tup (af p.1.2)]:=rfl;rw[cR (xs:=[.tup (af p.1.2),.lst .fz (bp p.2)]) (by simp[e1]) hz (ds:=(p.1.2.zip p.2).map λz=>qD (z.2*jQ xs z.1)) (bO λz hz=>?_) (by simp;exact cc (by left))]
 ·simp[bp,aQ]
 ·have m:=aaO hz;obtain⟨a1,a2⟩:=K.at hp m.1;have e:=h6 z.2 (jQ xs z.1) ((K.sw p hp _ m.2).mono (by have:=K.Wz;left)) (a2.mono (by decide));exact⟨[some (.int z.1),some (qD z.2),some (.lst .fz (bp xs))],by simp[bF],by simp,by simp[a1,e]⟩
theorem wA(Φ:aY)(h6:gH (Φ 6))(C_:dI (Φ 42))(iy:Φ 1015=lu){j n:Nat}{qs:List Rg}{xs:au}(K:Rk j n qs xs)(c0 c1:aH):∀(ps:List Rg) (acc:au) (c4 c5:aH),(∀p∈ps,p∈qs)->acc.length+ps.length<=100 ->
  ∃Lq CG,dN (λd ρ=>cv (.tp [4,5]) d ρ) (λρ=>bI Φ DL ρ) (ps.map rM) [c0,c1,some (.lst .fz (bp xs)),some (.lst .ow (bp acc)),c4,c5]=ok (.nx,[c0,c1,some (.lst .fz (bp xs)),some (.lst .ow (bp (acc++ps.map (bV xs)))),Lq,CG])
 |[],acc,c4,c5,_,_=>⟨c4,c5,by simp[qN]⟩
 |p::ps,acc,c4,c5,h,hl=>by
  rw[List.length_cons]at hl;obtain⟨Lq,CG,ih⟩:=wA Φ h6 C_ iy K c0 c1 ps (acc++[bV xs p]) (some (rD p.1)) (some (.lst .fz (bp p.2))) (λs hs=>h s (aag _ hs)) (by simp;left);have hp:=h p aai;have e1:=Ef Φ h6 iy K hp c0 c1 (some (.lst .ow (bp acc)));have e2:=λf=>C_ f _ (j+3) (K.AG hp);change ∀f,Φ 42 _=ok (qD (bV xs p))at e2;have hc:acc.length<cL:=by show _<1000000;left
  have ea:bp acc++[qD (bV xs p)]=bp (acc++[bV xs p]):=by simp[bp]
  refine⟨Lq,CG,dH (ρ1:=[c0,c1,some (.lst .fz (bp xs)),some (.lst .ow (bp acc)),some (rD p.1),some (.lst .fz (bp p.2))]) (by simp[rM]) (ρ2:=[c0,c1,some (.lst .fz (bp xs)),some (.lst .ow (bp (acc++[bV xs p]))),some (rD p.1),some (.lst .fz (bp p.2))]) ?_ (ih.trans (by simp))⟩;simp[DL,e1,e2,ea,hc]
theorem Sq(Φ:aY)(h6:gH (Φ 6))(U6:jE (Φ 41))(C_:dI (Φ 42))(gm:Φ 1000=oq)(iy:Φ 1015=lu):Gi (mk Φ 3 6 F9):=by
 intro j n ps xs K;have hf:=K.lI;obtain⟨c4,c5,e⟩:=wA Φ h6 C_ iy K (some (.lst .fz (bM (aV ps)))) (some (.lst .fz (cV .fz ps))) ps [] none none (λ_ h=>h) (by simp;left);have q0:bp []=[]:=rfl;rw[List.nil_append,q0]at e;have hit:=zN gm 0 1 ps (ρ:=[some (.lst .fz (bM (aV ps))),some (.lst .fz (cV .fz ps)),some (.lst .fz (bp xs)),some (.lst .ow []),none,none]) (by simp) (by simp);have hx:=e9 (Φ:=Φ) (t:=.tp [4,5]) (b:=DL) hit e;have eo:=λf=>U6 f _ 126 K.CZ;simp[mk_eq,F9,hx,eo]
def ja(ps:List Rg)(xs:au):Rat:=(ps.map λp=>p.1.1*bV xs p).sum
def kY(ps:List Rg)(xs:au):Rat:=(ps.map λp=>p.1.1*(bV xs p*bV xs p)).sum
def Ld(ps:List Rg)(xs:au)(m:Rat):Rat:=(ps.map λp=>p.1.1*((bV xs p - m)*(bV xs p - m))).sum
theorem uL{b c:Nat}(xs:au):∀(ps:List Rg),(∀p∈ps,p.1.1.den∣b/\(bV xs p).den∣c) ->
  ((gX b (aV ps) ((ps.map (bV xs)).map (ba c)):Int):Rat)=ja ps xs*((b:Rat)*(c:Rat))/\((sk b (aV ps) ((ps.map (bV xs)).map (ba c)):Int):Rat)=kY ps xs*((b:Rat)*((c:Rat)*(c:Rat)))
 |[],_=>by constructor<;>simp[gX,sk,ja,kY,aV,Rat.zero_mul]
 |p::ps,h=>by
  obtain⟨i1,i2⟩:=uL xs ps λs hs=>h s (aag _ hs);obtain⟨d1,d2⟩:=h p aai;have e1:gX b (aV (p::ps)) (((p::ps).map (bV xs)).map (ba c))=ba b p.1.1*ba c (bV xs p)+gX b (aV ps) ((ps.map (bV xs)).map (ba c)):=rfl;have e2:sk b (aV (p::ps)) (((p::ps).map (bV xs)).map (ba c))=ba b p.1.1*ba c (bV xs p)*ba c (bV xs p)+sk b (aV ps) ((ps.map (bV xs)).map (ba c)):=rfl;have e3:ja (p::ps) xs=p.1.1*bV xs p+ja ps xs:=by unfold ja;rw[List.map_cons,List.sum_cons]
  have e4:kY (p::ps) xs=p.1.1*(bV xs p*bV xs p)+kY ps xs:=by unfold kY;rw[List.map_cons,List.sum_cons]
  constructor
  ·rw[e1,e3,Rat.intCast_add,Rat.intCast_mul,fb d1,fb d2,i1];grind
  ·rw[e2,e4,Rat.intCast_add,Rat.intCast_mul,Rat.intCast_mul,fb d1,fb d2,i2];grind
theorem Ck(xs:au)(m:Rat):∀ps:List Rg,Ld ps xs m=kY ps xs - 2*m*ja ps xs+m*m*(dM (aV ps)).sum
 |[]=>by show(0:Rat)=0 - 2*m*0+m*m*0;grind
 |p::ps=>by
  have ih:=Ck xs m ps;have e1:Ld (p::ps) xs m=p.1.1*((bV xs p - m)*(bV xs p - m))+Ld ps xs m:=by unfold Ld;rw[List.map_cons,List.sum_cons]
  have e3:ja (p::ps) xs=p.1.1*bV xs p+ja ps xs:=by unfold ja;rw[List.map_cons,List.sum_cons]
  have e4:kY (p::ps) xs=p.1.1*(bV xs p*bV xs p)+kY ps xs:=by unfold kY;rw[List.map_cons,List.sum_cons]
  have e5:(dM (aV (p::ps))).sum=p.1.1+(dM (aV ps)).sum:=rfl;rw[e1,e3,e4,e5,ih];grind
section
variable {j n:Nat}{ps:List Rg}{xs:au}(K:Rk j n ps xs)
include K
theorem Rk.Rq:Ld ps xs (ja ps xs)=kY ps xs - ja ps xs*ja ps xs:=by
 have h1:(dM (aV ps)).sum=1:=K.dr.one;rw[Ck,h1];grind
theorem Rk.PV:∀p∈ps,p.1.1.den∣bH (dM (aV ps))/\(bV xs p).den∣bH (ps.map (bV xs)):=λp hp =>
 ⟨K.dr.bot.2.2 _ (aay (aay hp)),K.CZ.lcm.2.2 _ (aay hp)⟩
theorem Rk.Tu:Rat.divInt (gX (bH (dM (aV ps))) (aV ps) ((ps.map (bV xs)).map (ba (bH (ps.map (bV xs)))))) ((bH (dM (aV ps)):Int)*(bH (ps.map (bV xs)):Int))=ja ps xs:=by
 have t:=(uL xs ps K.PV).1;have z1:=ju K.dr.bot.1;have z2:=ju K.CZ.lcm.1;rw[Rat.divInt_eq_div,t,Rat.intCast_mul,Rat.intCast_natCast,Rat.intCast_natCast];generalize ((bH (dM (aV ps)):Nat):Rat)=B at *;generalize ((bH (ps.map (bV xs)):Nat):Rat)=C at *;grind
theorem Rk.spread:j3 (bH (dM (aV ps))) (bH (ps.map (bV xs))) (aV ps) ((ps.map (bV xs)).map (ba (bH (ps.map (bV xs)))))=Ld ps xs (ja ps xs):=by
 obtain⟨t,q⟩:=uL xs ps K.PV;have z1:=ju K.dr.bot.1;have z2:=ju K.CZ.lcm.1;rw[K.Rq];unfold j3;rw[Rat.divInt_eq_div];simp only[Rat.intCast_sub,Rat.intCast_mul,Rat.intCast_natCast,t,q];generalize ((bH (dM (aV ps)):Nat):Rat)=B at *;generalize ((bH (ps.map (bV xs)):Nat):Rat)=C at *;generalize ja ps xs=m at *;generalize kY ps xs=s at *;grind
theorem Rk.tops:∀g∈(ps.map (bV xs)).map (ba (bH (ps.map (bV xs)))),g.natAbs<2 ^ 2000:=λg hg=>by
 obtain⟨q,hq,rfl⟩:=List.mem_map.mp hg;have s:=K.CZ.sm q hq;have c3:=K.CZ.lcm.2.1;have hl:=K.lI;rw[List.length_map]at c3;unfold ba;rw[Int.natAbs_mul];have f1:((bH (ps.map (bV xs)):Int).fdiv q.den).natAbs<=bH (ps.map (bV xs)):=by
  rw[Int.fdiv_eq_ediv_of_nonneg _ (by left)];have:=Int.natAbs_ediv_le_natAbs (bH (ps.map (bV xs)):Int) (q.den:Int);simpa using this
 exact aal (bq s.1 (aaE f1 c3)) (aaw (by decide) (by left))
theorem Rk.VE:bH (ps.map (bV xs))<2 ^ 2000:=by
 have hl:=K.lI;have c3:=K.CZ.lcm.2.1;rw[List.length_map]at c3;exact aal c3 (aaw (by decide) (by left))
end
noncomputable def uk(f:Nat):ah:=[.ex (.call 73 [(.v 0)]),.ex (.call 74 [(.v 1),(.ix (.v 0) (.int 1))]),.ex (.call 47 [(.v 2),(.ix (.v 0) (.int 0))]),.ret (.call f [(.ix (.v 0) (.int 1)),(.call 75 [(.ix (.v 0) (.int 1)),(.v 1),(.v 2)])])]
def zx(g:List Rg->au->Rat)(m:az):Prop:=∀j n ps xs,Rk j n ps xs->m [bN n (aV ps),.lst .fz (cV .fz ps),.lst .fz (bp xs)]=ok (qD (g ps xs))
def js(ps:List Rg)(xs:au):Rat:=Ld ps xs (ja ps xs)
theorem GO(Φ:aY){f:Nat}{g:List Rg->au->Rat}(Pc:kH 4 lp (Φ 47))(Kk:n8 (Φ 73))(Kj:CT (Φ 74))(Pa:Gi (Φ 75))(hf:∀j n ps xs,Rk j n ps xs->Φ f [.lst .fz (bM (aV ps)),.tup [.int (bH (ps.map (bV xs))),.lst .fz (af ((ps.map (bV xs)).map (ba (bH (ps.map (bV xs))))))]]=ok (qD (g ps xs))):zx g (mk Φ 3 3 (uk f)):=by
 intro j n ps xs K;have hn:=K.NW;have l2:=K.l2;have e1:=Kk 6 n _ K.dr;have e2:=Kj j n ps xs K;have e3:=λf=>Pc (.lst f (bp xs)) n (by show(bp xs).length<=1000000;simp;left);simp only[CN,l2,decide_true,if_true]at e3;have e4:=Pa j n ps xs K;have e5:=hf j n ps xs K;have m1:aT aW (bN n (aV ps))=bN n (aV ps):=by simp[bN]
 have m2:aT bo (bN n (aV ps))=bN n (aV ps):=by simp[bN]
 have hd:bN n (aV ps)=.tup [.int n,.lst .fz (bM (aV ps))]:=rfl;have x0:uy (bN n (aV ps)) (.int 0)=ok (.int n):=by rw[hd];simp
 have x1:uy (bN n (aV ps)) (.int 1)=ok (.lst .fz (bM (aV ps))):=by rw[hd];simp
 generalize bH (ps.map (bV xs))=c at *;generalize (ps.map (bV xs)).map (ba c)=ts at *;simp[mk_eq,uk,m1,m2,x0,x1,e1,e2,e3,e4,e5]
theorem So(Φ:aY)(Pc:kH 4 lp (Φ 47))(ZR:pZ (Φ 49))(Kk:n8 (Φ 73))(Kj:CT (Φ 74))(Pa:Gi (Φ 75)):zx ja (mk Φ 3 3 (uk 49)) :=
 GO Φ Pc Kk Kj Pa λj n ps xs K=>by
  have:=ZR 6 n (aV ps) ((ps.map (bV xs)).map (ba (bH (ps.map (bV xs))))) (bH (ps.map (bV xs))) K.dr (by simp) K.CZ.lcm.1 K.CZ.ET;rw[K.Tu]at this;exact this
theorem M5(Φ:aY)(Pc:kH 4 lp (Φ 47))(ZQ:lM (Φ 50))(Kk:n8 (Φ 73))(Kj:CT (Φ 74))(Pa:Gi (Φ 75)):zx js (mk Φ 3 3 (uk 50)) :=
 GO Φ Pc Kk Kj Pa λj n ps xs K=>by
  have:=ZQ 6 n (aV ps) ((ps.map (bV xs)).map (ba (bH (ps.map (bV xs))))) (bH (ps.map (bV xs))) K.dr (by simp) K.CZ.lcm.1 K.VE K.tops;rw[K.spread]at this;exact this
noncomputable def zr(f:Nat):ah:=[.ex (.call 17 [(.v 0)]),.ret (.call f [(.v 0),(.v 1),(.v 2)])]
def Lz(g:List Rg->au->Rat)(m:az):Prop:=∀j n ps xs,Rk j n ps xs->Dr 6 n (aV ps)->m [bN n (aV ps),.lst .fz (cV .fz ps),.lst .fz (bp xs)]=ok (qD (g ps xs))
theorem M7(Φ:aY){f:Nat}{g:List Rg->au->Rat}(ZU:n9 (Φ 17))(hf:zx g (Φ f)):Lz g (mk Φ 3 3 (zr f)):=by
 intro j n ps xs K I;have e1:=ZU 6 n _ I;have e2:=hf j n ps xs K;have m1:aT aW (bN n (aV ps))=bN n (aV ps):=by simp[bN]
 have m2:aT bo (bN n (aV ps))=bN n (aV ps):=by simp[bN]
 simp[mk_eq,zr,m1,m2,e1,e2]
theorem Kr{α:Type}{l:List α}{j:Nat}(h:j<l.length):∃x,l[j]?=some x/\x∈l:=⟨l[j],aao h,abM h⟩
section
variable {n W:Nat}{ps:List Rg}{xs:au}(K:Rk 3 n ps xs)
include K
end
theorem HI{i j:Nat}{e:CE}{z:Int}{ns ms:aa}{m:Nat}(h1:bw Φ e ρ=ok (.int z))(hi:ρ[i]?=some (some (.tup (af ns))))(hj:ρ[j]?=some (some (.lst .ow (af ms))))(hm:tF ms.length z=some m)(l1:ns.length<1000)(l2:ms.length<1000)(gS:i≠j):
  k_ Φ (.pop2 i j e) ρ=ok (.nx,(ρ.set j (some (.lst .ow (af (ms.eraseIdx m))))).set i (some (.tup (af (ns++[ms.getD m 0]))))):=by
 show bd (bd (bw Φ e ρ) intD) (pd i j ρ)=_;rw[h1];show pd i j ρ z=_;unfold pd;rw[hi,hj];unfold af at *;simp only[u_,bh,hm,if_pos (And.intro l1 (And.intro l2 gS))]
theorem nN:∀(l:aa) (m:Nat) (h:m<l.length),(l[m]::l.eraseIdx m).Perm l
 |[],_,h=>by cases h
 |x::l,0,_=>List.Perm.refl _
 |x::l,m+1,h=>by
  have hm:m<l.length:=by simpa using h
  show(l[m]::x::l.eraseIdx m).Perm (x::l);exact(List.Perm.swap ..).trans ((nN l m hm).cons x)
structure Pk(n:Nat)(row left:aa):Prop where
 pm:(row++left).Perm (oV n)
variable {left row:aa}
theorem Pk.ln{n:Nat}(h:Pk n row left):row.length+left.length=n:=by
 have:=h.pm.length_eq;rw[DF,List.length_append]at this;exact this
theorem Pk.rw{n:Nat}{row left:aa}(h:Pk n row left):Rw n row:=by
 have hl:=h.ln;have nd:(oV (n:Int)).Nodup:=by
  unfold oV List.Nodup;rw[Int.toNat_natCast,List.pairwise_map];exact List.nodup_range.imp λh z=>h (by left)
 refine⟨(List.nodup_append.mp (h.pm.nodup_iff.mpr nd)).1,by left,λx hx=>?_⟩;obtain⟨k,hk,rfl⟩:=DE.mp (h.pm.mem_iff.mp (aaI _ hx));left
theorem Pk.pop{n:Nat}(h:Pk n row left){m:Nat}(hm:m<left.length):Pk n (row++[left.getD m 0]) (left.eraseIdx m):=by
 refine⟨List.Perm.trans ?_ h.pm⟩;rw[List.append_assoc];refine List.Perm.append_left _ ?_;have:left.getD m 0=left[m]:=by rw[List.getD_eq_getElem?_getD,List.getElem?_eq_getElem hm];rfl
 rw[this];exact nN left m hm
noncomputable def wb:ah:=[.asg (.nm 6) (.bin .fdiv (.v 6) (.int 5)),.pop2 8 7 (.bin .mod (.v 6) (.bf .len [(.v 7)]))]
theorem sM(Φ:aY){n:Nat}(hn:n<=12)(c0 c1 c2 c3 c4 c5 jC:aH):∀(ks:ab) (row left:aa) (N:Int) (c9:aH),Pk n row left->row.length+ks.length<=n ->
  ∃Ed Bq N' xY,dN (λd ρ=>cv (.nm 9) d ρ) (λρ=>bI Φ wb ρ) ks [c0,c1,c2,c3,c4,c5,some (.int N),some (.lst .ow (af left)),some (.tup (af row)),c9,jC] =
   ok (.nx,[c0,c1,c2,c3,c4,c5,some (.int N'),some (.lst .ow (af Bq)),some (.tup (af Ed)),xY,jC])/\Rw n Ed
 |[],row,left,N,c9,h,_=>⟨row,left,N,c9,rfl,h.rw⟩
 |k::ks,row,left,N,c9,h,hl=>by
  rw[List.length_cons]at hl;have xo:=h.ln;obtain⟨f1,f2⟩:=eT (N.fdiv 5) (b:=(left.length:Int)) (by left);have hm:tF left.length ((N.fdiv 5).fmod left.length)=some ((N.fdiv 5).fmod left.length).toNat:=by
   unfold tF;rw[if_pos f1,if_pos f2]
  obtain⟨Ed,Bq,N',xY,ih,hr⟩:=sM Φ hn c0 c1 c2 c3 c4 c5 jC ks _ _ (N.fdiv 5) (some k) (h.pop (m:=((N.fdiv 5).fmod left.length).toNat) (by left)) (by rw[List.length_append,List.length_singleton];left);have e1:cX .mod (.int (N.fdiv 5)) (.int left.length)=ok (.int ((N.fdiv 5).fmod left.length)):=Hw (by left);have x1:=HI (Φ:=Φ) (i:=8) (j:=7) (e:=.bin .mod (.v 6) (.bf .len [(.v 7)])) (ρ:=[c0,c1,c2,c3,c4,c5,some (.int (N.fdiv 5)),some (.lst .ow (af left)),some (.tup (af row)),some k,jC]) (z:=(N.fdiv 5).fmod left.length) (ns:=row) (ms:=left) (by simp[e1]) rfl rfl hm (by left) (by left) (by decide);refine⟨Ed,Bq,N',xY,?_,hr⟩;refine dH (ρ1:=[c0,c1,c2,c3,c4,c5,some (.int N),some (.lst .ow (af left)),some (.tup (af row)),some k,jC]) (by simp) (ρ2:=[c0,c1,c2,c3,c4,c5,some (.int (N.fdiv 5)),some (.lst .ow (af (left.eraseIdx ((N.fdiv 5).fmod left.length).toNat))),some (.tup (af (row++[left.getD ((N.fdiv 5).fmod left.length).toNat 0]))),some k,jC]) ?_ ih;simp[wb];rw[x1];rfl
noncomputable def q_:CS:=.mut 1033 4 [(.bin .add (.bin .add (.b9 1031 [(.v 4),(.v 8),(.int 0)]) (.int 1)) (.bin .mod (.bin .fdiv (.v 6) (.int 64)) (.int 5))),(.v 8)]
noncomputable def p_:ah:=[.asg (.nm 6) (.call 200 [(.v 0),(.bin .add (.bin .add (.v 1) (.int 1)) (.v 5))]),.asg (.nm 7) (.b9 1041 [(.v 3)]),.asg (.nm 8) (.tup [])]
def Aa:ah:=[.fr (.nm 9) (.kZ (.bin .mod (.v 6) (.bin .add (.v 3) (.int 1)))) wb,q_]
def Ab:ah:=p_++Aa
noncomputable def K_:CE:=.comp 1 (.nm 0) [4] (.b9 1100) [(.v 4)] [] (.b9 1032 [(.v 1),(.v 0)])
noncomputable def La:CE:=.comp 1 (.nm 0) [10,4] .seq [(.b9 1035 [(.v 4)])] [] (.tup [(.call 201 [(.b9 1032 [(.v 2),(.v 0)]),(.v 1)]),(.v 0)])
def rb:ah:=[.asg (.nm 2) (.call 200 [(.v 0),(.v 1)]),.asg (.nm 3) (.bin .add (.int 1) (.bin .mod (.v 2) (.int 4))),.asg (.nm 2) (.bin .fdiv (.v 2) (.int 4)),.asg (.nm 4) (.b9 1030 []),.fr (.nm 5) (.kZ (.bin .add (.int 1) (.bin .mod (.v 2) (.int 8)))) Ab,.asg (.nm 10) (.bf .gY [K_]),.ret (.tup [(.v 3),La])]
theorem sL(Φ:aY)(P:CW Φ)(xu:Φ 1041=LR)(oK:n_ (Φ 200))(ns:aa){a:Int}(ha:0<=a){n:Nat}(hn:n<=12)(c2:aH):∀(k j:Nat) (cs:ag) (ws:aa) (c5 c6 c7 c8 c9:aH),Tab (Rw n) j cs ws->j+k<=8 ->
  ∃Ho Qm CG Lp Lo F5 xY,dN (λd ρ=>cv (.nm 5) d ρ) (λρ=>bI Φ Ab ρ) ((List.range' j k).map λ(i:Nat)=>D.int (i:Int)) [some (.lst .sc (af ns)),some (.int a),c2,some (.int n),some (.bU .ow cs (af ws)),c5,c6,c7,c8,c9,none] =
   ok (.nx,[some (.lst .sc (af ns)),some (.int a),c2,some (.int n),some (.bU .ow Ho (af Qm)),CG,Lp,Lo,F5,xY,none])/\Tab (Rw n) (j+k) Ho Qm
 |0,j,cs,ws,c5,c6,c7,c8,c9,T,_=>⟨cs,ws,c5,c6,c7,c8,c9,rfl,T⟩
 |k+1,j,cs,ws,c5,c6,c7,c8,c9,T,hj=>by
  have e1:=oK ns (a+1+j) (by left);have e2:Φ 1041 [.int (n:Int)]=ok (.lst .ow (af (oV n))):=by
   rw[xu];show(if (n:Int)<=cL /\ -cL<=(n:Int)then ok (D.lst .ow ((oV n).map D.int))else none)=_;have:(cL:Int)=1000000:=rfl;rw[if_pos (by left)];rfl
  generalize iE ns (a+1+j)=N at *;obtain⟨t1,t2⟩:=eT N (b:=(n:Int)+1) (by left);obtain⟨q,hq⟩:∃q:Nat,N.fmod ((n:Int)+1)=(q:Int):=⟨(N.fmod ((n:Int)+1)).toNat,by left⟩
  have e3:cX .mod (.int N) (.int ((n:Int)+1))=ok (.int q):=by rw[<- hq];exact Hw (by left)
  obtain⟨row,left,N',xY,el,hr⟩:=sM Φ hn (some (.lst .sc (af ns))) (some (.int a)) c2 (some (.int n)) (some (.bU .ow cs (af ws))) (some (.int j)) none ((List.range q).map λ(i:Nat)=>D.int (i:Int)) [] (oV n) N c9 ⟨List.Perm.refl _⟩ (by simp;left);have hit:=EZ (Φ:=Φ) (a:=.bin .mod (.v 6) (.bin .add (.v 3) (.int 1))) (ρ:=[some (.lst .sc (af ns)),some (.int a),c2,some (.int n),some (.bU .ow cs (af ws)),some (.int j),some (.int N),some (.lst .ow (af (oV n))),some (.tup (af [])),c9,none]) (n:=q) (by simp[e3]) (by left) (by left);rw[Int.toNat_natCast]at hit;have hf:=e9 (Φ:=Φ) (t:=.nm 9) (b:=wb) hit el;obtain⟨f1,f2⟩:=eT (N'.fdiv 64) (b:=5) (by decide);have hw:bR cs ws row+1+(N'.fdiv 64).fmod 5=bR cs ws row+(1+(N'.fdiv 64).fmod 5):=by left
  have T':=T.put hr (i:=1+(N'.fdiv 64).fmod 5) (by left) (by left);obtain⟨Ho,Qm,CG,Lp,Lo,F5,VB,ih,T''⟩:=sL Φ P xu oK ns ha hn c2 k (j+1) _ _ (some (.int j)) (some (.int N')) (some (.lst .ow (af left))) (some (.tup (af row))) xY T' (by left);have g1:=λf=>Lh P f cs ws row;have hfw:=T.lI;have g2:=Le P (cs:=cs) (by left) ws row (bR cs ws row+(1+(N'.fdiv 64).fmod 5));have x1:k_ Φ q_ [some (.lst .sc (af ns)),some (.int a),c2,some (.int n),some (.bU .ow cs (af ws)),some (.int j),some (.int N'),some (.lst .ow (af left)),some (.tup (af row)),xY,none]=ok (.nx,[some (.lst .sc (af ns)),some (.int a),c2,some (.int n),some (.bU .ow (aL cs row) (af (bC cs ws row (bR cs ws row+(1+(N'.fdiv 64).fmod 5))))),some (.int j),some (.int N'),some (.lst .ow (af left)),some (.tup (af row)),xY,none]):=by
   unfold q_;refine(zR (xs:=[.int (bR cs ws row+(1+(N'.fdiv 64).fmod 5)),.tup (af row)]) (d:=.bU .ow cs (af ws)) ?_ (by simp) rfl g2).trans rfl;simp[g1,hw]
  refine⟨Ho,Qm,CG,Lp,Lo,F5,VB,?_,by rw[show j+(k+1)=j+1+k by left];exact T''⟩;rw[List.range'_succ,List.map_cons];have i0:af []=[]:=rfl;have ga:bI Φ p_ [some (.lst .sc (af ns)),some (.int a),c2,some (.int n),some (.bU .ow cs (af ws)),some (.int j),c6,c7,c8,c9,none]=ok (.nx,[some (.lst .sc (af ns)),some (.int a),c2,some (.int n),some (.bU .ow cs (af ws)),some (.int j),some (.int N),some (.lst .ow (af (oV n))),some (.tup (af [])),c9,none]):=by
   simp[p_,e1,e2,i0]
  refine dH (ρ1:=[some (.lst .sc (af ns)),some (.int a),c2,some (.int n),some (.bU .ow cs (af ws)),some (.int j),c6,c7,c8,c9,none]) (by simp) (ρ2:=[some (.lst .sc (af ns)),some (.int a),c2,some (.int n),some (.bU .ow (aL cs row) (af (bC cs ws row (bR cs ws row+(1+(N'.fdiv 64).fmod 5))))),some (.int j),some (.int N'),some (.lst .ow (af left)),some (.tup (af row)),xY,none]) ((eP Φ p_ _ _ _ ga).trans ?_) ih;rw[Aa,bW,hf];show mT Φ [] (k_ Φ q_ _)=_;rw[x1];rfl
def CQ(m:az):Prop:=∀(ns:aa) (a:Int),0<=a->∃n rs,n<=4/\Dp (Rw n) 6 n rs/\rK rs/\m [.lst .sc (af ns),.int a]=ok (iX .ow n rs)
theorem Iu(Φ:aY)(P:CW Φ)(xu:Φ 1041=LR)(oK:n_ (Φ 200))(yX:i7 (Φ 201)):CQ (mk Φ 2 11 rb):=by
 intro ns a ha;have e1:=oK ns a ha;generalize iE ns a=N at *;obtain⟨f1,f2⟩:=eT N (b:=4) (by left);obtain⟨n,hn⟩:∃n:Nat,1+N.fmod 4=(n:Int):=⟨(1+N.fmod 4).toNat,by left⟩
 obtain⟨g1,g2⟩:=eT (N.fdiv 4) (b:=8) (by decide);obtain⟨k,hk⟩:∃k:Nat,1+(N.fdiv 4).fmod 8=(k:Int):=⟨(1+(N.fdiv 4).fmod 8).toNat,by left⟩
 have T0:Tab (Rw n) 0 [] []:=⟨aaR,rfl,aam _,(λ_ h=>nomatch h),(λ_ h=>nomatch h),by simp,λh=>by left⟩
 obtain⟨cs,ws,c5,c6,c7,c8,c9,el,T⟩:=sL Φ P xu oK ns ha (n:=n) (by left) (some (.int (N.fdiv 4))) k 0 [] [] none none none none none T0 (by left);rw[Nat.zero_add]at T;have D6:=T.dr (n:=n) (by left) (by left) (by left) (by left);have J4:Φ 1030 []=ok (.bU .ow [] []):=by rw[P.B3];rfl
 have i0:af []=[]:=rfl;rw[i0]at el;have hit:cJ Φ (.kZ (.bin .add (.int 1) (.bin .mod (.v 2) (.int 8)))) [some (.lst .sc (af ns)),some (.int a),some (.int (N.fdiv 4)),some (.int n),some (.bU .ow [] []),none,none,none,none,none,none]=ok ((List.range' 0 k).map λ(i:Nat)=>D.int (i:Int),[some (.lst .sc (af ns)),some (.int a),some (.int (N.fdiv 4)),some (.int n),some (.bU .ow [] []),none,none,none,none,none,none]):=by
  rw[EZ (n:=k) (by simp[hk]) (by left) (by left),Int.toNat_natCast,List.range_eq_range']
 have hf:=e9 (Φ:=Φ) (t:=.nm 5) (b:=Ab) hit el;have hp:(bc cs).Perm cs:=aaC _ _;have lH:∀f,df Φ (.b9 1100) [.bU f cs (af ws)]=ok (cs.map dQ):=λf=>by
  show bd (Φ 1100 _) i_=_;rw[P.Pj];show ok (aB aW (cs.map dQ))=_;rw[eE]
 have hfew:=T.lI;have OB:∀c,dQ c=.tup (af c):=λ_=>rfl;have s1:∀r,bw Φ K_ [some (.lst .sc (af ns)),some (.int a),some (.int (N.fdiv 4)),some (.int n),some (.bU .ow cs (af ws)),c5,c6,c7,c8,c9,r]=ok (.lst .ow (af (cs.map (bR cs ws)))):=λr=>by
  unfold K_;rw[cR (xs:=[.bU .al cs (af ws)]) (by simp) (lH _) (ds:=cs.map λc=>.int (bR cs ws c)) (bO λc hc=>?_) (by simp;exact cc (by left))]
  ·simp[af,aQ]
  ·have e:=Hn P .fz T.ln hc;exact⟨[some (.tup (af c)),some (.bU .fz cs (af ws))],by simp[bF,OB],by simp,by simp[e]⟩
 rw[m8 T.nd T.ln]at s1;have s2:kM .gY [.lst .ow (af ws)]=ok (.int ws.sum):=by
  show(match intsOf (af ws)with|some ns=>ok (D.int ns.sum)|none=>none)=_;unfold af;rw[bh]
 have hW:1<=ws.sum/\ws.sum<=56:=by
  have hs:=T.sum;refine⟨?_,by left⟩;obtain⟨c,hc⟩:=abw cs (T.ne (by left));obtain⟨w,e,m⟩:=iW T.ln hc;have:=T.pos w m;have:=T.w5 w m;left
 refine⟨n,lQ cs ws,by left,D6,⟨ws.sum.toNat,by left,by left,λr hr=>?_⟩,?_⟩
 ·unfold lQ at hr;obtain⟨c,_,rfl⟩:=List.mem_map.mp hr;have h:ws.sum=((ws.sum.toNat:Nat):Int):=by left
  show(Rat.divInt (bR cs ws c) ws.sum).den∣_;have d:=nX (t:=bR cs ws c) (b:=ws.sum) (by left)
  rwa [show ws.sum.natAbs=ws.sum.toNat by left]at d
 have Oz:∀f,Φ 1035 [.bU f cs (af ws)]=ok (.lst .ow ((bc cs).map dQ)):=λf=>by
  rw[P.BY];show(if cs.length<64 then ok (D.lst .ow ((bc cs).map dQ))else none)=_;rw[if_pos (by left)]
 have s3:bw Φ La [some (.lst .sc (af ns)),some (.int a),some (.int (N.fdiv 4)),some (.int n),some (.bU .ow cs (af ws)),c5,c6,c7,c8,c9,some (.int ws.sum)]=ok (.lst .ow (bM (lQ cs ws))):=by
  unfold La;rw[cR (xs:=[.lst .ow ((bc cs).map dQ)]) (by simp[Oz]) (items:=(bc cs).map dQ) (by rw[fF,eE]) (ds:=(bc cs).map λc=>rD (Rat.divInt (bR cs ws c) ws.sum,c)) (bO λc hc=>?_) (by rw[List.length_map];exact cc (by rw[hp.length_eq];left))]
  ·have:((bc cs).map λc=>rD (Rat.divInt (bR cs ws c) ws.sum,c))=bM (lQ cs ws):=by unfold bM lQ;rw[List.map_map];rfl
   rw[this,j8]
  ·have e:=Hn P .fz T.ln (hp.mem_iff.mp hc);have e':=yX (bR cs ws c) ws.sum (by left) (vg (by left));exact⟨[some (.tup (af c)),some (.int ws.sum),some (.bU .fz cs (af ws))],by simp[bF,OB],by simp,by simp[e,e',rD]⟩
 simp[mk_eq,rb,e1,hn,J4];rw[hf];simp[s1,s2,s3,iX]
noncomputable def xJ:CE:=.comp 1 (.nm 0) [0,1,2] .kZ [(.bf .len [(.ix (.v 2) (.int 1))])] [] (.call 230 [(.call 200 [(.v 1),(.bin .add (.v 2) (.v 0))]),(.bf .len [(.ix (.ix (.ix (.v 3) (.int 1)) (.v 0)) (.int 1))])])
def x4:ah:=[.ret xJ]
def HA(m:az):Prop:=∀(ns:aa) (a:Int) n rs,0<=a->Dp (Rw n) 6 n rs->∃ps,aV ps=rs/\(∀p∈ps,p.2.length=p.1.2.length/\∀q∈p.2,Sm 3 q)/\m [.lst .sc (af ns),.int a,bN n rs]=ok (.lst .ow (cV .ow ps))
theorem M6(Φ:aY)(oK:n_ (Φ 200))(yW:rE (Φ 230)):HA (mk Φ 3 3 x4):=by
 intro ns a n rs ha I;have hn:=I.n2;have hf:=I.lI
 let W:Nat->Rg:=λk=>(rs.getD k (0,[]),if h:(rs.getD k (0,[])).2.length<=12 then Classical.choose (yW (iE ns (a+k)) (rs.getD k (0,[])).2.length h)else[])
 have wk:∀k,k<rs.length->rs[k]?=some (W k).1/\Φ 230 [.int (iE ns (a+k)),.int (W k).1.2.length]=ok (.lst .ow (bp (W k).2))/\(W k).2.length=(W k).1.2.length/\∀q∈(W k).2,Sm 3 q:=λk hk=>by
  obtain⟨r,h1,h2⟩:=Kr hk;have hr:rs.getD k (0,[])=r:=by rw[List.getD_eq_getElem?_getD,h1];rfl
  have vy:(rs.getD k (0,[])).2.length<=12:=by rw[hr];have:=(I.lot r h2).2.1;left
  have hs:=Classical.choose_spec (yW (iE ns (a+k)) (rs.getD k (0,[])).2.length vy);have e:W k=(rs.getD k (0,[]),Classical.choose (yW (iE ns (a+k)) (rs.getD k (0,[])).2.length vy)):=by show(_,_)=_;rw[dif_pos vy]
  rw[e];exact⟨by rw[h1];exact aaU some hr.symm,hs.1,hs.2.1,hs.2.2⟩
 refine⟨(List.range rs.length).map W,?_,λp hp=>?_,?_⟩
 ·unfold aV;rw[List.map_map];refine abn (by simp) λi h1 h2=>?_;have:=(wk i h2).1;rw[List.getElem?_eq_getElem h2]at this;simpa using (Option.some.inj this).symm
 ·obtain⟨k,hk,rfl⟩:=List.mem_map.mp hp;exact(wk k (List.mem_range.mp hk)).2.2
 ·have hd:bN n rs=.tup [.int n,.lst .fz (bM rs)]:=rfl;have m1:aT aW (bN n rs)=bN n rs:=by simp[bN]
  have m2:aT bo (bN n rs)=bN n rs:=by simp[bN]
  have x1:uy (bN n rs) (.int 1)=ok (.lst .fz (bM rs)):=by rw[hd];simp
  have k1:bw Φ xJ [some (.lst .sc (af ns)),some (.int a),some (bN n rs)]=ok (.lst .ow (cV .ow ((List.range rs.length).map W))):=by
   unfold xJ;rw[cR (xs:=[.int rs.length]) (ds:=(List.range rs.length).map λ(k:Nat)=>.lst .ow (bp (W k).2)) (by simp[m2,x1]) (xj Φ (by left) (by left)) (bO λk hk=>⟨[some (.int k),some (.lst .sc (af ns)),some (.int a),some (bN n rs)],by simp[bF,m1,aW],by simp,?_⟩) (by simp;exact cc (by left))]
   ·have:((List.range rs.length).map λ(k:Nat)=>D.lst .ow (bp (W k).2))=cV .ow ((List.range rs.length).map W):=by unfold cV;rw[List.map_map];rfl
    rw[this,Bj];rfl
   ·rw[Int.toNat_natCast,List.mem_range]at hk;obtain⟨w1,w2,w3,_⟩:=wk k hk;have e1:=oK ns (a+k) (by left);have a1:rn (bM rs) (k:Int)=ok (rD (W k).1):=by
     have:=at_of (ds:=bM rs) (i:=(k:Int)) (d:=rD (W k).1) (by left) (by unfold bM;rw[Int.toNat_natCast,List.getElem?_map,w1];rfl);simpa using this
    have hr:rD (W k).1=.tup [qD (W k).1.1,.tup (af (W k).1.2)]:=rfl;rw[hr]at a1;generalize W k=w at *;simp[m2,x1,e1,a1,w2,bo]
  have f2:=iw bJ .ow ((List.range rs.length).map W) rfl;generalize (List.range rs.length).map W=ps at *;simp[mk_eq,x4,Of Φ xJ _ rfl,k1,f2]
end DI
end
section
namespace DI
open PySem PySem.Spec PyProof.Rows L2
section
variable {prog:aE}{w:World}{A:aD}{E:aw}{s:Shared}{d it:Addr}{es:Array DictEntry}{ep i:Nat}
end
section
variable {X:Cx}{pins:aj}{σ:St}{H:Hp}{s:Shared}{d:Addr}{cs:ag}{as:aN}{xs:ae}{ep:Nat}
end
section
variable {X:Cx}{pins:aj}{σ:St}{H:Hp}{s:Shared}{p b:Addr}{c:aa}{A:aD}{E:aw}
end
end DI
end
section
namespace DI
open PySem (Str)
structure Ly(most:Nat)(qs:au)(B:Nat):Prop where
 n1:1<=qs.length
 n2:qs.length<=most
 b1:1<=B
 b2:B<=9
 q0:∀q∈qs,0<=q
 q1:∀q∈qs,q<=1
 qd:∀q∈qs,q.den∣B
 su:∃s:Int,qs.sum=(s:Rat)
variable {B:Nat}{qs:au}
theorem Ly.le{m k:Nat}(h:Ly m qs B)(hk:m<=k):Ly k qs B:=⟨h.n1,aaG h.n2 hk,h.b1,h.b2,h.q0,h.q1,h.qd,h.su⟩
theorem A4{q:Rat}(h:q<=1):q.num<=(q.den:Int):=by
 have h':(q.num:Rat)<=(q.den:Rat):=by
  rw[sR];have h2:(0:Rat)<=(q.den:Rat):=by exact_mod_cast aaP _
  have:=Rat.mul_le_mul_of_nonneg_right h h2
  rwa [Rat.one_mul]at this
 exact_mod_cast h'
theorem GZ{q:Rat}(h:0<=q):0<=q.num:=Rat.num_nonneg.mpr h
theorem Ly.sm{m:Nat}(h:Ly m qs B){q:Rat}(hq:q∈qs):Sm 4 q:=by
 have h1:=A4 (h.q1 q hq);have h2:=GZ (h.q0 q hq);have h3:=abr (by have:=h.b1;left) (h.qd q hq);have:=h.b2;constructor<;>simp<;>left
theorem Ly.GJ{m:Nat}(h:Ly m qs B)(hm:m<=12):rQ 4 qs:=⟨λ_ hq=>h.sm hq,by have:=h.n2;left,by have:=h.n2;left⟩
theorem tH(a:aa)(t:Int)(b:aa):rn (af (a++t::b)) (a.length:Int)=ok (.int t):=by
 rw[n4 (d:=.int t) (by rw[pE];simp)];rfl
noncomputable def p5(W x:Int):Bool:=decide (0<x)&&decide (x<W)
def rZ(W:Int):Int->aa->aa
 |_,[]=>[]
 |j,x::xs=>if p5 W x then j::rZ W (j+1) xs else rZ W (j+1) xs
noncomputable def Bn(W:Int):Int->aa->aa
 |_,[]=>[]
 |j,x::xs=>if x=W then j::Bn W (j+1) xs else Bn W (j+1) xs
def vals(W:Int)(p:aa):aa:=p.filter (p5 W)
variable {W:Int}
theorem iO{x:Int}:p5 W x=true ↔ 0<x/\x<W:=by simp[p5]
theorem md{W:Int}:∀{p:aa} {j:Int},vals W p=[]->rZ W j p=[]
 |[],_,_=>rfl
 |x::p,j,h=>by
  unfold vals at h;by_cases hx:p5 W x=true
  ·rw[List.filter_cons_of_pos hx]at h;cases h
  ·rw[List.filter_cons_of_neg hx]at h;rw[rZ,if_neg hx];exact md h
theorem p6{W:Int}:∀{p q:aa} {j:Int},rZ W j (p++q)=rZ W j p++rZ W (j+p.length) q
 |[],q,j=>by simp[rZ]
 |x::p,q,j=>by
  have e:j+1+(p.length:Int)=j+((x::p).length:Int):=by simp;left
  rw[List.cons_append,rZ,rZ,p6 (p:=p),e];split<;>simp
theorem mQ(p q:aa):vals W (p++q)=vals W p++vals W q:=List.filter_append ..
theorem eX(x:Int)(p:aa):vals W (x::p)=if p5 W x then x::vals W p else vals W p:=List.filter_cons ..
theorem split1{W:Int}:∀p:aa,vals W p=[]\/∃A a C,p=A++a::C/\vals W A=[]/\p5 W a=true
 |[]=>.inl rfl
 |x::p=>by
  by_cases hx:p5 W x=true
  ·exact .inr ⟨[],x,p,rfl,rfl,hx⟩
  ·rcases split1 p with h|⟨A,a,C,rfl,h1,h2⟩
   ·exact .inl (by rw[eX,if_neg hx,h])
   ·exact .inr ⟨x::A,a,C,rfl,by rw[eX,if_neg hx,h1],h2⟩
structure rH(n:Nat)(W:Int)(p:aa):Prop where
 len:p.length=n
 lo:∀x∈p,0<=x
 hi:∀x∈p,x<=W
 su:∃s:Int,p.sum=s*W
structure Tw(W:Int)(p A:aa)(a:Int)(B:aa)(b:Int)(C:aa):Prop where
 eq:p=A++a::(B++b::C)
 vA:vals W A=[]
 vB:vals W B=[]
 ua:p5 W a=true
 ub:p5 W b=true
theorem ib{W:Int}:∀{A:aa},vals W A=[]->(∀x∈A,0<=x)->(∀x∈A,x<=W)->∃k:Int,A.sum=k*W
 |[],_,_,_=>⟨0,by simp⟩
 |x::A,h,l,u=>by
  rw[eX]at h;split at h
  ·cases h
  ·rename_i hx;obtain⟨k,hk⟩:=ib h (λy hy=>l y (aag _ hy)) λy hy=>u y (aag _ hy);have l0:=l x aai;have u0:=u x aai;have BE:¬ (0<x/\x<W):=λz=>hx (iO.mpr z);rw[List.sum_cons,hk];by_cases e:x=0
   ·exact⟨k,by left⟩
   ·exact⟨k+1,by rw[Int.add_mul];left⟩
theorem EF{a m:Int}(h0:0<a)(h1:a<W)(h:a=m*W):False:=by
 by_cases hm:m<=0
 ·have:=Int.mul_le_mul_of_nonneg_right hm (show 0<=W by left);left
 ·have:=Int.mul_le_mul_of_nonneg_right (show 1<=m by left) (show 0<=W by left);left
theorem rH.two{n:Nat}{p:aa}(I:rH n W p)(h:vals W p≠[]):∃A a B b C,Tw W p A a B b C:=by
 rcases split1 (W:=W) p with e|⟨A,a,C,rfl,h1,h2⟩
 ·exact absurd e h
 ·rcases split1 (W:=W) C with e|⟨B,b,C',rfl,h3,h4⟩
  ·obtain⟨s,hs⟩:=I.su;obtain⟨k1,e1⟩:=ib h1 (λx hx=>I.lo x (by simp[hx])) λx hx=>I.hi x (by simp[hx]);obtain⟨k2,e2⟩:=ib e (λx hx=>I.lo x (by simp[hx])) λx hx=>I.hi x (by simp[hx]);rw[List.sum_append,List.sum_cons,e1,e2]at hs;obtain⟨u1,u2⟩:=iO.mp h2;exact(EF u1 u2 (m:=s - k1 - k2) (by rw[Int.sub_mul,Int.sub_mul];left)).elim
  ·exact⟨A,a,B,b,C',rfl,h1,h3,h2,h4⟩
noncomputable def fq(W a b:Int):Rat:=if a+b<=W then Rat.divInt a (a+b)else Rat.divInt (W - b) (2*W - a - b)
noncomputable def lZ(W a b:Int):Int:=if W<a+b then W else a+b
def mn(W a b:Int):Int:=a+b - lZ W a b
def A3(W:Int)(p:aa):Option (Rat×aa×aa):=match rZ W 0 p with
 |i::j::_=>some (fq W (p.getD i.toNat 0) (p.getD j.toNat 0),(p.set i.toNat (lZ W (p.getD i.toNat 0) (p.getD j.toNat 0))).set j.toNat (mn W (p.getD i.toNat 0) (p.getD j.toNat 0)),(p.set j.toNat (lZ W (p.getD i.toNat 0) (p.getD j.toNat 0))).set i.toNat (mn W (p.getD i.toNat 0) (p.getD j.toNat 0)))
 |_=>none
section
variable {W a b:Int}{p A B C:aa}(T:Tw W p A a B b C)
include T
theorem Tw.rZ:rZ W 0 p=(A.length:Int)::((A.length+1+B.length:Nat):Int)::rZ W ((A.length+1+B.length:Nat)+1) C:=by
 rw[T.eq,p6,md T.vA,List.nil_append,DI.rZ,if_pos T.ua,p6,md T.vB,List.nil_append,DI.rZ,if_pos T.ub];have e:(0:Int)+(A.length:Int)+1+(B.length:Int)=((A.length+1+B.length:Nat):Int):=by push_cast;left
 rw[e,Int.zero_add]
theorem Tw.vals:vals W p=a::b::vals W C:=by
 rw[T.eq,mQ,T.vA,List.nil_append,eX,if_pos T.ua,mQ,T.vB,List.nil_append,eX,if_pos T.ub]
theorem Tw.at1:p.getD A.length 0=a:=by rw[T.eq];simp
theorem Tw.at2:p.getD (A.length+1+B.length) 0=b:=by
 rw[T.eq];have:A++a::(B++b::C)=(A++a::B)++b::C:=by simp
 rw[this,show A.length+1+B.length=(A++a::B).length by simp;left];simp
theorem Tw.Sl(x:Int):p.set A.length x=A++x::(B++b::C):=by rw[T.eq];simp[List.set_append]
theorem Tw.Sk(x:Int):p.set (A.length+1+B.length) x=A++a::(B++x::C):=by
 rw[T.eq];have:∀y,A++a::(B++y::C)=(A++a::B)++y::C:=by simp
 rw[this,this,show A.length+1+B.length=(A++a::B).length by simp;left];simp[List.set_append]
omit T in
theorem M0(A:aa)(a:Int)(B:aa)(b:Int)(C:aa)(x:Int):(A++a::(B++b::C)).set (A.length+1+B.length) x=A++a::(B++x::C):=by
 have:∀y,A++a::(B++y::C)=(A++a::B)++y::C:=by simp
 rw[this,this,show A.length+1+B.length=(A++a::B).length by simp;left];simp[List.set_append]
theorem Tw.A3:A3 W p=some (fq W a b,A++lZ W a b::(B++mn W a b::C),A++mn W a b::(B++lZ W a b::C)):=by
 unfold DI.A3;rw[T.rZ];dsimp only;rw[Int.toNat_natCast,Int.toNat_natCast,T.at1,T.at2,T.Sl,T.Sk,M0];have:(A++a::(B++lZ W a b::C)).set A.length (mn W a b)=A++mn W a b::(B++lZ W a b::C):=by simp[List.set_append]
 rw[this]
theorem Tw.pq:0<a/\a<W/\0<b/\b<W:=⟨(iO.mp T.ua).1,(iO.mp T.ua).2,(iO.mp T.ub).1,(iO.mp T.ub).2⟩
theorem Tw.hl:0<=lZ W a b/\lZ W a b<=W/\0<=mn W a b/\mn W a b<=W/\lZ W a b+mn W a b=a+b/\(p5 W (lZ W a b)=false\/p5 W (mn W a b)=false):=by
 obtain⟨h1,h2,h3,h4⟩:=T.pq;unfold mn lZ p5;split<;>refine⟨by left,by left,by left,by left,by left,?_⟩
 ·left
 ·right;simp
end
def nv(W:Int):aa->aa
 |a::b::r=>(if p5 W (lZ W a b)then[lZ W a b]else if p5 W (mn W a b)then[mn W a b]else[])++r
 |_=>[]
theorem va(W a b:Int)(r:aa):(nv W (a::b::r)).length<=r.length+1:=by
 show((if p5 W (lZ W a b)then[lZ W a b]else if p5 W (mn W a b)then[mn W a b]else[])++r).length<=_;rw[List.length_append];split
 ·simp;left
 ·split<;>simp;left
section
variable {n:Nat}{W a b:Int}{p A B C:aa}(I:rH n W p)(T:Tw W p A a B b C)
include I T
theorem Tw.Wk{x y:Int}(hx:0<=x/\x<=W)(hy:0<=y/\y<=W)(hs:x+y=a+b):rH n W (A++x::(B++y::C)):=by
 have hl:=I.len;have lo:=I.lo;have hi:=I.hi;obtain⟨s,Fe⟩:=I.su;rw[T.eq]at hl lo hi Fe;refine⟨by rw[<- hl];simp,λz hz=>?_,λz hz=>?_,s,by rw[<- Fe];simp;left⟩
 ·simp only[List.mem_append,List.mem_cons]at hz;rcases hz with hz|rfl|hz|rfl|hz
  ·exact lo z (by simp[hz])
  ·exact hx.1
  ·exact lo z (by simp[hz])
  ·exact hy.1
  ·exact lo z (by simp[hz])
 ·simp only[List.mem_append,List.mem_cons]at hz;rcases hz with hz|rfl|hz|rfl|hz
  ·exact hi z (by simp[hz])
  ·exact hx.2
  ·exact hi z (by simp[hz])
  ·exact hy.2
  ·exact hi z (by simp[hz])
theorem Tw.HJ:rH n W (A++lZ W a b::(B++mn W a b::C)):=by
 obtain⟨h1,h2,h3,h4,h5,_⟩:=T.hl;exact T.Wk I ⟨h1,h2⟩ ⟨h3,h4⟩ h5
theorem Tw.JB:rH n W (A++mn W a b::(B++lZ W a b::C)):=by
 obtain⟨h1,h2,h3,h4,h5,_⟩:=T.hl;exact T.Wk I ⟨h3,h4⟩ ⟨h1,h2⟩ (by left)
omit I in
theorem Tw.HM:DI.vals W (A++lZ W a b::(B++mn W a b::C))=nv W (DI.vals W p)/\DI.vals W (A++mn W a b::(B++lZ W a b::C))=nv W (DI.vals W p):=by
 obtain⟨_,_,_,_,_,h⟩:=T.hl;rw[T.vals];simp only[mQ,eX,T.vA,T.vB,List.nil_append,nv];rcases h with h|h
 ·cases z:p5 W (mn W a b)<;>simp[h]
 ·cases z:p5 W (lZ W a b)<;>simp[h]
end
theorem nW{t b:Int}(hb:0<b)(h:t<b):Rat.divInt t b<1:=by
 have Xd:(0:Rat)<(b:Rat):=by have:=abK (a:=0) (b:=b);simpa using this.mpr hb
 have h1:(t:Rat)<(b:Rat):=Rat.intCast_lt_intCast.mpr h;rw[Rat.divInt_eq_div,Rat.div_def];have:=Rat.mul_lt_mul_of_pos_right h1 (Rat.inv_pos.mpr Xd)
 rwa [Rat.mul_inv_cancel _ (Rat.ne_of_gt Xd)]at this
theorem Cu{a b:Int}(h1:0<a)(h2:a<W)(h3:0<b)(h4:b<W)(hW:W<=9):0<fq W a b/\fq W a b<1/\Sm 5 (fq W a b):=by
 unfold fq;split
 ·exact⟨jA h1 (by left),nW (by left) (by left),wm (by left) (by show _<32;left) (by show _<32;left)⟩
 ·exact⟨jA (by left) (by left),nW (by left) (by left),wm (by left) (by show _<32;left) (by show _<32;left)⟩
noncomputable def ind(x y:aa):Rat:=if x=y then 1 else 0
def Pr(W:Int):Nat->aa->aa->Rat
 |0,p,l=>ind (Bn W 0 p) l
 |n+1,p,l=>match A3 W p with
  |none=>ind (Bn W 0 p) l
  |some z=>z.1*Pr W n z.2.1 l+(1 - z.1)*Pr W n z.2.2 l
theorem A2{p:aa}(h:vals W p=[]):A3 W p=none:=by unfold A3;rw[md h]
theorem rJ{p:aa}(h:vals W p=[])(k:Nat)(l:aa):Pr W k p l=ind (Bn W 0 p) l:=by
 cases k with
 |zero=>rfl
 |succ k=>rw[Pr,A2 h]
theorem mJ{n:Nat}{W:Int}(l:aa):∀(k:Nat) (p:aa),rH n W p->(vals W p).length<=k->Pr W k p l=Pr W (k+1) p l
 |0,p,I,h=>by
  have:vals W p=[]:=List.length_eq_zero_iff.mp (by left);rw[rJ this,rJ this]
 |k+1,p,I,h=>by
  by_cases e:vals W p=[]
  ·rw[rJ e,rJ e]
  ·obtain⟨A,a,B,b,C,T⟩:=I.two e;obtain⟨v1,v2⟩:=T.HM;have hv:=T.vals;have hn:=va W a b (vals W C);rw[hv]at h v1 v2;simp only[List.length_cons]at h;rw[Pr,Pr,T.A3];dsimp only;rw[mJ l k _ (T.HJ I) (by rw[v1];left),mJ l k _ (T.JB I) (by rw[v2];left)]
variable {A C:aa}
theorem Gj{n:Nat}(l:aa){k:Nat}{p B:aa}{a b:Int}(I:rH n W p)(T:Tw W p A a B b C)(h:(vals W p).length<=k):
  Pr W k p l=fq W a b*Pr W k (A++lZ W a b::(B++mn W a b::C)) l+(1 - fq W a b)*Pr W k (A++mn W a b::(B++lZ W a b::C)) l:=by
 obtain⟨v1,v2⟩:=T.HM;have hv:=T.vals;have hn:=va W a b (vals W C);rw[hv]at h v1 v2;simp only[List.length_cons]at h;obtain⟨k,rfl⟩:∃j,k=j+1:=⟨k - 1,by left⟩
 rw[Pr,T.A3];dsimp only;rw[mJ l k _ (T.HJ I) (by rw[v1];left),mJ l k _ (T.JB I) (by rw[v2];left)]
theorem kn{α:Type}(f:aa->α)(k:aa):∀ks:ag,bA ks (ks.map f) k=if k∈ks then some (f k)else none
 |[]=>rfl
 |j::ks=>by
  show(if j=k then some (f j)else bA ks (ks.map f) k)=_;rw[kn f k ks];by_cases e:j=k
  ·subst e;simp
  ·rw[if_neg e];have:k∈j::ks ↔ k∈ks:=by rw[List.mem_cons];exact⟨λh=>h.resolve_left λz=>e z.symm,.inr⟩
   simp only[this]
theorem sF{α:Type}(f:aa->α)(k:aa)(v:α):∀ks:ag,setC ks (ks.map f) k v=ks.map λj=>if j=k then v else f j
 |[]=>rfl
 |j::ks=>by
  show(if j=k then v else f j)::setC ks (ks.map f) k v=_;rw[sF f k v ks,List.map_cons]
theorem yf{α:Type}(f:aa->α)(k:aa)(v:α)(ks:ag):bC ks (ks.map f) k v=(aL ks k).map λj=>if j=k then v else f j:=by
 unfold bC aL;by_cases h:k∈ks
 ·rw[if_pos h,if_pos h,sF]
 ·rw[if_neg h,if_neg h,List.map_append];congr 1
  ·refine aan λj hj=>?_;rw[if_neg (show ¬ j=k from λz=>h (z▸hj))]
  ·simp
variable {ks:ag}
theorem b6{c k:aa}:k∈aL ks c ↔ k∈ks\/k=c:=by
 unfold aL;split
 ·rename_i h;exact⟨.inl,λz=>z.elim id λe=>e▸h⟩
 ·simp
theorem kf(h:ks.Nodup)(c:aa):(aL ks c).Nodup:=by
 unfold aL;split
 ·exact h
 ·rename_i hc;rw[List.nodup_append];exact⟨h,by simp,λa ha b hb=>by rw[List.mem_singleton.mp hb];exact λz=>hc (z▸ha)⟩
theorem dU(ks:ag)(c:aa):(aL ks c).length<=ks.length+1:=by
 unfold aL;split<;>simp
structure HD(Φ:aY):Prop where
 B3:Φ 1030=xK
 B2:Φ 1031=pP
 B1:Φ 1032=zd
 BZ:Φ 1033=pN
 BY:Φ 1035=lg
variable {Φ:aY}
theorem PU(P:HD Φ)(f:Fl){cs:ag}{ws:aa}(hl:cs.length=ws.length){c:aa}(h:c∈cs):Φ 1032 [.bU f cs (af ws),.tup (af c)]=ok (.int (bR cs ws c)):=by
 obtain⟨w,e,_⟩:=iW hl h;rw[P.B1];show(match intsOf (c.map D.int)with|some c=>(match bA cs (af ws) c with|some v=>if aR anyF v=false then ok v else none|none=>none)|none=>none)=_;rw[bh];show(match bA cs (af ws) c with|some v=>if aR anyF v=false then ok v else none|none=>none)=_;rw[iV,e];unfold bR;rw[e];rfl
theorem RT{α:Type}(P:HD Φ)(e:α->D)(he:∀a,aR anyF (e a)=false)(f:Fl)(ks:ag)(w:aa->α)(z:α)(c:aa)(h:c∉ks->w c=z):Φ 1031 [.bU f ks (ks.map λk=>e (w k)),.tup (af c),e z]=ok (e (w c)):=by
 rw[P.B2];show(match intsOf (c.map D.int)with|some c=>if aP anyF (ks.map λk=>e (w k))=false/\aR anyF (e z)=false then ok ((bA ks (ks.map λk=>e (w k)) c).getD (e z))else none|none=>none)=_;rw[bh];show(if aP anyF (ks.map λk=>e (w k))=false/\aR anyF (e z)=false then ok ((bA ks (ks.map λk=>e (w k)) c).getD (e z))else none)=_;rw[if_pos ⟨b7 anyF (λk=>he _) ks,he _⟩,kn (λk=>e (w k))];by_cases hc:c∈ks
 ·rw[if_pos hc];rfl
 ·rw[if_neg hc,h hc];rfl
theorem RQ{α:Type}(P:HD Φ)(e:α->D)(he:∀a,aR anyF (e a)=false)(hl:ks.length<1000)(w:aa->α)(c:aa)(v:α):Φ 1033 [.bU .ow ks (ks.map λk=>e (w k)),e v,.tup (af c)]=ok (.bU .ow (aL ks c) ((aL ks c).map λk=>e (if k=c then v else w k))):=by
 rw[P.BZ];show(match intsOf (c.map D.int)with|some c=>if cB .ow=true/\aR anyF (e v)=false/\ks.length<cL then ok (D.bU .ow (aL ks c) (bC ks (ks.map λk=>e (w k)) c (e v)))else none|none=>none)=_;rw[bh];show(if cB .ow=true/\aR anyF (e v)=false/\ks.length<cL then ok (D.bU .ow (aL ks c) (bC ks (ks.map λk=>e (w k)) c (e v)))else none)=_;rw[if_pos ⟨rfl,he _,by show _<1000000;left⟩,yf (λk=>e (w k))];congr 2;refine aan λj _=>?_;by_cases z:j=c
 ·rw[if_pos z,if_pos z]
 ·rw[if_neg z,if_neg z]
theorem MB(P:HD Φ)(f:Fl)(vs:ab)(h:ks.length<64):Φ 1035 [.bU f ks vs]=ok (.lst .ow ((bc ks).map dQ)):=by
 rw[P.BY];show(if ks.length<64 then ok (D.lst .ow ((bc ks).map dQ))else none)=_;rw[if_pos h]
noncomputable def k8(ks:ag)(w F:aa->Rat):Rat:=(ks.map λk=>w k*F k).sum
noncomputable def eW{α:Type}[Add α](w:aa->α)(c:aa)(x:α):aa->α:=λk=>if k=c then w k+x else w k
theorem wd(a b:au):(a++b).sum=a.sum+b.sum:=by
 induction a with
 |nil=>simp;grind
 |cons x a ih=>rw[List.cons_append,List.sum_cons,List.sum_cons,ih];grind
theorem w6(c:aa)(x:Rat)(w F:aa->Rat):∀ks:ag,ks.Nodup->c∈ks->k8 ks (eW w c x) F=k8 ks w F+x*F c
 |[],_,h=>nomatch h
 |k::ks,hn,h=>by
  obtain⟨h1,h2⟩:=List.nodup_cons.mp hn;unfold k8 at *;rw[List.map_cons,List.map_cons,List.sum_cons,List.sum_cons];by_cases e:k=c
  ·have:(ks.map λk=>eW w c x k*F k)=ks.map λk=>w k*F k:=aan λj hj=>by
    unfold eW;rw[if_neg λz=>h1 (by rw[e,<- z];exact hj)]
   rw[this];unfold eW;rw[if_pos e,e];grind
  ·have ih:=w6 c x w F ks h2 ((List.mem_cons.mp h).resolve_left λz=>e z.symm);unfold k8 at ih;rw[ih];unfold eW;rw[if_neg e];grind
theorem sZ{c:aa}{x:Rat}{w:aa->Rat}(F:aa->Rat)(hn:ks.Nodup)(h0:c∉ks->w c=0):k8 (aL ks c) (eW w c x) F=k8 ks w F+x*F c:=by
 unfold aL;split
 ·rename_i h;exact w6 c x w F ks hn h
 ·rename_i h;unfold k8;rw[List.map_append,wd];have:(ks.map λk=>eW w c x k*F k)=ks.map λk=>w k*F k:=aan λj hj=>by
   unfold eW;rw[if_neg λz=>h (by rw[<- z];exact hj)]
  rw[this];simp only[List.map_cons,List.map_nil,List.sum_cons,List.sum_nil,eW,if_pos,h0 h];grind
structure Tb{α:Type}(z:α)(pos:α->Prop)(ks:ag)(w:aa->α):Prop where
 nd:ks.Nodup
 out:∀k,k∉ks->w k=z
 Fd:∀k∈ks,pos (w k)
theorem Tb.add{α:Type}[Add α]{z:α}{pos:α->Prop}{w:aa->α}(T:Tb z pos ks w){x:α}(hx:pos (z+x))(hp:∀a,pos a->pos (a+x))(c:aa):Tb z pos (aL ks c) (eW w c x):=by
 refine⟨kf T.nd c,λk hk=>?_,λk hk=>?_⟩
 ·have h:¬ (k∈ks\/k=c):=λz=>hk (b6.mpr z);unfold eW;rw[if_neg λz=>h (.inr z)];exact T.out k λz=>h (.inl z)
 ·unfold eW;by_cases e:k=c
  ·rw[if_pos e];by_cases hc:k∈ks
   ·exact hp _ (T.Fd k hc)
   ·rw[T.out k hc];exact hx
  ·rw[if_neg e];exact T.Fd k ((b6.mp hk).resolve_right e)
noncomputable def cq(w:aa->Int):aa->Rat:=λk=>(w k:Rat)
theorem Cs(w:aa->Int)(c:aa)(x:Int):cq (eW w c x)=eW (cq w) c (x:Rat):=by
 funext k;unfold cq eW;split
 ·rw[Rat.intCast_add]
 ·rfl
def mN(W:Int)(p:aa):aa:=match A3 W p with|some z=>z.2.1|none=>[]
def ka(W:Int)(p:aa):aa:=match A3 W p with|some z=>z.2.2|none=>[]
def po(W cn cd:Int)(w0:aa->Int):ag->ag->(aa->Int)->ag×(aa->Int)
 |[],ks,w=>(ks,w)
 |p::ps,ks,w=>po W cn cd w0 ps (aL (aL ks (mN W p)) (ka W p)) (eW (eW w (mN W p) (w0 p*cn)) (ka W p) (w0 p*(cd - cn)))
structure Wy(n:Nat)(W:Int)(v:aa)(ks:ag)(w:aa->Int):Prop where
 tb:Tb (0:Int) (λx=>1<=x) ks w
 ok:∀p∈ks,rH n W p
 vs:∀p∈ks,vals W p=v
theorem wI(W cn cd:Int)(w0:aa->Int)(F:aa->Rat):∀(ps ks:ag) (w:aa->Int),Tb (0:Int) (λx=>1<=x) ks w->(∀p∈ps,1<=w0 p)->1<=cn->cn<cd ->
  Tb (0:Int) (λx=>1<=x) (po W cn cd w0 ps ks w).1 (po W cn cd w0 ps ks w).2/\(∀k,k∈(po W cn cd w0 ps ks w).1 ↔ k∈ks\/∃p∈ps,k=mN W p\/k=ka W p)/\(po W cn cd w0 ps ks w).1.length<=ks.length+2*ps.length /\
  k8 (po W cn cd w0 ps ks w).1 (cq (po W cn cd w0 ps ks w).2) F=k8 ks (cq w) F+(ps.map λp=>(w0 p:Rat)*((cn:Rat)*F (mN W p)+((cd - cn:Int):Rat)*F (ka W p))).sum
 |[],ks,w,T,_,_,_=>by
  refine⟨T,λk=>?_,by simp[po],?_⟩
  ·simp[po]
  ·simp[po];grind
 |p::ps,ks,w,T,h0,h1,h2=>by
  have hp:=h0 p aai;have a1:1<=w0 p*cn:=by have:=ab8 hp h1 (by decide) (by left);left
  have a2:1<=w0 p*(cd - cn):=by have:=ab8 hp (show 1<=cd - cn by left) (by decide) (by left);left
  have T1:=T.add (x:=w0 p*cn) (by left) (λa ha=>by left) (mN W p);have T2:=T1.add (x:=w0 p*(cd - cn)) (by left) (λa ha=>by left) (ka W p);obtain⟨g1,g2,g3,g4⟩:=wI W cn cd w0 F ps _ _ T2 (λq hq=>h0 q (aag _ hq)) h1 h2;refine⟨g1,λk=>?_,?_,?_⟩
  ·rw[po,g2,b6,b6];simp only[List.mem_cons];constructor
   ·rintro (((h|h)|h)|⟨q,hq,h⟩)
    ·exact .inl h
    ·exact .inr ⟨p,.inl rfl,.inl h⟩
    ·exact .inr ⟨p,.inl rfl,.inr h⟩
    ·exact .inr ⟨q,.inr hq,h⟩
   ·rintro (h|⟨q,rfl|hq,h⟩)
    ·exact .inl (.inl (.inl h))
    ·exact .inl (h.elim (λz=>.inl (.inr z)) .inr)
    ·exact .inr ⟨q,hq,h⟩
  ·have l1:=dU ks (mN W p);have l2:=dU (aL ks (mN W p)) (ka W p);rw[po];simp only[List.length_cons];left
  ·rw[po,g4,Cs,sZ F T1.nd (λh=>by unfold cq;rw[T1.out _ h];rfl),Cs,sZ F T.nd (λh=>by unfold cq;rw[T.out _ h];rfl),List.map_cons,List.sum_cons,Rat.intCast_mul,Rat.intCast_mul];grind
theorem Wy.step{n:Nat}{v:aa}{w:aa->Int}(I:Wy n W v ks w)(hW:W<=9)(hv:v≠[])(hk:ks≠[]):
  ∃a b r,v=a::b::r/\0<a/\a<W/\0<b/\b<W/\Wy n W (nv W v) (po W (fq W a b).num (fq W a b).den w ks [] λ_=>0).1 (po W (fq W a b).num (fq W a b).den w ks [] λ_=>0).2/\(po W (fq W a b).num (fq W a b).den w ks [] λ_=>0).1≠[]/\(po W (fq W a b).num (fq W a b).den w ks [] λ_=>0).1.length<=2*ks.length /\
   ∀l k,v.length<=k->k8 (po W (fq W a b).num (fq W a b).den w ks [] λ_=>0).1 (cq (po W (fq W a b).num (fq W a b).den w ks [] λ_=>0).2) (λp=>Pr W k p l)=((fq W a b).den:Rat)*k8 ks (cq w) (λp=>Pr W k p l):=by
 obtain⟨p0,BM⟩:=abw ks hk;obtain⟨A0,a,B0,b,C0,T0⟩:=(I.ok p0 BM).two (by rw[I.vs p0 BM];exact hv);have ev:=T0.vals;rw[I.vs p0 BM]at ev;obtain⟨q1,q2,q3,q4⟩:=T0.pq;obtain⟨c0,c1,_⟩:=Cu q1 q2 q3 q4 hW;have hn:1<=(fq W a b).num:=by have:=pb c0;left
 have hd:(fq W a b).num<((fq W a b).den:Int):=by
  have h':((fq W a b).num:Rat)<((fq W a b).den:Rat):=by
   rw[sR];have h2:(0:Rat)<((fq W a b).den:Rat):=by exact_mod_cast (fq W a b).den_pos
   have:=Rat.mul_lt_mul_of_pos_right c1 h2
   rwa [Rat.one_mul]at this
  exact_mod_cast h'
 have tw:∀p∈ks,∃A B C,Tw W p A a B b C:=λp hp=>by
  obtain⟨A,a',B,b',C,T⟩:=(I.ok p hp).two (by rw[I.vs p hp];exact hv);have e:=T.vals;rw[I.vs p hp,ev]at e;obtain⟨h1,e'⟩:=abg e;obtain⟨h2,_⟩:=abg e';rw[<- h1,<- h2]at T;exact⟨A,B,C,T⟩
 have HJ:∀{p A B C},Tw W p A a B b C->mN W p=A++lZ W a b::(B++mn W a b::C)/\ka W p=A++mn W a b::(B++lZ W a b::C):=λT=>by
  unfold mN ka;rw[T.A3];exact⟨rfl,rfl⟩
 have T00:Tb (0:Int) (λx=>1<=x) [] λ_=>0:=⟨aaR,λ_ _=>rfl,λ_ h=>nomatch h⟩
 have M:=λF=>wI W (fq W a b).num (fq W a b).den w F ks [] (λ_=>0) T00 (λp hp=>I.tb.Fd p hp) hn hd;obtain⟨m1,m2,m3,_⟩:=M λ_=>0;refine⟨a,b,vals W C0,ev,q1,q2,q3,q4,⟨m1,λk hk=>?_,λk hk=>?_⟩,?_,by simpa using m3,λl k hl=>?_⟩
 ·rcases(m2 k).mp hk with h|⟨p,hp,h⟩
  ·exact nomatch h
  ·obtain⟨A,B,C,T⟩:=tw p hp;obtain⟨e1,e2⟩:=HJ T;rw[e1,e2]at h;rcases h with rfl|rfl
   ·exact T.HJ (I.ok p hp)
   ·exact T.JB (I.ok p hp)
 ·rcases(m2 k).mp hk with h|⟨p,hp,h⟩
  ·exact nomatch h
  ·obtain⟨A,B,C,T⟩:=tw p hp;obtain⟨e1,e2⟩:=HJ T;obtain⟨v1,v2⟩:=T.HM;rw[I.vs p hp]at v1 v2;rw[e1,e2]at h;rcases h with rfl|rfl
   ·exact v1
   ·exact v2
 ·intro z;have:=(m2 (mN W p0)).mpr (.inr ⟨p0,BM,.inl rfl⟩);rw[z]at this;exact nomatch this
 ·obtain⟨_,_,_,m4⟩:=M λp=>Pr W k p l;rw[m4];unfold k8;rw[List.map_nil,List.sum_nil,Rat.zero_add];have:∀qs:ag,(∀p∈qs,p∈ks)->(qs.map λp=>(w p:Rat)*(((fq W a b).num:Rat)*Pr W k (mN W p) l+(((fq W a b).den - (fq W a b).num:Int):Rat)*Pr W k (ka W p) l)).sum=((fq W a b).den:Rat)*(qs.map λp=>cq w p*Pr W k p l).sum:=λqs=>by
   induction qs with
   |nil=>intro _;simp
   |cons p qs ih =>
    intro h;rw[List.map_cons,List.map_cons,List.sum_cons,List.sum_cons,ih λq hq=>h q (List.mem_cons_of_mem _ hq)];have hp:=h p aai;obtain⟨A,B,C,T⟩:=tw p hp;obtain⟨e1,e2⟩:=HJ T;rw[e1,e2,Gj l (k:=k) (I.ok p hp) T (by rw[I.vs p hp];exact hl)];have en:((fq W a b).num:Rat)=fq W a b*((fq W a b).den:Rat):=sR _;rw[Rat.intCast_sub,Rat.intCast_natCast,en];unfold cq;grind
  exact this ks λ_ h=>h
theorem Tw.d1{a b:Int}{p B:aa}(T:Tw W p A a B b C):rn (af p) (A.length:Int)=ok (.int a):=by rw[T.eq];exact tH A a _
theorem Tw.d2{a b:Int}{p B:aa}(T:Tw W p A a B b C):rn (af p) ((A.length+1+B.length:Nat):Int)=ok (.int b):=by
 rw[T.eq];have e:A++a::(B++b::C)=(A++a::B)++b::C:=by simp
 have:=tH (A++a::B) b C;rw[e,show A.length+1+B.length=(A++a::B).length by simp;left];exact this
noncomputable def mU(f:Fl)(ks:ag)(w:aa->Int):D:=.bU f ks (ks.map λk=>.int (w k))
theorem qw(g:Fl->Fl)(f:Fl)(ks:ag)(w:aa->Int):aT g (mU f ks w)=mU (g f) ks w:=by
 show D.bU (g f) ks (aB g (ks.map λk=>.int (w k)))=_;rw[cw g (λk=>tf g _)];rfl
theorem Fy(g:Fl->Bool)(f:Fl)(ks:ag)(w:aa->Int):aR g (mU f ks w)=g f:=by
 show(g f||aP g (ks.map λk=>.int (w k)))=_;rw[b7 g (λk=>kl g _),Bool.or_false]
theorem GP(a:Int):aR anyF (D.int a)=false:=rfl
theorem z4(P:HD Φ)(hl:ks.length<1000)(w:aa->Int)(c:aa)(x:Int):Φ 1033 [mU .ow ks w,.int (w c+x),.tup (af c)]=ok (mU .ow (aL ks c) (eW w c x)):=by
 have:=RQ P (e:=D.int) GP hl w c (w c+x);unfold mU;rw[this];congr 2;refine aan λk _=>?_;unfold eW;by_cases h:k=c
 ·rw[if_pos h,if_pos h,h]
 ·rw[if_neg h,if_neg h]
noncomputable def Ci:CE:=.comp 1 (.nm 0) [1,2] .seq [(.b9 1035 [(.v 1)])] [(.cmp .gt (.b9 1032 [(.v 1),(.v 0)]) (.int 0))] (.tup [(.call 2 [(.b9 1032 [(.v 1),(.v 0)]),(.v 2)]),(.v 0)])
def x5:ah:=[.ret (.tup [(.v 0),Ci])]
def vI(cs:ag)(ws:aa)(b:Int):aC:=((bc cs).filter λc=>decide (0<bR cs ws c)).map λc=>(Rat.divInt (bR cs ws c) b,c)
def HB(m:az):Prop:=∀f (n:Int) (cs:ag) (ws:aa) (b:Int),cs.length=ws.length->cs.length<64->b≠0->b.natAbs<2 ^ 9000->m [.int n,.bU f cs (af ws),.int b]=ok (.tup [.int n,.lst .ow (bM (vI cs ws b))])
theorem M8(Φ:aY)(P:HD Φ)(h2:cH (Φ 2)):HB (mk Φ 3 3 x5):=by
 intro f n cs ws b hl rP hb oI;have hp:(bc cs).Perm cs:=aaC _ _;have e1:bw Φ Ci [some (.int n),some (.bU f cs (af ws)),some (.int b)]=ok (.lst .ow (bM (vI cs ws b))):=by
  unfold Ci;rw[cR (xs:=[.lst .ow ((bc cs).map dQ)]) (items:=(bc cs).map dQ) (ds:=bM (vI cs ws b)) (by simp[MB P _ _ rP]) (by rw[fF,eE]) ?_ (by
   have:=List.length_filter_le (λc=>decide (0<bR cs ws c)) (bc cs);have mr:=hp.length_eq;rw[Eb];unfold vI;rw[List.length_map];exact cc (by left))]
  ·rw[j8]
  ·unfold bM vI;rw[List.map_map];refine lL λc hc=>?_;have uz:c∈cs:=hp.mem_iff.mp hc;have d1:=λf=>PU P f hl uz;have f1:=h2.1 (bR cs ws c) b hb oI;have m1:aT bo (dQ c)=.tup (af c):=by show D.tup (aB bo (c.map D.int))=_;rw[m_];rfl
   refine⟨[some (dQ c),some (.bU (aW f) cs (af ws)),some (.int b)],by simp[bF],by simp[m1,d1],λ_=>?_⟩;simp[m1,d1,f1];rfl
 simp[mk_eq,x5,e1]
noncomputable def lv(u:Nat):Nat:=2 ^ (u - 1)
structure Pg(n:Nat)(W:Int)(p0 v:aa)(ks:ag)(w:aa->Int)(bt:Int):Prop where
 wy:Wy n W v ks w
 ne:ks≠[]
 lI:ks.length*lv v.length<=32
 b1:1<=bt
 b2:bt*32 ^ v.length<=2 ^ 60
 vl:v.length<=12
 ma:∀l,k8 ks (cq w) (λp=>Pr W 12 p l)=(bt:Rat)*Pr W 12 p0 l
theorem Pg.next{n:Nat}{p0 v:aa}{w:aa->Int}{bt:Int}(I:Pg n W p0 v ks w bt)(hW:W<=9)(hv:v≠[]):∃a b r,v=a::b::r/\Sm 5 (fq W a b)/\(nv W v).length<v.length/\Pg n W p0 (nv W v) (po W (fq W a b).num (fq W a b).den w ks [] λ_=>0).1 (po W (fq W a b).num (fq W a b).den w ks [] λ_=>0).2 (bt*(fq W a b).den):=by
 obtain⟨a,b,r,ev,q1,q2,q3,q4,g1,g2,g3,g4⟩:=I.wy.step hW hv I.ne;obtain⟨_,_,sm⟩:=Cu q1 q2 q3 q4 hW;have hd1:=(fq W a b).den_pos;have hd2:=sm.2;have OM:=va W a b r;have C4:v.length=r.length+2:=by rw[ev];rfl
 refine⟨a,b,r,ev,sm,by rw[ev]at *;simp only[List.length_cons]at *;left,g1,g2,?_,?_,?_,?_,λl=>?_⟩
 ·have f:=I.lI;have e1:lv v.length=2*2 ^ r.length:=by unfold lv;rw[C4,show r.length+2 - 1=r.length+1 by left,Nat.pow_succ,Nat.mul_comm]
  have e2:lv (nv W v).length<=2 ^ r.length:=by
   unfold lv;refine aaw (by decide) ?_;rw[ev];left
  rw[e1]at f;refine aaG (ab7 g3 e2) ?_;rw[Nat.mul_comm 2,Nat.mul_assoc];exact f
 ·have:=ab8 I.b1 (show(1:Int)<=((fq W a b).den:Int) by left) (by decide) (by have:=I.b1;left);left
 ·have b1:=I.b1;have b2:=I.b2;have e1:(32:Int) ^ (nv W v).length<=32 ^ (r.length+1):=by
   have:32 ^ (nv W v).length<=32 ^ (r.length+1):=aaw (by decide) (by rw[ev];exact OM)
   exact_mod_cast this
  rw[C4,Int.pow_succ]at b2;have h1:bt*((fq W a b).den:Int)<=bt*32:=Int.mul_le_mul_of_nonneg_left (by left) (by left);have h2:bt*((fq W a b).den:Int)*32 ^ (nv W v).length<=(bt*32)*32 ^ (r.length+1):=ab8 h1 e1 (Int.le_of_lt (Int.pow_pos (by decide))) (by left);refine Int.le_trans h2 ?_;rw[Int.mul_assoc,Int.mul_comm 32];exact b2
 ·have:=I.vl;rw[C4]at this;rw[ev];left
 ·rw[g4 l 12 I.vl,I.ma l,Rat.intCast_mul,Rat.intCast_natCast];grind
end DI
end
section
namespace DI
open PySem PySem.Spec PyProof.Rows L2
section
variable {prog:aE}{w:World}{A:aD}{E:aw}{s:Shared}
def kI(prog:aE)(w:World)(h:Heap)(k:aa)(a:Addr):Prop:=∃(o:Obj) (items:aM) (n:Nat) (b:Addr) (i:Int) (t:Tok) (lot:aa),h.get? a=some o/\o.cls=.type "tuple" /\ o.data=.seq items n/\items.toList=[.ref b,.int i t]/\k=i::lot/\IsTupleKey (intKind prog w) h lot b
theorem kI.inj{h:Heap}{a:Addr}{x y:aa}(hx:kI prog w h x a)(hy:kI prog w h y a):x=y:=by
 obtain⟨o,aI,n,b,i,t,lot,h1,_,h3,h4,rfl,h5⟩:=hx;obtain⟨o',its',n',b',i',t',Bo,g1,_,g3,g4,rfl,g5⟩:=hy;obtain rfl:o=o':=aax (h1.symm.trans g1);rw[h3]at g3;cases g3;rw[h4]at g4;cases g4;rw[h5.inj g5]
theorem kI.keeps{h h':Heap}{k:aa}{a d:Addr}{o:Obj}{es:Array DictEntry}{ep:Nat}(x:kI prog w h k a)(ho:h.get? d=some o)(hd:o.data=.dict es ep)(hs:Heap.SameBut d h h'):kI prog w h' k a:=by
 obtain⟨o',aI,n,b,i,t,lot,h1,h2,h3,h4,rfl,h5⟩:=x;have Fh:a≠d:=by
  rintro rfl;obtain rfl:o'=o:=aax (h1.symm.trans ho);rw[hd]at h3;exact nomatch h3
 exact⟨o',aI,n,b,i,t,lot,(hs.2 a Fh).trans h1,h2,h3,h4,rfl,h5.keeps ho hd hs⟩
theorem Eg{n:Nat}{ks:aa}{a:Addr}{Q:Bool->Shared->Prop}(hk:IsTupleKey (intKind prog w) s.heap ks a)(h:Q true s):wpAny (model prog w) A (eqIsQuiet (n+1) (.ref a)) Q E s:=by
 have hT:=hk.typeIs;obtain⟨o,items,n,ho,_,hd,hi⟩:=hk;unfold eqIsQuiet;refine aaa (abh hT F.slot_tuple_eq.lookup ?_);show wpAny _ _ (isInstance (.ref a) (.type "tuple") >>= _) _ _ s;refine aaa (abd hT abR ?_);simp only[Bool.not_true,Bool.false_eq_true,if_false];refine aaa (aaN ho hd ?_);refine aaa ?_;show wpAny _ _ (forIn items _ _) _ _ s;rw[<- Array.forIn_toList];refine abN _ (λrest r s'=>r.1=none/\s'=s/\∀v∈rest,carriedByValue v=true) _ ?_ ?_ _ _ ⟨rfl,rfl,hi.byValue⟩
 ·rintro v rest r s' ⟨hr,rfl,vx⟩;rw[eqIsQuiet_byValue _ (vx v List.mem_cons_self)];refine aaa (aab ?_);simp only[Bool.not_true,Bool.false_eq_true,if_false];exact aab ⟨rfl,rfl,λu tJ=>vx u (aag _ tJ)⟩
 ·rintro ⟨r1,r2⟩ s' ⟨hr,rfl,_⟩;simp only at hr;subst hr;exact aab h
theorem Az{k:aa}{a:Addr}{Q:Bool->Shared->Prop}(hk:kI prog w s.heap k a)(h:Q true s):wpAny (model prog w) A (eqIsQuiet 8 (.ref a)) Q E s:=by
 obtain⟨o,items,n,b,i,t,lot,ho,hc,hd,hi,rfl,hb⟩:=hk;have hT:s.TypeIs (.ref a) "tuple":=⟨o,ho,hc⟩
 unfold eqIsQuiet;refine aaa (abh hT F.slot_tuple_eq.lookup ?_);show wpAny _ _ (isInstance (.ref a) (.type "tuple") >>= _) _ _ s;refine aaa (abd hT abR ?_);simp only[Bool.not_true,Bool.false_eq_true,if_false];refine aaa (aaN ho hd ?_);refine aaa ?_;show wpAny _ _ (forIn items _ _) _ _ s;rw[<- Array.forIn_toList];refine abN _ (λrest r s'=>r.1=none/\s'=s/\∀v∈rest,v=.ref b\/v=.int i t) _ ?_ ?_ _ _ ⟨rfl,rfl,λv hv=>by rw[hi]at hv;simpa using hv⟩
 ·rintro v rest r s' ⟨hr,rfl,vx⟩;refine aaa (show wpAny (model prog w) A (eqIsQuiet 7 v) _ E s' from ?_);have fin:wpAny (model prog w) A (eqIsQuiet 7 v) (λq s1=>q=true/\s1=s') E s':=by
   rcases vx v aai with rfl|rfl
   ·exact Eg (n:=6) hb ⟨rfl,rfl⟩
   ·rw[eqIsQuiet_byValue _ rfl];exact aab ⟨rfl,rfl⟩
  refine aaF fin (λq s1 bL=>?_) λ_ _ e=>e;obtain⟨e1,e2⟩:=bL;subst e1 e2;simp only[Bool.not_true,Bool.false_eq_true,if_false];exact aab ⟨rfl,rfl,λu tJ=>vx u (aag _ tJ)⟩
 ·rintro ⟨r1,r2⟩ s' ⟨hr,rfl,_⟩;simp only at hr;subst hr;exact aab h
theorem Fw{k:aa}{a:Addr}{Q:Int->Shared->Prop}(hu:A.units+1<cLine)(hk:kI prog w s.heap k a)(h:Q (qo k) { s with toks:=s.toks+(k.length+2) }):wpAny (model prog w) A (pyHash (.ref a)) Q E s:=by
 obtain⟨o,items,n,b,i,t,lot,ho,hc,hd,hi,rfl,hb⟩:=hk;have hT:s.TypeIs (.ref a) "tuple":=⟨o,ho,hc⟩
 unfold pyHash
 first|unfold pyHashByItsType|skip
 first|refine aaa (wpAny_cRoomFor_or (.inr (by left)) ?_)|skip
 refine aaa (abh hT F.slot_tuple_hash.lookup ?_);show wpAny _ _ (if (some (Value.builtin "tuple.__hash__")==some Value.none)=true then _ else _) Q E s;rw[if_neg (by rw[beq_builtin_none];exact Bool.false_ne_true)];refine aaa (abh hT F.slot_tuple_hash.lookup ?_);show wpAny _ _ (callSpecialIfBoundUnlessNone? (.ref a) "__hash__" _ >>= _) Q E s;refine aaa (wpAny_callSpecialIfBoundUnlessNone?_slot hT F.slot_tuple_hash (aaL F.slot_tuple_hash hT F.entry_tuple_hash ?_ (F.args_tuple_hash_1 _)));show wpAny _ _ (Builtin.Tuple.tupleItemsOf (.ref a) >>= _) _ _ s;refine aaa (acf ho hd ?_);refine aaa ?_;rw[<- Array.forIn_toList,hi];have h1:reduceHash (Builtin.Tuple.tupleHashOf (lot.map hashInt))=(tupleKind (intKind prog w)).hash lot:=rfl;refine abN _
  (λrest (z:Array Int) s'=>(rest=[.ref b,.int i t]/\z.toList=[]/\s'=s)\/(rest=[.int i t]/\z.toList=[(tupleKind (intKind prog w)).hash lot]/\s'={ s with toks:=s.toks+(lot.length+1) })\/(rest=[]/\z.toList=[(tupleKind (intKind prog w)).hash lot,hashInt i]/\s'={ s with toks:=s.toks+(lot.length+1)+1 }))
  _ ?_ ?_ _ _ (.inl ⟨rfl,rfl,rfl⟩)
 ·rintro x rest z s' (⟨hr,hz,rfl⟩|⟨hr,hz,rfl⟩|⟨hr,_⟩)
  ·cases hr;refine aaa ((tupleKind (intKind prog w)).pyHash (by first|exact hu | (show _<_;left)) hb ?_)
   first
    |exact aab (.inr (.inl ⟨rfl,by simp[hz],rfl⟩))
    |exact aaa (aab (aab (.inr (.inl ⟨rfl,by simp[hz],rfl⟩))))
  ·cases hr;refine aaa (wpAny_pyHash_int ?_)
   first
    |exact aab (.inr (.inr ⟨rfl,by simp[hz],rfl⟩))
    |exact aaa (aab (aab (.inr (.inr ⟨rfl,by simp[hz],rfl⟩))))
  ·cases hr
 ·rintro z s' (⟨hr,_⟩|⟨hr,_⟩|⟨_,hz,rfl⟩)
  ·cases hr
  ·cases hr
  show wpAny _ _ (retInt (Builtin.Tuple.tupleHashOf z.toList)) _ _ _;rw[hz];refine wpAny_ret_mkInt ?_;have he:qo (i::lot)=reduceHash (Builtin.Tuple.tupleHashOf [(tupleKind (intKind prog w)).hash lot,hashInt i]):=rfl;rw[he]at h;generalize Builtin.Tuple.tupleHashOf [(tupleKind (intKind prog w)).hash lot,hashInt i]=V at h ⊢;show wpAny _ _ (if (decide (-(2:Int) ^ 63<=V)&&decide (V<2 ^ 63))=true then _ else _) Q E _;unfold reduceHash at h;have e:s.toks+(lot.length+1)+1+1=s.toks+((i::lot).length+2):=by rw[List.length_cons];left
  by_cases hr:(decide (-(2:Int) ^ 63<=V)&&decide (V<2 ^ 63))=true
  ·rw[if_pos hr];rw[if_pos hr]at h;exact aab (by simpa [e]using h)
  ·rw[if_neg hr];rw[if_neg hr]at h;exact aaa (aba (aab (by simpa [e]using h)))
theorem vD{x y:aa}{a b:Addr}{P:Fin->Shared->Prop}(hu:A.units<cLine)(hx:kI prog w s.heap x a)(hy:kI prog w s.heap y b)(h:P (.done (.ret (.bool (decide (x=y))))) s):
  wpAny (model prog w) A (Builtin.«tuple.__eq__» ⟨[.ref a,.ref b],[]⟩) P E s:=by
 obtain⟨oa,xs,na,a1,i,t,lot,Y6,hca,Zt,OQ,rfl,ha⟩:=hx;obtain⟨ob,ys,nb,b1,j,u,Bo,WV,Zw,J9,WZ,rfl,hb⟩:=hy;have ZF:s.TypeIs (.ref b) "tuple":=⟨ob,WV,Zw⟩
 show wpAny _ _ (isInstance (.ref b) (.type "tuple") >>= _) _ _ s;refine aaa (abd ZF abR ?_);simp only[Bool.not_true,Bool.false_eq_true,if_false];refine aaa (acf Y6 Zt ?_);refine aaa (acf WV J9 ?_);refine aaa ?_;have hsz:(xs.size==ys.size)=true:=by
  rw[<- Array.length_toList,<- Array.length_toList,OQ,WZ];rfl
 rw[OQ,WZ];refine abN _
  (λrest r s'=>r.1=none/\s'=s/\((rest=[(.ref a1,.ref b1),(.int i t,.int j u)])\/(rest=[(.int i t,.int j u)]/\lot=Bo)\/(rest=[]/\lot=Bo/\i=j)))
  _ ?_ ?_ _ _ ⟨rfl,rfl,.inl rfl⟩
 ·rintro ⟨p,q⟩ rest r s' ⟨hr,rfl,(z|⟨z,rfl⟩|⟨z,_⟩)⟩
  ·cases z;refine aaa ((tupleKind (intKind prog w)).eqBool hu ha hb ?_);by_cases hk:lot=Bo
   ·rw[decide_eq_true hk];simp only[Bool.not_true,Bool.false_eq_true,if_false];exact aab ⟨by first|rfl|trivial,by first|rfl|trivial,by simp[hk]⟩
   ·rw[decide_eq_false hk];simp only[Bool.not_false,if_true];have hf:decide (i::lot=j::Bo)=false:=by simp[hk]
    rw[hf]at h;exact aaa (aab (aab (aab h)))
  ·cases z;refine aaa (wpAny_eqBool_int ?_);by_cases hk:i=j
   ·rw[show(i==j)=true from beq_iff_eq.mpr hk];simp only[Bool.not_true,Bool.false_eq_true,if_false];exact aab ⟨by first|rfl|trivial,by first|rfl|trivial,by simp[hk]⟩
   ·rw[show(i==j)=false from beq_eq_false_iff_ne.mpr hk];simp only[Bool.not_false,if_true];have hf:decide (i::lot=j::lot)=false:=by simp[hk]
    rw[hf]at h;exact aaa (aab (aab (aab h)))
  ·cases z
 ·rintro ⟨r1,r2⟩ s' ⟨hr,rfl,(z|⟨z,_⟩|⟨_,rfl,rfl⟩)⟩
  ·cases z
  ·cases z
  simp only at hr;subst hr;refine aab ?_;show P (.done (.ret (.bool (xs.size==ys.size)))) s';rw[hsz];rw[decide_eq_true rfl]at h;exact h
theorem PC{x y:aa}{a b:Addr}{Q:Bool->Shared->Prop}(hu:A.units+1<cLine)(hx:kI prog w s.heap x a)(hy:kI prog w s.heap y b)(h:Q (decide (x=y)) s):
  wpAny (model prog w) A (eqBool (.ref a) (.ref b)) Q E s:=by
 have ta:s.TypeIs (.ref a) "tuple":=by obtain⟨o,_,_,_,_,_,_,h1,h2,_⟩:=hx;exact⟨o,h1,h2⟩
 have tb:s.TypeIs (.ref b) "tuple":=by obtain⟨o,_,_,_,_,_,_,h1,h2,_⟩:=hy;exact⟨o,h1,h2⟩
 unfold eqBool
 try with_reducible refine aaM ?_
 show wpAny _ _ (if (Value.ref a==Value.ref b)=true then _ else _) Q E s;by_cases qI:(Value.ref a==Value.ref b)=true
 ·rw[if_pos qI];have e:a=b:=by have:=eq_of_beq qI;injection this
  subst e;obtain rfl:=hx.inj hy;exact aaa (aba (aab (by simpa using h)))
 ·rw[if_neg qI];exact aaa (wpAny_richCompare_same_room (op:=.Eq) ta tb F.slot_tuple_eq
   (aaL F.slot_tuple_eq ta F.entry_tuple_eq (vD (by first|exact hu | (show _<_;left)) hx hy ⟨_,rfl,(λe=>nomatch e),aaX h⟩) (F.args_tuple_eq_2 _ _)) (by left))
end
def ie(prog:aE)(w:World):HeapKind prog w (aa) where
 is:=kI prog w
 hash:=qo
 draws:=λks=>ks.length+2
 room:=λA=>A.units+1<cLine
 inj:=λhx hy=>hx.inj hy
 keeps:=λx ho hd hs=>x.keeps ho hd hs
 pyHash:=λhu hk h=>Fw hu hk h
 eqBool:=λhu hx hy h=>PC hu hx hy h
 quiet:=λhk h=>Az hk h
variable {Q:Value->Shared->Prop}
section
variable {prog:aE}{w:World}{K:Type}[DecidableEq K]{knd:HeapKind prog w K}{A:aD}{E:aw}{s:Shared}
theorem sC{d a:Addr}{xs:List (K×Addr×Value)}{k:K}{v:Value}(hu:knd.room A)(vq:knd.is s.heap k a)(hm:s.heap.DictOfH knd d xs)
  (h1:∀p,atKey xs k=some p->Q p.2 { s with toks:=s.toks+knd.draws k })
  (h2:atKey xs k=none->∀h',h'.DictOfH knd d (storedH xs k a v)->Heap.SameBut d s.heap h'->Q v { s with heap:=h',toks:=s.toks+knd.draws k })
  (hsz:xs.length<=sizeLine):wpAny (model prog w) A (dictSetDefault d (.ref a) v) Q E s:=by
 obtain⟨o,es,ep,ho,hc,hd,he,WX,hn⟩:=hm;unfold dictSetDefault
 try with_reducible refine aaM ?_
 refine aaa (knd.pyHash hu vq ?_);refine aaa (wpAny_dictFind_heap (s:={ s with toks:=s.toks+knd.draws k }) hu vq ho hd he WX hn ?_ ?_)
 ·intro xn;have Ux:k∉xs.map (·.1):=not_mem_keys_of_get xn;have h2:=h2 (atKey_none_of_get xn);refine aaa (aba (aaa (wpAny_updateDictKeys (hz:=by have e:=size_of_entries he;left) (s:={ s with toks:=s.toks+knd.draws k }) ho hd (aab (h2 _ ⟨_,_,ep+1,aaW _ ho (Obj.isFreed_of_dict (Obj.data_mapDictKeys hd _)),
   hc.mapDictKeys _,Obj.data_mapDictKeys hd _,?_,?_,?_⟩ (aaV ..))))))
  ·rw[storedH_new (atKey_none_of_get xn)];simp[he,entryOfKey]
  ·rw[storedH_new (atKey_none_of_get xn)];intro x hx;rcases List.mem_append.mp hx with hx|hx
   ·exact knd.keeps (WX x hx) ho hd (aaV ..)
   ·simp only[List.mem_singleton]at hx;subst hx;exact knd.keeps vq ho hd (aaV ..)
  ·rw[storedH_new (atKey_none_of_get xn)];rw[List.map_append,List.nodup_append];refine⟨hn,by simp,?_⟩;intro x hx y hy;simp only[List.map_cons,List.map_nil,List.mem_singleton]at hy;subst hy;exact λe=>Ux (e▸hx)
 ·intro j p hj;refine aaa (abG (s:={ s with toks:=s.toks+knd.draws k }) ho hd ?_);rw[entry_at he j,hj];exact aaa (aba (aab (h1 p (atKey_of_get hn hj))))
theorem qc(d a:Addr)(hd:(d==sysModules)=false)(v:Value):
  MeetsIn prog w (Builtin.«dict.setdefault» ⟨[.ref d,.ref a,v],[]⟩) (λA R s=>knd.room A.in1/\∃k xs,knd.is s.heap k a/\s.heap.DictOfH knd d xs/\xs.length<=sizeLine /\
   (∀p,atKey xs k=some p->R (.ok (.ret p.2)) { s with toks:=s.toks+knd.draws k }) /\
   (atKey xs k=none->∀h',h'.DictOfH knd d (storedH xs k a v)->Heap.SameBut d s.heap h'->R (.ok (.ret v)) { s with heap:=h',toks:=s.toks+knd.draws k })) :=
 .of_wp λA R s bL=>by
  obtain⟨hu,k,xs,vq,hm,hz,h1,h2⟩:=bL;unfold Builtin.«dict.setdefault»;refine aaa ?_;unfold Builtin.Dict.keyAndDefault;refine aaa (wpAny_notOrdered_dict hm.typeIs ?_);show wpAny _ _ (pure (d,Value.ref a,some v)) _ _ s;refine aab ?_;show wpAny _ _ (if (d==sysModules)=true then _ else(dictSetDefault d (.ref a) v >>= _)) _ _ s;rw[if_neg (by rw[hd];exact Bool.false_ne_true)];exact aaa (sC hu vq hm (λp hp=>aab ⟨p.2,rfl,h1 p hp⟩) (λhn h' Za Fe=>aab ⟨v,rfl,h2 hn h' Za Fe⟩) hz)
end
variable {pos:Pos}
section
variable {X:Cx}{pins:aj}{σ:St}{H:Hp}{s:Shared}{p b:Addr}{cs:ag}{as:aN}{xs:ae}{ep:Nat}{c:aa}{A:aD}{E:aw}
theorem qA(I:Inv X pins σ H s)(h:oe (aU X.K H) b c):kI X.prog X.w s.heap c b:=by
 obtain⟨i,lot,b',rfl,h1,h2⟩:=h;obtain⟨aI,rv,⟨o,g1,g2,n,g3⟩,_⟩:=I.tuple h1;have hk:=nr I h2;obtain⟨w1,w2,rfl,r1,r2⟩:=vals2 rv;cases r1;obtain⟨t,rfl⟩:=r2;exact⟨o,_,n,b',i,t,lot,g1,g2,g3,by simp,rfl,hk⟩
theorem sV(I:Inv X pins σ H s)(h:H p=some (.ext (PJ p cs as xs ep)))(k:gx (aU X.K H) as cs):
  ∃(zs:List (aa×Addr×Value)) (o:Obj) (es:Array DictEntry),zs.map (·.1)=cs/\zs.map (·.2.1)=as/\Vals xs (zs.map (·.2.2))/\s.heap.get? p=some o/\o.ExactDict/\o.data=.dict es ep /\
   s.heap.DictOfH (ie X.prog X.w) p zs/\cs.length<=sizeLine/\(p==sysModules)=false:=by
 obtain⟨⟨zs,o,es,e1,e2,e3,ho,hx,hd,he,hn,hl,hs⟩,_⟩:=(show cy X.prog X.w H s.heap p (.ext (PJ p cs as xs ep)) from I.cM p _ h)
 refine⟨zs,o,es,e1,e2,e3,ho,hx,hd,⟨o,es,ep,ho,hx,hd,he,λz hz=>?_,by rw[e1];exact hn⟩,hl,hs⟩;obtain⟨j,hj⟩:=List.mem_iff_getElem?.mp hz;exact qA I (k.key j z.2.1 z.1 (by rw[<- e2,List.getElem?_map,hj];rfl) (by rw[<- e1,List.getElem?_map,hj];rfl))
theorem yB(I:Inv X pins σ H s)(h:H p=some (.ext (PJ p cs as xs ep))):s.TypeIs (.ref p) "dict" /\ ∀b,Value.ref p=.ref b->∃ob,s.heap.get? b=some ob/\ob.dict=none:=by
 obtain⟨⟨zs,o,es,e1,e2,e3,ho,hx,_⟩,_⟩:=(show cy X.prog X.w H s.heap p (.ext (PJ p cs as xs ep)) from I.cM p _ h)
 exact⟨⟨o,ho,hx.1⟩,λb q=>by cases q;exact⟨o,ho,hx.2.1⟩⟩
theorem AI{r:Value}{v:V}{h':Heap}{t:Nat}{zs:List (aa×Addr×Value)}(I:Inv X pins σ H s)(h:H p=some (.ext (PJ p cs as xs ep)))(e1:zs.map (·.1)=cs)(e2:zs.map (·.2.1)=as)(e3:Vals xs (zs.map (·.2.2)))(hl:cs.length<sizeLine)(hs:(p==sysModules)=false)(rv:RelV v r)
  (dd:h'.DictOfH (ie X.prog X.w) p (storedH zs c b r)) (sb:Heap.SameBut p s.heap h'):∃kr,Inv X pins σ (upd H p (.ext (PJ p (aL cs c) (jD cs as c b) (bC cs xs c v) kr))) { s with heap:=h',toks:=t }:=by
 obtain⟨q,Dd,kr,hq,h2,h3,h4,_,h5⟩:=dd;refine⟨kr,I.write (x:=p) (e:=p) (by rw[h];exact True.intro) (.inl rfl) (λb q hb z=>(sb.2 b hb).trans z) ⟨q,hq⟩ ⟨⟨storedH zs c b r,q,Dd,?_,?_,?_,hq,h2,h3,h4,?_,?_,hs⟩,⟨q,hq⟩,?_⟩⟩
 ·rw[fB,e1]
 ·rw[lC,e1,e2]
 ·rw[lB,e1];exact rV e3 rv
 ·rw[<- e1,<- fB (zs:=zs) (c:=c) b r];exact h5
 ·unfold aL;split
  ·left
  ·rw[List.length_append,List.length_singleton];left
 ·rintro h1 Ph ⟨Gu,o',es'',f1,f2,f3,f4,f5⟩ kk;exact⟨Gu,o',es'',f1,f2,f3,kk _ f4,f5⟩
theorem za{z:V}{r:Value}(hu:A.units+2<cLine)(I:Inv X pins σ H s)(h:H p=some (.ext (PJ p cs as xs ep)))(k:gx (aU X.K H) as cs)(hb:oe (aU X.K H) b c)(rz:RelV z r)(fR:cs.length<sizeLine)
  (h1:∀v w' s',bA cs xs c=some v->Inv X pins σ H s'->RelV v w'->Q w' s')
  (h2:c∉cs->∀kr s',Inv X pins σ (upd H p (.ext (PJ p (aL cs c) (jD cs as c b) (bC cs xs c z) kr))) s'->Q r s') :
  wpAny (model X.prog X.w) A (call (.builtin "dict.setdefault") [.ref p,.ref b,r]) Q E s:=by
 obtain⟨zs,o,es,e1,e2,e3,ho,hx,hd,dd,hl,hs⟩:=sV I h k;have hz:zs.length<=sizeLine:=by rw[<- e1,List.length_map]at hl;exact hl
 refine call_meetsIn PySem.F.slot_dict_setdefault dd.typeIs PySem.F.entry_dict_setdefault (PySem.F.args_dict_setdefault_3 _ _ _) (qc (knd:=ie X.prog X.w) p b hs r) ⟨(show _+1<cLine by first|exact hu | (show A.units+1+1<cLine;left)),c,zs,qA I hb,dd,hz,λq hq=>?_,λhn h' VA sb=>?_⟩
 ·have hg:=hV (cs:=cs) e3 c;have:(atKey zs c).map (·.2)=bA cs (zs.map (·.2.2)) c:=by rw[gv,e1]
  rw[hq]at this;rw[<- this]at hg;cases q2:bA cs xs c with
  |none=>rw[q2]at hg;exact hg.elim
  |some v=>rw[q2]at hg;exact h1 v _ _ q2 (I.tok _) hg
 ·have Uz:c∉cs:=λhc=>by
   have:=(dz zs c).mpr (by rw[e1];exact hc);rw[hn]at this;cases this
  obtain⟨kr,I'⟩:=AI (t:=s.toks+(ie X.prog X.w).draws c) I h e1 e2 e3 fR hs rz VA sb;exact h2 Uz kr _ I'
theorem Ep:PE X (.Dict [] [] pos) (λ_ H Q=>∀p,H p=none->Q (.ref p) (upd H p (.ext (PJ p [] [] [] 0)))):=λpins s σ H Q I h=>by
 have Kb:sysModules<s.heap.objs.size:=abm (by decide) (show mainGlobals<s.heap.objs.size from(I.mod.glob.keeps I.bk).lt);refine wpAny_Dict_empty ⟨.ref s.heap.objs.size,_,I.laid (a:=s.heap.objs.size) (o:=.ext (PJ s.heap.objs.size [] [] [] 0)) (t':=s.toks) (λ_ _ q=>aaj _ q) (aam _) ?_,rfl,h _ (I.cM.fresh (aam _))⟩;have hg:(s.heap.push { cls:=.type "dict",data:=.dict #[] }).get? s.heap.objs.size=some { cls:=.type "dict",data:=.dict #[] }:=aat _ rfl;refine⟨⟨[],_,#[],rfl,rfl,.nil,hg,⟨rfl,rfl,rfl⟩,rfl,rfl,aaR,aaP _,beq_eq_false_iff_ne.mpr (aaK (aas Kb))⟩,⟨_,hg⟩,?_⟩;rintro h1 Ph ⟨Gu,o',es'',f1,f2,f3,f4,f5⟩ kk;exact⟨Gu,o',es'',f1,f2,f3,kk _ f4,f5⟩
end
variable {X:Cx}
theorem IU{x:Str}{p p1 p2:Pos}{a b:Expr}{td:TE}{ta:TA}(hu:X.A.units+2<cLine)(ho:PE X (.Name x p) td)(ha:PA X [a,b] ta)(s1:∀es,starEach (a::es) X.env=(false,eval a X.env)::starEach es X.env)(s2:∀es,starEach (b::es) X.env=(false,eval b X.env)::starEach es X.env)(hl:(p1.endLine==p2.line)=true):
  PE X (.Call (.Attribute (.Name x p) ("setdefault" : Str) p1) [a,b] [] p2) (λσ H Q=>td σ H λv H1=>∃q cs as xs ep,v=.ref q/\H1 q=some (.ext (PJ q cs as xs ep))/\ta σ H1 λys H2=>∃k c z,ys=[.ref k,z]/\H2 q=some (.ext (PJ q cs as xs ep))/\gx (aU X.K H2) as cs/\oe (aU X.K H2) k c/\cs.length<sizeLine/\(∀u,bA cs xs c=some u->Q u H2)/\(c∉cs->∀kr,Q z (upd H2 q (.ext (PJ q (aL cs c) (jD cs as c k) (bC cs xs c z) kr))))):=by
 intro pins s σ H Q I h;refine wpAny_Call_method rfl (by rw[s1,s2];rfl) hl PySem.F.plainAttrs_dict PySem.F.slot_dict_setdefault PySem.F.type_dict_setdefault (cS (ho pins s σ H _ I h) λu Sv bL=>?_);obtain⟨v,H1,I1,rx,q,cs,as,xs,ep,ex,hd,q1⟩:=bL;subst ex;obtain rfl:u=Value.ref q:=rx;obtain⟨t1,t2⟩:=yB I1 hd;refine⟨t1,t2,?_⟩;have hA:=ha p2 pins Sv σ H1 _ I1 q1;rw[s1]at hA ⊢;refine abj (by show(false||(backTo p2 (starEach [b] X.env)).any (·.1))=false;rw[s2];rfl) (abW ?_);refine cS hA λus s3 bL=>?_;obtain⟨ys,H2,I2,r2,k,c,z,ey,hd2,hk,hb,fR,q2,q3⟩:=bL;subst ey;obtain⟨w1,w2,rfl,Sy,QC⟩:=vals2 r2;cases Sy;exact za hu I2 hd2 hk hb QC fR (λv w' s' hv I' rv=>⟨v,H2,I',rv,q2 v hv⟩) λhn kr s' I'=>⟨z,_,I',QC,q3 hn kr⟩
theorem BG{A:aD}{k:Nat}(hr:fU k A):A.units+2<cLine:=aaE (ab5 (by decide:2<=64) _) hr.units
noncomputable def QM(c:aa):D->Option (aa)
 |.int h=>some (h::c)
 |_=>none
theorem IQ{c e:aa}{d:D}(h:QM c d=some e):∃i,d=.int i/\e=i::c:=by
 cases d<;>first|exact nk h | (cases h;done)|skip
 cases h;exact⟨_,rfl,rfl⟩
def Nw(z:D×D):Option (aa):=match keyOf z.1 with
 |some c=>QM c z.2
 |none=>none
def S7(ds:ab):Option (aa):=match two ds with
 |some z=>Nw z
 |none=>none
def dB(d:D):Option (aa):=match d with
 |.tup ds=>S7 ds
 |_=>none
theorem yx{d:D}{c:aa}(h:dB d=some c):∃i lot,c=i::lot/\d=.tup [.tup (lot.map D.int),.int i]:=by
 cases d<;>first|exact nk h | (cases h;done)|skip
 rename_i ds;replace h:S7 ds=some c:=h;unfold S7 at h;cases h1:two ds with
 |none=>rw[h1]at h;exact nk h
 |some z =>
  rw[h1]at h;replace h:Nw z=some c:=h;unfold Nw at h;cases h2:keyOf z.1 with
  |none=>rw[h2]at h;exact nk h
  |some lot =>
   rw[h2]at h;obtain⟨i,e1,e2⟩:=IQ (show QM lot z.2=some c from h);exact⟨i,lot,e2,by rw[fN (x:=z.1) (y:=z.2) h1,kg h2,e1]⟩
variable {N:hU}{T:kG}
theorem wJ{k:bj}{v:V}{d:D}{c:aa}(hk:dB d=some c)(r:Rep T N k v d):∃b,v=.ref b/\oe T b c:=by
 obtain⟨i,lot,rfl,rfl⟩:=yx hk;obtain⟨b,xs,rfl,h1,r1⟩:=r.ye;cases r1 with
 |cons h t=>cases t with
  |cons h' t' =>
   cases t';cases h';obtain⟨b',ys,rfl,h2,r2⟩:=h.ye;cases r2.ofInts;exact⟨b,rfl,i,lot,b',rfl,h1,h2⟩
variable {F R:Addr->Prop}{H:Hp}{K:ao}{τ:Addr->Option bj}
theorem bQ.Tq{G:Addr->Prop}{fv:aO}{H':Hp}{p:Addr}(hp:H p=none)(hl:H' p=some (.ext (PJ p [] [] [] 0))):bQ K G R τ fv H H' (.ref p) (.dC .ow [] []):=by
 refine⟨λq=>if q=p then some []else none,λq k hq=>?_,.dC (ep:=0) (as:=[]) (xs:=[]) ⟨hl,by simp⟩ ⟨rfl,λj a c h=>by simp at h⟩ .nil⟩;by_cases rO:q=p
 ·subst rO;exact hp
 ·simp[rO]at hq
noncomputable def AH(xs:ab):O D:=match xs with
 |[]=>ok (.dC .ow [] [])
 |_::_=>none
variable {args:av}{Φ:aY}
theorem Em{n:Nat}(hΦ:Φ n=AH){sc:Scope}{bl:aq}{k:Nat}(L:PX X sc bl k){e:Expr}(he:iY sc bl e=some args){cs:aF}(hs:l9 X F Φ cs args):PE X e (tD X F Φ (.b9 n cs))/\PT X e (gy X F Φ (.b9 n cs)):=by
 have h1:∃pos,e=.Dict [] [] pos/\args=[]:=by
  unfold iY at he;split at he
  ·cases he;exact⟨_,rfl,rfl⟩
  ·cases he
 obtain⟨pos,rfl,rfl⟩:=h1;cases cs with
 |cons _ _=>exact hs.elim
 |nil =>
  have this:PE X (.Dict [] [] pos) (tD X F Φ (.b9 n [])):=by
   refine PE.imp (Ep (X:=X) (pos:=pos)) λσ H Q hq p hp=>?_;obtain⟨R,τ,ρ,d,Si,ev,hq⟩:=hq;have ev:Φ n []=ok d:=ev;rw[hΦ]at ev;cases ev;exact hq _ _ (aJ.upd hp) (bQ.Tq hp aS)
  exact⟨this,cE this λ_=>rfl⟩
noncomputable def mZ:Fl->Bool
 |.fz=>false
 |_=>true
noncomputable def wU:D->Option (ag×ab)
 |.dC _ cs vs=>some (cs,vs)
 |_=>none
theorem AV{d:D}{z:ag×ab}(h:wU d=some z):∃f,d=.dC f z.1 z.2:=by
 cases d<;>first | (cases h;done) | (cases h;exact⟨_,rfl⟩)
def uZ(xs:ab):O D:=match two xs with
 |some z=>match wU z.1 with
  |some d=>match dB z.2 with
   |some c=>match bA d.1 d.2 c with
    |some v=>if aR mZ v=false then ok v else none
    |none=>none
   |none=>none
  |none=>none
 |none=>none
theorem En{xs:ab}{r:D}(h:uZ xs=ok r):∃f cs vs c kd,xs=[.dC f cs vs,kd]/\dB kd=some c/\bA cs vs c=some r/\aR mZ r=false:=by
 unfold uZ at h;cases h1:two xs with
 |none=>rw[h1]at h;cases h
 |some z =>
  rw[h1]at h;have h:(match wU z.1 with|some d=>(match dB z.2 with|some c=>(match bA d.1 d.2 c with|some v=>if aR mZ v=false then ok v else none|none=>none)|none=>none)|none=>none)=ok r:=h;cases h2:wU z.1 with
  |none=>rw[h2]at h;cases h
  |some d =>
   rw[h2]at h;have h:(match dB z.2 with|some c=>(match bA d.1 d.2 c with|some v=>if aR mZ v=false then ok v else none|none=>none)|none=>none)=ok r:=h;cases h3:dB z.2 with
   |none=>rw[h3]at h;cases h
   |some c =>
    rw[h3]at h;have h:(match bA d.1 d.2 c with|some v=>if aR mZ v=false then ok v else none|none=>none)=ok r:=h;cases h4:bA d.1 d.2 c with
    |none=>rw[h4]at h;cases h
    |some v =>
     rw[h4]at h;obtain⟨hf,rfl⟩:=oj (show(if aR mZ v=false then ok v else none)=ok r from h);obtain⟨f,e1⟩:=AV h2;exact⟨f,d.1,d.2,c,z.2,by rw[fN h1,e1],h3,h4,hf⟩
theorem IB{A A':Addr->Prop}{τ':Addr->Option bj}{k k':bj}{v:V}{d:D}(h:Rep (aU K H) (nd K R A τ H) k v d)(hf:aR mZ d=false):Rep (aU K H) (nd K R A' τ' H) k' v d:=by
 have:=Rep.gen (T':=aU K H) (N':=nd K R A' τ' H) (g:=id) (P:=mZ) (C:=λ_ _=>True) (I:=λ_ _=>True) (λ_ _ h=>h) trivial (λ_ _ e=>e) (λ_ _ _ _ e _=>e) (λk k' p xs f _ hz h=>by
  cases f<;>first | (cases hz;done)|exact h) h (k':=k') trivial hf
 rw[dE]at this;exact this
def SO(K:ao):R2:=λx y H Q=>∃p b cs as xs ep c v,x=.ref p/\y=.ref b/\H p=some (.ext (PJ p cs as xs ep))/\gx (aU K H) as cs/\oe (aU K H) b c/\bA cs xs c=some v/\Q v H
theorem Bw(hu:X.A.units+2<cLine):Gm X (SO X.K):=by
 intro value slice pins s σ H x y v u Q I rx ry h hs;obtain⟨p,b,cs,as,xs,ep,c,w,rfl,rfl,hp,hk,hb,hg,q⟩:=h;cases rx;cases ry;obtain⟨zs,o,es,e1,e2,e3,ho,hx,hd,dd,hl,BH⟩:=sV I hp hk;have OR:=hV (cs:=cs) e3 c;rw[hg]at OR;obtain⟨u,tJ,ru⟩:=l8.some_of OR;have:(atKey zs c).map (·.2)=some u:=by rw[gv,e1];exact tJ
 obtain⟨q',Ul,rfl⟩:=Option.map_eq_some_iff.mp this;exact abi (x:=q'.2) dd.typeIs PySem.F.slot_dict_getitem.lookup
  (wpAny_getItem_heap (knd:=ie X.prog X.w) (Q:=λr s'=>r=q'.2/\EP X pins σ Q r s') (show X.A.units+1+1<cLine from hu) (qA I hb) dd Ul ⟨rfl,w,H,I.tok _,ru,q⟩) hs
theorem IS{n:Nat}(hΦ:Φ n=uZ){sc:Scope}{bl:aq}{k:Nat}(L:PX X sc bl k){e:Expr}(he:lj sc bl e=some args){cs:aF}(hs:l9 X F Φ cs args):PE X e (tD X F Φ (.b9 n cs))/\PT X e (gy X F Φ (.b9 n cs)):=by
 unfold lj at he;cases h1:mR e with
 |none=>rw[h1]at he;cases he
 |some z =>
  rw[h1]at he;cases he;obtain⟨pos,rfl⟩:=jU h1;obtain⟨⟨c1,c2,rfl,p1,p2⟩,_⟩:=ig hs;have this:PE X (.Subscript z.1 z.2 pos) (tD X F Φ (.b9 n [c1,c2])):=by
   refine PE.imp (AS (Bw (BG L.room)) p1 p2 hs.2.2.2.2.2.1) λσ H Q hq=>?_;obtain⟨R,τ,ρ,d,Si,ev,hq⟩:=hq;obtain⟨xs,cK,ev⟩:=aG ev;rw[hΦ]at ev;obtain⟨f,cs,vs,c,kd,rfl,Zf,hg,hf⟩:=En ev;obtain⟨x,ex,cK⟩:=aG cK;obtain⟨ys,tX,cK⟩:=aG cK;obtain⟨y,ey,PB⟩:=aG tX;cases PB;cases cK;refine tD.intro Si ex λv H1 e1 r1=>tD.intro (Si.go e1) ey λu H2 e2 r2=>?_;obtain⟨τ1,f1,q1⟩:=r1;obtain⟨τ2,f2,q2⟩:=r2;obtain⟨b,rfl,hb⟩:=wJ Zf q2;cases q1 with
   |dC hn hk hr =>
    rcases j6 hr c with ⟨_,hz⟩|⟨w,d',k',g1,g2,g3,_⟩
    ·rw[hg]at hz;cases hz
    ·rw[hg]at g2;cases g2;refine⟨_,b,_,_,_,_,c,w,rfl,rfl,e2 _ _ hn.pat,hk.imp λ_ _ h=>aU.same e2 h,hb,g1,hq w H2 (e1.trans e2) ⟨λ_=>none,λ_ _ h=>by simp at h,?_⟩⟩;exact(IB (A':=jl (gP X F) τ (g9 (.b9 n [c1,c2]))) (τ':=λ_=>none) (k':=[]) g3 hf).imp (λ_ _ h=>aU.same e2 h) λ_ _ _ _ h=>nd.same e2 h
  exact⟨this,cE this λ_=>rfl⟩
def kW:ag->ab->aa->D->Option (ab)
 |[],vs,_,d=>if vs.length=0 then some [.lst .ow [d]]else none
 |c'::cs,vs,c,d=>match vs with
  |[]=>none
  |v::vs=>if c'=c then(match NH v with
    |some gs=>if gs.length<cL then some (.lst .ow (gs++[d])::vs)else none
    |none=>none)else(kW cs vs c d).map (v :: ·)
theorem xx{α:Type}{c:aa}:∀{cs:ag} {xs:List α},c∉cs->bA cs xs c=none
 |[],_,_=>by unfold bA;rfl
 |c'::cs,[],_=>rfl
 |c'::cs,x::xs,h=>by
  show(if c'=c then some x else bA cs xs c)=none;rw[if_neg (λe:c'=c=>h (e▸List.mem_cons_self)),xx λz=>h (List.mem_cons_of_mem _ z)]
theorem vZ{d:D}:∀{vs:ab} {j n m:Nat},oW (j+m) d (n+m) vs=oW j d n vs
 |[],_,_,_=>rfl
 |v::vs,j,n,m=>by
  show(if n+m=j+m then d else v)::oW (j+m) d (n+m+1) vs=(if n=j then d else v)::oW j d (n+1) vs;rw[show n+m+1=n+1+m by left,vZ];by_cases e:n=j
  ·rw[if_pos e,if_pos (by left)]
  ·rw[if_neg e,if_neg (by left)]
theorem zX{d:D}:∀{vs:ab} {j n:Nat},j<n->oW j d n vs=vs
 |[],_,_,_=>rfl
 |v::vs,j,n,h=>by
  show(if n=j then d else v)::oW j d (n+1) vs=_;rw[if_neg (by left),zX (by left)]
theorem qe{c:aa}{d:D}:∀{cs:ag} {vs ws:ab},kW cs vs c d=some ws->(c∉cs/\cs.length=vs.length/\ws=vs++[.lst .ow [d]])\/∃j gs,vs[j]?=some (.lst .ow gs)/\gs.length<cL/\c∈cs/\(∀(xs:ae),xs.length=vs.length->bA cs xs c=xs[j]?)/\ws=oW j (.lst .ow (gs++[d])) 0 vs
 |[],vs,ws,h=>by
  unfold kW at h;by_cases hv:vs.length=0
  ·rw[if_pos hv]at h;cases h;obtain rfl:=List.length_eq_zero_iff.mp hv;exact .inl ⟨by simp,rfl,rfl⟩
  ·rw[if_neg hv]at h;exact nk h
 |c'::cs,[],ws,h=>nk h
 |c'::cs,v::vs,ws,h=>by
  have h:(if c'=c then(match NH v with|some gs=>if gs.length<cL then some (D.lst .ow (gs++[d])::vs)else none|none=>none)else(kW cs vs c d).map (v :: ·))=some ws:=h;by_cases e:c'=c
  ·rw[if_pos e]at h;cases h1:NH v with
   |none=>rw[h1]at h;exact nk h
   |some gs =>
    rw[h1]at h;have h:(if gs.length<cL then some (D.lst .ow (gs++[d])::vs)else none)=some ws:=h;by_cases hg:gs.length<cL
    ·rw[if_pos hg]at h;cases h;refine .inr ⟨0,gs,by rw[Jb h1];rfl,hg,e▸aai,λxs hx=>?_,?_⟩
     ·cases xs with
      |nil=>cases hx
      |cons x xs=>exact aaZ e
     ·show _=(if 0=0 then _ else v)::oW 0 _ 1 vs;rw[if_pos rfl,zX (by left)]
    ·rw[if_neg hg]at h;exact nk h
  ·rw[if_neg e]at h;obtain⟨us,h1,rfl⟩:=Option.map_eq_some_iff.mp h;rcases qe h1 with ⟨h2,h3,rfl⟩|⟨j,gs,h2,h3,h4,h5,rfl⟩
   ·exact .inl ⟨λz=>(List.mem_cons.mp z).elim (λq=>e q.symm) h2,by rw[List.length_cons,List.length_cons,h3],rfl⟩
   ·refine .inr ⟨j+1,gs,h2,h3,aag _ h4,λxs hx=>?_,?_⟩
    ·cases xs with
     |nil=>cases hx
     |cons x xs =>
      show(if c'=c then some x else bA cs xs c)=_;rw[if_neg e,h5 xs (Nat.succ.inj hx)];rfl
    ·show _=(if 0=j+1 then _ else v)::oW (j+1) _ (0+1) vs;rw[if_neg (by left),vZ]
def uY(xs:ab):O D:=match three xs with
 |some z=>match z.1 with
  |.dC f cs vs=>match dB z.2.1 with
   |some c=>match kW cs vs c z.2.2 with
    |some ws=>if cB f=true/\cs.length<cL then ok (.dC .ow (aL cs c) ws)else none
    |none=>none
   |none=>none
  |_=>none
 |none=>none
variable {kd:D}
theorem Ek{x d r:D}(h:uY [x,kd,d]=ok r):∃cs vs c ws,x=.dC .ow cs vs/\dB kd=some c/\kW cs vs c d=some ws/\cs.length<cL/\r=.dC .ow (aL cs c) ws:=by
 cases x<;>first|exact nk h | (cases h;done)|skip
 rename_i f cs vs;replace h:(match dB kd with|some c=>(match kW cs vs c d with|some ws=>if cB f=true/\cs.length<cL then ok (D.dC .ow (aL cs c) ws)else none|none=>none)|none=>none)=ok r:=h;cases h1:dB kd with
 |none=>rw[h1]at h;exact nk h
 |some c =>
  rw[h1]at h;replace h:(match kW cs vs c d with|some ws=>if cB f=true/\cs.length<cL then ok (D.dC .ow (aL cs c) ws)else none|none=>none)=ok r:=h;cases h2:kW cs vs c d with
  |none=>rw[h2]at h;exact nk h
  |some ws =>
   rw[h2]at h;obtain⟨⟨hf,hl⟩,rfl⟩:=oj (show(if cB f=true/\cs.length<cL then ok (D.dC .ow (aL cs c) ws)else none)=ok r from h);cases f<;>first | (cases hf;done)|exact⟨cs,vs,c,ws,rfl,rfl,h2,hl,rfl⟩
def LG(e:Expr):Option (Expr×Expr):=match jo e with
 |some z=>match lA z.1 with
  |some y=>match two z.2.1 with
   |some w=>match uE w.2 with
    |some l=>if y.2.1=("setdefault" : Str)/\z.2.2.1=[]/\(y.2.2.endLine==z.2.2.2.line)=true/\l=[]then some (y.1,w.1)else none
    |none=>none
   |none=>none
  |none=>none
 |none=>none
variable {o:Expr}
theorem HP{e k:Expr}(h:LG e=some (o,k)):∃p1 p2 pl,e=.Call (.Attribute o ("setdefault" : Str) p1) [k,.List [] pl] [] p2/\(p1.endLine==p2.line)=true:=by
 unfold LG at h;cases h1:jo e with
 |none=>rw[h1]at h;exact nk h
 |some z =>
  obtain⟨f,as,ks,p2⟩:=z;rw[h1]at h;obtain rfl:=iN h1;replace h:(match lA f with|some y=>(match two as with|some w=>(match uE w.2 with|some l=>if y.2.1=("setdefault" : Str)/\ks=[]/\(y.2.2.endLine==p2.line)=true/\l=[]then some (y.1,w.1)else none|none=>none)|none=>none)|none=>none)=some (o,k):=h;cases h2:lA f with
  |none=>rw[h2]at h;exact nk h
  |some y =>
   obtain⟨ob,nm,p1⟩:=y;rw[h2]at h;obtain rfl:=jV h2;replace h:(match two as with|some w=>(match uE w.2 with|some l=>if nm=("setdefault" : Str)/\ks=[]/\(p1.endLine==p2.line)=true/\l=[]then some (ob,w.1)else none|none=>none)|none=>none)=some (o,k):=h;cases h3:two as with
   |none=>rw[h3]at h;exact nk h
   |some w =>
    obtain⟨a,b⟩:=w;rw[h3]at h;obtain rfl:=fN h3;replace h:(match uE b with|some l=>if nm=("setdefault" : Str)/\ks=[]/\(p1.endLine==p2.line)=true/\l=[]then some (ob,a)else none|none=>none)=some (o,k):=h;cases h4:uE b with
    |none=>rw[h4]at h;exact nk h
    |some l =>
     rw[h4]at h;obtain⟨pl,rfl⟩:=vW h4;replace h:(if nm=("setdefault" : Str)/\ks=[]/\(p1.endLine==p2.line)=true/\l=[]then some (ob,a)else none)=some (o,k):=h;by_cases hc:nm=("setdefault" : Str)/\ks=[]/\(p1.endLine==p2.line)=true/\l=[]
     ·rw[if_pos hc]at h;cases h;obtain⟨rfl,rfl,hl,rfl⟩:=hc;exact⟨p1,p2,pl,rfl,hl⟩
     ·rw[if_neg hc]at h;exact nk h
def qU(_:Scope)(_:aq)(st:Stmt):Option (Expr×av):=match oU ("append" : Str) st with
 |some z=>match one z.2 with
  |some e=>match LG z.1 with
   |some y=>some (y.1,[y.2,e])
   |none=>none
  |none=>none
 |none=>none
variable {st:Stmt}
theorem zf{sc:Scope}{bl:aq}(h:qU sc bl st=some (o,args)):∃k e p1 p2 p3 p4 pl pos,args=[k,e]/\st=.Expr (.Call (.Attribute (.Call (.Attribute o ("setdefault" : Str) p1) [k,.List [] pl] [] p2) ("append" : Str) p3) [e] [] p4) pos/\(p1.endLine==p2.line)=true/\(p3.endLine==p4.line)=true:=by
 unfold qU at h;cases h1:oU ("append" : Str) st with
 |none=>rw[h1]at h;exact nk h
 |some z =>
  obtain⟨b,as⟩:=z;rw[h1]at h;replace h:(match one as with|some e=>(match LG b with|some y=>some (y.1,[y.2,e])|none=>none)|none=>none)=some (o,args):=h;cases h2:one as with
  |none=>rw[h2]at h;exact nk h
  |some e =>
   rw[h2]at h;obtain rfl:=bY h2;replace h:(match LG b with|some y=>some (y.1,[y.2,e])|none=>none)=some (o,args):=h;cases h3:LG b with
   |none=>rw[h3]at h;exact nk h
   |some y =>
    rw[h3]at h;cases h;obtain⟨p1,p2,pl,rfl,hl⟩:=HP h3;obtain⟨p3,p4,pos,rfl,mr⟩:=rX h1;exact⟨_,e,p1,p2,p3,p4,pl,pos,rfl,rfl,hl,mr⟩
theorem Js{n i:Nat}{ρ:a_}{d:D}{r:Fo×a_}(h:Be Φ n i ρ kd d=ok r):∃x x',ρ[i]?=some (some x)/\aR anyF kd=false/\aR anyF d=false/\Φ n [x,kd,d]=ok x'/\r=(.nx,ρ.set i (some x')):=by
 unfold Be at h;split at h
 ·rename_i x hx;split at h
  ·rename_i hc;obtain⟨x',h1,h2⟩:=aG h;cases h2;exact⟨x,x',hx,hc.1,hc.2,h1,rfl⟩
  ·cases h
 ·cases h
variable {as:aN}{cs:ag}
section
variable {X:Cx}{F R:ai}{τ:Addr->Option bj}{ρ:a_}{σ:St}{H:Hp}
theorem SI.Ta{i:Nat}{ds:ab}(Si:SI X F R τ ρ σ H)(hi:ρ[i]?=some (some (.dC .ow cs ds))):
  ∃p as xs ep,σ[i]?=some (some (.ref p))/\H p=some (.ext (PJ p cs as xs ep))/\τ p=some [i]/\gx (aU X.K H) as cs/\aA (aU X.K H) (nd X.K R (λ_=>False) τ H) [i] 0 xs ds:=by
 obtain⟨v,hv,rp⟩:=Si.rep i _ hi;cases rp with
 |dC h k r=>exact⟨_,_,_,_,hv,h.1,h.2,k,r⟩
theorem SI.drop(i:Nat)(S:SI X F R τ ρ σ H):SI X F R τ (ρ.set i none) σ H:=by
 refine⟨by simp[S.len],λj d hj=>?_,S.rt,S.rh,S.rf,S.th,S.t0,S.same⟩;have gS:i≠j:=by
  rintro rfl;by_cases h:i<ρ.length
  ·rw[List.getElem?_set_self h]at hj;cases hj
  ·rw[List.getElem?_eq_none (by rw[List.length_set];left)]at hj;cases hj
 rw[List.getElem?_set_ne gS]at hj;exact S.rep j d hj
theorem pC(k:gx T as cs){b:Addr}{c:aa}(hb:oe T b c):gx T (jD cs as c b) (aL cs c):=by
 unfold jD aL;by_cases e:c∈cs
 ·rw[if_pos e,if_pos e];exact k
 ·rw[if_neg e,if_neg e];refine⟨by rw[List.length_append,List.length_append,k.len];rfl,λj a c' ha hc=>?_⟩;by_cases hj:j<as.length
  ·rw[List.getElem?_append_left hj]at ha;rw[List.getElem?_append_left (by rw[<- k.len];exact hj)]at hc;exact k.key j a c' ha hc
  ·rw[List.getElem?_append_right (by left)]at ha;rw[List.getElem?_append_right (by rw[<- k.len];left),<- k.len]at hc;cases hz:j - as.length with
   |zero =>
    rw[hz]at ha hc;cases ha;cases hc;exact hb
   |succ m=>rw[hz]at ha;cases ha
theorem SI.VG{i j:Nat}{vs gs:ab}{d:D}{u:V}{p q:Addr}{xs:ae}{ep:Nat}(Si:SI X F R τ ρ σ H)(ho:ρ[i]?=some (some (.dC .ow cs vs)))(hv:σ[i]?=some (some (.ref q)))(hq:H q=some (.ext (PJ q cs as xs ep)))(Y1:τ q=some [i])(hk:gx (aU X.K H) as cs)
  (rs:aA (aU X.K H) (nd X.K R (λ_=>False) τ H) [i] 0 xs vs) (hx:xs[j]?=some (.ref p)) (hj:vs[j]?=some (.lst .ow gs)) {k:bj} (ru:Rep (aU X.K H) N k u d) (hf:aR anyF d=false) :
  ∃zs,H p=some (.lst zs)/\zs.length=gs.length/\τ p=some [j,i]/\SI X F R τ (ρ.set i (some (.dC .ow cs (oW j (.lst .ow (gs++[d])) 0 vs)))) σ (upd H p (.lst (zs++[u]))):=by
 obtain⟨w,hw,j5⟩:=rs.get hj;rw[Nat.zero_add]at j5;rw[hx]at hw;cases hw;cases j5 with
 | @lst _ _ zs _ _ hp rz =>
 refine⟨zs,hp.1,rz.length,hp.2,Si.clr ho hp.1 hp.2 hv (.dC (as:=as) (ep:=ep) (xs:=xs) (Si.QU (n:=.ej cs as xs ep) (f:=.ow) hp.1 hp.2 (λz=>?_) ⟨hq,Y1⟩) (hk.imp λ_ _ h=>j0 hp.1 h) (aA.oW (λ_ _ h=>j0 hp.1 h) (λc m a n f hm h=>Si.QU hp.1 hp.2 (λz=>?_) h) rs λm w WM hm=>?_))⟩
 ·have:=aaU List.length z;simp at this
 ·have:=aaU List.reverse z;simp at this;exact hm this.1
 ·rw[Nat.zero_add]at hm;subst hm;rw[hx]at WM;cases WM;refine .lst ⟨aS,hp.2⟩ (aA.wj (aA.child (λ_ _ h=>j0 hp.1 h) (λc n a ys f h=>Si.QU hp.1 hp.2 (λz=>?_) h) rz) ((iR (N':=nd X.K R (λ_=>False) τ (upd H p (.lst (zs++[u])))) ru hf).imp (q:=(0+gs.length)::[m,i]) (λ_ _ h=>j0 hp.1 h) λ_ _ _ _ h=>h))
  ·have:=aaU List.length z;simp at this
end
theorem IJ{n:Nat}(hΦ:Φ n=uY){sc:Scope}{bl:aq}{k:Nat}(L:PX X sc bl k)(hN:X.N.Nodup)(yP:∀x,X.fn x=true){x:Str}(he:qU sc bl st=some (.Name x pos,args))
  {i:Nat} (hi:X.N[i]?=some x) (hl:L2.Loc X.env.scope x) (pe:PE X (.Name x pos) (uM i)) {c1 c2:CE} (hs:l9 X F Φ [c1,c2] args):PS X st (lR X F Φ (.mu2 n i c1 c2)):=by
 obtain⟨ke,ve,p1,p2,p3,p4,pl,pos',rfl,rfl,xp,tN⟩:=zf he;obtain⟨⟨a1,a2,e0,h1,h2⟩,_,s1,s2⟩:=ig hs;cases e0;refine PS.imp (qm (AU abE abA PySem.F.type_list_append pw (IU (BG L.room) pe (cA h1 (cA (AR dR) dR) (s1 _)) s1 (λ_=>rfl) xp) (cA h2 dR (s2 _)) (hfew:=by rw[s2];rfl) (hline:=tN) (hs:=s2 _))) λD σ H hq=>?_;obtain⟨R,τ,ρ,r,Si,ev,hq⟩:=hq;obtain⟨kd,Z8,ev⟩:=aG ev;obtain⟨d,ed,ev⟩:=aG ev;obtain⟨x0,x',ho,hfk,Zq,BE,rfl⟩:=Js ev;rw[hΦ]at BE;obtain⟨cs,vs,c,ws,rfl,Zg,WS,nE,rfl⟩:=Ek BE;obtain⟨q,as,xs,ep,hv,hd,ht,hk,rs⟩:=Si.Ta ho;have hc0:cL=1000000:=rfl;have JV:sizeLine=16777216:=aa2;have L4:i<ρ.length:=by
  by_cases z:i<ρ.length
  ·exact z
  ·rw[List.getElem?_eq_none (by left)]at ho;cases ho
 have fin:∀{H':Hp} {τ':Addr->Option bj} {ρ1:a_} {Mc:ag} {VF:aN} {LF:ae} {Xm:Nat} {vs1 gs:List DI.D} {j:Nat} {u:V},SI X F R τ' ρ1 σ H'->Kp R H R H'->ρ1[i]?=some (some (.dC .ow Mc vs1))->ρ1.set i none=ρ.set i none->vs1[j]?=some (.lst .ow gs)->gs.length<cL->Mc=aL cs c->ws=oW j (.lst .ow (gs++[d])) 0 vs1 ->
   H' q=some (.ext (PJ q Mc VF LF Xm))->τ' q=some [i]->gx (aU X.K H') VF Mc->aA (aU X.K H') (nd X.K R (λ_=>False) τ' H') [i] 0 LF vs1->LF[j]?=some u->Qp X.K "list" u H'/\Ad (tD X F Φ c2) HX σ H' λxs H2=>wC u xs H2 λ_ H3=>D.nx σ H3:=by
  intro H' τ' ρ1 Mc VF LF Xm vs1 gs j u fL kp Hb OA hj hg ek ew Fs WQ C6 rL WK;have XF:=fL.drop i;rw[OA]at XF;obtain⟨w,hw,j5⟩:=rL.get hj;rw[WK]at hw;cases hw;obtain⟨l,zs,rfl,mr,rz⟩:=j5.rS;refine⟨.inl ⟨rfl,_,dh.of mr.1⟩,tD.intro XF ed λy H3 e3 r3=>?_⟩;obtain⟨τ3,f3,q3⟩:=r3;obtain⟨X0,g4,g5,g6,Mi⟩:=(fL.go e3).VG Hb hv (e3 _ _ Fs) WQ (C6.imp λ_ _ h=>aU.same e3 h) (rL.imp (λ_ _ h=>aU.same e3 h) λ_ _ _ _ h=>nd.same e3 h) WK hj q3 Zq;refine⟨l,X0,y,rfl,rfl,g4,by left,?_⟩;have er:ρ1.set i (some (.dC .ow Mc (oW j (.lst .ow (gs++[d])) 0 vs1)))=ρ.set i (some (.dC .ow (aL cs c) ws)):=by
   rw[ek,<- ew];have:=aaU (λz:a_=>z.set i (some (.dC .ow (aL cs c) ws))) OA;simpa using this
  rw[er]at Mi;exact hq σ _ R τ' Mi (kp.trans (nq (n:=.l _) (fL.go e3) e3 (λ_ h=>h) g4 g6))
 refine⟨.ref q,hv,q,cs,as,xs,ep,rfl,hd,tD.intro Si Z8 λu H1 e1 ru=>⟨by simp,λl mr=>?_⟩⟩;obtain⟨τ1,f1,r1⟩:=ru;obtain⟨b,rfl,hb⟩:=wJ Zg r1;have e2:aJ H1 (upd H1 l (.lst [])):=aJ.upd mr;have es:=e1.trans e2;have uq:=Si.go es;have Q2:=hk.imp λ_ _ h=>aU.same es h;have UQ:oe (aU X.K (upd H1 l (.lst []))) b c:=hb.imp λ_ _ h=>aU.same e2 h;have yv:aA (aU X.K (upd H1 l (.lst []))) (nd X.K R (λ_=>False) τ (upd H1 l (.lst []))) [i] 0 xs vs:=rs.imp (λ_ _ h=>aU.same es h) λ_ _ _ _ h=>nd.same es h;refine⟨b,c,.ref l,rfl,es _ _ hd,Q2,UQ,by left,λw hw=>?_,λhn kr=>?_⟩
 ·rcases qe WS with ⟨xn,_,_⟩|⟨j,gs,g1,g2,g3,g4,g5⟩
  ·rw[xx xn]at hw;exact nk hw
  ·rw[g4 xs rs.length]at hw;exact fin uq (Kp.of es λ_ h=>h) ho rfl g1 g2 (by unfold aL;rw[if_pos g3]) g5 (es _ _ hd) ht Q2 yv hw
 ·rcases qe WS with ⟨xn,hlen,hws⟩|⟨j,gs,g1,g2,g3,g4,g5⟩
  ·have xo:H l=none:=e1.free mr;have hlq:l≠q:=λz=>by rw[z,hd]at xo;cases xo
   have rk:gJ X R τ (upd H1 l (.lst [])) (.ref l) (.lst .ow []):=⟨λa=>if a=l then some []else none,λa z hz=>by
    by_cases ha:a=l
    ·subst ha;refine⟨?_,λhr=>Si.rh a hr xo,?_,by rw[aS];simp⟩
     ·cases Uh:τ a with
      |none=>rfl
      |some z=>exact absurd xo (Si.th a z Uh)
     ·cases h0:X.H₀ a with
      |none=>rfl
      |some o=>rw[Si.same a o h0]at xo;cases xo
    ·simp[ha]at hz,.lst ⟨aS,by simp⟩ .nil⟩
   have L0:dO (upd H1 l (.lst [])) q (.ej cs as xs ep):=es _ _ hd;have ekc:aL cs c=cs++[c]:=by unfold aL;rw[if_neg xn]
   have Xl:bC cs xs c (.ref l)=xs++[.ref l]:=by unfold bC;rw[if_neg xn]
   obtain⟨τ3,rC,Y2,Yt⟩:=uq.Np (m:=vs.length) (n':=.ej (aL cs c) (jD cs as c b) (bC cs xs c (.ref l)) kr) (o:=.ext (PJ q (aL cs c) (jD cs as c b) (bC cs xs c (.ref l)) kr)) (d1:=.dC .ow (aL cs c) (vs++[.lst .ow []])) (xs':=bC cs xs c (.ref l)) (ds':=vs++[.lst .ow []]) ho hv L0 ht yv rk aS
    (λhN r=>.dC hN (pC (Q2.imp λ_ _ h=>kS L0 h) (UQ.imp λ_ _ h=>kS L0 h)) r) (λrs r=>by have h:=aA.wj rs (by simpa using r);rw[<- Xl]at h;exact h)
   refine fin (vs1:=vs++[.lst .ow []]) (gs:=[]) (j:=vs.length) rC (nq uq es (λ_ h=>h) L0 ht) (by rw[List.getElem?_set_self L4]) (by simp) (by simp) (by simp;left) rfl ?_ aS Y2 (pC (Q2.imp λ_ _ h=>kS L0 h) (UQ.imp λ_ _ h=>kS L0 h)) Yt (by rw[Xl,List.getElem?_append_right (by rw[rs.length];exact Nat.le_refl _),rs.length];simp);rw[hws];have:∀(vs:List DI.D) (n:Nat),oW (n+vs.length) (.lst .ow [d]) n (vs++[.lst .ow []])=vs++[.lst .ow [d]]:=λvs=>by
    induction vs with
    |nil=>intro n;show(if n=n+0 then _ else _)::oW _ _ _ []=_;rw[if_pos (by left)];rfl
    |cons v vs ih =>
     intro n;show(if n=n+(vs.length+1)then _ else v)::oW (n+(vs.length+1)) _ (n+1) (vs++[.lst .ow []])=_;rw[if_neg (by left),show n+(vs.length+1)=n+1+vs.length by left,ih];rfl
   have h0:=this vs 0;rw[Nat.zero_add]at h0;exact h0.symm
  ·exact absurd g3 hn
end DI
end
section
namespace DI
open PySem (Str)
section
variable {α:Type}
theorem uR(f g:α->Rat):∀l:List α,(l.map λx=>f x+g x).sum=(l.map f).sum+(l.map g).sum
 |[]=>by show(0:Rat)=0+0;grind
 |x::l=>by rw[List.map_cons,List.map_cons,List.map_cons,List.sum_cons,List.sum_cons,List.sum_cons,uR f g l];grind
theorem gC{f:α->Rat}:∀{l:List α},(∀x∈l,f x=0)->(l.map f).sum=0
 |[],_=>rfl
 |x::l,h=>by rw[List.map_cons,List.sum_cons,h x List.mem_cons_self,gC λy hy=>h y (List.mem_cons_of_mem _ hy)];grind
theorem wo{f:α->Rat}:∀{l:List α},(∀x∈l,0<=f x)->0<=(l.map f).sum
 |[],_=>Rat.le_refl
 |x::l,h=>by
  rw[List.map_cons,List.sum_cons];have h1:=h x aai;have h2:=wo λy hy=>h y (aag _ hy);grind
theorem GL{f:α->Rat}:∀{l:List α} {y:α},(∀x∈l,0<=f x)->y∈l->f y<=(l.map f).sum
 |x::l,y,h,hy=>by
  rw[List.map_cons,List.sum_cons];have h1:=h x aai;have h2:=wo λy hy=>h y (aag _ hy);rcases List.mem_cons.mp hy with rfl|hy
  ·grind
  ·have:=GL (λy hy=>h y (aag _ hy)) hy;grind
theorem Ak{β:Type}[DecidableEq β](y:β)(F:β->Rat):∀{cs:List β},cs.Nodup->(cs.map λc=>if y=c then F c else 0).sum=if y∈cs then F y else 0
 |[],_=>by simp
 |c::cs,h=>by
  obtain⟨h1,h2⟩:=List.nodup_cons.mp h;rw[List.map_cons,List.sum_cons,Ak y F h2];by_cases e:y=c
  ·subst e;rw[if_pos rfl,if_neg h1,if_pos List.mem_cons_self];grind
  ·rw[if_neg e];by_cases m:y∈cs
   ·rw[if_pos m,if_pos (List.mem_cons_of_mem _ m)];grind
   ·rw[if_neg m,if_neg λz=>(List.mem_cons.mp z).elim e m];grind
theorem iS{β:Type}[DecidableEq β](s:α->β)(f:α->Rat)(F:β->Rat){cs:List β}(hn:cs.Nodup):∀(l:List α),(∀x∈l,s x∈cs)->(cs.map λc=>F c*(l.map λx=>if s x=c then f x else 0).sum).sum=(l.map λx=>F (s x)*f x).sum
 |[],_=>by
  rw[List.map_nil,List.sum_nil];exact gC λc _=>by simp
 |x::l,h=>by
  have ih:=iS s f F hn l λy hy=>h y (aag _ hy);rw[List.map_cons,List.sum_cons,<- ih];have e1:(cs.map λc=>F c*((x::l).map λx=>if s x=c then f x else 0).sum).sum=(cs.map λc=>(if s x=c then F c*f x else 0)+F c*(l.map λx=>if s x=c then f x else 0).sum).sum:=by
   congr 1;refine aan λc _=>?_;rw[List.map_cons,List.sum_cons];by_cases e:s x=c
   ·rw[if_pos e,if_pos e];grind
   ·rw[if_neg e,if_neg e];grind
  rw[e1,uR,Ak (s x) (λc=>F c*f x) hn,if_pos (h x List.mem_cons_self)]
end
def bz(ks:ag)(rs:aC):ag:=rs.foldl (λks r=>aL ks (sortI r.2)) ks
theorem gk:∀{rs:aC} {ks:ag} {c:aa},c∈bz ks rs ↔ c∈ks\/∃r∈rs,sortI r.2=c
 |[],ks,c=>by simp[bz]
 |r::rs,ks,c=>by
  show c∈bz (aL ks (sortI r.2)) rs ↔ _;rw[gk,b6];constructor
  ·rintro ((h|h)|⟨s,h1,h2⟩)
   ·exact .inl h
   ·exact .inr ⟨r,aai,h.symm⟩
   ·exact .inr ⟨s,aag _ h1,h2⟩
  ·rintro (h|⟨s,h1,h2⟩)
   ·exact .inl (.inl h)
   ·rcases List.mem_cons.mp h1 with rfl|h1
    ·exact .inl (.inr h2.symm)
    ·exact .inr ⟨s,h1,h2⟩
theorem mm:∀{rs:aC} {ks:ag},ks.Nodup->(bz ks rs).Nodup
 |[],_,h=>h
 |r::rs,ks,h=>mm (rs:=rs) (kf h _)
theorem j_:∀{rs:aC} {ks:ag},(bz ks rs).length<=ks.length+rs.length
 |[],ks=>aam _
 |r::rs,ks=>by
  have:=j_ (rs:=rs) (ks:=aL ks (sortI r.2));have h:=dU ks (sortI r.2);show(bz (aL ks (sortI r.2)) rs).length<=_;rw[List.length_cons];left
def f_(rs:aC)(c:aa):Rat:=(rs.map λr=>if sortI r.2=c then r.1 else 0).sum
def jq(b:Nat)(rs:aC)(c:aa):Int:=(rs.map λr=>if sortI r.2=c then ba b r.1 else 0).sum
def dX(rs:aC):aC:=(bc (bz [] rs)).map λc=>(f_ rs c,c)
theorem wa{b:Nat}:∀{rs:aC} (c:aa),(∀r∈rs,r.1.den∣b)->((jq b rs c:Int):Rat)=f_ rs c*(b:Rat)
 |[],c,_=>by show((0:Int):Rat)=0*_;rw[Rat.zero_mul];rfl
 |r::rs,c,h=>by
  have ih:=wa (rs:=rs) c λs hs=>h s (aag _ hs);have e1:jq b (r::rs) c=(if sortI r.2=c then ba b r.1 else 0)+jq b rs c:=rfl;have e2:f_ (r::rs) c=(if sortI r.2=c then r.1 else 0)+f_ rs c:=rfl;rw[e1,e2,Rat.intCast_add,ih];by_cases e:sortI r.2=c
  ·rw[if_pos e,if_pos e,fb (h r List.mem_cons_self)];grind
  ·rw[if_neg e,if_neg e];have:((0:Int):Rat)=0:=rfl;rw[this];grind
theorem Rw.Yq{n:Nat}{l:aa}(h:Rw n l):zG n (sortI l):=by
 have hp:=sortI_perm l;have hle:=sv l;have zB:(sortI l).Nodup:=hp.nodup_iff.mpr h.1;refine⟨?_,λx hx=>h.2.2 x (hp.mem_iff.mp hx)⟩;exact(List.pairwise_and_iff.mpr ⟨hle,zB⟩).imp λ⟨a,b⟩=>by left
theorem Li{W:Nat}{q:Rat}(h:∃z:Int,q*(W:Rat)=(z:Rat))(hW:0<W):q.den∣W:=by
 obtain⟨z,e⟩:=h;have hq:q=Rat.divInt z W:=by
  rw[Rat.divInt_eq_div,<- e,Rat.intCast_natCast];have:=ju hW;grind
 rw[hq];have:=nX (t:=z) (b:=(W:Int)) (by left);simpa using this
section
variable {n:Nat}{rs:aC}(I:Dp (Rw n) 6 n rs)
include I
theorem nZ{c:aa}(hc:c∈bz [] rs):0<f_ rs c:=by
 rcases gk.mp hc with h|⟨r,hr,e⟩
 ·exact nomatch h
 ·have h0:∀s∈rs,0<=(if sortI s.2=c then s.1 else 0):=λs hs=>by
   have:=I.pos s hs;split
   ·exact abB this
   ·exact Rat.le_refl
  have h1:=GL h0 hr;rw[if_pos e]at h1;have h2:=I.pos r hr;unfold f_;grind
theorem Hr(c:aa):f_ rs c<=1:=by
 have h1:=I.one;have h2:(rs.map (·.1)).sum=f_ rs c+(rs.map λr=>if sortI r.2=c then 0 else r.1).sum:=by
  unfold f_;rw[<- uR];congr 1;refine aan λr _=>?_;split<;>grind
 have h3:0<=(rs.map λr=>if sortI r.2=c then 0 else r.1).sum:=wo λr hr=>by
  have:=I.pos r hr;split
  ·exact Rat.le_refl
  ·exact abB this
 grind
theorem Ca(Fi:rK rs):Dr 6 n (dX rs)/\rK (dX rs):=by
 have hp:(bc (bz [] rs)).Perm (bz [] rs):=aaC _ _;have hl:(dX rs).length<=rs.length:=by
  have:=j_ (rs:=rs) (ks:=[]);unfold dX;rw[List.length_map,hp.length_eq];simpa using this
 obtain⟨W,w0,w1,w2⟩:=Fi;have OV:∀c,(f_ rs c).den∣W:=λc=>Li ⟨jq W rs c,(wa c w2).symm⟩ w0;have mem:∀r∈dX rs,∃c∈bz [] rs,r=(f_ rs c,c):=λr hr=>by
  obtain⟨c,hc,rfl⟩:=List.mem_map.mp hr;exact⟨c,hp.mem_iff.mp hc,rfl⟩
 have hF:rK (dX rs):=⟨W,w0,w1,λr hr=>by obtain⟨c,_,rfl⟩:=mem r hr;exact OV c⟩
 refine⟨⟨I.n1,I.n2,aaG (aaH _ (by left)) I.lI,.inr hF,by have:=I.len;left,λr hr=>?_,λr hr=>?_,λr hr=>?_,?_,?_⟩,hF⟩
 ·obtain⟨c,hc,rfl⟩:=mem r hr;rcases gk.mp hc with h|⟨s,hs,rfl⟩
  ·exact nomatch h
  ·exact(I.lot s hs).Yq
 ·obtain⟨c,hc,rfl⟩:=mem r hr;exact nZ I hc
 ·obtain⟨c,hc,rfl⟩:=mem r hr;have h1:=A4 (Hr I c);have h2:=GZ (abB (nZ I hc));have h3:=abr w0 (OV c);exact⟨by show(f_ rs c).num.natAbs<64;left,by show(f_ rs c).den<64;left⟩
 ·have e:(dX rs).map (·.1)=(bc (bz [] rs)).map λc=>1*f_ rs c:=by
   unfold dX;rw[List.map_map];exact aan λc _=>by show f_ rs c=1*f_ rs c;rw[Rat.one_mul]
  rw[e];have h:=iS (λr:Row=>sortI r.2) (λr=>r.1) (λ_=>1) (hp.nodup_iff.mpr (mm (rs:=rs) aaR)) rs λr hr=>hp.mem_iff.mpr (gk.mpr (.inr ⟨r,hr,rfl⟩));unfold f_;rw[h];have e2:(rs.map λr=>1*r.1)=rs.map (·.1):=aan λr _=>Rat.one_mul _;rw[e2];exact I.one
 ·have e:(dX rs).map (·.2)=bc (bz [] rs):=by
   unfold dX;rw[List.map_map];exact(aan λ_ _=>rfl).trans (aca _)
  rw[e];exact gB (mm aaR)
end
noncomputable def DN:ah:=[.asg (.nm 5) (.bf .tuple1 [(.bf .cT [(.v 4)])]),.mut 1033 2 [(.bin .add (.b9 1031 [(.v 2),(.v 5),(.int 0)]) (.v 3)),(.v 5)]]
def F_:ah:=[.ex (.call 73 [(.v 0)]),.asg (.nm 1) (.call 14 [(.ix (.v 0) (.int 1))]),.asg (.nm 2) (.b9 1030 []),.fr (.tp [3,4]) (.seq (.ix (.v 1) (.int 1))) DN,.ret (.call 18 [(.ix (.v 0) (.int 0)),(.v 2),(.ix (.v 1) (.int 0))])]
def LA(m:az):Prop:=∀n rs,Dp (Rw n) 6 n rs->rK rs->m [bN n rs]=ok (iX .ow n (dX rs))
theorem xH(Φ:aY)(P:HD Φ)(b:Nat)(c0 c1:aH):∀(l:aC) (ks:ag) (w:aa->Int) (c3 c4 c5:aH),(∀r∈l,r.2.length<=12)->ks.length+l.length<900->(∀c,c∉ks->w c=0) ->
  ∃F6 Lq CG,dN (λd ρ=>cv (.tp [3,4]) d ρ) (λρ=>bI Φ DN ρ) (jR b l) [c0,c1,some (mU .ow ks w),c3,c4,c5]=ok (.nx,[c0,c1,some (mU .ow (bz ks l) λc=>w c+jq b l c),F6,Lq,CG])
 |[],ks,w,c3,c4,c5,_,_,_=>⟨c3,c4,c5,by
   have:(λc=>w c+jq b [] c)=w:=funext λc=>by show w c+0=w c;left
   rw[this];rfl⟩
 |r::l,ks,w,c3,c4,c5,hr,hl,hz=>by
  rw[List.length_cons]at hl;have vy:=hr r aai;have g1:=λf=>RT P (e:=D.int) GP f ks w 0 (sortI r.2) (hz _);have g2:=z4 P (ks:=ks) (by left) w (sortI r.2) (ba b r.1);have hk:=dU ks (sortI r.2);obtain⟨d3,d4,d5,ih⟩:=xH Φ P b c0 c1 l (aL ks (sortI r.2)) (eW w (sortI r.2) (ba b r.1)) (some (.int (ba b r.1))) (some (.tup (af r.2))) (some (.tup (af (sortI r.2)))) (λs hs=>hr s (aag _ hs)) (by left) (λc hc=>by
   unfold eW;rw[if_neg λz=>hc (b6.mpr (.inr z))];exact hz c λz=>hc (b6.mpr (.inl z)))
  have ef:(λc=>eW w (sortI r.2) (ba b r.1) c+jq b l c)=λc=>w c+jq b (r::l) c:=funext λc=>by
   have e:jq b (r::l) c=(if sortI r.2=c then ba b r.1 else 0)+jq b l c:=rfl;rw[e];unfold eW;by_cases z:c=sortI r.2
   ·rw[if_pos z,if_pos z.symm];left
   ·rw[if_neg z,if_neg (Ne.symm z)];left
  rw[ef]at ih;have es:kM .cT [.tup (af r.2)]=ok (.lst .ow (af (sortI r.2))):=qO (by left);have et:kM .tuple1 [.lst .ow (af (sortI r.2))]=ok (.tup (af (sortI r.2))):=by
   show ok (D.tup (aB bo (af (sortI r.2))))=_;rw[b_]
  refine⟨d3,d4,d5,dH (x:=.tup [.int (ba b r.1),.tup (af r.2)]) (ρ1:=[c0,c1,some (mU .ow ks w),some (.int (ba b r.1)),some (.tup (af r.2)),c5]) (by simp) (ρ2:=[c0,c1,some (mU .ow (aL ks (sortI r.2)) (eW w (sortI r.2) (ba b r.1))),some (.int (ba b r.1)),some (.tup (af r.2)),some (.tup (af (sortI r.2)))]) ?_ ih⟩;have x1:=zR (Φ:=Φ) (p:=1033) (i:=2) (es:=[(.bin .add (.b9 1031 [(.v 2),(.v 5),(.int 0)]) (.v 3)),(.v 5)]) (ρ:=[c0,c1,some (mU .ow ks w),some (.int (ba b r.1)),some (.tup (af r.2)),some (.tup (af (sortI r.2)))]) (xs:=[.int (w (sortI r.2)+ba b r.1),.tup (af (sortI r.2))]) (by
   have m:=qw bo .ow ks w;have Z0:Φ 1031 [mU .al ks w,.tup (af (sortI r.2)),.int 0]=ok (.int (w (sortI r.2))):=g1 .al;simp[m,bo,Z0]) (by simp) rfl g2
  simp only[List.set]at x1;have a1:k_ Φ (.asg (.nm 5) (.bf .tuple1 [(.bf .cT [(.v 4)])])) [c0,c1,some (mU .ow ks w),some (.int (ba b r.1)),some (.tup (af r.2)),c5]=ok (.nx,[c0,c1,some (mU .ow ks w),some (.int (ba b r.1)),some (.tup (af r.2)),some (.tup (af (sortI r.2)))]):=by
   simp[es,et]
  rw[DN,bW,a1];show bI Φ [.mut 1033 2 _] _=_;rw[bW,x1];rfl
theorem Ss(Φ:aY)(P:HD Φ)(Ko:gw (Φ 14))(ZT:HB (Φ 18))(Kk:n8 (Φ 73)):LA (mk Φ 1 6 F_):=by
 intro n rs I Fi;have e1:=Kk 6 n rs I;have e2:=Ko rs 6 I.GJ;obtain⟨b0,b1,b2⟩:=I.bot;have hf:=I.lI;have w2:∀r∈rs,r.1.den∣bH (dM rs):=λr hr=>b2 _ (aay hr);generalize bH (dM rs)=b at *;have UE:∀r∈rs,r.2.length<=12:=λr hr=>aaG (I.lot r hr).2.1 I.n2;have Zc:=j_ (rs:=rs) (ks:=[]);have hp:(bc (bz [] rs)).Perm (bz [] rs):=aaC _ _;obtain⟨c3,c4,c5,el⟩:=xH Φ P b (some (bN n rs)) (some (.tup [.int b,.lst .fz (jR b rs)])) rs [] (λ_=>0) none none none UE (by simp;left) (λ_ _=>rfl);have ew:(λc=>(0:Int)+jq b rs c)=jq b rs:=funext λc=>by left
 rw[ew]at el;have e3:=ZT .fz n (bz [] rs) ((bz [] rs).map (jq b rs)) b (by simp) (by simp at Zc;left) (by left) (aal (show(b:Int).natAbs<2 ^ 61 by simpa using b1) (aaw (by decide) (by decide)));have ed:vI (bz [] rs) ((bz [] rs).map (jq b rs)) b=dX rs:=by
  have hg:∀c∈bc (bz [] rs),bR (bz [] rs) ((bz [] rs).map (jq b rs)) c=jq b rs c:=λc hc=>by
   unfold bR;rw[kn,if_pos (hp.mem_iff.mp hc)];rfl
  have hq:∀c∈bc (bz [] rs),0<jq b rs c/\Rat.divInt (jq b rs c) b=f_ rs c:=λc hc=>by
   have uz:=nZ I (hp.mem_iff.mp hc);have ht:=wa c w2;have hb:=ju b0;have oI:(0:Rat)<(b:Rat):=by exact_mod_cast b0
   refine⟨?_,?_⟩
   ·have:(0:Rat)<((jq b rs c:Int):Rat):=by rw[ht];exact Rat.mul_pos uz oI
    exact_mod_cast this
   ·rw[Rat.divInt_eq_div,ht,Rat.intCast_natCast];grind
  unfold vI dX;rw[List.filter_eq_self.mpr λc hc=>by rw[hg c hc];exact decide_eq_true (hq c hc).1];exact aan λc hc=>by rw[hg c hc,(hq c hc).2]
 rw[ed]at e3;have e3:Φ 18 [.int n,mU .fz (bz [] rs) (jq b rs),.int b]=ok (iX .ow n (dX rs)):=by
  have:af ((bz [] rs).map (jq b rs))=(bz [] rs).map λk=>.int (jq b rs k):=by unfold af;rw[List.map_map];rfl
  rw[this]at e3;exact e3
 have m1:aT aW (bN n rs)=bN n rs:=by simp[bN]
 have m2:aT bo (bN n rs)=bN n rs:=by simp[bN]
 have hd:bN n rs=.tup [.int n,.lst .fz (bM rs)]:=rfl;have x0:uy (bN n rs) (.int 0)=ok (.int n):=by rw[hd];simp
 have x1:uy (bN n rs) (.int 1)=ok (.lst .fz (bM rs)):=by rw[hd];simp
 have e0:Φ 1030 []=ok (mU .ow [] λ_=>0):=by rw[P.B3];rfl
 have hit:cJ Φ (.seq (.ix (.v 1) (.int 1))) [some (bN n rs),some (.tup [.int b,.lst .ow (jR b rs)]),some (mU .ow [] λ_=>0),none,none,none]=ok (jR b rs,[some (bN n rs),some (.tup [.int b,.lst .fz (jR b rs)]),some (mU .ow [] λ_=>0),none,none,none]):=by
  rw[Bx (f:=.al) (ds:=jR b rs) (by simp)];simp[g9]
 have UN:=e9 (Φ:=Φ) (t:=.tp [3,4]) (b:=DN) hit el;have o2:∀ks w,aR bJ (mU .ow ks w)=false:=λks w=>Fy _ _ _ _;have o3:∀f ks w,aT bo (mU f ks w)=mU (bo f) ks w:=λf ks w=>qw _ _ _ _;have o4:∀f ks w,aT aW (mU f ks w)=mU (aW f) ks w:=λf ks w=>qw _ _ _ _;simp[mk_eq,F_,m1,m2,x0,x1,e0,e1,e2,o2,UN,o3,o4,bo,aW,e3,iX]
variable {Φ:aY}{ρ:a_}
theorem Ms{p i:Nat}{k e:CE}{kd d x d':D}(h1:bw Φ k ρ=ok kd)(h2:bw Φ e (ρ.set i none)=ok d)(h3:ρ[i]?=some (some x))(h4:aR anyF kd=false)(h5:aR anyF d=false)(h6:Φ p [x,kd,d]=ok d'):k_ Φ (.mu2 p i k e) ρ=ok (.nx,ρ.set i (some d')):=by
 show bd (bw Φ k ρ) (λkd=>bd (bw Φ e (ρ.set i none)) λd=>Be Φ p i ρ kd d)=_;rw[h1,cx,h2,cx];unfold Be;rw[h3];show(if aR anyF kd=false/\aR anyF d=false then bd (Φ p [x,kd,d]) λd'=>ok (Fo.nx,ρ.set i (some d'))else none)=_;rw[if_pos ⟨h4,h5⟩,h6];rfl
def ph(f:Fl)(ks:ag)(g:aa->au):D:=.dC f ks (ks.map λk=>.lst f (bp (g k)))
theorem w8(m:Fl->Fl)(f:Fl)(ks:ag)(g:aa->au):aT m (ph f ks g)=ph (m f) ks g:=by
 show D.dC (m f) ks (aB m (ks.map λk=>.lst f (bp (g k))))=_;rw[aQ,List.map_map];congr 1;exact aan λk _=>by show aT m (.lst f (bp (g k)))=_;simp
noncomputable def fC(g:aa->au)(c:aa)(q:Rat):aa->au:=λk=>if k=c then g k++[q]else g k
theorem sG(g:aa->au)(c:aa)(q:Rat)(hg:(g c).length<cL):∀ks:ag,ks.Nodup->(c∉ks->g c=[])->kW ks (ks.map λk=>.lst .ow (bp (g k))) c (qD q)=some ((aL ks c).map λk=>.lst .ow (bp (fC g c q k)))
 |[],_,h0=>by
  have e:aL [] c=[c]:=by unfold aL;rw[if_neg (by simp)];rfl
  have e2:fC g c q c=[q]:=by unfold fC;rw[if_pos rfl,h0 (by simp)];rfl
  rw[e,List.map_cons,e2];rfl
 |k::ks,hn,h0=>by
  obtain⟨h1,h2⟩:=List.nodup_cons.mp hn;show(if k=c then(match NH (.lst .ow (bp (g k)))with|some gs=>if gs.length<cL then some (.lst .ow (gs++[qD q])::ks.map λk=>.lst .ow (bp (g k)))else none|none=>none)else(kW ks (ks.map λk=>.lst .ow (bp (g k))) c (qD q)).map (D.lst .ow (bp (g k)) :: ·))=_;by_cases e:k=c
  ·subst e;rw[if_pos rfl];show(if (bp (g k)).length<cL then some (D.lst .ow (bp (g k)++[qD q])::ks.map λk=>.lst .ow (bp (g k)))else none)=_;rw[if_pos (by simpa using hg)];have ek:aL (k::ks) k=k::ks:=by unfold aL;rw[if_pos List.mem_cons_self]
   rw[ek,List.map_cons];congr 2
   ·unfold fC;rw[if_pos rfl];simp[bp]
   ·refine aan λj hj=>?_;unfold fC;rw[if_neg λz:j=k=>h1 (z▸hj)]
  ·rw[if_neg e,sG g c q hg ks h2 λz=>h0 λm=>(List.mem_cons.mp m).elim (λw=>e w.symm) z];have ek:aL (k::ks) c=k::aL ks c:=by
    unfold aL;by_cases m:c∈ks
    ·rw[if_pos m,if_pos (List.mem_cons_of_mem _ m)]
    ·rw[if_neg m,if_neg λz=>(List.mem_cons.mp z).elim (λw=>e w.symm) m];rfl
   rw[ek,List.map_cons];have e2:fC g c q k=g k:=by unfold fC;rw[if_neg e]
   rw[e2];rfl
theorem sT(lot:aa)(h:Int):dB (.tup [.tup (af lot),.int h])=some (h::lot):=by
 show Nw (D.tup (lot.map D.int),D.int h)=_;unfold Nw;have:keyOf (.tup (lot.map D.int))=some lot:=bh lot;show(match keyOf (.tup (lot.map D.int))with|some c=>QM c (.int h)|none=>none)=_;rw[this];rfl
variable {ks:ag}
theorem Nr(km:Φ 1200=uY)(hn:ks.Nodup)(hl:ks.length<1000)(g:aa->au)(lot:aa)(h:Int)(q:Rat)(hg:(g (h::lot)).length<1000)(h0:h::lot∉ks->g (h::lot)=[]):Φ 1200 [ph .ow ks g,.tup [.tup (af lot),.int h],qD q]=ok (ph .ow (aL ks (h::lot)) (fC g (h::lot) q)):=by
 rw[km];show(match dB (.tup [.tup (af lot),.int h])with|some c=>(match kW ks (ks.map λk=>.lst .ow (bp (g k))) c (qD q)with|some ws=>if cB .ow=true/\ks.length<cL then ok (D.dC .ow (aL ks c) ws)else none|none=>none)|none=>none)=_;rw[sT];show(match kW ks (ks.map λk=>.lst .ow (bp (g k))) (h::lot) (qD q)with|some ws=>if cB .ow=true/\ks.length<cL then ok (D.dC .ow (aL ks (h::lot)) ws)else none|none=>none)=_;rw[sG g _ q (by show _<1000000;left) ks hn h0];exact aaZ ⟨rfl,by show _<1000000;left⟩
theorem Nx(nF:Φ 1062=uZ)(g:aa->au)(lot:aa)(h:Int)(hm:h::lot∈ks):Φ 1062 [ph .fz ks g,.tup [.tup (af lot),.int h]]=ok (.lst .fz (bp (g (h::lot)))):=by
 rw[nF];show(match dB (.tup [.tup (af lot),.int h])with|some c=>(match bA ks (ks.map λk=>D.lst .fz (bp (g k))) c with|some v=>if aR mZ v=false then ok v else none|none=>none)|none=>none)=_;rw[sT];show(match bA ks (ks.map λk=>D.lst .fz (bp (g k))) (h::lot)with|some v=>if aR mZ v=false then ok v else none|none=>none)=_;rw[kn (λk=>D.lst .fz (bp (g k))),if_pos hm];exact aaZ (by simp[mZ])
noncomputable def jP(c:aa)(q:Rat)(zs:List (Int×Rat))(k:aa):au:=(zs.filter λz=>decide (z.1::c=k)).map λz=>q*z.2
def xh(c:aa)(ks:ag)(zs:List (Int×Rat)):ag:=zs.foldl (λks z=>aL ks (z.1::c)) ks
noncomputable def BD:ah:=[.mu2 1200 3 (.tup [(.v 6),(.v 7)]) (.call 6 [(.ix (.v 4) (.int 0)),(.v 8)])]
def DM:ah:=[.asg (.nm 6) (.bf .tuple1 [(.bf .cT [(.ix (.v 4) (.int 1))])]),.fr (.tp [7,8]) (.ux 1015 [(.ix (.v 4) (.int 1)),(.v 5)]) BD]
abbrev oD(c0 c1 c2:aH)(ks:ag)(g:aa->au)(c4 c5 c6 c7 c8:aH):a_:=[c0,c1,c2,some (ph .ow ks g),c4,c5,c6,c7,c8,none,none]
theorem kc{c:aa}:∀{zs:List (Int×Rat)} {ks:ag} {k:aa},k∈xh c ks zs ↔ k∈ks\/∃z∈zs,z.1::c=k
 |[],ks,k=>by simp[xh]
 |z::zs,ks,k=>by
  show k∈xh c (aL ks (z.1::c)) zs ↔ _;rw[kc,b6];constructor
  ·rintro ((h|h)|⟨s,h1,h2⟩)
   ·exact .inl h
   ·exact .inr ⟨z,aai,h.symm⟩
   ·exact .inr ⟨s,aag _ h1,h2⟩
  ·rintro (h|⟨s,h1,h2⟩)
   ·exact .inl (.inl h)
   ·rcases List.mem_cons.mp h1 with rfl|h1
    ·exact .inl (.inr h2.symm)
    ·exact .inr ⟨s,h1,h2⟩
theorem Bu{c:aa}:∀{zs:List (Int×Rat)} {ks:ag},ks.Nodup->(xh c ks zs).Nodup
 |[],_,h=>h
 |z::zs,ks,h=>Bu (zs:=zs) (kf h _)
theorem xg{c:aa}:∀{zs:List (Int×Rat)} {ks:ag},(xh c ks zs).length<=ks.length+zs.length
 |[],ks=>aam _
 |z::zs,ks=>by
  have:=xg (c:=c) (zs:=zs) (ks:=aL ks (z.1::c));have h:=dU ks (z.1::c);show(xh c (aL ks (z.1::c)) zs).length<=_;rw[List.length_cons];left
theorem tV(Φ:aY)(h6:gH (Φ 6))(km:Φ 1200=uY){j:Nat}(hj:j<=121)(c0 c1 c2 c5:aH)(r:Row)(hr:Sm 6 r.1)(c:aa):∀(zs:List (Int×Rat)) (ks:ag) (g:aa->au) (c7 c8:aH) (B:Nat),(∀z∈zs,Sm j z.2)->ks.Nodup->ks.length+zs.length<900->B+zs.length<900->(∀k,(g k).length<=B)->(∀k,k∉ks->g k=[]) ->
  ∃Lo F5,dN (λd ρ=>cv (.tp [7,8]) d ρ) (λρ=>bI Φ BD ρ) (zs.map λz=>.tup [.int z.1,qD z.2]) (oD c0 c1 c2 ks g (some (rD r)) c5 (some (.tup (af c))) c7 c8)=ok (.nx,oD c0 c1 c2 (xh c ks zs) (λk=>g k++jP c r.1 zs k) (some (rD r)) c5 (some (.tup (af c))) Lo F5)
 |[],ks,g,c7,c8,B,_,_,_,_,_,_=>⟨c7,c8,by
   have:(λk=>g k++jP c r.1 [] k)=g:=funext λk=>List.append_nil _;rw[this];rfl⟩
 |z::zs,ks,g,c7,c8,B,hz,hn,hl,hB,hg,h0=>by
  rw[List.length_cons]at hl hB;have s:=hz z aai;have e1:=h6 r.1 z.2 (hr.mono (by decide)) (s.mono (by left));have e2:=Nr km hn (by left) g c z.1 (r.1*z.2) (by have:=hg (z.1::c);left) (h0 _);have hk:=dU ks (z.1::c);obtain⟨d7,d8,ih⟩:=tV Φ h6 km hj c0 c1 c2 c5 r hr c zs (aL ks (z.1::c)) (fC g (z.1::c) (r.1*z.2)) (some (.int z.1)) (some (qD z.2)) (B+1) (λy hy=>hz y (aag _ hy)) (kf hn _) (by left) (by left) (λk=>by
   unfold fC;have:=hg k;split
   ·rw[List.length_append,List.length_singleton];left
   ·left) (λk C6=>by
   unfold fC;rw[if_neg λw=>C6 (b6.mpr (.inr w))];exact h0 k λw=>C6 (b6.mpr (.inl w)))
  have ef:(λk=>fC g (z.1::c) (r.1*z.2) k++jP c r.1 zs k)=λk=>g k++jP c r.1 (z::zs) k:=funext λk=>by
   unfold fC jP;by_cases w:k=z.1::c
   ·rw[if_pos w,List.filter_cons_of_pos (by simpa using w.symm)];simp
   ·rw[if_neg w,List.filter_cons_of_neg (by simpa using Ne.symm w)]
  rw[ef]at ih;have er:rD r=.tup [qD r.1,.tup (af r.2)]:=rfl;refine⟨d7,d8,dH (ρ1:=oD c0 c1 c2 ks g (some (rD r)) c5 (some (.tup (af c))) (some (.int z.1)) (some (qD z.2))) (by simp) (ρ2:=oD c0 c1 c2 (aL ks (z.1::c)) (fC g (z.1::c) (r.1*z.2)) (some (rD r)) c5 (some (.tup (af c))) (some (.int z.1)) (some (qD z.2))) ?_ ih⟩;have x1:=Ms (Φ:=Φ) (p:=1200) (i:=3) (k:=.tup [(.v 6),(.v 7)]) (e:=.call 6 [(.ix (.v 4) (.int 0)),(.v 8)]) (ρ:=oD c0 c1 c2 ks g (some (rD r)) c5 (some (.tup (af c))) (some (.int z.1)) (some (qD z.2))) (kd:=.tup [.tup (af c),.int z.1]) (d:=qD (r.1*z.2)) (by simp) (by simp[er,e1]) rfl (by simp) (by simp) e2;rw[BD,bW,x1];rfl
theorem xG(Φ:aY)(h6:gH (Φ 6))(iy:Φ 1015=lu)(km:Φ 1200=uY){j:Nat}(hj:j<=121)(c0 c1 c2:aH):∀(ps:List Rg) (ks:ag) (g:aa->au) (c4 c5 c6 c7 c8:aH) (B:Nat),(∀p∈ps,Sm 6 p.1.1/\p.1.2.length<=12/\p.2.length=p.1.2.length/\∀q∈p.2,Sm j q)->ks.Nodup->ks.length+12*ps.length<900->B+12*ps.length<900->(∀k,(g k).length<=B)->(∀k,k∉ks->g k=[]) ->
  ∃Lq CG Lp Lo F5,dN (λd ρ=>cv (.tp [4,5]) d ρ) (λρ=>bI Φ DM ρ) (ps.map rM) (oD c0 c1 c2 ks g c4 c5 c6 c7 c8)=ok (.nx,oD c0 c1 c2 (ps.foldl (λks p=>xh (sortI p.1.2) ks (p.1.2.zip p.2)) ks) (λk=>g k++ps.flatMap λp=>jP (sortI p.1.2) p.1.1 (p.1.2.zip p.2) k) Lq CG Lp Lo F5)
 |[],ks,g,c4,c5,c6,c7,c8,B,_,_,_,_,_,_=>⟨c4,c5,c6,c7,c8,by
   have:(λk=>g k++[].flatMap λp:Rg=>jP (sortI p.1.2) p.1.1 (p.1.2.zip p.2) k)=g:=funext λk=>List.append_nil _;rw[this];rfl⟩
 |p::ps,ks,g,c4,c5,c6,c7,c8,B,hp,hn,hl,hB,hg,h0=>by
  rw[List.length_cons]at hl hB;obtain⟨p1,p2,p3,p4⟩:=hp p aai;have hzl:(p.1.2.zip p.2).length<=12:=by rw[List.length_zip];left
  obtain⟨d7,d8,ei⟩:=tV Φ h6 km hj c0 c1 c2 (some (.lst .fz (bp p.2))) p.1 p1 (sortI p.1.2) (p.1.2.zip p.2) ks g c7 c8 B (λz hz=>p4 _ (aaO hz).2) hn (by left) (by left) hg h0;have hk:=xg (c:=sortI p.1.2) (zs:=p.1.2.zip p.2) (ks:=ks);obtain⟨e4,e5,e6,e7,e8,ih⟩:=xG Φ h6 iy km hj c0 c1 c2 ps (xh (sortI p.1.2) ks (p.1.2.zip p.2)) (λk=>g k++jP (sortI p.1.2) p.1.1 (p.1.2.zip p.2) k) (some (rD p.1)) (some (.lst .fz (bp p.2))) (some (.tup (af (sortI p.1.2)))) d7 d8 (B+12) (λq hq=>hp q (aag _ hq)) (Bu hn) (by left) (by left) (λk=>by
   have h1:=hg k;have h2:(jP (sortI p.1.2) p.1.1 (p.1.2.zip p.2) k).length<=(p.1.2.zip p.2).length:=by unfold jP;rw[List.length_map];exact List.length_filter_le _ _
   rw[List.length_append];left) (λk C6=>by
   have h1:=h0 k λw=>C6 (kc.mpr (.inl w));have h2:jP (sortI p.1.2) p.1.1 (p.1.2.zip p.2) k=[]:=by
    unfold jP;rw[List.filter_eq_nil_iff.mpr λz hz w=>C6 (kc.mpr (.inr ⟨z,hz,by simpa using w⟩))];rfl
   rw[h1,h2];rfl)
  have ef:(λk=>(g k++jP (sortI p.1.2) p.1.1 (p.1.2.zip p.2) k)++ps.flatMap λp=>jP (sortI p.1.2) p.1.1 (p.1.2.zip p.2) k)=λk=>g k++(p::ps).flatMap λp=>jP (sortI p.1.2) p.1.1 (p.1.2.zip p.2) k:=funext λk=>by
   rw[List.flatMap_cons,List.append_assoc]
  rw[ef]at ih;have er:rD p.1=.tup [qD p.1.1,.tup (af p.1.2)]:=rfl;have es:kM .cT [.tup (af p.1.2)]=ok (.lst .ow (af (sortI p.1.2))):=qO (by left);have et:kM .tuple1 [.lst .ow (af (sortI p.1.2))]=ok (.tup (af (sortI p.1.2))):=by
   show ok (D.tup (aB bo (af (sortI p.1.2))))=_;rw[b_]
  have hit:cJ Φ (.ux 1015 [(.ix (.v 4) (.int 1)),(.v 5)]) (oD c0 c1 c2 ks g (some (rD p.1)) (some (.lst .fz (bp p.2))) (some (.tup (af (sortI p.1.2)))) c7 c8)=ok ((p.1.2.zip p.2).map λz=>.tup [.int z.1,qD z.2],oD c0 c1 c2 ks g (some (rD p.1)) (some (.lst .fz (bp p.2))) (some (.tup (af (sortI p.1.2)))) c7 c8):=by
   have hI:∀ρ,cJ Φ (.ux 1015 [(.ix (.v 4) (.int 1)),(.v 5)]) ρ=bd (cu Φ [(.ix (.v 4) (.int 1)),(.v 5)] ρ) λxs=>bd (Φ 1015 xs) λd=>bd (i_ d) λitems=>ok (items,if aP bJ xs then g_ (cW [(.ix (.v 4) (.int 1)),(.v 5)]) ρ else ρ):=λ_=>rfl;rw[hI];have ee:cu Φ [(.ix (.v 4) (.int 1)),(.v 5)] (oD c0 c1 c2 ks g (some (rD p.1)) (some (.lst .fz (bp p.2))) (some (.tup (af (sortI p.1.2)))) c7 c8)=ok [.tup (af p.1.2),.lst .fz (bp p.2)]:=by simp[er]
   rw[ee,cx,iy];show ok (aB aW (List.zipWith (λx y=>D.tup [x,y]) (af p.1.2) (bp p.2)),if aP bJ [D.tup (af p.1.2),.lst .fz (bp p.2)]then _ else _)=_;have h1:=cz aW (af p.1.2) (bp p.2);rw[s_,b_]at h1;have h2:aP bJ [D.tup (af p.1.2),.lst .fz (bp p.2)]=false:=by simp[bJ]
   rw[h2];have h3:aB aW (List.zipWith (λx y=>D.tup [x,y]) (af p.1.2) (bp p.2))=(p.1.2.zip p.2).map λz=>.tup [.int z.1,qD z.2]:=by
    refine aco h1 ?_;unfold bp af;rw[List.zipWith_map,List.zip,List.map_zipWith];rfl
   rw[h3];rfl
  have hf:=e9 (Φ:=Φ) (t:=.tp [7,8]) (b:=BD) hit ei;refine⟨e4,e5,e6,e7,e8,dH (x:=rM p) (ρ1:=oD c0 c1 c2 ks g (some (rD p.1)) (some (.lst .fz (bp p.2))) c6 c7 c8) (by simp[rM]) (ρ2:=oD c0 c1 c2 (xh (sortI p.1.2) ks (p.1.2.zip p.2)) (λk=>g k++jP (sortI p.1.2) p.1.1 (p.1.2.zip p.2) k) (some (rD p.1)) (some (.lst .fz (bp p.2))) (some (.tup (af (sortI p.1.2)))) d7 d8) ?_ ih⟩;have a1:k_ Φ (.asg (.nm 6) (.bf .tuple1 [(.bf .cT [(.ix (.v 4) (.int 1))])])) (oD c0 c1 c2 ks g (some (rD p.1)) (some (.lst .fz (bp p.2))) c6 c7 c8)=ok (.nx,oD c0 c1 c2 ks g (some (rD p.1)) (some (.lst .fz (bp p.2))) (some (.tup (af (sortI p.1.2)))) c7 c8):=by
   simp[er,es,et]
  rw[DM,bW,a1];show bI Φ [.fr (.tp [7,8]) _ BD] _=_;rw[bW,hf];rfl
noncomputable def zT(p:Rg)(h:Int):Rat:=((p.1.2.zip p.2).map λz=>if z.1=h then z.2 else 0).sum
def m7(ps:List Rg)(c:aa)(h:Int):Rat:=(ps.map λp=>if sortI p.1.2=c then p.1.1*zT p h else 0).sum
def hJ(ps:List Rg):List Rg:=(dX (aV ps)).map λr=>(r,r.2.map λh=>m7 ps r.2 h / r.1)
theorem iA(ps:List Rg):aV (hJ ps)=dX (aV ps):=by
 unfold aV hJ;rw[List.map_map];exact(aan λ_ _=>rfl).trans (aca _)
theorem xQ(c0 c:aa)(q:Rat)(h:Int):∀zs:List (Int×Rat),(jP c0 q zs (h::c)).sum=if c0=c then q*(zs.map λz=>if z.1=h then z.2 else 0).sum else 0
 |[]=>by
  show(0:Rat)=if c0=c then q*0 else 0
  split<;>grind
 |z::zs=>by
  have ih:=xQ c0 c q h zs;unfold jP at ih ⊢;by_cases e:z.1::c0=h::c
  ·rw[List.filter_cons_of_pos (by simpa using e),List.map_cons,List.sum_cons,ih];injection e with e1 e2
   rw[if_pos e2,if_pos e2,List.map_cons,List.sum_cons,if_pos e1];grind
  ·rw[List.filter_cons_of_neg (by simpa using e),ih];by_cases e2:c0=c
   ·have e1:z.1≠h:=λw=>e (by rw[w,e2]);rw[if_pos e2,if_pos e2,List.map_cons,List.sum_cons,if_neg e1];grind
   ·rw[if_neg e2,if_neg e2]
theorem pL(c:aa)(h:Int):∀ps:List Rg,(ps.flatMap λp=>jP (sortI p.1.2) p.1.1 (p.1.2.zip p.2) (h::c)).sum=m7 ps c h
 |[]=>rfl
 |p::ps=>by
  rw[List.flatMap_cons,wd,pL c h ps,xQ];rfl
noncomputable def FQ:CE:=.comp 1 (.nm 0) [10,3,6] .seq [(.v 6)] [] (.call 7 [(.call 42 [(.b9 1062 [(.v 2),(.tup [(.v 3),(.v 0)])])]),(.v 1)])
def sh:ah:=[.app 9 FQ]
noncomputable def AX:ah:=[.asg (.nm 2) (.call 76 [(.v 0)]),.ex (.call 74 [(.v 1),(.ix (.v 0) (.int 1))]),.asg (.nm 3) (.b9 1060 [])]
def AW:ah:=[.fr (.tp [4,5]) (.ux 1000 [(.ix (.v 0) (.int 1)),(.v 1)]) DM]
def GX:ah:=[.asg (.nm 9) (.lst []),.fr (.tp [10,6]) (.seq (.ix (.v 2) (.int 1))) sh,.ret (.v 9)]
def CL:ah:=AX++(AW++GX)
def Qj(m:az):Prop:=∀j n ps xs,Rk j n ps xs->rK (aV ps)->m [bN n (aV ps),.lst .fz (cV .fz ps)]=ok (.lst .ow (cV .ow (hJ ps)))
section
variable (Φ:aY)(h7:LB (Φ 7))(C_:dI (Φ 42))(nF:Φ 1062=uZ){ks:ag}{g:aa->au}{k:Nat}(hk:k<=150)(hg:∀c,rQ k (g c))(zC:∀c,(g c).length*(k+1)<=3000)
include h7 C_ nF hk hg zC
theorem FH{r:Row}(hr:Sm 6 r.1)(h0:0<r.1)(hl:r.2.length<=12)(hm:∀h∈r.2,h::r.2∈ks)(r3:ρ[3]?=some (some (ph .ow ks g)))(r6:ρ[6]?=some (some (.tup (af r.2))))(Yw:ρ[10]?=some (some (qD r.1))):bw Φ FQ ρ=ok (.lst .ow (bp (r.2.map λh=>(g (h::r.2)).sum / r.1))):=by
 unfold FQ;rw[cR (xs:=[.tup (af r.2)]) (items:=r.2.map D.int) (ds:=r.2.map λh=>qD ((g (h::r.2)).sum / r.1)) (by simp[r6]) (by rw[xi,b_];rfl) (bO λh hh=>⟨[some (.int h),some (qD r.1),some (ph .fz ks g),some (.tup (af r.2))],by simp[bF,r3,r6,Yw,w8,aW],by simp,?_⟩) (by simp;exact cc (by left))]
 ·simp[bp,aQ]
 ·have e1:=Nx nF g r.2 h (hm h hh);have e2:=C_ .fz _ k (hg (h::r.2));have s:=Sm.sum (hg (h::r.2)).sm;have hb:=zC (h::r.2);have hz:r.1≠0:=λz=>by rw[z]at h0;exact absurd h0 (by decide)
  have e3:=h7.1 _ r.1 (s.mono (by rw[Nat.mul_comm];left)) (hr.mono (by decide)) hz;have o3:aT bo (ph .fz ks g)=ph .fz ks g:=w8 _ _ _ _;simp[o3,e1,e2,e3]
theorem tU(c0 c1 c2 c4 c5 c7 c8:aH):∀(l:aC) (acc:List Rg) (c6 jC:aH),(∀r∈l,Sm 6 r.1/\0<r.1/\r.2.length<=12/\∀h∈r.2,h::r.2∈ks)->acc.length+l.length<900 ->
  ∃Lp CJ,dN (λd ρ=>cv (.tp [10,6]) d ρ) (λρ=>bI Φ sh ρ) (bM l) [c0,c1,c2,some (ph .ow ks g),c4,c5,c6,c7,c8,some (.lst .ow (cV .ow acc)),jC]=ok (.nx,[c0,c1,c2,some (ph .ow ks g),c4,c5,Lp,c7,c8,some (.lst .ow (cV .ow (acc++l.map λr=>(r,r.2.map λh=>(g (h::r.2)).sum / r.1)))),CJ])
 |[],acc,c6,jC,_,_=>⟨c6,jC,by simp[bM,qN]⟩
 |r::l,acc,c6,jC,hr,hl=>by
  rw[List.length_cons]at hl;obtain⟨r1,r2,r3,r4⟩:=hr r aai;have e1:=FH Φ h7 C_ nF hk hg zC r1 r2 r3 r4 (ρ:=[c0,c1,c2,some (ph .ow ks g),c4,c5,some (.tup (af r.2)),c7,c8,some (.lst .ow (cV .ow acc)),some (qD r.1)]) rfl rfl rfl;obtain⟨d6,Rt,ih⟩:=tU c0 c1 c2 c4 c5 c7 c8 l (acc++[(r,r.2.map λh=>(g (h::r.2)).sum / r.1)]) (some (.tup (af r.2))) (some (qD r.1)) (λs hs=>hr s (aag _ hs)) (by simp;left);have hc:(cV .ow acc).length<cL:=by show _<1000000;simp;left
  have ea:cV .ow acc++[.lst .ow (bp (r.2.map λh=>(g (h::r.2)).sum / r.1))]=cV .ow (acc++[(r,r.2.map λh=>(g (h::r.2)).sum / r.1)]):=by simp[cV]
  refine⟨d6,Rt,dH (x:=rD r) (ρ1:=[c0,c1,c2,some (ph .ow ks g),c4,c5,some (.tup (af r.2)),c7,c8,some (.lst .ow (cV .ow acc)),some (qD r.1)]) (by simp[rD]) (ρ2:=[c0,c1,c2,some (ph .ow ks g),c4,c5,some (.tup (af r.2)),c7,c8,some (.lst .ow (cV .ow (acc++[(r,r.2.map λh=>(g (h::r.2)).sum / r.1)]))),some (qD r.1)]) ?_ (ih.trans (by simp))⟩;rw[sh,bW,Gw,Of Φ FQ _ rfl,e1,kh (by simp)];generalize cV .ow acc=es at *;simp[hc,ea]
end
theorem xf{c:aa}:∀{ps:List Rg} {ks:ag},(c∈ks\/∃p∈ps,∃z∈p.1.2.zip p.2,z.1::sortI p.1.2=c)->c∈ps.foldl (λks p=>xh (sortI p.1.2) ks (p.1.2.zip p.2)) ks
 |[],ks,h=>by
  rcases h with h|⟨p,hp,_⟩
  ·exact h
  ·exact nomatch hp
 |p::ps,ks,h=>by
  refine xf (ps:=ps) ?_;rcases h with h|⟨q,hq,z,hz,e⟩
  ·exact .inl (kc.mpr (.inl h))
  ·rcases List.mem_cons.mp hq with rfl|hq
   ·exact .inl (kc.mpr (.inr ⟨z,hz,e⟩))
   ·exact .inr ⟨q,hq,z,hz,e⟩
theorem Sr(Φ:aY)(h6:gH (Φ 6))(h7:LB (Φ 7))(C_:dI (Φ 42))(Kj:CT (Φ 74))(Ra:LA (Φ 76))(gm:Φ 1000=oq)(iy:Φ 1015=lu)(Pl:Φ 1060=AH)(nF:Φ 1062=uZ)(km:Φ 1200=uY):Qj (mk Φ 2 11 CL):=by
 intro j n ps xs K Fi;have hn:=K.NW;have hfew:=K.lI;have e1:=Ra n (aV ps) K.dr Fi;have e2:=Kj j n ps xs K;have hj:=K.Wz;have hjn:(j+4)*n<=125:=K.jn (aam n);obtain⟨J,_⟩:=Ca K.dr Fi;have m1:aT aW (bN n (aV ps))=bN n (aV ps):=by simp[bN]
 have m2:aT bo (bN n (aV ps))=bN n (aV ps):=by simp[bN]
 have hd:bN n (aV ps)=.tup [.int n,.lst .fz (bM (aV ps))]:=rfl;have x1:uy (bN n (aV ps)) (.int 1)=ok (.lst .fz (bM (aV ps))):=by rw[hd];simp
 have e0:Φ 1060 []=ok (ph .ow [] λ_=>[]):=by rw[Pl];rfl
 have op:aR bJ (ph .ow [] λ_=>[])=false:=rfl;have ga:bI Φ AX [some (bN n (aV ps)),some (.lst .fz (cV .fz ps)),none,none,none,none,none,none,none,none,none]=ok (.nx,oD (some (bN n (aV ps))) (some (.lst .fz (cV .fz ps))) (some (iX .ow n (dX (aV ps)))) [] (λ_=>[]) none none none none none):=by
  simp[AX,m1,m2,x1,e1,e2,e0,op,bo,aW]
 have JX:∀p∈ps,Sm 6 p.1.1/\p.1.2.length<=12/\p.2.length=p.1.2.length/\∀q∈p.2,Sm j q:=λp hp=>⟨K.dr.sm p.1 (aay hp),by have:=(K.rw hp).2.1;left,K.ln p hp,K.sw p hp⟩
 obtain⟨c4,c5,c6,c7,c8,el⟩:=xG Φ h6 iy km hj (some (bN n (aV ps))) (some (.lst .fz (cV .fz ps))) (some (iX .ow n (dX (aV ps)))) ps [] (λ_=>[]) none none none none none 0 JX aaR (by simp;left) (by left) (λ_=>aam _) (λ_ _=>rfl);have eg:(λk=>[]++ps.flatMap λp=>jP (sortI p.1.2) p.1.1 (p.1.2.zip p.2) k)=λk=>ps.flatMap λp=>jP (sortI p.1.2) p.1.1 (p.1.2.zip p.2) k:=funext λk=>List.nil_append _;rw[eg]at el;have Ze:∀r∈dX (aV ps),∀h∈r.2,h::r.2∈ps.foldl (λks p=>xh (sortI p.1.2) ks (p.1.2.zip p.2)) []:=λr hr h hh=>by
  obtain⟨c,hc,rfl⟩:=List.mem_map.mp hr;have hc:c∈bz [] (aV ps):=(aaC _ _).mem_iff.mp hc;rcases gk.mp hc with z|⟨s,hs,e⟩
  ·exact nomatch z
  obtain⟨p,hp,rfl⟩:=List.mem_map.mp hs;subst e;have Zk:h∈p.1.2:=(sortI_perm _).mem_iff.mp hh;obtain⟨i,hi,rfl⟩:=List.mem_iff_getElem.mp Zk;refine xf (.inr ⟨p,hp,(p.1.2[i],p.2[i]'(by rw[K.ln p hp];exact hi)),?_,rfl⟩);exact aaD (i:=i) (by rw[List.getElem?_zip_eq_some];exact⟨aao hi,aao _⟩)
 have Zm:∀c,∀q∈(ps.flatMap λp=>jP (sortI p.1.2) p.1.1 (p.1.2.zip p.2) c),Sm (6+j) q:=λc q hq=>by
  obtain⟨p,hp,hq⟩:=List.mem_flatMap.mp hq;obtain⟨z,hz,rfl⟩:=List.mem_map.mp hq;exact(JX p hp).1.mul ((JX p hp).2.2.2 _ (aaO (List.mem_filter.mp hz).1).2)
 have zC:∀c,(ps.flatMap λp=>jP (sortI p.1.2) p.1.1 (p.1.2.zip p.2) c).length<=10*n:=λc=>by
  have:∀l:List Rg,(∀p∈l,p.1.2.length<=n)->(l.flatMap λp=>jP (sortI p.1.2) p.1.1 (p.1.2.zip p.2) c).length<=l.length*n:=λl=>by
   induction l with
   |nil=>intro _;simp
   |cons p l ih =>
    intro h;have h1:=ih λq hq=>h q (aag _ hq);have h2:=h p aai;have h3:(jP (sortI p.1.2) p.1.1 (p.1.2.zip p.2) c).length<=(p.1.2.zip p.2).length:=by unfold jP;rw[List.length_map];exact List.length_filter_le _ _
    rw[List.length_zip]at h3;rw[List.flatMap_cons,List.length_append,List.length_cons,Nat.succ_mul];left
  have h1:=this ps λp hp=>(K.rw hp).2.1;exact aaG h1 (abp _ (by left))
 have hb:∀c,(ps.flatMap λp=>jP (sortI p.1.2) p.1.1 (p.1.2.zip p.2) c).length*(6+j+1)<=3000:=λc=>by
  have h1:=abp (6+j+1) (zC c);have h2:10*n*(6+j+1)=10*((j+4)*n)+30*n:=by
   rw[Nat.mul_assoc,Nat.mul_comm n,show 6+j+1=(j+4)+3 by left,Nat.add_mul,Nat.mul_add];left
  left
 have hS:∀c,rQ (6+j) (ps.flatMap λp=>jP (sortI p.1.2) p.1.1 (p.1.2.zip p.2) c):=λc=>⟨Zm c,by
  have h1:=hb c;rw[Nat.mul_succ,Nat.mul_comm]at h1;left,by have:=zC c;left⟩
 obtain⟨d6,Rt,eo⟩:=tU Φ h7 C_ nF (ks:=ps.foldl (λks p=>xh (sortI p.1.2) ks (p.1.2.zip p.2)) []) (k:=6+j) (by left) hS hb (some (bN n (aV ps))) (some (.lst .fz (cV .fz ps))) (some (bN n (dX (aV ps)))) c4 c5 c7 c8 (dX (aV ps)) [] c6 none (λr hr=>⟨J.sm r hr,J.pos r hr,by have:=(J.lot r hr).len;left,Ze r hr⟩) (by have:=J.lI;simp;left);have Vq:((dX (aV ps)).map λr=>(r,r.2.map λh=>(ps.flatMap λp=>jP (sortI p.1.2) p.1.1 (p.1.2.zip p.2) (h::r.2)).sum / r.1))=hJ ps:=by
  unfold hJ;refine aan λr _=>?_;congr 1;exact aan λh _=>by rw[pL]
 rw[List.nil_append,Vq]at eo;generalize ps.foldl (λks p=>xh (sortI p.1.2) ks (p.1.2.zip p.2)) []=kk at *;generalize (λk=>ps.flatMap λp=>jP (sortI p.1.2) p.1.1 (p.1.2.zip p.2) k)=gg at *;have hit:cJ Φ (.ux 1000 [(.ix (.v 0) (.int 1)),(.v 1)]) (oD (some (bN n (aV ps))) (some (.lst .fz (cV .fz ps))) (some (iX .ow n (dX (aV ps)))) [] (λ_=>[]) none none none none none)=ok (ps.map rM,oD (some (bN n (aV ps))) (some (.lst .fz (cV .fz ps))) (some (iX .ow n (dX (aV ps)))) [] (λ_=>[]) none none none none none):=by
  have hI:∀ρ,cJ Φ (.ux 1000 [(.ix (.v 0) (.int 1)),(.v 1)]) ρ=bd (cu Φ [(.ix (.v 0) (.int 1)),(.v 1)] ρ) λxs=>bd (Φ 1000 xs) λd=>bd (i_ d) λitems=>ok (items,if aP bJ xs then g_ (cW [(.ix (.v 0) (.int 1)),(.v 1)]) ρ else ρ):=λ_=>rfl;rw[hI];have:cu Φ [(.ix (.v 0) (.int 1)),(.v 1)] (oD (some (bN n (aV ps))) (some (.lst .fz (cV .fz ps))) (some (iX .ow n (dX (aV ps)))) [] (λ_=>[]) none none none none none)=ok [.lst .fz (bM (aV ps)),.lst .fz (cV .fz ps)]:=by simp[m2,x1,bo]
  rw[this,cx,gm];show bd (ok (D.lst .ow (List.zipWith (λx y=>D.tup [x,y]) (bM (aV ps)) (cV .fz ps)))) _=_;rw[zM,cx];have e:aB aW (ps.map rM)=ps.map rM:=cw aW (λp=>by unfold rM;simp[aW]) ps;show ok (aB aW (ps.map rM),if aP bJ [D.lst .fz (bM (aV ps)),.lst .fz (cV .fz ps)]then _ else _)=_;rw[e];have:aP bJ [D.lst .fz (bM (aV ps)),.lst .fz (cV .fz ps)]=false:=by
   have:=iw bJ .fz ps rfl;simp[this,bJ]
  rw[this];rfl
 have hf:=e9 (Φ:=Φ) (t:=.tp [4,5]) (b:=DM) hit el;have gb:bI Φ AW (oD (some (bN n (aV ps))) (some (.lst .fz (cV .fz ps))) (some (iX .ow n (dX (aV ps)))) [] (λ_=>[]) none none none none none)=ok (.nx,oD (some (bN n (aV ps))) (some (.lst .fz (cV .fz ps))) (some (iX .ow n (dX (aV ps)))) kk gg c4 c5 c6 c7 c8):=by
  rw[AW,bW,hf];rfl
 have J7:cJ Φ (.seq (.ix (.v 2) (.int 1))) [some (bN n (aV ps)),some (.lst .fz (cV .fz ps)),some (iX .ow n (dX (aV ps))),some (ph .ow kk gg),c4,c5,c6,c7,c8,some (.lst .ow []),none]=ok (bM (dX (aV ps)),[some (bN n (aV ps)),some (.lst .fz (cV .fz ps)),some (bN n (dX (aV ps))),some (ph .ow kk gg),c4,c5,c6,c7,c8,some (.lst .ow []),none]):=by
  rw[Bx (f:=.al) (ds:=bM (dX (aV ps))) (by simp[iX])];simp[g9,nS]
 have UM:=e9 (Φ:=Φ) (t:=.tp [10,6]) (b:=sh) J7 eo;have g0:∀c4 c5 c6 c7 c8:aH,k_ Φ (.asg (.nm 9) (.lst [])) (oD (some (bN n (aV ps))) (some (.lst .fz (cV .fz ps))) (some (iX .ow n (dX (aV ps)))) kk gg c4 c5 c6 c7 c8)=ok (.nx,[some (bN n (aV ps)),some (.lst .fz (cV .fz ps)),some (iX .ow n (dX (aV ps))),some (ph .ow kk gg),c4,c5,c6,c7,c8,some (.lst .ow []),none]):=λ_ _ _ _ _=>by simp
 rw[mk_eq (show[bN n (aV ps),D.lst .fz (cV .fz ps)].length=2 from rfl)];show l7 (bI Φ CL [some (bN n (aV ps)),some (.lst .fz (cV .fz ps)),none,none,none,none,none,none,none,none,none])=_;rw[CL,eP Φ _ _ _ _ ga,eP Φ _ _ _ _ gb,GX,bW,g0];show l7 (bI Φ [.fr (.tp [10,6]) _ sh,.ret (.v 9)] _)=_;rw[bW,UM];have ow:aR cB (.lst .ow (cV .ow (hJ ps)))=true:=by simp[cB]
 simp[ow]
def uB(ps:List Rg)(xs:au)(c:aa):Rat:=(ps.map λp=>if sortI p.1.2=c then p.1.1*bV xs p else 0).sum
theorem Dv{n:Nat}{p:Rg}(hr:Rw n p.1.2)(f:Int->Rat):hZ (sortI p.1.2) (λh=>f h*zT p h)=((p.1.2.zip p.2).map λz=>f z.1*z.2).sum:=by
 have hp:=sortI_perm p.1.2;exact iS (λz:Int×Rat=>z.1) (λz=>z.2) f (hp.nodup_iff.mpr hr.1) (p.1.2.zip p.2) λz hz=>hp.mem_iff.mpr (aaO hz).1
theorem Bb{n:Nat}(xs:au)(c:aa):∀ps:List Rg,(∀p∈ps,Rw n p.1.2)->hZ c (λh=>m7 ps c h*jQ xs h)=uB ps xs c
 |[],_=>by
  show(c.map λh=>(0:Rat)*jQ xs h).sum=0;exact gC λh _=>Rat.zero_mul _
 |p::ps,hr=>by
  have ih:=Bb xs c ps λq hq=>hr q (aag _ hq);have e1:∀h,m7 (p::ps) c h=(if sortI p.1.2=c then p.1.1*zT p h else 0)+m7 ps c h:=λ_=>rfl;have e2:uB (p::ps) xs c=(if sortI p.1.2=c then p.1.1*bV xs p else 0)+uB ps xs c:=rfl;rw[e2,<- ih];have e3:hZ c (λh=>m7 (p::ps) c h*jQ xs h)=hZ c (λh=>(if sortI p.1.2=c then p.1.1*zT p h else 0)*jQ xs h)+hZ c (λh=>m7 ps c h*jQ xs h):=by
   rw[<- Ae];exact jr λh _=>by rw[e1];grind
  rw[e3];congr 1;by_cases e:sortI p.1.2=c
  ·rw[if_pos e,jr (g:=λh=>p.1.1*(jQ xs h*zT p h)) λh _=>by rw[if_pos e];grind,sj,<- e,Dv (hr p List.mem_cons_self)];congr 1;unfold bV RJ;congr 1;exact aan λz _=>Rat.mul_comm _ _
  ·rw[if_neg e,jr (g:=λh=>0) λh _=>by rw[if_neg e,Rat.zero_mul]];exact gC λ_ _=>rfl
theorem zip_map_self{α β:Type}(f:α->β):∀l:List α,l.zip (l.map f)=l.map λa=>(a,f a)
 |[]=>rfl
 |a::l=>by rw[List.map_cons,List.zip_cons_cons,zip_map_self f l,List.map_cons]
variable {ps:List Rg}
theorem GS{n:Nat}(xs:au)(hr:∀p∈ps,Rw n p.1.2)(c:aa)(q:Rat):bV xs ((q,c),c.map λh=>m7 ps c h / q)=uB ps xs c / q:=by
 unfold bV RJ;rw[zip_map_self,List.map_map,<- Bb xs c ps hr];have e:(c.map ((λz:Int×Rat=>z.2*jQ xs z.1)∘λh=>(h,m7 ps c h / q)))=c.map λh=>q⁻¹*(m7 ps c h*jQ xs h):=aan λh _=>by
  show m7 ps c h / q*jQ xs h=_;rw[Rat.div_def];grind
 rw[e];show hZ c (λh=>q⁻¹*(m7 ps c h*jQ xs h))=_;rw[sj,Rat.div_def];grind
section
variable {j n:Nat}{ps:List Rg}{xs:au}(K:Rk j n ps xs)
include K
theorem xF:(bc (bz [] (aV ps))).Nodup/\∀p∈ps,sortI p.1.2∈bc (bz [] (aV ps)):=by
 have hp:(bc (bz [] (aV ps))).Perm (bz [] (aV ps)):=aaC _ _;exact⟨hp.nodup_iff.mpr (mm aaR),λp h=>hp.mem_iff.mpr (gk.mpr (.inr ⟨p.1,aay h,rfl⟩))⟩
theorem Cb{c:aa}(hc:c∈bc (bz [] (aV ps))):f_ (aV ps) c≠0:=by
 have hp:(bc (bz [] (aV ps))).Perm (bz [] (aV ps)):=aaC _ _;have:=nZ K.dr (hp.mem_iff.mp hc);intro z;rw[z]at this;exact absurd this (by decide)
theorem Hq(c:aa):f_ (aV ps) c=(ps.map λp=>if sortI p.1.2=c then p.1.1 else 0).sum:=by
 unfold f_ aV;rw[List.map_map];rfl
theorem FG:ja (hJ ps) xs=ja ps xs:=by
 obtain⟨h1,h2⟩:=xF K;have e:ja (hJ ps) xs=((bc (bz [] (aV ps))).map λc=>1*uB ps xs c).sum:=by
  unfold ja hJ dX;rw[List.map_map,List.map_map];congr 1;refine aan λc hc=>?_;show f_ (aV ps) c*bV xs ((f_ (aV ps) c,c),c.map λh=>m7 ps c h / f_ (aV ps) c)=_;rw[GS xs (λp hp=>K.rw hp)];have:=Cb K hc;grind
 rw[e];have h:=iS (λp:Rg=>sortI p.1.2) (λp=>p.1.1*bV xs p) (λ_=>1) h1 ps h2;unfold uB;rw[h];unfold ja;congr 1;exact aan λp _=>Rat.one_mul _
def om(ps:List Rg)(xs:au)(p:Rg):Rat:=uB ps xs (sortI p.1.2) / f_ (aV ps) (sortI p.1.2)
theorem Hh:kY ps xs - kY (hJ ps) xs=(ps.map λp=>p.1.1*((bV xs p - om ps xs p)*(bV xs p - om ps xs p))).sum:=by
 obtain⟨h1,h2⟩:=xF K;have ea:kY (hJ ps) xs=((bc (bz [] (aV ps))).map λc=>uB ps xs c / f_ (aV ps) c*uB ps xs c).sum:=by
  unfold kY hJ dX;rw[List.map_map,List.map_map];congr 1;refine aan λc hc=>?_;show f_ (aV ps) c*(bV xs ((f_ (aV ps) c,c),c.map λh=>m7 ps c h / f_ (aV ps) c)*bV xs ((f_ (aV ps) c,c),c.map λh=>m7 ps c h / f_ (aV ps) c))=_;rw[GS xs (λp hp=>K.rw hp)];have:=Cb K hc;grind
 have eb:kY (hJ ps) xs=((bc (bz [] (aV ps))).map λc=>uB ps xs c / f_ (aV ps) c*(uB ps xs c / f_ (aV ps) c)*f_ (aV ps) c).sum:=by
  rw[ea];congr 1;refine aan λc hc=>?_;have:=Cb K hc;grind
 have r1:=iS (λp:Rg=>sortI p.1.2) (λp=>p.1.1*bV xs p) (λc=>uB ps xs c / f_ (aV ps) c) h1 ps h2;have r2:=iS (λp:Rg=>sortI p.1.2) (λp=>p.1.1) (λc=>uB ps xs c / f_ (aV ps) c*(uB ps xs c / f_ (aV ps) c)) h1 ps h2;have ea':kY (hJ ps) xs=(ps.map λp=>om ps xs p*(p.1.1*bV xs p)).sum:=by rw[ea];exact r1
 have Vr:kY (hJ ps) xs=(ps.map λp=>om ps xs p*om ps xs p*p.1.1).sum:=by
  rw[eb];refine aco ?_ r2;congr 1;exact aan λc _=>by rw[Hq K]
 have eS:(ps.map λp=>p.1.1*((bV xs p - om ps xs p)*(bV xs p - om ps xs p))).sum=kY ps xs - 2*(ps.map λp=>om ps xs p*(p.1.1*bV xs p)).sum+(ps.map λp=>om ps xs p*om ps xs p*p.1.1).sum:=by
  have:∀l:List Rg,(l.map λp=>p.1.1*((bV xs p - om ps xs p)*(bV xs p - om ps xs p))).sum=(l.map λp=>p.1.1*(bV xs p*bV xs p)).sum - 2*(l.map λp=>om ps xs p*(p.1.1*bV xs p)).sum+(l.map λp=>om ps xs p*om ps xs p*p.1.1).sum:=λl=>by
   induction l with
   |nil=>show(0:Rat)=0 - 2*0+0;grind
   |cons p l ih=>simp only[List.map_cons,List.sum_cons,ih];grind
  exact this ps
 rw[eS,<- ea',<- Vr];grind
theorem Pw:0<=kY ps xs - kY (hJ ps) xs:=by
 rw[Hh K];refine wo λp hp=>?_;have h1:=K.dr.pos p.1 (aay hp);have h2:0<=(bV xs p - om ps xs p)*(bV xs p - om ps xs p):=by
  generalize bV xs p - om ps xs p=t;rcases Rat.le_total (a:=0) (b:=t)with h|h
  ·exact ab9 h h
  ·have h':0 <= -t:=by grind
   have:=ab9 h' h';grind
 exact ab9 (abB h1) h2
end
theorem iU{α β:Type}[DecidableEq β](s:α->β)(f:α->Rat):∀{l:List α} {x:α},(l.map s).Nodup->x∈l->(l.map λy=>if s y=s x then f y else 0).sum=f x
 |y::l,x,hn,hx=>by
  rw[List.map_cons]at hn;obtain⟨h1,h2⟩:=List.nodup_cons.mp hn;rw[List.map_cons,List.sum_cons];rcases List.mem_cons.mp hx with rfl|hx
  ·rw[if_pos rfl,gC λy hy=>if_neg λz=>h1 (by rw[<- z];exact List.mem_map_of_mem hy)];grind
  ·rw[if_neg λz=>h1 (by rw[z];exact List.mem_map_of_mem hx),iU s f h2 hx];grind
theorem tj:∀{rs:aC} {ks:ag},(bz ks rs).length=ks.length+rs.length->(rs.map λr=>sortI r.2).Nodup/\∀r∈rs,sortI r.2∉ks
 |[],ks,_=>⟨aaR,λ_ h=>nomatch h⟩
 |r::rs,ks,h=>by
  have h:(bz (aL ks (sortI r.2)) rs).length=ks.length+(rs.length+1):=h;have h1:=j_ (rs:=rs) (ks:=aL ks (sortI r.2));have h2:=dU ks (sortI r.2);have hk:(aL ks (sortI r.2)).length=ks.length+1:=by left
  have xn:sortI r.2∉ks:=λm=>by unfold aL at hk;rw[if_pos m]at hk;left
  obtain⟨i1,i2⟩:=tj (rs:=rs) (ks:=aL ks (sortI r.2)) (by left);refine⟨List.nodup_cons.mpr ⟨λm=>?_,i1⟩,λs hs=>?_⟩
  ·obtain⟨s,hs,e⟩:=List.mem_map.mp m;exact i2 s hs (b6.mpr (.inr e))
  ·rcases List.mem_cons.mp hs with rfl|hs
   ·exact xn
   ·exact λm=>i2 s hs (b6.mpr (.inl m))
variable {xs:au}
theorem FF{j n:Nat}(K:Rk j n ps xs)(h:(dX (aV ps)).length=(aV ps).length):kY (hJ ps) xs=kY ps xs:=by
 have hp:(bc (bz [] (aV ps))).Perm (bz [] (aV ps)):=aaC _ _;have hl:(bz [] (aV ps)).length=([]:ag).length+(aV ps).length:=by
  unfold dX at h;rw[List.length_map,hp.length_eq]at h;simpa using h
 obtain⟨hn,_⟩:=tj hl;have qF:(ps.map λp=>sortI p.1.2).Nodup:=by unfold aV at hn;rw[List.map_map]at hn;exact hn
 have e:=Hh K;have:(ps.map λp=>p.1.1*((bV xs p - om ps xs p)*(bV xs p - om ps xs p))).sum=0:=gC λp hp=>by
  have h1:=iU (λp:Rg=>sortI p.1.2) (λp=>p.1.1*bV xs p) qF hp;have h2:=iU (λp:Rg=>sortI p.1.2) (λp=>p.1.1) qF hp;have h3:om ps xs p=p.1.1*bV xs p / p.1.1:=by
   unfold om uB;rw[h1,Hq K,h2]
  have h4:=K.dr.pos p.1 (aay hp);have h5:p.1.1≠0:=λz=>by rw[z]at h4;exact absurd h4 (by decide)
  rw[h3];grind
 rw[this]at e;grind
theorem pA:∀{rs:aC} {ks:ag},(ks++rs.map (·.2)).Nodup->(∀r∈rs,sortI r.2=r.2)->bz ks rs=ks++rs.map (·.2)
 |[],ks,_,_=>by simp[bz]
 |r::rs,ks,hn,hs=>by
  have e:=hs r aai;have xn:r.2∉ks:=λm=>by
   rw[List.nodup_append]at hn;exact hn.2.2 _ m _ aai rfl
  have ek:aL ks (sortI r.2)=ks++[r.2]:=by rw[e];unfold aL;rw[if_neg xn]
  show bz (aL ks (sortI r.2)) rs=_;rw[ek,pA (rs:=rs) (by simpa using hn) λs h=>hs s (List.mem_cons_of_mem _ h)];simp
theorem uQ{l:ag}(h:rF l)(hn:l.Nodup):bc l=l:=by
 have hp:(bc l).Perm l:=aaC _ _;have h2:=gB hn;exact hp.eq_of_pairwise (λa b _ _ x y=>by
  have:=k9 a b x;rw[y]at this;cases this) h2 h
theorem Ee{l:ag}(h:rF l):l.Nodup:=List.Pairwise.imp (λ{a b} x e=>by
 subst e;have:=k9 a a x;rw[x]at this;cases this) h
theorem tW{n:Nat}{rs:aC}(J:Dr 6 n rs):dX rs=rs/\(rs.map λr=>sortI r.2).Nodup/\∀r∈rs,sortI r.2=r.2:=by
 have hs:∀r∈rs,sortI r.2=r.2:=λr hr=>sr (J.lot r hr).1;have hn:(rs.map (·.2)).Nodup:=Ee J.rise;have hm:(rs.map λr=>sortI r.2)=rs.map (·.2):=aan hs;refine⟨?_,by rw[hm];exact hn,hs⟩;unfold dX;rw[pA (ks:=[]) (by simpa using hn) hs,List.nil_append,uQ J.rise hn,List.map_map];refine(aan λr hr=>?_).trans (aca _);show(f_ rs r.2,r.2)=r;have:=iU (λr:Row=>sortI r.2) (λr=>r.1) (by rw[hm];exact hn) hr;rw[hs r hr]at this;exact Prod.ext this rfl
theorem vU{α β:Type}:∀{a:List α} {b:List β},b.length=a.length->(a.zip b).map (·.1)=a
 |[],[],_=>rfl
 |x::a,y::b,h=>by rw[List.zip_cons_cons,List.map_cons,vU (by simpa using h)]
theorem Gx{p:Rg}(hn:p.1.2.Nodup)(hl:p.2.length=p.1.2.length){z:Int×Rat}(hz:z∈p.1.2.zip p.2):zT p z.1=z.2:=iU (λz:Int×Rat=>z.1) (λz=>z.2) (by rw[vU hl];exact hn) hz
theorem Cc{n:Nat}(J:Dr 6 n (aV ps))(hl:∀p∈ps,p.2.length=p.1.2.length):hJ ps=ps:=by
 obtain⟨h1,h2,h3⟩:=tW J;have Ph:(ps.map λp=>sortI p.1.2).Nodup:=by unfold aV at h2;rw[List.map_map]at h2;exact h2
 unfold hJ;rw[h1];unfold aV;rw[List.map_map];refine(aan λp hp=>?_).trans (aca _);show(p.1,p.1.2.map λh=>m7 ps p.1.2 h / p.1.1)=p;have hr:=aay (f:=λp:Rg=>p.1) hp;have hs:=h3 p.1 hr;have h4:=J.pos p.1 hr;have h5:p.1.1≠0:=λz=>by rw[z]at h4;exact absurd h4 (by decide)
 refine Prod.ext rfl (abn (by rw[List.length_map,hl p hp]) λi a b=>?_);rw[List.getElem_map];have ha:i<p.1.2.length:=by simpa using a
 have hb:i<p.2.length:=b;have hz:(p.1.2[i],p.2[i])∈p.1.2.zip p.2:=aaD (i:=i) (by rw[List.getElem?_zip_eq_some];exact⟨aao ha,aao hb⟩);have hw:=Gx (J.lot p.1 hr).nodup (hl p hp) hz;have hm:=iU (λp:Rg=>sortI p.1.2) (λp'=>p'.1.1*zT p' p.1.2[i]) Ph hp;rw[hs]at hm;show m7 ps p.1.2 p.1.2[i] / p.1.1=p.2[i];unfold m7;rw[hm,hw];show p.1.1*p.2[i] / p.1.1=_;grind
theorem HL{n:Nat}{p:Rg}(hr:Rw n p.1.2)(hl:p.2.length=p.1.2.length)(hw:∀q∈p.2,Sm 3 q)(h:Int):Sm 3 (zT p h):=by
 by_cases hz:∃z∈p.1.2.zip p.2,z.1=h
 ·obtain⟨z,hz,rfl⟩:=hz;rw[Gx hr.1 hl hz];exact hw _ (aaO hz).2
 ·have:zT p h=0:=gC λz YS=>acb λe=>hz ⟨z,YS,e⟩;rw[this];exact⟨by decide,by decide⟩
theorem Bc{W:Nat}(c:aa)(h:Int):∀l:List Rg,(∀p∈l,0<p.1.1/\p.1.1.den∣W/\Sm 3 (zT p h))->∃z:Int,(z.natAbs:Int)<=2940*jq W (aV l) c/\m7 l c h*((W:Rat)*420)=(z:Rat)
 |[],_=>⟨0,by show(0:Int)<=2940*0;decide,by show(0:Rat)*_=((0:Int):Rat);rw[Rat.zero_mul];rfl⟩
 |p::l,hl=>by
  obtain⟨z,z1,z2⟩:=Bc c h l λq hq=>hl q (aag _ hq);obtain⟨p1,p2,p3⟩:=hl p aai;have e1:jq W (aV (p::l)) c=(if sortI p.1.2=c then ba W p.1.1 else 0)+jq W (aV l) c:=rfl;have e2:m7 (p::l) c h=(if sortI p.1.2=c then p.1.1*zT p h else 0)+m7 l c h:=rfl;rw[e1,e2];by_cases e:sortI p.1.2=c
  ·rw[if_pos e,if_pos e];obtain⟨_,b,b1,b2⟩:=Vh p3;have ht:=fb p2;have h0:0<=ba W p.1.1:=by
    have:(0:Rat)<=((ba W p.1.1:Int):Rat):=by
     rw[ht];exact ab9 (abB p1) (by exact_mod_cast aaP _)
    exact_mod_cast this
   refine⟨ba W p.1.1*b+z,?_,?_⟩
   ·have h1:(ba W p.1.1*b).natAbs<=(ba W p.1.1).natAbs*2940:=by rw[Int.natAbs_mul];exact aaH _ b1
    have h2:=Int.natAbs_add_le (ba W p.1.1*b) z;left
   ·rw[Rat.intCast_add,Rat.intCast_mul,ht,<- z2,<- b2];have:((420:Nat):Rat)=420:=rfl;rw[this];grind
  ·rw[if_neg e,if_neg e];exact⟨z,by left,by rw[Rat.zero_add];exact z2⟩
theorem Hg{n:Nat}(K:Rk 3 n ps xs)(Fi:rK (aV ps)):∀p∈hJ ps,p.2.length=p.1.2.length/\∀q∈p.2,Sm 18 q:=λp hp=>by
 obtain⟨W,w0,w1,w2⟩:=Fi;obtain⟨r,hr,rfl⟩:=List.mem_map.mp hp;refine⟨by simp,λq hq=>?_⟩;obtain⟨c,hc,rfl⟩:=List.mem_map.mp hr;obtain⟨h,hh,rfl⟩:=List.mem_map.mp hq;have uz:c∈bz [] (aV ps):=(aaC _ _).mem_iff.mp hc;show Sm 18 (m7 ps c h / f_ (aV ps) c);have J0:=nZ K.dr uz;have hle:=Hr K.dr c;have ht:=wa c w2;obtain⟨z,z1,z2⟩:=Bc (W:=W) c h ps λp hp=>⟨K.dr.pos p.1 (aay hp),w2 p.1 (aay hp),HL (K.rw hp) (K.ln p hp) (K.sw p hp) h⟩
 have hW:(0:Rat)<(W:Rat):=by exact_mod_cast w0
 have hA:0<jq W (aV ps) c:=by
  have:(0:Rat)<((jq W (aV ps) c:Int):Rat):=by rw[ht];exact Rat.mul_pos J0 hW
  exact_mod_cast this
 have hAW:jq W (aV ps) c<=W:=by
  have:((jq W (aV ps) c:Int):Rat)<=((W:Int):Rat):=by
   rw[ht,Rat.intCast_natCast];have:=Rat.mul_le_mul_of_nonneg_right hle (abB hW)
   rwa [Rat.one_mul]at this
  exact_mod_cast this
 obtain⟨A,eA⟩:∃A:Nat,(A:Int)=jq W (aV ps) c:=⟨(jq W (aV ps) c).toNat,by left⟩
 have eAr:((A:Nat):Rat)=f_ (aV ps) c*W:=by rw[<- ht,<- eA,Rat.intCast_natCast]
 have F:Fm (420*A) (2940*A) (m7 ps c h / f_ (aV ps) c):=⟨by left,z,by left,by
  have e:((420*A:Nat):Rat)=420*(A:Rat):=by exact_mod_cast rfl
  rw[e,eAr,<- z2];have:f_ (aV ps) c≠0:=λq=>by rw[q]at J0;exact absurd J0 (by decide)
  grind⟩
 exact F.sm (by show _<262144;left) (by show _<262144;left)
section
variable {j n:Nat}{ps:List Rg}{xs:au}(K:Rk j n ps xs)
include K
theorem AA(h:(j+4)*n<=88){p:Rg}(hp:p∈ps):Sm 89 (bV xs p):=by
 have s:=Sm.sum (K.AG hp).sm;have hl:=(K.rw hp).2.1;have h1:(j+3+1)*((p.1.2.zip p.2).map λz=>z.2*jQ xs z.1).length<=(j+4)*n:=aaH _ (by rw[List.length_map,List.length_zip];left);exact s.mono (by left)
theorem Ah(h:(j+4)*n<=88):Sm 4000 (js ps xs):=by
 have hf:=K.lI;have s1:∀p∈ps,Sm 6 p.1.1:=λp hp=>K.dr.sm p.1 (aay hp);have a:Sm (1+(184+1)*(ps.map λp=>p.1.1*(bV xs p*bV xs p)).length) (kY ps xs):=Sm.sum λq hq=>by
  obtain⟨p,hp,rfl⟩:=List.mem_map.mp hq;exact(s1 p hp).mul ((AA K h hp).mul (AA K h hp))
 have b:Sm (1+(95+1)*(ps.map λp=>p.1.1*bV xs p).length) (ja ps xs):=Sm.sum λq hq=>by
  obtain⟨p,hp,rfl⟩:=List.mem_map.mp hq;exact(s1 p hp).mul (AA K h hp)
 rw[List.length_map]at a b;have e:js ps xs=kY ps xs - ja ps xs*ja ps xs:=K.Rq;rw[e];exact(a.sub (b.mul b)).mono (by left)
end
noncomputable def xI:CE:=.comp 1 (.nm 0) [7] .kZ [(.v 2)] [] (.tup [(.bf .tI [(.cmp .eq (.v 0) (.v 1))]),(.int 1)])
def DR:ah:=[.app 6 xI]
noncomputable def Ja:ah:=[.asg (.nm 1) (.call 242 [(.v 0),(.int 0)]),.asg (.nm 2) (.ix (.v 1) (.int 0)),.asg (.nm 3) (.call 243 [(.v 0),(.int 10),(.v 1)]),.asg (.nm 4) (.call 76 [(.v 1)]),.asg (.nm 5) (.call 79 [(.v 1),(.v 3)])]
noncomputable def I_:ah:=[.asg (.nm 6) (.lst [(.call 230 [(.call 200 [(.v 0),(.int 20)]),(.v 2)]),(.call 230 [(.call 200 [(.v 0),(.int 21)]),(.v 2)])])]
def I9:ah:=[.fr (.nm 7) (.kZ (.v 2)) DR]
noncomputable def CH:CE:=.or [(.call 223 [(.v 9),(.v 10)]),(.and [(.cmp .eq (.bf .len [(.ix (.v 4) (.int 1))]) (.bf .len [(.ix (.v 1) (.int 1))])),(.cmp .ne (.v 9) (.v 10))])]
def MQ:ah:=[.ifs (.cmp .ne (.call 80 [(.v 4),(.v 5),(.v 8)]) (.call 77 [(.v 1),(.v 3),(.v 8)])) [.ret (.bl false)] [],.asg (.nm 9) (.call 78 [(.v 1),(.v 3),(.v 8)]),.asg (.nm 10) (.call 81 [(.v 4),(.v 5),(.v 8)]),.ifs CH [.ret (.bl false)] []]
def I0:ah:=[.fr (.nm 8) (.seq (.v 6)) MQ]
noncomputable def NF:ah:=[.ret (.and [(.cmp .eq (.call 76 [(.v 4)]) (.v 4)),(.cmp .eq (.call 79 [(.v 4),(.v 5)]) (.v 5))])]
def kC:ah:=Ja++(I_++(I9++(I0++NF)))
structure XG(Φ:aY):Prop where
 Ra:LA (Φ 76)
 ZO:zx ja (Φ 77)
 ZN:zx js (Φ 78)
 Xe:Qj (Φ 79)
 ZM:Lz ja (Φ 80)
 ZL:Lz js (Φ 81)
 U_:yb (Φ 223)
abbrev jg(ns:aa)(n:Nat)(rs:aC)(ps:List Rg)(m:a_):a_:=some (.lst .sc (af ns))::some (iX .ow n rs)::some (.int n)::some (.lst .ow (cV .ow ps))::some (iX .ow n (dX rs))::some (.lst .ow (cV .ow (hJ ps)))::m
theorem HU(Φ:aY){n:Nat}(hn:n<=12)(h:Nat)(h2:ρ[2]?=some (some (.int n)))(h7:ρ[7]?=some (some (.int h))):bw Φ xI ρ=ok (.lst .ow (bp (gf n h))):=by
 unfold xI;rw[cR (xs:=[.int n]) (ds:=(List.range n).map λ(k:Nat)=>qD (if k=h then 1 else 0)) (by simp[h2]) (xj Φ (by left) (by left)) (bO λk hk=>⟨[some (.int k),some (.int h)],by simp[bF,h7],by simp,?_⟩) (by simp;exact cc (by left))]
 ·simp[bp,gf,aQ]
 ·have c1:fA .eq (.int k) (.int h)=ok (.bl (decide (k=h))):=by
   rw[zp (by simp) (by simp),ko];by_cases e:k=h<;>simp[e];left
  have i1:kM .tI [.bl true]=ok (.int 1):=rfl;have i0:kM .tI [.bl false]=ok (.int 0):=rfl;by_cases e:k=h
  ·subst e;simp[c1,i1];rfl
  ·simp[c1,e,i0];rfl
theorem r9(Φ:aY){n:Nat}(hn:n<=12)(a0 a1 a3 a4 a5 a8 a9 a10:aH):∀(k j:Nat) (ls:List (au)) (c:aH),ls.length+k<=90 ->
  ∃c',dN (λd ρ=>cv (.nm 7) d ρ) (λρ=>bI Φ DR ρ) ((List.range' j k).map λ(i:Nat)=>D.int (i:Int)) [a0,a1,some (.int n),a3,a4,a5,some (.lst .ow (kL .ow ls)),c,a8,a9,a10]=ok (.nx,[a0,a1,some (.int n),a3,a4,a5,some (.lst .ow (kL .ow (ls++(List.range' j k).map (gf n)))),c',a8,a9,a10])
 |0,j,ls,c,_=>⟨c,by simp[qN]⟩
 |k+1,j,ls,c,h=>by
  have u:=HU Φ hn j (ρ:=[a0,a1,some (.int n),a3,a4,a5,some (.lst .ow (kL .ow ls)),some (.int j),a8,a9,a10]) rfl rfl;obtain⟨c',ih⟩:=r9 Φ hn a0 a1 a3 a4 a5 a8 a9 a10 k (j+1) (ls++[gf n j]) (some (.int j)) (by simp;left);have hc:(kL .ow ls).length<cL:=by show _<1000000;simp[kL];left
  have e1:kL .ow ls++[.lst .ow (bp (gf n j))]=kL .ow (ls++[gf n j]):=by simp[kL]
  rw[List.range'_succ,List.map_cons,List.map_cons];refine⟨c',dH (ρ1:=[a0,a1,some (.int n),a3,a4,a5,some (.lst .ow (kL .ow ls)),some (.int j),a8,a9,a10]) (by simp) (ρ2:=[a0,a1,some (.int n),a3,a4,a5,some (.lst .ow (kL .ow (ls++[gf n j]))),some (.int j),a8,a9,a10]) ?_ ?_⟩
  ·rw[DR,bW,Gw,Of Φ xI _ rfl,u,kh (by simp)];generalize kL .ow ls=es at *;simp[hc,e1]
  ·exact ih.trans (by simp)
theorem PF(f g:Fl)(n:Nat)(rs:aC):fA .eq (iX f n rs) (iX g n rs)=ok (.bl true):=by
 have k1:∀a,cI 40 (iX a n rs)=true:=λa=>by
  unfold iX;rw[mj];simp only[List.all_cons,List.all_nil,fD,Bool.true_and,Bool.and_true];rw[wX];exact j7 (NN 36) rs
 rw[zp (k1 f) (k1 g)];show ok (D.bl (((n:Int)==(n:Int))&&(dt (bM rs) (bM rs)&&true)))=_;rw[FK];simp
theorem PD(f g a b:Fl)(ps:List Rg):fA .eq (.lst f (cV a ps)) (.lst g (cV b ps))=ok (.bl true):=by
 have k3:∀f a,cI 40 (.lst f (cV a ps))=true:=λf a=>by
  rw[wX];exact j7 (λp=>Jl 37 _ _) ps
 rw[zp (k3 f a) (k3 g b)];have k4:∀l:List Rg,dt (cV a l) (cV b l)=true:=λl=>by
  induction l with
  |nil=>rfl
  |cons p l ih =>
   show(dt (bp p.2) (bp p.2)&&dt (cV a l) (cV b l))=true;rw[ih,FL];simp
 show ok (D.bl (dt (cV a ps) (cV b ps)))=_;rw[k4]
section
variable (Φ:aY)(Q:XG Φ)(ns:aa){n:Nat}{ps:List Rg}(hn:n<=4)(I:Dp (Rw n) 6 n (aV ps))(Fi:rK (aV ps))(Ff:∀p∈ps,p.2.length=p.1.2.length/\∀q∈p.2,Sm 3 q)
include Q hn I Fi Ff
theorem HZ(hx:xs.length=n)(sx:∀q∈xs,Sm 3 q)(c6 c7 c9 jC:aH):∃xY CJ,bI Φ MQ (jg ns n (aV ps) ps [c6,c7,some (.lst .fz (bp xs)),c9,jC])=ok (.nx,jg ns n (aV ps) ps [c6,c7,some (.lst .fz (bp xs)),xY,CJ]):=by
 have K:Rk 3 n ps xs:=⟨I,λp hp=>(Ff p hp).1,λp hp=>(Ff p hp).2,by left,hx,sx⟩
 obtain⟨J,Fj⟩:=Ca I Fi;have hg:=Hg K Fi;have K2:Rk 18 n (hJ ps) xs:=⟨by rw[iA];exact J.imp λr _ h=>h.rw,λp hp=>(hg p hp).1,λp hp=>(hg p hp).2,by left,hx,sx⟩
 have Vy:=Q.ZM 18 n (hJ ps) xs K2 (by rw[iA];exact J);have Xz:=Q.ZL 18 n (hJ ps) xs K2 (by rw[iA];exact J);have e77:=Q.ZO 3 n ps xs K;have e78:=Q.ZN 3 n ps xs K;rw[iA]at Vy Xz;have em:=FG K;have d1:js ps xs=kY ps xs - ja ps xs*ja ps xs:=K.Rq;have d2:js (hJ ps) xs=kY (hJ ps) xs - ja (hJ ps) xs*ja (hJ ps) xs:=K2.Rq;have hle:=Pw K;have BJ:=FF K;have OM:¬ js ps xs<js (hJ ps) xs:=by rw[d1,d2,em];intro z;grind
 have heq:(dX (aV ps)).length=(aV ps).length->js (hJ ps) xs=js ps xs:=λh=>by rw[d1,d2,em,BJ h]
 have PQ:=Q.U_ (js ps xs) (js (hJ ps) xs) (Ah K (by left)) (Ah K2 (by left));rw[decide_eq_false OM]at PQ;rw[em]at Vy;have q1:=G1 (ja ps xs);generalize hA:js ps xs=A at *;generalize hB:js (hJ ps) xs=B at *;generalize ja ps xs=M at *;refine⟨some (qD A),some (qD B),?_⟩;have m1:∀c9 jC,bw Φ (.call 80 [(.v 4),(.v 5),(.v 8)]) (jg ns n (aV ps) ps [c6,c7,some (.lst .fz (bp xs)),c9,jC])=ok (qD M):=λc9 jC=>by simp[nS,bo,aW,Vy]
 have m2:∀c9 jC,bw Φ (.call 77 [(.v 1),(.v 3),(.v 8)]) (jg ns n (aV ps) ps [c6,c7,some (.lst .fz (bp xs)),c9,jC])=ok (qD M):=λc9 jC=>by simp[nS,bo,aW,e77]
 have s1:k_ Φ (.ifs (.cmp .ne (.call 80 [(.v 4),(.v 5),(.v 8)]) (.call 77 [(.v 1),(.v 3),(.v 8)])) [.ret (.bl false)] []) (jg ns n (aV ps) ps [c6,c7,some (.lst .fz (bp xs)),c9,jC])=ok (.nx,jg ns n (aV ps) ps [c6,c7,some (.lst .fz (bp xs)),c9,jC]):=by
  rw[Dt,Hl,m1,m2,xS,q1];rfl
 have s2:bI Φ [.asg (.nm 9) (.call 78 [(.v 1),(.v 3),(.v 8)]),.asg (.nm 10) (.call 81 [(.v 4),(.v 5),(.v 8)])] (jg ns n (aV ps) ps [c6,c7,some (.lst .fz (bp xs)),c9,jC])=ok (.nx,jg ns n (aV ps) ps [c6,c7,some (.lst .fz (bp xs)),some (qD A),some (qD B)]):=by
  simp[nS,bo,aW,e78,Xz]
 have y1:bw Φ (.call 223 [(.v 9),(.v 10)]) (jg ns n (aV ps) ps [c6,c7,some (.lst .fz (bp xs)),some (qD A),some (qD B)])=ok (.bl false):=by simp[PQ]
 have l1:kM .len [.lst .al (bM (dX (aV ps)))]=ok (.int (dX (aV ps)).length):=by show ok (D.int ((bM (dX (aV ps))).length:Int))=_;simp
 have l2:kM .len [.lst .al (bM (aV ps))]=ok (.int (aV ps).length):=by show ok (D.int ((bM (aV ps)).length:Int))=_;simp
 have y2:bw Φ (.cmp .eq (.bf .len [(.ix (.v 4) (.int 1))]) (.bf .len [(.ix (.v 1) (.int 1))])) (jg ns n (aV ps) ps [c6,c7,some (.lst .fz (bp xs)),some (qD A),some (qD B)])=ok (.bl (decide ((dX (aV ps)).length=(aV ps).length))):=by
  have c:fA .eq (.int ((dX (aV ps)).length:Int)) (.int ((aV ps).length:Int))=ok (.bl (decide ((dX (aV ps)).length=(aV ps).length))):=by
   rw[zp rfl rfl,ko,show decide (((dX (aV ps)).length:Int)=((aV ps).length:Int))=decide ((dX (aV ps)).length=(aV ps).length) from decide_eq_decide.mpr (by left)]
  generalize (dX (aV ps)).length=u at *;have r1:bw Φ (.bf .len [(.ix (.v 4) (.int 1))]) (jg ns n (aV ps) ps [c6,c7,some (.lst .fz (bp xs)),some (qD A),some (qD B)])=ok (.int u):=by simp[iX,bo,l1]
  have r2:bw Φ (.bf .len [(.ix (.v 1) (.int 1))]) (jg ns n (aV ps) ps [c6,c7,some (.lst .fz (bp xs)),some (qD A),some (qD B)])=ok (.int (aV ps).length):=by simp[iX,bo,l2]
  rw[Hl,r1,r2,xS,c]
 have y3:(dX (aV ps)).length=(aV ps).length->bw Φ (.cmp .ne (.v 9) (.v 10)) (jg ns n (aV ps) ps [c6,c7,some (.lst .fz (bp xs)),some (qD A),some (qD B)])=ok (.bl false):=λh=>by
  have:=heq h;subst this;simp[G1]
 have s3:k_ Φ (.ifs CH [.ret (.bl false)] []) (jg ns n (aV ps) ps [c6,c7,some (.lst .fz (bp xs)),some (qD A),some (qD B)])=ok (.nx,jg ns n (aV ps) ps [c6,c7,some (.lst .fz (bp xs)),some (qD A),some (qD B)]):=by
  have yo:bw Φ CH (jg ns n (aV ps) ps [c6,c7,some (.lst .fz (bp xs)),some (qD A),some (qD B)])=ok (.bl false):=by
   unfold CH;by_cases h:(dX (aV ps)).length=(aV ps).length
   ·rw[decide_eq_true h]at y2;simp only[PL,Hi,Hj,Cj,vG,vH,y1,y2,y3 h];rfl
   ·rw[decide_eq_false h]at y2;simp only[PL,Hi,Hj,Cj,vG,vH,y1,y2];rfl
  rw[Dt,yo];rfl
 rw[MQ,bW,s1];show bI Φ ([.asg (.nm 9) (.call 78 [(.v 1),(.v 3),(.v 8)]),.asg (.nm 10) (.call 81 [(.v 4),(.v 5),(.v 8)])]++[.ifs CH [.ret (.bl false)] []]) _=_;rw[eP Φ _ _ _ _ s2,bW,s3];rfl
theorem tx:∀(ls:List (au)) (c6 c7 c8 c9 jC:aH),(∀l∈ls,l.length=n/\∀q∈l,Sm 3 q)->∃F5 xY CJ,dN (λd ρ=>cv (.nm 8) d ρ) (λρ=>bI Φ MQ ρ) (kL .fz ls) (jg ns n (aV ps) ps [c6,c7,c8,c9,jC])=ok (.nx,jg ns n (aV ps) ps [c6,c7,F5,xY,CJ])
 |[],c6,c7,c8,c9,jC,_=>⟨c8,c9,jC,rfl⟩
 |l::ls,c6,c7,c8,c9,jC,h=>by
  obtain⟨h1,h2⟩:=h l aai;obtain⟨d9,Rt,e⟩:=HZ Φ Q ns hn I Fi Ff h1 h2 c6 c7 c9 jC;obtain⟨d8,f9,Z2,ih⟩:=tx ls c6 c7 (some (.lst .fz (bp l))) d9 Rt λm hm=>h m (aag _ hm);exact⟨d8,f9,Z2,dH (x:=.lst .fz (bp l)) (ρ1:=jg ns n (aV ps) ps [c6,c7,some (.lst .fz (bp l)),c9,jC]) (by simp) (by exact e) ih⟩
end
theorem Oa(Φ:aY)(Q:XG Φ)(oK:n_ (Φ 200))(yW:rE (Φ 230))(U9:CQ (Φ 242))(U8:HA (Φ 243))(ns:aa):mk Φ 1 11 kC [.lst .sc (af ns)]=ok (.bl true):=by
 obtain⟨n,rs,hn,I,Fi,e1⟩:=U9 ns 0 (by decide);obtain⟨ps,rfl,Ff,e2⟩:=U8 ns 10 n rs (by decide) I;have XA:=oK ns 20 (by decide);have c21:=oK ns 21 (by decide);obtain⟨xs,x1,x2,x3⟩:=yW (iE ns 20) n (by left);obtain⟨ys,y1,y2,y3⟩:=yW (iE ns 21) n (by left);have K:Rk 3 n ps xs:=⟨I,λp hp=>(Ff p hp).1,λp hp=>(Ff p hp).2,by left,x2,x3⟩
 have e3:=Q.Ra n (aV ps) I Fi;have e4:=Q.Xe 3 n ps xs K Fi;obtain⟨J,Fj⟩:=Ca I Fi;have hg:=Hg K Fi;have K2:Rk 18 n (hJ ps) xs:=⟨by rw[iA];exact J.imp λr _ h=>h.rw,λp hp=>(hg p hp).1,λp hp=>(hg p hp).2,by left,x2,x3⟩
 have e5:=Q.Ra n (dX (aV ps)) (J.imp λr _ h=>h.rw) Fj;rw[(tW J).1]at e5;have e6:=Q.Xe 18 n (hJ ps) xs K2 (by rw[iA];exact Fj);rw[Cc (by rw[iA];exact J) λp hp=>(hg p hp).1,iA]at e6;have f1:=iw bJ .ow ps rfl;have f2:=iw bJ .ow (hJ ps) rfl;have fz:l5 .ow=.ow:=rfl;have ga:bI Φ Ja [some (.lst .sc (af ns)),none,none,none,none,none,none,none,none,none,none]=ok (.nx,jg ns n (aV ps) ps [none,none,none,none,none]):=by
  simp[Ja,e1,nS,e2,e3,e4,f1,f2,fz,bo,aW]
 have gb:bI Φ I_ (jg ns n (aV ps) ps [none,none,none,none,none])=ok (.nx,jg ns n (aV ps) ps [some (.lst .ow (kL .ow [xs,ys])),none,none,none,none]):=by
  simp[I_,XA,c21,x1,y1,kL]
 obtain⟨c7,el⟩:=r9 Φ (n:=n) (by left) (some (.lst .sc (af ns))) (some (iX .ow n (aV ps))) (some (.lst .ow (cV .ow ps))) (some (iX .ow n (dX (aV ps)))) (some (.lst .ow (cV .ow (hJ ps)))) none none none n 0 [xs,ys] none (by simp;left);have hit:cJ Φ (.kZ (.v 2)) (jg ns n (aV ps) ps [some (.lst .ow (kL .ow [xs,ys])),none,none,none,none])=ok ((List.range' 0 n).map λ(i:Nat)=>D.int (i:Int),jg ns n (aV ps) ps [some (.lst .ow (kL .ow [xs,ys])),none,none,none,none]):=by
  rw[EZ (n:=(n:Int)) (by simp) (by left) (by left),Int.toNat_natCast,<- List.range_eq_range']
 have hf:=e9 (Φ:=Φ) (t:=.nm 7) (b:=DR) hit el
 let ls:List (au):=[xs,ys]++(List.range' 0 n).map (gf n)
 have Zb:∀l∈ls,l.length=n/\∀q∈l,Sm 3 q:=λl hl=>by
  rcases List.mem_append.mp hl with hl|hl
  ·rcases List.mem_cons.mp hl with rfl|hl
   ·exact⟨x2,x3⟩
   ·rw[List.mem_singleton.mp hl];exact⟨y2,y3⟩
  ·obtain⟨k,_,rfl⟩:=List.mem_map.mp hl;exact⟨by unfold gf;simp,λq hq=>(DG q hq).mono (by decide)⟩
 have gc:bI Φ I9 (jg ns n (aV ps) ps [some (.lst .ow (kL .ow [xs,ys])),none,none,none,none])=ok (.nx,jg ns n (aV ps) ps [some (.lst .ow (kL .ow ls)),c7,none,none,none]):=by
  rw[I9,bW,hf];rfl
 obtain⟨c8,c9,jC,eo⟩:=tx Φ Q ns hn I Fi Ff ls (some (.lst .fz (kL .fz ls))) c7 none none none Zb;have ml:∀g f,aB g (kL f ls)=kL (g f) ls:=λg f=>by
  unfold kL;rw[aQ,List.map_map];exact aan λl _=>by show aT g (.lst f (bp l))=_;simp
 have J7:cJ Φ (.seq (.v 6)) (jg ns n (aV ps) ps [some (.lst .ow (kL .ow ls)),c7,none,none,none])=ok (kL .fz ls,jg ns n (aV ps) ps [some (.lst .fz (kL .fz ls)),c7,none,none,none]):=by
  rw[Bx (f:=.al) (ds:=kL .al ls) (by simp[ml,bo])];simp[g9,ml,aW,bJ]
 have UM:=e9 (Φ:=Φ) (t:=.nm 8) (b:=MQ) J7 eo;have gd:bI Φ I0 (jg ns n (aV ps) ps [some (.lst .ow (kL .ow ls)),c7,none,none,none])=ok (.nx,jg ns n (aV ps) ps [some (.lst .fz (kL .fz ls)),c7,c8,c9,jC]):=by
  rw[I0,bW,UM];rfl
 have z1:∀m,bw Φ (.cmp .eq (.call 76 [(.v 4)]) (.v 4)) (jg ns n (aV ps) ps m)=ok (.bl true):=λm=>by
  have q:=λf g=>PF f g n (dX (aV ps));simp[nS,bo,aW,e5,q]
 have z2:∀m,bw Φ (.cmp .eq (.call 79 [(.v 4),(.v 5)]) (.v 5)) (jg ns n (aV ps) ps m)=ok (.bl true):=λm=>by
  have q:=λf g a b=>PD f g a b (hJ ps);simp[nS,bo,aW,e6,q]
 rw[mk_eq (show[D.lst .sc (af ns)].length=1 from rfl)];show l7 (bI Φ kC [some (.lst .sc (af ns)),none,none,none,none,none,none,none,none,none,none])=_;rw[kC,eP Φ _ _ _ _ ga,eP Φ _ _ _ _ gb,eP Φ _ _ _ _ gc,eP Φ _ _ _ _ gd,NF,bW,Mq,Og,Cj,vG,vH,z1,z2];rfl
end DI
end
namespace PySem.W.Fast
def tw602794698732876489:=0
def tw9701989836180009345:=0
def tw17305379422748593786:=0
def tw6902734623475735643:=0
def tw3143924420825917408:=0
def tw3286585235499392252:=0
def tw13397096157479236129:=0
def tw6556408338611742955:=0
def tw927682502879358584:=0
def tw14331436154213377710:=0
def tw16107013417950001763:=0
def tw11096857163109828721:=0
def tw14500871185995961299:=0
def tw2614619545713366978:=0
def tw8887269466082853224:=0
def tw1873059115357130761:=0
def tw11368481390967141435:=0
def tw6210423943972402655:=0
def tw11126963944003137332:=0
def tw17625343628463187960:=0
def tw11284225031232502035:=0
def tw11467500908364686000:=0
def tw8707995080536893266:=0
def tw6026398113558843980:=0
def tw10275087013365671640:=0
def tw17429313966183819366:=0
def tw6713981467987381605:=0
def tw17005773914166281493:=0
def tw13829315388647838348:=0
def tw9560393927057282590:=0
def tw2929969055994271723:=0
def tw8205679048991054705:=0
def tw14602884196654228972:=0
def tw7786098889613734314:=0
def tw15361503924569740504:=0
def tw2714814430767079046:=0
def tw3298939624231906539:=0
def tw3000511950324043140:=0
def tw14447033714902867126:=0
def tw17047375991696708877:=0
def tw14792573359781596057:=0
def tw15330751272455833076:=0
def tw15726993417084965974:=0
def tw825743387049391956:=0
def tw12817103329401065027:=0
def tw14642261908780850583:=0
def tw3935090893672379031:=0
def tw1401337150877424108:=0
def tw1999085805408510273:=0
def tw7967168344502323877:=0
def tw15801981530443788192:=0
def tw3488911108359039757:=0
def tw1847638241588151492:=0
def tw10405064426070601714:=0
def tw8835394076235294031:=0
def tw6764654055277046298:=0
def tw10209391787481678514:=0
def tw17560317007625612516:=0
def tw18368438616947643058:=0
def tw4328344909649238365:=0
def tw9279612396137637427:=0
def tw15843819411206291708:=0
def tw15231449707734436286:=0
def tw6049402309253792415:=0
def tw18421123510237810517:=0
def tw17402517602976673330:=0
def tw9866632982133175881:=0
def tw14952523645659675023:=0
def tw14952907494402292185:=0
def tw13009368027261113029:=0
def tw12397669156736885597:=0
def tw7959466748977332829:=0
def tw1557935143516441302:=0
def tw10886255756682437092:=0
def tw8867928924508230593:=0
def tw13078455530656026136:=0
def tw9638963845920684602:=0
def tw4977341011510921150:=0
def tw6815142086847795914:=0
def tw14746095413492279111:=0
def tw8298298066551534469:=0
def tw17033585375632333299:=0
def tw6714554059272265208:=0
def tw4112790888610465687:=0
def tw15549759405168996013:=0
def tw16634546171132328204:=0
def tw4222192454205975148:=0
def tw5541619802119548962:=0
def tw3736987497880185421:=0
def tw12890901676489723278:=0
def tw9484142712984436881:=0
def tw2331907430231835153:=0
def tw279499757170466636:=0
def tw13646014283711422883:=0
def tw12392192255355605154:=0
def tw10506900148477060960:=0
def tw11070834884804447588:=0
def tw15515929261078835375:=0
def tw8630250899110867209:=0
def tw1309312535005156375:=0
def tw4321218842032812487:=0
def tw8174852209469608609:=0
def tw11228439418266634771:=0
def tw988745623610194248:=0
def tw5231448261282767000:=0
def tw15599054931863129413:=0
def tw10186820197430456514:=0
def tw9169711333982404252:=0
def tw17294650193054695244:=0
def tw3367316481657290821:=0
def tw14092182022128785841:=0
def tw13710131392211989753:=0
def tw6768620986889895377:=0
def tw4465717757882344989:=0
def tw14060229480527635615:=0
def tw17282405734683462973:=0
def tw18331140665551619593:=0
def tw555274235560380313:=0
def tw18249526018029253636:=0
def tw1086775277994833376:=0
def tw13307024199017569026:=0
def tw2501743587258438512:=0
def tw5234058622319982647:=0
def tw1794621932561547013:=0
def tw8849179449839286853:=0
def tw9273603151311281906:=0
def tw5571287427107596210:=0
def tw6501526659673706849:=0
def tw10422441528818958642:=0
def tw15907528541887396440:=0
def tw8500138777782721995:=0
def tw13702463893243661406:=0
def tw17075244126172841868:=0
def tw3890928421930885374:=0
def tw7517799619454179348:=0
def tw10430990688522808900:=0
def tw14325283231723468940:=0
def tw891791437753257544:=0
def tw5174402523007389389:=0
def tw11920433304930610889:=0
def tw5339329622469337711:=0
end PySem.W.Fast
namespace Asm
open PySem PySem.Spec PyProof.Rows L2 DI
noncomputable def top(i:Nat):Stmt:=PySem.Challenge.pw_sharesample_k34_whole_forgetting_is_no_w.main.body.getD i (.Pass ⟨0,0,0,0⟩)
def px:Px:=⟨λn sc bl e=>if n=1020 then qV true sc bl e else if n=1022 then xV sc bl e else if n=1030 then iY sc bl e else if n=1031 then mD sc bl e else if n=1032 then lj sc bl e else if n=1035 then iC "sorted" sc bl e else if n=1040 then xT sc bl e else if n=1041 then xU sc bl e else if n=1060 then iY sc bl e else if n=1062 then lj sc bl e else none,λn sc bl e=>if n=1000 then fS sc bl e else if n=1015 then fS sc bl e else if n=1100 then CB sc bl e else none,λn sc bl e=>if n=1033 then mC sc bl e else none,λn sc bl e=>if n=1200 then qU sc bl e else none⟩
noncomputable def PT:aY
 |1000=>oq
 |1015=>lu
 |1020=>(cutD true)
 |1022=>L9
 |1030=>xK
 |1031=>pP
 |1032=>zd
 |1033=>pN
 |1035=>lg
 |1040=>N5
 |1041=>LR
 |1060=>AH
 |1062=>uZ
 |1100=>nV
 |1200=>uY
 |_=>λ_=>none
theorem pr(F:aY)(i:Nat)(m:az):vR px (xm PT F i m)/\LC px (xm PT F i m):=⟨⟨(λX sc bl k L p e args he F cs hs=>C3 he (λhe=>Lj rfl L he hs) λhe=>C3 he (λhe=>Po rfl L he hs) λhe=>C3 he (λhe=>FV rfl L he hs) λhe=>C3 he (λhe=>FX rfl L he hs) λhe=>C3 he (λhe=>Lg rfl L he hs) λhe=>C3 he (λhe=>Cm rfl L he hs) λhe=>C3 he (λhe=>N4 rfl L he hs) λhe=>C3 he (λhe=>N6 rfl L he hs) λhe=>C3 he (λhe=>Em rfl L he hs) λhe=>C3 he (λhe=>IS rfl L he hs) λhe=>nomatch he),(λX sc bl k L p e args he F cs tg ht hs pins s σ H R τ ρ xs d items I Si cK ed ei Rr hR=>by
  dsimp only[px]at he;by_cases hp:p=1000
  ·subst hp;rw[if_pos rfl]at he;exact HF rfl L he ht hs I Si cK ed ei Rr hR
  rw[if_neg hp]at he;clear hp;by_cases hp:p=1015
  ·subst hp;rw[if_pos rfl]at he;exact Dm rfl L he ht hs I Si cK ed ei Rr hR
  rw[if_neg hp]at he;clear hp;by_cases hp:p=1100
  ·subst hp;rw[if_pos rfl]at he;exact Cn rfl L he ht hs I Si cK ed ei Rr hR
  rw[if_neg hp]at he;clear hp;cases he)⟩,⟨(λX sc bl k L hN yP p st x pos args he i hi hl pe F cs hs=>YO he (λhe=>FU rfl L hN yP he hi hl pe hs) λhe=>nomatch he),(λX sc bl k L hN yP p st x pos args he i hi hl pe F c1 c2 hs=>T6 he (λhe=>IJ rfl L hN yP he hi hl pe hs) λhe=>nomatch he)⟩⟩
noncomputable def xt(F:aY)(i a b:Nat)(c:ah):aY:=xm PT F i (mk F a b c)
noncomputable def BL:aq:=["abs","all","bool","int","isinstance","len","list","range","set","sorted","sum","tuple","zip"]
noncomputable def CC:List (Str×GK):=[("MOST_HOUSES",GK.i 12)]
noncomputable def iL:aY:=xm PT PT 0 λ_=>none
noncomputable def jL:aY:=xt iL 223 2 2 (mG)
noncomputable def jK:aY:=xt jL 200 2 4 (eI)
noncomputable def jJ:aY:=xt jK 201 2 4 (kB)
noncomputable def jI:aY:=xt jJ 230 2 4 (mF)
noncomputable def fY:aY:=xt jI 242 2 11 (rb)
noncomputable def jM:aY:=xt fY 243 3 3 (x4)
noncomputable def gQ:aY:=xt jM 0 1 1 (gF)
noncomputable def eu:aY:=xt gQ 43 2 2 (cZ)
noncomputable def fZ:aY:=xt eu 1 2 3 (cY)
noncomputable def oh:aY:=xt fZ 3 1 1 (bT)
noncomputable def iJ:aY:=xt oh 12 2 2 (kD)
noncomputable def eL:aY:=xt iJ 44 1 3 (fK)
noncomputable def iH:aY:=xt eL 9 1 3 (cF)
noncomputable def ft:aY:=xt iH 10 2 2 (fI)
noncomputable def fV:aY:=xt ft 14 1 4 (i4)
noncomputable def jN:aY:=xt fV 15 1 2 (eC)
noncomputable def eh:aY:=xt jN 45 1 4 (gG)
noncomputable def dj:aY:=xt eh 72 1 1 (rg)
noncomputable def f6:aY:=xt dj 73 1 1 (rm)
noncomputable def gO:aY:=xt f6 2 2 3 (cG)
noncomputable def di:aY:=xt gO 18 3 3 (x5)
noncomputable def eN:aY:=xt di 76 1 6 (F_)
noncomputable def f7:aY:=xt eN 40 2 2 (b8)
noncomputable def lr:aY:=xt f7 74 2 4 (Ga)
noncomputable def gN:aY:=xt lr 7 2 2 (CM 2)
noncomputable def jH:aY:=xt gN 6 2 2 (mE 2)
noncomputable def gM:aY:=xt jH 41 1 2 (gE)
noncomputable def dJ:aY:=xt gM 42 1 2 (eV)
noncomputable def oi:aY:=xt dJ 79 2 11 (CL)
noncomputable def gL:aY:=xt oi 11 2 2 (gu)
noncomputable def eM:aY:=xt gL 16 1 1 (eU)
noncomputable def fu:aY:=xt eM 17 1 1 (dm)
noncomputable def i9:aY:=xt fu 47 2 2 (kE 40 4)
noncomputable def fW:aY:=xt i9 49 2 4 (i6)
noncomputable def jG:aY:=xt fW 75 3 6 (F9)
noncomputable def iK:aY:=xt jG 77 3 3 (uk 49)
noncomputable def iI:aY:=xt iK 80 3 3 (zr 77)
noncomputable def gK:aY:=xt iI 50 2 6 (fJ)
noncomputable def fX:aY:=xt gK 78 3 3 (uk 50)
noncomputable def CV:aY:=xt fX 81 3 3 (zr 78)
def Sd:=D9 iL
def H9:=Iy jL
def MS:=D7 jK
def MR:=D5 jJ MS
def Sb:=Iu jI ⟨rfl,rfl,rfl,rfl,rfl,rfl⟩ rfl H9 MS
def Sa:=M6 fY H9 MR
def t0:=uV jM
def V9:=qh gQ t0
def t1:=kX eu
def t3:=oF fZ t0 t1
def Yo:=Ar oh t3 V9
def Yk:=sJ iJ rfl rfl rfl
def t9:=lU eL t1
def We:=sH iH
def Qv:=yt ft t9 We rfl
def Yn:=oE fV Qv
def V8:=uW jN t0 Yo Yn Yk
def Yh:=Iv eh V8
def R_:=Iw dj Yh
def t2:=oG f6 t1
def Wc:=M8 gO ⟨rfl,rfl,rfl,rfl,rfl⟩ t2
def V5:=Ss di ⟨rfl,rfl,rfl,rfl,rfl⟩ Qv Wc R_
def Wb:=lW eN t3
def R9:=Su f7 Wb rfl
def t7:=s_by lr (f:=2) t2
def t6:=D4 gN (f:=2) t2.1
def Wa:=uU jH t9 We
def V_:=qg gM t2 Wa
def Yg:=Sr dJ t6 t7 V_ R9 V5 rfl rfl rfl rfl rfl
def Yp:=As oi V9
def Ym:=qf gL Yp V8
def Wd:=lV eM Ym
theorem V7:kH 4 lp (i9 47):=D8 fu (f:=40) zt Wb
def Yj:=@yu i9 t2 Qv rfl
def V6:=Sq fW t6 Wa V_ rfl rfl
def V4:=So jG V7 Yj R_ R9 V6
def Yf:=M7 iK (f:=77) Wd V4
def Yi:=@sI iI t2 Qv rfl
def V3:=M5 gK V7 Yi R_ R9 V6
def Ye:=M7 fX (f:=78) Wd V3
theorem yF:∀ns:aa,(mk CV 1 11 (kC)) [.lst .sc (af ns)]=ok (.bl true):=Oa CV ⟨V5,V4,V3,Yg,Yf,Ye,Sd⟩ H9 MR Sb Sa
theorem Ln:Ru (top 52) ["_law_script","_law_drawing","_law_many","_law_guess","_law_lots","_law_told","_law_some","_law_house","_law_worths","_law_early","_law_late"] ["_law_script"] [(76,"forgotten_drawing"),(77,"row_mean"),(78,"row_spread"),(79,"forgotten_guess"),(80,"lots_mean"),(81,"lots_spread"),(200,"_law_cell"),(223,"_law_below"),(230,"_law_list"),(242,"_law_rows"),(243,"_law_weights")] BL CC px (kC)=true:=by decide +kernel
theorem all_mk{l:PySem.W.OpenLaw}{w:World}{K:ao}{h:Heap}{mg:aZ}{fa:Addr}{u0:Value}(X:K.In h)(G:h.Ns mainGlobals mg)(Zr:mg "law" = some (.ref fa))
  (a0:Df K "_law_below" (top 48))
  (a1:Df K "_law_cell" (top 46))
  (a2:Df K "_law_frac" (top 47))
  (a3:Df K "_law_list" (top 49))
  (a4:Df K "_law_rows" (top 50))
  (a5:Df K "_law_weights" (top 51))
  (a6:Df K "is_whole" (top 7))
  (a7:Df K "are_houses" (top 20))
  (a8:Df K "common_divisor" (top 8))
  (a9:Df K "is_fraction" (top 10))
  (a10:Df K "is_row" (top 22))
  (a11:Df K "rows_rise" (top 23))
  (a12:Df K "common_bottom" (top 14))
  (a13:Df K "tops_over" (top 15))
  (a14:Df K "weighed_lots" (top 24))
  (a15:Df K "sums_to_one" (top 25))
  (a16:Df K "is_drawn" (top 26))
  (a17:Df K "is_row_drawing" (top 35))
  (a18:Df K "check_row_drawing" (top 36))
  (a19:Df K "fraction_of" (top 9))
  (a20:Df K "drawing_of" (top 29))
  (a21:Df K "forgotten_drawing" (top 39))
  (a22:Df K "are_fractions" (top 11))
  (a23:Df K "check_guess" (top 37))
  (a24:Df K "frac_by" (top 13))
  (a25:Df K "frac_times" (top 12))
  (a26:Df K "over_one" (top 16))
  (a27:Df K "frac_total" (top 17))
  (a28:Df K "forgotten_guess" (top 42))
  (a29:Df K "is_lot" (top 21))
  (a30:Df K "is_drawing" (top 27))
  (a31:Df K "check_drawing" (top 28))
  (a32:Df K "check_worths" (top 31))
  (a33:Df K "mean_of" (top 32))
  (a34:Df K "row_guesses" (top 38))
  (a35:Df K "row_mean" (top 40))
  (a36:Df K "lots_mean" (top 43))
  (a37:Df K "spread_of" (top 33))
  (a38:Df K "row_spread" (top 41))
  (a39:Df K "lots_spread" (top 44))
  (a40:Df K "law" (top 52))
  (z:du (λy=>PySem.W.nsIn K mainGlobals y=some none) BL)
  (q0:PySem.W.nsIn K mainGlobals "MOST_HOUSES" = some (some u0)) (r0:RelV (.int 12) u0) :
  ∃fd:FuncData,(∀(s:Shared) (v:Value),BindsTo s fd ⟨[v],[]⟩ [("_law_script",v)])/\∀base:Heap,K.In base->base.Ns mainGlobals mg->jd l.prog w K mg base zI 42 fa fd ["_law_script"] (DW K 1 qy):=by
 obtain⟨f,fd,Fu,a⟩:=a40;have e:=Zr.symm.trans (PySem.W.mg_of X G a);cases e;obtain⟨oc,od,kV,dc,pm,an,cd,ct,sl,rfl,_,_⟩:=id Fu.ex;have Y:=du.nn X G z;have x0:∃u,mg "MOST_HOUSES" = some u/\Gn K (GK.i 12) u:=⟨_,PySem.W.mg_of X G q0,r0⟩
 refine⟨PySem.W.fnOf "law" "law" (fH (top 52)) (dk (top 52)) (bG (top 52)) .none kV dc pm an cd ct,λs v=>.of_eq rfl,λbase _ _=>?_⟩;have N:=@Z7 l.prog w K h base mg BL CC px PT X G pr Y ⟨x0,fO⟩;have E0:=N 1 iL a0 ["_law_one","_law_other"] 2 [] (mG) fO;have E1:=N 2 jL a1 ["_law_script","_law_k","_law_cell_here","_law_number"] 2 [] (eI) fO;have E2:=N 3 jK a2 ["_law_top","_law_bottom","_law_one","_law_other"] 2 [] (kB) fO;have E3:=N 4 jJ a3 ["_law_number","_law_many","_law_found","_law_k"] 2 [(201,"_law_frac")] (mF) ⟨E2.u,fO⟩;have E4:=N 5 jI a4 ["_law_script","_law_at","_law_number","_law_many","_law_found","_law_k","_law_other","_law_left","_law_row","_law_turn","_law_whole"] 2 [(200,"_law_cell"),(201,"_law_frac")] (rb) ⟨E1.u,E2.u,fO⟩;have E5:=N 6 fY a5 ["_law_script","_law_at","_law_drawing"] 3 [(200,"_law_cell"),(230,"_law_list")] (x4) ⟨E1.u,E3.u,fO⟩;have E6:=N 7 jM a6 ["thing"] 1 [] (gF) fO;have E7:=N 8 gQ a7 ["thing","many"] 2 [(0,"is_whole")] (cZ) ⟨E6.u,fO⟩;have E8:=N 9 eu a8 ["one","other","rest"] 2 [] (cY) fO;have E9:=N 10 fZ a9 ["thing"] 1 [(0,"is_whole"),(1,"common_divisor")] (bT) ⟨E6.u,E8.u,fO⟩;have E10:=N 11 oh a10 ["thing","many"] 2 [(3,"is_fraction"),(43,"are_houses")] (kD) ⟨E9.u,E7.u,fO⟩;have E11:=N 12 iJ a11 ["rows","ahead","behind"] 1 [] (fK) fO;have XZ:=N 13 eL a12 ["some","bottom","part"] 1 [(1,"common_divisor")] (cF) ⟨E8.u,fO⟩;have XY:=N 14 iH a13 ["some","bottom"] 2 [] (fI) fO;have RF:=N 15 ft a14 ["rows","chances","lots","bottom"] 1 [(9,"common_bottom"),(10,"tops_over")] (i4) ⟨XZ.u,XY.u,fO⟩;have E15:=N 16 fV a15 ["rows","weighed"] 1 [(14,"weighed_lots")] (eC) ⟨RF.u,fO⟩;have XX:=N 17 jN a16 ["thing","many","rows","row"] 1 [(0,"is_whole"),(12,"is_row"),(15,"sums_to_one"),(44,"rows_rise")] (gG) ⟨E6.u,E10.u,E15.u,E11.u,fO⟩;have E17:=N 18 eh a17 ["thing"] 1 [(45,"is_drawn")] (rg) ⟨XX.u,fO⟩;have VY:=N 19 dj a18 ["thing"] 1 [(72,"is_row_drawing")] (rm) ⟨E17.u,fO⟩;have Mn:=N 20 f6 a19 ["top","bottom","divisor"] 2 [(1,"common_divisor")] (cG) ⟨E8.u,fO⟩;have E20:=N 21 gO a20 ["many","weights","bottom"] 3 [(2,"fraction_of")] (x5) ⟨Mn.u,fO⟩;have XW:=N 22 di a21 ["drawing","weighed","weights","weight","row","lot"] 1 [(14,"weighed_lots"),(18,"drawing_of"),(73,"check_row_drawing")] (F_) ⟨RF.u,E20.u,VY.u,fO⟩;have XU:=N 23 eN a22 ["thing","many"] 2 [(3,"is_fraction")] (b8) ⟨E9.u,fO⟩;have VX:=N 24 f7 a23 ["thing","rows","row","weights"] 2 [(40,"are_fractions")] (Ga) ⟨XU.u,fO⟩;have E24:=N 25 lr a24 ["one","other"] 2 [(2,"fraction_of")] (CM 2) ⟨Mn.u,fO⟩;have XT:=N 26 gN a25 ["one","other"] 2 [(2,"fraction_of")] (mE 2) ⟨Mn.u,fO⟩;have XS:=N 27 jH a26 ["some","bottom"] 1 [(9,"common_bottom"),(10,"tops_over")] (gE) ⟨XZ.u,XY.u,fO⟩;have XR:=N 28 gM a27 ["some","tops"] 1 [(2,"fraction_of"),(41,"over_one")] (eV) ⟨Mn.u,XS.u,fO⟩;have E28:=N 29 dJ a28 ["drawing","guess","lots","parts","row","weights","lot","house","weight","told","chance"] 2 [(6,"frac_times"),(7,"frac_by"),(42,"frac_total"),(74,"check_guess"),(76,"forgotten_drawing")] (CL) ⟨XT.u,E24.u,XR.u,VX.u,XW.u,fO⟩;have E29:=N 30 oi a29 ["thing","many"] 2 [(43,"are_houses")] (gu) ⟨E7.u,fO⟩;have E30:=N 31 gL a30 ["thing"] 1 [(11,"is_lot"),(45,"is_drawn")] (eU) ⟨E29.u,XX.u,fO⟩;have XQ:=N 32 eM a31 ["thing"] 1 [(16,"is_drawing")] (dm) ⟨E30.u,fO⟩;have XO:=N 33 fu a32 ["thing","many"] 2 [(40,"are_fractions")] (kE 40 4) ⟨XU.u,fO⟩;have E33:=N 34 i9 a33 ["rows","guesses","weighed","total"] 2 [(2,"fraction_of"),(14,"weighed_lots")] (i6) ⟨Mn.u,RF.u,fO⟩;have XN:=N 35 fW a34 ["rows","guess","worths","told","row","weights"] 3 [(6,"frac_times"),(41,"over_one"),(42,"frac_total")] (F9) ⟨XT.u,XS.u,XR.u,fO⟩;have XM:=N 36 jG a35 ["drawing","guess","worths"] 3 [(47,"check_worths"),(49,"mean_of"),(73,"check_row_drawing"),(74,"check_guess"),(75,"row_guesses")] (uk 49) ⟨XO.u,E33.u,VY.u,VX.u,XN.u,fO⟩;have E36:=N 37 iK a36 ["drawing","guess","worths"] 3 [(17,"check_drawing"),(77,"row_mean")] (zr 77) ⟨XQ.u,XM.u,fO⟩;have E37:=N 38 iI a37 ["rows","guesses","weighed","total","squares","bottom"] 2 [(2,"fraction_of"),(14,"weighed_lots")] (fJ) ⟨Mn.u,RF.u,fO⟩;have XJ:=N 39 gK a38 ["drawing","guess","worths"] 3 [(47,"check_worths"),(50,"spread_of"),(73,"check_row_drawing"),(74,"check_guess"),(75,"row_guesses")] (uk 50) ⟨XO.u,E37.u,VY.u,VX.u,XN.u,fO⟩;have E39:=N 40 fX a39 ["drawing","guess","worths"] 3 [(17,"check_drawing"),(78,"row_spread")] (zr 78) ⟨XQ.u,XJ.u,fO⟩;exact Z6 41 CV qy Fu Ln (pr _ _ _) Y ⟨x0,fO⟩ ⟨XW.u,XM.u,XJ.u,E28.u,E36.u,E39.u,E1.u,E0.u,E3.u,E4.u,E5.u,fO⟩ (Bl λns _=>(vc _ _ (yF ns)).2)
theorem walk{l:PySem.W.OpenLaw}{q:aE}{loose:aq}{XP:(aZ)->Heap->Prop}{YP:World->Heap->Prop}{d:DefRec}{K:Params->ao}(hn:l.most=some 63)(OU:d.params.defaults=[])
  (hY:∀(w:World) (h:Heap),YP w h->(K w.params).In h)
  (F:∀(w:World) (mg:aZ) (fa:Addr) (h:Heap),(K w.params).In h->h.Ns mainGlobals mg->mg d.name=some (.ref fa) ->
   ∃fd:FuncData,(∀(s:Shared) (u:Value),BindsTo s fd ⟨[u],[]⟩ [("_law_script",u)])/\∀base:Heap,(K w.params).In base->base.Ns mainGlobals mg->jd l.prog w (K w.params) mg base zI 42 fa fd ["_law_script"] (DW (K w.params) 1 qy)) :
  PySem.W.WalkO q loose XP YP l.row.toRowW d [] (λf vs=>PySem.call f vs) :=
 L2.Du (n:=63) (k:=42) (x:="_law_script") (CX:=λ_=>zI) (sp:=λw=>DW (K w.params) 1 qy) hn (by decide) OU ⟨rfl,by decide,by decide⟩ hY F (λw H a ns hl hO hS=>JE (K w.params) H a ns qy (ER hl) hO hS) λ_ _ _ _ _ z=>z
end Asm
end
open PySem PySem.W PyProof.Rows
set_option maxRecDepth 100000 in
set_option maxHeartbeats 0 in
theorem PySem.Challenge.cw_sharesample_k34_whole_forgetting_is_no_w_holds : PySem.Challenge.rw_sharesample_k34_whole_forgetting_is_no_w.Holds := by
 w_on;o_law;k_head;(case hw=>w_witness2)
 k_fill
 refine Asm.walk (l:=PySem.Challenge.rw_sharesample_k34_whole_forgetting_is_no_w) rfl rfl (fun w h Y=>PySem.W.kIn_of Y) ?F
 case F =>
  intro w mg fa h KX G hmg
  refine' Asm.all_mk KX G hmg ?a0 ?a1 ?a2 ?a3 ?a4 ?a5 ?a6 ?a7 ?a8 ?a9 ?a10 ?a11 ?a12 ?a13 ?a14 ?a15 ?a16 ?a17 ?a18 ?a19 ?a20 ?a21 ?a22 ?a23 ?a24 ?a25 ?a26 ?a27 ?a28 ?a29 ?a30 ?a31 ?a32 ?a33 ?a34 ?a35 ?a36 ?a37 ?a38 ?a39 ?a40 ?zz ?q0 ?r0
  case a0 | a1 | a2 | a3 | a4 | a5 | a6 | a7 | a8 | a9 | a10 | a11 | a12 | a13 | a14 | a15 | a16 | a17 | a18 | a19 | a20 | a21 | a22 | a23 | a24 | a25 | a26 | a27 | a28 | a29 | a30 | a31 | a32 | a33 | a34 | a35 | a36 | a37 | a38 | a39 | a40 =>
   refine' DI.dmk ?x ?y ?z ?w
   case x | y | z | w=>k_is
  (case zz=>refine' ⟨?_,?_,?_,?_,?_,?_,?_,?_,?_,?_,?_,?_,?_,trivial⟩ <;> show PySem.W.nsIn _ _ _ = some none <;> k_is)
  (case q0=>k_is);(case r0=>exact ⟨_,rfl⟩)
