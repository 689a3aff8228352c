import PyProof.Rows.All
import Wide.All
import OpenK.AllK
import Wide.FinOn
import Lean
import PyProof.EqAt
import PyProof.EqKinds
import PyProof.TupleCall
import PyProof.NeKinds
import KE.BitLaws
import PyProof.SumWalkG
import PyProof.ConsumeWalk
import PyProof.WalksMore
import KE.KSortedM
import PyProof.Rows.SetFrom
import PyProof.CompUse
import PyProof.ZipIter
import PyProof.EnumMake
import KE.KSortTup
import PyProof.Draws
import PyProof.ListRange
import PyProof.SliceList
import PyProof.DictIter
import PyProof.Rows.DictUnroll
import KE.KDictSum
import PyProof.DictRoadsH
import PyProof.DictKinds
import PyProof.NsDelKeeps
import PyProof.ExcBaseAll.ValueError
import PyProof.ExcAttrAll.ValueError
import PySem.Challenge.RW_sharesample_k27_blind_worths
set_option bootstrap.genMatcherCode false
set_option genSizeOf false
set_option genSizeOfSpec false
set_option Elab.async false
set_option linter.all false
set_option maxRecDepth 100000
local macro_rules | `(tactic| left) => `(tactic| first | assumption | exact Nat.zero_le _ | exact Int.natCast_nonneg _ | exact Int.ofNat_lt.mpr (by assumption) | exact Nat.le_of_lt (by assumption) | exact Nat.le_trans (by assumption) (by assumption) | exact Nat.lt_of_lt_of_le (by assumption) (by assumption) | lia | omega)
noncomputable section
abbrev aaa:=@PySem.wpAny_bind
abbrev aab:=@of_decide_eq_true
abbrev aac:=@Bool.false_ne_true
abbrev aad:=@List.mem_cons_of_mem
abbrev aae:=@PySem.Heap.lt_size
abbrev aaf:=@List.mem_cons_self
abbrev aag:=@PySem.wpAny_pure
abbrev aah:=@PySem.Heap.get?_push_of_some
abbrev aai:=@Nat.lt_of_lt_of_le
abbrev aaj:=@Nat.le_refl
abbrev aak:=@Nat.ne_of_lt
abbrev aal:=@List.mem_append_right
abbrev aam:=@PySem.Heap.get?_push_size
abbrev aan:=@List.getElem?_eq_getElem
abbrev aao:=@Nat.lt_of_le_of_lt
abbrev aap:=@Option.some.inj
abbrev aaq:=@List.mem_of_getElem?
abbrev aar:=@Nat.pow_le_pow_right
abbrev aas:=@PyProof.Rows.callWith_type1
abbrev aat:=@List.map_congr_left
abbrev aau:=@PySem.wpAny_mono
abbrev aaw:=@Nat.ne_of_gt
abbrev aax:=@Nat.lt_irrefl
abbrev aay:=@List.mem_append_left
abbrev aaz:=@Nat.mul_le_mul_left
abbrev aaA:=@Nat.lt_succ_of_lt
abbrev aaB:=@Nat.le_trans
abbrev aaC:=@Nat.zero_le
abbrev aaD:=@PySem.wpAny_holding
abbrev aaE:=@PySem.Heap.get?_update_other
abbrev aaF:=@List.mem_map_of_mem
abbrev aaG:=@PySem.wpAny_Call_Name_kw
abbrev aaH:=@PySem.F.slot_dict_keyiterator_next
abbrev aaI:=@decide_eq_false
abbrev aaJ:=@Int.fmod_nonneg_of_pos
abbrev aaK:=@decide_eq_true
abbrev aaL:=@Nat.mul_le_mul
abbrev aaM:=@PySem.wpAny_truthy_bool
abbrev aaN:=@PySem.wpAny_loadPart_at
abbrev aaO:=@PySem.wpAny_typeNameOfWhole_keyiter
abbrev aaP:=@PySem.mem_of_lookup
abbrev aaQ:=@if_pos
abbrev aaR:=@List.mergeSort_perm
abbrev aaS:=@congrArg
abbrev aaT:=@PySem.wpAny_call_entry
abbrev aaU:=@PySem.sizeLine_eq
abbrev aaV:=@Int.fmod_lt_of_pos
abbrev aaW:=@PySem.wpAny_passesOwn
abbrev aaX:=@PySem.W.kia_one
abbrev aaY:=@PySem.Heap.get?_update_self
abbrev aaZ:=@PySem.Calls.Name_function_global
abbrev aa0:=@Array.getElem?_eq_getElem
abbrev aa1:=@Nat.mul_le_mul_right
abbrev aa4:=@List.mem_or_eq_of_mem_set
abbrev aa5:=@Nat.lt_succ_self
abbrev aa6:=@PySem.wpAny_typeNameOf_keyiter
abbrev aa7:=@Int.mul_fdiv_cancel_left
abbrev aa8:=@PySem.wpAny_callSpecial?_slot
abbrev aa9:=@PySem.call_meets
abbrev aa_:=@PySem.codeAny_builtin
abbrev aba:=@List.length_map
abbrev abb:=@Nat.le_mul_of_pos_left
abbrev abc:=@PySem.wpAny_newObj_type
abbrev abd:=@PySem.F.slot_zip_next
abbrev abe:=@List.getElem_mem
abbrev abf:=@List.ext_getElem
abbrev abg:=@PySem.W.mg_of
abbrev abh:=@Nat.le_of_dvd
abbrev abi:=@Nat.mul_pos
abbrev abk:=@PySem.wpAny_execs_nil
abbrev abl:=@PySem.SeqAt.EqAt.same
abbrev abm:=@Int.mul_ne_zero
abbrev abn:=@PySem.Calls.spliced_cons
abbrev abo:=@PySem.codeAny_mono
abbrev abp:=@PySem.SeqAt.EqAt.int_int
abbrev abu:=@PySem.F.args_tuple_add_2
abbrev abv:=@Nat.lt_trans
abbrev abw:=@Ne.symm
abbrev abx:=@List.nodup_nil
abbrev aby:=@PySem.Calls.loadGlobal_global
abbrev abz:=@PySem.F.entry_tuple_add
abbrev abA:=@PySem.F.plainAttrs_list
abbrev abB:=@PySem.Calls.spliced_nil
abbrev abC:=@PySem.F.slot_tuple_add
abbrev abD:=@PyProof.Rows.subscriptTail_builtinR
abbrev abE:=@PySem.Calls.callWith_builtin
abbrev abF:=@PySem.wpAny_field
abbrev abI:=@PySem.wpAny_nextOf_list_item
abbrev abJ:=@List.cons.inj
abbrev abK:=@beq_self_eq_true
abbrev abL:=@PySem.F.slot_tuple_lt
abbrev abM:=@PySem.F.typeOf_object_class
abbrev abN:=@List.length_filter_le
abbrev abP:=@PySem.SeqAt.EqAt.none_bool
abbrev abQ:=@PySem.SeqAt.EqAt.bool_none
abbrev abR:=@PySem.SeqAt.EqAt.bool_bool
abbrev abS:=@PySem.Calls.evalArgs_plain
abbrev abT:=@PySem.codeAny_call_builtin
abbrev abU:=@PySem.wpAny_updateSeq
abbrev abV:=@Nat.div_le_self
abbrev abW:=@PySem.SeqAt.EqAt.none_int
abbrev abX:=@PySem.SeqAt.EqAt.bool_int
abbrev abY:=@PySem.SeqAt.EqAt.int_none
abbrev abZ:=@PySem.SeqAt.EqAt.int_bool
abbrev ab0:=@Eq.symm
abbrev ab1:=@Nat.le_succ
abbrev ab3:=@PySem.Code.quiet_builtin
abbrev ab4:=@PySem.tupleKind_room_in1
abbrev ab5:=@PySem.wpAny_standAt
abbrev ab6:=@PySem.wpAny_newList
abbrev ab7:=@PySem.wpAny_attempt
abbrev ab8:=@Nat.le_succ_of_le
abbrev ab9:=@List.ext_getElem?
abbrev ab_:=@PySem.wpAny_dictEntries
abbrev aca:=@List.getElem_inj
abbrev acb:=@if_neg
abbrev aG:=List (List Int)
abbrev ae:=List Int
abbrev aQ:=List Nat
abbrev aq:=List PySem.Str
abbrev ao:=List PySem.Value
abbrev aA:=List PySem.Expr
abbrev aW:=List PySem.Addr
abbrev aZ:=List PySem.Stmt
abbrev az:=List Rat
abbrev aV:=Array PySem.Value
abbrev au:=PySem.W.Frag
abbrev aB:=PySem.Value->PySem.Shared->Prop
abbrev ak:=List (PySem.Addr×PySem.Obj)
abbrev aj:=PySem.Addr->Prop
abbrev aU:=PySem.Str->Option PySem.Value
abbrev aH:=PySem.Program
abbrev aK:=PySem.Around
namespace L2
open PySem PySem.Spec PyProof.Rows
noncomputable abbrev Key:=Sum Int Str
def HS:Key->Value->Bool
 |.inl k,v=>Value.isInt k v
 |.inr x,v=>Value.isStrOf x v
def UX(w:World):Key->Int
 |.inl k=>hashInt k
 |.inr x=>hashStr w x
theorem cx:∀{k:Key} {v:Value},HS k v=true->(∃i t,k=Sum.inl i/\v=Value.int i t)\/(∃x t,k=Sum.inr x/\v=Value.str x t)
 |.inl i,v,h=>by
  obtain⟨t,e⟩:=Value.isInt_shape (k:=i) (v:=v) h;exact .inl ⟨i,t,rfl,e⟩
 |.inr x,v,h=>by
  obtain⟨t,e⟩:=Value.isStrOf_shape (x:=x) (v:=v) h;exact .inr ⟨x,t,rfl,e⟩
theorem KI(a b:Int):decide ((Sum.inl a:Key)=Sum.inl b)=(a==b):=by
 by_cases e:a=b
 ·subst e;simp
 ·have h:¬ (Sum.inl a:Key)=Sum.inl b:=λq=>e (Sum.inl.inj q);rw[decide_eq_false h];exact(beq_eq_false_iff_ne.mpr e).symm
theorem KD(a b:Str):decide ((Sum.inr a:Key)=Sum.inr b)=decide (a=b):=by
 by_cases e:a=b
 ·subst e;simp
 ·have h:¬ (Sum.inr a:Key)=Sum.inr b:=λq=>e (Sum.inr.inj q);rw[decide_eq_false h,decide_eq_false e]
theorem KH(a:Int)(b:Str):decide ((Sum.inl a:Key)=Sum.inr b)=false:=aaI (λq=>nomatch q)
theorem KG(a:Str)(b:Int):decide ((Sum.inr a:Key)=Sum.inl b)=false:=aaI (λq=>nomatch q)
def yd(prog:aH)(w:World):PySem.KeyKind prog w Key where
 is:=HS
 hash:=UX w
 inj:=λv a b ha hb=>by
  rcases cx ha with ⟨i,t,rfl,rfl⟩|⟨x,t,rfl,rfl⟩
  ·rcases cx hb with ⟨j,u,rfl,e⟩|⟨y,u,rfl,e⟩
   ·injection e with e1 _;rw[e1]
   ·exact nomatch e
  ·rcases cx hb with ⟨j,u,rfl,e⟩|⟨y,u,rfl,e⟩
   ·exact nomatch e
   ·injection e with e1 _;rw[e1]
 byValue:=λk v h=>by
  rcases cx h with ⟨i,t,rfl,rfl⟩|⟨x,t,rfl,rfl⟩<;>rfl
 pyHash:=λhv h=>by
  rcases cx hv with ⟨i,t,rfl,rfl⟩|⟨x,t,rfl,rfl⟩
  ·exact wpAny_pyHash_int h
  ·exact wpAny_pyHash_str h
 eqBool:=λhu hv h=>by
  rcases cx hu with ⟨i,t,rfl,rfl⟩|⟨x,t,rfl,rfl⟩
  ·rcases cx hv with ⟨j,u,rfl,rfl⟩|⟨y,u,rfl,rfl⟩
   ·rw[KI]at h;exact wpAny_eqBool_int h
   ·rw[KH]at h;exact SeqAt.EqAt.int_str i t y u _ _ _ _ h
  ·rcases cx hv with ⟨j,u,rfl,rfl⟩|⟨y,u,rfl,rfl⟩
   ·rw[KG]at h;exact SeqAt.EqAt.str_int x t j u _ _ _ _ h
   ·rw[KD]at h;exact wpAny_eqBool_str h
 «strs»:=λk x t v h=>by
  rcases cx h with ⟨i,u,rfl,e⟩|⟨y,u,rfl,e⟩
  ·exact nomatch e
  ·injection e with e1 _
   subst e1;cases v<;>rfl
end L2
namespace L2
open PySem PySem.Spec PyProof.Rows
inductive V where
 |bu|bl (b:Bool)|int (i:Int)|str (x:Str)|WV (b:Array UInt8)|Q8 (b:UInt64)|ref (a:Addr)|ty (n:String)
 deriving DecidableEq
abbrev af:=List V
noncomputable def RelV:V->Value->Prop
 |.bu,u=>u=Value.none
 |.bl b,u=>u=Value.bool b
 |.int i,u=>∃t,u=Value.int i t
 |.str x,u=>∃t,u=Value.str x t
 |.WV b,u=>∃t,u=Value.bytes b t
 |.Q8 b,u=>∃t,u=Value.float b t
 |.ref a,u=>u=Value.ref a
 |.ty n,u=>u=Value.type n
abbrev Vals:af->ao->Prop:=Paired RelV
theorem Vals.length{xs:af}{us:ao}(r:Vals xs us):xs.length=us.length:=Paired.length r
theorem Vals.get:∀{xs:af} {us:ao} {i:Nat} {x:V},Vals xs us->xs[i]?=some x->∃u,us[i]?=some u/\RelV x u
 |_,_,_,_,.nil,e=>by simp at e
 |_,_,0,_,.cons r _,e=>by simp at e;subst e;exact⟨_,rfl,r⟩
 |_,_,i+1,x,.cons _ t,e=>by
  obtain⟨u,h1,h2⟩:=Vals.get (i:=i) (x:=x) t (by simpa using e);exact⟨u,by simpa using h1,h2⟩
theorem Vals.set{x:V}{u:Value}(r:RelV x u):∀{xs:af} {us:ao} (i:Nat),Vals xs us->Vals (xs.set i x) (us.set i u)
 |_,_,_,.nil=>.nil
 |_,_,0,.cons _ t=>.cons r t
 |_,_,i+1,.cons q t=>.cons q (Vals.set r i t)
theorem Vals.append:∀{xs ys:af} {us ws:ao},Vals xs us->Vals ys ws->Vals (xs++ys) (us++ws)
 |_,_,_,_,.nil,s=>s
 |_,_,_,_,.cons r t,s=>.cons r (Vals.append t s)
theorem Vals.take:∀{xs:af} {us:ao} (n:Nat),Vals xs us->Vals (xs.take n) (us.take n)
 |_,_,0,_=>.nil
 |_,_,_+1,.nil=>.nil
 |_,_,n+1,.cons r t=>.cons r (Vals.take n t)
theorem Vals.drop:∀{xs:af} {us:ao} (n:Nat),Vals xs us->Vals (xs.drop n) (us.drop n)
 |_,_,0,r=>r
 |_,_,_+1,.nil=>.nil
 |_,_,n+1,.cons _ t=>Vals.drop n t
def o9:Option V->Option Value->Prop
 |some v,some u=>RelV v u
 |none,none=>True
 |_,_=>False
def KV{κ:Type}:List (κ×V)->List (κ×Value)->Prop:=Paired λ(p:κ×V) (q:κ×Value)=>p.1=q.1/\RelV p.2 q.2
def kV:Key->V
 |.inl i=>.int i
 |.inr x=>.str x
inductive HO where
 |lst (xs:af)
 |tup (xs:af)
 |dK (mD:List (Key×V))|dT (mD:List (List Key×V))
 |set (S:Int->Bool) (n:Nat)
 |ins (C dx:Addr) (fs:List (Str×V))
 |own (x:Addr)
 |xd (fs:List (Str×V))
 |met (f x:Addr)
 |iz (lo hi:Int)
 |hU (o:Obj) (u:HO)
 |EE (ps:aV)
 |ext (φ:Heap->Prop)
noncomputable abbrev Hp:=Addr->Option HO
noncomputable def upd(H:Hp)(a:Addr)(o:HO):Hp:=λb=>if b=a then some o else H b
variable {H:Hp}
theorem bj{a:Addr}{o:HO}:upd H a o a=some o:=by unfold upd;rw[if_pos rfl]
theorem aS{a b:Addr}{o:HO}(h:b≠a):upd H a o b=H b:=by unfold upd;rw[if_neg h]
theorem cg{a b:Addr}{o:HO}(h:H a=some o)(h':H b=none):a≠b:=by
 intro e;subst e;rw[h]at h';cases h'
section
variable (P:aH)(w:World)
def cM(H:Hp)(h:Heap)(a:Addr):HO->Prop
 |.lst xs=>xs.length<=sizeLine/\∃(aN:ao) (n:Nat),Vals xs aN/\h.get? a=some { cls:=.type "list",data:=.seq aN.toArray n }
 |.tup xs=>xs.length<=sizeLine/\∃aN:ao,Vals xs aN/\IsTup h a aN.toArray
 |.dK mD=>mD.length<=sizeLine/\(a==sysModules)=false/\∃vs,KV mD vs/\h.DictOf (yd P w) a vs
 |.dT mD=>mD.length<=sizeLine/\(a==sysModules)=false/\∃xs:List (List Key×Addr×Value),
   Paired (λ(p:List Key×V) (q:List Key×Addr×Value)=>p.1=q.1/\H q.2.1=some (.tup (p.1.map kV))/\RelV p.2 q.2.2) mD xs /\
   ∃o es ep,h.get? a=some o/\o.ExactDict/\o.data=.dict es ep/\es.toList=xs.map (entryOfKey (tupleKind (yd P w)))/\(xs.map (·.1)).Nodup
 |.set S n=>h.SetOf (intKind P w) a S n
 |.ins C dx fs=>H dx=some (.own a)/\fs.length<=1000/\dx≠a/\h.get? a=some (PySem.W.instObj C dx) /\
   ∃mA,h.Ns1 dx mA/\(∀f,o9 (fs.lookup f) (mA f))/\PySem.Within mA (fs.map (·.1))
 |.own _=>∃o,h.get? a=some o
 |.xd fs=>∃mA,h.Ns1 a mA/\∀f,o9 (fs.lookup f) (mA f)
 |.iz lo hi=>∃t u v,h.get? a=some { cls:=.type "range",data:=.fields #[.int lo t,.int hi u,.int 1 v] }
 |.hU o u=>h.get? a=some o/\cM H h a u
 |.EE ps=>h.get? a=some { cls:=.none,data:=.fields ps }
 |.met f x=>h.get? a=some (PySem.W.methodObj (.ref f) (.ref x))
 |.ext φ=>φ h/\(∃o,h.get? a=some o)/\∀h1 h2:Heap,φ h1->(∀o,h1.get? a=some o->h2.get? a=some o)->φ h2
def jb(H:Hp)(h:Heap):Prop:=∀a o,H a=some o->cM P w H h a o
end
section
variable {P:aH}{w:World}{H H':Hp}{h h':Heap}{a:Addr}{o:HO}
theorem cM.lt(x:cM P w H h a o):a<h.objs.size:=by
 cases o with
 |lst xs=>obtain⟨_,_,_,_,e⟩:=x;exact aae e
 |tup xs=>obtain⟨_,_,_,p⟩:=x;exact p.lt
 |dK mD=>obtain⟨_,_,_,_,o,_,_,e,_⟩:=x;exact aae e
 |dT mD=>obtain⟨_,_,_,_,o,_,_,e,_⟩:=x;exact aae e
 |set S n=>obtain⟨o,_,_,_,e,_⟩:=x;exact aae e
 |ins C dx fs=>obtain⟨_,_,_,e,_⟩:=x;exact aae e
 |own y=>obtain⟨_,e⟩:=x;exact aae e
 |xd fs=>obtain⟨_,⟨_,_,_,e,_⟩,_⟩:=x;exact aae e
 |iz lo hi=>obtain⟨_,_,_,e⟩:=x;exact aae e
 |hU ob u=>obtain⟨e,_⟩:=x;exact aae e
 |EE ps=>exact aae (show h.get? a=some _ from x)
 |met f y=>exact aae (show h.get? a=some _ from x)
 |ext φ=>obtain⟨_,⟨_,e⟩,_⟩:=x;exact aae e
theorem Paired.Pl{α β:Type}{F G:α->β->Prop}:∀{l₁:List α} {l₂:List β},Paired F l₁ l₂->(∀a b,F a b->G a b)->Paired G l₁ l₂
 |_,_,.nil,_=>.nil
 |_,_,.cons r t,f=>.cons (f _ _ r) (Paired.Pl t f)
theorem cM.iJ(x:cM P w H h a o)(k:∀b u,(b=a\/H b=some (.own a))->h.get? b=some u->h'.get? b=some u)
  (ho:∀b,H b=some (.own a)->H' b=some (.own a)) (ht:∀b xs,H b=some (.tup xs)->H' b=some (.tup xs)):cM P w H' h' a o:=by
 induction o with
 |lst xs=>obtain⟨z,aN,n,r,e⟩:=x;exact⟨z,aN,n,r,k _ _ (.inl rfl) e⟩
 |tup xs=>obtain⟨z,aN,r,ob,e,c⟩:=x;exact⟨z,aN,r,ob,k _ _ (.inl rfl) e,c⟩
 |dK mD=>obtain⟨z,y,vs,r,ob,es,ep,e,c⟩:=x;exact⟨z,y,vs,r,ob,es,ep,k _ _ (.inl rfl) e,c⟩
 |dT mD =>
  obtain⟨z,y,xs,r,ob,es,ep,e,c⟩:=x;exact⟨z,y,xs,Paired.Pl r λp q z=>⟨z.1,ht _ _ z.2.1,z.2.2⟩,ob,es,ep,k _ _ (.inl rfl) e,c⟩
 |set S n=>obtain⟨ob,es,ep,t,e,c⟩:=x;exact⟨ob,es,ep,t,k _ _ (.inl rfl) e,c⟩
 |ins C dx fs =>
  obtain⟨d,z,ne,e,mA,⟨od,es,ep,e2,c⟩,r⟩:=x;exact⟨ho _ d,z,ne,k _ _ (.inl rfl) e,mA,⟨od,es,ep,k _ _ (.inr d) e2,c⟩,r⟩
 |own y=>obtain⟨ob,e⟩:=x;exact⟨ob,k _ _ (.inl rfl) e⟩
 |xd fs=>obtain⟨mA,⟨od,es,ep,e,c⟩,r⟩:=x;exact⟨mA,⟨od,es,ep,k _ _ (.inl rfl) e,c⟩,r⟩
 |iz lo hi=>obtain⟨t,u,v,e⟩:=x;exact⟨t,u,v,k _ _ (.inl rfl) e⟩
 |hU ob u ih=>obtain⟨e,q⟩:=x;exact⟨k _ _ (.inl rfl) e,ih q⟩
 |EE ps =>
  have e:h.get? a=some { cls:=.none,data:=.fields ps }:=x;show h'.get? a=some { cls:=.none,data:=.fields ps };exact k a _ (.inl rfl) e
 |met f y =>
  have e:h.get? a=some (PySem.W.methodObj (.ref f) (.ref y)):=x;show h'.get? a=some (PySem.W.methodObj (.ref f) (.ref y));exact k a _ (.inl rfl) e
 |ext φ=>obtain⟨p,⟨o,e⟩,st⟩:=x;exact⟨st _ _ p λo q=>k _ _ (.inl rfl) q,⟨o,k _ _ (.inl rfl) e⟩,st⟩
theorem jb.lt(x:jb P w H h)(e:H a=some o):a<h.objs.size:=(x a o e).lt
theorem jb.fresh(x:jb P w H h)(e:h.objs.size<=a):H a=none:=by
 cases q:H a with
 |none=>rfl
 |some u=>exact absurd (aai (x.lt q) e) (aax _)
theorem jb.kept(x:jb P w H h)(k:∀b u,h.get? b=some u->h'.get? b=some u):jb P w H h':=λa o e =>
 (x a o e).iJ (λb u _ q=>k b u q) (λ_ q=>q) λ_ _ q=>q
theorem jb.laid(x:jb P w H h)(k:∀b u,h.get? b=some u->h'.get? b=some u)(hp:h.objs.size<=a)(new:cM P w (upd H a o) h' a o):jb P w (upd H a o) h':=λb u e=>by
 have hn:=x.fresh hp;by_cases hb:b=a
 ·subst hb;rw[bj]at e;cases e;exact new
 ·rw[aS hb]at e;exact(x b u e).iJ (λc v _ q=>k c v q) (λc q=>by rw[aS (cg q hn)];exact q) λc xs q=>by rw[aS (cg q hn)];exact q
end
def Rd(H:Hp)(a:Addr)(u:HO):Prop:=H a=some u\/∃o,H a=some (.hU o u)
theorem Rd.ok{P:aH}{w:World}{h:Heap}{a:Addr}{u:HO}(r:Rd H a u)(x:jb P w H h):cM P w H h a u:=by
 rcases r with r|⟨o,r⟩
 ·exact x a u r
 ·obtain⟨_,q⟩:=x a _ r;exact q
noncomputable def S_:Option HO->Prop
 |some (.lst _)=>True
 |some (.dK _)=>True
 |some (.dT _)=>True
 |some (.set _ _)=>True
 |some (.ins _ _ _)=>True
 |some (.ext _)=>True
 |_=>False
section
variable {P:aH}{w:World}{H:Hp}{h h':Heap}{x e:Addr}{o':HO}
theorem jb.write(ok:jb P w H h)(mu:S_ (H x))(he:e=x\/H e=some (.own x))(k:∀b u,b≠e->h.get? b=some u->h'.get? b=some u)(Nl:∃u,h'.get? e=some u)
  (new:cM P w (upd H x o') h' x o'):jb P w (upd H x o') h':=λb u q=>by
 have Pb:∀c y,H c=some (.own y)->c≠x:=λc y r z=>by subst z;rw[r]at mu;exact mu
 have UM:∀c xs,H c=some (.tup xs)->c≠x:=λc xs r z=>by subst z;rw[r]at mu;exact mu
 by_cases hb:b=x
 ·subst hb;rw[bj]at q;cases q;exact new
 ·rw[aS hb]at q;by_cases Ln:b=e
  ·have q':H b=some (.own x):=by
    rcases he with z|z
    ·exact absurd (Ln.trans z) hb
    ·rw[Ln];exact z
   rw[q]at q';cases q';obtain⟨v,hv⟩:=Nl;exact⟨v,by rw[Ln];exact hv⟩
  ·refine(ok b u q).iJ (λc v hc r=>k c v ?_ r) (λc r=>by rw[aS (Pb c b r)];exact r) λc xs r=>by rw[aS (UM c xs r)];exact r
   rcases hc with rfl|hc
   ·exact Ln
   ·rintro rfl;rcases he with z|z
    ·exact Pb c b hc z
    ·rw[hc]at z;cases z;exact hb rfl
end
structure Un(fs ex:aW)(H H':Hp)(h h':Heap):Prop where
 keep:∀b o,h.get? b=some o->H b=none->b∉fs->b∉ex->h'.get? b=some o
 slot:∀b o,h.get? b=some o->H b=none->b∈fs->b∉ex->∃sl,h'.get? b=some { o with slots:=sl }
 free:∀b o,h.get? b=some o->H b=none->b∉ex->H' b=none
 there:∀b o,h.get? b=some o->b∉ex->∃o',h'.get? b=some o'
 lq:∀b xs,H b=some (.tup xs)->H' b=some (.tup xs)
 kR:∀b o u,H b=some (.hU o u)->H' b=some (.hU o u)
 lr:∀b ps,H b=some (.EE ps)->∃more,H' b=some (.EE (ps++more))
section
variable {fs fs' ex Ws:aW}{H H1 H2:Hp}{h h1 h2 h':Heap}{a x e:Addr}{o:HO}
theorem Un.any(u:Un fs ex H H1 h h1){b:Addr}{ob:Obj}(q:h.get? b=some ob)(n:H b=none)(hx:b∉ex):∃sl,h1.get? b=some { ob with slots:=sl }:=by
 by_cases hb:b∈fs
 ·exact u.slot b ob q n hb hx
 ·exact⟨ob.slots,u.keep b ob q n hb hx⟩
theorem Un.kept(k:∀b u,h.get? b=some u->h'.get? b=some u):Un fs ex H H h h' :=
 ⟨λb ob q _ _ _=>k b ob q,λb ob q _ _ _=>⟨ob.slots,k b ob q⟩,λ_ _ _ n _=>n,λb ob q _=>⟨ob,k b ob q⟩,λ_ _ q=>q,λ_ _ _ q=>q,λ_ ps q=>⟨#[],by rw[q];simp⟩⟩
theorem Un.refl:Un fs ex H H h h:=Un.kept λ_ _ q=>q
theorem Un.laid(k:∀b u,h.get? b=some u->h'.get? b=some u)(hp:h.objs.size<=a)(hn:H a=none):Un fs ex H (upd H a o) h h' where
 keep:=λb u q _ _ _=>k b u q
 slot:=λb u q _ _ _=>⟨u.slots,k b u q⟩
 free:=λb u q n _=>by rw[aS (Nat.ne_of_lt (Nat.lt_of_lt_of_le (Heap.lt_size q) hp))];exact n
 there:=λb u q _=>⟨u,k b u q⟩
 lq:=λb xs q=>by rw[aS (cg q hn)];exact q
 kR:=λb u xs q=>by rw[aS (cg q hn)];exact q
 lr:=λb ps q=>⟨#[],by rw[aS (cg q hn),q];simp⟩
theorem Un.write(mu:S_ (H x))(he:e=x\/H e=some (.own x))(k:∀b u,b≠e->h.get? b=some u->h'.get? b=some u)(Nl:∃u,h'.get? e=some u):Un fs ex H (upd H x o) h h':=by
 have hx:∀b,H b=none->b≠x:=λb n z=>by subst z;rw[n]at mu;exact mu
 have hb:∀b,H b=none->b≠e:=λb n z=>by
  subst z;rcases he with r|r
  ·exact hx b n r
  ·rw[n]at r;cases r
 have hm:∀b u,H b=some u->¬ S_ (some u)->b≠x:=λb u q nm z=>by subst z;rw[q]at mu;exact nm mu
 refine⟨λb u q n _ _=>k b u (hb b n) q,λb u q n _ _=>⟨u.slots,k b u (hb b n) q⟩,λb u q n _=>by rw[aS (hx b n)];exact n,λb u q _=>?_,
  λb xs q=>by rw[aS (hm b _ q λz=>z)];exact q,λb u xs q=>by rw[aS (hm b _ q λz=>z)];exact q,λb ps q=>⟨#[],by rw[aS (hm b _ q λz=>z),q];simp⟩⟩
 by_cases Ln:b=e
 ·subst Ln;exact Nl
 ·exact⟨u,k b u Ln q⟩
end
noncomputable def RR(h:Heap)(H:Hp):aW:=(List.range h.objs.size).filter λa=>(H a).isSome
def rP(h:Heap)(H:Hp):Heap:=PySem.W.hideAll h (RR h H)
theorem z5(h:Heap)(H:Hp):(rP h H).objs.size=h.objs.size:=PySem.W.hideAll_size _ _
variable {o:Obj}
theorem CV{h:Heap}{b:Addr}(e:h.get? b=some o)(n:H b=none):(rP h H).get? b=some o :=
 PySem.W.hideAll_get _ e λhm=>by
  have q:(H b).isSome=true:=(List.mem_filter.mp hm).2;rw[n]at q;simp at q
theorem FJ{h:Heap}{b:Addr}(e:(rP h H).get? b=some o):h.get? b=some o/\H b=none:=by
 have e':h.get? b=some o:=PySem.W.of_hideAll (RR h H) e;refine⟨e',?_⟩;cases q:H b with
 |none=>rfl
 |some x =>
  have hm:b∈RR h H:=List.mem_filter.mpr ⟨List.mem_range.mpr (aae e'),by simp[q]⟩;have z:(rP h H).get? b=none:=PySem.W.hideAll_none (RR h H) hm;rw[z]at e;cases e
noncomputable def Hf(g h:Heap)(L:Addr):ak:=(List.range h.objs.size).filterMap λa=>if a=L\/(g.get? a).isSome=true then none else(h.get? a).map λo=>(a,o)
def rest(g h:Heap)(L d:Addr):ak:=(Hf g h L).filter λp=>decide (p.1≠d)
end L2
namespace L2
open PySem PySem.Spec PyProof.Rows
structure Mod(K:au)(mg:aU)(base:Heap):Prop where
 Sn:K.In base
 glob:base.Ns mainGlobals mg
 blt:∃mb,base.Ns builtinsNs mb/\∀x:Str,x ≠ "__name__" -> mb x=bootBuiltins x
 nolimit:base.NoLimit
structure Cx where
 prog:aH
 w:World
 K:au
 mg:aU
 base:Heap
 A:aK
 N:aq
 s₀:Shared
 H₀:Hp
 env:Env
 outer:List Env
 stack:List Env
 ex:aW
 fn:Str->Bool
 calm:Bool
 pn:ak
 xe:aB
noncomputable def lJ(l:List Env):aW:=l.filterMap (·.frame)
abbrev Cx.fs(X:Cx):aW:=lJ X.outer
def IL(sc:Scope)(x:Str):Prop:=sc.names.lookup x=some .local\/sc.names.lookup x=some .cell\/sc.names.lookup x=some .free
def Loc(sc:Scope)(x:Str):Prop:=sc.names.lookup x=some .local\/sc.names.lookup x=some .cell
noncomputable def Look(env:Env)(h:Heap)(m:aU)(x:Str)(u:Value):Prop :=
 (env.kindOf x=some .local/\m x=some u)\/((env.kindOf x=some .cell\/env.kindOf x=some .free)/\∃c,env.cells.lookup x=some c/\h.IsCell c (some u))
structure Cx.Ok(X:Cx):Prop where
 mod:Mod X.K X.mg X.base
 kind:X.env.scope.kind=.function
 glob:X.env.globals=mainGlobals
 blt:X.env.builtins=builtinsNs
 above:X.s₀.heap.objs.size<=X.env.locals
 inj:∀x y c,X.env.cells.lookup x=some c->X.env.cells.lookup y=some c->x=y
 has:∀x,(X.env.kindOf x=some .cell\/X.env.kindOf x=some .free)->∃c,X.env.cells.lookup x=some c
 IC:∀x c,X.fn x=true->X.env.cells.lookup x=some c->X.s₀.heap.objs.size<=c
 hd:X.calm=true->X.A.handled=none
 frames:X.A.frames=some X.stack
 Jo:X.stack=X.outer\/(X.stack=X.env::X.outer/\X.env.frame=some X.env.locals)
 Ra:∀b∈X.ex,b≠X.env.locals/\∀x c,X.env.cells.lookup x=some c->c≠b
 bs:∀b o,X.base.get? b=some o->X.s₀.heap.get? b=some o/\X.H₀ b=none
 DV:X.base.objs.size<=X.s₀.heap.objs.size
 ui:∀b o,X.base.get? b=some o->b∉X.ex
 wK:∀b∈X.ex,b∉X.fs
 jO:X.s₀.heap.FunFrames X.base X.outer
 AH:∀b∈X.fs,X.H₀ b=none
structure Inv(X:Cx)(pins:ak)(σ:List (Option V))(H:Hp)(s:Shared):Prop where
 ok:X.Ok
 os:s.os=X.s₀.os
 bare:AllBare s.gens
 base:Un X.fs X.ex X.H₀ H X.s₀.heap s.heap
 loc:∃m,s.heap.Ns X.env.locals m/\∀(i:Nat) (x:Str) (v:V),X.N[i]?=some x->σ[i]?=some (some v)->IL X.env.scope x->∃u,RelV v u/\Look X.env s.heap m x u
 cell:∀x c,X.env.cells.lookup x=some c->∃v,s.heap.IsCell c v
 free:H X.env.locals=none
 e_:∀x c,X.env.cells.lookup x=some c->H c=none
 pin:∀p∈X.pn++pins,s.heap.get? p.1=some p.2/\H p.1=none/\p.1≠X.env.locals/\p.1∉X.fs/\∀v,p.2.data≠.cell v
 cm:jb X.prog X.w H s.heap
 len:σ.length=X.N.length
variable {A:aK}{E:Value->Shared->Prop}{Q:Unit->Shared->Prop}{ch:aW}{t':Nat}
section
variable {X:Cx}{pins:ak}{σ:List (Option V)}{H H':Hp}{s:Shared}{h':Heap}
theorem Cx.Ok.UN(ok:X.Ok){b:Addr}{o:Obj}(e:X.base.get? b=some o):b∉X.fs:=λhb=>by
 have:=(ok.jO.mem hb).1;rw[e]at this;cases this
theorem Inv.bs(I:Inv X pins σ H s):∀b o,X.base.get? b=some o->s.heap.get? b=some o/\H b=none:=λb o e =>
 ⟨I.base.keep b o (I.ok.bs b o e).1 (I.ok.bs b o e).2 (I.ok.UN e) (I.ok.ui b o e),I.base.free b o (I.ok.bs b o e).1 (I.ok.bs b o e).2 (I.ok.ui b o e)⟩
theorem Inv.bk(I:Inv X pins σ H s):∀b o,X.base.get? b=some o->s.heap.get? b=some o:=λb o e=>(I.bs b o e).1
theorem Inv.mod(I:Inv X pins σ H s):Mod X.K X.mg X.base:=I.ok.mod
theorem Inv.wk(I:Inv X pins σ H s):X.K.In s.heap:=I.ok.mod.Sn.keeps I.bk
theorem Inv.lt(I:Inv X pins σ H s):X.env.locals<s.heap.objs.size:=let ⟨_,hn,_⟩:=I.loc;hn.lt
theorem Inv.sz(I:Inv X pins σ H s):X.s₀.heap.objs.size<=s.heap.objs.size:=aaB I.ok.above (Nat.le_of_lt I.lt)
theorem Inv.Kl(I:Inv X pins σ H s){a:Addr}(h:s.heap.objs.size<=a):a∉X.fs:=λhb=>by
 obtain⟨_,o,ho,_⟩:=I.ok.jO.mem hb;exact absurd (aai (aae ho) (aaB I.sz h)) (aax _)
theorem Inv.DK(I:Inv X pins σ H s):∀x c,X.env.cells.lookup x=some c->c≠X.env.locals:=λx c e z=>by
 obtain⟨v,o,ho,hd⟩:=I.cell x c e;obtain⟨m,⟨o',es,ep,gk,AG,_⟩,_⟩:=I.loc;rw[z,gk]at ho;cases ho;rw[AG]at hd;cases hd
theorem Inv.jO(I:Inv X pins σ H s):s.heap.FunFrames X.base X.outer:=by
 have all:∀(l:List Env),(∀b∈lJ l,b∈X.fs)->X.s₀.heap.FunFrames X.base l->s.heap.FunFrames X.base l:=by
  intro l;induction l with
  |nil=>intro _ _;trivial
  |cons env r ih =>
   intro hs hl;obtain⟨hk,⟨L,o,hf,hn,ho,hd⟩,hr⟩:=hl;have hL:L∈X.fs:=hs L (by unfold lJ;rw[List.filterMap_cons,hf];exact aaf);obtain⟨sl,e⟩:=I.base.slot L o ho (I.ok.AH L hL) hL λz=>I.ok.wK L z hL;exact⟨hk,⟨L,_,hf,hn,e,hd⟩,ih (λb hb=>hs b (by unfold lJ;rw[List.filterMap_cons,hf];exact aad _ hb)) hr⟩
 exact all X.outer (λ_ hb=>hb) I.ok.jO
theorem Inv.stack(I:Inv X pins σ H s):s.heap.FunFrames X.base X.stack:=by
 rcases I.ok.Jo with e|⟨e,hf⟩
 ·rw[e];exact I.jO
 ·rw[e];obtain⟨m,hn,_⟩:=I.loc;refine .cons (by rw[I.ok.kind];decide) hf hn ?_ I.jO;exact Heap.get?_none_of_le (aaB I.ok.DV I.ok.above)
theorem Inv.jJ(I:Inv X pins σ H s):∀b∈lJ X.stack,b∈X.env.locals::X.fs:=λb hb=>by
 rcases I.ok.Jo with e|⟨e,hf⟩
 ·rw[e]at hb;exact aad _ hb
 ·rw[e]at hb;unfold lJ at hb;rw[List.filterMap_cons,hf]at hb;exact hb
theorem Inv.gY(I:Inv X pins σ H s):∀b∈lJ X.stack,H b=none:=λb hb=>by
 rcases List.mem_cons.mp (I.jJ b hb)with e|hb
 ·rw[e];exact I.free
 ·obtain⟨_,o,ho,_⟩:=I.ok.jO.mem hb;exact I.base.free b o ho (I.ok.AH b hb) λz=>I.ok.wK b z hb
theorem Inv.step{g':Array GenState}{d':Drawn}(I:Inv X pins σ H s)
  (Ee:∀b∈ch,(b∈X.ex\/X.s₀.heap.objs.size<=b)/\b≠X.env.locals/\(∀x c,X.env.cells.lookup x=some c->c≠b)/\∀p∈X.pn++pins,p.1≠b)
  (keep:∀b o,b≠X.env.locals->b∉X.fs->b∉ch->s.heap.get? b=some o->H b=none->h'.get? b=some o)
  (slot:∀b o,b≠X.env.locals->b∈X.fs->b∉ch->s.heap.get? b=some o->H b=none->∃sl,h'.get? b=some { o with slots:=sl }) (free:∀b o,b∉ch->s.heap.get? b=some o->H b=none->H' b=none)
  (there:∀b o,b∉ch->s.heap.get? b=some o->∃o',h'.get? b=some o')
  (lq:∀b xs,H b=some (.tup xs)->H' b=some (.tup xs)) (kR:∀b o u,H b=some (.hU o u)->H' b=some (.hU o u)) (lr:∀b ps,H b=some (.EE ps)->∃more,H' b=some (.EE (ps++more)))
  (ns:∀m,s.heap.Ns X.env.locals m->h'.Ns X.env.locals m) (cm:jb X.prog X.w H' h') (hg:AllBare g') :
  Inv X pins σ H' { s with heap:=h',gens:=g',drawn:=d',toks:=t' }:=by
 have Xy:∀b o,X.s₀.heap.get? b=some o->b≠X.env.locals:=λb o e=>aak (aai (aae e) I.ok.above);have HQ:∀b o,X.s₀.heap.get? b=some o->b∉X.ex->b∉ch:=λb o e hx hb=>by
  rcases(Ee b hb).1 with z|z
  ·exact hx z
  ·exact absurd (aai (aae e) z) (aax _)
 have cellK:∀x c,X.env.cells.lookup x=some c->∀v,s.heap.IsCell c v->h'.IsCell c v:=λx c e v bW=>by
  obtain⟨o,ho,hd⟩:=bW;have Pg:c∉ch:=λz=>(Ee c z).2.2.1 x c e rfl;by_cases hc:c∈X.fs
  ·obtain⟨sl,q⟩:=slot c o (I.DK x c e) hc Pg ho (I.e_ x c e);exact⟨_,q,hd⟩
  ·exact⟨o,keep c o (I.DK x c e) hc Pg ho (I.e_ x c e),hd⟩
 refine⟨I.ok,I.os,hg,⟨λb o e n hb hx=>?_,λb o e n hb hx=>?_,λb o e n hx=>?_,λb o e hx=>?_,λb xs e=>lq b xs (I.base.lq b xs e),λb o xs e=>kR b o xs (I.base.kR b o xs e),λb ps e=>?_⟩,?_,λx c e=>?_,?_,λx c e=>?_,λp hp=>?_,cm,I.len⟩
 ·exact keep b o (Xy b o e) hb (HQ b o e hx) (I.base.keep b o e n hb hx) (I.base.free b o e n hx)
 ·obtain⟨sl,e1⟩:=I.base.slot b o e n hb hx;obtain⟨Uc,e2⟩:=slot b _ (Xy b o e) hb (HQ b o e hx) e1 (I.base.free b o e n hx);exact⟨Uc,e2⟩
 ·obtain⟨o',e1⟩:=I.base.there b o e hx;exact free b o' (HQ b o e hx) e1 (I.base.free b o e n hx)
 ·obtain⟨o',e1⟩:=I.base.there b o e hx;exact there b o' (HQ b o e hx) e1
 ·obtain⟨m1,e1⟩:=I.base.lr b ps e;obtain⟨m2,e2⟩:=lr b _ e1;exact⟨m1++m2,by rw[e2,Array.append_assoc]⟩
 ·obtain⟨m,hn,hl⟩:=I.loc;refine⟨m,ns m hn,λi x v e1 e2 e3=>?_⟩;obtain⟨u,r,l⟩:=hl i x v e1 e2 e3;refine⟨u,r,?_⟩;rcases l with l|⟨k,c,e,z⟩
  ·exact .inl l
  ·exact .inr ⟨k,c,e,cellK x c e _ z⟩
 ·obtain⟨v,z⟩:=I.cell x c e;exact⟨v,cellK x c e v z⟩
 ·obtain⟨m,⟨o,_,_,ho,_⟩,_⟩:=I.loc;exact free _ o (λz=>(Ee _ z).2.1 rfl) ho I.free
 ·obtain⟨v,o,ho,hd⟩:=I.cell x c e;exact free c o (λz=>(Ee c z).2.2.1 x c e rfl) ho (I.e_ x c e)
 ·obtain⟨e,n,ne,nf,d⟩:=I.pin p hp;have Pg:p.1∉ch:=λz=>(Ee p.1 z).2.2.2 p hp rfl;exact⟨keep p.1 p.2 ne nf Pg e n,free p.1 p.2 Pg e n,ne,nf,d⟩
theorem Inv.un(I:Inv X pins σ H s)(u:Un X.fs [] H H' s.heap h')(cm:jb X.prog X.w H' h'):Inv X pins σ H' { s with heap:=h',toks:=t' }:=by
 obtain⟨m,⟨o,es,ep,ho,r⟩,_⟩:=id I.loc;obtain⟨sl,hL⟩:=u.any ho I.free (by simp);exact I.step (g':=s.gens) (d':=s.drawn) (ch:=[]) (λ_ z=>nomatch z) (λb o _ hb _ e n=>u.keep b o e n hb (by simp)) (λb o _ hb _ e n=>u.slot b o e n hb (by simp)) (λb o _ e n=>u.free b o e n (by simp)) (λb o _ e=>u.there b o e (by simp)) u.lq u.kR u.lr (λm' hm=>by
  obtain⟨o',Iq,yH,gk,r'⟩:=hm;rw[ho]at gk;cases gk;exact⟨_,Iq,yH,hL,r'⟩) cm I.bare
theorem Inv.call{g':Array GenState}{d':Drawn}(I:Inv X pins σ H s)(u:Un (lJ X.stack) ch H H' s.heap h')(cm:jb X.prog X.w H' h')(hg:AllBare g')
  (Ee:∀b∈ch,(b∈X.ex\/X.s₀.heap.objs.size<=b)/\b≠X.env.locals/\(∀x c,X.env.cells.lookup x=some c->c≠b)/\∀p∈X.pn++pins,p.1≠b) :
  Inv X pins σ H' { s with heap:=h',gens:=g',drawn:=d',toks:=t' }:=by
 obtain⟨m,⟨o,es,ep,ho,r⟩,_⟩:=id I.loc;obtain⟨sl,hL⟩:=u.any ho I.free λz=>(Ee _ z).2.1 rfl;exact I.step (ch:=ch) Ee (λb o hL hb hc e n=>u.keep b o e n (λz=>(List.mem_cons.mp (I.jJ b z)).elim hL hb) hc) (λb o _ _ hc e n=>u.any e n hc) (λb o hc e n=>u.free b o e n hc) (λb o hc e=>u.there b o e hc) u.lq u.kR u.lr (λm' hm=>by
  obtain⟨o',Iq,yH,gk,r'⟩:=hm;rw[ho]at gk;cases gk;exact⟨_,Iq,yH,hL,r'⟩) cm hg
theorem Inv.turned{it:Addr}(I:Inv X pins σ H s)(k:∀b o,b≠it->s.heap.get? b=some o->h'.get? b=some o)(hn:H it=none)(hL:it≠X.env.locals)
  (h1:it∈X.ex\/X.s₀.heap.objs.size<=it) (h2:∀x c,X.env.cells.lookup x=some c->c≠it) (h3:∀p∈X.pn++pins,p.1≠it):Inv X pins σ H { s with heap:=h',toks:=t' }:=by
 have HN:∀b u,H b=some u->b≠it:=λb u e z=>by rw[z,hn]at e;cases e
 refine I.step (g':=s.gens) (d':=s.drawn) (ch:=[it]) (λb hb=>?_) (λb o _ _ hc e _=>k b o (λz=>hc (by simp[z])) e) (λb o _ _ hc e _=>⟨o.slots,k b o (λz=>hc (by simp[z])) e⟩) (λ_ _ _ _ n=>n)
  (λb o hc e=>⟨o,k b o (λz=>hc (by simp[z])) e⟩) (λ_ _ e=>e) (λ_ _ _ e=>e) (λb ps e=>⟨#[],by rw[e];simp⟩) (λm hm=>?_) (λb u e=>?_) I.bare
 ·have e:b=it:=by simpa using hb
  subst e;exact⟨h1,hL,h2,h3⟩
 ·obtain⟨o,es,ep,ho,r⟩:=hm;exact⟨o,es,ep,k _ o (abw hL) ho,r⟩
 ·refine(I.cm b u e).iJ (λc v hc q=>k c v ?_ q) (λ_ q=>q) λ_ _ q=>q;rcases hc with z|z
  ·rw[z];exact HN b u e
  ·exact HN c _ z
theorem Inv.tok(I:Inv X pins σ H s)(t:Nat):Inv X pins σ H { s with toks:=t }:=I.un (h':=s.heap) (t':=t) Un.refl I.cm
theorem Inv.kept{t':Nat}(I:Inv X pins σ H s)(k:∀b u,s.heap.get? b=some u->h'.get? b=some u):Inv X pins σ H { s with heap:=h',toks:=t' }:=I.un (Un.kept k) (I.cm.kept k)
theorem Inv.laid{a:Addr}{o:HO}{t':Nat}(I:Inv X pins σ H s)(k:∀b u,s.heap.get? b=some u->h'.get? b=some u)(hp:s.heap.objs.size<=a)(new:cM X.prog X.w (upd H a o) h' a o):
  Inv X pins σ (upd H a o) { s with heap:=h',toks:=t' }:=I.un (Un.laid k hp (I.cm.fresh hp)) (I.cm.laid k hp new)
theorem Inv.write{x e:Addr}{o:HO}{t':Nat}(I:Inv X pins σ H s)(mu:S_ (H x))(he:e=x\/H e=some (.own x))(k:∀b u,b≠e->s.heap.get? b=some u->h'.get? b=some u)(Nl:∃u,h'.get? e=some u)
  (new:cM X.prog X.w (upd H x o) h' x o):Inv X pins σ (upd H x o) { s with heap:=h',toks:=t' }:=I.un (Un.write mu he k Nl) (I.cm.write mu he k Nl new)
theorem Inv.jm{ua:ak}(I:Inv X pins σ H s)(h:∀p∈ua,s.heap.get? p.1=some p.2/\H p.1=none/\p.1≠X.env.locals/\p.1∉X.fs/\∀v,p.2.data≠.cell v):Inv X ua σ H s :=
 ⟨I.ok,I.os,I.bare,I.base,I.loc,I.cell,I.free,I.e_,λp hp=>(List.mem_append.mp hp).elim (λz=>I.pin p (aay _ z)) (h p),I.cm,I.len⟩
theorem uj{N:aq}(hN:N.Nodup){i j:Nat}{x:Str}(a:N[i]?=some x)(b:N[j]?=some x):i=j:=by
 obtain⟨h1,e1⟩:=List.getElem?_eq_some_iff.mp a;obtain⟨h2,e2⟩:=List.getElem?_eq_some_iff.mp b;exact(aca hN).mp (e1.trans e2.symm)
theorem zp{M:Model}{i:Nat}{x:Str}{v:V}{u:Value}(I:Inv X pins σ H s)(hN:X.N.Nodup)(hi:X.N[i]?=some x)(hx:Loc X.env.scope x)(r:RelV v u)
  (h:∀s',Inv X pins (σ.set i (some v)) H s'->(∃a,Heap.SameBut a s.heap s'.heap/\(a=X.env.locals\/X.env.cells.lookup x=some a))->Q () s') (hf:X.fn x=true\/X.env.scope.names.lookup x=some .local:=by first|exact .inl rfl|exact .inr rfl|assumption):wpAny M A (storeName X.env x u) Q E s:=by
 obtain⟨m,hn,hl⟩:=id I.loc;have wz:(X.env.scope.kind==.class||(X.env.scope.kind==.module&&X.env.locals != X.env.globals))=false:=by rw[I.ok.kind];rfl
 have Qt:i<σ.length:=by rw[I.len];exact(List.getElem?_eq_some_iff.mp hi).1
 have DK:=I.DK;have tracked:∀{a:Addr} {h':Heap},(∃o,s.heap.get? a=some o/\H a=none)->Heap.SameBut a s.heap h'->jb X.prog X.w H h':=λ{a h'} ha hs b ob e=>by
  obtain⟨_,_,Ic⟩:=ha;refine(I.cm b ob e).iJ (λc w' hc q=>(hs.2 c ?_).trans q) (λ_ q=>q) λ_ _ q=>q;rintro rfl;rcases hc with rfl|hc
  ·rw[Ic]at e;cases e
  ·rw[Ic]at hc;cases hc
 rcases hx with hk|hk
 ·refine wpAny_storeName_local hk hn (λh' sW hs=>?_) wz;obtain⟨oL,_,_,Qm,_⟩:=id hn;refine h _ ⟨I.ok,I.os,I.bare,⟨λb o e n hb hx=>?_,λb o e n hb hx=>?_,I.base.free,λb o e hx=>?_,I.base.lq,I.base.kR,I.base.lr⟩,⟨_,sW,λj y v' e1 e2 e3=>?_⟩,λy c e=>?_,I.free,I.e_,λp hp=>?_,tracked ⟨oL,Qm,I.free⟩ hs,by simpa using I.len⟩ ⟨_,hs,.inl rfl⟩
  ·exact(hs.2 b (aak (aai (aae e) I.ok.above))).trans (I.base.keep b o e n hb hx)
  ·obtain⟨sl,e1⟩:=I.base.slot b o e n hb hx;exact⟨sl,(hs.2 b (aak (aai (aae e) I.ok.above))).trans e1⟩
  ·obtain⟨o',e1⟩:=I.base.there b o e hx;exact⟨o',(hs.2 b (aak (aai (aae e) I.ok.above))).trans e1⟩
  ·by_cases hj:j=i
   ·subst hj;rw[hi]at e1;cases e1;rw[List.getElem?_set_self Qt]at e2;cases e2;exact⟨u,r,.inl ⟨hk,by simp⟩⟩
   ·rw[List.getElem?_set_ne (Ne.symm hj)]at e2;obtain⟨u',r',q⟩:=hl j y v' e1 e2 e3;refine⟨u',r',?_⟩;rcases q with ⟨k,e⟩|⟨k,c,e,z⟩
    ·refine .inl ⟨k,?_⟩;have:y≠x:=λe=>hj (uj hN e1 (e▸hi));simp[this,e]
    ·exact .inr ⟨k,c,e,z.sameBut hs (DK y c e)⟩
  ·obtain⟨w',z⟩:=I.cell y c e;exact⟨w',z.sameBut hs (DK y c e)⟩
  ·obtain⟨e,n,ne,nf,d⟩:=I.pin p hp;exact⟨(hs.2 p.1 ne).trans e,n,ne,nf,d⟩
 ·have vv:X.fn x=true:=by
   rcases hf with z|z
   ·exact z
   ·rw[z]at hk;cases hk
  obtain⟨c,hc⟩:=I.ok.has x (.inl hk);obtain⟨w',z⟩:=I.cell x c hc;refine wpAny_storeName_cell I.ok.kind hk hc z (λh' CW hs=>?_);obtain⟨oc,X7,VA⟩:=id z;refine h { s with heap:=h' } ⟨I.ok,I.os,I.bare,⟨λb o e n hb hx=>?_,λb o e n hb hx=>?_,I.base.free,λb o e hx=>?_,I.base.lq,I.base.kR,I.base.lr⟩,⟨m,hn.sameBut hs (abw (DK x c hc)),λj y v' e1 e2 e3=>?_⟩,λy c' e=>?_,I.free,I.e_,λp hp=>?_,tracked ⟨oc,X7,I.e_ x c hc⟩ hs,by simpa using I.len⟩ ⟨c,hs,.inr hc⟩
  ·exact(hs.2 b (aak (aai (aae e) (I.ok.IC x c vv hc)))).trans (I.base.keep b o e n hb hx)
  ·obtain⟨sl,e1⟩:=I.base.slot b o e n hb hx;exact⟨sl,(hs.2 b (aak (aai (aae e) (I.ok.IC x c vv hc)))).trans e1⟩
  ·obtain⟨o',e1⟩:=I.base.there b o e hx;exact⟨o',(hs.2 b (aak (aai (aae e) (I.ok.IC x c vv hc)))).trans e1⟩
  ·by_cases hj:j=i
   ·subst hj;rw[hi]at e1;cases e1;rw[List.getElem?_set_self Qt]at e2;cases e2;exact⟨u,r,.inr ⟨.inl hk,c,hc,CW⟩⟩
   ·rw[List.getElem?_set_ne (Ne.symm hj)]at e2;obtain⟨u',r',q⟩:=hl j y v' e1 e2 e3;refine⟨u',r',?_⟩;rcases q with q|⟨k,c',e,z'⟩
    ·exact .inl q
    ·refine .inr ⟨k,c',e,z'.sameBut hs ?_⟩;rintro rfl;exact hj (uj hN e1 (I.ok.inj _ _ _ e hc▸hi))
  ·by_cases Yi:c'=c
   ·subst Yi;exact⟨_,CW⟩
   ·obtain⟨w2,z2⟩:=I.cell y c' e;exact⟨w2,z2.sameBut hs Yi⟩
  ·obtain⟨e,n,ne,nf,d⟩:=I.pin p hp;refine⟨(hs.2 p.1 ?_).trans e,n,ne,nf,d⟩;intro q;rw[q,X7]at e;have q':oc=p.2:=aap e;exact d w' (by rw[<- q'];exact VA)
theorem fI{M:Model}{i:Nat}{x:Str}{v:V}{u:Value}(I:Inv X pins σ H s)(hN:X.N.Nodup)(hi:X.N[i]?=some x)(hx:Loc X.env.scope x)(r:RelV v u)
  (h:∀s',Inv X pins (σ.set i (some v)) H s'->Q () s') (hf:X.fn x=true\/X.env.scope.names.lookup x=some .local:=by first|exact .inl rfl|exact .inr rfl|assumption):wpAny M A (storeName X.env x u) Q E s :=
 zp I hN hi hx r (λs' I' _=>h s' I') hf
theorem Inv.qH{s':Shared}(I:Inv X pins σ H s)(ho:s'.os=s.os)(u:Un (lJ X.stack) ch H H' s.heap s'.heap)(cm:jb X.prog X.w H' s'.heap)(hg:AllBare s'.gens)
  (Ee:∀b∈ch,(b∈X.ex\/X.s₀.heap.objs.size<=b)/\b≠X.env.locals/\(∀x c,X.env.cells.lookup x=some c->c≠b)/\∀p∈X.pn++pins,p.1≠b):Inv X pins σ H' s':=by
 obtain⟨h',g',d',t',o'⟩:=s';have e:o'=s.os:=ho;subst e;exact I.call (g':=g') (t':=t') (d':=d') u cm hg Ee
end
noncomputable abbrev XK:=Value->Option Addr->Hp->Prop
noncomputable abbrev St:=List (Option V)
noncomputable abbrev VK:=V->Hp->Prop
noncomputable abbrev TE:=St->Hp->VK->Prop
noncomputable abbrev TT:=St->Hp->(Bool->Hp->Prop)->Prop
noncomputable abbrev TA:=St->Hp->(af->Hp->Prop)->Prop
structure Ends where
 nx:St->Hp->Prop
 rt:VK
 bk:St->Hp->Prop:=λ_ _=>False
 ct:St->Hp->Prop:=λ_ _=>False
noncomputable abbrev TS:=Ends->St->Hp->Prop
def EP(X:Cx)(pins:ak)(σ:St)(Q:VK)(u:Value)(s':Shared):Prop:=∃v H',Inv X pins σ H' s'/\RelV v u/\Q v H'
def TP(X:Cx)(pins:ak)(σ:St)(Q:Bool->Hp->Prop)(b:Bool)(s':Shared):Prop:=∃H',Inv X pins σ H' s'/\Q b H'
def AP(X:Cx)(pins:ak)(σ:St)(Q:af->Hp->Prop)(us:ao)(s':Shared):Prop:=∃vs H',Inv X pins σ H' s'/\Vals vs us/\Q vs H'
def SP(X:Cx)(pins:ak)(D:Ends)(f:Flow)(s':Shared):Prop :=
 match f with
 |.next=>∃σ' H',Inv X pins σ' H' s'/\D.nx σ' H'
 |.brk=>∃σ' H',Inv X pins σ' H' s'/\D.bk σ' H'
 |.cont=>∃σ' H',Inv X pins σ' H' s'/\D.ct σ' H'
 |.ret u=>∃v σ' H',Inv X pins σ' H' s'/\RelV v u/\D.rt v H'
noncomputable def PE(X:Cx)(e:Expr)(t:TE):Prop :=
 ∀(pins:ak) (s:Shared) (σ:St) (H:Hp) (Q:VK),Inv X pins σ H s->t σ H Q->wpAny (model X.prog X.w) X.A (eval e X.env) (EP X pins σ Q) X.xe s
noncomputable def PT(X:Cx)(e:Expr)(t:TT):Prop :=
 ∀(pins:ak) (s:Shared) (σ:St) (H:Hp) (Q:Bool->Hp->Prop),Inv X pins σ H s->t σ H Q->wpAny (model X.prog X.w) X.A (isTrue e X.env (eval e X.env)) (TP X pins σ Q) X.xe s
noncomputable def PW(X:Cx)(e:Expr)(t:TT):Prop :=
 ∀(whole:Sem Value) (pins:ak) (s:Shared) (σ:St) (H:Hp) (Q:Bool->Hp->Prop),Inv X pins σ H s->t σ H Q->wpAny (model X.prog X.w) X.A (isTrue e X.env whole) (TP X pins σ Q) X.xe s
theorem PW.pt{X:Cx}{e:Expr}{t:TT}(h:PW X e t):PT X e t:=h _
noncomputable def PA(X:Cx)(es:aA)(t:TA):Prop :=
 ∀(pos:Pos) (pins:ak) (s:Shared) (σ:St) (H:Hp) (Q:af->Hp->Prop),Inv X pins σ H s->t σ H Q->wpAny (model X.prog X.w) X.A (spliced (backTo pos (starEach es X.env))) (AP X pins σ Q) X.xe s
noncomputable def PS(X:Cx)(st:Stmt)(t:TS):Prop :=
 ∀(pins:ak) (s:Shared) (σ:St) (H:Hp) (D:Ends),Inv X pins σ H s->t D σ H->wpAny (model X.prog X.w) X.A (exec st X.env) (SP X pins D) X.xe s
noncomputable def fG(X:Cx)(st:aZ)(t:TS):Prop :=
 ∀(pins:ak) (s:Shared) (σ:St) (H:Hp) (D:Ends),Inv X pins σ H s->t D σ H->wpAny (model X.prog X.w) X.A (execs st X.env) (SP X pins D) X.xe s
theorem cW{α:Type}{t:Sem α}{Q Q':α->Shared->Prop}{M:Model}{s:Shared}(h:wpAny M A t Q E s)(hQ:∀a s,Q a s->Q' a s):wpAny M A t Q' E s:=aau h hQ λ_ _ x=>x
end L2
namespace L2
open PySem PySem.Spec PyProof.Rows
variable {E Q:Value->Shared->Prop}{H:Hp}{pos:Pos}{σ:L2.St}
section
variable {X:Cx}
theorem bin{a b:Expr}{ta tb:TE}(ha:PE X a ta)(hb:PE X b tb){pins:ak}{s:Shared}{R:V->V->Hp->Prop}(I:Inv X pins σ H s)(h:ta σ H λx H1=>tb σ H1 λy H2=>R x y H2)
  {α:Type} {Q:α->Shared->Prop} {f:Value->Value->Sem α}
  (hf:∀v u s2 x y H2,Inv X pins σ H2 s2->RelV x v->RelV y u->R x y H2->wpAny (model X.prog X.w) X.A (f v u) Q X.xe s2) :
  wpAny (model X.prog X.w) X.A (eval a X.env) (λv s₁=>wpAny (model X.prog X.w) X.A (eval b X.env) (λu s₂=>wpAny (model X.prog X.w) X.A (f v u) Q X.xe s₂) X.xe s₁) X.xe s:=by
 refine cW (ha pins s σ H _ I h) λv s1 bW=>?_;obtain⟨x,H1,I1,r1,q1⟩:=bW;refine cW (hb pins s1 σ H1 _ I1 q1) λu s2 bW=>?_;obtain⟨y,H2,I2,r2,q2⟩:=bW;exact hf v u s2 x y H2 I2 r1 r2 q2
noncomputable def tI(i:Nat):TE:=λσ H Q=>∃v,σ[i]?=some (some v)/\Q v H
noncomputable def tC(v:V):TE:=λ_ H Q=>Q v H
theorem lD{i:Nat}{x:Str}(hN:X.N[i]?=some x)(hv:IL X.env.scope x)(hd:(x==("__debug__" : Str))=false:=by decide)(wC:(x==("__classdict__" : Str))=false:=by decide):PE X (.Name x pos) (tI i):=by
 intro pins s σ H Q I h;obtain⟨v,e,h⟩:=h;obtain⟨m,hn,hl⟩:=I.loc;obtain⟨u,r,l⟩:=hl i x v hN e hv;have fin:EP X pins σ Q u s:=⟨v,H,I,r,h⟩
 rcases l with ⟨hk,hm⟩|⟨hk,c,hc,hcell⟩
 ·exact wpAny_Name (wpAny_loadName_local I.ok.kind hk hn hm fin) hd
 ·rcases hk with hk|hk
  ·exact wpAny_Name (wpAny_loadName_cell I.ok.kind hk hc hcell fin) hd
  ·exact wpAny_Name (wpAny_loadName_free I.ok.kind hk hc hcell fin wC) hd
theorem J4{i j pos}:PE X (.Constant (.int i) j pos) (tC (.int i)):=λ_ _ _ H _ I h=>wpAny_Constant_int ⟨.int i,H,I.tok _,⟨_,rfl⟩,h⟩
theorem O0{b j pos}:PE X (.Constant (.bool b) j pos) (tC (.bl b)):=λ_ _ _ H _ I h=>Constant_bool ⟨.bl b,H,I,rfl,h⟩
theorem J1{j pos}:PE X (.Constant .none j pos) (tC .bu):=λ_ _ _ H _ I h=>Constant_none ⟨.bu,H,I,rfl,h⟩
theorem JZ{x j pos}:PE X (.Constant (.str x) j pos) (tC (.str x)):=λ_ _ _ H _ I h=>Calls.Constant_str ⟨.str x,H,I.tok _,⟨_,rfl⟩,h⟩
def Gl(X:Cx)(x:Str):Prop:=X.env.kindOf x=some .globalImplicit
theorem mW{pins:ak}{s:Shared}{x:Str}{u:Value}(I:Inv X pins σ H s)(hg:Gl X x)(hm:X.mg x=some u)(h:Q u s)
  (hd:(x==("__debug__" : Str))=false:=by decide):wpAny (model X.prog X.w) X.A (eval (.Name x pos) X.env) Q E s :=
 aaZ I.ok.kind hg (aby (by rw[I.ok.glob];exact I.mod.glob.keeps I.bk) hm h) hd
theorem eh{pins:ak}{s:Shared}{x:Str}{u:Value}(I:Inv X pins σ H s)(hg:Gl X x)(hm:X.mg x=none)(hv:bootBuiltins x=some u)(h:Q u s)
  (hn:x ≠ "__name__":=by decide) (hd:(x==("__debug__" : Str))=false:=by decide):wpAny (model X.prog X.w) X.A (eval (.Name x pos) X.env) Q E s:=by
 obtain⟨mb,h1,h2⟩:=I.mod.blt;exact aaZ I.ok.kind hg (Calls.loadGlobal_builtin (by rw[I.ok.glob];exact I.mod.glob.keeps I.bk) hm (by rw[I.ok.blt];exact h1.keeps I.bk) ((h2 x hn).trans hv) h) hd
theorem rn{x:Str}{v:V}{u:Value}(hg:Gl X x)(hm:X.mg x=some u)(r:RelV v u)(hd:(x==("__debug__" : Str))=false:=by decide):PE X (.Name x pos) (tC v) :=
 λ_ _ _ H _ I h=>mW I hg hm ⟨v,H,I,r,h⟩ hd
theorem Fy{x:Str}{v:V}{u:Value}(hg:Gl X x)(hm:X.mg x=none)(hv:bootBuiltins x=some u)(r:RelV v u)(hn:x ≠ "__name__":=by decide)(hd:(x==("__debug__" : Str))=false:=by decide):PE X (.Name x pos) (tC v) :=
 λ_ _ _ H _ I h=>eh I hg hm hv ⟨v,H,I,r,h⟩ hn hd
variable {a b:Expr}{ta tb:TE}{pos:Pos}
noncomputable def tB(t:TE):TT:=λσ H Q=>t σ H λx H1=>∃c,x=.bl c/\Q c H1
theorem JS{e:Expr}{t:TE}(h:PE X e t)(he:∀whole,isTrue e X.env whole=(do let v <- whole;standAt e.pos;holding [v] (truthy v)):=by intro _;rfl):PT X e (tB t):=by
 intro pins s σ H Q I hw;refine isTrue_plain (cW (h pins s σ H _ I hw) λv s1 bW=>?_) (he _);obtain⟨x,H1,I1,r1,q1⟩:=bW;obtain⟨d,rfl,q⟩:=q1;cases r1;exact aaM ⟨H1,I1,q⟩
variable {tA RT:TT}{rest:aA}
noncomputable def Of(t u:TT):TT:=λσ H Q=>t σ H λc H1=>if c=true then u σ H1 Q else Q false H1
noncomputable def Xn(t u:TT):TT:=λσ H Q=>t σ H λc H1=>if c=true then Q true H1 else u σ H1 Q
noncomputable def TH(t:TT):TT:=λσ H Q=>t σ H λc H1=>Q (!c) H1
theorem Fq(ha:PT X a tA):PW X (.BoolOp .And [a] pos) tA:=by
 intro wh pins s σ H Q I h;refine isTrue_and (cW (ha pins s σ H Q I h) λc s1 e=>?_);cases c with
 |true=>exact isTrue_and_nil e
 |false=>exact e
theorem JQ(ha:PT X a tA):PW X (.BoolOp .Or [a] pos) tA:=by
 intro wh pins s σ H Q I h;refine isTrue_or (cW (ha pins s σ H Q I h) λc s1 e=>?_);cases c with
 |false=>exact isTrue_or_nil e
 |true=>exact e
theorem JR(ha:PT X a tA)(hb:PW X (.BoolOp .And (b::rest) pos) RT):PW X (.BoolOp .And (a::b::rest) pos) (Of tA RT):=by
 intro wh pins s σ H Q I h;refine isTrue_and (cW (ha pins s σ H _ I h) λc s1 ⟨H1,I1,q1⟩=>?_);cases c with
 |true=>exact hb wh pins s1 σ H1 Q I1 q1
 |false=>exact⟨H1,I1,q1⟩
theorem OR(ha:PT X a tA)(hb:PW X (.BoolOp .Or (b::rest) pos) RT):PW X (.BoolOp .Or (a::b::rest) pos) (Xn tA RT):=by
 intro wh pins s σ H Q I h;refine isTrue_or (cW (ha pins s σ H _ I h) λc s1 ⟨H1,I1,q1⟩=>?_);cases c with
 |true=>exact⟨H1,I1,q1⟩
 |false=>exact hb wh pins s1 σ H1 Q I1 q1
theorem JT(ha:PT X a tA):PT X (.UnaryOp .Not a pos) (TH tA):=by
 intro pins s σ H Q I h;exact isTrue_not (ha pins s σ H (λc H1=>Q (!c) H1) I h)
noncomputable def Hz(ta tb:TE):TE:=λσ H Q=>ta σ H λx H1=>∃c,x=.bl c/\if c=true then tb σ H1 Q else Q (.bl false) H1
noncomputable def N8(ta tb:TE):TE:=λσ H Q=>ta σ H λx H1=>∃c,x=.bl c/\if c=true then Q (.bl true) H1 else tb σ H1 Q
noncomputable def N9(ta:TE):TE:=λσ H Q=>ta σ H λx H1=>∃c,x=.bl c/\Q (.bl (!c)) H1
theorem BY{op}{t:TE}(h:PE X a t):PE X (.BoolOp op [a] pos) t:=λpins s σ H Q I hw=>BoolOp_one (h pins s σ H Q I hw)
theorem J6(ha:PE X a ta)(hb:PE X (.BoolOp .And (b::rest) pos) tb):PE X (.BoolOp .And (a::b::rest) pos) (Hz ta tb):=by
 intro pins s σ H Q I h;refine BoolOp_and (cW (ha pins s σ H _ I h) λv s1 bW=>?_);obtain⟨x,H1,I1,r1,q1⟩:=bW;obtain⟨c,rfl,q1⟩:=q1;cases r1;refine aaM ?_;cases c with
 |true=>exact hb pins s1 σ H1 Q I1 q1
 |false=>exact⟨.bl false,H1,I1,rfl,q1⟩
theorem OY(ha:PE X a ta)(hb:PE X (.BoolOp .Or (b::rest) pos) tb):PE X (.BoolOp .Or (a::b::rest) pos) (N8 ta tb):=by
 intro pins s σ H Q I h;refine BoolOp_or (cW (ha pins s σ H _ I h) λv s1 bW=>?_);obtain⟨x,H1,I1,r1,q1⟩:=bW;obtain⟨c,rfl,q1⟩:=q1;cases r1;refine aaM ?_;cases c with
 |false=>exact hb pins s1 σ H1 Q I1 q1
 |true=>exact⟨.bl true,H1,I1,rfl,q1⟩
theorem J0(ha:PE X a ta):PE X (.UnaryOp .Not a pos) (N9 ta):=by
 intro pins s σ H Q I h;refine UnaryOp_ (cW (ha pins s σ H _ I h) λv s1 bW=>?_);obtain⟨x,H1,I1,r1,q1⟩:=bW;obtain⟨c,rfl,q1⟩:=q1;cases r1;exact not_of (aaM ⟨.bl (!c),H1,I1,rfl,q1⟩)
end
end L2
namespace L2
open PySem PySem.Spec PyProof.Rows
def dz(K:au)(H:Hp)(a:Addr)(xs:af):Prop :=
 Rd H a (.lst xs) \/
  ∃(o:Obj) (aN:aV) (n:Nat),K.lookup a=some o/\o.cls=.type "list" /\ o.dict=none/\o.data=.seq aN n/\aN.size<=sizeLine/\Vals xs aN.toList
def bh(K:au)(H:Hp)(a:Addr)(xs:af):Prop :=
 Rd H a (.tup xs) \/
  ∃(o:Obj) (aN:aV) (n:Nat),K.lookup a=some o/\o.cls=.type "tuple" /\ o.data=.seq aN n/\aN.size<=sizeLine/\Vals xs aN.toList
noncomputable def W5:Value->Option V
 |.none=>some .bu
 |.bool b=>some (.bl b)
 |.int i _=>some (.int i)
 |.str x _=>some (.str x)
 |.bytes b _=>some (.WV b)
 |.float b _=>some (.Q8 b)
 |.ref a=>some (.ref a)
 |.type n=>some (.ty n)
 |_=>none
theorem RelV.abs{x:V}{u:Value}(r:RelV x u):W5 u=some x:=by
 cases x with
 |bu=>cases r;rfl
 |bl _=>cases r;rfl
 |int _=>obtain⟨t,rfl⟩:=r;rfl
 |str _=>obtain⟨t,rfl⟩:=r;rfl
 |WV _=>obtain⟨t,rfl⟩:=r;rfl
 |Q8 _=>obtain⟨t,rfl⟩:=r;rfl
 |ref _=>cases r;rfl
 |ty _=>cases r;rfl
theorem RelV.inj{x y:V}{u:Value}(r:RelV x u)(q:RelV y u):x=y:=aap (r.abs.symm.trans q.abs)
theorem Vals.inj:∀{xs ys:af} {us:ao},Vals xs us->Vals ys us->xs=ys
 |_,_,_,.nil,.nil=>rfl
 |_,_,_,.cons r t,.cons r' t'=>by rw[r.inj r',Vals.inj t t']
variable {K:au}
section
variable {X:Cx}{pins:ak}{σ:St}{H:Hp}{s:Shared}{a:Addr}{xs ys:af}
theorem dz.of(h:H a=some (.lst xs)):dz K H a xs:=.inl (.inl h)
theorem bh.of(h:H a=some (.tup xs)):bh K H a xs:=.inl (.inl h)
theorem Inv.list(I:Inv X pins σ H s)(h:dz X.K H a xs):∃aN:ao,Vals xs aN/\PlainL s.heap a aN.toArray/\xs.length<=sizeLine:=by
 rcases h with h|⟨o,aN,n,hk,hc,hd,hs,hz,r⟩
 ·obtain⟨z,aN,n,r,e⟩:=h.ok I.cm;exact⟨aN,r,⟨_,n,e,rfl,rfl,rfl⟩,z⟩
 ·refine⟨aN.toList,r,⟨o,n,I.wk a o hk,hc,hd,by simpa using hs⟩,?_⟩;have e:=r.length;simp only[Array.length_toList]at e;left
theorem Inv.tuple(I:Inv X pins σ H s)(h:bh X.K H a xs):∃aN:ao,Vals xs aN/\IsTup s.heap a aN.toArray/\xs.length<=sizeLine:=by
 rcases h with h|⟨o,aN,n,hk,hc,hs,hz,r⟩
 ·obtain⟨z,aN,r,p⟩:=h.ok I.cm;exact⟨aN,r,p,z⟩
 ·refine⟨aN.toList,r,⟨o,I.wk a o hk,hc,n,by simpa using hs⟩,?_⟩;have e:=r.length;simp only[Array.length_toList]at e;left
theorem Inv.iY(I:Inv X pins σ H s)(h:dz X.K H a xs)(h':dz X.K H a ys):xs=ys:=by
 obtain⟨aN,r,⟨o,n,e,_,_,d⟩,_⟩:=I.list h;obtain⟨its',r',⟨o',n',e',_,_,d'⟩,_⟩:=I.list h';rw[e]at e';cases e';rw[d]at d';injection d' with d1 _;have:aN=its':=by simpa using congrArg Array.toList d1
 subst this;exact r.inj r'
theorem Inv.p9(I:Inv X pins σ H s)(h:bh X.K H a xs)(h':bh X.K H a ys):xs=ys:=by
 obtain⟨aN,r,⟨o,e,_,n,d⟩,_⟩:=I.tuple h;obtain⟨its',r',⟨o',e',_,n',d'⟩,_⟩:=I.tuple h';rw[e]at e';cases e';rw[d]at d';injection d' with d1 _;have:aN=its':=by simpa using congrArg Array.toList d1
 subst this;exact r.inj r'
end
noncomputable abbrev Cx.nv(X:Cx)(E:aB):Cx:={ X with xe:=E }
abbrev Cx.Ea(X:Cx):Cx:=X.nv λ_ _=>False
theorem Cx.Ok.nv{X:Cx}(ok:X.Ok)(E:aB):(X.nv E).Ok :=
 ⟨ok.mod,ok.kind,ok.glob,ok.blt,ok.above,ok.inj,ok.has,ok.IC,ok.hd,ok.frames,ok.Jo,ok.Ra,ok.bs,ok.DV,ok.ui,ok.wK,ok.jO,ok.AH⟩
variable {E:Value->Shared->Prop}{X:Cx}
theorem Cx.Ok.gW(ok:(X.nv E).Ok):X.Ok :=
 ⟨ok.mod,ok.kind,ok.glob,ok.blt,ok.above,ok.inj,ok.has,ok.IC,ok.hd,ok.frames,ok.Jo,ok.Ra,ok.bs,ok.DV,ok.ui,ok.wK,ok.jO,ok.AH⟩
section
variable {X:Cx}{pins:ak}{σ:St}{H:Hp}{s:Shared}{E:aB}
theorem Inv.nv(I:Inv X pins σ H s)(E:aB):Inv (X.nv E) pins σ H s:=⟨I.ok.nv E,I.os,I.bare,I.base,I.loc,I.cell,I.free,I.e_,I.pin,I.cm,I.len⟩
theorem Inv.gW(I:Inv (X.nv E) pins σ H s):Inv X pins σ H s:=⟨I.ok.gW,I.os,I.bare,I.base,I.loc,I.cell,I.free,I.e_,I.pin,I.cm,I.len⟩
theorem SP.gW{D:Ends}{f:Flow}{s':Shared}(h:SP (X.nv E) pins D f s'):SP X pins D f s':=by
 cases f with
 |next=>obtain⟨σ',H',I,q⟩:=h;exact⟨σ',H',I.gW,q⟩
 |brk=>obtain⟨σ',H',I,q⟩:=h;exact⟨σ',H',I.gW,q⟩
 |cont=>obtain⟨σ',H',I,q⟩:=h;exact⟨σ',H',I.gW,q⟩
 |ret u=>obtain⟨v,σ',H',I,r,q⟩:=h;exact⟨v,σ',H',I.gW,r,q⟩
theorem fG.Ea{st:aZ}{t:TS}(h:fG X.Ea st t):fG X st t:=λpins s σ H D I hw =>
 aau (h pins s σ H D (I.nv _) hw) (λ_ _ q=>q.gW) λ_ _ z=>False.elim z
end
variable {H:Hp}{σ:L2.St}
section
variable {X:Cx}{st:Stmt}{rest:aZ}{t u:TS}{e:Expr}{te:TE}{pos:Pos}
noncomputable def Hx:TS:=λD σ H=>D.nx σ H
noncomputable def Tz(t u:TS):TS:=λD σ H=>t { D with nx:=u D } σ H
theorem xR:fG X [] Hx:=λ_ _ σ H _ I h=>abk ⟨σ,H,I,h⟩
theorem dS(h1:PS X st t)(h2:fG X rest u):fG X (st::rest) (Tz t u):=by
 intro pins s σ H D I h;refine wpAny_execs_cons (cW (h1 pins s σ H { D with nx:=u D } I h) λf s1 q=>?_);cases f with
 |next =>
  obtain⟨σ',H',I',q⟩:=q;exact h2 pins s1 σ' H' D I' q
 |ret v=>exact q
 |brk=>exact q
 |cont=>exact q
theorem kD(h1:PS X st t):fG X [st] t:=by
 intro pins s σ H D I h;refine wpAny_execs_cons (cW (h1 pins s σ H D I h) λf s1 q=>?_);cases f with
 |next=>exact abk q
 |ret v=>exact q
 |brk=>exact q
 |cont=>exact q
theorem Inv.quiet{pins:ak}{s:Shared}(I:Inv X pins σ H s):interactive X.env=false:=by simp[interactive,I.ok.kind]
noncomputable def Oa(te:TE):TS:=λD σ H=>te σ H λ_ H1=>D.nx σ H1
theorem kE(he:PE X e te)(hs:swapsWith e none pos.line X.env=pure false:=by rfl):PS X (.Expr e pos) (Oa te):=by
 intro pins s σ H D I h;exact wpAny_Expr_any (cW (he pins s σ H _ I h) λv s1 ⟨x,H1,I1,r1,q1⟩=>⟨σ,H1,I1,q1⟩) I.quiet hs
noncomputable def TB(te:TE):TS:=λD σ H=>te σ H D.rt
theorem vV(he:PE X e te):PS X (.Return (some e) pos) (TB te):=by
 intro pins s σ H D I h;exact wpAny_Return_some (cW (he pins s σ H _ I h) λv s1 ⟨x,H1,I1,r1,q1⟩=>⟨x,σ,H1,I1,r1,q1⟩)
noncomputable def TM(c:TT)(t u:TS):TS:=λD σ H=>c σ H λb H1=>if b=true then t D σ H1 else u D σ H1
theorem BM{c:Expr}{a b:aZ}{tc:TT}(hc:PT X c tc)(ha:fG X a t)(hb:fG X b u):PS X (.If c a b pos) (TM tc t u):=by
 intro pins s σ H D I h;refine wpAny_If (cW (hc pins s σ H _ I h) λd s1 ⟨H1,I1,q1⟩=>?_);cases d with
 |true=>exact ha pins s1 σ H1 D I1 q1
 |false=>exact hb pins s1 σ H1 D I1 q1
noncomputable def Jk:TS:=λ_ _ _=>False
end
noncomputable abbrev TG:=V->St->Hp->(St->Hp->Prop)->Prop
noncomputable abbrev Hi:=af->St->Hp->(St->Hp->Prop)->Prop
def PG(X:Cx)(target:Expr)(t:TG):Prop :=
 ∀(pins:ak) (s:Shared) (σ:St) (H:Hp) (v:V) (u:Value) (Q:St->Hp->Prop),Inv X pins σ H s->RelV v u->t v σ H Q ->
  wpAny (model X.prog X.w) X.A (assign target X.env u) (λ_ s'=>∃σ' H',Inv X pins σ' H' s'/\Q σ' H') X.xe s
def NF(X:Cx)(ts:aA)(t:Hi):Prop :=
 ∀(pins:ak) (s:Shared) (σ:St) (H:Hp) (vs:af) (us:ao) (Q:St->Hp->Prop),Inv X pins σ H s->Vals vs us->t vs σ H Q ->
  wpAny (model X.prog X.w) X.A (assignInOrder ((assignEach ts X.env).map (·.2)) us) (λ_ s'=>∃σ' H',Inv X pins σ' H' s'/\Q σ' H') X.xe s
noncomputable abbrev MJ:=V->V->V->Hp->(Hp->Prop)->Prop
def RJ(X:Cx)(t:MJ):Prop :=
 ∀(pins:ak) (s:Shared) (σ:St) (H:Hp) (o i v:V) (ov iv u:Value) (Q:Hp->Prop),Inv X pins σ H s->RelV o ov->RelV i iv->RelV v u->t o i v H Q ->
  wpAny (model X.prog X.w) X.A (setItem ov iv u) (λ_ s'=>∃H',Inv X pins σ H' s'/\Q H') X.xe s
variable {es:aA}{pos':Pos}{te:TE}{tg:Expr}
section
variable {X:Cx}{pos:Pos}
noncomputable def oH(i:Nat):TG:=λv σ H Q=>Q (σ.set i (some v)) H
theorem mR{i:Nat}{x:Str}(hN:X.N.Nodup)(hi:X.N[i]?=some x)(hx:Loc X.env.scope x)(hf:X.fn x=true\/X.env.scope.names.lookup x=some .local:=by first|exact .inl rfl|exact .inr rfl|assumption):PG X (.Name x pos) (oH i):=by
 intro pins s σ H v u Q I r h;exact wpAny_assign_Name (fI I hN hi hx r (λs' I'=>⟨_,H,I',h⟩) hf)
noncomputable def LC:Hi:=λvs σ H Q=>vs=[]/\Q σ H
noncomputable def C_(t:TG)(u:Hi):Hi:=λvs σ H Q=>∃v r,vs=v::r/\t v σ H λσ' H'=>u r σ' H' Q
theorem xW:NF X [] LC:=by
 intro pins s σ H vs us Q I r h;obtain⟨e,h⟩:=h;subst e;cases r;exact assignInOrder_nil ⟨σ,H,I,h⟩
theorem ub{e:Expr}{t:TG}{u:Hi}(h1:PG X e t)(h2:NF X es u)
  (hs:(assignEach (e::es) X.env).map (·.2)=assign e X.env::(assignEach es X.env).map (·.2):=by rfl):NF X (e::es) (C_ t u):=by
 intro pins s σ H vs us Q I r h;obtain⟨v,vr,e1,h⟩:=h;subst e1;cases r with
 |cons r rr =>
  rw[hs];refine assignInOrder_cons (cW (h1 pins s σ H _ _ _ I r h) λ_ s1 bW=>?_);obtain⟨σ1,H1,I1,q1⟩:=bW;exact h2 pins s1 σ1 H1 _ _ Q I1 rr q1
def Wf(K:au)(n:Nat)(t:Hi):TG:=λv σ H Q=>∃a xs,v=.ref a/\bh K H a xs/\xs.length=n/\t xs σ H Q
theorem BS{k:Nat}{t:Hi}{n:Nat}(hc:X.calm=true)(h:NF X es t)
  (hn:(assignEach es X.env).length=n:=by rfl) (me:(assignEach es X.env).findIdx? (·.1)=none:=by rfl):PG X (.Tuple es k pos) (Wf X.K n t):=by
 intro pins s σ H v u Q I r hw;obtain⟨a,xs,e1,hq,hl,hw⟩:=hw;subst e1;cases r;obtain⟨aN,rv,ht,hz⟩:=I.tuple hq;refine assign_Tuple_tuple (I.ok.hd hc) ht (by simp[hn,<- hl,rv.length]) me λh' hx=>?_;have I1:Inv X pins σ H { s with heap:=h' }:=I.kept (t':=s.toks) λb o e=>hx b o (aak (aae e)) e;exact h pins _ σ H xs _ Q I1 (by simpa using rv) hw
noncomputable def Wg(to ti:TE)(t:MJ):TG:=λv σ H Q=>to σ H λo H1=>ti σ H1 λi H2=>t o i v H2 λH3=>Q σ H3
theorem JX{o i:Expr}{to ti:TE}{t:MJ}(ho:PE X o to)(hi:PE X i ti)(hs:RJ X t)
  (ha:∀v,assign (.Subscript o i pos) X.env v=(do
   let ov <- holding [v] (eval o X.env)
   let iv <- holding [v,ov] (eval i X.env)
   standAt pos
   holding [v,ov,iv] (setItem ov iv v)
   release [v,ov,iv] []):=by intro _;rfl):PG X (.Subscript o i pos) (Wg to ti t):=by
 intro pins s σ H v u Q I r h;rw[ha];refine aaa (aaD (cW (ho pins s σ H _ I h) λov s1 bW=>?_));obtain⟨x,H1,I1,r1,q1⟩:=bW;refine aaa (aaD (cW (hi pins s1 σ H1 _ I1 q1) λiv s2 bW=>?_));obtain⟨y,H2,I2,r2,q2⟩:=bW;refine aaa (ab5 (aaa (aaD (cW (hs pins s2 σ H2 x y v ov iv u _ I2 r1 r2 r q2) λ_ s3 bW=>?_))));obtain⟨H3,I3,q3⟩:=bW;exact wpAny_release ⟨σ,H3,I3,q3⟩
noncomputable def Oe(te:TE)(g:TG):TS:=λD σ H=>te σ H λx H1=>g x σ H1 D.nx
theorem vW{e:Expr}{g:TG}(he:PE X e te)(hg:PG X tg g)(hs:swapsWithSole [tg] e pos.line X.env=pure false:=by rfl)(hw:swappedStores [tg] e X.env=pure none:=by rfl)
  (h1:(assignEach [tg] X.env).map (·.2)=[assign tg X.env]:=by rfl):PS X (.Assign [tg] e pos) (Oe te g):=by
 intro pins s σ H D I h;refine wpAny_Assign_stores (cW (he pins s σ H _ I h) λv s1 bW=>?_) hs hw;obtain⟨x,H1,I1,r1,q1⟩:=bW;rw[h1];exact cW (hg pins s1 σ H1 x v _ I1 r1 q1) λ_ s2 q=>q
theorem rl{i:Nat}{x:Str}{e:Expr}(hN:X.N.Nodup)(hi:X.N[i]?=some x)(hx:Loc X.env.scope x)(he:PE X e te)(hs:swapsWith e (some (.Name x pos')) pos.line X.env=pure false:=by rfl)(hf:X.fn x=true\/X.env.scope.names.lookup x=some .local:=by first|exact .inl rfl|exact .inr rfl|assumption):
  PS X (.Assign [.Name x pos'] e pos) (Oe te (oH i)):=by
 intro pins s σ H D I h;refine wpAny_Assign_Name (cW (he pins s σ H _ I h) λv s1 bW=>?_) hs;obtain⟨y,H1,I1,r1,q1⟩:=bW;exact fI I1 hN hi hx r1 (λs2 I2=>⟨_,H1,I2,q1⟩) hf
noncomputable def TF(i j:Nat)(ta:TA):TS:=λD σ H=>ta σ H λvs H1=>∃v w,vs=[v,w]/\D.nx ((σ.set i (some v)).set j (some w)) H1
theorem JU{i j:Nat}{x y:Str}{a b:Expr}{ta:TA}{px py pt:Pos}{kt k2 MX}(hc:X.calm=true)(hN:X.N.Nodup)(hi:X.N[i]?=some x)(hj:X.N[j]?=some y)(iA:i≠j)
  (hx:X.env.scope.names.lookup x=some .local) (hy:X.env.scope.names.lookup y=some .local) (ha:PA X [a,b] ta)
  (hw:swappedStores [.Tuple [.Name x px,.Name y py] kt pt] (.Tuple [a,b] k2 MX) X.env=pure (some [x,y]))
  (hs:swapsWithSole [.Tuple [.Name x px,.Name y py] kt pt] (.Tuple [a,b] k2 MX) pos.line X.env=pure false:=by rfl) :
  PS X (.Assign [.Tuple [.Name x px,.Name y py] kt pt] (.Tuple [a,b] k2 MX) pos) (TF i j ta):=by
 intro pins s σ H D I h;rw[exec_Assign_arm];refine aaa (ab5 ?_);rw[hs];refine aaa (aag ?_);rw[if_neg (by decide)];refine aaa (Tuple_ (cW (ha _ pins s σ H _ I h) λus s1 bW=>?_));obtain⟨vs,H1,I1,r1,q1⟩:=bW;obtain⟨v,w,e1,q1⟩:=q1;subst e1;obtain⟨u1,u2,rfl,rv,lb⟩:∃u1 u2,us=[u1,u2]/\RelV v u1/\RelV w u2:=by
  cases r1 with
  |cons p q =>
   cases q with
   |cons p' q' =>
    cases q';exact⟨_,_,rfl,p,p'⟩
 refine abc ?_ (by show 2<=sizeLine;decide);have I2:Inv X pins σ H1 { s1 with heap:=s1.heap.push { cls:=.type "tuple",data:=.seq [u1,u2].toArray } }:=I1.kept (t':=s1.toks) λb o e=>aah _ e;rw[hw];refine aaa (aag ?_);show wpAny (model X.prog X.w) X.A (do rule "assign.swapped-stores";let items <- unpackItems (.ref s1.heap.objs.size) 2 none;assignInOrder [λv=>bindName X.env y v,λv=>bindName X.env x v] items.reverse;pure Flow.next) _ _ _;refine aaa (wpAny_rule (aaa (unpackItems_tuple (items:=#[u1,u2]) (I.ok.hd hc) (IsTup.new s1.heap _) λh' K3=>?_)));have I3:=I2.kept (h':=h') (t':=s1.toks) λb o e=>K3 b o (aak (aae e)) e;show wpAny _ _ (assignInOrder [λv=>bindName X.env y v,λv=>bindName X.env x v] [u2,u1] >>= λ_=>pure Flow.next) _ _ _;refine aaa (assignInOrder_cons (wpAny_bindName (fI I3 hN hj (.inl hy) lb (λs2 I4=>?_) (.inr hy))));refine assignInOrder_cons (wpAny_bindName (fI I4 hN hi (.inl hx) rv (λs3 I5=>assignInOrder_nil (aag ?_)) (.inr hx)));rw[List.set_comm _ _ (Ne.symm iA)]at I5;exact⟨_,H1,I5,q1⟩
end
section
variable {X:Cx}{pos:Pos}
noncomputable def Ji(c:TT)(tb:TS):TS:=λD σ H=>∃W:Nat->St->Hp->Prop,(∃m,W m σ H)/\∀m σ H,W m σ H ->
 c σ H λb H1=>if b=true then ∃N:St->Hp->Prop,(∀σ' H',N σ' H'->∃m',m'<m/\W m' σ' H')/\tb { D with nx:=N,ct:=N,bk:=D.nx } σ H1 else D.nx σ H1
theorem BJ{c:Expr}{body:aZ}{tc:TT}{tb:TS}(hp:PassesOwn (model X.prog X.w) X.A X.env X.xe)(hc:PT X c tc)(hb:fG X body tb):PS X (.While c body [] pos) (Ji tc tb):=by
 intro pins s σ H D I h;obtain⟨W,⟨m0,w0⟩,turn⟩:=h;refine wpAny_While (codeAny_whileLoop (λn s'=>∃σ' H',Inv X pins σ' H' s'/\W n σ' H') ?_ m0 ⟨σ,H,I,w0⟩);rintro n s1 ⟨σ1,H1,I1,w1⟩;refine aaW hp (cW (hc pins s1 σ1 H1 _ I1 (turn n σ1 H1 w1)) λb s2 ⟨H2,I2,q2⟩=>?_);cases b with
 |true =>
  obtain⟨N,hN,q2⟩:=q2;rw[if_pos rfl];refine aaW hp (cW (hb pins s2 σ1 H2 _ I2 q2) λf s3 q3=>?_);cases f with
  |next =>
   obtain⟨σ3,H3,I3,n3⟩:=q3;obtain⟨m',hm,w3⟩:=hN σ3 H3 n3;exact⟨m',hm,σ3,H3,I3,w3⟩
  |cont =>
   obtain⟨σ3,H3,I3,n3⟩:=q3;obtain⟨m',hm,w3⟩:=hN σ3 H3 n3;exact⟨m',hm,σ3,H3,I3,w3⟩
  |brk=>exact q3
  |ret v=>exact q3
 |false =>
  rw[if_neg Bool.false_ne_true];exact abk ⟨σ1,H2,I2,q2⟩
end
structure It where
 go:Nat->Hp->Prop
 tj:Nat->Hp->V->Hp->Prop
 stop:Nat->Hp->Prop
noncomputable def ph(X:Cx)(pins:ak)(H:Hp)(b:Addr):Prop :=
 H b=none/\b≠X.env.locals/\b∉X.fs/\(b∈X.ex\/X.s₀.heap.objs.size<=b)/\(∀x c,X.env.cells.lookup x=some c->c≠b)/\∀p∈X.pn++pins,p.1≠b
theorem Inv.Ac{pins:ak}{H':Hp}{s:Shared}{b:Addr}(I:Inv X pins σ H s)(hb:s.heap.objs.size<=b)(hn:H' b=none):ph X pins H' b:=by
 refine⟨hn,aaw (aai I.lt hb),I.Kl hb,.inr (aaB I.sz hb),λx c e z=>?_,λp hp z=>?_⟩
 ·obtain⟨v,q⟩:=I.cell x c e;exact absurd (aai q.lt (by rw[z];exact hb)) (aax _)
 ·exact absurd (aai (aae (I.pin p hp).1) (by rw[z];exact hb)) (aax _)
structure Turn(P:aH)(w:World)(K:au)(tg:Expr)(J:It)(fp:aW)(it:Addr)(tn:Nat->Heap->Prop):Prop where
 mem:it∈fp
 obj:∀i h,tn i h->∀b∈fp,∃o,h.get? b=some o/\∀v,o.data≠.cell v
 keep:∀i h h',tn i h->(∀b∈fp,∀o,h.get? b=some o->h'.get? b=some o)->tn i h'
 item:∀(X:Cx),X.prog=P->X.w=w->X.K=K->X.calm=true->∀(i:Nat) (pins:ak) (s:Shared) (σ:St) (H:Hp) (E:aB),Inv X pins σ H s->(∀b∈fp,ph X pins H b)->tn i s.heap->J.go i H ->
  wpAny (model P w) X.A (pyNext (.ref it)) (λr s1=>∃u,r=some u /\
   wpAny (model P w) X.A (letOwnedTupleGo tg (.ref it) u) (λ_ s2=>∃x H',Inv X pins σ H' s2/\RelV x u/\J.tj i H x H'/\tn (i+1) s2.heap/\∀b∈fp,H' b=none) E s1) E s
 done:∀(X:Cx),X.prog=P->X.w=w->X.K=K->X.calm=true->∀(i:Nat) (pins:ak) (s:Shared) (σ:St) (H:Hp) (E:aB),Inv X pins σ H s->(∀b∈fp,ph X pins H b)->tn i s.heap->J.stop i H ->
  wpAny (model P w) X.A (pyNext (.ref it)) (λr s1=>r=none/\Inv X pins σ H s1) E s
 self:∀(A:aK) (i:Nat) (s:Shared) (Q:aB) (E:aB),tn i s.heap->Q (.ref it) s->wpAny (model P w) A (pyIter (.ref it)) Q E s
noncomputable abbrev TI:=St->Hp->(It->Hp->Prop)->Prop
def Aw(X:Cx)(pins:ak)(σ:St)(tg:Expr)(R:It->Hp->Prop)(U5:Value)(s2:Shared):Prop :=
 ∃(it:Addr) (fp:aW) (tn:Nat->Heap->Prop) (J:It) (H':Hp),U5=.ref it/\Inv X pins σ H' s2/\Turn X.prog X.w X.K tg J fp it tn/\tn 0 s2.heap/\(∀b∈fp,ph X pins H' b)/\R J H'
def PI(X:Cx)(tg iter:Expr)(wi:TI):Prop :=
 ∀(pins:ak) (s:Shared) (σ:St) (H:Hp) (R:It->Hp->Prop),Inv X pins σ H s->wi σ H R ->
  wpAny (model X.prog X.w) X.A (eval iter X.env) (λv s1=>wpAny (model X.prog X.w) X.A (pyIter v) (Aw X pins σ tg R) X.xe s1) X.xe s
theorem yx{M:Model}{A:aK}{s:Shared}{it:Addr}{u:Value}{o:Obj}{n:String}{vs:aV}{Q:Unit->Shared->Prop}(ho:s.heap.get? it=some o)(hc:o.cls=.type n)(hd:o.data=.fields vs)
    (hn:["enumerate","zip","dict_itemiterator","dict_reverseitemiterator","odict_iterator","itertools.zip_longest","itertools.pairwise"].contains n=false) (hQ:Q () s):wpAny M A (letOwnedTupleGo tg (.ref it) u) Q E s:=by
  unfold letOwnedTupleGo;cases tg<;>first
    |exact aag hQ
    | (cases u<;>first
        |exact aag hQ
        | (refine aaa (wpAny_load ho ?_)
           rw[hc,hd];show wpAny M A (if (["enumerate","zip","dict_itemiterator","dict_reverseitemiterator","odict_iterator","itertools.zip_longest","itertools.pairwise"].contains n&&vs[0]?==some (rawInt _))=true then _ else _) Q E s;rw[if_neg (by intro h;rw[hn,Bool.false_and]at h;cases h)];exact aag hQ))
def NH(K:au)(a:Addr):It :=
 ⟨λi H=>∃xs x,dz K H a xs/\xs[i]?=some x,λi H x H'=>H'=H/\∀xs,dz K H a xs->xs[i]?=some x,λi H=>∃xs,dz K H a xs/\xs.length<=i⟩
def NG(K:au)(a:Addr):It :=
 ⟨λi H=>∃xs x,bh K H a xs/\xs[i]?=some x,λi H x H'=>H'=H/\∀xs,bh K H a xs->xs[i]?=some x,λi H=>∃xs,bh K H a xs/\xs.length<=i⟩
noncomputable def Ax(lo:Int)(n:Nat):It:=⟨λi _=>i<n,λi H x H'=>H'=H/\x=.int (lo+i),λi _=>n<=i⟩
variable {P:aH}
theorem zi{w:World}(a it:Addr):Turn P w K tg (NH K a) [it] it (λi h=>h.IsListIter it a i) where
 mem:=by simp
 obj:=λi h st b hb=>by
  have e:b=it:=by simpa using hb
  subst e;obtain⟨o,e,c,d⟩:=st;exact⟨o,e,λv z=>by rw[d]at z;cases z⟩
 keep:=λi h h' st k=>st.at λo e=>k it (by simp) o e
 item:=by
  intro X hP hw hK hc i pins s σ H E I hf st hg;subst hP hw hK;obtain⟨xs,x,hq,hx⟩:=hg;obtain⟨aN,rv,p,hz⟩:=I.list hq;obtain⟨u,hu,ru⟩:=rv.get hx;obtain⟨f0,f1,f2,f3,f4,f5⟩:=hf it (by simp);refine wpAny_pyNext_list_item st p.isList (x:=u) (by simpa using hu) λh' mw sb=>?_;have I1:Inv X pins σ H { s with heap:=h' }:=I.turned (t':=s.toks) (λb o hb e=>(sb.2 b hb).trans e) f0 f1 f3 f4 f5;obtain⟨o,e,c,d⟩:=id mw;exact⟨u,rfl,yx (s:={ s with heap:=h' }) e c d (by decide) ⟨x,H,I1,ru,⟨rfl,λys hy=>by rw[I.iY hy hq];exact hx⟩,mw,λb hb=>(hf b hb).1⟩⟩
 done:=by
  intro X hP hw hK hc i pins s σ H E I hf st hg;subst hP hw hK;obtain⟨xs,hq,hx⟩:=hg;obtain⟨aN,rv,p,hz⟩:=I.list hq;obtain⟨f0,f1,f2,f3,f4,f5⟩:=hf it (by simp);have hl:=rv.length;exact wpAny_pyNext_list_end (I.ok.hd hc) st p.isList (by simp;left) λh' eb=>⟨rfl,I.turned (t':=s.toks) (λb o hb e=>eb b o hb e) f0 f1 f3 f4 f5⟩
 self:=λ_ _ _ _ _ st h=>wpAny_pyIter_listiter st h
theorem vH{w:World}(a it:Addr):Turn P w K tg (NG K a) [it] it (λi h=>h.IsTupleIter it a i) where
 mem:=by simp
 obj:=λi h st b hb=>by
  have e:b=it:=by simpa using hb
  subst e;obtain⟨o,e,c,d⟩:=st;exact⟨o,e,λv z=>by rw[d]at z;cases z⟩
 keep:=λi h h' st k=>st.at λo e=>k it (by simp) o e
 item:=by
  intro X hP hw hK hc i pins s σ H E I hf st hg;subst hP hw hK;obtain⟨xs,x,hq,hx⟩:=hg;obtain⟨aN,rv,p,hz⟩:=I.tuple hq;obtain⟨u,hu,ru⟩:=rv.get hx;obtain⟨f0,f1,f2,f3,f4,f5⟩:=hf it (by simp);refine wpAny_pyNext_tuple_item st (show s.heap.IsTuple a aN.toArray from p) (x:=u) (by simpa using hu) λh' mw sb=>?_;have I1:Inv X pins σ H { s with heap:=h' }:=I.turned (t':=s.toks) (λb o hb e=>(sb.2 b hb).trans e) f0 f1 f3 f4 f5;obtain⟨o,e,c,d⟩:=id mw;exact⟨u,rfl,yx (s:={ s with heap:=h' }) e c d (by decide) ⟨x,H,I1,ru,⟨rfl,λys hy=>by rw[I.p9 hy hq];exact hx⟩,mw,λb hb=>(hf b hb).1⟩⟩
 done:=by
  intro X hP hw hK hc i pins s σ H E I hf st hg;subst hP hw hK;obtain⟨xs,hq,hx⟩:=hg;obtain⟨aN,rv,p,hz⟩:=I.tuple hq;obtain⟨f0,f1,f2,f3,f4,f5⟩:=hf it (by simp);have hl:=rv.length;exact wpAny_pyNext_tuple_end (I.ok.hd hc) st (show s.heap.IsTuple a aN.toArray from p) (by simp;left) λh' eb=>⟨rfl,I.turned (t':=s.toks) (λb o hb e=>eb b o hb e) f0 f1 f3 f4 f5⟩
 self:=λ_ _ _ _ _ st h=>wpAny_pyIter_tupleiter st h
theorem vI{w:World}(it:Addr)(lo:Int)(n:Nat):Turn P w K tg (Ax lo n) [it] it (λi h=>IsRangeIter h it (lo+(i:Nat)*1) ((n:Int) - (i:Nat)) 1) where
 mem:=by simp
 obj:=λi h st b hb=>by
  have e:b=it:=by simpa using hb
  subst e;exact⟨_,st,λv z=>by
   have z':Data.fields _=Data.cell v:=z;cases z'⟩
 keep:=λi h h' st k=>k it (by simp) _ st
 item:=by
  intro X hP hw hK hc i pins s σ H E I hf st hg;subst hP hw hK;obtain⟨f0,f1,f2,f3,f4,f5⟩:=hf it (by simp);have W:=Walks.range (prog:=X.prog) (w:=X.w) (I.ok.hd hc) it lo 1 n;refine W.item i s _ _ hg st λv h' tk hv mw kk=>?_;obtain⟨t,rfl⟩:=hv;have I1:Inv X pins σ H { s with heap:=h',toks:=tk }:=I.turned (λb o hb e=>kk b o (by simpa using hb) e) f0 f1 f3 f4 f5;refine⟨_,rfl,yx (s:={ s with heap:=h',toks:=tk }) (n:="range_iterator") mw rfl rfl (by decide) ⟨.int (lo+i),H,I1,⟨t,?_⟩,⟨rfl,rfl⟩,mw,λb hb=>(hf b hb).1⟩⟩;rw[Int.mul_one]
 done:=by
  intro X hP hw hK hc i pins s σ H E I hf st hg;subst hP hw hK;obtain⟨f0,f1,f2,f3,f4,f5⟩:=hf it (by simp);exact wpAny_pyNext_range_end (I.ok.hd hc) st (by have:n<=i:=hg;left) λh' eb=>⟨rfl,I.turned (t':=s.toks) (λb o hb e=>eb b o hb e) f0 f1 f3 f4 f5⟩
 self:=λ_ _ _ _ _ st h=>wpAny_pyIter_rangeiter st h
end L2
namespace L2
open PySem PySem.Spec PyProof.Rows
variable {H:Hp}{fp:aW}{lo:Int}{pos:Pos}{ta:TA}{σ:L2.St}
section
variable {X:Cx}{tg:Expr}
def P5(K:au)(tl:TE):TI:=λσ H R=>tl σ H λx H1=>∃a,x=.ref a/\(∃xs,dz K H1 a xs)/\R (NH K a) H1
def Ve(K:au)(tl:TE):TI:=λσ H R=>tl σ H λx H1=>∃a,x=.ref a/\(∃xs,bh K H1 a xs)/\R (NG K a) H1
theorem rm{l:Expr}{tl:TE}(hl:PE X l tl):PI X tg l (P5 X.K tl):=by
 intro pins s σ H R I h;refine cW (hl pins s σ H _ I h) λv s1 bW=>?_;obtain⟨x,H1,I1,r1,q1⟩:=bW;obtain⟨a,e,⟨xs,hq⟩,q⟩:=q1;subst e;cases r1;obtain⟨aN,rv,p,hz⟩:=I1.list hq;refine wpAny_pyIter_list p.isList ?_;refine⟨s1.heap.objs.size,[s1.heap.objs.size],_,_,H1,rfl,I1.kept (t':=s1.toks) λb o e=>aah _ e,zi a _,⟨_,aam _ rfl,rfl,rfl⟩,λb hb=>?_,q⟩;have e:b=s1.heap.objs.size:=by simpa using hb
 subst e;exact I1.Ac (aaj _) (I1.cm.fresh (aaj _))
theorem v5{l:Expr}{tl:TE}(hl:PE X l tl):PI X tg l (Ve X.K tl):=by
 intro pins s σ H R I h;refine cW (hl pins s σ H _ I h) λv s1 bW=>?_;obtain⟨x,H1,I1,r1,q1⟩:=bW;obtain⟨a,e,⟨xs,hq⟩,q⟩:=q1;subst e;cases r1;obtain⟨aN,rv,p,hz⟩:=I1.tuple hq;refine wpAny_pyIter_tuple (show s1.heap.IsTuple a aN.toArray from p) ?_;refine⟨s1.heap.objs.size,[s1.heap.objs.size],_,_,H1,rfl,I1.kept (t':=s1.toks) λb o e=>aah _ e,vH a _,⟨_,aam _ rfl,rfl,rfl⟩,λb hb=>?_,q⟩;have e:b=s1.heap.objs.size:=by simpa using hb
 subst e;exact I1.Ac (aaj _) (I1.cm.fresh (aaj _))
theorem t7{pins:ak}{s:Shared}{R:It->Hp->Prop}{E:aB}{hi:Int}{t u v:Tok}{tk:Nat}(I:Inv X pins σ H s)(h1:-(2 ^ 62)<=lo)(h2:lo<2 ^ 62)(h3:-(2 ^ 62)<=hi)(h4:hi<2 ^ 62)
  (q:R (Ax lo (hi - lo).toNat) H):wpAny (model X.prog X.w) X.A (pyIter (.ref s.heap.objs.size)) (Aw X pins σ tg R) E { s with heap:=s.heap.push { cls:=.type "range",data:=.fields #[.int lo t,.int hi u,.int 1 v] },toks:=tk }:=by
 refine wpAny_pyIter_range (IsRange.new ..) (small_one h1 h2 h3 h4) ?_;have I1:Inv X pins σ H { s with heap:=s.heap.push { cls:=.type "range",data:=.fields #[.int lo t,.int hi u,.int 1 v] },toks:=tk }:=I.kept λb o e=>aah _ e;refine⟨(s.heap.push { cls:=.type "range",data:=.fields #[.int lo t,.int hi u,.int 1 v] }).objs.size,[(s.heap.push { cls:=.type "range",data:=.fields #[.int lo t,.int hi u,.int 1 v] }).objs.size],_,_,H,rfl,
  I1.kept (t':=tk) λb o e=>aah _ e,vI _ lo (hi - lo).toNat,?_,λb hb=>?_,q⟩
 ·have e1:lo+((0:Nat):Int)*1=lo:=by simp
  have e2:(((hi - lo).toNat:Nat):Int) - ((0:Nat):Int)=Builtin.Range.rangeSize lo hi 1:=by rw[rangeSize_one];split<;>left
  show IsRangeIter _ _ (lo+((0:Nat):Int)*1) ((((hi - lo).toNat:Nat):Int) - ((0:Nat):Int)) 1;rw[e1,e2];exact aam _ rfl
 ·have e:b=(s.heap.push { cls:=.type "range",data:=.fields #[.int lo t,.int hi u,.int 1 v] }).objs.size:=by simpa using hb
  subst e;exact I1.Ac (aaj _) (I1.cm.fresh (aaj _))
def P4(ta:TA):TI:=λσ H R=>ta σ H λvs H1=>∃j:Int,vs=[.int j] /\ -(2 ^ 62)<=j/\j<2 ^ 62/\R (Ax 0 j.toNat) H1
def P0(ta:TA):TI:=λσ H R=>ta σ H λvs H1=>∃i j:Int,vs=[.int i,.int j]/\(-(2 ^ 62)<=i/\i<2 ^ 62 /\ -(2 ^ 62)<=j/\j<2 ^ 62)/\R (Ax i (j - i).toNat) H1
theorem lC{a:Expr}{p:Pos}(hg:Gl X "range")(hm:X.mg "range" = none)(ha:PA X [a] ta)(hs:starEach [a] X.env=[(false,eval a X.env)]:=by rfl):PI X tg (.Call (.Name "range" p) [a] [] pos) (P4 ta):=by
 intro pins s σ H R I h;refine Call_ (eh I hg hm boot_range (aas (cW (ha pos pins s σ H _ I h) λus s1 bW=>?_) hs rfl));obtain⟨vs,H1,I1,r1,q1⟩:=bW;obtain⟨j,e,q1,q2,q⟩:=q1;subst e;cases r1 with
 |cons r rr =>
  cases rr;obtain⟨t,rfl⟩:=r;exact call_range_1 (t7 I1 (by left) (by left) q1 q2 (by simpa using q))
theorem qj{a b:Expr}{p:Pos}(hg:Gl X "range")(hm:X.mg "range" = none)(ha:PA X [a,b] ta)(hs:starEach [a,b] X.env=[(false,eval a X.env),(false,eval b X.env)]:=by rfl)(Nc:starEach [b] X.env=[(false,eval b X.env)]:=by rfl):
  PI X tg (.Call (.Name "range" p) [a,b] [] pos) (P0 ta):=by
 intro pins s σ H R I h;refine Call_ (eh I hg hm boot_range (aas (cW (ha pos pins s σ H _ I h) λus s1 bW=>?_) (by rw[hs,Nc]) (by rw[Nc];rfl)));obtain⟨vs,H1,I1,r1,q1⟩:=bW;obtain⟨i,j,e,⟨q1,q2,q3,q4⟩,q⟩:=q1;subst e;cases r1 with
 |cons r rr =>
  cases rr with
  |cons r' rr =>
   cases rr;obtain⟨t,rfl⟩:=r;obtain⟨t',rfl⟩:=r';exact call_range_2 (t7 I1 q1 q2 q3 q4 q)
noncomputable def TN(wi:TI)(g:TG)(tb:TS):TS:=λD σ H=>wi σ H λJ H1=>∃W:Nat->Nat->St->Hp->Prop,(∃m,W 0 m σ H1)/\∀i m σ H,W i m σ H ->
 (J.stop i H/\D.nx σ H)\/(J.go i H/\∃N:St->Hp->Prop,(∀σ' H',N σ' H'->∃m',m'<m/\W (i+1) m' σ' H')/\∀x H',J.tj i H x H'->g x σ H' λσ2 H2=>tb { D with nx:=N,ct:=N,bk:=D.nx } σ2 H2)
noncomputable def iT(fp:aW)(h:Heap):ak:=fp.filterMap λb=>(h.get? b).map λo=>(b,o)
theorem g_{h:Heap}{b:Addr}{o:Obj}(hb:b∈fp)(e:h.get? b=some o):(b,o)∈iT fp h:=List.mem_filterMap.mpr ⟨b,hb,by rw[e];rfl⟩
theorem qk{h:Heap}{p:Addr×Obj}(hp:p∈iT fp h):p.1∈fp/\h.get? p.1=some p.2:=by
 obtain⟨b,hb,e⟩:=List.mem_filterMap.mp hp;cases q:h.get? b with
 |none=>rw[q]at e;cases e
 |some o =>
  rw[q]at e;have e':(b,o)=p:=aap e;subst e';exact⟨hb,q⟩
theorem Inv.pinned{pins:ak}{s:Shared}(I:Inv X pins σ H s)(hf:∀b∈fp,ph X pins H b)(ho:∀b∈fp,∃o,s.heap.get? b=some o/\∀v,o.data≠.cell v):Inv X (pins++iT fp s.heap) σ H s :=
 I.jm λp hp=>(List.mem_append.mp hp).elim (λz=>I.pin p (aal _ z)) λz=>by
  obtain⟨hb,e⟩:=qk z;obtain⟨f0,f1,f2,_⟩:=hf p.1 hb;obtain⟨o,e',d⟩:=ho p.1 hb;rw[e]at e';cases e';exact⟨e,f0,f1,f2,d⟩
theorem Inv.ki{pins pl:ak}{s:Shared}(I:Inv X (pins++pl) σ H s):Inv X pins σ H s:=I.jm λp hp=>I.pin p (aal _ (aay _ hp))
theorem g5{iter:Expr}{body:aZ}{wi:TI}{g:TG}{tb:TS}(hp:PassesOwn (model X.prog X.w) X.A X.env X.xe)(hc:X.calm=true)(hi:PI X tg iter wi)(hg:PG X tg g)(hb:fG X body tb)
  (hs:∀x,foldedSetIterable iter X.env x=pure x:=by intro _;rfl):PS X (.For tg iter body [] pos) (TN wi g tb):=by
 intro pins s σ H D I h;refine wpAny_For (cW (hi pins s σ H _ I h) λv s1 h1=>cW h1 λU5 s2 h2=>?_) hs;obtain⟨it,fp,tn,J,H2,e,I2,T,Ou,f2,W,⟨m0,w0⟩,turn⟩:=h2;subst e;have Jp:∀{H':Hp},(∀b∈fp,H' b=none)->∀b∈fp,ph X pins H' b:=λhn b hb=>⟨hn b hb,(f2 b hb).2⟩
 refine codeAny_forLoop_any (λn s'=>∃i σ' H',Inv X pins σ' H' s'/\tn i s'.heap/\(∀b∈fp,H' b=none)/\W i n σ' H') ?_ m0 ⟨0,σ,H2,I2,Ou,λb hb=>(f2 b hb).1,w0⟩;rintro n s3 ⟨i,σ3,H3,I3,st3,fr3,w3⟩;rcases turn i n σ3 H3 w3 with ⟨stop,qn⟩|⟨go,N,hN,step⟩
 ·refine aaW hp (cW (T.done X rfl rfl rfl hc i pins s3 σ3 H3 X.xe I3 (Jp fr3) st3 stop) λr s4 bW=>?_);obtain⟨hr,I4⟩:=bW;subst hr;exact abk ⟨σ3,H3,I4,qn⟩
 ·refine aaW hp (cW (T.item X rfl rfl rfl hc i pins s3 σ3 H3 X.xe I3 (Jp fr3) st3 go) λr s4 bW=>?_);obtain⟨u,hr,h4⟩:=bW;subst hr;refine aaW hp (cW h4 λ_ s5 bW=>?_);obtain⟨x,H5,I5,r5,y5,Jr,Wk⟩:=bW;have Xd:=I5.pinned (Jp Wk) (T.obj _ _ Jr);refine aaW hp (cW (hg _ s5 σ3 H5 x u _ Xd r5 (step x H5 y5)) λ_ s6 bW=>?_);obtain⟨σ6,H6,I6,q6⟩:=bW;refine aaW hp (cW (hb _ s6 σ6 H6 _ I6 q6) λf s7 q7=>?_);have again:∀{σ7:St} {H7:Hp},Inv X (pins++iT fp s5.heap) σ7 H7 s7->N σ7 H7->∃m,m<n/\∃i σ' H',Inv X pins σ' H' s7/\tn i s7.heap/\(∀b∈fp,H' b=none)/\W i m σ' H':=λ{σ7 H7} I7 n7=>by
   obtain⟨m',hm,w7⟩:=hN σ7 H7 n7;refine⟨m',hm,i+1,σ7,H7,I7.ki,T.keep _ _ _ Jr λb hb o e=>(I7.pin (b,o) (aal _ (aal _ (g_ hb e)))).1,λb hb=>?_,w7⟩;obtain⟨o,e,d⟩:=T.obj _ _ Jr b hb;exact(I7.pin (b,o) (aal _ (aal _ (g_ hb e)))).2.1
  cases f with
  |next=>obtain⟨σ7,H7,I7,n7⟩:=q7;exact again I7 n7
  |cont=>obtain⟨σ7,H7,I7,n7⟩:=q7;exact again I7 n7
  |brk=>obtain⟨σ7,H7,I7,q7⟩:=q7;exact⟨σ7,H7,I7.ki,q7⟩
  |ret v=>obtain⟨x7,σ7,H7,I7,r7,q7⟩:=q7;exact⟨x7,σ7,H7,I7.ki,r7,q7⟩
end
variable {K:au}{xs:af}
theorem uK{a:Addr}{g:TG}{tb:TS}{D:Ends}(Pv:Nat->St->Hp->Prop)(h0:Pv 0 σ H)(hl:∀i σ H,i<=xs.length->Pv i σ H->dz K H a xs)
  (hs:∀i x σ H,xs[i]?=some x->Pv i σ H->g x σ H λσ2 H2=>tb { D with nx:=Pv (i+1),ct:=Pv (i+1),bk:=D.nx } σ2 H2) (hd:∀σ H,Pv xs.length σ H->D.nx σ H) :
  ∃W:Nat->Nat->St->Hp->Prop,(∃m,W 0 m σ H)/\∀i m σ H,W i m σ H ->
   ((NH K a).stop i H/\D.nx σ H)\/((NH K a).go i H/\∃N:St->Hp->Prop,(∀σ' H',N σ' H'->∃m',m'<m/\W (i+1) m' σ' H')/\∀x H',(NH K a).tj i H x H'->g x σ H' λσ2 H2=>tb { D with nx:=N,ct:=N,bk:=D.nx } σ2 H2):=by
 refine⟨λi m σ H=>m=xs.length - i/\i<=xs.length/\Pv i σ H,⟨xs.length,by simp,aaC _,h0⟩,?_⟩;rintro i m σ H ⟨rfl,hi,p⟩;have q:=hl i σ H hi p;by_cases fZ:i<xs.length
 ·refine .inr ⟨⟨xs,xs[i],q,by simp[fZ]⟩,Pv (i+1),λσ' H' p'=>⟨xs.length - (i+1),by left,rfl,fZ,p'⟩,λx H' y=>?_⟩;obtain⟨e,y⟩:=y;subst e;exact hs i x σ _ (y xs q) p
 ·have e:i=xs.length:=by left
  subst e;exact .inl ⟨⟨xs,q,aaj _⟩,hd σ H p⟩
theorem yD{a:Addr}{g:TG}{tb:TS}{D:Ends}(Pv:Nat->St->Hp->Prop)(h0:Pv 0 σ H)(hl:∀i σ H,i<=xs.length->Pv i σ H->bh K H a xs)
  (hs:∀i x σ H,xs[i]?=some x->Pv i σ H->g x σ H λσ2 H2=>tb { D with nx:=Pv (i+1),ct:=Pv (i+1),bk:=D.nx } σ2 H2) (hd:∀σ H,Pv xs.length σ H->D.nx σ H) :
  ∃W:Nat->Nat->St->Hp->Prop,(∃m,W 0 m σ H)/\∀i m σ H,W i m σ H ->
   ((NG K a).stop i H/\D.nx σ H)\/((NG K a).go i H/\∃N:St->Hp->Prop,(∀σ' H',N σ' H'->∃m',m'<m/\W (i+1) m' σ' H')/\∀x H',(NG K a).tj i H x H'->g x σ H' λσ2 H2=>tb { D with nx:=N,ct:=N,bk:=D.nx } σ2 H2):=by
 refine⟨λi m σ H=>m=xs.length - i/\i<=xs.length/\Pv i σ H,⟨xs.length,by simp,aaC _,h0⟩,?_⟩;rintro i m σ H ⟨rfl,hi,p⟩;have q:=hl i σ H hi p;by_cases fZ:i<xs.length
 ·refine .inr ⟨⟨xs,xs[i],q,by simp[fZ]⟩,Pv (i+1),λσ' H' p'=>⟨xs.length - (i+1),by left,rfl,fZ,p'⟩,λx H' y=>?_⟩;obtain⟨e,y⟩:=y;subst e;exact hs i x σ _ (y xs q) p
 ·have e:i=xs.length:=by left
  subst e;exact .inl ⟨⟨xs,q,aaj _⟩,hd σ H p⟩
theorem qv{n:Nat}{g:TG}{tb:TS}{D:Ends}(Pv:Nat->St->Hp->Prop)(h0:Pv 0 σ H)
  (hs:∀i σ H,i<n->Pv i σ H->g (.int (lo+i)) σ H λσ2 H2=>tb { D with nx:=Pv (i+1),ct:=Pv (i+1),bk:=D.nx } σ2 H2) (hd:∀σ H,Pv n σ H->D.nx σ H) :
  ∃W:Nat->Nat->St->Hp->Prop,(∃m,W 0 m σ H)/\∀i m σ H,W i m σ H ->
   ((Ax lo n).stop i H/\D.nx σ H)\/((Ax lo n).go i H/\∃N:St->Hp->Prop,(∀σ' H',N σ' H'->∃m',m'<m/\W (i+1) m' σ' H')/\∀x H',(Ax lo n).tj i H x H'->g x σ H' λσ2 H2=>tb { D with nx:=N,ct:=N,bk:=D.nx } σ2 H2):=by
 refine⟨λi m σ H=>m=n - i/\i<=n/\Pv i σ H,⟨n,by simp,aaC _,h0⟩,?_⟩;rintro i m σ H ⟨rfl,hi,p⟩;by_cases fZ:i<n
 ·refine .inr ⟨fZ,Pv (i+1),λσ' H' p'=>⟨n - (i+1),by left,rfl,fZ,p'⟩,λx H' y=>?_⟩;obtain⟨e,y⟩:=y;subst e y;exact hs i σ _ fZ p
 ·have e:i=n:=by left
  subst e;exact .inl ⟨aaj _,hd σ H p⟩
end L2
namespace L2
open PySem PySem.Spec PyProof.Rows
noncomputable abbrev R2:=V->V->Hp->VK->Prop
def jZ(X:Cx)(f:Value->Value->Sem Value)(r:R2):Prop :=
 ∀(pins:ak) (s:Shared) (σ:St) (H:Hp) (x y:V) (v u:Value) (Q:VK),Inv X pins σ H s->RelV x v->RelV y u->r x y H Q ->
  wpAny (model X.prog X.w) X.A (f v u) (EP X pins σ Q) X.xe s
def W6(X:Cx)(f:Value->Sem Value)(r:V->Hp->VK->Prop):Prop :=
 ∀(pins:ak) (s:Shared) (σ:St) (H:Hp) (x:V) (v:Value) (Q:VK),Inv X pins σ H s->RelV x v->r x H Q ->
  wpAny (model X.prog X.w) X.A (f v) (EP X pins σ Q) X.xe s
def fX(X:Cx)(f:Value)(r:af->Hp->VK->Prop):Prop :=
 ∀(pins:ak) (s:Shared) (σ:St) (H:Hp) (xs:af) (us:ao) (Q:VK),Inv X pins σ H s->Vals xs us->r xs H Q ->
  wpAny (model X.prog X.w) X.A (call f us) (EP X pins σ Q) X.xe s
noncomputable def Hw(r:R2)(ta tb:TE):TE:=λσ H Q=>ta σ H λx H1=>tb σ H1 λy H2=>r x y H2 Q
noncomputable def Zj(r:V->Hp->VK->Prop)(ta:TE):TE:=λσ H Q=>ta σ H λx H1=>r x H1 Q
noncomputable def rI(C:Int->Int->Prop)(g:Int->Int->V):R2:=λx y H Q=>∃i j,x=.int i/\y=.int j/\C i j/\Q (g i j) H
noncomputable def BG(g:Int->Int->V):R2:=λx y H Q=>∃i j,x=.int i/\y=.int j/\Q (g i j) H
noncomputable def rU(g:Int->V):V->Hp->VK->Prop:=λx H Q=>∃i,x=.int i/\Q (g i) H
variable {H:Hp}{σ:L2.St}
section
variable {X:Cx}{a b c:Expr}{ta tb tc:TE}{pos:Pos}
theorem ME(ha:PE X a ta)(hb:PE X b tb){pins:ak}{s:Shared}{R:V->V->Hp->Prop}(I:Inv X pins σ H s)
  (h:ta σ H λx H1=>tb σ H1 λy H2=>R x y H2) {Q:aB} {f:Value->Value->Sem Value}
  (hf:∀v u s2 x y H2,Inv X pins σ H2 s2->RelV x v->RelV y u->R x y H2->wpAny (model X.prog X.w) X.A (f v u) Q X.xe s2) :
  wpAny (model X.prog X.w) X.A (eval a X.env) (λv s₁=>wpAny (model X.prog X.w) X.A (eval b X.env) (λu s₂=>wpAny (model X.prog X.w) X.A (f v u) Q X.xe s₂) X.xe s₁) X.xe s:=by
 refine cW (ha pins s σ H _ I h) λv s1 bW=>?_;obtain⟨x,H1,I1,r1,q1⟩:=bW;refine cW (hb pins s1 σ H1 _ I1 q1) λu s2 bW=>?_;obtain⟨y,H2,I2,r2,q2⟩:=bW;exact hf v u s2 x y H2 I2 r1 r2 q2
theorem BX{op:Operator}{r:R2}(ho:jZ X (binaryOp op) r)(ha:PE X a ta)(hb:PE X b tb):PE X (.BinOp a op b pos) (Hw r ta tb):=by
 intro pins s σ H Q I h;exact wpAny_BinOp (ME ha hb I h λv u s2 x y H2 I2 rx ry q=>ho pins s2 σ H2 x y v u Q I2 rx ry q)
theorem OX{op:UnaryOp}{r:V->Hp->VK->Prop}(ho:W6 X (unaryOp op) r)(ha:PE X a ta):PE X (.UnaryOp op a pos) (Zj r ta):=by
 intro pins s σ H Q I h;exact UnaryOp_ (cW (ha pins s σ H _ I h) λv s1 ⟨x,H1,I1,r1,q1⟩=>ho pins s1 σ H1 x v Q I1 r1 q1)
theorem Kg{f:Value->Value->Sem Value}{C:Int->Int->Prop}{g:Int->Int->Int}
  (rule:∀(i j:Int) (t u:Tok) (s:Shared) (Q:aB) (E:aB),C i j->Q (.int (g i j) s.toks) { s with toks:=s.toks+1 }->wpAny (model X.prog X.w) X.A (f (.int i t) (.int j u)) Q E s) :
  jZ X f (rI C λi j=>.int (g i j)):=by
 intro pins s σ H x y v u Q I rx ry h;obtain⟨i,j,rfl,rfl,hc,q⟩:=h;obtain⟨t,rfl⟩:=rx;obtain⟨t',rfl⟩:=ry;exact rule i j t t' s _ _ hc ⟨.int (g i j),H,I.tok _,⟨_,rfl⟩,q⟩
theorem UH{f:Value->Value->Sem Value}{g:Int->Int->Int}
  (rule:∀(i j:Int) (t u:Tok) (s:Shared) (Q:aB) (E:aB),Q (.int (g i j) s.toks) { s with toks:=s.toks+1 }->wpAny (model X.prog X.w) X.A (f (.int i t) (.int j u)) Q E s) :
  jZ X f (BG λi j=>.int (g i j)):=by
 intro pins s σ H x y v u Q I rx ry h;obtain⟨i,j,rfl,rfl,q⟩:=h;obtain⟨t,rfl⟩:=rx;obtain⟨t',rfl⟩:=ry;exact rule i j t t' s _ _ ⟨.int (g i j),H,I.tok _,⟨_,rfl⟩,q⟩
theorem FI{f:Value->Value->Sem Value}{g:Int->Int->Bool}
  (rule:∀(i j:Int) (t u:Tok) (s:Shared) (Q:aB) (E:aB),Q (.bool (g i j)) s->wpAny (model X.prog X.w) X.A (f (.int i t) (.int j u)) Q E s) :
  jZ X f (BG λi j=>.bl (g i j)):=by
 intro pins s σ H x y v u Q I rx ry h;obtain⟨i,j,rfl,rfl,q⟩:=h;obtain⟨t,rfl⟩:=rx;obtain⟨t',rfl⟩:=ry;exact rule i j t t' s _ _ ⟨.bl (g i j),H,I,rfl,q⟩
theorem vG(k:Nat):(0:Int)<=2 ^ k:=by
 rw[two_pow_cast];exact Int.natCast_nonneg _
theorem Kf:jZ X (binaryOp .Add) (BG λi j=>.int (i+j)):=UH λ_ _ _ _ _ _ _ q=>add_int q
theorem FF:jZ X (binaryOp .Mod) (rI (λ_ j=>j≠0) λi j=>.int (i.fmod j)):=Kg λ_ _ _ _ _ _ _ hc q=>mod_int' hc q
theorem J_:jZ X (binaryOp .RShift) (rI (λ_ j=>0<=j) λi j=>.int (i / 2 ^ j.toNat)):=Kg λi j _ _ _ _ _ hc q =>
 rshift_int hc (by rw[Int.fdiv_eq_ediv_of_nonneg i (vG _)];exact q)
theorem Zb{f:Value->Sem Value}{g:Int->Int}
  (rule:∀(i:Int) (t:Tok) (s:Shared) (Q:aB) (E:aB),Q (.int (g i) s.toks) { s with toks:=s.toks+1 }->wpAny (model X.prog X.w) X.A (f (.int i t)) Q E s) :
  W6 X f (rU λi=>.int (g i)):=by
 intro pins s σ H x v Q I rx h;obtain⟨i,rfl,q⟩:=h;obtain⟨t,rfl⟩:=rx;exact rule i t s _ _ ⟨.int (g i),H,I.tok _,⟨_,rfl⟩,q⟩
theorem Jf:W6 X (unaryOp .USub) (rU λi=>.int (-i)):=Zb λ_ _ _ _ _ q=>neg_int q
end
variable {us:ao}
section
variable {X:Cx}{a b c:Expr}{ta tb tc:TE}{pos:Pos}
theorem Dg{pins:ak}{s:Shared}{Q:VK}{k k':Bool}(I:Inv X pins σ H s)(q:Q (.bl k) H)(e:k=k'):EP X pins σ Q (.bool k') s:=by
 subst e;exact⟨.bl k,H,I,rfl,q⟩
theorem O5:jZ X (compareOp .Lt) (BG λi j=>.bl (decide (i<j))):=FI λ_ _ _ _ _ _ _ q=>lt_int q
theorem O6:jZ X (compareOp .LtE) (BG λi j=>.bl (decide (i<=j))):=FI λ_ _ _ _ _ _ _ q=>le_int q
theorem O7:jZ X (compareOp .Gt) (BG λi j=>.bl (decide (j<i))):=FI λ_ _ _ _ _ _ _ q=>gt_int q
theorem O8:jZ X (compareOp .GtE) (BG λi j=>.bl (decide (j<=i))):=FI λ_ _ _ _ _ _ _ q=>ge_int q
theorem Kc:jZ X (compareOp .Is) (λx y H Q=>y=.bu/\Q (.bl (decide (x=.bu))) H):=by
 intro pins s σ H x y v u Q I rx ry h;obtain⟨rfl,q⟩:=h;cases ry;refine is_none_gen (Dg I q ?_);cases x<;>first
  | (cases rx;rfl)
  | (obtain⟨t,rfl⟩:=rx;rfl)
theorem FD:jZ X (compareOp .IsNot) (λx y H Q=>y=.bu/\Q (.bl (!decide (x=.bu))) H):=by
 intro pins s σ H x y v u Q I rx ry h;obtain⟨rfl,q⟩:=h;cases ry;refine isnot_none_gen (Dg I q ?_);cases x<;>first
  | (cases rx;rfl)
  | (obtain⟨t,rfl⟩:=rx;rfl)
theorem jZ.or{f:Value->Value->Sem Value}{r r':R2}(h:jZ X f r)(h':jZ X f r'):jZ X f (λx y H Q=>r x y H Q\/r' x y H Q):=by
 intro pins s σ H x y v u Q I rx ry q;rcases q with q|q
 ·exact h pins s σ H x y v u Q I rx ry q
 ·exact h' pins s σ H x y v u Q I rx ry q
theorem Ca(b:Expr){op:CmpOp}(h:op≠.In:=by decide)(h2:op≠.NotIn:=by decide):behindInMarks op b=false:=by
 have e1:(op==CmpOp.In)=false:=by cases op<;>first|rfl|exact absurd rfl h
 have e2:(op==CmpOp.NotIn)=false:=by cases op<;>first|rfl|exact absurd rfl h2
 cases b<;>simp[behindInMarks,e1,e2]
theorem xZ{op:CmpOp}{r:R2}(ho:jZ X (compareOp op) r)(ha:PE X a ta)(hb:PE X b tb)(hm:behindInMarks op b=false):PE X (.Compare a [op] [b] pos) (Hw r ta tb):=by
 intro pins s σ H Q I h;exact wpAny_Compare1 (ME ha hb I h λv u s2 x y H2 I2 rx ry q=>ho pins s2 σ H2 x y v u Q I2 rx ry q) hm
noncomputable def Hv(t:TE):TT:=λσ H Q=>t σ H λx H'=>∃k,x=.bl k/\Q k H'
theorem xQ{op:CmpOp}{r:R2}(ho:jZ X (compareOp op) r)(ha:PE X a ta)(hb:PE X b tb)(hm:behindInMarks op b=false):PT X (.Compare a [op] [b] pos) (Hv (Hw r ta tb)):=by
 intro pins s σ H Q I h;refine wpAny_isTrue_Compare1 (cW (ha pins s σ H _ I h) λv s1 ⟨x,H1,I1,r1,q1⟩=>cW (hb pins s1 σ H1 _ I1 q1) λu s2 ⟨y,H2,I2,r2,q2⟩ =>
  cW (ho pins s2 σ H2 x y v u _ I2 r1 r2 q2) λc s3 ⟨z,H3,I3,r3,k,e,q3⟩=>?_) hm
 subst e;cases r3;exact aaM ⟨H3,I3,q3⟩
theorem rH:(sizeLine:Nat)<2 ^ 63:=by rw[sizeLine_eq];decide
theorem vals1{x:V}(r:Vals [x] us):∃u,us=[u]/\RelV x u:=by
 cases r with
 |cons r1 r2=>cases r2;exact⟨_,rfl,r1⟩
theorem vals2{x y:V}(r:Vals [x,y] us):∃u w',us=[u,w']/\RelV x u/\RelV y w':=by
 cases r with
 |cons r1 r2 =>
  cases r2 with
  |cons r3 r4=>cases r4;exact⟨_,_,rfl,r1,r3⟩
theorem DS:fX X (.builtin "abs") (λxs H Q=>∃i,xs=[.int i]/\Q (.int (if i<0 then -i else i)) H):=by
 intro pins s σ H xs us Q I r h;obtain⟨i,rfl,q⟩:=h;obtain⟨u,rfl,t,rfl⟩:=vals1 r;exact call_abs_int λu tk=>⟨.int (if i<0 then -i else i),H,I.tok _,⟨_,rfl⟩,q⟩
theorem An:fX X (.type "int") (λxs H Q=>(∃i,xs=[.int i]/\Q (.int i) H)\/∃k,xs=[.bl k]/\Q (.int (if k then 1 else 0)) H):=by
 intro pins s σ H xs us Q I r h;rcases h with ⟨i,rfl,q⟩|⟨k,rfl,q⟩
 ·obtain⟨u,rfl,t,rfl⟩:=vals1 r;exact call_int_int ⟨.int i,H,I,⟨_,rfl⟩,q⟩
 ·obtain⟨u,rfl,r1⟩:=vals1 r;cases r1;exact call_int_bool ⟨.int (if k then 1 else 0),H,I.tok _,⟨_,rfl⟩,q⟩
end
end L2
namespace L2
open PySem PySem.Spec PyProof.Rows
structure abO(h:Heap)(x dx C:Addr)(mA:aU):Prop where
 obj:h.get? x=some (PySem.W.instObj C dx)
 ns:h.Ns1 dx mA
 ne:dx≠x
section
variable {prog:aH}{w:World}{A:aK}{E:aB}{s:Shared}{K:au}{x dx C f:Addr}{mA:aU}{name:Str}{v:Value}
end
theorem o9.some_of{v:V}{o:Option Value}(r:o9 (some v) o):∃u,o=some u/\RelV v u:=by
 cases o with
 |none=>exact(show False from r).elim
 |some u=>exact⟨u,rfl,r⟩
theorem o9.none_of{o:Option Value}(r:o9 none o):o=none:=by
 cases o with
 |none=>rfl
 |some u=>exact(show False from r).elim
section
variable {P:aH}{w:World}{H H':Hp}{h h':Heap}{a C dx:Addr}{fs fs':List (Str×V)}
end
structure RM(K:au)(C:Addr):Prop where
 pg:PySem.W.plainGet K C Str.empty=true
 hd:PySem.W.hasDictIn K C=true
 po:PySem.W.plainOver K C=true
 sa:PySem.W.findIn K (.ref C) "__setattr__" = some (some (.builtin "object.__setattr__"))
structure Con(K:au)(C:Addr)(f:Str)(v:V)(u:Value):Prop where
 at_:PySem.W.findIn K (.ref C) f=some (some u)
 rel:RelV v u
 get:PySem.W.specialIn K u "__get__" = some none
 cp:PySem.W.copiedNames.contains f=false
structure Meth(K:au)(C:Addr)(m:Str)(f:Addr):Prop where
 at_:PySem.W.findIn K (.ref C) m=some (some (.ref f))
 fn:PySem.W.isFn K (.ref f)=true
 kp:PySem.W.keepIn K (.ref f)=true
section
variable {X:Cx}{pins:ak}{σ:St}{H:Hp}{s:Shared}{a C dx:Addr}{fs:List (Str×V)}{f:Str}{v:V}{A:aK}{E:aB}
end
section
variable {X:Cx}{o e value:Expr}{f:Str}{pos pos' Zg:Pos}{ta tv:TE}
end
section
variable {X:Cx}{pins:ak}{σ:St}{H:Hp}{s:Shared}{A:aK}{E:aB}{Q:aB}{c:Value}{b:Bool}
inductive oZ(K:au)(H:Hp):V->Value->Prop where
 |bu:oZ K H .bu (.type "NoneType")
 |bl (x:Bool):oZ K H (.bl x) (.type "bool")
 |int (i:Int):oZ K H (.int i) (.type "int")
 |str (x:Str):oZ K H (.str x) (.type "str")
 |Q8 (x:UInt64):oZ K H (.Q8 x) (.type "float")
 |lst {a:Addr} {xs:af} (e:H a=some (.lst xs)):oZ K H (.ref a) (.type "list")
 |hU {a:Addr} {o:Obj} {xs:af} (e:H a=some (.hU o (.lst xs))):oZ K H (.ref a) (.type "list")
 |tup {a:Addr} {xs:af} (e:H a=some (.tup xs)):oZ K H (.ref a) (.type "tuple")
 |dK {a:Addr} {mD:List (Key×V)} (e:H a=some (.dK mD)):oZ K H (.ref a) (.type "dict")
 |dT {a:Addr} {mD:List (List Key×V)} (e:H a=some (.dT mD)):oZ K H (.ref a) (.type "dict")
 |ins {a C dx:Addr} {fs:List (Str×V)} (e:H a=some (.ins C dx fs)) (cl:RM K C) (ha:PySem.W.findIn K (.ref C) "__class__" = some (some (.builtin "object.__class__")))
   (hn:PySem.W.specialIn K (.builtin "object.__class__") "__get__" = some (some (.builtin "getset_descriptor.__get__"))) (htk:PySem.W.takesIn K (.builtin "object.__class__")=some true)
   (hm:PySem.W.mroIn K C (.type "object")=some true):oZ K H (.ref a) (.ref C)
end
end L2
namespace L2
open PySem PySem.Spec PyProof.Rows
structure f9(k:Nat)(A:aK):Prop where
 hd:A.handled=none
 dp:A.depth+3*k+5<recursionLimit
 un:A.units+16*k+200<cLine
variable {A:aK}
theorem f9.mono{j k:Nat}(r:f9 k A)(h:j<=k):f9 j A:=⟨r.hd,by have:=r.dp;left,by have:=r.un;left⟩
theorem f9.deeper{k:Nat}{A:aK}(r:f9 (k+1) A)(env:Env):f9 k (A.deeper env) :=
 ⟨r.hd,by have:=r.dp;show A.depth+1+3*k+5<_;left,by have:=r.un;show A.units+3+16*k+200<_;left⟩
theorem f9.depth{k:Nat}{A:aK}(r:f9 k A):A.depth<recursionLimit:=by have:=r.dp;left
theorem f9.units{k:Nat}{A:aK}(r:f9 k A):A.units+64<cLine:=by have:=r.un;left
noncomputable def N_:TA:=λ_ H Q=>Q [] H
noncomputable def Hy(ta:TE)(tr:TA):TA:=λσ H Q=>ta σ H λx H1=>tr σ H1 λxs H2=>Q (x::xs) H2
section
variable {X:Cx}{e:Expr}{es:aA}{te:TE}{t:TA}{pos:Pos}
theorem d_:PA X [] N_:=λ_ _ _ _ H Q I h=>abB ⟨[],H,I,.nil,h⟩
theorem cD(ha:PE X e te)(hr:PA X es t)(hs:starEach (e::es) X.env=(false,eval e X.env)::starEach es X.env:=by rfl):PA X (e::es) (Hy te t):=by
 intro pos pins s σ H Q I h;rw[hs];show wpAny _ _ (spliced ((false,eval e X.env)::backTo pos (starEach es X.env))) _ _ s;refine abn (cW (ha pins s σ H _ I h) λu s1 bW=>?_);obtain⟨x,H1,I1,r1,q1⟩:=bW;exact cW (hr pos pins s1 σ H1 _ I1 q1) λus s2 ⟨xs,H2,I2,r2,q2⟩=>⟨x::xs,H2,I2,.cons r1 r2,q2⟩
def Tx(t:TA):TE:=λσ H Q=>t σ H λxs H1=>xs.length<=sizeLine/\∀p,H1 p=none->Q (.ref p) (upd H1 p (.tup xs))
def TJ(t:TA):TE:=λσ H Q=>t σ H λxs H1=>xs.length<=sizeLine/\∀p,H1 p=none->Q (.ref p) (upd H1 p (.lst xs))
theorem JY{x1}(h:PA X es t):PE X (.Tuple es x1 pos) (Tx t):=by
 intro pins s σ H Q I hq;refine wpAny_Tuple_spliced (cW (h pos pins s σ H _ I hq) λus s1 ⟨xs,H1,I1,r,z,q⟩=>⟨by rw[<- r.length];exact z,?_⟩);have hf:H1 s1.heap.objs.size=none:=I1.cm.fresh (aaj _);refine⟨.ref s1.heap.objs.size,upd H1 s1.heap.objs.size (.tup xs),I1.laid (t':=s1.toks) (λb u e=>aah _ e) (aaj _) ?_,rfl,q _ hf⟩;exact⟨z,us,r,⟨_,aam _ rfl,rfl,_,rfl⟩⟩
theorem J2(h:PA X es t):PE X (.List es pos) (TJ t):=by
 intro pins s σ H Q I hq;refine wpAny_List_spliced (cW (h pos pins s σ H _ I hq) λus s1 ⟨xs,H1,I1,r,z,q⟩=>⟨by rw[<- r.length];exact z,?_⟩);have hf:H1 s1.heap.objs.size=none:=I1.cm.fresh (aaj _);refine⟨.ref s1.heap.objs.size,upd H1 s1.heap.objs.size (.lst xs),I1.laid (t':=s1.toks) (λb u e=>aah _ e) (aaj _) ?_,rfl,q _ hf⟩;exact⟨z,us,0,r,aam _ rfl⟩
end
noncomputable abbrev Sp:=af->Hp->VK->XK->Prop
noncomputable abbrev vy:=List Env->Hp->Shared->XK->aB
structure Hm(P:aH)(w:World)(K:au)(mg:aU)(base:Heap)(A:aK)(outer:List Env)(s:Shared)(H:Hp):Prop where
 frames:A.frames=some outer
 mod:Mod K mg base
 bs:∀b o,base.get? b=some o->s.heap.get? b=some o/\H b=none
 DV:base.objs.size<=s.heap.objs.size
 jO:s.heap.FunFrames base outer
 AH:∀b∈lJ outer,H b=none
 cm:jb P w H s.heap
 bare:AllBare s.gens
def CE(outer:List Env)(P:aH)(w:World)(H:Hp)(s:Shared)(Q:VK)(u:Value)(s':Shared):Prop :=
 ∃v H',s'.os=s.os/\AllBare s'.gens/\Un (lJ outer) [] H H' s.heap s'.heap/\jb P w H' s'.heap/\RelV v u/\Q v H'
noncomputable def CR(CX:vy)(outer:List Env)(P:aH)(w:World)(H:Hp)(s:Shared)(Q:VK)(E:XK)(r:Result)(s':Shared):Prop :=
 match r with
 |.ok (.ret u)=>CE outer P w H s Q u s'
 |.ok _=>False
 |.error e=>CX outer H s E e s'
structure f_(P:aH)(w:World)(K:au)(mg:aU)(base:Heap)(CX:vy)(k:Nat)(f:Addr)(fd:FuncData)(ps:aq)(sp:Sp):Prop where
 len:∀vs H Q E,sp vs H Q E->vs.length=ps.length
 run:∀(A:aK) (outer:List Env) (s:Shared) (H:Hp) (args:Args) (us:ao) (vs:af) (Q:VK) (E:XK),f9 k A->Hm P w K mg base A outer s H->BindsTo s fd args (ps.zip us)->Vals vs us->sp vs H Q E ->
  codeAny (model P w) A (.call (.ref f) args) (CR CX outer P w H s Q E) s
theorem f_.mono{P:aH}{w:World}{K:au}{mg:aU}{base:Heap}{CX:vy}{j k:Nat}{f:Addr}{fd:FuncData}{ps:aq}{sp:Sp}(F:f_ P w K mg base CX j f fd ps sp)(h:j<=k):
  f_ P w K mg base CX k f fd ps sp:=⟨F.len,λA outer s H args us vs Q E hr=>F.run A outer s H args us vs Q E (hr.mono h)⟩
variable {Q:VK}
section
variable {X:Cx}{pins:ak}{σ:St}{H:Hp}{s s':Shared}
theorem Inv.Rf(I:Inv X pins σ H s):Hm X.prog X.w X.K X.mg X.base X.A X.stack s H :=
 ⟨I.ok.frames,I.ok.mod,I.bs,aaB I.ok.DV I.sz,I.stack,I.gY,I.cm,I.bare⟩
theorem Inv.after{u:Value}(I:Inv X pins σ H s)(h:CE X.stack X.prog X.w H s Q u s'):EP X pins σ Q u s':=by
 obtain⟨v,H',os,bare,un,cm,r,q⟩:=h;obtain⟨hh,g,d,t,UG⟩:=s';obtain rfl:UG=s.os:=os;exact⟨v,H',I.call (h':=hh) (g':=g) (d':=d) (t':=t) (ch:=[]) un cm bare (λb z=>absurd z (by simp)),r,q⟩
end
noncomputable def Oc(sp:Sp)(eQ:af)(E:XK)(t:TA):TE:=λσ H Q=>t σ H λvs H1=>sp (vs++eQ) H1 Q E
noncomputable def Binds(K:au)(fd:FuncData)(ps:aq)(ds:ao):Prop :=
 ∀(s:Shared) (us:ao),K.In s.heap->(us++ds).length=ps.length->BindsTo s fd ⟨us,[]⟩ (ps.zip (us++ds))
variable {K:au}{ps:aq}
theorem Binds.all{fd:FuncData}(h:∀us:ao,us.length=ps.length->bindArgs fd ⟨us,[]⟩=pure (ps.zip us)):Binds K fd ps []:=λs us _ hl=>by
 rw[List.append_nil]at hl ⊢;exact .of_eq (h us hl)
def Passes(CX:vy)(X:Cx)(E:XK):Prop:=∀(pins:ak) (σ:St) (H:Hp) (s:Shared) (e:Value) (s':Shared),Inv X pins σ H s->CX X.stack H s E e s'->X.xe e s'
variable {H:Hp}{us:ao}{vs:af}
section
variable {X:Cx}{CX:vy}{k:Nat}{f C:Addr}{fd:FuncData}{ps:aq}{sp:Sp}{eQ:af}{ds:ao}{E:XK}{x m:Str}{p pos apos:Pos}{e o:Expr}{es:aA}{ta:TE}{t:TA}
theorem JI{pins:ak}{σ:St}{s:Shared}(F:f_ X.prog X.w X.K X.mg X.base CX k f fd ps sp)(hr:f9 k X.A)(hb:Binds X.K fd ps ds)(hd:Vals eQ ds)(hx:Passes CX X E)
  (I:Inv X pins σ H s) (r:Vals vs us) (h:sp (vs++eQ) H Q E):wpAny (model X.prog X.w) X.A (call (.ref f) us) (EP X pins σ Q) X.xe s:=by
 have r2:Vals (vs++eQ) (us++ds):=r.append hd;have hl:(us++ds).length=ps.length:=by rw[<- r2.length];exact F.len _ _ _ _ h
 refine wpAny_call (abo (F.run X.A X.stack s H ⟨us,[]⟩ (us++ds) (vs++eQ) Q E hr I.Rf (hb s us I.wk hl) r2 h) λr s' hq=>?_);cases r with
 |error e=>exact hx pins σ H s e s' I hq
 |ok fl =>
  cases fl with
  |ret u=>exact I.after hq
  |next=>exact False.elim hq
  |brk=>exact False.elim hq
  |cont=>exact False.elim hq
theorem x3(F:f_ X.prog X.w X.K X.mg X.base CX k f fd ps sp)(hr:f9 k X.A)(hg:Gl X x)(hm:X.mg x=some (.ref f))(hk:PySem.W.keepIn X.K (.ref f)=true)(hb:Binds X.K fd ps ds)(hd:Vals eQ ds)(hx:Passes CX X E)
  (ha:PA X (e::es) t) (QC:(x==("__debug__" : Str))=false:=by decide) (he:starEach (e::es) X.env=(false,eval e X.env)::starEach es X.env:=by rfl) (hpl:(backTo pos (starEach es X.env)).any (·.1)=false:=by rfl) :
  PE X (.Call (.Name x p) (e::es) [] pos) (Oc sp eQ E t):=by
 intro pins s σ H Q I h;refine aaG (mW I hg hm ?_ QC);refine PySem.W.callWith_K (h₀:=X.base) I.ok.mod.Sn hk (cW (ha pos pins s σ H _ I h) λus s1 ⟨vs,H1,I1,r,q⟩=>⟨I1.wk,?_⟩) he hpl;exact JI F hr hb hd hx I1 r q
structure Mk(K:au)(C f:Addr):Prop where
 makes:PySem.W.makesIn K C=true
 init:PySem.W.findIn K (.ref C) "__init__" = some (some (.ref f))
 fn:PySem.W.isFn K (.ref f)=true
 kp:PySem.W.keepIn K (.ref C)=true
end
section
variable {X:Cx}{CX:vy}{k:Nat}{f C:Addr}{fd:FuncData}{ps ks:aq}{sp:Sp}{E:XK}{x m:Str}{p pos apos Z5:Pos}{e o:Expr}{es:aA}{kws:List Keyword}{te ta:TE}{t tk:TA}{nm:Option Str}
structure W_(K:au)(fd:FuncData)(ps ks:aq)(g:ao->ao->ao)(gV:af->af->af):Prop where
 to:∀(s:Shared) (us ws:ao),K.In s.heap->(g us ws).length=ps.length->BindsTo s fd ⟨us,ks.zip ws⟩ (ps.zip (g us ws))
 rel:∀{vs:af} {us:ao} {zs:af} {ws:ao},Vals vs us->Vals zs ws->Vals (gV vs zs) (g us ws)
variable {g:ao->ao->ao}{gV:af->af->af}
end
structure fq(N P:aq)(sc:Scope):Prop where
 kind:sc.kind=.function
 co:sc.isCoroutine=false
 gen:sc.isGenerator=false
 nd:N.Nodup
 pre:N.take P.length=P
 par:∀x∈P,sc.names.lookup x=some .local\/sc.names.lookup x=some .cell
 Km:∀y∈sc.names,y.2≠.free
theorem qI{kindOf:Str->Option NameKind}{x:Str}:∀{binds:List (Str×Value)} {m:aU},(∀v,(x,v)∉binds)->bindL kindOf binds m x=m x
 |[],_,_=>rfl
 | (n,v)::r,m,h=>by
  unfold bindL;rw[qI λw hw=>h w (List.mem_cons_of_mem _ hw)];split
  ·have:x≠n:=by rintro rfl;exact h v aaf
   simp[this]
  ·rfl
theorem qK{kindOf:Str->Option NameKind}{x:Str}:∀{binds:List (Str×Value)} {m:aU},(∀v,(x,v)∉binds)->bindC kindOf binds m x=m x
 |[],_,_=>rfl
 | (n,v)::r,m,h=>by
  unfold bindC;rw[qK λw hw=>h w (List.mem_cons_of_mem _ hw)];split
  ·rfl
  ·have:x≠n:=by rintro rfl;exact h v aaf
   simp[this]
theorem qJ{kindOf:Str->Option NameKind}{x:Str}{v:Value}:∀{P:aq} {vs:ao} {i:Nat} {m:aU},P.Nodup->P[i]?=some x->vs[i]?=some v->kindOf x=some .local ->
  bindL kindOf (P.zip vs) m x=some v
 |[],_,_,_,_,h,_,_=>by simp at h
 |_::_,[],_,_,_,_,h,_=>by simp at h
 |p::P,w::vs,0,m,nd,h1,h2,hk=>by
  simp at h1 h2;subst h1;subst h2;show bindL kindOf ((p,w)::P.zip vs) m p=_;unfold bindL;rw[qI λv hv=>(List.nodup_cons.mp nd).1 (List.of_mem_zip hv).1,if_pos hk];simp
 |p::P,w::vs,i+1,m,nd,h1,h2,hk=>by
  show bindL kindOf ((p,w)::P.zip vs) m x=_;unfold bindL;exact qJ (i:=i) (List.nodup_cons.mp nd).2 (by simpa using h1) (by simpa using h2) hk
theorem qL{kindOf:Str->Option NameKind}{x:Str}{v:Value}:∀{P:aq} {vs:ao} {i:Nat} {m:aU},P.Nodup->P[i]?=some x->vs[i]?=some v->kindOf x≠some .local ->
  bindC kindOf (P.zip vs) m x=some v
 |[],_,_,_,_,h,_,_=>by simp at h
 |_::_,[],_,_,_,_,h,_=>by simp at h
 |p::P,w::vs,0,m,nd,h1,h2,hk=>by
  simp at h1 h2;subst h1;subst h2;show bindC kindOf ((p,w)::P.zip vs) m p=_;unfold bindC;rw[qK λv hv=>(List.nodup_cons.mp nd).1 (List.of_mem_zip hv).1,if_neg hk];simp
 |p::P,w::vs,i+1,m,nd,h1,h2,hk=>by
  show bindC kindOf ((p,w)::P.zip vs) m x=_;unfold bindC;exact qL (i:=i) (List.nodup_cons.mp nd).2 (by simpa using h1) (by simpa using h2) hk
noncomputable def start(N:aq)(vs:af):St:=vs.map some++List.replicate (N.length - vs.length) none
noncomputable def i8(CX:vy)(P:aH)(w:World)(K:au)(mg:aU)(base:Heap)(N:aq)(qual:Str)(scope:Scope)(f:Addr)(cd:Value)(A:aK)(outer:List Env)(s:Shared)(H:Hp)(E:XK):Cx where
 prog:=P
 w:=w
 K:=K
 mg:=mg
 base:=base
 A:=A.deeper (envOfC qual scope s.heap.objs.size f cd)
 N:=N
 s₀:=s
 H₀:=H
 env:=envOfC qual scope s.heap.objs.size f cd
 outer:=outer
 stack:=envOfC qual scope s.heap.objs.size f cd::outer
 ex:=[]
 calm:=true
 fn:=λ_=>true
 pn:=[]
 xe:=λe s'=>wpAny (model P w) (A.deeper (envOfC qual scope s.heap.objs.size f cd)) (leaving (envOfC qual scope s.heap.objs.size f cd) e) (λ_ Uj=>CX outer H s E e Uj) (λe' Uj=>CX outer H s E e' Uj) s'
theorem uY{sc:Scope}{n:Nat}{x:Str}(h:sc.names.lookup x=some .cell):∃c,(cellsFrom n sc.names []).lookup x=some c:=by
 have q:=PySem.W.cellsFrom_some sc.names n [] (.inl h);exact Option.isSome_iff_exists.mp q
variable {P:aH}{base:Heap}{mg:Str->Option Value}{qual:Str}{scope:Scope}
theorem zV{CX:vy}{w:World}{N:aq}{f:Addr}{cd:Value}{outer:List Env}{s s1:Shared}{E:XK}  
  (S:fq N ps scope) (hd:A.handled=none) (e0:Hm P w K mg base A outer s H) (hl:vs.length=ps.length) (r:Vals vs us)
  (x:InCallC s s.heap.objs.size (bindL (envOfC qual scope s.heap.objs.size f cd).kindOf (ps.zip us) λ_=>none) (cellsFrom (s.heap.objs.size+1) scope.names []) (bindC (envOfC qual scope s.heap.objs.size f cd).kindOf (ps.zip us) λ_=>none) s1) :
  Inv (i8 CX P w K mg base N qual scope f cd A outer s H E) [] (start N vs) H s1:=by
 have hpl:ps.length<=N.length:=by have:=aaS List.length S.pre;rw[List.length_take]at this;left
 obtain⟨h1,tk,rfl,hk⟩:=x.done;have Pe:∀b:Addr,b∉(i8 CX P w K mg base N qual scope f cd A outer s H E).ex:=λb z=>absurd (show b∈([]:aW) from z) (by simp);refine⟨⟨e0.mod,S.kind,rfl,rfl,aaj _,λy z c h1 h2=>?_,λy hy=>?_,λy c _ h=>?_,λ_=>hd,Around.frames_deeper e0.frames,.inr ⟨rfl,rfl⟩,λb z=>absurd z (Pe b),e0.bs,e0.DV,λb _ _=>Pe b,λb z=>absurd z (Pe b),e0.jO,e0.AH⟩,
  rfl,e0.bare,Un.kept hk,⟨_,x.toInCall.ns,λi y v h1 h2 h3=>?_⟩,λy c h=>⟨_,x.cell y c h⟩,e0.cm.fresh (aaj _),λy c h=>?_,λp hp=>absurd (show p∈([]:ak) from hp) (by simp),e0.cm.kept hk,?_⟩
 ·exact name_of_addr x.apart (aaP h1) (aaP h2)
 ·have hy:scope.names.lookup y=some .cell\/scope.names.lookup y=some .free:=hy;rcases hy with hy|hy
  ·exact uY hy
  ·exact absurd rfl (S.Km _ (aaP hy))
 ·exact Nat.le_of_lt (x.above y c (aaP h))
 ·have hi:i<vs.length:=by
   unfold start at h2;by_cases hi:i<vs.length
   ·exact hi
   ·rw[List.getElem?_append_right (by simpa using hi)]at h2;rw[List.getElem?_replicate]at h2;split at h2<;>cases h2
  have ha:vs[i]?=some v:=by
   unfold start at h2;rw[List.getElem?_append_left (by simpa using hi),List.getElem?_map]at h2;cases e:vs[i]? with
   |none=>rw[e]at h2;cases h2
   |some a=>rw[e]at h2;cases h2;rfl
  obtain⟨u,hu,rv⟩:=r.get ha;have hp:ps[i]?=some y:=by
   rw[<- S.pre,List.getElem?_take_of_lt (by left)];exact h1
  have Xz:ps.Nodup:=by rw[<- S.pre];exact S.nd.sublist (List.take_sublist _ _)
  refine⟨u,rv,?_⟩;rcases S.par y (aaq hp)with k|k
  ·exact .inl ⟨k,qJ Xz hp hu k⟩
  ·obtain⟨c,e⟩:=uY (n:=s.heap.objs.size+1) k;refine .inr ⟨.inl k,c,e,?_⟩;have q:=x.cell y c e;rw[qL Xz hp hu (by show scope.names.lookup y≠_;rw[k];decide)]at q;exact q
 ·exact e0.cm.fresh (Nat.le_of_lt (x.above y c (aaP h)))
 ·unfold start;show _=N.length;rw[List.length_append,List.length_map,List.length_replicate];left
theorem Im{CX:vy}{w:World}{k:Nat}{f:Addr}{name:Str}{params:Arguments}{body:aZ}{dV kV doc pm gx ct oc:Value}{an od:Option Addr}
  {B3:Array (Option Value)} {N:aq} {sp:Sp} (lk:K.lookup f=some ⟨oc,od,.func (PySem.W.fnOf name qual params body scope dV kV doc pm an gx ct),B3⟩) (wC:PySem.W.codeIn K gx qual=true) (S:fq N ps scope)
  (len:∀vs H Q E,sp vs H Q E->vs.length=ps.length)
  (oD:∀(A:aK) (outer:List Env) (s:Shared) (H:Hp) (vs:af) (Q:VK) (E:XK),f9 k (A.deeper (envOfC qual scope s.heap.objs.size f gx))->sp vs H Q E ->
   ∃t,fG (i8 CX P w K mg base N qual scope f gx A outer s H E) body t/\t { nx:=λ_ H'=>Q .bu H',rt:=Q } (start N vs) H) :
  f_ P w K mg base CX (k+1) f (PySem.W.fnOf name qual params body scope dV kV doc pm an gx ct) ps sp:=by
 refine⟨len,λA outer s H args us vs Q E hr e0 hb r vq=>?_⟩;have hl:=len _ _ _ _ vq;have KX:K.In s.heap:=e0.mod.Sn.keeps λb o e=>(e0.bs b o e).1;have lim:s.heap.NoLimit:=e0.mod.nolimit.keeps λb o e=>(e0.bs b o e).1;have Qr:∀y∈ps.zip us,scope.names.lookup y.1=some .local\/(scope.names.lookup y.1=some .cell/\((cellsFrom (s.heap.objs.size+1) scope.names []).lookup y.1).isSome=true):=λ⟨n,v⟩ hy=>by
  rcases S.par n (List.of_mem_zip hy).1 with q|q
  ·exact .inl q
  ·exact .inr ⟨q,PySem.W.cellsFrom_some _ _ _ (.inl q)⟩
 refine codeAny_call_function hr.depth (KX _ _ lk) rfl S.co S.gen rfl (PySem.W.codeRec_of KX wC) (hb _ _ _ _ ?_);refine wpAny_newFunctionEnv_cells S.kind Qr λenv he s1 x=>?_;subst he;refine⟨lim.keeps x.toInCall.keep,codeAny_func ?_⟩;obtain⟨t,ht,hq⟩:=oD A outer s H vs Q E (hr.deeper _) vq;have I:Inv (i8 CX P w K mg base N qual scope f gx A outer s H E) [] (start N vs) H s1:=zV S hr.hd e0 hl r x;refine aau (ht [] s1 (start N vs) H _ I hq) (λfl s' hs=>?_) λe s' hs=>hs;have fin:∀{σ':St} {H':Hp} {v:V} {u:Value},Inv (i8 CX P w K mg base N qual scope f gx A outer s H E) [] σ' H' s'->RelV v u->Q v H'->CE outer P w H s Q u s' :=
  λ{σ' H' v u} J rv q=>⟨v,H',J.os,J.bare,J.base,J.cm,rv,q⟩
 cases fl with
 |ret u =>
  obtain⟨v,σ',H',J,rv,q⟩:=hs;exact fin J rv q
 |next =>
  obtain⟨σ',H',J,q⟩:=hs;exact fin (v:=V.bu) (u:=Value.none) J rfl q
 |brk =>
  obtain⟨_,_,_,q⟩:=hs;exact False.elim q
 |cont =>
  obtain⟨_,_,_,q⟩:=hs;exact False.elim q
end L2
namespace L2
open PySem PySem.Spec PyProof.Rows
section
variable {X:Cx}{x:Str}{p pos:Pos}{e:Expr}{es:aA}{t:TA}{id T:String}{r:af->Hp->VK->Prop}
noncomputable def Od(r:af->Hp->VK->Prop)(t:TA):TE:=λσ H Q=>t σ H λvs H1=>r vs H1 Q
theorem eK(hc:fX X (.builtin id) r)(hg:Gl X x)(hm:X.mg x=none)(hv:bootBuiltins x=some (.builtin id))(ha:PA X (e::es) t)(hn:x ≠ "__name__":=by decide)(QC:(x==("__debug__" : Str))=false:=by decide)
  (he:starEach (e::es) X.env=(false,eval e X.env)::starEach es X.env:=by rfl) (hpl:(backTo pos (starEach es X.env)).any (·.1)=false:=by rfl):PE X (.Call (.Name x p) (e::es) [] pos) (Od r t):=by
 intro pins s σ H Q I h;refine aaG (eh I hg hm hv ?_ hn QC);exact PyProof.Rows.callWith_builtin1 (cW (ha pos pins s σ H _ I h) λus s1 ⟨vs,H1,I1,r1,q1⟩=>hc pins s1 σ H1 vs us Q I1 r1 q1) he hpl
theorem lE(hc:fX X (.type T) r)(hg:Gl X x)(hm:X.mg x=none)(hv:bootBuiltins x=some (.type T))(ha:PA X (e::es) t)(hn:x ≠ "__name__":=by decide)(QC:(x==("__debug__" : Str))=false:=by decide)
  (he:starEach (e::es) X.env=(false,eval e X.env)::starEach es X.env:=by rfl) (hpl:(backTo pos (starEach es X.env)).any (·.1)=false:=by rfl):PE X (.Call (.Name x p) (e::es) [] pos) (Od r t):=by
 intro pins s σ H Q I h;refine aaG (eh I hg hm hv ?_ hn QC);exact aas (cW (ha pos pins s σ H _ I h) λus s1 ⟨vs,H1,I1,r1,q1⟩=>hc pins s1 σ H1 vs us Q I1 r1 q1) he hpl
end
end L2
namespace HT
open PySem PyProof.Rows
noncomputable def lexLt:ae->ae->Bool
 |[],[]=>false
 |[],_::_=>true
 |_::_,[]=>false
 |x::xs,y::ys=>if x=y then lexLt xs ys else decide (x<y)
theorem dN(x y:Int)(xs ys:ae):lexLt (x::xs) (y::ys)=if x=y then lexLt xs ys else decide (x<y):=rfl
theorem jD:lexLt [] []=false:=rfl
theorem om(y:Int)(ys:ae):lexLt [] (y::ys)=true:=rfl
theorem c_(x:Int)(xs:ae):lexLt (x::xs) []=false:=rfl
theorem uP(A:aK)(s:Shared)(a:Int)(t:Tok)(c:Int)(u:Tok):∃e,SeqAt.EqAt A s (.int a t) (.int c u) e/\(e=true ↔ a=c) :=
 ⟨(a==c),abp a t c u,by simp⟩
theorem BE(A:aK)(s:Shared)(a:Int)(t:Tok)(c:Int)(u:Tok)(prog:aH)(w:World)(E:aB)(Q:aB)(h:Q (.bool (decide (a<c))) s):
  wpAny (model prog w) A (richCompare .Lt (.int a t) (.int c u)) Q E s :=
 (PyProof.Rows.lt_int h:wpAny (model prog w) A (compareOp .Lt (.int a t) (.int c u)) Q E s)
section
open PySem.SeqAt
open PySem.AutoSeq1 (wpAny_loadPart')
open PySem.MeetsSeq PySem.MeetsSeq2 PySem.MeetsSeq3
theorem jB(l b:Addr)(items dE:aV)(n n2:Nat)(dd vx:Option Addr)(sl vn:Array (Option Value))(ns ms:ae)(hi:IntsAre items.toList ns)(hj:IntsAre dE.toList ms):
  Meets (Builtin.«tuple.__lt__» ⟨[.ref l,.ref b],[]⟩)
   (λ_ R s=>s.heap.get? l=some { cls:=.type "tuple",dict:=dd,data:=.seq items n,slots:=sl }/\s.heap.get? b=some { cls:=.type "tuple",dict:=vx,data:=.seq dE n2,slots:=vn } /\
    R (.ok (.ret (.bool (lexLt ns ms)))) s) :=
 .of_wp λprog w A R s h=>by
  obtain⟨hp,g,d,tk,os⟩:=s;obtain⟨hl,hb,h⟩:=h;have f2:=AutoSeq1.sub_tuple_tuple;have z1:items.size=ns.length:=by rw[<- hi.length];simp
  have z2:dE.size=ms.length:=by rw[<- hj.length];simp
  wp_walk using wpAny_loadPart' hl,wpAny_loadPart' hb,wpAny_forIn_list _ (λrest b s'=>b.1=none/\s'=⟨hp,g,d,tk,os⟩/\∃(vs ws:ao) (lh AB:ae),rest=vs.zip ws /\
   IntsAre vs lh/\IntsAre ws AB/\lh.length+dE.size=AB.length+items.size/\R (.ok (.ret (.bool (lexLt lh AB)))) ⟨hp,g,d,tk,os⟩) _
  case turn =>
   rintro ⟨y,x⟩ rest b s' ⟨pz,rfl,vs,ws,lh,AB,hz,K4,Ia,hlen,hR⟩;cases K4 with
   |nil=>rw[List.zip_nil_left]at hz;cases hz
   |cons a t hvi' =>
    cases Ia with
    |nil=>rw[List.zip_nil_right]at hz;cases hz
    |cons c u hwi' =>
     rw[List.zip_cons_cons]at hz;injection hz with Vf CM
     injection Vf with hy hx
     subst hy hx;rw[dN]at hR;simp only[List.length_cons]at hlen;obtain⟨e,he,CU⟩:=uP A.in1 ⟨hp,g,d,tk,os⟩ a t c u;refine aaa (he prog w _ _ ?_);cases e with
     |true =>
      rw[if_pos (CU.mp rfl)]at hR
      wp_walk
      exact⟨rfl,rfl,_,_,_,_,CM,hvi',hwi',by left,hR⟩
     |false =>
      rw[if_neg (λq=>absurd (CU.mpr q) Bool.false_ne_true)]at hR;have Vt:=BE A.in1 ⟨hp,g,d,tk,os⟩ a t c u prog w
      wp_walk using Vt
      exact⟨_,rfl,by simpa using hR⟩
  case fin =>
   rintro ⟨b1,b2⟩ s' ⟨pz,rfl,vs,ws,lh,AB,hz,K4,Ia,hlen,hR⟩;simp only at pz;subst pz;have hv:lexLt lh AB=decide (items.size<dE.size):=by
    cases K4 with
    |nil =>
     cases Ia with
     |nil =>
      simp only[List.length_nil]at hlen;rw[jD];exact(aaI (by left)).symm
     |cons c u hw =>
      simp only[List.length_nil,List.length_cons]at hlen;rw[om];exact(aaK (by left)).symm
    |cons a t hv =>
     cases Ia with
     |nil =>
      simp only[List.length_nil,List.length_cons]at hlen;rw[c_];exact(aaI (by left)).symm
     |cons c u hw =>
      rw[List.zip_cons_cons]at hz;cases hz
   rw[hv]at hR
   wp_walk
   exact⟨_,rfl,by simpa [Builtin.Tuple.tupleCompareSizes]using hR⟩
  case h =>
   exact⟨rfl,rfl,items.toList,dE.toList,ns,ms,rfl,hi,hj,by left,h⟩
end
variable {Q:Value->Shared->Prop}
section
variable {prog:aH}{w:World}{A:aK}{E:aB}{s:Shared}
theorem wd{l b:Addr}{items dE:aV}{ns ms:ae}(hl:IsTup s.heap l items)(hb:IsTup s.heap b dE)(hi:IntsAre items.toList ns)(hj:IntsAre dE.toList ms)
  (hu:A.units<cLine) (h:Q (.bool (lexLt ns ms)) s):wpAny (model prog w) A (compareOp .Lt (.ref l) (.ref b)) Q E s:=by
 obtain⟨⟨cls,dd,data,sl⟩,ho,hc,n,hd⟩:=id hl;obtain⟨⟨GZ,vx,data2,vn⟩,rN,hc2,n2,hd2⟩:=id hb;simp only at hc hd hc2 hd2;subst hc hd hc2 hd2;exact richCompare_meets_room (op:=.Lt) ⟨_,ho,rfl⟩ ⟨_,rN,rfl⟩ abL PySem.F.entry_tuple_lt (PySem.F.args_tuple_lt_2 _ _) (jB l b items dE n n2 dd vx sl vn ns ms hi hj)
  ⟨ho,rN,show Value.bool (lexLt ns ms)≠Value.notImplemented/\Q (.bool (lexLt ns ms)) s from⟨(λx=>nomatch x),h⟩⟩ hu
theorem G4{t b:Addr}{vs ws:ao}(ht:IsTup s.heap t vs.toArray)(hb:IsTup s.heap b ws.toArray)(hv:vs≠[])
  (h1:ws=[]->Q (.ref t) s) (h2:ws≠[]->Q (.ref s.heap.objs.size) { s with heap:=s.heap.push { cls:=.type "tuple",data:=.seq (vs++ws).toArray } })
  (hsz:vs.length+ws.length<=sizeLine):wpAny (model prog w) A (binaryOp .Add (.ref t) (.ref b)) Q E s:=by
 obtain⟨⟨cls,dd,data,sl⟩,ho,hc,n,hd⟩:=id ht;obtain⟨⟨GZ,vx,data2,vn⟩,rN,hc2,n2,hd2⟩:=id hb;simp only at hc hd hc2 hd2;subst hc hd hc2 hd2;have e:vs.toArray++ws.toArray=(vs++ws).toArray:=by simp
 by_cases hw:ws=[]
 ·exact concat_meets ⟨_,ho,rfl⟩ ⟨_,rN,rfl⟩ noFill_tuple_add seq_tuple_add abC abz (abu _ _)
   (tuple_addW1 t b vs.toArray ws.toArray n n2 dd vx sl vn (by simpa using hv) (by simp[hw])) ⟨ho,rN,h1 hw⟩
 ·refine concat_meets ⟨_,ho,rfl⟩ ⟨_,rN,rfl⟩ noFill_tuple_add seq_tuple_add abC abz (abu _ _)
   (tuple_addW2 t b vs.toArray ws.toArray n n2 dd vx sl vn (by simpa using hv) (by simpa using hw) (by rw[List.size_toArray,List.size_toArray];exact hsz)) ⟨ho,rN,?_⟩
  rw[e];exact h2 hw
noncomputable def vT(n d:Nat):Option Int->Nat
 |none=>d
 |some v=>if v<0 then(v+(n:Int)).toNat else min v.toNat n
end
end HT
namespace L2
open PySem PySem.Spec PyProof.Rows
noncomputable abbrev TO:=St->Hp->(Option Int->Hp->Prop)->Prop
noncomputable def PO(X:Cx)(e:Option Expr)(t:TO):Prop :=
 ∀(pins:ak) (s:Shared) (σ:St) (H:Hp) (Q:Option Int->Hp->Prop),Inv X pins σ H s->t σ H Q ->
  wpAny (model X.prog X.w) X.A (evalPart e X.env) (λu s'=>∃o H',Inv X pins σ H' s'/\IsPart u o/\Q o H') X.xe s
noncomputable def EL:TO:=λ_ H Q=>Q none H
noncomputable def N7(t:TE):TO:=λσ H Q=>t σ H λx H1=>∃i,x=.int i/\Q (some i) H1
theorem intsAre_of{ns:ae}:∀{us:ao},Vals (ns.map V.int) us->IntsAre us ns:=by
 induction ns with
 |nil=>intro us r;rw[List.map_nil]at r;cases r;exact .nil
 |cons n ns ih =>
  intro us r;rw[List.map_cons]at r;cases r with
  |cons r1 r2 =>
   obtain⟨t,e⟩:=r1;subst e;exact .cons n t (ih r2)
section
variable {X:Cx}{e:Expr}{te:TE}{lo hi:Option Expr}{tl th:TO}{pos p2:Pos}
theorem xV:PO X none EL:=by
 intro pins s σ H Q I h;rw[evalPart_none];exact aag ⟨none,H,I,.none,h⟩
theorem xU(h:PE X e te):PO X (some e) (N7 te):=by
 intro pins s σ H Q I hw;rw[evalPart_some];refine cW (h pins s σ H _ I hw) λu s1 bW=>?_;obtain⟨x,H1,I1,r1,q1⟩:=bW;obtain⟨i,rfl,q⟩:=q1;obtain⟨t,rfl⟩:=r1;exact⟨some i,H1,I1,.int i t,q⟩
def W7(X:Cx)(r:V->Option Int->Option Int->Hp->VK->Prop):Prop :=
 ∀(pins:ak) (s:Shared) (σ:St) (H:Hp) (x:V) (v vl vu:Value) (lo hi:Option Int) (sl:Addr) (Q:VK),Inv X pins σ H s->RelV x v->s.heap.IsSliceOf sl vl vu .none->IsPart vl lo->IsPart vu hi->r x lo hi H Q ->
  ∃T id,typeLookup (.type T) "__getitem__" = pure (some (.builtin id))/\s.TypeIs v T/\wpAny (model X.prog X.w) X.A (getItem v (.ref sl)) (EP X pins σ Q) X.xe s
noncomputable def Zk(r:V->Option Int->Option Int->Hp->VK->Prop)(te:TE)(tl th:TO):TE:=λσ H Q=>te σ H λx H1=>tl σ H1 λl H2=>th σ H2 λu H3=>r x l u H3 Q
theorem BW{r:V->Option Int->Option Int->Hp->VK->Prop}(hr:W7 X r)(he:PE X e te)(hl:PO X lo tl)(hu:PO X hi th):PE X (.Subscript e (.Slice lo hi none p2) pos) (Zk r te tl th):=by
 intro pins s σ H Q I h;refine Subscript_ (cW (he pins s σ H _ I h) λv s1 bW=>?_);obtain⟨x,H1,I1,r1,q1⟩:=bW;refine wpAny_Slice (cW (hl pins s1 σ H1 _ I1 q1) λvl s2 ⟨l,H2,I2,pl,q2⟩=>cW (hu pins s2 σ H2 _ I2 q2) λvu s3 bW=>?_);obtain⟨u,H3,I3,pu,q3⟩:=bW;rw[evalPart_none];refine aag ?_;have I4:Inv X pins σ H3 { s3 with heap:=s3.heap.push { cls:=.type "slice",data:=.fields #[vl,vu,.none] } }:=I3.kept (t':=s3.toks) λb ob q=>aah _ q;obtain⟨T,id,hT,ht,hg⟩:=hr pins { s3 with heap:=s3.heap.push { cls:=.type "slice",data:=.fields #[vl,vu,.none] } } σ H3 x v vl vu l u s3.heap.objs.size Q I4 r1 (Heap.IsSliceOf.new ..) pl pu q3;show wpAny (model X.prog X.w) X.A (subscriptTail e (.Slice lo hi none p2) v (.ref s3.heap.objs.size)) (EP X pins σ Q) X.xe { s3 with heap:=s3.heap.push { cls:=.type "slice",data:=.fields #[vl,vu,.none] } };exact tail_any (ops:=[.ref s3.heap.objs.size,v]) ht hT hg (by with_unfolding_all rfl)
def GV(xs:af)(lo hi:Option Int):af:=(xs.drop (HT.vT xs.length 0 lo)).take (HT.vT xs.length xs.length hi - HT.vT xs.length 0 lo)
theorem uU(xs:af)(lo hi:Option Int):(GV xs lo hi).length<=xs.length:=by
 unfold GV;rw[List.length_take,List.length_drop];left
def OM(K:au):R2:=λx y H Q=>∃a b xs ys,x=.ref a/\y=.ref b/\bh K H a xs/\bh K H b ys/\xs≠[]/\xs.length+ys.length<=sizeLine /\
 (ys=[]->Q (.ref a) H)/\(ys≠[]->∀p,H p=none->Q (.ref p) (upd H p (.tup (xs++ys))))
theorem Vals.rA{xs:af}{us:ao}(r:Vals xs us):us=[] ↔ xs=[]:=by
 cases r with
 |nil=>simp
 |cons _ _=>simp
theorem FG:jZ X (binaryOp .Add) (OM X.K):=by
 intro pins s σ H x y v u Q I rx ry h;obtain⟨a,b,xs,ys,rfl,rfl,ha,hb,hx,hz,q1,q2⟩:=h;cases rx;cases ry;obtain⟨aN,r1,p1,_⟩:=I.tuple ha;obtain⟨mE,r2,p2,_⟩:=I.tuple hb;refine HT.G4 p1 p2 (λz=>hx (r1.rA.mp z)) (λz=>⟨.ref a,H,I,rfl,q1 (r2.rA.mp z)⟩) (λz=>?_) (by rw[<- r1.length,<- r2.length];exact hz);refine⟨.ref s.heap.objs.size,_,I.laid (t':=s.toks) (o:=.tup (xs++ys)) (λb ob q=>aah _ q) (aaj _) ?_,rfl,q2 (λw=>z (r2.rA.mpr w)) _ (I.cm.fresh (aaj _))⟩;exact⟨by rw[List.length_append];exact hz,_,r1.append r2,IsTup.new _ _⟩
end
end L2
namespace L2
open PySem PySem.Spec PyProof.Rows
noncomputable def sV(n:Nat)(i:Int):Option Nat:=if 0<=i then(if i<n then some i.toNat else none)else if -(n:Int)<=i then some (i+n).toNat else none
def IH{α:Type}(xs:List α)(i:Int):Option α:=(sV xs.length i).bind λj=>xs[j]?
theorem ym{n:Nat}{i:Int}{j:Nat}(h:sV n i=some j):seqIndex? i n=some j/\j<n /\ -(n:Int)<=i/\i<n:=by
 unfold sV at h;by_cases h0:0<=i
 ·rw[if_pos h0]at h;by_cases h1:i<n
  ·rw[if_pos h1]at h;have e:i.toNat=j:=aap h;exact⟨by rw[seqIndex_of h0 h1,e],by left,by left,h1⟩
  ·rw[if_neg h1]at h;cases h
 ·rw[if_neg h0]at h;by_cases h1:-(n:Int)<=i
  ·rw[if_pos h1]at h;have e:(i+n).toNat=j:=aap h;exact⟨by rw[seqIndex_neg (by left) h1,e],by left,h1,by left⟩
  ·rw[if_neg h1]at h;cases h
theorem y7{α:Type}{xs:List α}{i:Int}{v:α}(h:IH xs i=some v):∃j,seqIndex? i xs.length=some j/\xs[j]?=some v/\j<xs.length /\ -(xs.length:Int)<=i/\i<xs.length:=by
 unfold IH at h;cases e:sV xs.length i with
 |none=>rw[e]at h;cases h
 |some j =>
  rw[e]at h;obtain⟨h1,h2,h3,h4⟩:=ym e;exact⟨j,h1,h,h2,h3,h4⟩
def nr(b:Expr):Prop:=∀o i,subscripted b false o i=operate [o,i] (getItem o i)
def IQ(X:Cx)(r:R2):Prop :=
 ∀(value slice:Expr) (pins:ak) (s:Shared) (σ:St) (H:Hp) (x y:V) (v u:Value) (Q:VK),Inv X pins σ H s->RelV x v->RelV y u->r x y H Q ->
  subscripted slice false v u=operate [v,u] (getItem v u)->wpAny (model X.prog X.w) X.A (subscriptTail value slice v u) (EP X pins σ Q) X.xe s
def W9(X:Cx)(id:String)(r:V->af->Hp->VK->Prop):Prop :=
 ∀(pins:ak) (s:Shared) (σ:St) (H:Hp) (x:V) (xs:af) (v:Value) (us:ao) (Q:VK),Inv X pins σ H s->RelV x v->Vals xs us->r x xs H Q ->
  wpAny (model X.prog X.w) X.A (call (.builtin id) (v::us)) (EP X pins σ Q) X.xe s
variable {H:Hp}{σ:L2.St}
section
variable {X:Cx}{a b:Expr}{ta tb:TE}{pos:Pos}
theorem IQ.or{r r':R2}(h:IQ X r)(h':IQ X r'):IQ X (λx y H Q=>r x y H Q\/r' x y H Q):=by
 intro value slice pins s σ H x y v u Q I rx ry q hs;rcases q with q|q
 ·exact h value slice pins s σ H x y v u Q I rx ry q hs
 ·exact h' value slice pins s σ H x y v u Q I rx ry q hs
theorem BZ{r:R2}(hr:IQ X r)(ha:PE X a ta)(hb:PE X b tb)(hs:nr b):PE X (.Subscript a b pos) (Hw r ta tb):=by
 intro pins s σ H Q I h;exact Subscript_ (ME ha hb I h λv u s2 x y H2 I2 rx ry q=>hr a b pins s2 σ H2 x y v u Q I2 rx ry q (hs _ _))
def Uv(K:au):R2:=λx y H Q=>∃p xs i v,x=.ref p/\y=.int i/\dz K H p xs/\IH xs i=some v/\Q v H
def Uu(K:au):R2:=λx y H Q=>∃p xs i v,x=.ref p/\y=.int i/\bh K H p xs/\IH xs i=some v/\Q v H
theorem yk:IQ X (Uv X.K):=by
 intro value slice pins s σ H x y v u Q I rx ry h hs;obtain⟨p,xs,i,z,rfl,rfl,hq,he,q⟩:=h;cases rx;obtain⟨t,rfl⟩:=ry;obtain⟨aN,r,pl,hz⟩:=I.list hq;obtain⟨j,h1,h2,h3,h4,h5⟩:=y7 he;obtain⟨w,ew,lb⟩:=r.get h2;have hl:=r.length;have hn:=rH;have fin:EP X pins σ Q w s:=⟨z,H,I,lb,q⟩
 by_cases h0:0<=i
 ·have hj:i.toNat=j:=by
   rw[seqIndex_of h0 h5]at h1;exact aap h1
  exact item_listR pl.isList h0 (by left) (by rw[hj];simpa using ew) fin hs
 ·have hj:(i+(aN.toArray.size:Int)).toNat=j:=by
   rw[seqIndex_neg (by left) h4]at h1;rw[List.size_toArray,<- hl];exact aap h1
  exact abD (x:=w) pl.isList.typeIs slot_list_getitem.lookup
   (wpAny_getItem_list_neg (Q:=λr s'=>r=w/\EP X pins σ Q r s') pl.isList (by left) (by rw[List.size_toArray]<;>omega) (by left) (by rw[hj];simpa using ew) ⟨rfl,fin⟩) hs
theorem Cy:IQ X (Uu X.K):=by
 intro value slice pins s σ H x y v u Q I rx ry h hs;obtain⟨p,xs,i,z,rfl,rfl,hq,he,q⟩:=h;cases rx;obtain⟨t,rfl⟩:=ry;obtain⟨aN,r,pl,hz⟩:=I.tuple hq;obtain⟨j,h1,h2,h3,h4,h5⟩:=y7 he;obtain⟨w,ew,lb⟩:=r.get h2;have hl:=r.length;have hn:=rH;have fin:EP X pins σ Q w s:=⟨z,H,I,lb,q⟩
 exact abD (x:=w) pl.typeIs slot_tuple_getitem.lookup
  (getItem_tuple (j:=j) (Q:=λr s'=>r=w/\EP X pins σ Q r s') pl (by left) (by left) (by rw[List.size_toArray,<- hl];exact h1) (by simpa using ew) ⟨rfl,fin⟩) hs
theorem wb(aN:ao)(n j:Nat)(u:Value):Obj.mapSeq (·.setIfInBounds j u) { cls:=.type "list",data:=.seq aN.toArray n }={ cls:=.type "list",data:=.seq (aN.set j u).toArray n }:=by
 simp[Obj.mapSeq]
theorem Inv.lst{pins:ak}{σ:St}{H:Hp}{s:Shared}{p:Addr}{xs:af}(I:Inv X pins σ H s)(h:H p=some (.lst xs)):
  ∃(aN:ao) (n:Nat),Vals xs aN/\s.heap.get? p=some { cls:=.type "list",data:=.seq aN.toArray n }/\xs.length<=sizeLine:=by
 obtain⟨z,aN,n,r,e⟩:=I.cm p _ h;exact⟨aN,n,r,e,z⟩
theorem Inv.Ky{pins:ak}{s:Shared}{p:Addr}{xs ys:af}{aN its':ao}{n n':Nat}{f:Obj->Obj}(I:Inv X pins σ H s)(h:H p=some (.lst xs))
  (ho:s.heap.get? p=some { cls:=.type "list",data:=.seq aN.toArray n }) (hf:f { cls:=.type "list",data:=.seq aN.toArray n }={ cls:=.type "list",data:=.seq its'.toArray n' }) (r:Vals ys its') (hz:ys.length<=sizeLine) (t:Nat) :
  Inv X pins σ (upd H p (.lst ys)) { s with heap:=s.heap.update p f,toks:=t }:=by
 have e:(s.heap.update p f).get? p=some { cls:=.type "list",data:=.seq its'.toArray n' }:=by
  rw[Heap.get?_update_self f ho (by rw[hf]<;>rfl),hf]
 refine I.write (x:=p) (e:=p) (by rw[h];trivial) (.inl rfl) (λb u hb q=>(aaE _ _ (abw hb)).trans q) ⟨_,e⟩ ?_;exact⟨hz,its',n',r,e⟩
def OJ:V->V->V->Hp->(Hp->Prop)->Prop:=λo i v H Q=>∃p xs k j,o=.ref p/\i=.int k/\H p=some (.lst xs)/\sV xs.length k=some j/\Q (upd H p (.lst (xs.set j v)))
theorem set_list:RJ X OJ:=by
 intro pins s σ H o i v ov iv u Q I ro ri rv h;obtain⟨p,xs,k,j,rfl,rfl,hp,hj,q⟩:=h;cases ro;obtain⟨t,rfl⟩:=ri;obtain⟨aN,n,r,ho,hz⟩:=I.lst hp;obtain⟨h1,h2,h3,h4⟩:=ym hj;have hl:=r.length;have hn:=rH;have I':Inv X pins σ (upd H p (.lst (xs.set j v))) { s with heap:=s.heap.update p (Obj.mapSeq (·.setIfInBounds j u)) } :=
  I.Ky hp ho (wb aN n j u) (r.set rv j) (by rw[List.length_set];exact hz) s.toks
 by_cases h0:0<=k
 ·have hk:k.toNat=j:=by
   rw[seqIndex_of h0 h4]at h1;exact aap h1
  exact PySem.W.ki_setAt ho h0 (by left) (by rw[List.size_toArray,<- hl];exact h4) (by rw[hk];exact⟨_,I',q⟩)
 ·have hk:(k+(aN.toArray.size:Int)).toNat=j:=by
   rw[seqIndex_neg (by left) h3]at h1;rw[List.size_toArray,<- hl];exact aap h1
  exact PySem.W.ki_setBack ho (by left) (by rw[List.size_toArray,<- hl];exact h3) (by left) (by rw[hk];exact⟨_,I',q⟩)
theorem qV(lo hi:Option Int)(n:Nat):(sliceBounds lo hi none n).1=((HT.vT n 0 lo:Nat):Int)/\(sliceBounds lo hi none n).2.1=((HT.vT n n hi:Nat):Int)/\(sliceBounds lo hi none n).2.2=1:=by
 refine⟨?_,?_,rfl⟩
 ·cases lo with
  |none=>simp[sliceBounds,HT.vT]
  |some i =>
   simp only[sliceBounds,HT.vT,Option.getD_none,show(1:Int)>0 by decide,if_true];by_cases h:i<0
   ·simp only[h,if_true]<;>left
   ·simp only[h,if_false]<;>left
 ·cases hi with
  |none=>simp[sliceBounds,HT.vT]
  |some i =>
   simp only[sliceBounds,HT.vT,Option.getD_none,show(1:Int)>0 by decide,if_true];by_cases h:i<0
   ·simp only[h,if_true]<;>left
   ·simp only[h,if_false]<;>left
theorem pI(aN:ao)(lo hi:Option Int):slicePick aN.toArray lo hi none=((aN.drop (HT.vT aN.length 0 lo)).take (HT.vT aN.length aN.length hi - HT.vT aN.length 0 lo)).toArray:=by
 obtain⟨h1,h2,h3⟩:=qV lo hi aN.toArray.size;unfold slicePick;rw[h1,h2,h3];simp only[sliceRange_one,pick_run,List.size_toArray]<;>rfl
def Ur(K:au):V->Option Int->Option Int->Hp->VK->Prop:=λx lo hi H Q=>∃a xs,x=.ref a/\dz K H a xs/\∀p,H p=none->Q (.ref p) (upd H p (.lst (GV xs lo hi)))
theorem xI:W7 X (Ur X.K):=by
 intro pins s σ H x v vl vu lo hi sl Q I rx hs pl pu h;obtain⟨a,xs,rfl,hx,q⟩:=h;cases rx;obtain⟨aN,r,ht,hz⟩:=I.list hx;have hlen:=r.length;refine⟨"list",_,slot_list_getitem.lookup,ht.isList.typeIs,?_⟩;refine wpAny_getItem_list_slice ht.isList hs pl pu .none (by simp) ?_ (by rw[List.size_toArray]<;>omega);rw[pI,<- hlen];refine⟨.ref s.heap.objs.size,_,I.laid (t':=s.toks) (o:=.lst (GV xs lo hi)) (λb ob q=>aah _ q) (aaj _) ?_,rfl,q _ (I.cm.fresh (aaj _))⟩;exact⟨aaB (uU xs lo hi) hz,_,0,(r.drop (HT.vT xs.length 0 lo)).take (HT.vT xs.length xs.length hi - HT.vT xs.length 0 lo),aam _ rfl⟩
noncomputable def i5:V->Bool
 |.bu=>true
 |.bl _=>true
 |.int _=>true
 |.str _=>true
 |_=>false
noncomputable def Eh:V->V->Bool
 |.bu,.bu=>true
 |.bl a,.bl b=>a==b
 |.bl a,.int b=>(if a then 1 else 0)==b
 |.int a,.bl b=>a==(if b then 1 else 0)
 |.int a,.int b=>a==b
 |.str a,.str b=>a==b
 |_,_=>false
theorem Mj{A:aK}{s:Shared}{y x:V}{u v:Value}(ry:RelV y u)(rx:RelV x v)(fy:i5 y=true)(fx:i5 x=true):SeqAt.EqAt A s u v (Eh y x):=by
 cases y with
 |bu =>
  cases ry;cases x with
  |bu=>cases rx;exact abl _
  |bl b=>cases rx;exact abP b
  |int b=>obtain⟨t,rfl⟩:=rx;exact abW b t
  |str b=>obtain⟨t,rfl⟩:=rx;exact SeqAt.EqAt.none_str b t
  |_=>exact absurd (show false=true from fx) aac
 |bl a =>
  cases ry;cases x with
  |bu=>cases rx;exact abQ a
  |bl b=>cases rx;exact abR a b
  |int b=>obtain⟨t,rfl⟩:=rx;exact abX a b t
  |str b=>obtain⟨t,rfl⟩:=rx;exact SeqAt.EqAt.bool_str a b t
  |_=>exact absurd (show false=true from fx) aac
 |int a =>
  obtain⟨t',rfl⟩:=ry;cases x with
  |bu=>cases rx;exact abY a t'
  |bl b=>cases rx;exact abZ a t' b
  |int b=>obtain⟨t,rfl⟩:=rx;exact abp a t' b t
  |str b=>obtain⟨t,rfl⟩:=rx;exact SeqAt.EqAt.int_str a t' b t
  |_=>exact absurd (show false=true from fx) aac
 |str a =>
  obtain⟨t',rfl⟩:=ry;cases x with
  |bu=>cases rx;exact SeqAt.EqAt.str_none a t'
  |bl b=>cases rx;exact SeqAt.EqAt.str_bool a t' b
  |int b=>obtain⟨t,rfl⟩:=rx;exact SeqAt.EqAt.str_int a t' b t
  |str b=>obtain⟨t,rfl⟩:=rx;exact SeqAt.EqAt.str_str a t' b t
  |_=>exact absurd (show false=true from fx) aac
 |_=>exact absurd (show false=true from fy) aac
def wO(x:V)(u:Value):Bool:=match u with
 |.none=>Eh .bu x
 |.bool b=>Eh (.bl b) x
 |.int i _=>Eh (.int i) x
 |.str z _=>Eh (.str z) x
 |_=>false
theorem Dk{x y:V}{u:Value}(r:RelV y u)(f:i5 y=true):wO x u=Eh y x:=by
 cases y with
 |bu=>cases r;rfl
 |bl b=>cases r;rfl
 |int i=>obtain⟨t,rfl⟩:=r;rfl
 |str z=>obtain⟨t,rfl⟩:=r;rfl
 |_=>exact absurd (show false=true from f) aac
theorem k_{x:V}:∀{xs:af} {us:ao},Vals xs us->xs.all i5=true->us.any (wO x)=xs.any λy=>Eh y x
 |_,_,.nil,_=>rfl
 |y::xs,u::us,.cons r t,f=>by
  rw[List.all_cons,Bool.and_eq_true]at f;rw[List.any_cons,List.any_cons,Dk r f.1,k_ t f.2]
theorem iX{A:aK}{s:Shared}{x:V}{v:Value}(rx:RelV x v)(fx:i5 x=true):∀{xs:af} {us:ao},Vals xs us->xs.all i5=true->∀u∈us,SeqAt.EqAt A s u v (wO x u)
 |_,_,.nil,_=>λu hu=>by cases hu
 |y::xs,u::us,.cons r t,f=>λu' hu=>by
  rw[List.all_cons,Bool.and_eq_true]at f;rcases List.mem_cons.mp hu with rfl|hu
  ·rw[Dk r f.1];exact Mj r rx f.1 fx
  ·exact iX rx fx t f.2 u' hu
def Sq(x:V)(xs:af):Bool:=xs.any λy=>Eh y x
def Ux(K:au)(neg:Bool):R2:=λx y H Q=>∃p xs,y=.ref p/\(dz K H p xs\/bh K H p xs)/\i5 x=true/\xs.all i5=true/\Q (.bl (if neg then !Sq x xs else Sq x xs)) H
theorem zJ:jZ X (compareOp .In) (Ux X.K false):=by
 intro pins s σ H x y v u Q I rx ry h;obtain⟨p,xs,rfl,hq,fx,fs,q⟩:=h;cases ry;rcases hq with hq|hq
 ·obtain⟨aN,r,pl,hz⟩:=I.list hq;refine SeqAt.in_listAt (wO x) pl.isList (λw hw=>iX rx fx r fs w (by simpa using hw)) ⟨.bl _,H,I,rfl,?_⟩;rw[show aN.toArray.any (wO x)=aN.any (wO x) by simp,k_ r fs];exact q
 ·obtain⟨aN,r,pl,hz⟩:=I.tuple hq;refine SeqAt.in_tupleAt (wO x) pl (λw hw=>iX rx fx r fs w (by simpa using hw)) ⟨.bl _,H,I,rfl,?_⟩;rw[show aN.toArray.any (wO x)=aN.any (wO x) by simp,k_ r fs];exact q
theorem su:fX X (.builtin "len") (λxs H Q=>∃p ys,xs=[.ref p]/\(dz X.K H p ys\/bh X.K H p ys)/\Q (.int ys.length) H):=by
 intro pins s σ H xs us Q I r h;obtain⟨p,ys,rfl,hq,q⟩:=h;obtain⟨u,rfl,rx⟩:=vals1 r;cases rx;have hn:=rH;rcases hq with hq|hq
 ·obtain⟨aN,r',pl,hz⟩:=I.list hq;have hlen:=r'.length;exact Calls.call_len_list pl.isList (by simp only[List.size_toArray]<;>omega) ⟨.int ys.length,H,I.tok _,⟨s.toks+1,by rw[List.size_toArray,hlen]⟩,q⟩
 ·obtain⟨aN,r',pl,hz⟩:=I.tuple hq;have hlen:=r'.length;exact len_tuple pl (by simp only[List.size_toArray]<;>omega) ⟨.int ys.length,H,I.tok _,⟨s.toks+1,by rw[List.size_toArray,hlen]⟩,q⟩
theorem sr:fX X (.type "list") (λxs H Q=>∃p ys,xs=[.ref p]/\(dz X.K H p ys\/bh X.K H p ys)/\∀l,H l=none->Q (.ref l) (upd H l (.lst ys))):=by
 intro pins s σ H xs us Q I r h;obtain⟨p,ys,rfl,hq,q⟩:=h;obtain⟨u,rfl,rx⟩:=vals1 r;cases rx;have fin:∀(aN:ao),Vals ys aN->ys.length<=sizeLine->∀(h':Heap) (c':Nat),(∀b o',s.heap.get? b=some o'->h'.get? b=some o') ->
   h'.get? s.heap.objs.size=some { cls:=.type "list",dict:=none,data:=.seq aN.toArray c',slots:=#[] }->EP X pins σ Q (.ref s.heap.objs.size) { s with heap:=h' }:=λaN r' hz h' c' kp e =>
  ⟨.ref s.heap.objs.size,_,I.laid (t':=s.toks) kp (aaj _) (show cM X.prog X.w _ h' _ (.lst ys) from⟨hz,aN,c',r',e⟩),rfl,q _ (I.cm.fresh (aaj _))⟩
 rcases hq with hq|hq
 ·obtain⟨aN,r',pl,hz⟩:=I.list hq;have hlen:=r'.length;obtain⟨o,ho,hc,n,hd⟩:=pl.isList;exact call_list_seq p (.inl rfl) ho hc hd (λh' c' kp e=>fin aN r' hz h' c' kp e) (by simp only[List.size_toArray]<;>omega)
 ·obtain⟨aN,r',pl,hz⟩:=I.tuple hq;have hlen:=r'.length;obtain⟨o,ho,hc,n,hd⟩:=pl;exact call_list_seq p (.inr rfl) ho hc hd (λh' c' kp e=>fin aN r' hz h' c' kp e) (by simp only[List.size_toArray]<;>omega)
theorem pT:fX X (.type "tuple") (λxs H Q=>∃p ys,xs=[.ref p]/\((dz X.K H p ys/\∀l,H l=none->Q (.ref l) (upd H l (.tup ys)))\/(bh X.K H p ys/\Q (.ref p) H))):=by
 intro pins s σ H xs us Q I r h;obtain⟨p,ys,rfl,h⟩:=h;obtain⟨u,rfl,rx⟩:=vals1 r;cases rx;rcases h with ⟨hq,q⟩|⟨hq,q⟩
 ·obtain⟨aN,r',pl,hz⟩:=I.list hq;have hlen:=r'.length;refine call_tuple_list pl.isList (λh' kp=>?_) (by simp only[List.size_toArray]<;>omega);have I1:Inv X pins σ H { s with heap:=h' }:=I.kept (t':=s.toks) kp;have I2:Inv X pins σ (upd H h'.objs.size (.tup ys)) { s with heap:=h'.push { cls:=.type "tuple",data:=.seq aN.toArray } } :=
   I1.laid (t':=s.toks) (λb o e=>aah _ e) (aaj _) (show cM X.prog X.w _ _ _ (.tup ys) from⟨hz,aN,r',IsTup.new _ _⟩)
  exact⟨.ref h'.objs.size,_,I2,rfl,q _ (I1.cm.fresh (aaj _))⟩
 ·obtain⟨aN,r',pl,hz⟩:=I.tuple hq;exact call_tuple_same pl ⟨.ref p,H,I,rfl,q⟩
def Tu(K:au)(T:String)(x:V)(H:Hp):Prop:=match x with
 |.str _=>T = "str"
 |.int _=>T = "int"
 |.ref p=>(T = "list" /\ ∃xs,dz K H p xs)\/(T = "tuple" /\ ∃o,K.lookup p=some o/\o.cls=.type "tuple" /\ o.dict=none) \/
   (T = "dict" /\ ((∃mD,H p=some (.dK mD))\/∃mD,H p=some (.dT mD)))\/(T = "set" /\ ∃S n,H p=some (.set S n))
 |_=>False
theorem AZ{pins:ak}{s:Shared}{T:String}{x:V}{v:Value}(I:Inv X pins σ H s)(r:RelV x v)(ty:Tu X.K T x H):
  s.TypeIs v T/\∀a,v=.ref a->∃ob,s.heap.get? a=some ob/\ob.dict=none:=by
 cases x with
 |str z =>
  obtain⟨t,rfl⟩:=r;cases (show T = "str" from ty);exact⟨typeIs_str s z t,λ_ e=>nomatch e⟩
 |int i =>
  obtain⟨t,rfl⟩:=r;cases (show T = "int" from ty);exact⟨typeIs_int s i t,λ_ e=>nomatch e⟩
 |ref p =>
  cases r;rcases ty with ⟨rfl,xs,hq⟩|⟨rfl,o,hk,hc,hd⟩|⟨rfl,hk⟩|⟨rfl,S,n,hk⟩
  ·obtain⟨aN,_,pl,_⟩:=I.list hq;refine⟨pl.isList.typeIs,λa e=>?_⟩;cases e;obtain⟨o,n,e,c,hd,_⟩:=pl;exact⟨o,e,hd⟩
  ·refine⟨⟨o,I.wk p o hk,hc⟩,λa e=>?_⟩;cases e;exact⟨o,I.wk _ o hk,hd⟩
  ·have z:∃o,s.heap.get? p=some o/\o.ExactDict:=by
    rcases hk with ⟨mD,hk⟩|⟨mD,hk⟩
    ·obtain⟨_,_,_,_,o,_,_,e,ex,_⟩:=I.cm p _ hk;exact⟨o,e,ex⟩
    ·obtain⟨_,_,_,_,o,_,_,e,ex,_⟩:=I.cm p _ hk;exact⟨o,e,ex⟩
   obtain⟨o,e,ex⟩:=z;refine⟨⟨o,e,ex.1⟩,λa e2=>?_⟩;cases e2;exact⟨o,e,ex.2.1⟩
  ·obtain⟨o,_,_,_,e,ex,_⟩:=I.cm p _ hk;refine⟨⟨o,e,ex.1⟩,λa e2=>?_⟩;cases e2;exact⟨o,e,ex.2.1⟩
 |_=>exact False.elim ty
def TQ(K:au)(T:String)(r:V->af->Hp->VK->Prop)(to:TE):TE:=λσ H Q=>to σ H λx H1=>Tu K T x H1/\r x [] H1 Q
def Zp(K:au)(T:String)(r:V->af->Hp->VK->Prop)(to:TE)(t:TA):TE:=λσ H Q=>to σ H λx H1=>Tu K T x H1/\t σ H1 λxs H2=>r x xs H2 Q
variable {o e:Expr}{es:aA}{to:TE}{t:TA}{name:Str}{apos cpos:Pos}{T id:String}{r:V->af->Hp->VK->Prop}
theorem J5(pa:PlainAttrs T)(slot:Slot T name id)(Vp:typeOf (.builtin id)=pure (.type "method_descriptor"))(hm:W9 X id r)(ho:PE X o to)
  (uE:attributeBase o name X.env (eval o X.env)=eval o X.env:=by rfl) (hline:(apos.endLine==cpos.line)=true:=by rfl):PE X (.Call (.Attribute o name apos) [] [] cpos) (TQ X.K T r to):=by
 intro pins s σ H Q I h;refine wpAny_Call_method0_late uE hline (cW (ho pins s σ H _ I h) λv s1 bW=>?_);obtain⟨x,H1,I1,r1,ty,q1⟩:=bW;obtain⟨h1,h2⟩:=AZ I1 r1 ty;exact⟨T,id,pa,slot,Vp,h1,h2,abE rfl (PySem.evalArgs_none (hm pins s1 σ H1 x [] v [] Q I1 r1 .nil q1))⟩
theorem HJ(pa:PlainAttrs T)(slot:Slot T name id)(Vp:typeOf (.builtin id)=pure (.type "method_descriptor"))(hm:W9 X id r)(ho:PE X o to)(ha:PA X (e::es) t)
  (uE:attributeBase o name X.env (eval o X.env)=eval o X.env:=by rfl)
  (hfew:((backTo cpos (starEach (e::es) X.env)).all (λx=>!x.1)&&(backToKw cpos (keywordEach [] X.env)).all (λx=>x.1.isSome)
   && decide ((e::es).length+([]:List Keyword).length+(if ([]:List Keyword).isEmpty then 0 else 1)<30))=true:=by rfl)
  (hline:(apos.endLine==cpos.line)=true:=by rfl) (hs:starEach (e::es) X.env=(false,eval e X.env)::starEach es X.env:=by rfl) (K_:(backTo cpos (starEach es X.env)).any (·.1)=false:=by rfl) :
  PE X (.Call (.Attribute o name apos) (e::es) [] cpos) (Zp X.K T r to t):=by
 intro pins s σ H Q I h;refine wpAny_Call_method_late uE hfew hline rfl (cW (ho pins s σ H _ I h) λv s1 bW=>?_);obtain⟨x,H1,I1,r1,ty,q1⟩:=bW;obtain⟨h1,h2⟩:=AZ I1 r1 ty;refine⟨T,id,pa,slot,Vp,h1,h2,?_⟩;have hA:=ha cpos pins s1 σ H1 _ I1 q1;rw[hs]at hA ⊢;refine abE (by show(false||(backTo cpos (starEach es X.env)).any (·.1))=false;rw[K_]<;>rfl) (abS ?_);exact cW hA λus s2 ⟨vs,H2,I2,r2,q2⟩=>hm pins s2 σ H2 x vs v us Q I2 r1 r2 q2
/- xs.append(e),list.index on a module's tuple .. are W9 facts of 06m -/
end
end L2
namespace L2
open PySem PySem.Spec PyProof.Rows
def RK(X:Cx)(id:String)(r:V->af->Hp->VK->Prop):Prop :=
 ∀(pins:ak) (s:Shared) (σ:St) (H:Hp) (x:V) (xs:af) (v:Value) (us:ao) (Q:VK),Inv X pins σ H s->RelV x v->Vals xs us->r x xs H Q ->
  wpAny (model X.prog X.w) X.A (call (.builtin id) (v::us)) (EP X pins σ Q) X.xe s
theorem Vals.one:∀{x:V} {us:ao},Vals [x] us->∃u,us=[u]/\RelV x u
 |_,_,.cons r .nil=>⟨_,rfl,r⟩
theorem Vals.zero:∀{us:ao},Vals [] us->us=[]
 |_,.nil=>rfl
theorem Vals.rep{xs:af}{us:ao}(h:Vals xs us):∀k:Nat,Vals (List.replicate k xs).flatten (List.replicate k us).flatten
 |0=>.nil
 |k+1=>by
  rw[List.replicate_succ,List.replicate_succ,List.flatten_cons,List.flatten_cons];exact Vals.append h (Vals.rep h k)
theorem foldl_rep(aN:ao):∀(k:Nat) (acc:ao),
  List.foldl (λx1 x2=>x1++x2) acc.toArray (List.replicate k aN.toArray)=(acc++(List.replicate k aN).flatten).toArray
 |0,acc=>by simp
 |k+1,acc=>by
  have e:acc.toArray++aN.toArray=(acc++aN).toArray:=by simp
  have e2:(acc++aN)++(List.replicate k aN).flatten=acc++(List.replicate (k+1) aN).flatten:=by
   rw[List.replicate_succ,List.flatten_cons,List.append_assoc]
  rw[<- e2,<- foldl_rep aN k (acc++aN),<- e,List.replicate_succ,List.foldl_cons]
variable {aN:ao}{t':Nat}
section
variable {X:Cx}{pins:ak}{σ:St}{H:Hp}{s:Shared}{l b:Addr}{xs ys zs:af}
theorem Inv.jx{its':ao}{n:Nat}{f:aV->aV}(I:Inv X pins σ H s)(hH:H l=some (.lst xs))
  (e:s.heap.get? l=some { cls:=.type "list",data:=.seq aN.toArray n }) (hf:f aN.toArray=its'.toArray) (hv:Vals ys its') (hz:ys.length<=sizeLine) :
  Inv X pins σ (upd H l (.lst ys)) { s with heap:=s.heap.update l (Obj.mapSeq f),toks:=t' }:=by
 have q:=PySem.IsL.update e f;rw[hf]at q;refine I.write (x:=l) (e:=l) (by rw[hH];exact trivial) (.inl rfl) (λb' u hb hu=>(aaE s.heap (Obj.mapSeq f) (abw hb)).trans hu) ⟨_,q⟩ ?_;exact⟨hz,its',_,hv,q⟩
theorem Inv.KA(I:Inv X pins σ H s)(hv:Vals ys aN)(hz:ys.length<=sizeLine):
  Inv X pins σ (upd H s.heap.objs.size (.lst ys)) { s with heap:=s.heap.push { cls:=.type "list",data:=.seq aN.toArray },toks:=t' } :=
 I.laid (λ_ _ q=>aah _ q) (aaj _) ⟨hz,aN,0,hv,aam _ rfl⟩
theorem Inv.fresh(I:Inv X pins σ H s):H s.heap.objs.size=none:=I.cm.fresh (aaj _)
theorem Inv.rG(I:Inv X pins σ H s)(hH:H l=some (.lst xs)):xs.length<=sizeLine/\∃(aN:ao) (n:Nat),Vals xs aN/\xs.length=aN.length/\s.heap.get? l=some { cls:=.type "list",data:=.seq aN.toArray n }:=by
 obtain⟨z,aN,n,r,e⟩:=I.cm l _ hH;exact⟨z,aN,n,r,r.length,e⟩
theorem uh{n:Nat}(h:n<=sizeLine):Builtin.List.listTooLong n=false:=by
 unfold Builtin.List.listTooLong;exact aaI (by left)
end
section
variable {X:Cx}
def Fn:V->af->Hp->VK->Prop:=λx vs H Q=>∃l xs y,x=.ref l/\vs=[y]/\H l=some (.lst xs)/\xs.length<sizeLine/\Q .bu (upd H l (.lst (xs++[y])))
theorem zL:RK X "list.append" Fn:=by
 intro pins s σ H x vs v us Q I rx rv h;obtain⟨l,xs,y,rfl,rfl,hH,hz,q⟩:=h;cases rx;obtain⟨u,rfl,ru⟩:=rv.one;obtain⟨z,aN,n,r,hl,e⟩:=I.rG hH;refine aa9 F.slot_list_append ⟨_,e,rfl⟩ F.entry_list_append (F.args_list_append_2 _ _) (PySem.list_append l aN.toArray n u (by rw[List.size_toArray];left)) ⟨e,?_⟩;refine⟨.bu,_,I.jx (its':=aN++[u]) hH e (by simp) (r.append (.cons ru .nil)) ?_,rfl,q⟩;rw[List.length_append,List.length_singleton];left
def Fh:V->af->Hp->VK->Prop:=λx vs H Q=>∃l b xs zs,x=.ref l/\vs=[.ref b]/\H l=some (.lst xs)/\H b=some (.lst zs)/\xs.length+zs.length<=sizeLine/\Q .bu (upd H l (.lst (xs++zs)))
theorem zK:RK X "list.extend" Fh:=by
 intro pins s σ H x vs v us Q I rx rv h;obtain⟨l,b,xs,zs,rfl,rfl,hH,hB,hz,q⟩:=h;cases rx;obtain⟨u,rfl,ru⟩:=rv.one;cases ru;obtain⟨z,aN,n,r,hl,e⟩:=I.rG hH;obtain⟨z2,mE,n2,r2,z4,e2⟩:=I.rG hB;have hsz:aN.toArray.size+mE.toArray.size<=sizeLine:=by rw[List.size_toArray,List.size_toArray];left
 have CP:¬ (!aN.toArray.isEmpty&&Builtin.List.listTooLong (aN.toArray.size+mE.toArray.size))=true:=by
  rw[uh hsz,Bool.and_false];exact aac
 refine aa9 F.slot_list_extend ⟨_,e,rfl⟩ F.entry_list_extend (F.args_list_extend_2 _ _)
  (AutoSeq1.list_extend_list_list_0 l aN.toArray n b mE.toArray n2 CP (by rw[List.size_toArray];left) (by left)) ⟨e,e2,?_⟩
 refine⟨.bu,_,I.jx (its':=aN++mE) hH e (by simp) (r.append r2) ?_,rfl,q⟩;rw[List.length_append];left
def JN:V->af->Hp->VK->Prop:=λx vs H Q=>∃l xs,x=.ref l/\vs=[]/\H l=some (.lst xs)/\Q .bu (upd H l (.lst []))
theorem Ci:RK X "list.clear" JN:=by
 intro pins s σ H x vs v us Q I rx rv h;obtain⟨l,xs,rfl,rfl,hH,q⟩:=h;cases rx;have Vm:=rv.zero;subst Vm;obtain⟨z,aN,n,r,hl,e⟩:=I.rG hH;refine aa9 F.slot_list_clear ⟨_,e,rfl⟩ F.entry_list_clear (F.args_list_clear_1 _) (AutoSeq1.list_clear_list_0 l aN.toArray n (by rw[List.size_toArray];left)) ⟨e,?_⟩;exact⟨.bu,_,I.jx (its':=[]) (ys:=[]) hH e rfl .nil (aaC _),rfl,q⟩
def Uy:R2:=λx y H Q=>∃l b xs zs,x=.ref l/\y=.ref b/\H l=some (.lst xs)/\H b=some (.lst zs)/\xs.length+zs.length<=sizeLine/\∀p,H p=none->Q (.ref p) (upd H p (.lst (xs++zs)))
theorem Ke:jZ X (binaryOp .Add) Uy:=by
 intro pins s σ H x y v u Q I rx ry h;obtain⟨l,b,xs,zs,rfl,rfl,hH,hB,hz,q⟩:=h;cases rx;cases ry;obtain⟨z,aN,n,r,hl,e⟩:=I.rG hH;obtain⟨z2,mE,n2,r2,z4,e2⟩:=I.rG hB;refine PySem.P.add_list e e2 ?_ (by rw[List.size_toArray,List.size_toArray];left);have ea:aN.toArray++mE.toArray=(aN++mE).toArray:=by simp
 rw[ea];exact⟨.ref _,_,I.KA (t':=s.toks) (r.append r2) (by rw[List.length_append];left),rfl,q _ I.fresh⟩
def Us:R2:=λx y H Q=>∃l k xs,x=.ref l/\y=.int k/\H l=some (.lst xs) /\ -(2 ^ 63)<=k/\k<2 ^ 63/\xs.length*k.toNat<=sizeLine /\
 ∀p,H p=none->Q (.ref p) (upd H p (.lst (List.replicate k.toNat xs).flatten))
theorem len_rep{α:Type}(xs:List α)(k:Nat):(List.replicate k xs).flatten.length=k*xs.length:=by
 induction k with
 |zero=>simp
 |succ k ih=>rw[List.replicate_succ,List.flatten_cons,List.length_append,ih,Nat.succ_mul,Nat.add_comm]
theorem Ka:jZ X (binaryOp .Mult) Us:=by
 intro pins s σ H x y v u Q I rx ry h;obtain⟨l,k,xs,rfl,rfl,hH,h1,h2,hz,q⟩:=h;cases rx;obtain⟨t,rfl⟩:=ry;obtain⟨z,aN,n,r,hl,e⟩:=I.rG hH;have hlen:aN.toArray.size*k.toNat<=sizeLine:=by rw[List.size_toArray,<- hl];exact hz
 have kM:¬ aN.toArray.size*k.toNat>(2 ^ 63 - 1) / 8:=by
  have:(sizeLine:Nat)<=(2 ^ 63 - 1) / 8:=by decide
  left
 have VP:¬ (!Builtin.List.listFitsIndex k)=true:=by
  rw[fitsIndex_both h1 h2];exact aac
 have CP:¬ Builtin.List.listTooLong (aN.toArray.size*k.toNat)=true:=by
  rw[uh hlen];exact aac
 have Lf:List.foldl (λx1 x2=>x1++x2) #[] (List.replicate (if aN.toArray.isEmpty=true then 0 else k.toNat) aN.toArray)=(List.replicate k.toNat aN).flatten.toArray:=by
  have f0:∀m:Nat,List.foldl (λx1 x2=>x1++x2) #[] (List.replicate m aN.toArray)=(List.replicate m aN).flatten.toArray:=λm=>by
   have:=foldl_rep aN m [];rw[List.nil_append]at this;exact this
  rw[f0];cases aN with
  |nil=>simp
  |cons a r'=>rw[if_neg (by simp)]
 refine wpAny_binaryOp_repeat_ref (T:="list") (U:="int") (by decide) ⟨_,e,rfl⟩ (λs'=>typeIs_int s' k t) noFill_list_mul F.fills_int_mul F.slot_int_rmul repeat_list F.slot_int_index.lookup
  (aa9 F.slot_int_rmul (typeIs_int s k t) F.entry_int_rmul (F.args_int_rmul_2 _ _) (int___rmul___int_list k t l aN.toArray n)
   ⟨e,rfl,⟨_,e,rfl⟩,aa9 F.slot_list_mul ⟨_,e,rfl⟩ F.entry_list_mul (F.args_list_mul_2 _ _) (AutoListH.list___mul___list_int_3 l aN.toArray n k t VP kM CP) ⟨e,?_⟩⟩)
 rw[Lf];exact⟨.ref _,_,I.KA (t':=s.toks) (r.rep k.toNat) (by rw[len_rep,Nat.mul_comm];exact hz),rfl,q _ I.fresh⟩
end
section
variable {prog:aH}{w:World}{A:aK}{E:aB}{s:Shared}
set_option maxRecDepth 100000 in
end
section
variable {X:Cx}
end
end L2
namespace Att
open PySem PySem.W PySem.Calls PyProof.Rows
theorem mF{P:Params}{h:Heap}:∀(ns:ae) (vs:ao),WellAll P h vs (ns.map WData.int)->IntsAre vs ns:=by
 intro ns;induction ns with
 |nil =>
  intro vs w;rw[List.map_nil]at w;cases w;exact .nil
 |cons n ns ih =>
  intro vs w;rw[List.map_cons]at w;cases w with
  |cons a b =>
   cases a;exact .cons _ _ (ih _ b)
theorem zw{l:OpenLaw}{n:Nat}(hn:l.most=some n){P:Params}{h:Heap}{args:List WData}{vals:ao}
  (zZ:l.row.toRowW.claim.pre args=true) (Vk:WellAll P h vals args) :
  ∃a vs ns,vals=[Value.ref a]/\args=[WData.list (ns.map WData.int)]/\h.get? a=some { cls:=.type "list",data:=.seq vs.toArray }/\IntsAre vs ns/\ns.length<=n:=by
 have Qc:WShape.hasAll [] args [.list .int]=true:=(pre_splitW zZ).1;have hc:l.pre.holds [] { args:=args }=true:=(pre_splitW zZ).2;obtain⟨d,r,rfl,h1,h2⟩:=hasAllW_cons Qc;obtain rfl:=hasAllW_nil h2;obtain⟨xs,rfl,h3⟩:=hasW_list h1;obtain⟨ns,rfl⟩:=items_int h3;have hlen:ns.length<=n:=by
  unfold OpenLaw.pre at hc;have h4:(WTm.not (.lt (.lit (.int (n:Int))) (.len (.arg 0)))).holds [] { args:=[.list (ns.map .int)] }=true:=by
   have h4:=(holds_andW hc).1;rw[hn]at h4;exact h4
  have h5:=condW_of h4 (w_not (w_lt w_lit (w_len_list (w_arg rfl))));rw[List.length_map]at h5;refine Nat.le_of_not_lt λq=>?_;have q':(n:Int)<((ns.length:Nat):Int):=by left
  first
   | (rw[decide_eq_true q']at h5;exact absurd h5 (by decide))
   | (simp at h5;left)
 cases Vk with
 |cons w1 w2 =>
  cases w2;cases w1 with
  |list ho hall=>exact⟨_,_,ns,rfl,rfl,ho,mF ns _ hall,hlen⟩
theorem zF(l:OpenLaw)(args:List WData):l.row.toRowW.claim.post args (.bool true) args=true :=
 postW_of (r:=l.row.toRowW) (X:=(true==true))
  (show WShape.has [] (.bool true) .bool=true by first|rfl|decide|simp[WShape.has,WShape.arms,WShape.armsAll])
  (show(WTm.eq .res (.lit (.bool true))).value [] { args:=args,res:=some (.bool true),after:=args }=some (.bool (true==true)) from w_eq_bool (w_res rfl) w_lit) rfl
theorem vc{l:OpenLaw}{n:Nat}{q:aH}{loose:aq}{XP:(aU)->Heap->Prop}{YP:World->Heap->Prop}{d:DefRec}
  (hn:l.most=some n) (Ig:d.params.defaults=[])
  (call:∀(w:World) (s₀ s₁:Shared) (mg mb:aU) (fa:Addr) (o:Obj) (pm cd doc:Value) (a:Addr) (vs:ao) (ns:ae),
   Ground q loose [] XP w s₀ mg mb s₁.heap->YP w s₁.heap ->
   s₁.heap.get? fa=some o->o.data=.func (docDef d.name d.params d.body d.scope pm cd doc)->s₁.heap.CodeRec cd d.name->mg d.name=some (.ref fa) ->
   s₁.heap.get? a=some { cls:=.type "list",data:=.seq vs.toArray }->IntsAre vs ns->ns.length<=n->s₁.gens = #[] ->
   codeAny (model l.prog w) callerA (.call (.ref fa) ⟨[.ref a],[]⟩) (λr s'=>r=.ok (.ret (.bool true))/\OldK s₁.heap s'.heap/\s'.os=s₁.os/\AllBare s'.gens) s₁) :
  WalkO q loose XP YP l.row.toRowW d [] (λf vs=>PySem.call f vs):=by
 intro w s₀ s₁ mg mb G Y fa o pm cd doc dV kV ho hd wC hD hmg hg args vals as zZ aav hrd Vk hlo;obtain rfl:dV=.none:=Dflts.none hD Ig;obtain rfl:kV=.none:=Dflts.noKw hD;obtain⟨a,vs,ns,rfl,rfl,Lc,hints,hlen⟩:=zw hn zZ Vk;refine enter_call (abo (call w s₀ s₁ mg mb fa o pm cd doc a vs ns G Y ho (fd_plain hd) wC hmg Lc hints hlen hg) λr s' hq=>?_);obtain⟨rfl,h2,h3,h4⟩:=hq;exact⟨.inl ⟨.bool true,.bool true,[],rfl,λ_=>rfl,.bool true,zF l _,λ_=>⟨List.Pairwise.nil,λ_ hm=>(nomatch hm)⟩⟩,h2,h3,h4⟩
section
variable {prog:aH}{w:World}{A:aK}{E:aB}{s:Shared}{K:Frag}
end
end Att
namespace L2
open PySem PySem.Spec PyProof.Rows
theorem lp:∀{vs:ao} {ns:ae},IntsAre vs ns->Vals (ns.map V.int) vs
 |_,_,.nil=>.nil
 |_,_,.cons n t h=>.cons ⟨t,rfl⟩ (lp h)
def Hk(H:Hp):Prop:=∀b,H b=none\/∃o xs,H b=some (.hU o (.lst xs))
theorem Ct{P:aH}{w:World}{K:au}{mg mb:aU}{CX:vy}{k:Nat}{fa a:Addr}{fd:FuncData}{x:Str}{sp:Sp}{s₁:Shared}{vs:ao}{ns:ae}
  (KX:K.In s₁.heap) (AF:s₁.heap.Ns mainGlobals mg) (hb:s₁.heap.Ns builtinsNs mb) (hbb:∀x:Str,x ≠ "__name__" -> mb x=bootBuiltins x) (VI:s₁.heap.NoLimit) (hg:s₁.gens = #[])
  (ha:s₁.heap.get? a=some { cls:=.type "list",data:=.seq vs.toArray }) (hi:IntsAre vs ns) (hl:ns.length<=sizeLine) (hr:f9 k callerA)
  (F:∀base:Heap,K.In base->base.Ns mainGlobals mg->f_ P w K mg base CX k fa fd [x] sp) (QG:∀(s:Shared) (u:Value),BindsTo s fd ⟨[u],[]⟩ [(x,u)])
  (vq:∀H:Hp,Hk H->dz K H a (ns.map V.int)->sp [.ref a] H (λv _=>v=.bl true) λ_ _ _=>False)
  (V0:∀H e s',CX [] H s₁ (λ_ _ _=>False) e s'->False) :
  codeAny (model P w) callerA (.call (.ref fa) ⟨[.ref a],[]⟩) (λr s'=>r=.ok (.ret (.bool true))/\OldK s₁.heap s'.heap/\s'.os=s₁.os/\AllBare s'.gens) s₁:=by
 have rv:=lp hi;have UT:=hi.length;have core:∀H:Hp,Hk H->dz K H a (ns.map V.int)->jb P w H s₁.heap->(∀b,H b≠none->b=a)->(H a≠none->K.lookup a=none) ->
   codeAny (model P w) callerA (.call (.ref fa) ⟨[.ref a],[]⟩) (λr s'=>r=.ok (.ret (.bool true))/\OldK s₁.heap s'.heap/\s'.os=s₁.os/\AllBare s'.gens) s₁:=by
  intro H hO hS cm hA hK;have yW:∀{b:Addr} {o:Obj},s₁.heap.get? b=some o->H b=none->(rP s₁.heap H).get? b=some o:=λe n=>CV e n;have Pe:∀{b:Addr} {o:Obj} {es:Array DictEntry} {ep:Nat},s₁.heap.get? b=some o->o.data=.dict es ep->H b=none:=λ{b o es ep} e d=>by
   cases q:H b with
   |none=>rfl
   |some u =>
    have e':b=a:=hA b (by rw[q];simp);subst e';rw[ha]at e;cases e;have d':Data.seq vs.toArray _=Data.dict es ep:=d;cases d'
  have Sg:∀{b:Addr} {m:aU},s₁.heap.Ns b m->(rP s₁.heap H).Ns b m:=λ{b m} ⟨o,es,ep,e,d,r⟩=>⟨o,es,ep,yW e (Pe e d),d,r⟩
  have Yo:K.In (rP s₁.heap H):=λb o e=>yW (KX b o e) (by
   cases q:H b with
   |none=>rfl
   |some u =>
    have e':b=a:=hA b (by rw[q];simp);subst e';rw[hK (by rw[q];simp)]at e;cases e)
  have hM:Mod K mg (rP s₁.heap H):=⟨Yo,Sg AF,⟨mb,Sg hb,hbb⟩,let ⟨mc,h1,h2⟩:=VI;⟨mc,Sg h1,h2⟩⟩
  have e0:Hm P w K mg (rP s₁.heap H) callerA [] s₁ H:=⟨rfl,hM,λb o e=>FJ e,Nat.le_of_eq (z5 _ _),trivial,λb hb=>absurd (show b∈([]:aW) from hb) (by simp),cm,.of_eq hg⟩
  refine abo ((F _ Yo (Sg AF)).run callerA [] s₁ H ⟨[.ref a],[]⟩ [.ref a] [.ref a] _ _ hr e0 (QG s₁ (.ref a)) (.cons rfl .nil) (vq H hO hS)) λr s' h=>?_;cases r with
  |error e=>exact(V0 H e s' h).elim
  |ok fl =>
   cases fl with
   |next=>exact False.elim h
   |brk=>exact False.elim h
   |cont=>exact False.elim h
   |ret u =>
    obtain⟨v,H',os,bare,un,Vz,r',q⟩:=h;have q':v=.bl true:=q;subst q';obtain rfl:u=Value.bool true:=r';refine⟨rfl,OldK.of_keep λb o e=>?_,os,bare⟩;cases q:H b with
    |none=>exact un.keep b o e q (by intro z;exact absurd (show b∈([]:aW) from z) (by simp)) (by simp)
    |some u =>
     rcases hO b with z|⟨ob,xs,z⟩
     ·rw[q]at z;cases z
     ·have z2:=un.kR b ob _ z;obtain⟨e1,_⟩:=cm b _ z;obtain⟨e2,_⟩:=Vz b _ z2;rw[e]at e1;cases e1;exact e2
 cases hk:K.lookup a with
 |some o =>
  have e:=KX a o hk;rw[ha]at e;cases e;refine core (λ_=>none) (λ_=>.inl rfl) (.inr ⟨_,vs.toArray,_,hk,rfl,rfl,rfl,by rw[List.size_toArray,UT];exact hl,by simpa using rv⟩) (λb u z=>by have z':(none:Option HO)=some u:=z;cases z') (λb z=>absurd rfl z) λz=>absurd rfl z
 |none =>
  refine core (λb=>if b=a then some (.hU { cls:=.type "list",data:=.seq vs.toArray } (.lst (ns.map V.int)))else none) (λb=>?_) (.inl (.inr ⟨{ cls:=.type "list",data:=.seq vs.toArray },aaQ rfl⟩)) (λb u z=>?_) (λb z=>?_) λ_=>hk
  ·by_cases hb:b=a
   ·exact .inr ⟨_,_,aaQ hb⟩
   ·exact .inl (acb hb)
  ·by_cases hb:b=a
   ·have z':=(aaQ hb).symm.trans z;cases z';subst hb;exact⟨ha,by rw[List.length_map];exact hl,vs,_,rv,ha⟩
   ·have z':=(acb hb).symm.trans z;cases z'
  ·by_cases hb:b=a
   ·exact hb
   ·exact absurd (acb hb) z
end L2
namespace L2
open PySem PySem.Spec PyProof.Rows
theorem Et{l:PySem.W.OpenLaw}{n k:Nat}{q:aH}{loose:aq}{XP:(aU)->Heap->Prop}{YP:World->Heap->Prop}{d:DefRec}{K:Params->au}{CX:World->vy}{sp:World->Sp}{x:Str}
  (hn:l.most=some n) (Ni:n<=sizeLine) (Ig:d.params.defaults=[]) (hr:f9 k callerA)
  (hY:∀(w:World) (h:Heap),YP w h->(K w.params).In h)
  (F:∀(w:World) (mg:aU) (fa:Addr) (h:Heap),(K w.params).In h->h.Ns mainGlobals mg->mg d.name=some (.ref fa) ->
   ∃fd:FuncData,(∀(s:Shared) (u:Value),BindsTo s fd ⟨[u],[]⟩ [(x,u)]) /\
    ∀base:Heap,(K w.params).In base->base.Ns mainGlobals mg->f_ l.prog w (K w.params) mg base (CX w) k fa fd [x] (sp w))
  (vq:∀(w:World) (H:Hp) (a:Addr) (ns:ae),ns.length<=n->Hk H->dz (K w.params) H a (ns.map V.int)->sp w [.ref a] H (λv _=>v=.bl true) λ_ _ _=>False)
  (V0:∀(w:World) (H:Hp) (s:Shared) (e:Value) (s':Shared),CX w [] H s (λ_ _ _=>False) e s'->False) :
  PySem.W.WalkO q loose XP YP l.row.toRowW d [] (λf vs=>PySem.call f vs):=by
 refine Att.vc hn Ig λw s₀ s₁ mg mb fa o pm cd doc a vs ns G Y ho hd wC hmg Lc hints hlen hg=>?_;have KX:=hY w _ Y;obtain⟨fd,hb,hF⟩:=F w mg fa _ KX G.T.g hmg;exact Ct KX G.T.g G.T.b G.T.builtins G.T.nolimit hg Lc hints (aaB hlen Ni) hr hF hb (λH hO hS=>vq w H a ns hlen hO hS) λH e s'=>V0 w H s₁ e s'
end L2
namespace L2
open PySem PySem.Spec PyProof.Rows
noncomputable def fi(s:Stmt):Arguments:=match s with
 |.FunctionDef _ a _ _ _ _ _ _ _ _=>a
 |_=>{ posonlyargs:=[],args:=[],vararg:=none,kwonlyargs:=[],kw_defaults:=[],kwarg:=none,defaults:=[] }
noncomputable def bD(s:Stmt):aZ:=match s with
 |.FunctionDef _ _ b _ _ _ _ _ _ _=>b
 |_=>[]
noncomputable def aL(s:Stmt):Scope:=match s with
 |.FunctionDef _ _ _ _ _ _ sc _ _ _=>sc
 |_=>{ kind:=.function,names:=[],isGenerator:=false,isCoroutine:=false }
noncomputable abbrev zc:vy:=λ_ _ _ _ _ _=>False
noncomputable abbrev E0:XK:=λ_ _ _=>False
theorem O2{X:Cx}:Passes zc X E0:=λ_ _ _ _ _ _ _ h=>h.elim
structure AK(K:au)(x qual:Str)(st:Stmt)(f:Addr)(fd:FuncData):Prop where
 ex:∃(oc:Value) (od:Option Addr) (kV doc pm:Value) (an:Option Addr) (gx ct:Value) (B3:Array (Option Value)),
  fd=PySem.W.fnOf x qual (fi st) (bD st) (aL st) .none kV doc pm an gx ct/\K.lookup f=some ⟨oc,od,.func fd,B3⟩/\PySem.W.codeIn K gx qual=true
 kp:PySem.W.keepIn K (.ref f)=true
variable {ps:aq}{qual:Str}{st:Stmt}
section
variable {P:aH}{w:World}{K:au}{mg:aU}{base:Heap}
theorem AK.ok{x:Str}{f:Addr}{fd:FuncData}{N:aq}{k:Nat}{sp:Sp}(F:AK K x qual st f fd)(S:fq N ps (aL st))(len:∀vs H Q E,sp vs H Q E->vs.length=ps.length)
  (oD:∀(gx:Value) (A:aK) (outer:List Env) (s:Shared) (H:Hp) (vs:af) (Q:VK) (E:XK),f9 k (A.deeper (envOfC qual (aL st) s.heap.objs.size f gx))->sp vs H Q E ->
   ∃t,fG (i8 zc P w K mg base N qual (aL st) f gx A outer s H E).Ea (bD st) t/\t { nx:=λ_ H'=>Q .bu H',rt:=Q } (start N vs) H):f_ P w K mg base zc (k+1) f fd ps sp:=by
 obtain⟨oc,od,kV,doc,pm,an,gx,ct,B3,rfl,lk,wC⟩:=F.ex;refine Im lk wC S len λA outer s H vs Q E hr vq=>?_;obtain⟨t,h,q⟩:=oD gx A outer s H vs Q E hr vq;exact⟨t,h.Ea,q⟩
theorem AK.binds{x:Str}{f:Addr}{fd:FuncData}(F:AK K x qual st f fd)
  (h:∀(kV doc pm:Value) (an:Option Addr) (gx ct:Value) (us:ao),us.length=ps.length->bindArgs (PySem.W.fnOf x qual (fi st) (bD st) (aL st) .none kV doc pm an gx ct) ⟨us,[]⟩=pure (ps.zip us)):Binds K fd ps []:=by
 obtain⟨oc,od,kV,doc,pm,an,gx,ct,B3,rfl,lk,wC⟩:=F.ex;exact .all (h kV doc pm an gx ct)
theorem LF{x:Str}{f:Addr}{oc:Value}{od an:Option Addr}{B3:Array (Option Value)}{kV doc pm gx ct:Value}(l:K.lookup f=some ⟨oc,od,.func (PySem.W.fnOf x qual (fi st) (bD st) (aL st) .none kV doc pm an gx ct),B3⟩)
  (c:PySem.W.codeIn K gx qual=true) (k:PySem.W.keepIn K (.ref f)=true):AK K x qual st f (PySem.W.fnOf x qual (fi st) (bD st) (aL st) .none kV doc pm an gx ct):=⟨⟨oc,od,kV,doc,pm,an,gx,ct,B3,rfl,l,c⟩,k⟩
end
theorem CH{A:aK}{k:Nat}(hr:f9 k A):A.units+1<cLine:=aao (Nat.add_le_add_left (by decide:1<=64) _) hr.units
section
variable {X:Cx}
end
theorem PM{A B:Prop}(h:B):if false=true then A else B:=by
 rw[if_neg Bool.false_ne_true];exact h
theorem PJ{A B:Prop}(h:A):if true=true then A else B:=by
 rw[if_pos rfl];exact h
def aM(H H':Hp):Prop:=∀b o,H b=some o->H' b=some o
theorem aM.refl(H:Hp):aM H H:=λ_ _ h=>h
variable {H H':Hp}
theorem aM.trans{H1 H2:Hp}(a:aM H H1)(b:aM H1 H2):aM H H2:=λc o h=>b c o (a c o h)
theorem aM.free(e:aM H H'){l:Addr}(h:H' l=Option.none):H l=Option.none:=by
 cases q:H l with
 |none=>rfl
 |some o =>
  rw[e l o q]at h;cases h
theorem aM.seq{K:au}{a:Addr}{xs:af}(e:aM H H')(h:dz K H a xs):dz K H' a xs:=by
 rcases h with (h|⟨o,h⟩)|h
 ·exact .inl (.inl (e _ _ h))
 ·exact .inl (.inr ⟨o,e _ _ h⟩)
 ·exact .inr h
end L2
set_option autoImplicit false
set_option linter.all false
set_option Elab.async false
set_option maxRecDepth 100000
set_option maxHeartbeats 4000000
section
namespace DI
open PySem (Str Expr Stmt Scope NameKind)
inductive Fl where|ow|fz|al|sc
 deriving DecidableEq
inductive D where
 |bu|bl (b:Bool)|int (i:Int)
 |tup (ds:List D)
 |lst (f:Fl) (ds:List D)
 |cJ (f:Fl) (ks:aG) (vs:List D)
abbrev av:=Option D
abbrev aa:=List D
mutual
noncomputable def aY(g:Fl->Fl):D->D
 |.tup ds=>.tup (aC g ds)
 |.lst f ds=>.lst (g f) (aC g ds)
 |.cJ f ks vs=>.cJ (g f) ks (aC g vs)
 |.bu=>.bu
 |.bl b=>.bl b
 |.int i=>.int i
noncomputable def aC(g:Fl->Fl):aa->aa
 |[]=>[]
 |d::ds=>aY g d::aC g ds
end
theorem aP(g:Fl->Fl):∀ds:aa,aC g ds=ds.map (aY g)
 |[]=>rfl
 |d::ds=>by rw[aC,aP g ds];rfl
noncomputable def bB:Fl->Fl|.ow=>.al|f=>f
noncomputable def i4:Fl->Fl|.fz=>.al|f=>f
noncomputable def a_:Fl->Fl|.sc=>.sc|_=>.fz
noncomputable def uw:Fl->Bool|.sc=>true|_=>false
mutual
noncomputable def ba(p:Fl->Bool):D->Bool
 |.tup ds=>aR p ds
 |.lst f ds=>p f||aR p ds
 |.cJ f ks vs=>p f||aR p vs
 |_=>false
noncomputable def aR(p:Fl->Bool):aa->Bool
 |[]=>false
 |d::ds=>ba p d||aR p ds
end
noncomputable def bI:Fl->Bool|.al=>true|_=>false
noncomputable def dF:Fl->Bool|.ow=>true|_=>false
noncomputable def anyF:Fl->Bool:=λ_=>true
mutual
noncomputable def lj:D->D->Bool
 |.bu,.bu=>true
 |.bl a,.bl b=>a==b
 |.bl a,.int b=>(if a then 1 else 0)==b
 |.int a,.bl b=>a==(if b then 1 else 0)
 |.int a,.int b=>a==b
 |.tup a,.tup b=>dg a b
 |.lst _ a,.lst _ b=>dg a b
 |_,_=>false
noncomputable def dg:aa->aa->Bool
 |[],[]=>true
 |a::as,b::bs=>lj a b&&dg as bs
 |_,_=>false
end
noncomputable def dM:Nat->D->Bool
 |_,.bu=>true
 |_,.bl _=>true
 |_,.int _=>true
 |n+1,.tup ds=>ds.all (dM n)
 |n+1,.lst _ ds=>ds.all (dM n)
 |_,_=>false
noncomputable abbrev O(α:Type):=Option (Except Nat α)
abbrev aw:=aa->O D
noncomputable def ok{α:Type}(a:α):O α:=some (.ok a)
noncomputable def bd{α β:Type}(x:O α)(f:α->O β):O β:=match x with
 |some (.ok a)=>f a
 |some (.error c)=>some (.error c)
 |none=>none
@[simp]theorem Sj{α:Type}{a:α}:((none:O α)=ok a)=False:=by simp[ok]
@[simp]theorem UK{α:Type}{a b:α}:(ok a=ok b)=(a=b):=by simp[ok]
@[simp]theorem Wu{α:Type}{a:α}{c:Nat}:((some (.error c):O α)=ok a)=False:=by simp[ok]
@[simp]theorem HY{α:Type}{p:Prop}[Decidable p]{a b:α}:((if p then ok a else none)=ok b)=(p/\a=b):=by
 by_cases h:p<;>simp[h]
@[simp]theorem Vd{α:Type}{p:Prop}[Decidable p]{a b:α}:((if p then none else ok a)=ok b)=(¬ p/\a=b):=by
 by_cases h:p<;>simp[h]
theorem nk{α:Type}{a:α}{P:Prop}(h:(none:Option α)=some a):P:=nomatch h
theorem aJ{α β:Type}{x:O α}{f:α->O β}{b:β}(h:bd x f=ok b):∃a,x=ok a/\f a=ok b:=by
 unfold bd at h
 match x,h with
 |some (.ok a),h=>exact⟨a,rfl,h⟩
 |some (.error c),h=>cases h
 |none,h=>cases h
inductive Hn where|add|sub|mul|fdiv|mod|pow|shr|band
 deriving DecidableEq
inductive AL where|eq|ne|lt|le|gt|ge|HW|ug|AE
 deriving DecidableEq
inductive Ty where|int|bool|list|tuple
 deriving DecidableEq
inductive Bf where|len|abs|CG|list1|tuple1|kr|all1|gZ
 deriving DecidableEq
inductive Tg where|nm(i:Nat)|tp(is:aQ)
 deriving DecidableEq
inductive IK where|iz|kA|seq|dj(p:Nat)
 deriving DecidableEq
inductive GK where|i(z:Int)|t(zs:ae)
 deriving DecidableEq
inductive CE where
 |bu|bl (b:Bool)|int (i:Int)|glo (x:Str) (i:Int)|glt (x:Str) (zs:ae)
 |v (i:Nat)
 |bin (op:Hn) (a b:CE)
 |neg (a:CE)|not (a:CE)|and (es:List CE)|or (es:List CE)
 |cmp (op:AL) (a b:CE)
 |vp (a:CE) (t:Ty)
 |call (f:Nat) (es:List CE)
 |bf (f:Bf) (es:List CE)
 |ix (a b:CE)
 |jx (a:CE)
 |tup (es:List CE)|lst (es:List CE)
 |dj (p:Nat) (es:List CE)
 |comp (n:Nat) (t:Tg) (caps:aQ) (ik:IK) (es bP:List CE) (elt:CE)
abbrev aF:=List CE
inductive CI where|iz(a:CE)|kA(a b:CE)|seq(a:CE)|uc(p:Nat)(es:aF)
inductive CS where
 |asg (t:Tg) (e:CE)|par (i j:Nat) (a b:CE)|ret (e:CE)|rs (c:Nat)|ex (e:CE)
 |mut (p i:Nat) (es:aF)|app (i:Nat) (e:CE)|setI (i:Nat) (k e:CE)
 |ifs (c:CE) (a b:List CS)
 |Hq (c:CE) (b:List CS)
 |fr (t:Tg) (it:CI) (b:List CS)
abbrev ag:=List CS
noncomputable abbrev aX:=List (av)
noncomputable abbrev aT:=Nat->aw
noncomputable def big:Nat:=2 ^ 9000
def iW(i j:Int):Bool:=decide (i.natAbs<2 ^ 64)||decide (j.natAbs<2 ^ 64)||(decide (i.natAbs<big)&&decide (j.natAbs<big))
def qB(j:Int):Bool:=decide (j≠0)&&decide (j.natAbs<big)
noncomputable def xT(i j:Int):Bool:=decide (0<=j)&&decide (j<=1000000)&&decide (i.natAbs<2 ^ 64)
noncomputable def cL:Nat:=1000000
theorem pv{α:Type}{c:Prop}[inst:Decidable c]{v d:α}(h:(if c then ok v else none)=ok d):c/\v=d:=by
 cases inst with
 |isTrue hc=>exact⟨hc,Except.ok.inj (aap h)⟩
 |isFalse hc=>cases h
def cT:Hn->D->D->O D
 |.add,.int i,.int j=>ok (.int (i+j))
 |.add,.lst f a,.lst g b=>if uw f=false/\uw g=false/\a.length+b.length<=cL then ok (.lst .ow (aC bB (a++b)))else none
 |.add,.tup a,.tup b=>if a.length+b.length<=cL then ok (.tup (aC bB (a++b)))else none
 |.sub,.int i,.int j=>ok (.int (i - j))
 |.mul,.int i,.int j=>if iW i j then ok (.int (i*j))else none
 |.mul,.lst f a,.int k=>if uw f=false/\a.length*k.toNat<=cL/\k<=cL /\ -cL<=k then ok (.lst .ow (aC bB (List.replicate k.toNat a).flatten))else none
 |.fdiv,.int i,.int j=>if qB j then ok (.int (i.fdiv j))else none
 |.mod,.int i,.int j=>if j≠0 then ok (.int (i.fmod j))else none
 |.pow,.int i,.int j=>if xT i j then ok (.int (i ^ j.toNat))else none
 |.shr,.int i,.int j=>if 0<=j then ok (.int (i / 2 ^ j.toNat))else none
 |.band,.int i,.int j=>if j=1 then ok (.int (i % 2))else none
 |_,_,_=>none
def inD(x:D):aa->Bool
 |[]=>false
 |y::ys=>lj y x||inD x ys
noncomputable def iB:D->Bool
 |.bu=>true|.bl _=>true|.int _=>true|_=>false
noncomputable def KN:D->Option (aa)
 |.tup ds=>some ds
 |.lst _ ds=>some ds
 |_=>none
def cK:AL->D->D->O D
 |.eq,a,b=>if dM 40 a&&dM 40 b then ok (.bl (lj a b))else none
 |.ne,a,b=>if dM 40 a&&dM 40 b then ok (.bl (!lj a b))else none
 |.lt,.int i,.int j=>ok (.bl (decide (i<j)))
 |.le,.int i,.int j=>ok (.bl (decide (i<=j)))
 |.gt,.int i,.int j=>ok (.bl (decide (j<i)))
 |.ge,.int i,.int j=>ok (.bl (decide (j<=i)))
 |.HW,a,.bu=>ok (.bl (match a with|.bu=>true|_=>false))
 |.ug,a,.bu=>ok (.bl (match a with|.bu=>false|_=>true))
 |.AE,a,b=>match KN b with
  |some ds=>if iB a&&ds.all iB then ok (.bl (inD a ds))else none
  |none=>none
 |_,_,_=>none
noncomputable def eU:Ty->D->Bool
 |.int,.int _=>true|.int,.bl _=>true
 |.bool,.bl _=>true
 |.list,.lst _ _=>true
 |.tuple,.tup _=>true
 |_,_=>false
noncomputable def sV(n:Nat)(i:Int):Option Nat:=if 0<=i then(if i<n then some i.toNat else none)else if -(n:Int)<=i then some (i+n).toNat else none
def sG(ds:aa)(i:Int):O D:=match(sV ds.length i).bind λj=>ds[j]? with
 |some d=>ok (aY bB d)
 |none=>none
def wm:D->D->O D
 |.tup ds,.int i=>sG ds i
 |.lst _ ds,.int i=>sG ds i
 |_,_=>none
noncomputable def intsOf:aa->Option (ae)
 |[]=>some []
 |.int i::ds=>(intsOf ds).map (i :: ·)
 |_::_=>none
noncomputable def i_:aa->Option (List Bool)
 |[]=>some []
 |.bl i::ds=>(i_ ds).map (i :: ·)
 |_::_=>none
theorem ej:∀{ds:aa} {ns:ae},intsOf ds=some ns->ds=ns.map D.int
 |[],ns,h=>by simp[intsOf]at h;subst h;rfl
 |d::ds,ns,h=>by
  cases d<;>simp[intsOf]at h;obtain⟨ms,h1,rfl⟩:=h;rw[ej h1];rfl
theorem va:∀{ds:aa} {bs:List Bool},i_ ds=some bs->ds=bs.map D.bl
 |[],bs,h=>by simp[i_]at h;subst h;rfl
 |d::ds,bs,h=>by
  cases d<;>simp[i_]at h;obtain⟨ms,h1,rfl⟩:=h;rw[va h1];rfl
theorem bS:∀ns:ae,intsOf (ns.map D.int)=some ns
 |[]=>rfl
 |n::ns=>by simp[intsOf,bS ns]
theorem lM:∀bs:List Bool,i_ (bs.map D.bl)=some bs
 |[]=>rfl
 |b::bs=>by simp[i_,lM bs]
noncomputable def sortI(ns:ae):ae:=ns.mergeSort (λa b=>decide (a<=b))
def qd(ds:aa):O D:=match intsOf ds with
 |some ns=>if ns.length<64 then ok (.lst .ow ((sortI ns).map D.int))else none
 |none=>none
def nc:Bf->aw
 |.len,xs=>match xs with
  |[.tup ds]=>ok (.int ds.length)
  |[.lst _ ds]=>ok (.int ds.length)
  |_=>none
 |.abs,xs=>match xs with
  |[.int i]=>ok (.int (if i<0 then -i else i))
  |_=>none
 |.CG,xs=>match xs with
  |[.int i]=>ok (.int i)
  |[.bl b]=>ok (.int (if b then 1 else 0))
  |_=>none
 |.list1,xs=>match xs with
  |[.lst _ ds]=>ok (.lst .ow (aC bB ds))
  |[.tup ds]=>ok (.lst .ow (aC bB ds))
  |_=>none
 |.tuple1,xs=>match xs with
  |[.lst _ ds]=>ok (.tup (aC bB ds))
  |[.tup ds]=>ok (.tup (aC bB ds))
  |_=>none
 |.kr,xs=>match xs with
  |[.lst _ ds]=>(match intsOf ds with
   |some ns=>ok (.int ns.sum)
   |none=>none)
  |_=>none
 |.all1,xs=>match xs with
  |[.lst _ ds]=>(match i_ ds with
   |some bs=>ok (.bl (bs.all id))
   |none=>none)
  |_=>none
 |.gZ,xs=>match xs with
  |[.lst _ ds]=>qd ds
  |[.tup ds]=>qd ds
  |_=>none
noncomputable def se(ns:ae):ae:=ns.foldl (λ(m:ae) (k:Int)=>if m.any (· == k)then m else m++[k]) []
def yg:D->O D
 |.tup ds=>(match intsOf ds with
  |some ns=>if ns.length<4000 then ok (.int (se ns).length)else none
  |none=>none)
 |_=>none
noncomputable def iI:D->O Bool
 |.bl b=>ok b
 |_=>none
noncomputable def intD:D->O Int
 |.int i=>ok i
 |_=>none
noncomputable def v7:Option (av)->Option (aa)
 |some (some (.lst .ow ds))=>some ds
 |_=>none
theorem x8{o:Option (av)}{ds:aa}(h:v7 o=some ds):o=some (some (.lst .ow ds)):=by
 unfold v7 at h;split at h<;>cases h;rfl
theorem F7{d:D}{i:Int}(h:intD d=ok i):d=.int i:=by
 cases d<;>simp[intD]at h;rw[h]
noncomputable def FN:D->O D
 |.int i=>ok (.int (-i))
 |_=>none
def iy:aQ->aa->aX->O aX
 |[],[],ρ=>ok ρ
 |i::is,d::ds,ρ=>if i<ρ.length then iy is ds (ρ.set i (some d))else none
 |_,_,_=>none
def bQ:Tg->D->aX->O aX
 |.nm i,d,ρ=>if i<ρ.length then ok (ρ.set i (some d))else none
 |.tp is,.tup ds,ρ=>if aR dF ds then none else iy is ds ρ
 |_,_,_=>none
def kv:D->O (aa)
 |.lst _ ds=>ok (aC a_ ds)
 |_=>none
def dX(Φ:aT):IK->aa->O (aa)
 |.dj p,xs=>bd (Φ p xs) kv
 |.iz,[.int n]=>if n<=cL /\ -cL<=n then ok ((List.range n.toNat).map λ(k:Nat)=>D.int (k:Int))else none
 |.kA,[.int m,.int n]=>if n<=cL /\ -cL<=n/\m<=cL /\ -cL<=m then ok ((List.range (n - m).toNat).map λ(k:Nat)=>D.int (m+(k:Int)))else none
 |.seq,[.tup ds]=>ok (aC a_ ds)
 |.seq,[.lst _ ds]=>ok (aC a_ ds)
 |_,_=>none
def iF(bind:D->O aX)(test:aX->O Bool)(el:aX->O D):aa->O (aa)
 |[]=>ok []
 |x::xs=>bd (bind x) λρ=>bd (test ρ) λb=>if b then bd (el ρ) λy=>bd (iF bind test el xs) λys=>ok (y::ys)else iF bind test el xs
def bE(n:Nat)(caps:aQ)(ρ:aX):aX:=List.replicate n none++caps.map λi=>(ρ[i]?.getD none).map (aY a_)
def xH(o:Option (av)):O D:=match o with
 |some (some d)=>ok (aY bB d)
 |_=>none
theorem Bl{o:Option (av)}{d:D}(h:xH o=ok d):∃d',o=some (some d')/\d=aY bB d':=by
 cases o with
 |none=>cases h
 |some z=>cases z with
  |none=>cases h
  |some z=>cases h;exact⟨z,rfl,rfl⟩
mutual
noncomputable def bx(Φ:aT):CE->aX->O D
 |.bu,_=>ok .bu
 |.bl b,_=>ok (.bl b)
 |.int i,_=>ok (.int i)
 |.glo _ i,_=>ok (.int i)
 |.glt _ zs,_=>ok (.tup (zs.map D.int))
 |.v i,ρ=>xH ρ[i]?
 |.bin op a b,ρ=>bd (bx Φ a ρ) λx=>bd (bx Φ b ρ) λy=>cT op x y
 |.neg a,ρ=>bd (bx Φ a ρ) FN
 |.not a,ρ=>bd (bd (bx Φ a ρ) iI) λb=>ok (.bl (!b))
 |.and es,ρ=>qx Φ es ρ
 |.or es,ρ=>Ad Φ es ρ
 |.cmp op a b,ρ=>bd (bx Φ a ρ) λx=>bd (bx Φ b ρ) λy=>cK op x y
 |.vp a t,ρ=>bd (bx Φ a ρ) λx=>ok (.bl (eU t x))
 |.call f es,ρ=>bd (bX Φ es ρ) λxs=>bd (Φ f (aC a_ xs)) λr=>ok (aY i4 r)
 |.bf f es,ρ=>bd (bX Φ es ρ) λxs=>nc f xs
 |.ix a b,ρ=>bd (bx Φ a ρ) λx=>bd (bx Φ b ρ) λy=>wm x y
 |.jx a,ρ=>bd (bx Φ a ρ) λx=>yg x
 |.dj p es,ρ=>bd (bX Φ es ρ) λxs=>Φ p xs
 |.tup es,ρ=>bd (bX Φ es ρ) λxs=>ok (.tup xs)
 |.lst es,ρ=>bd (bX Φ es ρ) λxs=>ok (.lst .ow xs)
 |.comp n t caps ik es bP elt,ρ=>bd (bX Φ es ρ) λxs=>bd (dX Φ ik xs) λitems =>
   bd (iF (λd=>bQ t d (bE n caps ρ)) (λρ'=>iD Φ bP ρ') (λρ'=>bx Φ elt ρ') items) λds=>if ds.length<=cL then ok (.lst .ow (aC i4 ds))else none
noncomputable def bX(Φ:aT):aF->aX->O (aa)
 |[],_=>ok []
 |e::es,ρ=>bd (bx Φ e ρ) λx=>bd (bX Φ es ρ) λxs=>ok (x::xs)
noncomputable def iD(Φ:aT):aF->aX->O Bool
 |[],_=>ok true
 |e::es,ρ=>bd (bd (bx Φ e ρ) iI) λb=>if b then iD Φ es ρ else ok false
noncomputable def qx(Φ:aT):aF->aX->O D
 |[],_=>none
 |e::es,ρ=>bd (bd (bx Φ e ρ) iI) λc=>match es with
  |[]=>ok (.bl c)
  |_::_=>if c then qx Φ es ρ else ok (.bl false)
noncomputable def Ad(Φ:aT):aF->aX->O D
 |[],_=>none
 |e::es,ρ=>bd (bd (bx Φ e ρ) iI) λc=>match es with
  |[]=>ok (.bl c)
  |_::_=>if c then ok (.bl true)else Ad Φ es ρ
end
def uN(Φ:aT)(e:CE)(ρ:aX):O Bool:=bd (bx Φ e ρ) iI
inductive Fo where|nx|rt(d:D)|bk|ct
noncomputable def df{α β:Type}(n:Nat)(step:α->O (α ⊕ β))(a:α):O β:=match n with
 |0=>none
 |n+1=>bd (step a) λr=>match r with
  |.inl a'=>df n step a'
  |.inr b=>ok b
open Classical in
noncomputable def fH{α β:Type}(step:α->O (α ⊕ β))(a:α):O β :=
 if h:∃n,df n step a≠none then df (Classical.choose h) step a else none
theorem iZ{α β:Type}(step:α->O (α ⊕ β)):∀(n m:Nat) (a:α),n<=m->df n step a≠none->df m step a=df n step a
 |0,_,_,_,h=>absurd rfl h
 |n+1,0,_,hl,_=>by left
 |n+1,m+1,a,hl,h=>by
  unfold df at h ⊢
  match hs:step a with
  |none=>rw[hs]at h;exact absurd rfl h
  |some (.error c)=>rfl
  |some (.ok (.inr b))=>rfl
  |some (.ok (.inl a')) =>
   rw[hs]at h;exact iZ step n m a' (by left) h
theorem ll{α β:Type}{step:α->O (α ⊕ β)}{a:α}{n:Nat}{r:Except Nat β}(h:df n step a=some r):fH step a=some r:=by
 have hx:∃n,df n step a≠none:=⟨n,by rw[h];simp⟩
 unfold fH;rw[dif_pos hx];have hc:=Classical.choose_spec hx;rcases Nat.le_total n (Classical.choose hx)with hl|hl
 ·rw[iZ step _ _ a hl (by rw[h];simp),h]
 ·rw[<- iZ step _ _ a hl hc,h]
theorem lG{α β:Type}{step:α->O (α ⊕ β)}{a:α}{r:Except Nat β}(h:fH step a=some r):∃n,df n step a=some r:=by
 unfold fH at h;split at h
 ·exact⟨_,h⟩
 ·cases h
theorem nA{α β:Type}{step:α->O (α ⊕ β)}{a a':α}(h:step a=ok (.inl a')):fH step a=fH step a':=by
 match hr:fH step a' with
 |some r =>
  obtain⟨n,hn⟩:=lG hr;refine ll (n:=n+1) ?_;unfold df;rw[h];exact hn
 |none =>
  match hq:fH step a with
  |none=>rfl
  |some r =>
   obtain⟨n,hn⟩:=lG hq
   match n,hn with
   |n+1,hn =>
    unfold df at hn;rw[h]at hn;rw[ll (n:=n) hn]at hr;cases hr
theorem gU{α β:Type}{step:α->O (α ⊕ β)}{a:α}{b:β}(h:step a=ok (.inr b)):fH step a=ok b :=
 ll (n:=1) (by unfold df;rw[h];rfl)
mutual
noncomputable def iN:CE->aQ
 |.v i=>[i]
 |.bin _ a b=>iN a++iN b
 |.neg a=>iN a
 |.not a=>iN a
 |.and es=>cU es
 |.or es=>cU es
 |.cmp _ a b=>iN a++iN b
 |.vp a _=>iN a
 |.call _ es=>cU es
 |.bf _ es=>cU es
 |.ix a b=>iN a++iN b
 |.jx a=>iN a
 |.tup es=>cU es
 |.lst es=>cU es
 |.dj _ es=>cU es
 |.comp _ _ caps _ es _ _=>caps++cU es
 |_=>[]
noncomputable def cU:aF->aQ
 |[]=>[]
 |e::es=>iN e++cU es
end
def hU(is:aQ)(ρ:aX):aX:=ρ.mapIdx λi d=>if i∈is then d.map (aY a_)else d
def keep(e:CE)(d:D)(ρ:aX):D×aX:=if ba bI d then(aY a_ d,hU (iN e) ρ)else(d,ρ)
def jo(Φ:aT)(e:CE)(ρ:aX):O (D×aX):=match e with
 |.v i=>match ρ[i]? with
  |some (some d)=>if ba dF d then ok (d,ρ.set i none)else ok (d,ρ)
  |_=>none
 |_=>bd (bx Φ e ρ) λd=>ok (keep e d ρ)
def bR(Φ:aT)(it:CI)(ρ:aX):O (aa×aX):=match it with
 |.uc p es=>bd (bX Φ es ρ) λxs=>bd (Φ p xs) λd=>bd (kv d) λitems=>ok (items,if aR bI xs then hU (cU es) ρ else ρ)
 |.iz a=>bd (bx Φ a ρ) λx=>match x with
  |.int n=>if n<=cL /\ -cL<=n then ok ((List.range n.toNat).map λ(k:Nat)=>D.int (k:Int),ρ)else none
  |_=>none
 |.kA a b=>bd (bx Φ a ρ) λx=>bd (bx Φ b ρ) λy=>match x,y with
  |.int m,.int n=>if n<=cL /\ -cL<=n/\m<=cL /\ -cL<=m then ok ((List.range (n - m).toNat).map λ(k:Nat)=>D.int (m+(k:Int)),ρ)else none
  |_,_=>none
 |.seq a=>bd (bx Φ a ρ) λx=>match x with
  |.tup ds=>ok (aC a_ ds,if ba bI x then hU (iN a) ρ else ρ)
  |.lst f ds=>ok (aC a_ ds,if ba bI x then hU (iN a) ρ else ρ)
  |_=>none
def ou(es:aF)(xs:aa)(ρ:aX):aa×aX:=if aR bI xs then(aC a_ xs,hU (cU es) ρ)else(xs,ρ)
noncomputable def wa(Φ:aT)(p i:Nat)(r:aa×aX):O (Fo×aX):=match r.2[i]? with
 |some (some d)=>bd (Φ p (d::r.1)) λd'=>ok (.nx,r.2.set i (some d'))
 |_=>none
def cG(bind:D->aX->O aX)(body:aX->O (Fo×aX)):aa->aX->O (Fo×aX)
 |[],ρ=>ok (.nx,ρ)
 |d::ds,ρ=>bd (bind d ρ) λρ1=>bd (body ρ1) λr=>match r with
  | (.nx,ρ2)=>cG bind body ds ρ2
  | (.ct,ρ2)=>cG bind body ds ρ2
  | (.bk,ρ2)=>ok (.nx,ρ2)
  | (.rt d,ρ2)=>ok (.rt d,ρ2)
mutual
noncomputable def iC(Φ:aT):CS->aX->O (Fo×aX)
 |.asg t e,ρ=>bd (jo Φ e ρ) λr=>bd (bQ t r.1 r.2) λρ'=>ok (.nx,ρ')
 |.par i j a b,ρ=>bd (bx Φ a ρ) λx=>bd (bx Φ b ρ) λy=>if ba anyF x=false/\ba anyF y=false/\i<ρ.length/\j<ρ.length then ok (.nx,(ρ.set i (some x)).set j (some y))else none
 |.ret e,ρ=>bd (jo Φ e ρ) λr=>ok (.rt r.1,r.2)
 |.rs c,_=>some (.error c)
 |.ex e,ρ=>bd (bx Φ e ρ) λ_=>ok (.nx,ρ)
 |.mut p i es,ρ=>bd (bX Φ es ρ) λxs=>wa Φ p i (ou es xs ρ)
 |.app i e,ρ=>bd (jo Φ e ρ) λr=>match v7 r.2[i]? with
  |some ds=>if ds.length<cL then ok (.nx,r.2.set i (some (.lst .ow (ds++[r.1]))))else none
  |none=>none
 |.setI i k e,ρ=>bd (jo Φ e ρ) λr=>bd (bd (bx Φ k r.2) intD) λz=>match v7 r.2[i]? with
  |some ds=>match sV ds.length z with
   |some j=>ok (.nx,r.2.set i (some (.lst .ow (ds.set j r.1))))
   |none=>none
  |none=>none
 |.ifs c a b,ρ=>bd (uN Φ c ρ) λk=>if k then bp Φ a ρ else bp Φ b ρ
 |.Hq c b,ρ=>fH (λρ=>bd (uN Φ c ρ) λk=>if k then bd (bp Φ b ρ) λr=>match r with
   | (.nx,ρ')=>ok (.inl ρ')
   | (.ct,ρ')=>ok (.inl ρ')
   | (.bk,ρ')=>ok (.inr (.nx,ρ'))
   | (.rt d,ρ')=>ok (.inr (.rt d,ρ'))
  else ok (.inr (.nx,ρ))) ρ
 |.fr t it b,ρ=>bd (bR Φ it ρ) λr=>cG (λd ρ=>bQ t d ρ) (λρ=>bp Φ b ρ) r.1 r.2
noncomputable def bp(Φ:aT):ag->aX->O (Fo×aX)
 |[],ρ=>ok (.nx,ρ)
 |s::ss,ρ=>bd (iC Φ s ρ) λr=>match r with
  | (.nx,ρ')=>bp Φ ss ρ'
  |r=>ok r
end
noncomputable def zE(Φ:aT)(n:Nat)(b:ag)(ds:aa):O D:=bd (bp Φ b (ds.map some++List.replicate (n - ds.length) none)) λr=>match r.1 with
 |.nx=>ok .bu
 |.rt d=>ok d
 |_=>none
noncomputable def vB:aw
 |[.lst _ a,.lst _ b]=>ok (.lst .ow (List.zipWith (λx y=>.tup [x,y]) a b))
 |_=>none
end DI
end
section
namespace DI
open PySem PySem.Spec PyProof.Rows L2
noncomputable abbrev bt:=aQ
noncomputable abbrev St:=L2.St
noncomputable abbrev mK:=Addr->af->Prop
inductive Nd where|l(xs:af)|d(cs:aG)(as:aW)(xs:af)(ep:Nat)
abbrev gJ:=bt->Addr->Nd->Fl->Prop
structure eP(T:mK)(as:aW)(cs:aG):Prop where
 len:as.length=cs.length
 tup:∀(j:Nat) (a:Addr) (c:ae),as[j]?=some a->cs[j]?=some c->T a (c.map V.int)
variable {T T':mK}
theorem eP.imp{as:aW}{cs:aG}(h:eP T as cs)(hT:∀p xs,T p xs->T' p xs):eP T' as cs:=⟨h.len,λj a c h1 h2=>hT _ _ (h.tup j a c h1 h2)⟩
mutual
inductive Rep(T:mK)(N:gJ):bt->V->D->Prop where
 |bu {q:bt}:Rep T N q .bu .bu
 |bl {q:bt} (b:Bool):Rep T N q (.bl b) (.bl b)
 |int {q:bt} (i:Int):Rep T N q (.int i) (.int i)
 |tup {q:bt} {p:Addr} {xs:af} {ds:aa} (h:T p xs) (r:aI T N q 0 xs ds):Rep T N q (.ref p) (.tup ds)
 |lst {q:bt} {p:Addr} {xs:af} {f:Fl} {ds:aa} (h:N q p (.l xs) f) (r:aI T N q 0 xs ds):Rep T N q (.ref p) (.lst f ds)
 |cJ {q:bt} {p:Addr} {cs:aG} {as:aW} {xs:af} {ep:Nat} {f:Fl} {ds:aa} (h:N q p (.d cs as xs ep) f) (k:eP T as cs) (r:aI T N q 0 xs ds):Rep T N q (.ref p) (.cJ f cs ds)
inductive aI(T:mK)(N:gJ):bt->Nat->af->aa->Prop where
 |nil {q:bt} {n:Nat}:aI T N q n [] []
 |cons {q:bt} {n:Nat} {v:V} {d:D} {vs:af} {ds:aa} (h:Rep T N (n::q) v d) (t:aI T N q (n+1) vs ds):aI T N q n (v::vs) (d::ds)
end
variable {ds ds' items:aa}
theorem Rep.Eu{N:gJ}{q:bt}{v:V}(h:Rep T N q v (.tup ds)):∃p xs,v=.ref p/\T p xs/\aI T N q 0 xs ds:=by
 cases h with
 |tup a b=>exact⟨_,_,rfl,a,b⟩
theorem Rep.pB{N:gJ}{q:bt}{v:V}{f:Fl}(h:Rep T N q v (.lst f ds)):∃p xs,v=.ref p/\N q p (.l xs) f/\aI T N q 0 xs ds:=by
 cases h with
 |lst a b=>exact⟨_,_,rfl,a,b⟩
mutual
theorem rQ:∀d:D,ba (λ_=>false) d=false
 |.bu=>rfl
 |.bl _=>rfl
 |.int _=>rfl
 |.tup ds=>gN ds
 |.lst _ ds=>gN ds
 |.cJ _ _ ds=>gN ds
theorem gN:∀ds:aa,aR (λ_=>false) ds=false
 |[]=>rfl
 |d::ds=>by show(ba _ d||aR _ ds)=false;rw[rQ d,gN ds];rfl
end
theorem HK{a b:Bool}(h:(a||b)=false):a=false/\b=false:=by cases a<;>cases b<;>first|exact⟨rfl,rfl⟩|cases h
variable {k' q':bt}{vs xs:af}
section
variable {T T':mK}{N N':gJ}{g:Fl->Fl}{P:Fl->Bool}{C:bt->bt->Prop}{I:Nat->Nat->Prop}
mutual
theorem Rep.gen(hT:∀p xs,T p xs->T' p xs)(h0:I 0 0)(hI:∀n n',I n n'->I (n+1) (n'+1))(hC:∀k k' n n',C k k'->I n n'->C (n::k) (n'::k'))(hN:∀k k' p xs f,C k k'->P f=false->N k p xs f->N' k' p xs (g f)):
  ∀{k:bt} {v:V} {d:D},Rep T N k v d->∀{k':bt},C k k'->ba P d=false->Rep T' N' k' v (aY g d)
 |_,_,_,.bu,_,_,_=>.bu
 |_,_,_,.bl b,_,_,_=>.bl b
 |_,_,_,.int i,_,_,_=>.int i
 |_,_,_,.tup h r,_,c,e=>.tup (hT _ _ h) (aI.gen hT h0 hI hC hN r c h0 e)
 |_,_,_,.lst h r,_,c,e=>.lst (hN _ _ _ _ _ c (HK e).1 h) (aI.gen hT h0 hI hC hN r c h0 (HK e).2)
 |_,_,_,.cJ h k r,_,c,e=>.cJ (hN _ _ _ _ _ c (HK e).1 h) (k.imp hT) (aI.gen hT h0 hI hC hN r c h0 (HK e).2)
theorem aI.gen(hT:∀p xs,T p xs->T' p xs)(h0:I 0 0)(hI:∀n n',I n n'->I (n+1) (n'+1))(hC:∀k k' n n',C k k'->I n n'->C (n::k) (n'::k'))(hN:∀k k' p xs f,C k k'->P f=false->N k p xs f->N' k' p xs (g f)):
  ∀{k:bt} {n:Nat} {vs:af} {ds:aa},aI T N k n vs ds->∀{k':bt} {n':Nat},C k k'->I n n'->aR P ds=false->aI T' N' k' n' vs (aC g ds)
 |_,_,_,_,.nil,_,_,_,_,_=>.nil
 |_,_,_,_,.cons h t,_,_,c,i,e=>.cons (Rep.gen hT h0 hI hC hN h (hC _ _ _ _ c i) (HK e).1) (aI.gen hT h0 hI hC hN t c (hI _ _ i) (HK e).2)
end
theorem Rep.map{q:bt}(hT:∀p xs,T p xs->T' p xs)(hN:∀c p xs f,N (c++q) p xs f->N' (c++q') p xs (g f)){k:bt}{v:V}{d:D}(h:Rep T N k v d)(c:bt)(e:k=c++q):Rep T' N' (c++q') v (aY g d) :=
 Rep.gen (P:=λ_=>false) (C:=λk k'=>∃c,k=c++q/\k'=c++q') (I:=λn n'=>n=n') hT rfl (λ_ _ e=>by rw[e]) (λ_ _ n _ ⟨c,e1,e2⟩ e=>⟨n::c,by rw[e1];rfl,by rw[e2,<- e];rfl⟩) (λ_ _ p xs f ⟨c,e1,e2⟩ _ h=>by subst e1;subst e2;exact hN c p xs f h) h ⟨c,e,rfl⟩ (rQ d)
theorem aI.map{q:bt}(hT:∀p xs,T p xs->T' p xs)(hN:∀c p xs f,N (c++q) p xs f->N' (c++q') p xs (g f)){k:bt}{n:Nat}(h:aI T N k n vs ds)(c:bt)(e:k=c++q):aI T' N' (c++q') n vs (aC g ds) :=
 aI.gen (P:=λ_=>false) (C:=λk k'=>∃c,k=c++q/\k'=c++q') (I:=λn n'=>n=n') hT rfl (λ_ _ e=>by rw[e]) (λ_ _ n _ ⟨c,e1,e2⟩ e=>⟨n::c,by rw[e1];rfl,by rw[e2,<- e];rfl⟩) (λ_ _ p xs f ⟨c,e1,e2⟩ _ h=>by subst e1;subst e2;exact hN c p xs f h) h ⟨c,e,rfl⟩ rfl (gN ds)
theorem Rep.hJ(hT:∀p xs,T p xs->T' p xs)(hN:∀k k' p xs f,N k p xs f->N' k' p xs (g f)){k:bt}{v:V}{d:D}(h:Rep T N k v d)(k':bt):Rep T' N' k' v (aY g d) :=
 Rep.gen (P:=λ_=>false) (C:=λ_ _=>True) (I:=λ_ _=>True) hT trivial (λ_ _ e=>e) (λ_ _ _ _ e _=>e) (λk k' p xs f _ _ h=>hN k k' p xs f h) h trivial (rQ d)
theorem aI.hJ(hT:∀p xs,T p xs->T' p xs)(hN:∀k k' p xs f,N k p xs f->N' k' p xs (g f)){k:bt}{n:Nat}(h:aI T N k n vs ds)(k':bt)(n':Nat):aI T' N' k' n' vs (aC g ds) :=
 aI.gen (P:=λ_=>false) (C:=λ_ _=>True) (I:=λ_ _=>True) hT trivial (λ_ _ e=>e) (λ_ _ _ _ e _=>e) (λk k' p xs f _ _ h=>hN k k' p xs f h) h trivial trivial (gN ds)
end
mutual
theorem dU:∀d:D,aY id d=d
 |.bu=>rfl
 |.bl _=>rfl
 |.int _=>rfl
 |.tup ds=>by rw[aY,eL ds]
 |.lst f ds=>by rw[aY,eL ds];rfl
 |.cJ f ks vs=>by rw[aY,eL vs];rfl
theorem eL:∀ds:aa,aC id ds=ds
 |[]=>rfl
 |d::ds=>by rw[aC,dU d,eL ds]
end
section
variable {T T':mK}{N N':gJ}
theorem Rep.imp{q:bt}(hT:∀p xs,T p xs->T' p xs)(hN:∀c p xs f,N (c++q) p xs f->N' (c++q') p xs f){v:V}{d:D}(h:Rep T N q v d):Rep T' N' q' v d:=by
 have:=Rep.map (g:=id) hT hN h [] rfl;rw[dU]at this;exact this
theorem aI.imp{q:bt}{n:Nat}(hT:∀p xs,T p xs->T' p xs)(hN:∀c p xs f,N (c++q) p xs f->N' (c++q') p xs f)(h:aI T N q n vs ds):aI T' N' q' n vs ds:=by
 have:=aI.map (g:=id) hT hN h [] rfl;rw[eL]at this;exact this
theorem aI.length:∀{k:bt} {n:Nat} {vs:af} {ds:aa},aI T N k n vs ds->vs.length=ds.length
 |_,_,_,_,.nil=>rfl
 |_,_,_,_,.cons _ t=>by simp[aI.length t]
theorem aI.get:∀{k:bt} {n j:Nat} {vs:af} {ds:aa} {d:D},aI T N k n vs ds->ds[j]?=some d->∃v,vs[j]?=some v/\Rep T N ((n+j)::k) v d
 |_,_,_,_,_,_,.nil,e=>by simp at e
 |_,_,0,_,_,_,.cons h t,e=>by simp at e;subst e;exact⟨_,rfl,h⟩
 |_,n,j+1,_,_,_,.cons h t,e=>by
  obtain⟨v,h1,h2⟩:=aI.get (j:=j) t (by simpa using e);refine⟨v,by simpa using h1,?_⟩;have:n+1+j=n+(j+1):=by left
  rw[<- this];exact h2
theorem aI.uH:∀{k:bt} {n j:Nat} {vs:af} {ds:aa} {v:V},aI T N k n vs ds->vs[j]?=some v->∃d,ds[j]?=some d/\Rep T N ((n+j)::k) v d
 |_,_,_,_,_,_,.nil,e=>by simp at e
 |_,_,0,_,_,_,.cons h t,e=>by simp at e;subst e;exact⟨_,rfl,h⟩
 |_,n,j+1,_,_,_,.cons h t,e=>by
  obtain⟨v,h1,h2⟩:=aI.uH (j:=j) t (by simpa using e);refine⟨v,by simpa using h1,?_⟩;have:n+1+j=n+(j+1):=by left
  rw[<- this];exact h2
theorem aI.nq{k:bt}(hN:∀k k' p xs f,N k p xs f->N k' p xs f):∀{n m l:Nat} {vs ws:af} {ds es:aa},aI T N k n vs ds->aI T N k m ws es->aI T N k l (vs++ws) (ds++es)
 |_,_,_,_,_,_,_,.nil,t=>by
  have:=aI.hJ (T':=T) (N':=N) (g:=id) (λ_ _ h=>h) hN t;rw[eL]at this;exact this _ _
 |_,_,_,_,_,_,_,.cons h t,u=>.cons (by
  have:=Rep.hJ (T':=T) (N':=N) (g:=id) (λ_ _ h=>h) hN h;rw[dU]at this;exact this _) (aI.nq hN t u)
end
def KL(K:au)(a:Addr)(xs:af):Prop :=
 ∃(o:Obj) (aN:aV) (n:Nat),K.lookup a=some o/\o.cls=.type "list" /\ o.dict=none/\o.data=.seq aN n/\aN.size<=sizeLine/\Vals xs aN.toList
def DO(p:Addr)(cs:aG)(as:aW)(xs:af)(ep:Nat)(h:Heap):Prop :=
 ∃(zs:List (ae×Addr×Value)) (o:Obj) (es:Array DictEntry),zs.map (·.1)=cs/\zs.map (·.2.1)=as/\Vals xs (zs.map (·.2.2))/\h.get? p=some o/\o.ExactDict/\o.data=.dict es ep /\
  es.toList=zs.map (λz=>⟨reduceHash (Builtin.Tuple.tupleHashOf (z.1.map hashInt)),.ref z.2.1,z.2.2⟩)/\cs.Nodup/\cs.length<=sizeLine/\(p==sysModules)=false
noncomputable abbrev fU(H:Hp)(p:Addr)(n:Nd):Prop:=match n with
 |.l xs=>H p=some (.lst xs)
 |.d cs as xs ep=>H p=some (.ext (DO p cs as xs ep))
variable {H H' H1 H2:Hp}
theorem fU.ne{p:Addr}{n:Nd}(h:fU H p n):H p≠none:=by
 cases n with
 |l xs=>intro z;rw[show H p=some (.lst xs) from h]at z;cases z
 |d cs as xs ep=>intro z;rw[show H p=some (.ext (DO p cs as xs ep)) from h]at z;cases z
theorem fU.at{p:Addr}{n:Nd}(e:∀o,H p=some o->H' p=some o)(h:fU H p n):fU H' p n:=by
 cases n with
 |l xs=>exact e _ h
 |d cs as xs ep=>exact e _ h
theorem fU.same{p:Addr}{n:Nd}(e:aM H H')(h:fU H p n):fU H' p n:=h.at (e p)
theorem fU.some{H:Hp}{p:Addr}{n:Nd}(h:fU H p n):∃o,H p=some o/\(∀xs,o≠.tup xs)/\(∀a u,o≠.hU a u):=by
 cases n with
 |l xs=>exact⟨_,h,λ_ z=>(nomatch z),λ_ _ z=>(nomatch z)⟩
 |d cs as xs ep=>exact⟨_,h,λ_ z=>(nomatch z),λ_ _ z=>(nomatch z)⟩
def nd(K:au)(R A:aj)(τ:Addr->Option bt)(H:Hp):gJ:=λq p n f=>match f with
 |.ow=>fU H p n/\τ p=some q
 |.fz=>fU H p n/\R p
 |.al=>fU H p n/\A p
 |.sc=>match n with
  |.l xs=>(∃o,H p=some (.hU o (.lst xs)))\/KL K p xs
  |.d _ _ _ _=>False
variable {A F G R R' R1:Addr->Prop}{K:au}{τ τ':Addr->Option bt}
theorem nd.Bs{q:bt}{p:Addr}{n:Nd}(h:nd K R A τ H q p n .sc):∃xs,n=.l xs/\((∃o,H p=some (.hU o (.lst xs)))\/KL K p xs):=by
 cases n with
 |l xs=>exact⟨xs,rfl,h⟩
 |d _ _ _ _=>exact h.elim
theorem nd.sq{q:bt}{p:Addr}{f:Fl}(h:nd K R A τ H q p (.l xs) f):dz K H p xs:=by
 cases f with
 |ow=>exact dz.of h.1
 |fz=>exact dz.of h.1
 |al=>exact dz.of h.1
 |sc=>exact h.elim (λh=>.inl (.inr h)) .inr
theorem nd.lst{K:au}{R A:aj}{τ:Addr->Option bt}{H:Hp}{q:bt}{p:Addr}{xs:af}{f:Fl}(h:nd K R A τ H q p (.l xs) f)(hf:uw f=false):H p=some (.lst xs):=by
 cases f with
 |ow=>exact h.1
 |fz=>exact h.1
 |al=>exact h.1
 |sc=>cases hf
variable {ep k1 k2 n1 t':Nat}
theorem nd.dat{q:bt}{p:Addr}{cs:aG}{as:aW}{f:Fl}(h:nd K R A τ H q p (.d cs as xs ep) f):H p=some (.ext (DO p cs as xs ep)):=by
 cases f with
 |ow=>exact h.1
 |fz=>exact h.1
 |al=>exact h.1
 |sc=>exact h.elim
theorem Rd.same{a:Addr}{u:HO}(e:aM H H')(h:Rd H a u):Rd H' a u:=h.elim (λh=>.inl (e _ _ h)) λ⟨o,h⟩=>.inr ⟨o,e _ _ h⟩
theorem bh.same{K:au}{H H':Hp}{a:Addr}{xs:af}(e:aM H H')(h:bh K H a xs):bh K H' a xs:=h.elim (λh=>.inl (Rd.same e h)) .inr
theorem nd.same{K:au}{R A:aj}{τ:Addr->Option bt}{H H':Hp}{q:bt}{p:Addr}{n:Nd}{f:Fl}(e:aM H H')(h:nd K R A τ H q p n f):nd K R A τ H' q p n f:=by
 cases f with
 |ow=>exact⟨h.1.same e,h.2⟩
 |fz=>exact⟨h.1.same e,h.2⟩
 |al=>exact⟨h.1.same e,h.2⟩
 |sc=>cases n with
  |l xs=>exact h.elim (λ⟨o,h⟩=>.inl ⟨o,e _ _ h⟩) .inr
  |d _ _ _ _=>exact h.elim
theorem Rd.there{a:Addr}{u:HO}(h:Rd H a u):H a≠none:=by
 rcases h with h|⟨o,h⟩<;>(rw[h];simp)
theorem aM.ne(e:aM H H'){a:Addr}(h:H a≠none):H' a≠none:=by
 cases q:H a with
 |none=>exact absurd q h
 |some o=>rw[e a o q];simp
structure SI(X:Cx)(F R:aj)(τ:Addr->Option bt)(ρ:aX)(σ:St)(H:Hp):Prop where
 len:ρ.length=σ.length
 rep:∀(i:Nat) (d:D),ρ[i]?=some (some d)->∃v,σ[i]?=some (some v)/\Rep (bh X.K H) (nd X.K R (λ_=>False) τ H) [i] v d
 rt:∀p,R p->τ p=none
 rh:∀p,R p->H p≠none
 rf:∀p,R p->F p\/X.H₀ p=none
 th:∀p q,τ p=some q->H p≠none
 t0:∀p q,τ p=some q->X.H₀ p=none
 same:aM X.H₀ H
variable {X:Cx}{ρ:aX}{σ:L2.St}
theorem SI.go(S:SI X F R τ ρ σ H)(e:aM H H'):SI X F R τ ρ σ H' :=
 ⟨S.len,λi d h=>let ⟨v,h1,h2⟩:=S.rep i d h;⟨v,h1,h2.imp (λ_ _ h=>bh.same e h) λ_ _ _ _ h=>nd.same e h⟩,S.rt,λp h=>aM.ne e (S.rh p h),S.rf,λp q h=>aM.ne e (S.th p q h),S.t0,S.same.trans e⟩
def jX(G:aj)(τ:Addr->Option bt)(fv:aQ)(p:Addr):Prop:=G p/\∀c i,τ p=some (c++[i])->i∈fv
variable {caps fv fv':aQ}
theorem jX.mono{p:Addr}(h:jX G τ fv p)(hs:∀i∈fv,i∈fv'):jX G τ fv' p:=⟨h.1,λc i e=>hs i (h.2 c i e)⟩
def gP(X:Cx)(F:aj)(p:Addr):Prop:=F p\/X.H₀ p=none
def ck(K:au)(G R:aj)(τ:Addr->Option bt)(fv:aQ)(H H':Hp)(v:V)(d:D):Prop :=
 ∃τt:Addr->Option bt,(∀p q,τt p=some q->H p=none)/\Rep (bh K H') (nd K R (jX G τ fv) τt H') [] v d
def cy(K:au)(G R:aj)(τ:Addr->Option bt)(fv:aQ)(H H':Hp)(vs:af)(ds:aa):Prop :=
 ∃τt:Addr->Option bt,(∀p q,τt p=some q->H p=none)/\aI (bh K H') (nd K R (jX G τ fv) τt H') [] 0 vs ds
section
variable {K:au}{G R:aj}{τ:Addr->Option bt}{fv fv':aQ}{H H1 H2:Hp}{v:V}{d:D}{vs:af}{ds:aa}
theorem ck.go(h:ck K G R τ fv H H1 v d)(e:aM H1 H2):ck K G R τ fv H H2 v d :=
 let ⟨τt,h1,h2⟩:=h;⟨τt,h1,h2.imp (λ_ _ h=>bh.same e h) λ_ _ _ _ h=>nd.same e h⟩
theorem nd.mono{A':Addr->Prop}{τ:Addr->Option bt}{q:bt}{p:Addr}{xs:Nd}{f:Fl}(h:nd K R A τ H q p xs f)(hR:R p->R' p)(hA:A p->A' p)(ht:τ p=some q->τ' p=some q'):nd K R' A' τ' H q' p xs f:=by
 cases f with
 |ow=>exact⟨h.1,ht h.2⟩
 |fz=>exact⟨h.1,hR h.2⟩
 |al=>exact⟨h.1,hA h.2⟩
 |sc=>exact h
theorem ck.mono(h:ck K G R τ fv H H1 v d)(hs:∀i∈fv,i∈fv'):ck K G R τ fv' H H1 v d :=
 let ⟨τt,h1,h2⟩:=h;⟨τt,h1,h2.imp (λ_ _ h=>h) λ_ _ _ _ h=>h.mono id (λh=>h.mono hs) id⟩
theorem cy.mono(h:cy K G R τ fv H H1 vs ds)(hs:∀i∈fv,i∈fv'):cy K G R τ fv' H H1 vs ds :=
 let ⟨τt,h1,h2⟩:=h;⟨τt,h1,h2.imp (λ_ _ h=>h) λ_ _ _ _ h=>h.mono id (λh=>h.mono hs) id⟩
theorem ck.old{H0:Hp}(h:ck K G R τ fv H H1 v d)(e:aM H0 H):ck K G R τ fv H0 H1 v d :=
 let ⟨τt,h1,h2⟩:=h;⟨τt,λp q z=>e.free (h1 p q z),h2⟩
theorem ck.int{i:Int}:ck K G R τ fv H H1 (.int i) (.int i):=⟨λ_=>none,λ_ _ h=>by simp at h,.int i⟩
theorem ck.bl{b:Bool}:ck K G R τ fv H H1 (.bl b) (.bl b):=⟨λ_=>none,λ_ _ h=>by simp at h,.bl b⟩
theorem ck.bu:ck K G R τ fv H H1 .bu .bu:=⟨λ_=>none,λ_ _ h=>by simp at h,.bu⟩
theorem ck.isInt{i:Int}(h:ck K G R τ fv H H1 v (.int i)):v=.int i:=by obtain⟨_,_,h⟩:=h;cases h;rfl
theorem ck.zU{i:Bool}(h:ck K G R τ fv H H1 v (.bl i)):v=.bl i:=by obtain⟨_,_,h⟩:=h;cases h;rfl
def qW:bt->bt
 |[]=>[]
 |[n]=>[n+1]
 |a::b::r=>a::qW (b::r)
theorem tP(c:bt)(n:Nat):qW (c++[n])=c++[n+1]:=by
 induction c with
 |nil=>rfl
 |cons a c ih =>
  cases c with
  |nil=>rfl
  |cons b c=>show a::qW (b::c++[n])=_;rw[ih];rfl
theorem aI.shift{T:mK}{N N':gJ}(hN:∀c n p xs f,N (c++[n]) p xs f->N' (c++[n+1]) p xs f):∀{n:Nat} {vs:af} {ds:aa},aI T N [] n vs ds->aI T N' [] (n+1) vs ds
 |_,_,_,.nil=>.nil
 |n,_,_,.cons h t=>.cons (h.imp (q:=[n]) (q':=[n+1]) (λ_ _ h=>h) λc p xs f h=>hN c n p xs f h) (aI.shift hN t)
theorem cy.nil:cy K G R τ fv H H1 [] []:=⟨λ_=>none,λ_ _ h=>by simp at h,.nil⟩
open Classical in
theorem cy.cons(e1:aM H H1)(e2:aM H1 H2)(h:ck K G R τ fv H H1 v d)(t:cy K G R τ fv H1 H2 vs ds):cy K G R τ fv H H2 (v::vs) (d::ds):=by
 obtain⟨τ1,f1,h1⟩:=h;obtain⟨τ2,f2,h2⟩:=t;refine⟨λp=>if H1 p=none then(τ2 p).map qW else(τ1 p).map (· ++ [0]),λp q hq=>?_,.cons (h1.imp (q':=[0]) (λ_ _ h=>bh.same e2 h) λc p xs f h=>?_) (aI.shift (λc n p xs f h=>?_) h2)⟩
 ·by_cases hp:H1 p=none
  ·exact e1.free hp
  ·simp only[hp,if_false]at hq;cases q1:τ1 p with
   |none=>rw[q1]at hq;simp at hq
   |some k=>exact f1 p k q1
 ·have h':nd K R (jX G τ fv) τ1 H2 (c++[]) p xs f:=nd.same e2 h;cases f with
  |ow =>
   have hp:H1 p≠none:=h.1.ne;refine⟨h'.1,?_⟩;simp only[hp,if_false];rw[h.2];simp
  |fz=>exact h'
  |al=>exact h'
  |sc=>exact h'
 ·cases f with
  |ow =>
   have hp:H1 p=none:=f2 p _ h.2;refine⟨h.1,?_⟩;simp only[hp,if_true];rw[h.2];simp[tP]
  |fz=>exact h
  |al=>exact h
  |sc=>exact h
end
def tD(X:Cx)(F:aj)(Φ:aT)(c:CE):TE:=λσ H Q=>∃R τ ρ d,SI X F R τ ρ σ H/\bx Φ c ρ=ok d/\∀v H',aM H H'->ck X.K (gP X F) R τ (iN c) H H' v d->Q v H'
def pF(X:Cx)(F:aj)(Φ:aT)(cs:aF):TA:=λσ H Q=>∃R τ ρ ds,SI X F R τ ρ σ H/\bX Φ cs ρ=ok ds/\∀vs H',aM H H'->cy X.K (gP X F) R τ (cU cs) H H' vs ds->Q vs H'
def iw(X:Cx)(F:aj)(Φ:aT)(c:CE):TT:=λσ H Q=>∃R τ ρ b,SI X F R τ ρ σ H/\uN Φ c ρ=ok b/\∀H',aM H H'->Q b H'
theorem PE.imp{e:Expr}{t t':TE}(h:PE X e t)(hi:∀σ H Q,t' σ H Q->t σ H Q):PE X e t':=λpins s σ H Q I hw=>h pins s σ H Q I (hi σ H Q hw)
theorem PT.imp{e:Expr}{t t':TT}(h:PT X e t)(hi:∀σ H Q,t' σ H Q->t σ H Q):PT X e t':=λpins s σ H Q I hw=>h pins s σ H Q I (hi σ H Q hw)
theorem PW.imp{e:Expr}{t t':TT}(h:PW X e t)(hi:∀σ H Q,t' σ H Q->t σ H Q):PW X e t':=λwh pins s σ H Q I hw=>h wh pins s σ H Q I (hi σ H Q hw)
theorem PA.imp{es:aA}{t t':TA}(h:PA X es t)(hi:∀σ H Q,t' σ H Q->t σ H Q):PA X es t':=λpos pins s σ H Q I hw=>h pos pins s σ H Q I (hi σ H Q hw)
variable {st:Stmt}
theorem PS.imp{t t':TS}(h:PS X st t)(hi:∀D σ H,t' D σ H->t D σ H):PS X st t':=λpins s σ H D I hw=>h pins s σ H D I (hi D σ H hw)
theorem fG.imp{st:aZ}{t t':TS}(h:fG X st t)(hi:∀D σ H,t' D σ H->t D σ H):fG X st t':=λpins s σ H D I hw=>h pins s σ H D I (hi D σ H hw)
theorem oQ:∀(as bs:aa),dg as bs=true ↔ as.length=bs.length/\∀(j:Nat) (a b:D),as[j]?=some a->bs[j]?=some b->lj a b=true
 |[],[]=>by simp[dg]
 |[],b::bs=>by simp[dg]
 |a::as,[]=>by simp[dg]
 |a::as,b::bs=>by
  rw[dg,Bool.and_eq_true,oQ as bs];constructor
  ·rintro ⟨h1,h2,h3⟩;refine⟨by simp[h2],λj x y hx hy=>?_⟩;cases j with
   |zero=>simp at hx hy;subst hx hy;exact h1
   |succ j=>exact h3 j x y (by simpa using hx) (by simpa using hy)
  ·rintro ⟨h2,h3⟩;exact⟨h3 0 a b rfl rfl,by simpa using h2,λj x y hx hy=>h3 (j+1) x y (by simpa using hx) (by simpa using hy)⟩
def Ri(as bs:aa)(j:Nat):Bool:=match as[j]?,bs[j]? with
 |some a,some b=>lj a b
 |_,_=>false
theorem jQ(as bs:aa):((List.range (min as.length bs.length)).all (Ri as bs)&&as.length==bs.length)=dg as bs:=by
 rw[Bool.eq_iff_iff,oQ,Bool.and_eq_true,List.all_eq_true,beq_iff_eq];constructor
 ·rintro ⟨h1,h2⟩;refine⟨h2,λj a b ha hb=>?_⟩;have hj:j<as.length:=by
   by_cases h:j<as.length
   ·exact h
   ·rw[List.getElem?_eq_none (by left)]at ha;cases ha
  have:=h1 j (by rw[List.mem_range];left);unfold Ri at this;rw[ha,hb]at this;exact this
 ·rintro ⟨h2,h1⟩;refine⟨λj hj=>?_,h2⟩;rw[List.mem_range]at hj;unfold Ri;have ha:as[j]?=some as[j]:=aan (by left);have hb:bs[j]?=some bs[j]:=aan (by left);rw[ha,hb];exact h1 j _ _ ha hb
section
variable {X:Cx}{pins:ak}{σ:St}{H:Hp}{s:Shared}{N N':gJ}
theorem fc{n:Nat}(h:dM n (.tup ds)=true):∃m,n=m+1/\∀d∈ds,dM m d=true:=by
 cases n with
 |zero=>cases h
 |succ m=>exact⟨m,rfl,List.all_eq_true.mp h⟩
theorem ff{n:Nat}{f:Fl}(h:dM n (.lst f ds)=true):∃m,n=m+1/\∀d∈ds,dM m d=true:=by
 cases n with
 |zero=>cases h
 |succ m=>exact⟨m,rfl,List.all_eq_true.mp h⟩
theorem yh(I:Inv X pins σ H s){p:Addr}{ys:af}(h:dz X.K H p xs)(h':bh X.K H p ys):False:=by
 obtain⟨aN,_,pl,_⟩:=I.list h;obtain⟨its',_,pt,_⟩:=I.tuple h';exact SeqAt.ne_of_list_tuple pl.isList pt rfl
theorem Bp(I:Inv X pins σ H s)(hN:∀q p xs f,N q p (.l xs) f->dz X.K H p xs)(Eg:∀q p xs f,N' q p (.l xs) f->dz X.K H p xs):
  ∀(n:Nat) {k k':bt} {v:V} {d d':D},Rep (bh X.K H) N k v d->Rep (bh X.K H) N' k' v d'->dM n d=true->dM n d'=true->lj d d'=true:=by
 intro n;induction n with
 |zero =>
  intro k k' v d d' h h' ho gk;cases h with
  |bu=>cases h';rfl
  |bl b=>cases h';exact abK b
  |int i=>cases h';exact abK i
  |tup _ _=>obtain⟨m,hm,_⟩:=fc ho;left
  |lst _ _=>obtain⟨m,hm,_⟩:=ff ho;left
  |cJ _ _=>simp[dM]at ho
 |succ n ih =>
  have sub:∀{q q':bt} {xs:af} {ds ds':aa},aI (bh X.K H) N q 0 xs ds->aI (bh X.K H) N' q' 0 xs ds'->(∀d∈ds,dM n d=true)->(∀d∈ds',dM n d=true)->dg ds ds'=true:=by
   intro q q' xs ds ds' r r' ho gk;rw[oQ];refine⟨by rw[<- r.length,<- r'.length],λj a b ha hb=>?_⟩;obtain⟨v1,h1,r1⟩:=r.get ha;obtain⟨v2,h2,r2⟩:=r'.get hb;rw[h1]at h2;cases h2;exact ih r1 r2 (ho a (aaq ha)) (gk b (aaq hb))
  intro k k' v d d' h h' ho gk;cases h with
  |bu=>cases h';rfl
  |bl b=>cases h';exact abK b
  |int i=>cases h';exact abK i
  |tup h r =>
   obtain⟨m,hm,ho⟩:=fc ho;obtain rfl:n=m:=by left
   cases h' with
   |tup h' r' =>
    obtain⟨m,hm,gk⟩:=fc gk;obtain rfl:n=m:=by left
    obtain rfl:=I.p9 h h';exact sub r r' ho gk
   |lst h' r'=>exact(yh I (Eg _ _ _ _ h') h).elim
   |cJ _ _=>simp[dM]at gk
  |lst h r =>
   obtain⟨m,hm,ho⟩:=ff ho;obtain rfl:n=m:=by left
   cases h' with
   |tup h' r'=>exact(yh I (hN _ _ _ _ h) h').elim
   |lst h' r' =>
    obtain⟨m,hm,gk⟩:=ff gk;obtain rfl:n=m:=by left
    obtain rfl:=I.iY (hN _ _ _ _ h) (Eg _ _ _ _ h');exact sub r r' ho gk
   |cJ _ _=>simp[dM]at gk
  |cJ _ _=>simp[dM]at ho
structure Alike(A:aK)(s:Shared)(u u':Value)(b:Bool):Prop where
 eq:SeqAt.EqAt A s u u' b
 rc:SeqAt.RcAt A s u u' b
 ne:SeqAt.RcNeAt A s u u' (!b)
theorem alike(I:Inv X pins σ H s)(hN:∀q p xs f,N q p (.l xs) f->dz X.K H p xs)(Eg:∀q p xs f,N' q p (.l xs) f->dz X.K H p xs):
  ∀(n:Nat) (A:aK) {k k':bt} {v v':V} {u u':Value} {d d':D},Rep (bh X.K H) N k v d->Rep (bh X.K H) N' k' v' d'->dM n d=true->dM n d'=true->RelV v u->RelV v' u'->A.units+n<cLine ->
   Alike A s u u' (lj d d'):=by
 intro n;induction n with
 |zero =>
  intro A k k' v v' u u' d d' h h' ho gk r r' hu;cases h with
  |tup _ _=>obtain⟨m,hm,_⟩:=fc ho;left
  |lst _ _=>obtain⟨m,hm,_⟩:=ff ho;left
  |cJ _ _=>simp[dM]at ho
  |bu =>
   cases r;cases h' with
   |tup _ _=>obtain⟨m,hm,_⟩:=fc gk;left
   |lst _ _=>obtain⟨m,hm,_⟩:=ff gk;left
   |cJ _ _=>simp[dM]at gk
   |bu=>cases r';exact⟨abl _,SeqAt.RcAt.none_none,SeqAt.RcNeAt.none_none⟩
   |bl b=>cases r';exact⟨abP b,SeqAt.RcAt.none_bool b,SeqAt.RcNeAt.none_bool b⟩
   |int b=>obtain⟨t,rfl⟩:=r';exact⟨abW b t,SeqAt.RcAt.none_int b t,SeqAt.RcNeAt.none_int b t⟩
  |bl a =>
   cases r;cases h' with
   |tup _ _=>obtain⟨m,hm,_⟩:=fc gk;left
   |lst _ _=>obtain⟨m,hm,_⟩:=ff gk;left
   |cJ _ _=>simp[dM]at gk
   |bu=>cases r';exact⟨abQ a,SeqAt.RcAt.bool_none a,SeqAt.RcNeAt.bool_none a⟩
   |bl b=>cases r';exact⟨abR a b,SeqAt.RcAt.bool_bool a b,SeqAt.RcNeAt.bool_bool a b⟩
   |int b=>obtain⟨t,rfl⟩:=r';exact⟨abX a b t,SeqAt.RcAt.bool_int a b t,SeqAt.RcNeAt.bool_int a b t⟩
  |int a =>
   obtain⟨t',rfl⟩:=r;cases h' with
   |tup _ _=>obtain⟨m,hm,_⟩:=fc gk;left
   |lst _ _=>obtain⟨m,hm,_⟩:=ff gk;left
   |cJ _ _=>simp[dM]at gk
   |bu=>cases r';exact⟨abY a t',SeqAt.RcAt.int_none a t',SeqAt.RcNeAt.int_none a t'⟩
   |bl b=>cases r';exact⟨abZ a t' b,SeqAt.RcAt.int_bool a t' b,SeqAt.RcNeAt.int_bool a t' b⟩
   |int b=>obtain⟨t,rfl⟩:=r';exact⟨abp a t' b t,SeqAt.RcAt.int_int a t' b t,SeqAt.RcNeAt.int_int a t' b t⟩
 |succ n ih =>
  intro A k k' v v' u u' d d' h h' ho gk r r' hu;have fE:A.units<cLine:=by left
  have Vo:A.in1.units+n<cLine:=by show A.units+1+n<cLine;left
  have sub:∀{q q':bt} {xs xs':af} {ds ds':aa} {aN its':ao},aI (bh X.K H) N q 0 xs ds->aI (bh X.K H) N' q' 0 xs' ds'->(∀d∈ds,dM n d=true)->(∀d∈ds',dM n d=true)->Vals xs aN->Vals xs' its' ->
    ∀(j:Nat) (h1:j<aN.toArray.size) (h2:j<its'.toArray.size),SeqAt.EqAt A.in1 s aN.toArray[j] its'.toArray[j] (Ri ds ds' j):=by
   intro q q' xs xs' ds ds' aN its' rs vU hd AG rv Az j h1 h2;have l1:ds.length=aN.length:=by rw[<- rs.length,rv.length]
   have l2:ds'.length=its'.length:=by rw[<- vU.length,Az.length]
   simp only[List.size_toArray]at h1 h2;have ea:ds[j]?=some ds[j]:=aan (by left);have eb:ds'[j]?=some ds'[j]:=aan (by left);obtain⟨w1,g1,p1⟩:=rs.get ea;obtain⟨w2,g2,p2⟩:=vU.get eb;obtain⟨u1,k1,z1⟩:=rv.get g1;obtain⟨u2,k2,z2⟩:=Az.get g2;have:=(ih A.in1 p1 p2 (hd _ (abe _)) (AG _ (abe _)) z1 z2 Vo).eq;unfold Ri;rw[ea,eb];rw[List.getElem?_eq_getElem h1]at k1;rw[List.getElem?_eq_getElem h2]at k2;cases k1;cases k2;simpa using this
  cases h with
  |bu =>
   cases r;cases h' with
   |cJ _ _=>simp[dM]at gk
   |bu=>cases r';exact⟨abl _,SeqAt.RcAt.none_none,SeqAt.RcNeAt.none_none⟩
   |bl b=>cases r';exact⟨abP b,SeqAt.RcAt.none_bool b,SeqAt.RcNeAt.none_bool b⟩
   |int b=>obtain⟨t,rfl⟩:=r';exact⟨abW b t,SeqAt.RcAt.none_int b t,SeqAt.RcNeAt.none_int b t⟩
   |tup h' rr=>cases r';obtain⟨aN,_,pt,_⟩:=I.tuple h';exact⟨SeqAt.EqAt.none_tuple pt fE,SeqAt.RcAt.none_tuple pt fE,SeqAt.RcNeAt.none_tuple pt fE⟩
   |lst h' rr=>cases r';obtain⟨aN,_,pt,_⟩:=I.list (Eg _ _ _ _ h');exact⟨SeqAt.EqAt.none_list pt.isList fE,SeqAt.RcAt.none_list pt.isList fE,SeqAt.RcNeAt.none_list pt.isList fE⟩
  |bl a =>
   cases r;cases h' with
   |cJ _ _=>simp[dM]at gk
   |bu=>cases r';exact⟨abQ a,SeqAt.RcAt.bool_none a,SeqAt.RcNeAt.bool_none a⟩
   |bl b=>cases r';exact⟨abR a b,SeqAt.RcAt.bool_bool a b,SeqAt.RcNeAt.bool_bool a b⟩
   |int b=>obtain⟨t,rfl⟩:=r';exact⟨abX a b t,SeqAt.RcAt.bool_int a b t,SeqAt.RcNeAt.bool_int a b t⟩
   |tup h' rr=>cases r';obtain⟨aN,_,pt,_⟩:=I.tuple h';exact⟨SeqAt.EqAt.bool_tuple a pt fE,SeqAt.RcAt.bool_tuple a pt fE,SeqAt.RcNeAt.bool_tuple a pt fE⟩
   |lst h' rr=>cases r';obtain⟨aN,_,pt,_⟩:=I.list (Eg _ _ _ _ h');exact⟨SeqAt.EqAt.bool_list a pt.isList fE,SeqAt.RcAt.bool_list a pt.isList fE,SeqAt.RcNeAt.bool_list a pt.isList fE⟩
  |int a =>
   obtain⟨t',rfl⟩:=r;cases h' with
   |cJ _ _=>simp[dM]at gk
   |bu=>cases r';exact⟨abY a t',SeqAt.RcAt.int_none a t',SeqAt.RcNeAt.int_none a t'⟩
   |bl b=>cases r';exact⟨abZ a t' b,SeqAt.RcAt.int_bool a t' b,SeqAt.RcNeAt.int_bool a t' b⟩
   |int b=>obtain⟨t,rfl⟩:=r';exact⟨abp a t' b t,SeqAt.RcAt.int_int a t' b t,SeqAt.RcNeAt.int_int a t' b t⟩
   |tup h' rr=>cases r';obtain⟨aN,_,pt,_⟩:=I.tuple h';exact⟨SeqAt.EqAt.int_tuple a t' pt fE,SeqAt.RcAt.int_tuple a t' pt fE,SeqAt.RcNeAt.int_tuple a t' pt fE⟩
   |lst h' rr=>cases r';obtain⟨aN,_,pt,_⟩:=I.list (Eg _ _ _ _ h');exact⟨SeqAt.EqAt.int_list a t' pt.isList fE,SeqAt.RcAt.int_list a t' pt.isList fE,SeqAt.RcNeAt.int_list a t' pt.isList fE⟩
  | @tup _ p xs ds h rs =>
   cases r;obtain⟨aN,rv,pt,_⟩:=I.tuple h;have pt:s.heap.IsTuple p aN.toArray:=pt;cases h' with
   |cJ _ _=>simp[dM]at gk
   |bu=>cases r';exact⟨SeqAt.EqAt.tuple_none pt fE,SeqAt.RcAt.tuple_none pt fE,SeqAt.RcNeAt.tuple_none pt fE⟩
   |bl b=>cases r';exact⟨SeqAt.EqAt.tuple_bool b pt fE,SeqAt.RcAt.tuple_bool b pt fE,SeqAt.RcNeAt.tuple_bool b pt fE⟩
   |int b=>obtain⟨t,rfl⟩:=r';exact⟨SeqAt.EqAt.tuple_int b t pt fE,SeqAt.RcAt.tuple_int b t pt fE,SeqAt.RcNeAt.tuple_int b t pt fE⟩
   |lst h' rr=>cases r';obtain⟨its',_,pl,_⟩:=I.list (Eg _ _ _ _ h');exact⟨SeqAt.EqAt.tuple_list pt pl.isList fE,SeqAt.RcAt.tuple_list pt pl.isList fE,SeqAt.RcNeAt.tuple_list pt pl.isList fE⟩
   | @tup _ p' xs' ds' h' vU =>
    cases r';obtain⟨m,hm,Nh⟩:=fc ho;obtain rfl:n=m:=by left
    obtain⟨m,hm,rN⟩:=fc gk;obtain rfl:n=m:=by left
    obtain⟨its',Az,R_,_⟩:=I.tuple h';have R_:s.heap.IsTuple p' its'.toArray:=R_;have key:=sub rs vU Nh rN rv Az;have l1:ds.length=aN.toArray.size:=by rw[List.size_toArray,<- rs.length,rv.length]
    have l2:ds'.length=its'.toArray.size:=by rw[List.size_toArray,<- vU.length,Az.length]
    have rc:SeqAt.RcAt A s (.ref p) (.ref p') (lj (.tup ds) (.tup ds')):=by
     have:=SeqAt.RcAt.tuples pt R_ fE key;rw[<- l1,<- l2,jQ]at this;exact this
    refine⟨?_,rc,?_⟩
    ·by_cases hp:p=p'
     ·subst hp;rw[Bp I hN Eg (n+1) (Rep.tup h rs) (Rep.tup h' vU) ho gk];exact abl _
     ·exact SeqAt.EqAt.of_refs hp rc
    ·have:=SeqAt.RcNeAt.tuples pt R_ fE key;rw[<- l1,<- l2,jQ]at this;exact this
  | @lst _ p xs f ds h rs =>
   cases r;obtain⟨aN,rv,pl,_⟩:=I.list (hN _ _ _ _ h);have pl:=pl.isList;cases h' with
   |cJ _ _=>simp[dM]at gk
   |bu=>cases r';exact⟨SeqAt.EqAt.list_none pl fE,SeqAt.RcAt.list_none pl fE,SeqAt.RcNeAt.list_none pl fE⟩
   |bl b=>cases r';exact⟨SeqAt.EqAt.list_bool b pl fE,SeqAt.RcAt.list_bool b pl fE,SeqAt.RcNeAt.list_bool b pl fE⟩
   |int b=>obtain⟨t,rfl⟩:=r';exact⟨SeqAt.EqAt.list_int b t pl fE,SeqAt.RcAt.list_int b t pl fE,SeqAt.RcNeAt.list_int b t pl fE⟩
   |tup h' rr=>cases r';obtain⟨its',_,pt,_⟩:=I.tuple h';exact⟨SeqAt.EqAt.list_tuple pl pt fE,SeqAt.RcAt.list_tuple pl pt fE,SeqAt.RcNeAt.list_tuple pl pt fE⟩
   | @lst _ p' xs' f' ds' h' vU =>
    cases r';obtain⟨m,hm,Nh⟩:=ff ho;obtain rfl:n=m:=by left
    obtain⟨m,hm,rN⟩:=ff gk;obtain rfl:n=m:=by left
    obtain⟨its',Az,HI,_⟩:=I.list (Eg _ _ _ _ h');have HI:=HI.isList;have key:=sub rs vU Nh rN rv Az;have l1:ds.length=aN.toArray.size:=by rw[List.size_toArray,<- rs.length,rv.length]
    have l2:ds'.length=its'.toArray.size:=by rw[List.size_toArray,<- vU.length,Az.length]
    have two:SeqAt.RcAt A s (.ref p) (.ref p') (lj (.lst f ds) (.lst f' ds'))/\SeqAt.RcNeAt A s (.ref p) (.ref p') (!lj (.lst f ds) (.lst f' ds')):=by
     show SeqAt.RcAt A s (.ref p) (.ref p') (dg ds ds')/\SeqAt.RcNeAt A s (.ref p) (.ref p') (!dg ds ds');rw[<- jQ];by_cases hl:ds.length=ds'.length
     ·have e1:(ds.length==ds'.length)=true:=by simp[hl]
      rw[e1,Bool.and_true,<- hl,Nat.min_self];have hz:aN.toArray.size=its'.toArray.size:=by rw[<- l1,<- l2,hl]
      refine⟨?_,?_⟩
      ·have:=SeqAt.RcAt.lists pl HI hz fE key;rw[<- l1]at this;exact this
      ·have:=SeqAt.RcNeAt.lists pl HI hz fE key;rw[<- l1]at this;exact this
     ·have e1:(ds.length==ds'.length)=false:=by simp[hl]
      rw[e1,Bool.and_false];have hz:(aN.toArray.size != its'.toArray.size)=true:=by rw[<- l1,<- l2];simp[hl]
      exact⟨SeqAt.RcAt.lists_lengths pl HI hz fE,SeqAt.RcNeAt.lists_lengths pl HI hz fE⟩
    refine⟨?_,two.1,two.2⟩;by_cases hp:p=p'
    ·subst hp;rw[Bp I hN Eg (n+1) (Rep.lst h rs) (Rep.lst h' vU) ho gk];exact abl _
    ·exact SeqAt.EqAt.of_refs hp two.1
  |cJ _ _=>simp[dM]at ho
end
structure Px where
 pe:Nat->Scope->aq->Expr->Option (aA)
 pi:Nat->Scope->aq->Expr->Option (aA)
 pm:Nat->Scope->aq->Stmt->Option (Expr×aA)
structure Sx where
 sc:Scope
 N:aq
 fn:Nat->Option Str
 bl:aq
 cs:List (Str×GK)
 px:Px
noncomputable def O9:Hn->Operator
 |.add=>.Add|.sub=>.Sub|.mul=>.Mult|.fdiv=>.FloorDiv|.mod=>.Mod|.pow=>.Pow|.shr=>.RShift|.band=>.BitAnd
noncomputable def UI:AL->CmpOp
 |.eq=>.Eq|.ne=>.NotEq|.lt=>.Lt|.le=>.LtE|.gt=>.Gt|.ge=>.GtE|.HW=>.Is|.ug=>.IsNot|.AE=>.In
noncomputable def tyName:Ty->String
 |.int=>"int" |.bool=>"bool" |.list=>"list" |.tuple=>"tuple"
noncomputable def sA:Bf->String
 |.len=>"len" |.abs=>"abs" |.CG=>"int" |.list1=>"list" |.tuple1=>"tuple" |.kr=>"sum" |.all1=>"all" |.gZ=>"sorted"
noncomputable def IZ(sc:Scope)(x:Str):Bool:=decide (sc.names.lookup x=some .local)||decide (sc.names.lookup x=some .cell)||decide (sc.names.lookup x=some .free)
noncomputable def eM(sc:Scope)(x:Str):Bool:=decide (sc.names.lookup x=some .globalImplicit)
noncomputable def iV(x:Str):Bool:=!(x==("__debug__" : Str))&&!(x==("__classdict__" : Str))&&decide (x≠("__name__" : Str))
noncomputable def ql:Expr->Bool
 |.Set _ _ _=>false
 |_=>true
noncomputable def t6(sc outer:Scope):Scope :=
 { sc with names:=sc.names.map λ(n,k)=>if (k==.free&&outer.kind==.function&&outer.names.lookup n==some .cell)then(n,.cell)else(n,k) }
noncomputable def cq:Expr->aq
 |.Name x _=>[x]
 |.Tuple es _ _=>es.filterMap λe=>match e with|.Name x _=>some x|_=>none
 |_=>[]
noncomputable def gz(S:Sx)(caps:aQ):aq:=caps.filterMap λi=>S.N[i]?
def Sx.inner(S:Sx)(target:Expr)(caps:aQ)(sc:Scope):Sx:=⟨t6 sc S.sc,cq target++gz S caps,S.fn,S.bl,S.cs,S.px⟩
noncomputable def fM:Expr->Bool
 |.Tuple _ _ _=>true
 |_=>false
noncomputable def isNm:Expr->Bool
 |.Name _ _=>true
 |_=>false
noncomputable def ZX:Expr->Bool
 |.Call ..=>true
 |.BinOp ..=>true
 |.Subscript ..=>true
 |.Compare ..=>true
 |.Dict ..=>true
 |_=>false
noncomputable def OW:Expr->Bool
 |.Call ..=>true
 |.Name ..=>true
 |_=>false
theorem aE{a b:Bool}(h:(a&&b)=true):a=true/\b=true:=by
 cases a<;>cases b<;>first|exact⟨rfl,rfl⟩|cases h
noncomputable def bw{α:Type}(o:Option α)(f:α->Bool):Bool:=match o with
 |some a=>f a
 |none=>false
theorem bq{α:Type}{o:Option α}{f:α->Bool}(h:bw o f=true):∃a,o=some a/\f a=true:=by
 cases o with
 |some a=>exact⟨a,rfl,h⟩
 |none=>cases h
noncomputable def vC:Expr->Option Const
 |.Constant c _ _=>some c
 |_=>none
theorem AY{e:Expr}{c:Const}(h:vC e=some c):∃j p,e=.Constant c j p:=by
 cases e<;>first | (cases h;done) | (cases h;exact⟨_,_,rfl⟩)
noncomputable def CA:Const->Bool
 |.none=>true
 |_=>false
theorem zR{c:Const}(h:CA c=true):c=.none:=by cases c<;>first|rfl|cases h
noncomputable def HX(b:Bool):Const->Bool
 |.bool c=>decide (b=c)
 |_=>false
theorem CD{b:Bool}{c:Const}(h:HX b c=true):c=.bool b:=by cases c<;>first | (cases h;done)|rw[of_decide_eq_true h]
noncomputable def CB(b:Int):Const->Bool
 |.int c=>decide (b=c)
 |_=>false
theorem zS{b:Int}{c:Const}(h:CB b c=true):c=.int b:=by cases c<;>first | (cases h;done)|rw[of_decide_eq_true h]
noncomputable def AW:Expr->Option Str
 |.Name x _=>some x
 |_=>none
theorem iP{e:Expr}{x:Str}(h:AW e=some x):∃p,e=.Name x p:=by
 cases e<;>first | (cases h;done) | (cases h;exact⟨_,rfl⟩)
noncomputable def NU:Expr->Option (Expr×Operator×Expr)
 |.BinOp l o r _=>some (l,o,r)
 |_=>none
theorem EB{e l r:Expr}{o:Operator}(h:NU e=some (l,o,r)):∃p,e=.BinOp l o r p:=by
 cases e<;>first | (cases h;done) | (cases h;exact⟨_,rfl⟩)
noncomputable def Tn:Expr->Option (UnaryOp×Expr)
 |.UnaryOp o e _=>some (o,e)
 |_=>none
theorem AV{e x:Expr}{o:UnaryOp}(h:Tn e=some (o,x)):∃p,e=.UnaryOp o x p:=by
 cases e<;>first | (cases h;done) | (cases h;exact⟨_,rfl⟩)
noncomputable def vBool:Expr->Option (BoolOp×aA)
 |.BoolOp o vs _=>some (o,vs)
 |_=>none
theorem tx{e:Expr}{o:BoolOp}{vs:aA}(h:vBool e=some (o,vs)):∃p,e=.BoolOp o vs p:=by
 cases e<;>first | (cases h;done) | (cases h;exact⟨_,rfl⟩)
noncomputable def one{α:Type}:List α->Option α
 |[]=>none
 |x::xs=>match xs with
  |[]=>some x
  |_::_=>none
theorem cf{α:Type}{l:List α}{x:α}(h:one l=some x):l=[x]:=by
 cases l with
 |nil=>cases h
 |cons y ys=>cases ys with
  |nil=>cases h;rfl
  |cons _ _=>cases h
def two{α:Type}:List α->Option (α×α)
 |[]=>none
 |x::xs=>(one xs).map λy=>(x,y)
theorem gu{α:Type}{l:List α}{x y:α}(h:two l=some (x,y)):l=[x,y]:=by
 cases l with
 |nil=>cases h
 |cons z zs=>cases zs with
  |nil=>cases h
  |cons w ws=>cases ws with
   |nil=>cases h;rfl
   |cons _ _=>cases h
noncomputable def Tr{α:Type}:List α->Option (α×List α)
 |[]=>none
 |x::xs=>some (x,xs)
theorem qR{α:Type}{l xs:List α}{x:α}(h:Tr l=some (x,xs)):l=x::xs:=by
 cases l with
 |nil=>cases h
 |cons y ys=>cases h;rfl
noncomputable def EA:Expr->Option (Expr×List CmpOp×aA)
 |.Compare l os rs _=>some (l,os,rs)
 |_=>none
theorem xp{e l:Expr}{os:List CmpOp}{rs:aA}(h:EA e=some (l,os,rs)):∃p,e=.Compare l os rs p:=by
 cases e<;>first | (cases h;done) | (cases h;exact⟨_,rfl⟩)
noncomputable def vF:Expr->Option (Expr×aA×List Keyword)
 |.Call f as ks _=>some (f,as,ks)
 |_=>none
variable {args as elts:aA}
theorem zg{e f:Expr}{ks:List Keyword}(h:vF e=some (f,as,ks)):∃p,e=.Call f as ks p:=by
 cases e<;>first | (cases h;done) | (cases h;exact⟨_,rfl⟩)
def cX(e:Expr):Option (Str×aA):=match vF e with
 |some (f,as,ks)=>match ks with
  |[]=>match AW f with
   |some x=>some (x,as)
   |none=>none
  |_::_=>none
 |none=>none
theorem bJ{e:Expr}{x:Str}(h:cX e=some (x,as)):∃p pos,e=.Call (.Name x p) as [] pos:=by
 unfold cX at h;cases hv:vF e with
 |none=>rw[hv]at h;cases h
 |some z =>
  obtain⟨f,DZ,ks⟩:=z;rw[hv]at h;obtain⟨pos,rfl⟩:=zg hv;cases ks with
  |cons _ _=>cases h
  |nil =>
   cases hn:AW f with
   |none=>replace h:(match AW f with|some x=>some (x,DZ)|none=>none)=some (x,as):=h;rw[hn]at h;cases h
   |some y =>
    replace h:(match AW f with|some x=>some (x,DZ)|none=>none)=some (x,as):=h;rw[hn]at h;obtain⟨p,rfl⟩:=iP hn;cases h;exact⟨p,pos,rfl⟩
noncomputable def kg:Expr->Option (Expr×Expr)
 |.Subscript a b _=>some (a,b)
 |_=>none
theorem jh{e a b:Expr}(h:kg e=some (a,b)):∃p,e=.Subscript a b p:=by
 cases e<;>first | (cases h;done) | (cases h;exact⟨_,rfl⟩)
noncomputable def zf:Expr->Option (aA)
 |.Tuple es _ _=>some es
 |_=>none
theorem kf{e:Expr}{es:aA}(h:zf e=some es):∃n p,e=.Tuple es n p:=by
 cases e<;>first | (cases h;done) | (cases h;exact⟨_,_,rfl⟩)
noncomputable def NS:Expr->Option (aA)
 |.List es _=>some es
 |_=>none
theorem Ex{e:Expr}{es:aA}(h:NS e=some es):∃p,e=.List es p:=by
 cases e<;>first | (cases h;done) | (cases h;exact⟨_,rfl⟩)
noncomputable def Hr:Expr->Option (Expr×List Comprehension×Scope)
 |.ListComp e gs sc _=>some (e,gs,sc)
 |_=>none
theorem AX{e x:Expr}{gs:List Comprehension}{sc:Scope}(h:Hr e=some (x,gs,sc)):∃p,e=.ListComp x gs sc p:=by
 cases e<;>first | (cases h;done) | (cases h;exact⟨_,rfl⟩)
theorem gL{a:Bool}(h:(!a)=true):a=false:=by cases a<;>first|rfl|cases h
def sk(S:Sx)(n:Nat)(t:Tg)(caps:aQ)(target:Expr)(sc:Scope):Bool :=
 decide (sc.kind=.function)&&sc.names.all (λ(x,k)=>decide (k≠.cell)&&(decide (k≠.local)||decide (sc.names.lookup x=some .local))&&(decide (k≠.free)||decide (S.sc.names.lookup x=some .cell)||decide (S.sc.names.lookup x=some .free))) &&
 decide (n=(cq target).length)&&(cq target).all (λx=>decide (sc.names.lookup x=some .local))&&decide (cq target++gz S caps).Nodup &&
 caps.all (λi=>match S.N[i]? with|some x=>decide (sc.names.lookup x=some .free)|none=>false) &&
 (match t with
  |.nm i=>decide (i=0)&&isNm target
  |.tp is=>bw (zf target) λes=>decide (is=List.range es.length)&&es.all isNm)
mutual
noncomputable def bT(S:Sx):CE->Expr->Bool
 |.dj p es,e0=>ZX e0&&bw (S.px.pe p S.sc S.bl e0) λxs=>bH S es xs
 |.bu,e0=>bw (vC e0) λc=>CA c
 |.bl b,e0=>bw (vC e0) λc=>HX b c
 |.int i,e0=>bw (vC e0) λc=>CB i c
 |.v i,e0=>bw (AW e0) λx=>decide (S.N[i]?=some x)&&IZ S.sc x&&iV x
 |.glo x i,e0=>bw (AW e0) λy=>decide (y=x)&&eM S.sc x&&decide ((x,GK.i i)∈S.cs)&&!(x==("__debug__" : Str))
 |.glt x zs,e0=>bw (AW e0) λy=>decide (y=x)&&eM S.sc x&&decide ((x,GK.t zs)∈S.cs)&&!(x==("__debug__" : Str))
 |.bin op a b,e0=>bw (NU e0) λz=>decide (z.2.1=O9 op)&&bT S a z.1&&bT S b z.2.2
 |.neg a,e0=>bw (Tn e0) λz=>decide (z.1=.USub)&&bT S a z.2
 |.not a,e0=>bw (Tn e0) λz=>decide (z.1=.Not)&&bT S a z.2
 |.and es,e0=>bw (vBool e0) λz=>decide (z.1=.And)&&bH S es z.2
 |.or es,e0=>bw (vBool e0) λz=>decide (z.1=.Or)&&bH S es z.2
 |.cmp op a b,e0=>bw (EA e0) λz=>decide (z.2.1=[UI op])&&bT S a z.1&&bw (one z.2.2) λr=>bT S b r&&ql r
 |.vp a t,e0=>bw (cX e0) λz=>decide (z.1=("isinstance" : Str))&&eM S.sc z.1&&decide (z.1∈S.bl)&&bw (two z.2) λy=>bT S a y.1&&bw (AW y.2) λx=>decide (x=(tyName t:Str))&&eM S.sc x&&decide (x∈S.bl)
 |.call f es,e0=>bw (cX e0) λz=>decide (S.fn f=some z.1)&&eM S.sc z.1&&iV z.1&&bw (Tr z.2) λy=>bH S es (y.1::y.2)
 |.bf f es,e0=>bw (cX e0) λz=>decide (z.1=(sA f:Str))&&eM S.sc z.1&&decide (z.1∈S.bl)&&bw (Tr z.2) λy=>bH S es (y.1::y.2)
 |.jx a,e0=>bw (cX e0) λz=>decide (z.1=("len" : Str))&&eM S.sc z.1&&decide (z.1∈S.bl)&&bw (one z.2) λy=>bw (cX y) λw=>decide (w.1=("set" : Str))&&eM S.sc w.1&&decide (w.1∈S.bl)&&bw (one w.2) λu=>bT S a u
 |.ix a b,e0=>bw (kg e0) λz=>bT S a z.1&&bT S b z.2
 |.tup es,e0=>bw (zf e0) λxs=>bH S es xs&&decide (es.length<=1000)
 |.lst es,e0=>bw (NS e0) λxs=>bH S es xs&&decide (es.length<=1000)
 |.comp n t caps ik es bP elt,e0=>bw (Hr e0) λz=>bw (one z.2.1) λg=>decide (g.is_async=0)&&sk S n t caps g.target z.2.2&&ql g.iter&&decide (bP.length<=1)&&bH (S.inner g.target caps z.2.2) bP g.ifs&&bT (S.inner g.target caps z.2.2) elt z.1 &&
     (match ik with
      |.iz=>bw (cX g.iter) λw=>decide (w.1=("range" : Str))&&eM S.sc w.1&&decide (w.1∈S.bl)&&bw (one w.2) λy=>bH S es [y]
      |.kA=>bw (cX g.iter) λw=>decide (w.1=("range" : Str))&&eM S.sc w.1&&decide (w.1∈S.bl)&&bw (two w.2) λy=>bH S es [y.1,y.2]
      |.seq=>bH S es [g.iter]
      |.dj p=>OW g.iter&&(decide (1100<=p)||fM g.target)&&bw (S.px.pi p S.sc S.bl g.iter) λxs=>bH S es xs)
noncomputable def bH(S:Sx):aF->aA->Bool
 |[],es=>match es with
  |[]=>true
  |_::_=>false
 |c::cs,es=>match es with
  |[]=>false
  |e::es=>bT S c e&&bH S cs es
end
def RV(K:au)(n:Nat)(m:aw):Sp:=λvs H Q _=>∃(F:aj) (ds:aa) (r:D),vs.length=n/\aI (bh K H) (nd K F (λ_=>False) (λ_=>none) H) [] 0 vs ds/\m ds=ok r /\
 ∀v H',aM H H'->(∃τt:Addr->Option bt,(∀p q,τt p=some q->H p=none)/\Rep (bh K H') (nd K (λp=>F p\/H p=none) (λ_=>False) τt H') [] v r)->Q v H'
structure MO(X:Cx)(k:Nat)(x:Str)(m:aw):Prop where
 ex:∃(f:Addr) (fd:FuncData) (ps:aq),f_ X.prog X.w X.K X.mg X.base zc k f fd ps (RV X.K ps.length m)/\X.mg x=some (.ref f)/\PySem.W.keepIn X.K (.ref f)=true/\Binds X.K fd ps []/\∀ds r,m ds=ok r->ds.length=ps.length
noncomputable def kinds:List String:=["NoneType","bool","int","str","list","tuple","dict"]
def PQ:Ty->String->Bool
 |.int,s=>s == "int" ||s == "bool"
 |t,s=>s==tyName t
theorem aM.upd{H:Hp}{p:Addr}{o:HO}(h:H p=none):aM H (upd H p o):=λb u e=>by
 rw[aS (by rintro rfl;rw[h]at e;cases e)];exact e
theorem Cf{i j:Int}(h:iW i j=true):IntMulOk i j:=by
 unfold iW at h;simp only[Bool.or_eq_true,Bool.and_eq_true,decide_eq_true_eq]at h;rcases h with (h|h)|⟨h1,h2⟩
 ·exact .of_left (intBits_le h)
 ·exact .of_right (intBits_le h)
 ·have b1:Builtin.Int.intBits i<=9000:=intBits_le h1;have b2:Builtin.Int.intBits j<=9000:=intBits_le h2;unfold IntMulOk;have hb:Builtin.Int.intTooBig ((Builtin.Int.intBits i:Int)+(Builtin.Int.intBits j:Int))=false:=by
   unfold Builtin.Int.intTooBig;have:(bitsLine:Int)=134217728:=by decide
   exact aaI (by left)
  rw[hb];simp
section
variable {K:au}{R:aj}{τ τt:Addr->Option bt}{fv:aQ}{H H':Hp}
theorem FH:jZ X (binaryOp .Add) (λx y H Q=>∃a b xs ys,x=.ref a/\y=.ref b/\bh X.K H a xs/\bh X.K H b ys/\xs.length+ys.length<=sizeLine/\(xs=[]->Q (.ref b) H)/\(ys=[]->Q (.ref a) H)/\∀p,H p=none->Q (.ref p) (upd H p (.tup (xs++ys)))):=by
 intro pins s σ H x y v u Q I rx ry h;obtain⟨a,b,xs,ys,rfl,rfl,ha,hb,hz,q0,q1,q2⟩:=h;cases rx;cases ry;by_cases hx:xs=[]
 ·subst hx;obtain⟨aN,r1,p1,_⟩:=I.tuple ha;obtain⟨mE,r2,p2,_⟩:=I.tuple hb;cases r1;obtain⟨⟨cls,dd,data,sl⟩,ho,hc,n,hd⟩:=id p1;obtain⟨⟨GZ,vx,data2,vn⟩,rN,hc2,n2,hd2⟩:=id p2;simp only at hc hd hc2 hd2;subst hc hd hc2 hd2;exact concat_meets ⟨_,ho,rfl⟩ ⟨_,rN,rfl⟩ noFill_tuple_add seq_tuple_add abC abz (abu _ _)
   (tuple_addW0 a b [].toArray mE.toArray n n2 dd vx sl vn rfl) ⟨ho,rN,⟨.ref b,H,I,rfl,q0 rfl⟩⟩
 ·exact FG pins s σ H (.ref a) (.ref b) _ _ Q I rfl rfl ⟨a,b,xs,ys,rfl,rfl,ha,hb,hx,hz,q1,λ_=>q2⟩
theorem nd.oI(k k':bt)(p:Addr)(xs:Nd)(f:Fl)(h:nd K R A (λ_=>none) H k p xs f):nd K R A (λ_=>none) H k' p xs f:=by
 cases f with
 |ow=>exact nomatch h.2
 |fz=>exact h
 |al=>exact h
 |sc=>exact h
theorem Pf(Si:SI X F R τ ρ σ H)(fr:∀p q,τt p=some q->H p=none)(k k':bt)(p:Addr)(xs:Nd)(f:Fl)(h:nd K R (jX (gP X F) τ fv) τt H' k p xs f):
  nd K R (jX (gP X F) τ fv) (λ_=>none) H' k' p xs (bB f):=by
 cases f with
 |ow=>exact⟨h.1,.inr (Si.same.free (fr p _ h.2)),λc i e=>absurd (fr p _ h.2) (Si.th p _ e)⟩
 |fz=>exact h
 |al=>exact h
 |sc=>exact h
theorem aI.fb{k:bt}{n:Nat}(h:aI (bh K H') (nd K R (jX (gP X F) τ fv) τt H') k n xs ds)(Si:SI X F R τ ρ σ H)(fr:∀p q,τt p=some q->H p=none){n':Nat}:
  aI (bh K H') (nd K R (jX (gP X F) τ fv) (λ_=>none) H') k' n' xs (aC bB ds):=aI.hJ (λ_ _ h=>h) (Pf Si fr) h _ _
theorem Rep.fb{k:bt}{v:V}{d:D}(h:Rep (bh K H') (nd K R (jX (gP X F) τ fv) τt H') k v d)(Si:SI X F R τ ρ σ H)(fr:∀p q,τt p=some q->H p=none):
  Rep (bh K H') (nd K R (jX (gP X F) τ fv) (λ_=>none) H') k' v (aY bB d):=Rep.hJ (λ_ _ h=>h) (Pf Si fr) h _
theorem aI.rep{A:aj}{xs:af}{ds:aa}(h:aI (bh K H) (nd K R A (λ_=>none) H) [] 0 xs (aC bB ds)):∀n:Nat,aI (bh K H) (nd K R A (λ_=>none) H) [] 0 (List.replicate n xs).flatten (aC bB (List.replicate n ds).flatten)
 |0=>.nil
 |n+1=>by
  rw[List.replicate_succ,List.replicate_succ,List.flatten_cons,List.flatten_cons,aP,List.map_append,<- aP,<- aP];exact aI.nq nd.oI h (aI.rep h n)
theorem ck.rB{p:Addr}(hp:H p=none)(e:aM H H')(hl:H' p=some (.lst xs))(r:aI (bh K H') (nd K R (jX G τ fv) (λ_=>none) H') [] 0 xs ds):ck K G R τ fv H H' (.ref p) (.lst .ow ds):=by
 refine⟨λq=>if q=p then some []else none,λq k hq=>?_,.lst ⟨hl,by simp⟩ (r.imp (λ_ _ h=>h) λc q xs f h=>?_)⟩
 ·by_cases wx:q=p
  ·subst wx;exact hp
  ·simp[wx]at hq
 ·cases f with
  |ow=>exact nomatch h.2
  |fz=>exact h
  |al=>exact h
  |sc=>exact h
end
theorem FX(K:au):∀t:Ty,∀s∈kinds,PySem.W.kitOne K (.type s) (.type (tyName t))=some (PQ t s):=by
 intro t s hs;simp only[kinds,List.mem_cons,List.not_mem_nil,or_false]at hs;cases t<;>rcases hs with rfl|rfl|rfl|rfl|rfl|rfl|rfl<;>rfl
structure PX(X:Cx)(sc:Scope)(bl:aq)(k:Nat):Prop where
 sc:X.env.scope=sc
 calm:X.calm=true
 room:f9 k X.A
 bl:∀x∈bl,X.mg x=none
theorem PX.gl{sc:Scope}{bl:aq}{k:Nat}(L:PX X sc bl k){x:Str}(h:eM sc x=true):Gl X x:=by
 unfold Gl;show X.env.scope.names.lookup x=some .globalImplicit;rw[L.sc];exact aab h
def pb(X:Cx)(F:aj)(Φ:aT):aF->aA->Prop
 |[],[]=>True
 |c::cs,a::as=>PE X a (tD X F Φ c)/\(∀es,starEach (a::es) X.env=(false,eval a X.env)::starEach es X.env)/\nr a/\pb X F Φ cs as
 |_,_=>False
structure o3(K:au)(H2:Hp)(vs:af)(xs:aa)(H':Hp):Prop where
 n0:∃R0:aj,aI (bh K H2) (nd K R0 (λ_=>False) (λ_=>none) H2) [] 0 vs (aC a_ xs)/\∀p o,R0 p->H2 p=some o->H' p=some o
 tp:∀a ys,bh K H2 a ys->bh K H' a ys
structure IJ(K:au)(J:It)(H2:Hp)(vs:af)(xs items:aa):Prop where
 go:∀i H' R',o3 K H2 vs xs H'->aI (bh K H') (nd K R' (λ_=>False) (λ_=>none) H') [] 0 vs (aC a_ xs)->i<items.length->J.go i H'
 tj:∀i H' R' x ka,o3 K H2 vs xs H'->aI (bh K H') (nd K R' (λ_=>False) (λ_=>none) H') [] 0 vs (aC a_ xs)->i<items.length->J.tj i H' x ka->aM H' ka/\∃d,items[i]?=some d/\Rep (bh K ka) (nd K R' (λ_=>False) (λ_=>none) ka) [] x d
 stop:∀i H' R',o3 K H2 vs xs H'->aI (bh K H') (nd K R' (λ_=>False) (λ_=>none) H') [] 0 vs (aC a_ xs)->items.length<=i->J.stop i H'
structure pZ(px:Px)(Φ:aT):Prop where
 e:∀(X:Cx) (sc:Scope) (bl:aq) (k:Nat),PX X sc bl k->∀(p:Nat) (e:Expr) (args:aA),px.pe p sc bl e=some args->∀(F:aj) (cs:aF),pb X F Φ cs args->PE X e (tD X F Φ (.dj p cs))/\PT X e (iw X F Φ (.dj p cs))
 i:∀(X:Cx) (sc:Scope) (bl:aq) (k:Nat),PX X sc bl k->∀(p:Nat) (e:Expr) (args:aA),px.pi p sc bl e=some args->∀(F:aj) (cs:aF) (tg:Expr),(decide (1100<=p)||fM tg)=true->pb X F Φ cs args ->
  ∀(pins:ak) (s:Shared) (σ:St) (H:Hp) (R:aj) (τ:Addr->Option bt) (ρ:aX) (xs:aa) (d:D) (items:aa),Inv X pins σ H s->SI X F R τ ρ σ H->bX Φ cs ρ=ok xs->Φ p xs=ok d->kv d=ok items->∀Rr:It->Hp->Prop,
   (∀J H2 vs,aM H H2->cy X.K (gP X F) R τ (cU cs) H H2 vs xs->IJ X.K J H2 vs xs items->Rr J H2) ->
   wpAny (model X.prog X.w) X.A (eval e X.env) (λv s1=>wpAny (model X.prog X.w) X.A (pyIter v) (Aw X pins σ tg Rr) X.xe s1) X.xe s
def Ay(K:au):GK->Value->Prop
 |.i i,u=>RelV (.int i) u
 |.t zs,u=>∃(a:Addr) (o:Obj) (aN:aV) (n:Nat),u=.ref a/\K.lookup a=some o/\o.cls=.type "tuple" /\ o.data=.seq aN n/\aN.size<=sizeLine/\Vals (zs.map V.int) aN.toList
structure Lk(X:Cx)(S:Sx)(k:Nat)(Φ:aT):Prop where
 sc:X.env.scope=S.sc
 N:X.N=S.N
 nd:X.N.Nodup
 calm:X.calm=true
 room:f9 k X.A
 bl:∀x∈S.bl,X.mg x=none
 fn:∀f x,S.fn f=some x->MO X k x (Φ f)
 cs:∀x i,(x,i)∈S.cs->∃u,X.mg x=some u/\Ay X.K i u
 pr:pZ S.px Φ
variable {S:Sx}{Φ:aT}
theorem Lk.pX{k:Nat}(L:Lk X S k Φ):PX X S.sc S.bl k:=⟨L.sc,L.calm,L.room,L.bl⟩
variable {Q:VK}{wq p' p1 pos pos':Pos}
section
variable {X:Cx}{S:Sx}{k:Nat}{F:aj}{Φ:aT}
theorem Lk.gl(L:Lk X S k Φ){x:Str}(h:eM S.sc x=true):Gl X x:=by
 unfold Gl;show X.env.scope.names.lookup x=some .globalImplicit;rw[L.sc];exact aab h
theorem Lk.RP(L:Lk X S k Φ){x:Str}(h:IZ S.sc x=true):IL X.env.scope x:=by
 unfold IL;rw[L.sc];unfold IZ at h;rw[Bool.or_eq_true,Bool.or_eq_true]at h;rcases h with (h|h)|h
 ·exact .inl (aab h)
 ·exact .inr (.inl (aab h))
 ·exact .inr (.inr (aab h))
theorem tD.intro{c:CE}{d:D}(Si:SI X F R τ ρ σ H)(e:bx Φ c ρ=ok d)(h:∀v H',aM H H'->ck X.K (gP X F) R τ (iN c) H H' v d->Q v H'):tD X F Φ c σ H Q:=⟨R,τ,ρ,d,Si,e,h⟩
theorem Ud(L:Lk X S k Φ){i:Nat}{x:Str}(h:bT S (.v i) (.Name x pos)=true):PE X (.Name x pos) (tD X F Φ (.v i)):=by
 replace h:=aE h;replace h:=And.intro (aE h.1) h.2;obtain⟨⟨h1,h2⟩,h3⟩:=h;unfold iV at h3;simp only[Bool.and_eq_true,Bool.not_eq_true']at h3;refine PE.imp (lD (i:=i) (by rw[L.N];exact aab h1) (L.RP h2) h3.1.1 h3.1.2) λσ H Q hq=>?_;obtain⟨R,τ,ρ,d,Si,ev,hq⟩:=hq;obtain⟨d',hd,rfl⟩:=Bl ev
 ·obtain⟨v,hv,hr⟩:=Si.rep i d' hd;refine⟨v,hv,hq v H (aM.refl H) ⟨λ_=>none,λ_ _ h=>by simp at h,?_⟩⟩;refine Rep.map (q:=[i]) (q':=[]) (λ_ _ h=>h) (λc p xs f h=>?_) hr [] rfl;cases f with
  |ow =>
   refine⟨h.1,.inr (Si.t0 p _ h.2),λc' j e=>?_⟩;rw[h.2]at e;have e':=aap e;have:=aaS List.getLast? e';simp at this;show _∈[i];simp[this]
  |fz=>exact h
  |al=>exact h.2.elim
  |sc=>exact h
theorem jq{op:Hn}{x y d:D}(Qj:op≠.add/\op≠.mul)(h:cT op x y=ok d):∃i j,x=.int i/\y=.int j:=by
 cases x with
 |int i=>cases y with
  |int j=>exact⟨i,j,rfl,rfl⟩
  |_=>cases op<;>first|exact nk h | (simp at Qj;done)
 |_=>cases op<;>first|exact nk h | (simp at Qj;done)
theorem JC(L:Lk X S k Φ){op:Hn}{a b:CE}{l r:Expr}(ha:PE X l (tD X F Φ a))(hb:PE X r (tD X F Φ b)):PE X (.BinOp l (O9 op) r pos) (tD X F Φ (.bin op a b)):=by
 have two:∀{σ:St} {H:Hp} {Q:VK} {r2:R2},(∃R τ ρ d,SI X F R τ ρ σ H/\bx Φ (.bin op a b) ρ=ok d/\(∀v H',aM H H'->ck X.K (gP X F) R τ (iN (.bin op a b)) H H' v d->Q v H') /\
   ∀x y v u H',cT op x y=ok d->aM H H'->ck X.K (gP X F) R τ (iN (.bin op a b)) H H' v x->ck X.K (gP X F) R τ (iN (.bin op a b)) H H' u y->r2 v u H' Q)->Hw r2 (tD X F Φ a) (tD X F Φ b) σ H Q:=by
  rintro σ H Q r2 ⟨R,τ,ρ,d,Si,ev,hq,hr⟩;obtain⟨x,ex,ev⟩:=aJ ev;obtain⟨y,ey,ev⟩:=aJ ev;refine tD.intro Si ex λv H1 e1 r1=>tD.intro (Si.go e1) ey λu H2 e2 r2=>?_;exact hr x y v u H2 ev (e1.trans e2) ((r1.go e2).mono λi hi=>aay _ hi) ((r2.old e1).mono λi hi=>aal _ hi)
 have zX:∀{C:Int->Int->Prop} {g:Int->Int->Int},jZ X (binaryOp (O9 op)) (rI C λi j=>.int (g i j))->(∀x y d,cT op x y=ok d->∃i j,x=.int i/\y=.int j/\C i j/\d=.int (g i j)) ->
   PE X (.BinOp l (O9 op) r pos) (tD X F Φ (.bin op a b)):=by
  intro C g ho hd;refine PE.imp (BX ho ha hb) λσ H Q hq=>?_;obtain⟨R,τ,ρ,d,Si,ev,hq⟩:=hq;refine two ⟨R,τ,ρ,d,Si,ev,hq,λx y v u H' eb e rv ru=>?_⟩;obtain⟨i,j,rfl,rfl,c,rfl⟩:=hd x y d eb;exact⟨i,j,rv.isInt,ru.isInt,c,hq _ H' e .int⟩
 cases op with
 |sub =>
  refine zX (C:=λ_ _=>True) (g:=λi j=>i - j) (Kg λ_ _ _ _ _ _ _ _ q=>sub_int q) λx y d h=>?_;obtain⟨i,j,rfl,rfl⟩:=jq (by simp) h;cases h;exact⟨_,_,rfl,rfl,trivial,rfl⟩
 |mod =>
  refine zX (C:=λ_ j=>j≠0) (g:=λi j=>i.fmod j) FF λx y d h=>?_;obtain⟨i,j,rfl,rfl⟩:=jq (by simp) h;obtain⟨h1,h⟩:=pv h;subst h;exact⟨_,_,rfl,rfl,h1,rfl⟩
 |fdiv =>
  refine zX (C:=λ_ j=>qB j=true) (g:=λi j=>i.fdiv j) (Kg λi j _ _ _ _ _ hc q=>?_) λx y d h=>?_
  ·unfold qB at hc;rw[Bool.and_eq_true]at hc;have h1:j≠0:=aab hc.1;have h2:j.natAbs<big:=aab hc.2;exact floordiv_int h1 q (.inl (PyProof.noPylong_of_log2 ((Nat.log2_lt (by left)).mpr h2)))
  ·obtain⟨i,j,rfl,rfl⟩:=jq (by simp) h;obtain⟨h1,h⟩:=pv h;subst h;exact⟨_,_,rfl,rfl,h1,rfl⟩
 |pow =>
  refine zX (C:=λi j=>xT i j=true) (g:=λi j=>i ^ j.toNat) (Kg λi j _ _ _ _ _ hc q=>?_) λx y d h=>?_
  ·unfold xT at hc;simp only[Bool.and_eq_true,decide_eq_true_eq]at hc;exact pow_int_small hc.1.1 hc.1.2 hc.2 q
  ·obtain⟨i,j,rfl,rfl⟩:=jq (by simp) h;obtain⟨h1,h⟩:=pv h;subst h;exact⟨_,_,rfl,rfl,h1,rfl⟩
 |shr =>
  refine zX (C:=λ_ j=>0<=j) (g:=λi j=>i / 2 ^ j.toNat) J_ λx y d h=>?_;obtain⟨i,j,rfl,rfl⟩:=jq (by simp) h;obtain⟨h1,h⟩:=pv h;subst h;exact⟨_,_,rfl,rfl,h1,rfl⟩
 |band =>
  refine zX (C:=λ_ j=>j=1) (g:=λi _=>i % 2) (Kg λi j _ _ _ _ _ hc q=>by subst hc;exact and_int (by rw[bitAnd_m1];exact q)) λx y d h=>?_;obtain⟨i,j,rfl,rfl⟩:=jq (by simp) h;obtain⟨h1,h⟩:=pv h;subst h;exact⟨_,_,rfl,rfl,h1,rfl⟩
 |mul =>
  have hi:jZ X (binaryOp .Mult) (rI (λi j=>iW i j=true) λi j=>.int (i*j)):=Kg λi j _ _ _ _ _ hc q=>mul_int q (Cf hc);refine PE.imp (BX (hi.or Ka) ha hb) λσ H Q hq=>?_;obtain⟨R,τ,ρ,d,Si,ev,hq⟩:=hq;refine two ⟨R,τ,ρ,d,Si,ev,hq,λx y v u H' eb e rv ru=>?_⟩;cases y with
  |int j =>
   cases x with
   |int i =>
    obtain⟨h1,eb⟩:=pv eb;subst eb;exact .inl ⟨i,j,rv.isInt,ru.isInt,h1,hq _ H' e .int⟩
   |lst f a =>
    obtain⟨hc,eb⟩:=pv eb
    ·subst eb;obtain⟨τt,fr,rp⟩:=rv;obtain⟨p,xs,rfl,hn,rs⟩:=rp.pB;have hz:sizeLine=16777216:=aaU;have kM:cL=1000000:=rfl;refine .inr ⟨p,j,xs,rfl,ru.isInt,hn.lst hc.1,by left,by left,by rw[rs.length];left,λp' oB=>?_⟩;have es:aM H' (upd H' p' (.lst (List.replicate j.toNat xs).flatten)):=aM.upd oB;refine hq _ _ (e.trans es) (ck.rB (e.free oB) (e.trans es) (bj) ?_);exact(aI.rep (rs.fb Si fr) j.toNat).imp (λ_ _ h=>bh.same es h) λ_ _ _ _ h=>nd.same es h
   |_=>cases eb
  |_=>cases x<;>cases eb
 |add =>
  refine PE.imp (BX ((Kf.or Ke).or FH) ha hb) λσ H Q hq=>?_;obtain⟨R,τ,ρ,d,Si,ev,hq⟩:=hq;refine two ⟨R,τ,ρ,d,Si,ev,hq,λx y v u H' eb e rv ru=>?_⟩;have hz:sizeLine=16777216:=aaU;have kM:cL=1000000:=rfl;cases x with
  |int i =>
   cases y with
   |int j =>
    cases eb;exact .inl (.inl ⟨i,j,rv.isInt,ru.isInt,hq _ H' e .int⟩)
   |_=>cases eb
  |lst f a =>
   cases y with
   |lst g b =>
    obtain⟨hc,eb⟩:=pv eb
    ·subst eb;obtain⟨τt,fr,rp⟩:=rv;obtain⟨Te,Nx,Uq⟩:=ru;obtain⟨p,xs,rfl,hn,rs⟩:=rp.pB;cases Uq with
     | @lst _ p2 IV _ _ Ni Fe =>
      refine .inl (.inr ⟨p,p2,xs,IV,rfl,rfl,hn.lst hc.1,Ni.lst hc.2.1,by rw[rs.length,Fe.length];left,λp' oB=>?_⟩);have es:aM H' (upd H' p' (.lst (xs++IV))):=aM.upd oB;refine hq _ _ (e.trans es) (ck.rB (e.free oB) (e.trans es) (bj) ?_);rw[aP,List.map_append,<- aP,<- aP];exact(aI.nq nd.oI (n:=0) (m:=0) (rs.fb Si fr) (Fe.fb Si Nx)).imp (λ_ _ h=>bh.same es h) λ_ _ _ _ h=>nd.same es h
   |_=>cases eb
  |tup a =>
   cases y with
   |tup b =>
    obtain⟨hc,eb⟩:=pv eb;subst eb;obtain⟨τt,fr,rp⟩:=rv;obtain⟨Te,Nx,Uq⟩:=ru;cases rp with
    | @tup _ p xs _ hn rs =>
     cases Uq with
     | @tup _ p2 IV _ Ni Fe =>
      have hl:=rs.length;have z4:=Fe.length;refine .inr ⟨p,p2,xs,IV,rfl,rfl,hn,Ni,by rw[hl,z4];left,λz=>?_,λz=>?_,λp' oB=>?_⟩
      ·subst z;cases rs;exact hq _ H' e ⟨λ_=>none,λ_ _ h=>by simp at h,.tup Ni (Fe.fb Si Nx)⟩
      ·subst z;cases Fe;refine hq _ H' e ⟨λ_=>none,λ_ _ h=>by simp at h,.tup hn ?_⟩;rw[List.append_nil];exact rs.fb Si fr
      ·have es:aM H' (upd H' p' (.tup (xs++IV))):=aM.upd oB;refine hq _ _ (e.trans es) ⟨λ_=>none,λ_ _ h=>by simp at h,.tup (bh.of bj) ?_⟩;rw[aP,List.map_append,<- aP,<- aP];exact(aI.nq nd.oI (n:=0) (m:=0) (rs.fb Si fr) (Fe.fb Si Nx)).imp (λ_ _ h=>bh.same es h) λ_ _ _ _ h=>nd.same es h
   |_=>cases eb
  |_=>cases y<;>cases eb
end
section
variable {T T':mK}{N N':gJ}{P:Fl->Bool}
theorem Rep.without(hT:∀p xs,T p xs->T' p xs)(hN:∀k k' p xs f,P f=false->N k p xs f->N' k' p xs f){k:bt}{v:V}{d:D}(h:Rep T N k v d)(e:ba P d=false)(k':bt):Rep T' N' k' v d:=by
 have:=Rep.gen (g:=id) (P:=P) (N':=N') (C:=λ_ _=>True) (I:=λ_ _=>True) hT trivial (λ_ _ e=>e) (λ_ _ _ _ e _=>e) (λk k' p xs f _ e h=>hN k k' p xs f e h) h (k':=k') trivial e;rw[dU]at this;exact this
theorem aI.without(hT:∀p xs,T p xs->T' p xs)(hN:∀k k' p xs f,P f=false->N k p xs f->N' k' p xs f){k:bt}{n:Nat}(h:aI T N k n vs ds)(e:aR P ds=false)(k':bt)(n':Nat):aI T' N' k' n' vs ds:=by
 have:=aI.gen (g:=id) (P:=P) (N':=N') (C:=λ_ _=>True) (I:=λ_ _=>True) hT trivial (λ_ _ e=>e) (λ_ _ _ _ e _=>e) (λk k' p xs f _ e h=>hN k k' p xs f e h) h (k':=k') (n':=n') trivial trivial e;rw[eL]at this;exact this
theorem Rep.kb(hT:∀p xs,T p xs->T' p xs)(hN:∀k p xs f,P f=false->N k p xs f->N' k p xs f){k:bt}{v:V}{d:D}(h:Rep T N k v d)(e:ba P d=false):Rep T' N' k v d:=by
 have:=Rep.gen (g:=id) (P:=P) (N':=N') (C:=λa b=>a=b) (I:=λa b=>a=b) hT rfl (λ_ _ e=>by rw[e]) (λ_ _ _ _ a b=>by rw[a,b]) (λk k' p xs f c e h=>by subst c;exact hN k p xs f e h) h rfl e;rw[dU]at this;exact this
theorem aI.kb(hT:∀p xs,T p xs->T' p xs)(hN:∀k p xs f,P f=false->N k p xs f->N' k p xs f){k:bt}{n:Nat}(h:aI T N k n vs ds)(e:aR P ds=false):aI T' N' k n vs ds:=by
 have:=aI.gen (g:=id) (P:=P) (N':=N') (C:=λa b=>a=b) (I:=λa b=>a=b) hT rfl (λ_ _ e=>by rw[e]) (λ_ _ _ _ a b=>by rw[a,b]) (λk k' p xs f c e h=>by subst c;exact hN k p xs f e h) h rfl rfl e;rw[eL]at this;exact this
end
theorem Rep.lH{k:bt}{v:V}{d:D}(h:Rep (bh K H) (nd K R (λ_=>False) (λ_=>none) H) k v d):Rep (bh K H) (nd K R (λ_=>False) (λ_=>none) H) k' v d:=by
 have:=Rep.hJ (g:=id) (λ_ _ h=>h) nd.oI h k';rw[dU]at this;exact this
def iK(X:Cx)(R:aj)(τ:Addr->Option bt)(H:Hp)(v:V)(d:D):Prop :=
 ∃τt:Addr->Option bt,(∀p q,τt p=some q->τ p=none/\¬ R p/\X.H₀ p=none/\H p≠none)/\Rep (bh X.K H) (nd X.K R (λ_=>False) τt H) [] v d
section
variable {X:Cx}{F R:aj}{τ:Addr->Option bt}{ρ:aX}{σ:St}{H H':Hp}
theorem SI.set{i:Nat}{v:V}{d:D}(Si:SI X F R τ ρ σ H)(r:iK X R τ H v d)(hi:i<ρ.length):∃τ',SI X F R τ' (ρ.set i (some d)) (σ.set i (some v)) H:=by
 obtain⟨τt,ht,rp⟩:=r;refine⟨λp=>match τt p with|some q=>some (q++[i])|none=>τ p,⟨by simp[Si.len],λj d' hj=>?_,λp hp=>?_,Si.rh,Si.rf,λp q hq=>?_,λp q hq=>?_,Si.same⟩⟩
 ·by_cases iA:j=i
  ·subst iA;rw[List.getElem?_set_self hi]at hj;cases hj;refine⟨v,List.getElem?_set_self (by rw[<- Si.len];exact hi),rp.imp (q':=[j]) (λ_ _ h=>h) λc p xs f h=>?_⟩;cases f with
   |ow=>rw[List.append_nil]at h;exact⟨h.1,by simp only[h.2]⟩
   |fz=>exact h
   |al=>exact h
   |sc=>exact h
  ·rw[List.getElem?_set_ne (Ne.symm iA)]at hj;obtain⟨w,hw,lb⟩:=Si.rep j d' hj;refine⟨w,by rw[List.getElem?_set_ne (Ne.symm iA)];exact hw,lb.imp (λ_ _ h=>h) λc p xs f h=>?_⟩;cases f with
   |ow =>
    refine⟨h.1,?_⟩;cases q:τt p with
    |none=>simp only[q];exact h.2
    |some k=>have:=(ht p k q).1;rw[h.2]at this;cases this
   |fz=>exact h
   |al=>exact h
   |sc=>exact h
 ·cases q:τt p with
  |none=>simp only[q];exact Si.rt p hp
  |some k=>exact absurd hp (ht p k q).2.1
 ·cases z:τt p with
  |none=>simp only[z]at hq;exact Si.th p q hq
  |some k=>exact(ht p k z).2.2.2
 ·cases z:τt p with
  |none=>simp only[z]at hq;exact Si.t0 p q hq
  |some k=>exact(ht p k z).2.2.1
theorem z6{k:bt}{v:V}{d:D}(h:Rep (bh X.K H) (nd X.K R (λ_=>False) τ H) k v d)(ho:ba dF d=false):iK X R τ H v d :=
 ⟨λ_=>none,λ_ _ h=>by simp at h,Rep.without (P:=dF) (λ_ _ h=>h) (λk k' p xs f hf h=>by
  cases f with
  |ow=>cases hf
  |fz=>exact h
  |al=>exact h.2.elim
  |sc=>exact h) h ho _⟩
open Classical in
theorem SI.move{i:Nat}{d:D}(Si:SI X F R τ ρ σ H)(hd:ρ[i]?=some (some d)):∃v τ',σ[i]?=some (some v)/\SI X F R τ' (ρ.set i none) σ H/\iK X R τ' H v d:=by
 obtain⟨v,hv,rp⟩:=Si.rep i d hd;refine⟨v,λp=>match τ p with|some q=>if q.getLast?=some i then none else some q|none=>none,hv,⟨by simp[Si.len],λj d' hj=>?_,λp hp=>?_,Si.rh,Si.rf,λp q hq=>?_,λp q hq=>?_,Si.same⟩,
  λp=>match τ p with|some q=>if q.getLast?=some i then(if H p=none then none else some q.dropLast)else none|none=>none,λp q hq=>?_,rp.imp (q:=[i]) (q':=[]) (λ_ _ h=>h) λc p xs f h=>?_⟩
 ·by_cases iA:j=i
  ·subst iA;rw[List.getElem?_set]at hj;simp at hj
  ·rw[List.getElem?_set_ne (Ne.symm iA)]at hj;obtain⟨w,hw,lb⟩:=Si.rep j d' hj;refine⟨w,hw,lb.imp (q:=[j]) (q':=[j]) (λ_ _ h=>h) λc p xs f h=>?_⟩;cases f with
   |ow =>
    refine⟨h.1,?_⟩;simp only[h.2];rw[if_neg (by simp;exact iA)]
   |fz=>exact h
   |al=>exact h
   |sc=>exact h
 ·simp only[Si.rt p hp]
 ·cases z:τ p with
  |none=>simp only[z]at hq;cases hq
  |some k=>exact Si.th p k z
 ·cases z:τ p with
  |none=>simp only[z]at hq;cases hq
  |some k=>exact Si.t0 p k z
 ·cases z:τ p with
  |none=>simp only[z]at hq;cases hq
  |some k =>
   simp only[z]at hq ⊢;by_cases hl:k.getLast?=some i
   ·rw[if_pos hl];exact⟨rfl,(λhR=>by have:=Si.rt p hR;rw[z]at this;cases this),Si.t0 p k z,Si.th p k z⟩
   ·rw[if_neg hl]at hq;cases hq
 ·cases f with
  |ow =>
   refine⟨h.1,?_⟩;have hn:H p≠none:=h.1.ne;simp only[h.2];rw[if_pos (by simp),if_neg hn];simp
  |fz=>exact h
  |al=>exact h.2.elim
  |sc=>exact h
theorem yB(is:aQ)(ρ:aX)(j:Nat)(d:D)(h:(hU is ρ)[j]?=some (some d)):∃d',ρ[j]?=some (some d')/\d=(if j∈is then aY a_ d' else d'):=by
 unfold hU at h;rw[List.getElem?_mapIdx]at h;cases q:ρ[j]? with
 |none=>rw[q]at h;exact nk h
 |some o =>
  rw[q]at h;cases o with
  |none=>simp at h
  |some d' =>
   refine⟨d',rfl,?_⟩;by_cases hj:j∈is
   ·simp[hj]at h ⊢;exact h.symm
   ·simp[hj]at h ⊢;exact h.symm
open Classical in
theorem yC(Si:SI X F R τ ρ σ H)(es:aM H H'):
  ∃R' τ',(∀p,R p->R' p)/\SI X F R' τ' (hU fv ρ) σ H'/\∀τt:Addr->Option bt,(∀p q,τt p=some q->H p=none)->∀(k k':bt) (p:Addr) (xs:Nd) (f:Fl),nd X.K R (jX (gP X F) τ fv) τt H' k p xs f->nd X.K R' (λ_=>False) (λ_=>none) H' k' p xs (a_ f):=by
 have dQ:=Si.go es;have fresh:∀p,H p=none->jX (gP X F) τ fv p:=λp hp=>⟨.inr (Si.same.free hp),λc i e=>absurd hp (Si.th p _ e)⟩
 refine⟨λp=>R p\/(H' p≠none/\jX (gP X F) τ fv p),λp=>if jX (gP X F) τ fv p then none else τ p,λp h=>.inl h,⟨by simp[hU,Si.len],λj d' hj=>?_,λp hp=>?_,λp hp=>?_,λp hp=>?_,λp q hq=>?_,λp q hq=>?_,dQ.same⟩,λτt fr k k' p xs f h=>?_⟩
 ·obtain⟨d0,h0,e0⟩:=yB _ _ _ _ hj;obtain⟨w,hw,lb⟩:=dQ.rep j d0 h0;refine⟨w,hw,?_⟩;by_cases Sv:j∈fv
  ·rw[if_pos Sv]at e0;subst e0;refine Rep.map (q:=[j]) (q':=[j]) (λ_ _ h=>h) (λc p xs f h=>?_) lb [] rfl;cases f with
   |ow =>
    refine⟨h.1,.inr ⟨h.1.ne,.inr (Si.t0 p _ h.2),λc' i' e'=>?_⟩⟩;rw[h.2]at e';have:=aaS List.getLast? (aap e');simp at this;subst this;exact Sv
   |fz=>exact⟨h.1,.inl h.2⟩
   |al=>exact h.2.elim
   |sc=>exact h
  ·rw[if_neg Sv]at e0;subst e0;refine lb.imp (q:=[j]) (q':=[j]) (λ_ _ h=>h) λc p xs f h=>?_;cases f with
   |ow =>
    refine⟨h.1,?_⟩;show(if jX (gP X F) τ fv p then none else τ p)=some (c++[j]);rw[if_neg (λz=>Sv (z.2 c j h.2))];exact h.2
   |fz=>exact⟨h.1,.inl h.2⟩
   |al=>exact h.2.elim
   |sc=>exact h
 ·rcases hp with hp|hp
  ·simp only[Si.rt p hp];split<;>rfl
  ·rw[if_pos hp.2]
 ·rcases hp with hp|hp
  ·exact dQ.rh p hp
  ·exact hp.1
 ·rcases hp with hp|hp
  ·exact Si.rf p hp
  ·exact hp.2.1
 ·split at hq
  ·cases hq
  ·exact dQ.th p q hq
 ·split at hq
  ·cases hq
  ·exact Si.t0 p q hq
 ·cases f with
  |ow=>exact⟨h.1,.inr ⟨h.1.ne,fresh p (fr p _ h.2)⟩⟩
  |fz=>exact⟨h.1,.inl h.2⟩
  |al=>exact⟨h.1,.inr ⟨h.1.ne,h.2⟩⟩
  |sc=>exact h
theorem rT{v:V}{d:D}(Si:SI X F R τ ρ σ H)(es:aM H H')(r:ck X.K (gP X F) R τ fv H H' v d):
  ∃R' τ',(∀p,R p->R' p)/\SI X F R' τ' (hU fv ρ) σ H'/\Rep (bh X.K H') (nd X.K R' (λ_=>False) (λ_=>none) H') [] v (aY a_ d):=by
 obtain⟨τt,fr,rp⟩:=r;obtain⟨R',τ',h1,h2,h3⟩:=yC (fv:=fv) Si es;exact⟨R',τ',h1,h2,Rep.hJ (λ_ _ h=>h) (h3 τt fr) rp _⟩
theorem uI(Si:SI X F R τ ρ σ H)(es:aM H H')(r:cy X.K (gP X F) R τ fv H H' vs ds):
  ∃R' τ',(∀p,R p->R' p)/\SI X F R' τ' (hU fv ρ) σ H'/\aI (bh X.K H') (nd X.K R' (λ_=>False) (λ_=>none) H') [] 0 vs (aC a_ ds):=by
 obtain⟨τt,fr,rp⟩:=r;obtain⟨R',τ',h1,h2,h3⟩:=yC (fv:=fv) Si es;exact⟨R',τ',h1,h2,aI.hJ (λ_ _ h=>h) (h3 τt fr) rp _ _⟩
theorem gc{v:V}{d:D}(h:Rep (bh X.K H) (nd X.K R (λ_=>False) (λ_=>none) H) [] v d):iK X R τ' H v d:=⟨λ_=>none,λ_ _ h=>by simp at h,h⟩
open Classical in
theorem HU{e:CE}{v:V}{d:D}(Si:SI X F R τ ρ σ H)(es:aM H H')(r:ck X.K (gP X F) R τ (iN e) H H' v d):
  ∃R' τ',(∀p,R p->R' p)/\SI X F R' τ' (keep e d ρ).2 σ H'/\iK X R' τ' H' v (keep e d ρ).1:=by
 unfold keep;by_cases ha:ba bI d=true
 ·rw[if_pos ha];obtain⟨R',τ',h1,h2,h3⟩:=rT Si es r;exact⟨R',τ',h1,h2,gc h3⟩
 ·obtain⟨τt,fr,rp⟩:=r;rw[if_neg ha];refine⟨R,τ,λ_ h=>h,Si.go es,λp=>if H' p=none then none else τt p,λp q hq=>?_,?_⟩
  ·dsimp only at hq;split at hq
   ·cases hq
   ·rename_i hn;have hf:=fr p q hq;refine⟨?_,λhR=>Si.rh p hR hf,Si.same.free hf,hn⟩;cases z:τ p with
    |none=>rfl
    |some k=>exact absurd hf (Si.th p k z)
  ·have Sz:ba bI d=false:=by simpa using ha
   have st:∀{k:bt} {v:V} {d:D},Rep (bh X.K H') (nd X.K R (jX (gP X F) τ (iN e)) τt H') k v d->ba bI d=false->Rep (bh X.K H') (nd X.K R (λ_=>False) (λp=>if H' p=none then none else τt p) H') k v d:=by
    intro k v d h ha;exact Rep.kb (P:=bI) (λ_ _ h=>h) (λk p xs f hf h=>by
     cases f with
     |ow=>exact⟨h.1,by show(if H' p=none then none else τt p)=_;rw[if_neg (h.1.ne)];exact h.2⟩
     |fz=>exact h
     |al=>cases hf
     |sc=>exact h) h ha
   exact st rp Sz
open Classical in
def tK(X:Cx)(F:aj)(Φ:aT)(c:CE):TE:=λσ H Q=>∃R τ ρ r,SI X F R τ ρ σ H/\jo Φ c ρ=ok r/\∀v H' R' τ',aM H H'->(∀p,R p->R' p)->SI X F R' τ' r.2 σ H'->iK X R' τ' H' v r.1->Q v H'
end
section
variable {T T':mK}{N N':gJ}
theorem aI.child{q:bt}(hT:∀p xs,T p xs->T' p xs)(hN:∀c m p xs f,N (c++(m::q)) p xs f->N' (c++(m::q)) p xs f):∀{n:Nat} {vs:af} {ds:aa},aI T N q n vs ds->aI T' N' q n vs ds
 |_,_,_,.nil=>.nil
 |n,_,_,.cons h t=>.cons (Rep.imp (q:=n::q) (q':=n::q) hT (λc p xs f h=>hN c n p xs f h) h) (aI.child hT hN t)
theorem aI.HB{q:bt}{v:V}{d:D}:∀{n:Nat} {vs:af} {ds:aa},aI T N q n vs ds->Rep T N ((n+ds.length)::q) v d->aI T N q n (vs++[v]) (ds++[d])
 |n,_,_,.nil,h=>.cons (by simpa using h) .nil
 |n,_,_,.cons (ds:=ds) h t,h'=>.cons h (aI.HB t (by
   have e:n+(ds.length+1)=n+1+ds.length:=by left
   rw[List.length_cons,e]at h';exact h'))
theorem aI.setAt{q:bt}{v:V}{d:D}:∀{n j:Nat} {vs:af} {ds:aa},aI T N q n vs ds->Rep T N ((n+j)::q) v d->aI T N q n (vs.set j v) (ds.set j d)
 |_,_,_,_,.nil,_=>by simp;exact .nil
 |_,0,_,_,.cons _ t,h'=>.cons (by simpa using h') t
 |n,j+1,_,_,.cons h t,h'=>.cons h (aI.setAt (j:=j) t (by
   have e:n+(j+1)=n+1+j:=by left
   rw[e]at h';exact h'))
end
section
variable {X:Cx}{F R:aj}{τ:Addr->Option bt}{ρ:aX}{σ:St}{H:Hp}
theorem SI.own{i:Nat}(Si:SI X F R τ ρ σ H)(hi:ρ[i]?=some (some (.lst .ow ds))):∃p xs,σ[i]?=some (some (.ref p))/\H p=some (.lst xs)/\xs.length=ds.length/\τ p=some [i]/\aI (bh X.K H) (nd X.K R (λ_=>False) τ H) [i] 0 xs ds:=by
 obtain⟨v,hv,rp⟩:=Si.rep i _ hi;cases rp with
 |lst h r=>exact⟨_,_,hv,h.1,r.length,h.2,r⟩
theorem Bd{H:Hp}{p:Addr}{n:Nd}{o:HO}(hp:fU H p n){a:Addr}{ys:af}(h:bh K H a ys):bh K (upd H p o) a ys:=by
 obtain⟨o0,Ng,Qh,Nf⟩:=fU.some hp;have nO:∀a u,H a=some u->u≠o0->a≠p:=λa u e h z=>by subst z;rw[Ng]at e;cases e;exact h rfl
 rcases h with (h|⟨o',h⟩)|h
 ·exact .inl (.inl (by rw[aS (nO a _ h λz=>Qh _ z.symm)];exact h))
 ·exact .inl (.inr ⟨o',by rw[aS (nO a _ h λz=>Nf _ _ z.symm)];exact h⟩)
 ·exact .inr h
theorem SI.OT{i m:Nat}{v:V}{d d0 d1:D}{p:Addr}{xs':af}{n n':Nd}{o:HO}(Si:SI X F R τ ρ σ H)(hi:ρ[i]?=some (some d0))(hv:σ[i]?=some (some (.ref p)))(hp:fU H p n)(ht:τ p=some [i])
  (rs:aI (bh X.K H) (nd X.K R (λ_=>False) τ H) [i] 0 xs ds) (rk:iK X R τ H v d) (sW:fU (upd H p o) p n')
  (mk:∀{N:gJ},N [i] p n' .ow->aI (bh X.K (upd H p o)) N [i] 0 xs' ds'->Rep (bh X.K (upd H p o)) N [i] (.ref p) d1)
  (hb:∀{N:gJ},aI (bh X.K (upd H p o)) N [i] 0 xs ds->Rep (bh X.K (upd H p o)) N (m::[i]) v d->aI (bh X.K (upd H p o)) N [i] 0 xs' ds') :
  ∃τ',SI X F R τ' (ρ.set i (some d1)) σ (upd H p o):=by
 obtain⟨τt,hτ,rp⟩:=rk;have VM:i<ρ.length:=by
  by_cases z:i<ρ.length
  ·exact z
  ·rw[List.getElem?_eq_none (by left)]at hi;cases hi
 obtain⟨o0,Ng,Qh,Nf⟩:=fU.some hp;have nR:∀a,R a->a≠p:=λa ha e=>by subst e;rw[Si.rt _ ha]at ht;cases ht
 have nT:∀a q,τt a=some q->a≠p:=λa q e z=>by subst z;rw[(hτ _ q e).1]at ht;cases ht
 have nO:∀a u,H a=some u->u≠o0->a≠p:=λa u e h z=>by subst z;rw[Ng]at e;cases e;exact h rfl
 have keep:∀a,a≠p->(upd H p o) a=H a:=λa h=>aS h;have Lv:∀a ys,bh X.K H a ys->bh X.K (upd H p o) a ys:=λa ys h=>by
  rcases h with (h|⟨o',h⟩)|h
  ·exact .inl (.inl (by rw[keep a (nO a _ h λz=>Qh _ z.symm)];exact h))
  ·exact .inl (.inr ⟨o',by rw[keep a (nO a _ h λz=>Nf _ _ z.symm)];exact h⟩)
  ·exact .inr h
 have SD:∀a (z:Nd),a≠p->fU H a z->fU (upd H p o) a z:=λa z ne h=>h.at λu e=>by rw[keep a ne];exact e
 have Ym:∀{τ1:Addr->Option bt} q q' a (z:Nd),nd X.K R (λ_=>False) τ1 H q a z .sc->∀τ2,nd X.K R (λ_=>False) τ2 (upd H p o) q' a z .sc:=λq q' a z h τ2=>by
  obtain⟨ys,rfl,h⟩:=h.Bs;exact h.elim (λ⟨o',w⟩=>.inl ⟨o',by rw[keep a (nO a _ w λz=>Nf _ _ z.symm)];exact w⟩) .inr
 have Yn:∀q a ys f,q≠[i]->nd X.K R (λ_=>False) τ H q a ys f->nd X.K R (λ_=>False) (λa=>match τt a with|some q=>some (q++[m,i])|none=>τ a) (upd H p o) q a ys f:=λq a ys f hq h=>by
  cases f with
  |ow =>
   have ne:a≠p:=λz=>by
    subst z;have:=h.2.symm.trans ht;exact hq (aap this)
   refine⟨SD a ys ne h.1,?_⟩;cases z:τt a with
   |none=>simp only[z];exact h.2
   |some k=>have:=(hτ a k z).1;rw[h.2]at this;cases this
  |fz=>exact⟨SD a ys (nR a h.2) h.1,h.2⟩
  |al=>exact h.2.elim
  |sc=>exact Ym q q a ys h _
 refine⟨λa=>match τt a with|some q=>some (q++[m,i])|none=>τ a,⟨by simp[Si.len],λj d' hj=>?_,λa ha=>?_,λa ha=>?_,Si.rf,λa q hq=>?_,λa q hq=>?_,?_⟩⟩
 ·by_cases iA:j=i
  ·subst iA;rw[List.getElem?_set_self VM]at hj;cases hj;refine⟨.ref p,hv,mk ⟨sW,?_⟩ (hb (aI.child Lv (λc n a ys f h=>Yn _ a ys f (λz=>by
    have:=aaS List.length z;simp at this) h) rs) (rp.imp (q:=[]) (q':=[m,j]) Lv λc a ys f h=>?_))⟩
   ·cases z:τt p with
    |none=>simp only[z];exact ht
    |some k=>exact absurd rfl (nT p k z)
   ·cases f with
    |ow =>
     rw[List.append_nil]at h;exact⟨SD a ys (nT a _ h.2) h.1,by simp only[h.2]⟩
    |fz=>exact⟨SD a ys (nR a h.2) h.1,h.2⟩
    |al=>exact h.2.elim
    |sc=>exact Ym _ _ a ys h _
  ·rw[List.getElem?_set_ne (Ne.symm iA)]at hj;obtain⟨u,hu,ru⟩:=Si.rep j d' hj;refine⟨u,hu,ru.imp (q:=[j]) (q':=[j]) Lv λc a ys f h=>Yn _ a ys f (λz=>?_) h⟩;have:=aaS List.getLast? z;simp at this;exact iA this
 ·cases z:τt a with
  |none=>simp only[z];exact Si.rt a ha
  |some k=>exact absurd ha (hτ a k z).2.1
 ·rw[keep a (nR a ha)];exact Si.rh a ha
 ·by_cases Yk:a=p
  ·subst Yk;rw[bj];simp
  ·rw[keep a Yk];cases z:τt a with
   |none=>simp only[z]at hq;exact Si.th a q hq
   |some k=>exact(hτ a k z).2.2.2
 ·cases z:τt a with
  |none=>simp only[z]at hq;exact Si.t0 a q hq
  |some k=>exact(hτ a k z).2.2.1
 ·intro a u e;have ne:a≠p:=λz=>by subst z;rw[Si.t0 _ _ ht]at e;cases e
  rw[keep a ne];exact Si.same a u e
theorem SI.put{i m:Nat}{v:V}{d:D}{g:af->af}{p:Addr}(Si:SI X F R τ ρ σ H)(hi:ρ[i]?=some (some (.lst .ow ds)))(hv:σ[i]?=some (some (.ref p)))(hp:H p=some (.lst xs))(ht:τ p=some [i])
  (rs:aI (bh X.K H) (nd X.K R (λ_=>False) τ H) [i] 0 xs ds) (rk:iK X R τ H v d)
  (hb:∀{N:gJ},aI (bh X.K (upd H p (.lst (g xs)))) N [i] 0 xs ds->Rep (bh X.K (upd H p (.lst (g xs)))) N (m::[i]) v d->aI (bh X.K (upd H p (.lst (g xs)))) N [i] 0 (g xs) ds') :
  ∃τ',SI X F R τ' (ρ.set i (some (.lst .ow ds'))) σ (upd H p (.lst (g xs))) :=
 Si.OT (n:=.l xs) (n':=.l (g xs)) hi hv hp ht rs rk bj (λh r=>.lst h r) hb
end
theorem jV{env:Env}:∀(names:List (Str×NameKind)) (acc:List (Str×Addr)),(∀x,(x,NameKind.free)∈names->∃c,env.cells.lookup x=some c) ->
  ∃cl,(forIn names acc (λ(y:Str×NameKind) (cs:List (Str×Addr))=>do
    let (name,kind):=y
    let mut cs:=cs
    if kind==.free then cs:=(name,<- cellOf env name)::cs
    pure (ForInStep.yield cs)):Sem (List (Str×Addr)))=pure cl /\
   (∀x c,cl.lookup x=some c->acc.lookup x=some c\/(env.cells.lookup x=some c/\(x,NameKind.free)∈names))/\(∀x,((x,NameKind.free)∈names\/(∃c,acc.lookup x=some c))->∃c,cl.lookup x=some c)
 |[],acc,_=>⟨acc,rfl,λx c h=>.inl h,λx h=>h.elim (λh=>nomatch h) id⟩
 | (n,kd)::names,acc,h=>by
  by_cases hk:kd=.free
  ·subst hk;obtain⟨c,hc⟩:=h n aaf;obtain⟨cl,e,h1,h2⟩:=jV names ((n,c)::acc) (λx hx=>h x (aad _ hx));refine⟨cl,?_,λx c' hx=>?_,λx hx=>?_⟩
   ·rw[List.forIn_cons];have e0:cellOf env n=pure c:=by unfold cellOf;rw[hc]
    simp only[beq_self_eq_true,if_true,e0,pure_bind];exact e
   ·rcases h1 x c' hx with z|z
    ·by_cases P8:x=n
     ·subst P8;simp at z;subst z;exact .inr ⟨hc,aaf⟩
     ·rw[List.lookup_cons]at z;have:(x==n)=false:=by simpa using P8
      rw[this]at z;exact .inl z
    ·exact .inr ⟨z.1,aad _ z.2⟩
   ·refine h2 x ?_;rcases hx with hx|⟨c',hx⟩
    ·rcases List.mem_cons.mp hx with z|z
     ·cases z;exact .inr ⟨c,by simp⟩
     ·exact .inl z
    ·by_cases P8:x=n
     ·subst P8;exact .inr ⟨c,by simp⟩
     ·refine .inr ⟨c',?_⟩;rw[List.lookup_cons];have:(x==n)=false:=by simpa using P8
      rw[this];exact hx
  ·obtain⟨cl,e,h1,h2⟩:=jV names acc (λx hx=>h x (aad _ hx));have hb:(kd==NameKind.free)=false:=by simpa using hk
   refine⟨cl,?_,λx c' hx=>(h1 x c' hx).imp id λz=>⟨z.1,aad _ z.2⟩,λx hx=>h2 x ?_⟩
   ·rw[List.forIn_cons];simp only[hb,Bool.false_eq_true,if_false,pure_bind];exact e
   ·rcases hx with hx|hx
    ·rcases List.mem_cons.mp hx with z|z
     ·cases z;exact absurd rfl hk
     ·exact .inl z
    ·exact .inr hx
variable {env:Env}
theorem wU{sc:Scope}(h:∀x,(x,NameKind.free)∈sc.names->∃c,env.cells.lookup x=some c):
  ∃cl,closureFor sc env=pure cl/\(∀x c,cl.lookup x=some c->env.cells.lookup x=some c)/\(∀x,(x,NameKind.free)∈sc.names->∃c,cl.lookup x=some c):=by
 obtain⟨cl,e,h1,h2⟩:=jV (env:=env) sc.names [] h;refine⟨cl,?_,λx c hx=>(h1 x c hx).elim (λz=>by simp at z) (·.1),λx hx=>h2 x (.inl hx)⟩;unfold closureFor;simp only[bind_pure];exact e
variable {P prog:aH}{e1 e2 jy iter o target tg:Expr}
theorem sf{w:World}{A:aK}{R:Result->Shared->Prop}{s:Shared}{elt:Expr}{ifs:aA}{scope:Scope}{it acc:Value}(I:Nat->Shared->Prop)
  (turn:∀n s,I n s->wpAny (model prog w) A (pyNext it) (λr s₁=>match r with
   |none=>R (.ok .next) s₁
   |some v=>wpAny (model prog w) A (letOwnedTupleGo target it v) (λ_ s₁=>wpAny (model prog w) A (assign target env v) (λ_ s₂ =>
     wpAny (model prog w) A (forIn ifs true λc r=>if r=true then do let ok <- isTrue c env (eval c env);pure (ForInStep.yield ok)else pure (ForInStep.yield r)) (λok s₃ =>
      if ok=true then wpAny (model prog w) A (eval elt env) (λx s₄ =>
       wpAny (model prog w) A (call (.builtin "list.append") [acc,x]) (λ_ s₅=>∃m,m<n/\I m s₅) (λ_ _=>False) s₄) (λ_ _=>False) s₃
      else ∃m,m<n/\I m s₃) (λ_ _=>False) s₂) (λ_ _=>False) s₁) (λ_ _=>False) s₁) (λ_ _=>False) s)
  (n:Nat) (h:I n s) :
  codeAny (model prog w) A (.compLoop (.ListComp elt [⟨target,iter,ifs,0⟩] scope pos) 0 it acc env) R s:=by
 refine codeAny_loop rfl I (λn s hI=>?_) n h;show wpAny _ A ((compTurn (.ListComp elt [⟨target,iter,ifs,0⟩] scope pos) 0 it acc env).onRaise (λx=>do noteFrame x env;theTreesLotGoes x)) _ _ s;refine wpAny_noted ?_;rw[compTurn_list];refine aaa (ab5 (aaa (aau (turn n s hI) (λr s₁ h₁=>?_) λ_ _ h'=>h'.elim)));cases r with
 |none=>exact aag h₁
 |some v =>
  refine aaa (aau h₁ (λ_ s₂ h₂=>?_) λ_ _ h'=>h'.elim);refine aaa (aau h₂ (λ_ s₂ h₂=>aaa (aau h₂ (λok s₃ h₃=>?_) λ_ _ h'=>h'.elim)) λ_ _ h'=>h'.elim);cases ok with
  |false=>exact aag ⟨rfl,h₃⟩
  |true =>
   exact aaa (aaa (aau h₃ (λx s₄ h₄=>aaa (aau h₄ (λ_ s₅ h₅=>aag (aag ⟨rfl,h₅⟩)) λ_ _ h'=>h'.elim)) λ_ _ h'=>h'.elim))
noncomputable def eu(X:Cx)(N':aq)(scope:Scope)(cl:List (Str×Addr))(C:Addr)(s₀:Shared)(H₀:Hp)(fp:aW):Cx :=
 { X with N:=N',s₀:=s₀,H₀:=H₀,env:=compEnvC scope cl C X.env,outer:=X.stack,stack:=X.stack,ex:=fp,fn:=λ_=>false,pn:=[],xe:=λ_ _=>False }
theorem fL{env:Env}:∀{names:List (Str×NameKind)} {x:Str} {kd:NameKind},(names.map λ(n,k)=>if (k==NameKind.free&&env.scope.kind==.function&&env.kindOf n==some .cell)then(n,NameKind.cell)else(n,k)).lookup x=some kd ->
  names.lookup x=some kd\/(kd=.cell/\names.lookup x=some .free)
 |[],_,_,h=>by simp at h
 | (n,k)::r,x,kd,h=>by
  rw[List.map_cons]at h;cases hx:x==n with
  |true =>
   by_cases hc:(k==NameKind.free&&env.scope.kind==.function&&env.kindOf n==some .cell)=true
   ·simp only[hc,if_true,List.lookup_cons,hx]at h;cases h;simp only[Bool.and_eq_true,beq_iff_eq]at hc;refine .inr ⟨rfl,?_⟩;rw[List.lookup_cons,hx,hc.1.1]
   ·have CW:(k==NameKind.free&&env.scope.kind==.function&&env.kindOf n==some .cell)=false:=by simpa using hc
    simp only[CW,Bool.false_eq_true,if_false,List.lookup_cons,hx]at h;cases h;exact .inl (by rw[List.lookup_cons,hx])
  |false =>
   have:List.lookup x (r.map λ(n,k)=>if (k==NameKind.free&&env.scope.kind==.function&&env.kindOf n==some .cell)then(n,NameKind.cell)else(n,k))=some kd:=by
    by_cases hc:(k==NameKind.free&&env.scope.kind==.function&&env.kindOf n==some .cell)=true
    ·simp only[hc,if_true,List.lookup_cons,hx]at h;exact h
    ·have CW:(k==NameKind.free&&env.scope.kind==.function&&env.kindOf n==some .cell)=false:=by simpa using hc
     simp only[CW,Bool.false_eq_true,if_false,List.lookup_cons,hx]at h;exact h
   rw[List.lookup_cons,hx];exact fL this
theorem dD{env:Env}:∀{names:List (Str×NameKind)} {x:Str},names.lookup x=some .free ->
  (names.map λ(n,k)=>if (k==NameKind.free&&env.scope.kind==.function&&env.kindOf n==some .cell)then(n,NameKind.cell)else(n,k)).lookup x=some .free \/
  (names.map λ(n,k)=>if (k==NameKind.free&&env.scope.kind==.function&&env.kindOf n==some .cell)then(n,NameKind.cell)else(n,k)).lookup x=some .cell
 |[],_,h=>by simp at h
 | (n,k)::r,x,h=>by
  rw[List.map_cons];cases hx:x==n with
  |true =>
   rw[List.lookup_cons,hx]at h;cases h;by_cases hc:(NameKind.free==NameKind.free&&env.scope.kind==.function&&env.kindOf n==some .cell)=true
   ·simp only[hc,if_true,List.lookup_cons,hx];exact .inr trivial
   ·have CW:(NameKind.free==NameKind.free&&env.scope.kind==.function&&env.kindOf n==some .cell)=false:=by simpa using hc
    simp only[CW,Bool.false_eq_true,if_false,List.lookup_cons,hx];exact .inl trivial
  |false =>
   rw[List.lookup_cons,hx]at h;by_cases hc:(k==NameKind.free&&env.scope.kind==.function&&env.kindOf n==some .cell)=true
   ·simp only[hc,if_true,List.lookup_cons,hx];exact dD h
   ·have CW:(k==NameKind.free&&env.scope.kind==.function&&env.kindOf n==some .cell)=false:=by simpa using hc
    simp only[CW,Bool.false_eq_true,if_false,List.lookup_cons,hx];exact dD h
theorem dO{names:List (Str×NameKind)}{x:Str}{kd:NameKind}(h:names.lookup x=some kd):(x,kd)∈names:=aaP h
structure j_(S:Sx)(n:Nat)(t:Tg)(caps:aQ)(target:Expr)(sc:Scope):Prop where
 kind:sc.kind=.function
 Cb:∀y∈sc.names,y.2≠.cell
 loc:∀y∈sc.names,y.2=.local->sc.names.lookup y.1=some .local
 free:∀x,(x,NameKind.free)∈sc.names->S.sc.names.lookup x=some .cell\/S.sc.names.lookup x=some .free
 n:n=(cq target).length
 tl:∀x∈cq target,sc.names.lookup x=some .local
 nd:(cq target++gz S caps).Nodup
 cL:∀i∈caps,∃x,S.N[i]?=some x/\sc.names.lookup x=some .free
 tg:(∃x p,t=.nm 0/\target=.Name x p)\/(∃es k p,t=.tp (List.range es.length)/\target=.Tuple es k p/\es.all isNm=true)
theorem qC{n:Nat}{t:Tg}{sc:Scope}(h:sk S n t caps target sc=true):j_ S n t caps target sc:=by
 unfold sk at h;simp only[Bool.and_eq_true,decide_eq_true_eq,List.all_eq_true,Bool.or_eq_true]at h;obtain⟨⟨⟨⟨⟨⟨h1,h2⟩,h3⟩,h4⟩,h5⟩,h6⟩,h7⟩:=h;refine⟨h1,λy hy=>(h2 y hy).1.1,λy hy hk=>?_,λx hx=>?_,h3,h4,h5,λi hi=>?_,?_⟩
 ·rcases(h2 y hy).1.2 with z|z
  ·exact absurd hk z
  ·exact z
 ·rcases(h2 _ hx).2 with (z|z)|z
  ·exact absurd rfl z
  ·exact .inl z
  ·exact .inr z
 ·have:=h6 i hi;split at this
  ·rename_i x e;exact⟨x,e,aab this⟩
  ·cases this
 ·cases t with
  |nm i =>
   obtain⟨g1,g2⟩:=aE h7;obtain rfl:i=0:=aab g1;cases target<;>first | (cases g2;done)|exact .inl ⟨_,_,rfl,rfl⟩
  |tp is =>
   obtain⟨es,hv,g⟩:=bq h7;obtain⟨k,p,rfl⟩:=kf hv;obtain⟨g1,g2⟩:=aE g;obtain rfl:is=_:=aab g1;exact .inr ⟨es,k,p,rfl,rfl,g2⟩
theorem uZ{S:Sx}:∀{caps:aQ},(∀i∈caps,∃x,S.N[i]?=some x)->(gz S caps).length=caps.length/\∀(j i:Nat),caps[j]?=some i->(gz S caps)[j]?=S.N[i]?
 |[],_=>⟨rfl,λj i h=>by simp at h⟩
 |i::caps,h=>by
  obtain⟨x,hx⟩:=h i aaf;obtain⟨h1,h2⟩:=uZ (caps:=caps) λj hj=>h j (aad _ hj);have e:gz S (i::caps)=x::gz S caps:=by unfold gz;rw[List.filterMap_cons,hx]
  rw[e];refine⟨by simp[h1],λj k hj=>?_⟩;cases j with
  |zero=>simp at hj;subst hj;simp[hx]
  |succ j=>simp at hj ⊢;exact h2 j k hj
variable {base h' h₁:Heap}{ch fp:aW}
section
variable {X:Cx}{S:Sx}{k:Nat}{Φ:aT}{pins:ak}{σ:St}{H2:Hp}{s₂:Shared}
noncomputable def pJ(n:Nat)(caps:aQ)(σ:St):St:=List.replicate n none++caps.map λi=>σ[i]?.getD none
noncomputable def eT(aN:ao)(n:Nat):Obj:={ cls:=.type "list",data:=.seq aN.toArray n }
theorem GX{n:Nat}{t:Tg}{sc:Scope}{cl:List (Str×Addr)}(L:Lk X S k Φ)(co:j_ S n t caps target sc)(I2:Inv X pins σ H2 s₂)
  (mG:∀x c,cl.lookup x=some c->X.env.cells.lookup x=some c) (wA:∀x,(x,NameKind.free)∈sc.names->∃c,cl.lookup x=some c) (Gd:∀b∈fp,ph X pins H2 b) (Li:∀b∈fp,b<s₂.heap.objs.size) :
  (eu X (cq target++gz S caps) sc cl (s₂.heap.objs.size+1) s₂ H2 fp).Ok:=by
 have Vr:=I2.jJ;refine⟨I2.ok.mod,co.kind,I2.ok.glob,I2.ok.blt,ab1 _,λx y c h1 h2=>I2.ok.inj x y c (mG x c h1) (mG y c h2),λx hx=>?_,(λ_ _ z=>by cases z),I2.ok.hd,I2.ok.frames,.inl rfl,λb hb=>⟨?_,λx c e=>(Gd b hb).2.2.2.2.1 x c (mG x c e)⟩,I2.bs,aaB I2.ok.DV I2.sz,λb o e hb=>?_,λb hb z=>?_,I2.stack,I2.gY⟩
 ·have K3:(relabel sc X.env).names.lookup x=some .cell\/(relabel sc X.env).names.lookup x=some .free:=hx;rcases K3 with K3|K3
  ·rcases fL K3 with z|z
   ·exact absurd rfl (co.Cb _ (dO z))
   ·exact wA x (dO z.2)
  ·rcases fL K3 with z|z
   ·exact wA x (dO z)
   ·cases z.1
 ·exact aak (aaA (Li b hb))
 ·rcases(Gd b hb).2.2.2.1 with z|z
  ·exact I2.ok.ui b o e z
  ·exact absurd (aai (aae e) (aaB I2.ok.DV z)) (aax _)
 ·rcases List.mem_cons.mp (Vr b z)with w|w
  ·exact(Gd b hb).2.1 w
  ·exact(Gd b hb).2.2.1 w
theorem CF{n:Nat}{t:Tg}{sc:Scope}{cl:List (Str×Addr)}{tk:Nat}(L:Lk X S k Φ)(co:j_ S n t caps target sc)(I2:Inv X pins σ H2 s₂)
  (mG:∀x c,cl.lookup x=some c->X.env.cells.lookup x=some c) (wA:∀x,(x,NameKind.free)∈sc.names->∃c,cl.lookup x=some c) (Gd:∀b∈fp,ph X pins H2 b) (Li:∀b∈fp,b<s₂.heap.objs.size)
  (AF:h₁.Ns (s₂.heap.objs.size+1) λ_=>none) (old:∀b o,s₂.heap.get? b=some o->h₁.get? b=some o) (fg:h₁.get? s₂.heap.objs.size=some (eT [] 0)) :
  Inv (eu X (cq target++gz S caps) sc cl (s₂.heap.objs.size+1) s₂ H2 fp) [(s₂.heap.objs.size,eT [] 0)] (pJ n caps σ) H2 { s₂ with heap:=h₁,toks:=tk }:=by
 have kM:∀i∈caps,∃x,S.N[i]?=some x:=λi hi=>let ⟨x,e,_⟩:=co.cL i hi;⟨x,e⟩;obtain⟨cl1,cl2⟩:=uZ kM;refine⟨GX L co I2 mG wA Gd Li,rfl,I2.bare,Un.kept old,⟨_,AF,λi x v e1 e2 e3=>?_⟩,λx c e=>?_,I2.cm.fresh (ab1 _),λx c e=>I2.e_ x c (mG x c e),λp hp=>?_,I2.cm.kept old,?_⟩
 ·unfold pJ at e2;have hi:n<=i:=by
   by_cases hi:i<n
   ·rw[List.getElem?_append_left (by simpa using hi),List.getElem?_replicate,if_pos hi]at e2;cases e2
   ·left
  have SS:(cq target++gz S caps)[i]?=some x:=e1;rw[List.getElem?_append_right (by rw[<- co.n];exact hi),<- co.n]at SS;rw[List.getElem?_append_right (by simpa using hi),List.length_replicate,List.getElem?_map]at e2;cases hc:caps[i - n]? with
  |none=>rw[hc]at e2;cases e2
  |some ci =>
   rw[hc]at e2;rw[cl2 _ _ hc]at SS;obtain⟨x',Ws,Ie⟩:=co.cL ci (aaq hc);rw[Ws]at SS;cases SS;have WI:σ[ci]?=some (some v):=by
    have Rj:σ[ci]?.getD none=some v:=aap e2;cases q:σ[ci]? with
    |none=>rw[q]at Rj;cases Rj
    |some o=>rw[q]at Rj;simp at Rj;rw[Rj]
   have Vl:IL X.env.scope x:=by
    unfold IL;rw[L.sc];rcases co.free x (dO Ie)with z|z
    ·exact .inr (.inl z)
    ·exact .inr (.inr z)
   obtain⟨m,hn,hl⟩:=I2.loc;obtain⟨u,r,lk⟩:=hl ci x v (by rw[L.N];exact Ws) WI Vl;refine⟨u,r,.inr ⟨?_,?_⟩⟩
   ·rcases dD (env:=X.env) Ie with z|z
    ·exact .inr z
    ·exact .inl z
   ·have hcx:∃c,X.env.cells.lookup x=some c/\s₂.heap.IsCell c (some u):=by
     rcases lk with ⟨z,_⟩|⟨_,z⟩
     ·have z':X.env.scope.names.lookup x=some .local:=z;rw[L.sc]at z';rcases co.free x (dO Ie)with w|w<;>(rw[w]at z';cases z')
     ·exact z
    obtain⟨c,ec,o,ho,hd⟩:=hcx;obtain⟨c',Yz⟩:=wA x (dO Ie);have:=mG x c' Yz;rw[ec]at this;cases this;exact⟨c,Yz,o,old _ _ ho,hd⟩
 ·obtain⟨v,o,ho,hd⟩:=I2.cell x c (mG x c e);exact⟨v,o,old _ _ ho,hd⟩
 ·have oB:p=(s₂.heap.objs.size,eT [] 0):=by simpa [eu]using hp
  subst oB;refine⟨fg,I2.cm.fresh (aaj _),aak (aa5 _),λz=>?_,λv z=>by cases z⟩;rcases List.mem_cons.mp (I2.jJ _ z)with w|w
  ·exact absurd w (aaw I2.lt)
  ·exact I2.Kl (aaj _) w
 ·show(pJ n caps σ).length=(cq target++gz S caps).length;unfold pJ;rw[List.length_append,List.length_append,List.length_replicate,List.length_map,cl1,co.n]
end
theorem aI.snoc{T:mK}{N:gJ}{k:bt}:∀{n:Nat} {vs:af} {ds:aa} {v:V} {d:D},aI T N k n vs ds->Rep T N ((n+ds.length)::k) v d->aI T N k n (vs++[v]) (ds++[d])
 |n,_,_,_,_,.nil,h=>.cons h .nil
 |n,_,_,_,_,.cons (ds:=ds) h t,r=>.cons h (aI.snoc t (by
  have e:n+(ds.length+1)=n+1+ds.length:=by left
  rw[List.length_cons,e]at r;exact r))
open Classical in
theorem cy.snoc{K:au}{G R:aj}{τ:Addr->Option bt}{fv:aQ}{H H1 H2:Hp}{v:V}{d:D}{vs:af}{ds:aa}(e1:aM H H1)(e2:aM H1 H2)(h:cy K G R τ fv H H1 vs ds)(t:ck K G R τ fv H1 H2 v d):
  cy K G R τ fv H H2 (vs++[v]) (ds++[d]):=by
 obtain⟨τ1,f1,h1⟩:=h;obtain⟨τ2,f2,h2⟩:=t;refine⟨λp=>if H1 p=none then(τ2 p).map (· ++ [ds.length])else τ1 p,λp q hq=>?_,aI.snoc (h1.imp (q:=[]) (q':=[]) (λ_ _ h=>bh.same e2 h) λc p xs f h=>?_) ((Nat.zero_add ds.length).symm▸h2.imp (q:=[]) (q':=[ds.length]) (λ_ _ h=>h) λc p xs f h=>?_)⟩
 ·dsimp only at hq;by_cases hp:H1 p=none
  ·exact e1.free hp
  ·rw[if_neg hp]at hq;exact f1 p q hq
 ·have h':=nd.same e2 h;cases f with
  |ow =>
   refine⟨h'.1,?_⟩;show(if H1 p=none then(τ2 p).map (· ++ [ds.length])else τ1 p)=_;rw[if_neg (h.1.ne)];exact h.2
  |fz=>exact h'
  |al=>exact h'
  |sc=>exact h'
 ·cases f with
  |ow =>
   refine⟨h.1,?_⟩;show(if H1 p=none then(τ2 p).map (· ++ [ds.length])else τ1 p)=_;rw[if_pos (f2 p _ h.2),h.2];simp
  |fz=>exact h
  |al=>exact h
  |sc=>exact h
structure Yl(K:au)(J:It)(R:aj)(H1:Hp)(items:aa):Prop where
 go:∀i H',aM H1 H'->i<items.length->J.go i H'
 tj:∀i H' x ka,aM H1 H'->i<items.length->J.tj i H' x ka->aM H' ka/\∃d,items[i]?=some d/\Rep (bh K ka) (nd K R (λ_=>False) (λ_=>none) ka) [] x d
 stop:∀i H',aM H1 H'->items.length<=i->J.stop i H'
variable {C i1 i2 l1 l2:Addr}{s₂:Shared}
section
variable {X:Cx}{S:Sx}{k:Nat}{F:aj}{Φ:aT}
def kz(X:Cx)(F:aj)(τ:Addr->Option bt)(fv:aQ)(H2:Hp)(p:Addr):Prop:=H2 p≠none/\jX (gP X F) τ fv p
theorem vQ{τt:Addr->Option bt}(Si:SI X F R τ ρ σ H)(fr:∀p q,τt p=some q->H p=none)(hs:∀i∈fv,i∈fv')(kp kq:bt)(p:Addr)(xs:Nd)(f:Fl)
  (h:nd X.K R (jX (gP X F) τ fv) τt H2 kp p xs f):nd X.K (kz X F τ fv' H2) (λ_=>False) (λ_=>none) H2 kq p xs (a_ f):=by
 cases f with
 |ow=>exact⟨h.1,h.1.ne,.inr (Si.same.free (fr p _ h.2)),λc i e=>absurd (fr p _ h.2) (Si.th p _ e)⟩
 |fz=>exact⟨h.1,h.1.ne,Si.rf p h.2,λc i e=>by rw[Si.rt p h.2]at e;cases e⟩
 |al=>exact⟨h.1,h.1.ne,h.2.mono hs⟩
 |sc=>exact h
theorem Es{a:Addr}{q:bt}(hl:dz X.K H1 a xs)(rs:aI (bh X.K H1) (nd X.K R (λ_=>False) (λ_=>none) H1) q 0 xs items):Yl X.K (NH X.K a) R H1 items where
 go:=λi H' e hi=>⟨xs,xs[i]'(by rw[rs.length];exact hi),e.seq hl,aan _⟩
 tj:=λi H' x ka e hi y=>by
  obtain⟨rfl,y⟩:=y;obtain⟨d,hd,rd⟩:=rs.uH (y xs (e.seq hl));refine⟨aM.refl _,d,hd,?_⟩;have:=Rep.hJ (g:=id) (λ_ _ h=>h) nd.oI rd [];rw[dU]at this;exact this.imp (λ_ _ h=>bh.same e h) λ_ _ _ _ h=>nd.same e h
 stop:=λi H' e hi=>⟨xs,e.seq hl,by rw[rs.length];exact hi⟩
theorem IU{a:Addr}{q:bt}(hl:bh X.K H1 a xs)(rs:aI (bh X.K H1) (nd X.K R (λ_=>False) (λ_=>none) H1) q 0 xs items):Yl X.K (NG X.K a) R H1 items where
 go:=λi H' e hi=>⟨xs,xs[i]'(by rw[rs.length];exact hi),bh.same e hl,aan _⟩
 tj:=λi H' x ka e hi y=>by
  obtain⟨rfl,y⟩:=y;obtain⟨d,hd,rd⟩:=rs.uH (y xs (bh.same e hl));refine⟨aM.refl _,d,hd,?_⟩;have:=Rep.hJ (g:=id) (λ_ _ h=>h) nd.oI rd [];rw[dU]at this;exact this.imp (λ_ _ h=>bh.same e h) λ_ _ _ _ h=>nd.same e h
 stop:=λi H' e hi=>⟨xs,bh.same e hl,by rw[rs.length];exact hi⟩
theorem AO{lo:Int}{n:Nat}:Yl X.K (Ax lo n) R H1 ((List.range n).map λ(k:Nat)=>D.int (lo+(k:Int))) where
 go:=λi H' e hi=>by simpa [Ax]using hi
 tj:=λi H' x ka e hi y=>by
  obtain⟨rfl,rfl⟩:=y;have jN:i<n:=by simpa using hi
  exact⟨aM.refl _,.int (lo+i),by rw[List.getElem?_map,List.getElem?_range jN];rfl,.int _⟩
 stop:=λi H' e hi=>by simpa [Ax]using hi
theorem Bn{n:Nat}{t:Tg}{sc:Scope}{cl:List (Str×Addr)}(Si:SI X F R τ ρ σ H2)(hs:∀i∈caps,i∈fv):
  SI (eu X (cq target++gz S caps) sc cl C s₂ H2 fp) (jX (gP X F) τ fv) (kz X F τ fv H2) (λ_=>none) (bE n caps ρ) (pJ n caps σ) H2:=by
 refine⟨by simp[bE,pJ],λi d hi=>?_,λ_ _=>rfl,λp h=>h.1,λp h=>.inl h.2,λ_ _ h=>by simp at h,λ_ _ h=>by simp at h,aM.refl _⟩;unfold bE at hi;have hn:n<=i:=by
  by_cases hn:i<n
  ·rw[List.getElem?_append_left (by simpa using hn),List.getElem?_replicate,if_pos hn]at hi;cases hi
  ·left
 rw[List.getElem?_append_right (by simpa using hn),List.length_replicate,List.getElem?_map]at hi;cases hc:caps[i - n]? with
 |none=>rw[hc]at hi;exact nk hi
 |some ci =>
  rw[hc]at hi;have jN:(ρ[ci]?.getD none).map (aY a_)=some d:=aap hi;have hr:∃d0,ρ[ci]?=some (some d0)/\aY a_ d0=d:=by
   cases q:ρ[ci]? with
   |none=>rw[q]at jN;cases jN
   |some o =>
    cases o with
    |none=>rw[q]at jN;cases jN
    |some d0=>rw[q]at jN;exact⟨d0,rfl,aap jN⟩
  obtain⟨d0,h0,rfl⟩:=hr;obtain⟨v,hv,rv⟩:=Si.rep ci d0 h0;refine⟨v,?_,Rep.hJ (λ_ _ h=>h) (λkp kq p xs f h=>?_) ((rv.imp (q:=[ci]) (q':=[ci]) (N':=λq p xs f=>nd X.K R (λ_=>False) τ H2 q p xs f/\(f=.ow->∃c,q=c++[ci])) (λ_ _ h=>h) λc p xs f h=>⟨h,λ_=>⟨c,rfl⟩⟩)) [i]⟩
  ·unfold pJ;rw[List.getElem?_append_right (by simpa using hn),List.length_replicate,List.getElem?_map,hc];simp[hv]
  ·obtain⟨h,hq⟩:=h;cases f with
   |ow =>
    obtain⟨c,rfl⟩:=hq rfl;refine⟨h.1,h.1.ne,.inr (Si.t0 p _ h.2),λc' i' e=>?_⟩;rw[h.2]at e;have:=aaS List.getLast? (aap e);simp at this;subst this;exact hs _ (aaq hc)
   |fz=>exact⟨h.1,h.1.ne,Si.rf p h.2,λc i e=>by rw[Si.rt p h.2]at e;cases e⟩
   |al=>exact h.2.elim
   |sc=>exact h
theorem Cd:∀{es:aA},es.all isNm=true->∃xs:List (Str×Pos),es=xs.map λx=>Expr.Name x.1 x.2
 |[],_=>⟨[],rfl⟩
 |e::es,h=>by
  rw[List.all_cons,Bool.and_eq_true]at h;obtain⟨xs,rfl⟩:=Cd h.2;cases e<;>simp[isNm]at h;exact⟨(_,_)::xs,rfl⟩
theorem vK(xs:List (Str×Pos)):(xs.map λx=>Expr.Name x.1 x.2).filterMap (λe=>match e with|.Name x _=>some x|_=>none)=xs.map (·.1):=by
 induction xs with
 |nil=>rfl
 |cons x xs ih=>simp[ih]
def C9(i:Nat):Nat->Hi
 |0=>LC
 |n+1=>C_ (oH i) (C9 (i+1) n)
theorem xX{X:Cx}(hN:X.N.Nodup):∀(xs:List (Str×Pos)) (i:Nat),(∀(j:Nat) x,xs[j]?=some x->X.N[i+j]?=some x.1/\X.env.scope.names.lookup x.1=some .local) ->
  NF X (xs.map λx=>Expr.Name x.1 x.2) (C9 i xs.length)/\(assignEach (xs.map λx=>Expr.Name x.1 x.2) X.env).length=xs.length/\(assignEach (xs.map λx=>Expr.Name x.1 x.2) X.env).findIdx? (·.1)=none
 |[],_,_=>⟨xW,rfl,rfl⟩
 |x::xs,i,h=>by
  obtain⟨h1,h2,h3⟩:=xX hN xs (i+1) λj y hy=>by
   have:=h (j+1) y (by simpa using hy)
   rwa [show i+(j+1)=i+1+j by left]at this
  obtain⟨g1,g2⟩:=h 0 x rfl;refine⟨ub (mR hN g1 (.inl g2) (.inr g2)) h1 rfl,?_,?_⟩
  ·show(_::assignEach _ X.env).length=_;rw[List.length_cons,h2];rfl
  ·show(((false,assign (.Name x.1 x.2) X.env)::assignEach (xs.map λx=>Expr.Name x.1 x.2) X.env)).findIdx? (·.1)=none;rw[List.findIdx?_cons];simp[h3]
end
section
variable {X:Cx}{F R:aj}{τ:Addr->Option bt}{ρ:aX}{σ σ':St}{H:Hp}
theorem SI.Oz{i:Nat}{v:V}{d:D}(Si:SI X F R τ ρ σ H)(rp:Rep (bh X.K H) (nd X.K R (λ_=>False) (λ_=>none) H) [] v d)(hi:i<ρ.length):SI X F R τ (ρ.set i (some d)) (σ.set i (some v)) H:=by
 refine⟨by simp[Si.len],λj d' hj=>?_,Si.rt,Si.rh,Si.rf,Si.th,Si.t0,Si.same⟩;by_cases iA:j=i
 ·subst iA;rw[List.getElem?_set_self hi]at hj;cases hj;refine⟨v,List.getElem?_set_self (by rw[<- Si.len];exact hi),rp.imp (q':=[j]) (λ_ _ h=>h) λc p xs f h=>?_⟩;cases f with
  |ow=>exact nomatch h.2
  |fz=>exact h
  |al=>exact h
  |sc=>exact h
 ·rw[List.getElem?_set_ne (Ne.symm iA)]at hj;obtain⟨w,hw,lb⟩:=Si.rep j d' hj;exact⟨w,by rw[List.getElem?_set_ne (Ne.symm iA)];exact hw,lb⟩
theorem SI.sig(Si:SI X F R τ ρ σ H)(hl:σ'.length=σ.length)(h:∀(i:Nat) d,ρ[i]?=some (some d)->σ'[i]?=σ[i]?):SI X F R τ ρ σ' H :=
 ⟨by rw[hl];exact Si.len,λi d hi=>let ⟨v,hv,r⟩:=Si.rep i d hi;⟨v,by rw[h i d hi];exact hv,r⟩,Si.rt,Si.rh,Si.rf,Si.th,Si.t0,Si.same⟩
theorem nQ{Q:St->Hp->Prop}(σ0:St)(hi:Nat):∀{m i:Nat} {vs:af} {ds:aa} {kp:bt} {q:Nat} {σ:St} {ρ ρ':aX},i+m=hi->aI (bh X.K H) (nd X.K R (λ_=>False) (λ_=>none) H) kp q vs ds->SI X F R τ ρ σ H->iy (List.range' i m) ds ρ=ok ρ' ->
  σ.length=σ0.length->(∀j,hi<=j->σ[j]?=σ0[j]?)->(∀σ',σ'.length=σ0.length->(∀j,hi<=j->σ'[j]?=σ0[j]?)->SI X F R τ ρ' σ' H->Q σ' H)->C9 i m vs σ H Q
 |0,_,_,_,_,_,σ,_,_,_,.nil,Si,e,h1,h2,hq=>by
  cases e;exact⟨rfl,hq σ h1 h2 Si⟩
 |0,_,_,_,_,_,_,_,_,_,.cons _ _,_,e,_,_,_=>by cases e
 |m+1,_,_,_,_,_,_,_,_,_,.nil,_,e,_,_,_=>by cases e
 |m+1,i,_,_,_,_,σ,ρ,_,him,.cons (v:=v) (d:=d) h t,Si,e,h1,h2,hq=>by
  change (if _ then _ else _)=_ at e;split at e
  ·rename_i jN;have dQ:=Si.Oz (i:=i) (Rep.lH h) jN;refine⟨_,_,rfl,nQ σ0 hi (by left) t dQ e (by simpa using h1) (λj hj=>?_) hq⟩;rw[List.getElem?_set_ne (by left)];exact h2 j hj
  ·cases e
end
section
variable {X:Cx}{S:Sx}{k:Nat}{F:aj}{Φ:aT}
theorem Jh{n:Nat}{t:Tg}{sc:Scope}{cl:List (Str×Addr)}(QF:X.calm=true)(co:j_ S n t caps target sc):
  ∃g,PG (eu X (cq target++gz S caps) sc cl C s₂ H2 fp) target g/\∀(F' R':aj) (x:V) (d:D) (σ':St) (ka:Hp) (Q:St->Hp->Prop) (ρb ρ1:aX),
   SI (eu X (cq target++gz S caps) sc cl C s₂ H2 fp) F' R' (λ_=>none) ρb σ' ka->Rep (bh X.K ka) (nd X.K R' (λ_=>False) (λ_=>none) ka) [] x d->ba dF d=false->bQ t d ρb=ok ρ1 ->
   (∀σ2,σ2.length=σ'.length->(∀j,n<=j->σ2[j]?=σ'[j]?)->SI (eu X (cq target++gz S caps) sc cl C s₂ H2 fp) F' R' (λ_=>none) ρ1 σ2 ka->Q σ2 ka)->g x σ' ka Q:=by
 have Lh:∀x∈cq target,(relabel sc X.env).names.lookup x=some .local:=λx hx=>lookup_relabel_local (co.tl x hx);rcases co.tg with ⟨x,p,rfl,rfl⟩|⟨es,kk,p,rfl,rfl,kK⟩
 ·have hn:n=1:=co.n;subst hn;refine⟨oH 0,mR co.nd rfl (.inl (Lh x (List.mem_singleton.mpr rfl:x∈[x]))) (.inr (Lh x (List.mem_singleton.mpr rfl:x∈[x]))),λF' R' v d σ' ka Q ρb ρ1 Si rp _ e hq=>?_⟩;simp only[bQ]at e;split at e
  ·rename_i hi;cases e;refine hq _ (by simp) (λj hj=>?_) (Si.Oz rp hi);rw[List.getElem?_set_ne (by left)]
  ·cases e
 ·obtain⟨xs,rfl⟩:=Cd kK;have hN:cq (.Tuple (xs.map λx=>Expr.Name x.1 x.2) kk p)=xs.map (·.1):=vK xs;have hn:n=xs.length:=by rw[co.n,hN,List.length_map]
  have:=xX (X:=eu X (cq (.Tuple (xs.map λx=>Expr.Name x.1 x.2) kk p)++gz S caps) sc cl C s₂ H2 fp) co.nd xs 0 (λj y hy=>by
   refine⟨?_,Lh y.1 (by rw[hN];exact List.mem_map.mpr ⟨y,aaq hy,rfl⟩)⟩;show(cq (.Tuple (xs.map λx=>Expr.Name x.1 x.2) kk p)++gz S caps)[0+j]?=_;have hj:j<xs.length:=by
    by_cases hj:j<xs.length
    ·exact hj
    ·rw[List.getElem?_eq_none (by left)]at hy;cases hy
   rw[hN,Nat.zero_add,List.getElem?_append_left (by simpa using hj),List.getElem?_map,hy];rfl)
  obtain⟨h1,h2,h3⟩:=this;refine⟨_,BS QF h1 h2 h3,λF' R' v d σ' ka Q ρb ρ1 Si rp ho e hq=>?_⟩;cases d<;>try (simp[bQ]at e;done)
  rename_i ds;simp only[bQ]at e;split at e
  ·cases e
  ·cases rp with
   | @tup _ a ys _ hp rs =>
    rw[List.length_map]at e;have e':iy (List.range' 0 xs.length) ds ρb=ok ρ1:=by rw[<- List.range_eq_range'];exact e
    refine⟨a,ys,rfl,hp,?_,nQ (X:=eu X (cq (.Tuple (xs.map λx=>Expr.Name x.1 x.2) kk p)++gz S caps) sc cl C s₂ H2 fp) σ' n (by left) rs Si e' rfl (λ_ _=>rfl) hq⟩;rw[rs.length];have:∀(is:aQ) (ds:aa) (ρ ρ':aX),iy is ds ρ=ok ρ'->ds.length=is.length:=by
     intro is;induction is with
     |nil=>intro ds ρ ρ' e;cases ds with|nil=>rfl|cons _ _=>cases e
     |cons i is ih=>intro ds ρ ρ' e;cases ds with
      |nil=>cases e
      |cons d ds =>
       change (if _ then _ else _)=_ at e;split at e
       ·simp[ih ds _ _ e]
       ·cases e
    rw[this _ _ _ _ e',List.length_range']
theorem Xt:∀f:Fl,dF (a_ f)=false:=by intro f;cases f<;>rfl
mutual
theorem FK:∀d:D,ba dF (aY a_ d)=false
 |.bu=>by simp[aY,ba]
 |.bl _=>by simp[aY,ba]
 |.int _=>by simp[aY,ba]
 |.tup ds=>by simp[aY,ba,gM ds]
 |.lst f ds=>by simp[aY,ba,gM ds,Xt]
 |.cJ f ks vs=>by simp[aY,ba,gM vs,Xt]
theorem gM:∀ds:aa,aR dF (aC a_ ds)=false
 |[]=>by simp[aC,aR]
 |d::ds=>by simp[aC,aR,FK d,gM ds]
end
theorem yr{w:World}{h:Heap}{a:Addr}{o:HO}(x:jb P w H h)(hn:H a=none)(new:cM P w (upd H a o) h a o):jb P w (upd H a o) h:=λb u e=>by
 by_cases hb:b=a
 ·subst hb;rw[bj]at e;cases e;exact new
 ·rw[aS hb]at e;exact(x b u e).iJ (λc v _ q=>q) (λc q=>by rw[aS (cg q hn)];exact q) λc xs q=>by rw[aS (cg q hn)];exact q
structure CAt(X X':Cx)(F' R':aj)(n:Nat)(base:aX)(σ0:St)(fp:aW)(tn:Nat->Heap->Prop)(H2:Hp)(D:Addr)(items:List DI.D)(bind:DI.D->O aX)(test:aX->O Bool)(el:aX->O DI.D)(all:List DI.D)(m:Nat)(s':Shared):Prop where
 ex:∃(i:Nat) (vs:af) (aN:ao) (nn:Nat) (σ':St) (H':Hp) (dn rest:List DI.D),m=items.length - i/\i<=items.length/\Inv X' [(D,eT aN nn)] σ' H' s'/\tn i s'.heap/\(∀b∈fp,H' b=none)/\Vals vs aN/\aM H2 H' /\
  SI X' F' R' (λ_=>none) base σ' H'/\cy X.K (gP X' F') R' (λ_=>none) [] H2 H' vs dn/\iF bind test el (items.drop i)=ok rest/\dn++rest=all
end
theorem cy.go(h:cy K G R τ fv H H1 vs ds)(e:aM H1 H2):cy K G R τ fv H H2 vs ds :=
 let ⟨τt,h1,h2⟩:=h;⟨τt,h1,h2.imp (λ_ _ h=>bh.same e h) λ_ _ _ _ h=>nd.same e h⟩
theorem nZ:∀{ds:aa} {d:D},aR dF ds=false->d∈ds->ba dF d=false
 |[],_,_,h=>nomatch h
 |e::ds,d,h,hm=>by
  rw[aR,Bool.or_eq_false_iff]at h;rcases List.mem_cons.mp hm with rfl|z
  ·exact h.1
  ·exact nZ h.2 z
theorem zt{d:D}(h:kv d=ok items):∀d∈items,ba dF d=false:=by
 unfold kv at h;split at h
 ·cases h;exact λd hd=>nZ (gM _) hd
 ·cases h
theorem wo{ik:IK}{xs:aa}(h:dX Φ ik xs=ok items):∀d∈items,ba dF d=false:=by
 cases ik with
 |dj p=>obtain⟨d,_,h⟩:=aJ h;exact zt h
 |iz =>
  cases xs with
  |nil=>cases h
  |cons x t=>cases x<;>first | (cases h;done) | (cases t with
   |cons _ _=>cases h
   |nil =>
    obtain⟨_,h⟩:=pv h;subst h;intro d hd;obtain⟨k,_,rfl⟩:=List.mem_map.mp hd;rfl)
 |kA =>
  cases xs with
  |nil=>cases h
  |cons x t=>cases x<;>first | (cases h;done) | (cases t with
   |nil=>cases h
   |cons y u=>cases y<;>first | (cases h;done) | (cases u with
    |cons _ _=>cases h
    |nil =>
     obtain⟨_,h⟩:=pv h;subst h;intro d hd;obtain⟨k,_,rfl⟩:=List.mem_map.mp hd;rfl))
 |seq =>
  cases xs with
  |nil=>cases h
  |cons x t=>cases x<;>first | (cases h;done) | (cases t with
   |cons _ _=>cases h
   |nil=>cases h;exact λd hd=>nZ (gM _) hd)
theorem wt{n:Nat}{i:Nat}{d:D}(h:(bE n caps ρ)[i]?=some (some d)):n<=i:=by
 unfold bE at h;by_cases hn:i<n
 ·rw[List.getElem?_append_left (by simpa using hn),List.getElem?_replicate,if_pos hn]at h;cases h
 ·left
variable {c' elt:CE}{bP cs es:aF}
section
variable {X:Cx}{S:Sx}{k:Nat}{F:aj}{Φ:aT}
theorem Cr{n:Nat}{t:Tg}{sc:Scope}{cl:List (Str×Addr)}(L:Lk X S k Φ)(co:j_ S n t caps target sc):
  Lk (eu X (cq target++gz S caps) sc cl C s₂ H2 fp) (S.inner target caps sc) k Φ:=by
 refine⟨?_,rfl,co.nd,L.calm,L.room,L.bl,λf x h=>⟨(L.fn f x h).ex⟩,L.cs,L.pr⟩;show relabel sc X.env=t6 sc S.sc;rw[<- L.sc];rfl
theorem uW(L:Lk X S k Φ){n:Nat}{t:Tg}{ik:IK}{ifs:aA}{sc:Scope}(co:j_ S n t caps target sc)(AF:ql iter=true)
    (hE:∀(X':Cx) (F':aj),Lk X' (S.inner target caps sc) k Φ->PE X' jy (tD X' F' Φ elt))
    (hC:(bP=[]/\ifs=[])\/∃c e,bP=[c]/\ifs=[e]/\∀(X':Cx) (F':aj),Lk X' (S.inner target caps sc) k Φ->PT X' e (iw X' F' Φ c))
    (hI:∀(pins:ak) (s:Shared) (σ:St) (H:Hp) (R:aj) (τ:Addr->Option bt) (ρ:aX) (xs items:aa),Inv X pins σ H s->SI X F R τ ρ σ H->bX Φ es ρ=ok xs->dX Φ ik xs=ok items->∀Rr:It->Hp->Prop,
      (∀J H2,aM H H2->Yl X.K J (kz X F τ (caps++cU es) H2) H2 items->Rr J H2)->wpAny (model X.prog X.w) X.A (eval iter X.env) (λv s1=>wpAny (model X.prog X.w) X.A (pyIter v) (Aw X pins σ target Rr) X.xe s1) X.xe s)
    {use:Option (Value->Sem Unit)} {Post:aB} {pins:ak} {s:Shared} {d:D} {Wl:Pos} (I:Inv X pins σ H s) (Si:SI X F R τ ρ σ H) (ev:bx Φ (.comp n t caps ik es bP elt) ρ=ok d)
    (Qi:∀(acc C:Addr) (H1:Hp) (s1:Shared) (m:aU),s1.heap.Ns C m->(C≠X.env.locals/\X.s₀.heap.objs.size<=C/\(∀x c,X.env.cells.lookup x=some c->c≠C)/\(∀p∈X.pn++pins,p.1≠C)/\H1 C=none)->(∀h',Heap.SameBut C s1.heap h'->Inv X pins σ H1 { s1 with heap:=h' })->aM H H1 ->
      ck X.K (gP X F) R τ (iN (.comp n t caps ik es bP elt)) H H1 (.ref acc) d->compPost (model X.prog X.w) X.A X.xe use Post (.ref acc) C (.ok .next) s1) :
    wpAny (model X.prog X.w) X.A (comprehension (.ListComp jy [⟨target,iter,ifs,0⟩] sc pos) sc X.env Wl (newList []) false (eval iter X.env) use) Post X.xe s:=by
  obtain⟨xs,cO,ev⟩:=aJ ev;obtain⟨items,m6,ev⟩:=aJ ev;obtain⟨ds,Ml,ev⟩:=aJ ev;simp only[HY]at ev;obtain⟨kM,rfl⟩:=ev;have Qp:=wo m6;obtain⟨cl,QE,mG,wA⟩:=wU (env:=X.env) (sc:=sc) (λx hx=>I.ok.has x (by
    show X.env.scope.names.lookup x=some .cell\/X.env.scope.names.lookup x=some .free;rw[L.sc];exact co.free x hx))
  have fO:∀x,foldedSetIterable iter X.env x=pure x:=by intro x;cases iter<;>first|rfl | (cases AF;done)
  refine wpAny_comprehension_free (use:=use) rfl fO QE co.kind co.loc (aau (hI pins s σ H R τ ρ xs items I Si cO m6 (λJ H2=>aM H H2/\Yl X.K J (kz X F τ (caps++cU es) H2) H2 items) (λJ H2 e y=>⟨e,y⟩)) (λxv s₁ h₁=>aau h₁ (λU5 s₂ h₂=>?_) λ_ _ e=>e) λ_ _ e=>e);obtain⟨it,fp,tn,J,H2,rfl,I2,T,Ou,f2,e2,yl⟩:=h₂;have pY:=Si.go e2;have Li:∀b∈fp,b<s₂.heap.objs.size:=λb hb=>let ⟨o,ho,_⟩:=T.obj 0 _ Ou b hb;aae ho;refine abc (wpAny_newFunctionEnv co.Cb (by intro y hy;simp at hy) (λh₁ rO oA=>?_) co.kind);dsimp only at rO oA ⊢;generalize VY:s₂.heap.push { cls:=.type "list",dict:=none,data:=.seq ([]:ao).toArray }=G2 at rO oA ⊢;have Yp:G2.objs.size=s₂.heap.objs.size+1:=by rw[<- VY,Heap.size_push]
  have SA:s₂.heap.objs.size≠s₂.heap.objs.size+1:=aak (aa5 _);rw[Yp]at rO oA;have old:∀b o,s₂.heap.get? b=some o->h₁.get? b=some o:=λb o e=>oA.extBut b o (aak (aaA (aae e))) (aah _ (VY▸aah _ e));have fg:h₁.get? s₂.heap.objs.size=some (eT [] 0):=oA.extBut _ _ SA (aah _ (VY▸aam _ rfl))
  let X':=eu X (cq target++gz S caps) sc cl (s₂.heap.objs.size+1) s₂ H2 fp
  let F':=jX (gP X F) τ (caps++cU es)
  let R':=kz X F τ (caps++cU es) H2
  have L':Lk X' (S.inner target caps sc) k Φ:=Cr L co;have I4:=λtk=>CF (h₁:=h₁) (tk:=tk) L co I2 mG wA f2 Li (by simpa using rO) old fg;have S4:SI X' F' R' (λ_=>none) (bE n caps ρ) (pJ n caps σ) H2:=Bn (t:=t) pY (λi hi=>by simp[hi]);obtain⟨g,hg,pw⟩:=Jh (X:=X) (S:=S) (cl:=cl) (fp:=fp) (s₂:=s₂) (H2:=H2) (C:=s₂.heap.objs.size+1) L.calm co;have VZ:s₂.heap.objs.size∉X'.fs:=λz=>by
    rcases List.mem_cons.mp (I2.jJ _ z)with w|w
    · exact absurd w (aaw I2.lt)
    · exact I2.Kl (aaj _) w
  have Ll:∀x c,cl.lookup x=some c->c≠s₂.heap.objs.size:=λx c e=>by
    obtain⟨v,q⟩:=I2.cell x c (mG x c e);exact aak q.lt
  have Gb:∀b∈fp,b≠X'.env.locals/\b∉X'.fs/\(b∈X'.ex\/X'.s₀.heap.objs.size<=b)/\(∀x c,X'.env.cells.lookup x=some c->c≠b):=λb hb =>
    ⟨aak (aaA (Li b hb)),λz=>by
      rcases List.mem_cons.mp (I2.jJ b z)with w|w
      · exact(f2 b hb).2.1 w
      · exact(f2 b hb).2.2.1 w,.inl hb,λx c e=>(f2 b hb).2.2.2.2.1 x c (mG x c e)⟩
  have Qv:∀b∈fp,b≠s₂.heap.objs.size:=λb hb=>aak (Li b hb);have fin:∀(vs:af) (aN:ao) (nn:Nat) (σ':St) (H':Hp) (s1:Shared),Inv X' [(s₂.heap.objs.size,eT aN nn)] σ' H' s1->Vals vs aN->aM H2 H'->cy X.K (gP X' F') R' (λ_=>none) [] H2 H' vs ds ->
      compPost (model X.prog X.w) X.A X.xe use Post (.ref s₂.heap.objs.size) (s₂.heap.objs.size+1) (.ok .next) s1:=by
    intro vs aN nn σ' H' s1 I1 rv sm Bz;obtain⟨m,hn,_⟩:=I1.loc;obtain⟨pD,nD,_,_,_⟩:=I1.pin (s₂.heap.objs.size,eT aN nn) (aal _ aaf);have bs:=I1.base;have HQ:∀b o,s₂.heap.get? b=some o->b≠s₂.heap.objs.size+1:=λb o e=>aak (aaA (aae e));have Z2:∀b o,s₂.heap.get? b=some o->b≠s₂.heap.objs.size:=λb o e=>aak (aae e);have Tq:∀b u,H' b=some u->upd H' s₂.heap.objs.size (.lst vs) b=some u:=λb u e=>by rw[aS (cg e nD)];exact e
    have hlen:vs.length<=sizeLine:=by
      obtain⟨_,_,rr⟩:=Bz;have hz:sizeLine=16777216:=aaU;have hc:cL=1000000:=rfl;rw[rr.length];left
    have IX:∀h',Heap.SameBut (s₂.heap.objs.size+1) s1.heap h'->Inv X pins σ (upd H' s₂.heap.objs.size (.lst vs)) { s1 with heap:=h' }:=λh' CL=>by
      have un:Un (lJ X.stack) fp H2 (upd H' s₂.heap.objs.size (.lst vs)) s₂.heap h' :=
        ⟨λb o e n hb hx=>CL.extBut b o (HQ b o e) (bs.keep b o e n hb hx),
         λb o e n hb hx=>let ⟨sl,q⟩:=bs.slot b o e n hb hx;⟨sl,CL.extBut b _ (HQ b o e) q⟩,
         λb o e n hx=>by rw[aS (Z2 b o e)];exact bs.free b o e n hx,
         λb o e hx=>let ⟨o',q⟩:=bs.there b o e hx;⟨o',CL.extBut b _ (HQ b o e) q⟩,
         λb xs e=>Tq b _ (bs.lq b xs e),λb o u e=>Tq b _ (bs.kR b o u e),λb ps e=>let ⟨more,q⟩:=bs.lr b ps e;⟨more,Tq b _ q⟩⟩
      have Vy:jb X.prog X.w H' h':=λa o e=>(I1.cm a o e).iJ (λb u hb q=>CL.extBut b u (by
        rintro rfl;have hf:H' (s₂.heap.objs.size+1)=none:=I1.free;rcases hb with z|z
        · rw[<- z,hf]at e;cases e
        · rw[hf]at z;cases z) q) (λ_ q=>q) λ_ _ q=>q
      have Vx:jb X.prog X.w (upd H' s₂.heap.objs.size (.lst vs)) h':=yr Vy nD ⟨hlen,aN,nn,rv,CL.extBut _ _ SA pD⟩;exact I2.qH (ch:=fp) I1.os un Vx I1.bare λb hb=>⟨(f2 b hb).2.2.2.1,(f2 b hb).2.1,(f2 b hb).2.2.2.2.1,(f2 b hb).2.2.2.2.2⟩
    have eS:aM H' (upd H' s₂.heap.objs.size (.lst vs)):=aM.upd nD;obtain⟨τt,fr,rs⟩:=Bz;have UQ:s₂.heap.objs.size+1≠s₂.heap.objs.size:=Nat.succ_ne_self _;refine Qi s₂.heap.objs.size (s₂.heap.objs.size+1) _ s1 m hn ⟨aaw (aaA I2.lt),ab8 I2.sz,λx c e=>?_,λp hp=>?_,?_⟩ IX ((e2.trans sm).trans eS) ⟨λq=>if q=s₂.heap.objs.size then some []else τt q,λq z hz=>?_,.lst ⟨bj,by simp⟩ (aI.map (q:=[]) (q':=[]) (λ_ _ h=>bh.same eS h) (λc p ys f h=>?_) rs [] rfl)⟩
    · obtain⟨v,z⟩:=I2.cell x c e
      exact aak (aaA z.lt)
    · exact aak (aaA (aae (I2.pin p hp).1))
    · rw[aS UQ];exact I1.free
    · by_cases wx:q=s₂.heap.objs.size
      · rw[wx];exact e2.free (sm.free nD)
      · simp only[wx,if_false]at hz;exact e2.free (fr q z hz)
    · have h':=nd.same eS h
      have W4:∀p,gP X' F' p->jX (gP X F) τ (caps++cU es) p:=λp hp=>hp.elim id λz=>⟨.inr (pY.same.free z),λc i e=>absurd z (pY.th p _ e)⟩
      cases f with
      |ow =>
        have wx:p≠s₂.heap.objs.size:=by
          intro z;subst z;exact h.1.ne nD
        refine⟨h'.1,?_⟩;show(if p=s₂.heap.objs.size then some []else τt p)=_;rw[if_neg wx];exact h'.2
      |fz=>exact⟨h'.1,h'.2.2⟩
      |al=>exact⟨h'.1,W4 p h'.2.1⟩
      |sc=>exact h'
  have Zf:∀(P:ak) (ρ1:aX) (b:Bool) (σ2:St) (H5:Hp) (s6:Shared),iD Φ bP ρ1=ok b->Inv X' P σ2 H5 s6->SI X' F' R' (λ_=>none) ρ1 σ2 H5 ->
      wpAny (model X.prog X.w) X.A (forIn ifs true λc r=>if r=true then do let ok <- isTrue c X'.env (eval c X'.env);pure (ForInStep.yield ok)else pure (ForInStep.yield r)) (λUJ s7=>UJ=b/\∃H7,Inv X' P σ2 H7 s7/\aM H5 H7) (λ_ _=>False) s6:=by
    intro P ρ1 b σ2 H5 s6 eb I6 S6;rcases hC with ⟨rfl,rfl⟩|⟨c,e,rfl,rfl,hPT⟩
    · rw[iD]at eb;cases eb
      exact wpAny_tests_nil ⟨rfl,H5,I6,aM.refl _⟩
    · rw[iD]at eb
      obtain⟨b',eb',eb⟩:=aJ eb;have hb:b'=b:=by
        cases b' with
        |true=>rw[if_pos rfl,iD]at eb;cases eb;rfl
        |false=>rw[if_neg (by simp)]at eb;cases eb;rfl
      subst hb;refine wpAny_tests_one (aau (hPT X' F' L' P s6 σ2 H5 (λYR H7=>YR=b'/\aM H5 H7) I6 ⟨R',_,ρ1,b',S6,eb',λH7 e7=>⟨rfl,e7⟩⟩) (λYR s7 ⟨H7,I7,hb,e7⟩=>⟨hb,H7,I7,e7⟩) λ_ _ e=>e)
  have loop:∀tk,codeAny (model X.prog X.w) X.A (.compLoop (.ListComp jy [⟨target,iter,ifs,0⟩] sc pos) 0 (.ref it) (.ref s₂.heap.objs.size) X'.env)
      (compPost (model X.prog X.w) X.A X.xe use Post (.ref s₂.heap.objs.size) (s₂.heap.objs.size+1)) { s₂ with heap:=h₁,toks:=tk }:=by
    intro tk;refine sf (CAt X X' F' R' n (bE n caps ρ) (pJ n caps σ) fp tn H2 s₂.heap.objs.size items (λd=>bQ t d (bE n caps ρ)) (λρ'=>iD Φ bP ρ') (λρ'=>bx Φ elt ρ') ds) ?_ items.length
      ⟨0,[],[],0,pJ n caps σ,H2,[],ds,rfl,aaC _,I4 tk,T.keep _ _ _ Ou (λb _ o e=>old b o e),λb hb=>(f2 b hb).1,.nil,aM.refl _,S4,.nil,by rw[List.drop_zero];exact Ml,rfl⟩
    rintro m s' ⟨i,vs,aN,nn,σ',H',dn,rest,hm,hi,I',mw,fr',rv,sm,dQ,Bz,fQ,eall⟩;have LI:∀b∈fp,ph X' [(s₂.heap.objs.size,eT aN nn)] H' b:=λb hb=>⟨fr' b hb,(Gb b hb).1,(Gb b hb).2.1,(Gb b hb).2.2.1,(Gb b hb).2.2.2,λp hp=>by
      have oB:p=(s₂.heap.objs.size,eT aN nn):=by simpa [X',eu]using hp
      rw[oB];exact(Qv b hb).symm⟩
    by_cases fZ:i<items.length
    · refine aau (T.item X' rfl rfl rfl L.calm i _ s' σ' H' (λ_ _=>False) I' LI mw (yl.go i H' sm fZ)) (λr s1 h4=>?_) λ_ _ e=>e
      obtain⟨u,hr,h4⟩:=h4;subst hr;refine aau h4 (λ_ s5 h5=>?_) λ_ _ e=>e;obtain⟨x,H5,I5,r5,y5,Jr,Wk⟩:=h5;obtain⟨e5,dd,hd,rd⟩:=yl.tj i H' x H5 sm fZ y5;have Xd:=I5.pinned (fp:=fp) (λb hb=>⟨Wk b hb,(LI b hb).2⟩) (T.obj _ _ Jr);have kL:items.drop i=dd::items.drop (i+1):=by
        rw[List.drop_eq_getElem_cons fZ];rw[List.getElem?_eq_getElem fZ]at hd;cases hd;rfl
      rw[kL,iF]at fQ;obtain⟨ρ1,eb,fQ⟩:=aJ fQ;obtain⟨bb,et,fQ⟩:=aJ fQ;refine aau (hg _ s5 σ' H5 x u (λσ2 H6=>H6=H5/\σ2.length=σ'.length/\(∀j,n<=j->σ2[j]?=σ'[j]?)/\SI X' F' R' (λ_=>none) ρ1 σ2 H5) Xd r5
        (pw F' R' x dd σ' H5 _ (bE n caps ρ) ρ1 (dQ.go e5) rd (Qp dd (aaq hd)) eb λσ2 g1 g2 g3=>⟨rfl,g1,g2,g3⟩)) (λ_ s6 h6=>?_) λ_ _ e=>e
      obtain⟨σ2,H6,I6,rfl,g1,g2,S6⟩:=h6;refine aau (Zf _ ρ1 bb σ2 H6 s6 et I6 S6) (λUJ s7 h7=>?_) λ_ _ e=>e;obtain⟨rfl,H7,I7,e7⟩:=h7;have Tw:∀{P:ak} {σ3:St} {H8:Hp} {s8:Shared},Inv X' (P++iT fp s5.heap) σ3 H8 s8->tn (i+1) s8.heap/\∀b∈fp,H8 b=none:=λ{P σ3 H8 s8} I8 =>
        ⟨T.keep _ _ _ Jr λb hb o e=>(I8.pin (b,o) (aal _ (aal _ (g_ hb e)))).1,λb hb=>by
          obtain⟨o,e,_⟩:=T.obj _ _ Jr b hb;exact(I8.pin (b,o) (aal _ (aal _ (g_ hb e)))).2.1⟩
      have IF:∀{H8:Hp},aM H7 H8->SI X' F' R' (λ_=>none) (bE n caps ρ) σ2 H8:=λ{H8} e8=>(dQ.go ((e5.trans e7).trans e8)).sig g1 λj d hj=>g2 j (wt hj);cases UJ with
      |false =>
        rw[if_neg (by simp)]at fQ ⊢;exact⟨items.length - (i+1),by left,i+1,vs,aN,nn,σ2,H7,dn,rest,rfl,fZ,I7.ki,(Tw I7).1,(Tw I7).2,rv,(sm.trans e5).trans e7,IF (aM.refl _),Bz.go (e5.trans e7),fQ,eall⟩
      |true =>
        rw[if_pos rfl]at fQ ⊢;obtain⟨y,ey,fQ⟩:=aJ fQ;obtain⟨ys,wJ,fQ⟩:=aJ fQ;cases fQ;refine aau (hE X' F' L' _ s7 σ2 H7 (λv H8=>aM H7 H8/\ck X.K (gP X' F') R' (λ_=>none) [] H7 H8 v y) I7 ⟨R',_,ρ1,y,S6.go e7,ey,λv H8 e8 r8=>⟨e8,?_⟩⟩) (λu8 s8 h8=>?_) λ_ _ e=>e
        · obtain⟨τt,fr,rr⟩:=r8
          exact⟨τt,fr,rr.imp (q:=[]) (q':=[]) (λ_ _ h=>h) λc p ys f h=>h.mono id (λh=>⟨h.1,λ_ _ e=>by cases e⟩) id⟩
        · obtain⟨v8,H8,I8,ZM,e8,r8⟩:=h8
          obtain⟨pD,nD,_,_,_⟩:=I8.pin (s₂.heap.objs.size,eT aN nn) (aal _ (aay _ aaf));have hlen:aN.length<=1000000:=by
            obtain⟨_,_,rr⟩:=Bz;have h1:dn.length<=ds.length:=by rw[<- eall,List.length_append];left
            have hc:cL=1000000:=rfl;rw[<- rv.length,rr.length];left
          have hz:sizeLine=16777216:=aaU;refine aa9 PySem.F.slot_list_append ⟨_,pD,rfl⟩ PySem.F.entry_list_append (PySem.F.args_list_append_2 _ _) (PySem.list_append s₂.heap.objs.size aN.toArray nn u8 (by rw[List.size_toArray];left)) ⟨pD,?_⟩;have q:=PySem.IsL.update pD (λx=>x.push u8);have Qg:aN.toArray.push u8=(aN++[u8]).toArray:=by simp
          rw[Qg]at q;obtain⟨Sk,q'⟩:∃Sk,(s8.heap.update s₂.heap.objs.size (Obj.mapSeq λx=>x.push u8)).get? s₂.heap.objs.size=some (eT (aN++[u8]) Sk):=⟨_,q⟩
          have I8d:Inv X' (iT fp s5.heap) σ2 H8 s8:=I8.jm λp hp=>I8.pin p (aal _ (aal _ hp));have YW:Inv X' (iT fp s5.heap) σ2 H8 { s8 with heap:=s8.heap.update s₂.heap.objs.size (Obj.mapSeq λx=>x.push u8),toks:=s8.toks } :=
            I8d.turned (it:=s₂.heap.objs.size) (λb o hb e=>(aaE s8.heap (Obj.mapSeq λx=>x.push u8) (abw hb)).trans e) nD SA (.inr (aaj _)) Ll λp hp=>by
              have oB:p∈iT fp s5.heap:=by simpa [X',eu]using hp
              exact Qv p.1 (qk oB).1
          have kp:=Tw (P:=[]) (by rw[List.nil_append];exact YW);refine⟨items.length - (i+1),by left,i+1,vs++[v8],aN++[u8],Sk,σ2,H8,dn++[y],ys,rfl,fZ,YW.jm (λp hp=>?_),kp.1,kp.2,rv.append (.cons ZM .nil),((sm.trans e5).trans e7).trans e8,IF e8,cy.snoc ((sm.trans e5).trans e7) e8 (Bz.go (e5.trans e7)) r8,wJ,by rw[List.append_assoc];exact eall⟩;have oB:p=(s₂.heap.objs.size,eT (aN++[u8]) Sk):=by simpa using hp
          rw[oB];exact⟨q',nD,SA,VZ,λv z=>by cases z⟩
    · refine aau (T.done X' rfl rfl rfl L.calm i _ s' σ' H' (λ_ _=>False) I' LI mw (yl.stop i H' sm (by left))) (λr s1 h1=>?_) λ_ _ e=>e
      obtain⟨hr,I1⟩:=h1;subst hr;have VC:items.drop i=[]:=List.drop_eq_nil_of_le (by left);rw[VC,iF]at fQ;cases fQ;rw[List.append_nil]at eall;subst eall;exact fin vs aN nn σ' H' s1 I1 rv sm Bz
  have key:=λtk=>codeAny_compStart_list (loop tk) (T.self X.A 0 _ _ _ (T.keep _ _ _ Ou λb _ o e=>old b o e) (loop tk));rw[Yp];exact key _
theorem EW(L:Lk X S k Φ){n:Nat}{t:Tg}{ik:IK}{ifs:aA}{sc:Scope}(co:j_ S n t caps target sc)(AF:ql iter=true)
  (hE:∀(X':Cx) (F':aj),Lk X' (S.inner target caps sc) k Φ->PE X' jy (tD X' F' Φ elt))
  (hC:(bP=[]/\ifs=[])\/∃c e,bP=[c]/\ifs=[e]/\∀(X':Cx) (F':aj),Lk X' (S.inner target caps sc) k Φ->PT X' e (iw X' F' Φ c))
  (hI:∀(pins:ak) (s:Shared) (σ:St) (H:Hp) (R:aj) (τ:Addr->Option bt) (ρ:aX) (xs items:aa),Inv X pins σ H s->SI X F R τ ρ σ H->bX Φ es ρ=ok xs->dX Φ ik xs=ok items->∀Rr:It->Hp->Prop,
   (∀J H2,aM H H2->Yl X.K J (kz X F τ (caps++cU es) H2) H2 items->Rr J H2)->wpAny (model X.prog X.w) X.A (eval iter X.env) (λv s1=>wpAny (model X.prog X.w) X.A (pyIter v) (Aw X pins σ target Rr) X.xe s1) X.xe s) :
  PE X (.ListComp jy [⟨target,iter,ifs,0⟩] sc pos) (tD X F Φ (.comp n t caps ik es bP elt)):=by
 intro pins s σ H Q I hq;obtain⟨R,τ,ρ,d,Si,ev,hq⟩:=hq;rw[eval_ListComp];refine uW L co AF hE hC hI (use:=none) (Post:=EP X pins σ Q) I Si ev λacc C H1 s1 m hn _ IX sm rt=>?_;exact⟨m,hn,λh' CL=>⟨.ref acc,H1,IX h' CL,rfl,hq _ _ sm rt⟩⟩
end
section
variable {X:Cx}{pins:ak}{s:Shared}{σ:L2.St}{H:Hp}
theorem uu{A:aK}{E:aB}{l:Addr}{items:aV}{w:World}{Q:aB}{s:Shared}(hl:s.heap.IsList l items)
  (h:∀s₂:Shared,s₂={ s with heap:=s.heap.push { cls:=.type "list_iterator",data:=.fields #[.ref l,.int 0 0] } }->s₂.heap.IsListIter s.heap.objs.size l 0/\s₂.heap.IsList l items->(∀b∈[s.heap.objs.size,l],b<s₂.heap.objs.size)->l≠s.heap.objs.size->Q (.ref s.heap.objs.size) s₂) :
  wpAny (model prog w) A (pyIter (.ref l)) Q E s:=by
 have fZ:l<s.heap.objs.size:=by obtain⟨_,e,_⟩:=hl;exact aae e
 refine wpAny_pyIter_list hl (h _ rfl ⟨⟨_,aam _ rfl,rfl,rfl⟩,hl.push _⟩ (λb hb=>?_) (aak fZ));have hz:(s.heap.push { cls:=.type "list_iterator",data:=.fields #[.ref l,.int 0 0] }).objs.size=s.heap.objs.size+1:=Heap.size_push ..;have pz:b=s.heap.objs.size\/b=l:=by simpa using hb
 show b<_;rw[hz];rcases pz with e|e
 ·rw[e];exact aa5 _
 ·rw[e];exact aaA fZ
theorem uq{o₀:Obj}{s:Shared}(hk:∀b o,b∉[s.heap.objs.size]->(s.heap.push o₀).get? b=some o->h'.get? b=some o):∀b o,s.heap.get? b=some o->h'.get? b=some o:=λb o e =>
 hk b o (λhm=>absurd ((by simpa using hm:b=s.heap.objs.size)▸aae e) (aax _)) (aah _ e)
theorem eH{h:Heap}{a:Addr}{aN:aV}(p:PlainL h a aN):h.IsList a aN:=let ⟨o,n,h1,h2,_,h4⟩:=p;⟨o,h1,h2,n,h4⟩
theorem l9(val:Nat->Int)(ns:ae)(hv:∀i,val i=ns.getD i 0):∀k,k<=ns.length->preSum val k=(ns.take k).sum
 |0,_=>by simp[preSum]
 |k+1,h=>by
  have hk:k<ns.length:=by left
  rw[preSum,l9 val ns hv k (by left),hv k,List.take_add_one,List.sum_append];simp[List.getD,hk]
theorem Am(hc:X.calm=true):fX X (.builtin "sum") (λxs H Q=>∃(p:Addr) (ns:ae),xs=[.ref p]/\dz X.K H p (ns.map V.int)/\Q (.int ns.sum) H):=by
 intro pins s σ H xs us Q I r h;obtain⟨p,ns,rfl,hq,q⟩:=h;obtain⟨u,rfl,ru⟩:=r.one;cases ru;obtain⟨aN,rv,pl,hz⟩:=I.list hq;have hlen:aN.length=ns.length:=by have:=rv.length;simpa using this.symm
 refine call_sum_walkG (uu (eH pl) λs₂ e st Gd VJ=>?_);subst e;refine⟨_,_,_,_,_,_,λi=>ns.getD i 0,rfl,Walks.list (A:=X.A.in1) (I.ok.hd hc) _ p VJ aN.toArray,st,Gd,λi v hP=>?_,λh' tk t' hk=>?_⟩
 ·have hv:aN[i]?=some v:=by simpa using hP
  have hi:i<aN.length:=by
   by_cases z:i<aN.length
   ·exact z
   ·rw[List.getElem?_eq_none (by left)]at hv;cases hv
  have hn:(ns.map V.int)[i]?=some (.int (ns.getD i 0)):=by
   rw[List.getElem?_map,List.getElem?_eq_getElem (by left)];simp[List.getD,show i<ns.length by left]
  obtain⟨u,hu,ru⟩:=rv.get hn;rw[hv]at hu;cases hu;exact ru
 ·refine⟨.int ns.sum,H,I.kept (t':=tk) (uq hk),⟨t',?_⟩,q⟩;have hz:preSum (λi=>ns.getD i 0) aN.toArray.size=ns.sum:=by
   rw[List.size_toArray,hlen,l9 _ ns (λ_=>rfl) _ (Nat.le_refl _),List.take_length]
  rw[hz]
theorem range_all{α:Type}(l:List α)(f:α->Bool)(tr:Nat->Bool)(h:∀i a,l[i]?=some a->tr i=f a):(List.range l.length).all tr=l.all f:=by
 rw[Bool.eq_iff_iff,List.all_eq_true,List.all_eq_true];constructor
 ·intro z a ha;obtain⟨i,hi,e⟩:=List.mem_iff_getElem.mp ha;have:=z i (List.mem_range.mpr hi);rw[h i a (by rw[List.getElem?_eq_getElem hi,e])]at this;exact this
 ·intro z i hi;have hi:=List.mem_range.mp hi;rw[h i l[i] (List.getElem?_eq_getElem hi)];exact z _ (abe hi)
theorem Ao(hc:X.calm=true):fX X (.builtin "all") (λxs H Q=>∃(p:Addr) (bs:List Bool),xs=[.ref p]/\dz X.K H p (bs.map V.bl)/\Q (.bl (bs.all id)) H):=by
 intro pins s σ H xs us Q I r h;obtain⟨p,bs,rfl,hq,q⟩:=h;obtain⟨u,rfl,ru⟩:=r.one;cases ru;obtain⟨aN,rv,pl,hz⟩:=I.list hq;have hlen:aN.length=bs.length:=by have:=rv.length;simpa using this.symm
 refine call_all_walk (uu (eH pl) λs₂ e st Gd VJ=>?_);subst e;refine⟨_,_,_,_,_,_,λi=>bs.getD i false,rfl,Walks.list (A:=X.A.in1) (I.ok.hd hc) _ p VJ aN.toArray,st,λi v s' Q' E' hP hQ=>?_,λh' tk hk=>?_⟩
 ·have hv:aN[i]?=some v:=by simpa using hP
  have hi:i<aN.length:=by
   by_cases z:i<aN.length
   ·exact z
   ·rw[List.getElem?_eq_none (by left)]at hv;cases hv
  have hn:(bs.map V.bl)[i]?=some (.bl (bs.getD i false)):=by
   rw[List.getElem?_map,List.getElem?_eq_getElem (by left)];simp[List.getD,show i<bs.length by left]
  obtain⟨u,hu,ru⟩:=rv.get hn;rw[hv]at hu;cases hu;cases ru;exact aaM hQ
 ·refine⟨.bl (bs.all id),H,I.kept (t':=tk) (uq hk),?_,q⟩;show Value.bool _=Value.bool _;rw[List.size_toArray,hlen,range_all bs id _ λi a e=>by simp[List.getD,e]]
end
variable {ns:ae}
section
variable {prog:aH}{w:World}{A:aK}{E:aB}{s:Shared}
theorem oU{l:Addr}{vs:ao}{Q:ao->Shared->Prop}{o:Obj}{n:Nat}(ho:s.heap.get? l=some o)(hc:o.cls=.type "tuple")(hd:o.data=.seq vs.toArray n)
  (h:Q vs { s with heap:=(s.heap.push (seqObj "list" #[] 0)).update s.heap.objs.size (Obj.mapSeq (· ++ vs.toArray)) }) (hsz:vs.length<=sizeLine):wpAny (model prog w) A (collect (.ref l)) Q E s:=by
 unfold collect;refine aaa (wpAny_runValue (aa_ entry_proto_collect' ?_));show wpAny _ _ (newList [] >>= λz=>again (.builtin "list.__iadd__" ⟨[z,.ref l],[]⟩)) _ _ s;refine aaa (ab6 (aag ⟨ab3 _ (by decide +kernel),aa_ entry_list_iadd' ?_⟩));have z1:(s.heap.push (seqObj "list" #[] 0)).get? l=some o:=aah _ ho;have z2:(s.heap.push (seqObj "list" #[] 0)).get? s.heap.objs.size=some (seqObj "list" #[] 0):=aam _ rfl;show wpAny _ _ (Builtin.List.listExtendWith (.ref s.heap.objs.size) (.ref l) (.ref s.heap.objs.size)) _ _ ({ s with heap:=s.heap.push (seqObj "list" #[] 0) }:Shared);unfold Builtin.List.listExtendWith;refine aaa (wpAny_typeOf (T:="tuple") ⟨o,z1,hc⟩ ?_);rw[aaQ (by rw[show(Value.type "tuple" == Value.type "tuple")=true from rfl,Bool.or_true])];refine aaa (listItems_at z1 hd (aaa (listItems_at z2 rfl ?_)));rw[if_neg (by simp)];refine aaa (listUpdate_at z2 rfl ?_ (aaC _) (by
  show(#[]++vs.toArray).size<=sizeLine+1;rw[Array.size_append,List.size_toArray];exact ab8 (by simpa using hsz)))
 refine aag ?_;show wpAny (model prog w) A (load s.heap.objs.size >>= λo=>match o.data with
   |.seq xs _=>pure xs.toList
   |_=>unsupported "internal:collect") Q E ({ s with heap:=(s.heap.push (seqObj "list" #[] 0)).update s.heap.objs.size (Obj.mapSeq (· ++ vs.toArray)) }:Shared)
 refine aaa (wpAny_load (get?_update_seq z2 _) ?_);show wpAny _ _ (pure ((#[]:aV)++vs.toArray).toList) Q E _;rw[show((#[]:aV)++vs.toArray).toList=vs by simp];exact aag h
theorem pH{l:Addr}{vs:ao}{Q:aB}{o:Obj}{n:Nat}(ho:s.heap.get? l=some o)(hc:o.cls=.type "tuple")(hd:o.data=.seq vs.toArray n)(hI:IntsAre vs ns)(sY:vs.length<64)
  (h:∀(out:aV) (lh:ae),IntsAre out.toList lh->lh.Perm ns->lh.Pairwise (· <= ·)->Q (.ref (s.heap.objs.size+1)) { s with heap:=sortedAll s.heap vs out }):wpAny (model prog w) A (call (.builtin "sorted") [.ref l]) Q E s:=by
 refine Calls.call_function_entry kind_sorted plain_sorted entry_sorted (args_sorted1 _) ?_;unfold Builtin.«sorted»;have hz:vs.length<=sizeLine:=by rw[sizeLine_eq];left
 refine aaa (m:=checkCount "sorted" 1 1 _) (aag (aaa (oU ho hc hd (aaa (ab6 ?_)) hz)));have e1:((s.heap.push (seqObj "list" #[] 0)).update s.heap.objs.size (Obj.mapSeq (· ++ vs.toArray))).objs.size=s.heap.objs.size+1:=by rw[Heap.size_update,size_push']
 have e2:(((s.heap.push (seqObj "list" #[] 0)).update s.heap.objs.size (Obj.mapSeq (· ++ vs.toArray))).push (seqObj "list" vs.toArray 0)).get? (s.heap.objs.size+1)=some (seqObj "list" vs.toArray 0):=by
  rw[<- e1];exact aam _ rfl
 show wpAny _ _ _ _ _ ({ s with heap:=((s.heap.push (seqObj "list" #[] 0)).update s.heap.objs.size (Obj.mapSeq (· ++ vs.toArray))).push (seqObj "list" vs.toArray 0) }:Shared);rw[e1];refine aaa (aaD (aaT slot_list_sort ⟨_,e2,rfl⟩ entry_list_sort (list_sort_tree e2 hI sY λout lh a1 a2 a3=>⟨_,rfl,aag ⟨_,rfl,h out lh a1 a2 a3⟩⟩) (args_list_sort _)))
end
theorem sortI_perm(ns:ae):(sortI ns).Perm ns:=aaR ..
theorem Bj(ns:ae):(sortI ns).Pairwise (· <= ·):=by
 have:=List.pairwise_mergeSort (le:=λa b:Int=>decide (a<=b)) (by intro a b c;simp;left) (by intro a b;simp;left) ns;unfold sortI;simpa using this
theorem dZ:∀{vs:ao} {ns:ae},Vals (ns.map V.int) vs->IntsAre vs ns
 |_,[],h=>by cases h;exact .nil
 |_,n::ns,h=>by
  cases h with
  |cons r t=>obtain⟨tk,rfl⟩:=r;exact .cons n tk (dZ t)
theorem so:fX X (.builtin "sorted") (λxs H Q=>∃(p:Addr) (ns:ae),xs=[.ref p]/\(dz X.K H p (ns.map V.int)\/bh X.K H p (ns.map V.int))/\ns.length<64/\∀l,H l=none->Q (.ref l) (upd H l (.lst ((sortI ns).map V.int)))):=by
 intro pins s σ H xs us Q I r h;obtain⟨p,ns,rfl,hq,sY,q⟩:=h;obtain⟨u,rfl,ru⟩:=r.one;cases ru;have fin:∀(vs:ao) (out:aV) (lh:ae),IntsAre out.toList lh->lh.Perm ns->lh.Pairwise (· <= ·)->EP X pins σ Q (.ref (s.heap.objs.size+1)) { s with heap:=sortedAll s.heap vs out }:=by
  intro vs out lh h1 h2 h3;obtain rfl:lh=sortI ns:=PySem.W.ksm_same (h2.trans (sortI_perm ns).symm) h3 (Bj ns);obtain⟨e,he⟩:=sortedAll_at s.heap vs out;have hn:H (s.heap.objs.size+1)=none:=I.cm.fresh (ab1 _);refine⟨.ref (s.heap.objs.size+1),upd H (s.heap.objs.size+1) (.lst ((sortI ns).map V.int)),I.laid (t':=s.toks) (λb u z=>sortedAll_old z) (ab1 _) ⟨?_,out.toList,e,lp h1,by simpa using he⟩,rfl,q _ hn⟩;rw[List.length_map,(sortI_perm ns).length_eq,sizeLine_eq];left
 rcases hq with hq|hq
 ·obtain⟨aN,rv,pl,hz⟩:=I.list hq;have hl:aN.length<64:=by rw[<- rv.length];simpa using sY
  exact sorted_ints (eH pl) (dZ rv) hl λout lh h1 h2 h3=>fin aN out lh h1 h2 h3
 ·obtain⟨aN,rv,⟨o,ho,hc,n,hd⟩,hz⟩:=I.tuple hq;have hl:aN.length<64:=by rw[<- rv.length];simpa using sY
  exact pH ho hc hd (dZ rv) hl λout lh h1 h2 h3=>fin aN out lh h1 h2 h3
theorem A1:isSubtype (.type "tuple") (.type "set")=pure false:=by rw[isSubtype_type];kernel_rfl
theorem tF:isSubtype (.type "tuple") (.type "frozenset")=pure false:=by rw[isSubtype_type];kernel_rfl
noncomputable abbrev my(led:Bool):Obj:={ cls:=.type "set",dict:=none,data:=.set #[] 0 (.fresh 0 0 led) }
noncomputable abbrev dist(ns:ae):ae:=firstMet (λi=>ns.getD i 0) ns.length
section
variable {prog:aH}{w:World}{A:aK}{E:aB}{s:Shared}
theorem vP{l:Addr}{aN:ao}{Q:aB}(hh:A.handled=none)(hl:s.heap.IsTuple l aN.toArray)(hi:IntsAre aN ns)(hb:aN.length+1<scanBound)
  (h:∀(h':Heap) (tk:Nat),h'.SetOf (intKind prog w) s.heap.objs.size (λk=>(dist ns).any (· == k)) (dist ns).length->(∀b o,b<s.heap.objs.size->s.heap.get? b=some o->h'.get? b=some o)->Q (.ref s.heap.objs.size) { s with heap:=h',toks:=tk }) :
  wpAny (model prog w) A (call (.type "set") [.ref l]) Q E s:=by
 have hnl:aN.length=ns.length:=hi.length;obtain⟨c,tl,k1⟩:=F.called_set.mro;have k2:=F.called_set.made;have k3:=F.called_set.sub;have k4:=F.called_set.notType;have k5:=F.called_set.canCreate;have k6:=F.typeCall_set_1 (.ref l);refine wpAny_call (codeAny_of_tree (show wpAny _ _ (callAny (.type "set") _) _ _ _ from aag ⟨ab3 _ (by decide +kernel),aa_ F.entry_type_call ?_⟩));rw[Around.under_plain (weight_type_call_type "set" [.ref l] []) rfl]
 repeat (any_goals (first|assumption|wp_step))
 refine abo (code_set_new_1 (.ref l) (E:=E) (Q₁:=λz s₁=>∃led:Bool,z=.ref s.heap.objs.size/\s₁={ s with heap:=s.heap.push (my led) }) λled=>⟨led,rfl,rfl⟩) λr s₁ hr=>?_;cases r with
 |error e=>exact hr
 |ok fl =>
  cases fl with
  |next=>exact hr.elim
  |brk=>exact hr.elim
  |cont=>exact hr.elim
  |ret z =>
   obtain⟨led,rfl,rfl⟩:=hr;have g1:(s.heap.push (my led)).get? s.heap.objs.size=some (my led):=aam _ rfl;have g2:Shared.TypeIs { s with heap:=s.heap.push (my led) } (.ref s.heap.objs.size) "set":=⟨_,g1,rfl⟩
   have g3:=F.called_set.init.lookup;have g4:=F.called_set.init.bind (.ref s.heap.objs.size)
   repeat (any_goals (first|assumption|wp_step))
   refine abo (abT (R:=wants (λr s₂=>r=.none/\∃h' tk,s₂={ s with heap:=h',toks:=tk }/\h'.SetOf (intKind prog w) s.heap.objs.size (λk=>(dist ns).any (· == k)) (dist ns).length/\∀b o,b<s.heap.objs.size->s.heap.get? b=some o->h'.get? b=some o) E) F.called_set.init.plain F.entry_set_init (check_set_init_1 g2 ?_)) λr₂ s₂ uA=>?_
   ·obtain⟨ot,X6,Yh,nt,Ye⟩:=hl;obtain⟨oc,od,odt,B3⟩:=ot;simp only at Yh Ye;subst Yh;subst Ye;have u1:(s.heap.push (my led)).get? l=some { cls:=.type "tuple",dict:=od,data:=.seq aN.toArray nt,slots:=B3 }:=aah _ X6;have u2:=A1;have u3:=tF;have u4:(Value.type "tuple" == Value.type "dict")=false:=by decide
    have u5:(s.heap.push (my led)).IsTuple l aN.toArray:=⟨_,u1,rfl,nt,rfl⟩
    unfold Builtin.«set.__init__» noKeywords Builtin.Frozenset.updateFrom;generalize hPI:pyIter=PI
    wp_walk
    subst hPI;refine wpAny_pyIter_tuple u5 (aaa (wpAny_runValue ?_));have u6:l<s.heap.objs.size:=aae X6;have u7:A.in1.in1.in1.handled=none:=by simp[hh]
    have hz:(s.heap.push (my led)).objs.size=s.heap.objs.size+1:=Heap.size_push ..;have u8:l≠(s.heap.push (my led)).objs.size:=by rw[hz];exact aak (aaA u6)
    have u9:s.heap.objs.size∉[(s.heap.push (my led)).objs.size,l]:=by
     rw[hz];intro m;simp at m;exact absurd m (aaw u6)
    have v1:∀(i:Nat) (v:Value),aN.toArray[i]?=some v->∃t,v=.int ((λi=>ns.getD i 0) i) t:=λi v hv=>hi.int_at i v (by simpa using hv);refine codeAny_set_update_loopS ((Walks.tuple u7 _ l u8 aN.toArray).toS) s.heap.objs.size u9 (λi=>ns.getD i 0) v1 (by rw[List.size_toArray];exact hb) (aN.toArray.size - 0) 0 _ (by left) (aaC _) ⟨⟨_,aam _ rfl,rfl,rfl⟩,u5.push _⟩ ?hS0 ?hR
    case hS0 =>
     have y1:((s.heap.push (my led)).push { cls:=.type "tuple_iterator",data:=.fields #[.ref l,.int 0 0] }).get? s.heap.objs.size=some (my led):=aah _ g1;exact SetOf_congr ((setObjOf_fresh (knd:=intKind prog w) led).setOf y1 (by unfold scanBound;left)) (λ_=>rfl) rfl
    case hR =>
     intro s' hm Aa;obtain⟨h',g',d',Zh,UG⟩:=s';cases (show g'=s.gens from hm.gens);cases (show d'=s.drawn from hm.drawn);cases (show UG=s.os from hm.os);have Aa:h'.SetOf (intKind prog w) s.heap.objs.size (λk=>(dist ns).any (· == k)) (dist ns).length:=by
      have e:aN.toArray.size=ns.length:=by rw[List.size_toArray,hnl]
      rw[e]at Aa;exact Aa
     refine aag (show wpAny _ _ (ret Value.none) _ _ _ from aag ⟨rfl,h',Zh,rfl,Aa,λb o hb e=>hm.heap b o (λm=>?_) (aah _ (aah _ e))⟩);rcases List.mem_cons.mp m with m|m
     ·exact aak hb m
     ·have m:b=(s.heap.push (my led)).objs.size:=by simpa using m
      rw[hz]at m;exact aak (aaA hb) m
   ·cases r₂ with
    |error e=>exact uA
    |ok Q7 =>
     cases Q7 with
     |ret r =>
      obtain⟨rfl,h',tk,rfl,Aa,Ya⟩:=uA
      repeat (any_goals (first|assumption|wp_step))
      exact h _ _ Aa Ya
     |next=>exact uA.elim
     |brk=>exact uA.elim
     |cont=>exact uA.elim
end
theorem DC(ns:ae):dist ns=se ns:=by
 unfold dist firstMet se;have e:(List.range ns.length).map (λi=>ns.getD i 0)=ns:=by
  refine abf (by simp) λi h1 h2=>?_;simp at h1;simp[h1]
 rw[e];rfl
def ZO(K:au):af->Hp->VK->Prop:=λxs H Q=>∃(p:Addr) (ns:ae),xs=[.ref p]/\bh K H p (ns.map V.int)/\ns.length<4000/\Q (.int (se ns).length) H
theorem boot_set:bootBuiltins ("set" : Str)=some (.type "set"):=by decide +kernel
theorem Fw{e:Expr}{t:TA}{p:Pos}(hc:X.calm=true)(VO:Gl X ("len" : Str))(Su:X.mg ("len" : Str)=none)(hg2:Gl X ("set" : Str))(VG:X.mg ("set" : Str)=none)(ha:PA X [e] t)
  (me:∀es,starEach (e::es) X.env=(false,eval e X.env)::starEach es X.env):PE X (.Call (.Name ("len" : Str) p) [.Call (.Name ("set" : Str) p') [e] [] pos'] [] pos) (Od (ZO X.K) t):=by
 intro pins s σ H Q I h;refine aaG (eh I VO Su PySem.boot_len ?_ (by decide) (by decide));refine PyProof.Rows.callWith_builtin1 ?_ rfl rfl;show wpAny _ _ (spliced ((false,eval (.Call (.Name ("set" : Str) p') [e] [] pos') X.env)::[])) _ _ s;refine abn ?_;refine aaG (eh I hg2 VG boot_set ?_ (by decide) (by decide));refine aas (cW (ha pos' pins s σ H _ I h) λus s1 bW=>?_) (me _) rfl;obtain⟨vs,H1,I1,r1,q1⟩:=bW;obtain⟨a,ns,rfl,hq,hl,q⟩:=q1;obtain⟨u,rfl,ru⟩:=r1.one;cases ru;obtain⟨aN,rv,it,hz⟩:=I1.tuple hq;have hle:aN.length=ns.length:=by rw[<- rv.length];simp
 refine vP (I1.ok.hd hc) it (dZ rv) (by unfold scanBound;left) λh' tk hS kp=>abB ?_;rw[DC]at hS;obtain⟨o,es,ep,tb,g1,g2,g3,_,_,g6,g7,g8⟩:=hS;refine call_len_set g1 g2 g3 g7 (by unfold scanBound at g6;omega) ?_;exact⟨.int (se ns).length,H1,I1.kept (t':=tk+1+1) λb u z=>kp b u (aae z) z,⟨_,by rw[g8]⟩,q⟩
section
variable {X:Cx}{S:Sx}{k:Nat}{F:aj}{Φ:aT}
theorem Lk.Xm(L:Lk X S k Φ):X.A.units+40<cLine:=by have:=L.room.units;left
def R5(K:au)(neg:Bool):R2:=λv u H Q=>∃(d d':D) (N N':gJ) (k k':bt),Rep (bh K H) N k v d/\Rep (bh K H) N' k' u d'/\(∀q p xs f,N q p (.l xs) f->dz K H p xs)/\(∀q p xs f,N' q p (.l xs) f->dz K H p xs)/\dM 40 d=true/\dM 40 d'=true /\
 Q (.bl (if neg then !lj d d' else lj d d')) H
theorem Kd(hu:X.A.units+40<cLine):jZ X (compareOp .Eq) (R5 X.K false):=by
 intro pins s σ H x y v u Q I rx ry h;obtain⟨d,d',N,N',k,k',r1,r2,n1,n2,o1,o2,q⟩:=h;exact(alike I n1 n2 40 X.A r1 r2 o1 o2 rx ry hu).rc X.prog X.w X.xe _ ⟨.bl _,H,I,rfl,q⟩
theorem Kb(hu:X.A.units+40<cLine):jZ X (compareOp .NotEq) (R5 X.K true):=by
 intro pins s σ H x y v u Q I rx ry h;obtain⟨d,d',N,N',k,k',r1,r2,n1,n2,o1,o2,q⟩:=h;exact(alike I n1 n2 40 X.A r1 r2 o1 o2 rx ry hu).ne X.prog X.w X.xe _ ⟨.bl _,H,I,rfl,q⟩
theorem BD{N N':gJ}{k:bt}{v v':V}{d d':D}(h:Rep T N k v d)(h':Rep T' N' k' v' d')(f:iB d=true)(f':iB d'=true):i5 v=true/\Eh v v'=lj d d':=by
 cases h<;>first | (cases f;done) | (cases h'<;>first | (cases f';done)|exact⟨rfl,by simp[Eh,lj]⟩)
theorem qi{N:gJ}{k:bt}{v:V}{d:D}(h:Rep T N k v d)(f:iB d=true):i5 v=true:=by
 cases h<;>first | (cases f;done)|rfl
theorem q_{T T':mK}{N N':gJ}{k':bt}{v:V}{d:D}(hv:Rep T' N' k' v d)(f:iB d=true):∀{k:bt} {n:Nat} {xs:af} {ds:aa},aI T N k n xs ds->ds.all iB=true->xs.all i5=true/\Sq v xs=inD d ds
 |_,_,_,_,.nil,_=>⟨rfl,rfl⟩
 |_,_,_,_,.cons h t,fs=>by
  rw[List.all_cons,Bool.and_eq_true]at fs;obtain⟨h1,h2⟩:=q_ hv f t fs.2;obtain⟨g1,g2⟩:=BD h hv fs.1 f;refine⟨by rw[List.all_cons,g1,h1];rfl,?_⟩;unfold Sq at h2 ⊢;rw[List.any_cons,g2,h2];rfl
def JM(K:au)(op:AL):R2:=match op with
 |.eq=>R5 K false
 |.ne=>R5 K true
 |.lt=>BG λi j=>.bl (decide (i<j))
 |.le=>BG λi j=>.bl (decide (i<=j))
 |.gt=>BG λi j=>.bl (decide (j<i))
 |.ge=>BG λi j=>.bl (decide (j<=i))
 |.HW=>λx y H Q=>y=.bu/\Q (.bl (decide (x=.bu))) H
 |.ug=>λx y H Q=>y=.bu/\Q (.bl (!decide (x=.bu))) H
 |.AE=>Ux K false
theorem B6(L:Lk X S k Φ)(op:AL):jZ X (compareOp (UI op)) (JM X.K op):=by
 cases op with
 |eq=>exact Kd L.Xm
 |ne=>exact Kb L.Xm
 |lt=>exact O5
 |le=>exact O6
 |gt=>exact O7
 |ge=>exact O8
 |HW=>exact Kc
 |ug=>exact FD
 |AE=>exact zJ
theorem Cc{op:CmpOp}{r:Expr}(h:ql r=true):behindInMarks op r=false:=by
 cases r<;>first|rfl | (cases h;done)
theorem m8{op:AL}{x y d:D}(Qj:op=.lt\/op=.le\/op=.gt\/op=.ge)(h:cK op x y=ok d):∃i j,x=.int i/\y=.int j:=by
 cases x with
 |int i=>cases y with
  |int j=>exact⟨i,j,rfl,rfl⟩
  |_=>rcases Qj with rfl|rfl|rfl|rfl<;>exact nk h
 |_=>rcases Qj with rfl|rfl|rfl|rfl<;>exact nk h
theorem uX{op:AL}{a b:CE}(hq:tD X F Φ (.cmp op a b) σ H Q):Hw (JM X.K op) (tD X F Φ a) (tD X F Φ b) σ H Q:=by
 obtain⟨R,τ,ρ,d,Si,ev,hq⟩:=hq;obtain⟨x,ex,ev⟩:=aJ ev;obtain⟨y,ey,ev⟩:=aJ ev;refine tD.intro Si ex λv H1 e1 r1=>tD.intro (Si.go e1) ey λu H2 e2 r2=>?_;have e:=e1.trans e2;have rv:=r1.go e2;have ru:=r2;obtain⟨τ1,f1,p1⟩:=rv;obtain⟨τ2,f2,p2⟩:=ru;have sq:∀{A:aj} {τ:Addr->Option bt} (q:bt) (p:Addr) (xs:af) (f:Fl),nd X.K R A τ H2 q p (.l xs) f->dz X.K H2 p xs:=λq p xs f h=>h.sq;cases op with
 |eq =>
  obtain⟨hc,ev⟩:=pv ev
  ·subst ev;rw[Bool.and_eq_true]at hc;exact⟨x,y,_,_,_,_,p1,p2,sq,sq,hc.1,hc.2,hq _ H2 e .bl⟩
 |ne =>
  obtain⟨hc,ev⟩:=pv ev
  ·subst ev;rw[Bool.and_eq_true]at hc;exact⟨x,y,_,_,_,_,p1,p2,sq,sq,hc.1,hc.2,hq _ H2 e .bl⟩
 |lt=>obtain⟨i,j,rfl,rfl⟩:=m8 (by simp) ev;cases ev;exact⟨_,_,(r1.go e2).isInt,r2.isInt,hq _ H2 e .bl⟩
 |le=>obtain⟨i,j,rfl,rfl⟩:=m8 (by simp) ev;cases ev;exact⟨_,_,(r1.go e2).isInt,r2.isInt,hq _ H2 e .bl⟩
 |gt=>obtain⟨i,j,rfl,rfl⟩:=m8 (by simp) ev;cases ev;exact⟨_,_,(r1.go e2).isInt,r2.isInt,hq _ H2 e .bl⟩
 |ge=>obtain⟨i,j,rfl,rfl⟩:=m8 (by simp) ev;cases ev;exact⟨_,_,(r1.go e2).isInt,r2.isInt,hq _ H2 e .bl⟩
 |HW =>
  cases y<;>simp[cK]at ev;cases p2;refine⟨rfl,hq _ H2 e ?_⟩;cases ev;cases p1<;>exact .bl
 |ug =>
  cases y<;>simp[cK]at ev;cases p2;refine⟨rfl,hq _ H2 e ?_⟩;cases ev;cases p1<;>exact .bl
 |AE =>
  simp only[cK]at ev;split at ev
  ·rename_i ds hi;split at ev
   ·rename_i hc;rw[Bool.and_eq_true]at hc;cases ev;cases p2 with
    |tup h rs=>cases hi;obtain⟨g1,g2⟩:=q_ p1 hc.1 rs hc.2;exact⟨_,_,rfl,.inr h,qi p1 hc.1,g1,by rw[g2];exact hq _ H2 e .bl⟩
    |lst h rs=>cases hi;obtain⟨g1,g2⟩:=q_ p1 hc.1 rs hc.2;exact⟨_,_,rfl,.inl h.sq,qi p1 hc.1,g1,by rw[g2];exact hq _ H2 e .bl⟩
    |_=>cases hi
   ·cases ev
  ·cases ev
theorem A7{c:CE}{Q:Bool->Hp->Prop}(h:iw X F Φ c σ H Q):tB (tD X F Φ c) σ H Q:=by
 obtain⟨R,τ,ρ,b,Si,ev,hq⟩:=h;unfold uN at ev;obtain⟨d,ed,et⟩:=aJ ev;refine tD.intro Si ed λv H' e r=>?_;cases d<;>simp[iI]at et;cases et;exact⟨_,r.zU,hq H' e⟩
theorem cY{c:CE}{e:Expr}(h:PE X e (tD X F Φ c))(he:∀whole,isTrue e X.env whole=(do let v <- whole;standAt e.pos;holding [v] (truthy v))):PT X e (iw X F Φ c) :=
 PT.imp (JS h he) λ_ _ _ h=>A7 h
theorem zl{op:AL}{a b:CE}{Q:Bool->Hp->Prop}(h:iw X F Φ (.cmp op a b) σ H Q):Hv (Hw (JM X.K op) (tD X F Φ a) (tD X F Φ b)) σ H Q :=
 uX (A7 h)
theorem dictAt{pins:ak}{s:Shared}{p:Addr}{cs:aG}{as:aW}(I:Inv X pins σ H s)(h:H p=some (.ext (DO p cs as xs ep))):∃o,s.heap.get? p=some o/\o.cls=.type "dict":=by
 obtain⟨⟨zs,o,es,_,_,_,ho,hx,_⟩,_⟩:=(show cM X.prog X.w H s.heap p (.ext (DO p cs as xs ep)) from I.cm p _ h)
 exact⟨o,ho,hx.1⟩
theorem KC(L:Lk X S k Φ)(t:Ty):fX X (.builtin "isinstance") (λxs H Q=>∃(x:V) (d:D) (N:gJ) (k:bt),xs=[x,.ty (tyName t)]/\Rep (bh X.K H) N k x d/\(∀q p xs f,N q p (.l xs) f->dz X.K H p xs)/\(∀q p cs as xs ep f,N q p (.d cs as xs ep) f->H p=some (.ext (DO p cs as xs ep)))/\Q (.bl (eU t d)) H):=by
 intro pins s σ H xs us Q I r h;obtain⟨x,d,N,k,rfl,rp,hN,hND,q⟩:=h;obtain⟨u,w',rfl,ru,lb⟩:=vals2 r;cases (show w'=Value.type (tyName t) from lb);have kt:=FX X.K t;have fin:∀b:Bool,b=eU t d->∀tk,EP X pins σ Q (.bool b) { s with toks:=tk }:=λb e tk=>⟨.bl b,H,I.tok tk,rfl,by rw[e];exact q⟩
 cases rp with
 |bu=>cases ru;exact aaX PySem.W.kitx_none I.wk True.intro (kt "NoneType" (by simp[kinds])) (λz=>nomatch z) (fin _ (by cases t<;>rfl))
 |bl b=>cases ru;exact aaX PySem.W.kitx_bool I.wk True.intro (kt "bool" (by simp[kinds])) (λz=>nomatch z) (fin _ (by cases t<;>rfl))
 |int i=>obtain⟨t',rfl⟩:=ru;exact aaX PySem.W.kitx_int I.wk True.intro (kt "int" (by simp[kinds])) (λz=>nomatch z) (fin _ (by cases t<;>rfl))
 |tup h _ =>
  cases ru;obtain⟨aN,_,⟨o,h1,h2,_⟩,_⟩:=I.tuple h;exact aaX PySem.W.kitx_tuple I.wk ⟨o,h1,h2⟩ (kt "tuple" (by simp[kinds])) (λz=>nomatch z) (fin _ (by cases t<;>rfl))
 |lst h _ =>
  cases ru;obtain⟨aN,_,⟨o,n,h1,h2,_⟩,_⟩:=I.list (hN _ _ _ _ h);exact aaX PySem.W.kitx_list I.wk ⟨o,h1,h2⟩ (kt "list" (by simp[kinds])) (λz=>nomatch z) (fin _ (by cases t<;>rfl))
 |cJ h _ _ =>
  cases ru;obtain⟨o,h1,h2⟩:∃o,s.heap.get? _=some o/\o.cls=.type "dict":=dictAt I (hND _ _ _ _ _ _ _ h);exact aaX PySem.W.kitx_dict I.wk ⟨o,h1,h2⟩ (kt "dict" (by simp[kinds])) (λz=>nomatch z) (fin _ (by cases t<;>rfl))
theorem G6(t:Ty):bootBuiltins (tyName t:Str)=some (.type (tyName t)):=by
 cases t<;>decide +kernel
theorem p8(t:Ty):(tyName t:Str) ≠ "__name__" /\ ((tyName t:Str)==("__debug__" : Str))=false:=by
 cases t<;>decide +kernel
theorem JB(L:Lk X S k Φ){a:CE}{t:Ty}{e:Expr}{p:Pos}(hf:eM S.sc ("isinstance" : Str)=true)(VQ:("isinstance" : Str)∈S.bl)(hg:eM S.sc (tyName t:Str)=true)(VN:(tyName t:Str)∈S.bl)
  (ha:PE X e (tD X F Φ a)) (me:∀es,starEach (e::es) X.env=(false,eval e X.env)::starEach es X.env):PE X (.Call (.Name ("isinstance" : Str) p) [e,.Name (tyName t:Str) p'] [] pos) (tD X F Φ (.vp a t)):=by
 have hT:PE X (.Name (tyName t:Str) p') (tC (.ty (tyName t))):=Fy (L.gl hg) (L.bl _ VN) (G6 t) rfl (p8 t).1 (p8 t).2;refine PE.imp (eK (KC L t) (L.gl hf) (L.bl _ VQ) PyProof.Rows.boot_isinstance (cD ha (cD hT d_) (me _)) (he:=me _)) λσ H Q hq=>?_;obtain⟨R,τ,ρ,d,Si,ev,hq⟩:=hq;obtain⟨x,ex,ev⟩:=aJ ev;cases ev;refine tD.intro Si ex λv H1 e1 r1=>?_;obtain⟨τ1,f1,p1⟩:=r1;exact⟨v,x,_,_,rfl,p1,λq p xs f h=>h.sq,λq p cs as xs ep f h=>h.dat,hq _ H1 e1 .bl⟩
theorem KJ:@DI.sV=@L2.sV:=rfl
theorem OA(L:Lk X S k Φ){a b:CE}{e i:Expr}(ha:PE X e (tD X F Φ a))(hb:PE X i (tD X F Φ b))(hp:nr i):PE X (.Subscript e i pos) (tD X F Φ (.ix a b)):=by
 refine PE.imp (BZ (yk.or Cy) ha hb hp) λσ H Q hq=>?_;obtain⟨R,τ,ρ,d,Si,ev,hq⟩:=hq;obtain⟨x,ex,ev⟩:=aJ ev;obtain⟨y,ey,ev⟩:=aJ ev;refine tD.intro Si ex λv H1 e1 r1=>tD.intro (Si.go e1) ey λu H2 e2 r2=>?_;have ee:=e1.trans e2;have rv:=(r1.go e2).mono (fv':=iN (.ix a b)) λj hj=>aay _ hj;have item:∀{q:bt} {xs:af} {ds:aa} {τt:Addr->Option bt} {j:Int},(∀p q,τt p=some q->H p=none)->aI (bh X.K H2) (nd X.K R (jX (gP X F) τ (iN (.ix a b))) τt H2) q 0 xs ds->sG ds j=ok d->∃w,L2.IH xs j=some w/\Q w H2:=by
  intro q xs ds τt j fr rs h;unfold sG at h;split at h
  ·rename_i d' hd;cases h;cases hx:DI.sV ds.length j with
   |none=>rw[hx]at hd;cases hd
   |some m =>
    rw[hx]at hd;obtain⟨w,hw,lb⟩:=rs.get (show ds[m]?=some d' from hd);refine⟨w,?_,hq w H2 ee ⟨λ_=>none,λ_ _ h=>by simp at h,lb.fb Si fr⟩⟩;unfold L2.IH;rw[<- KJ,rs.length,hx];exact hw
  ·cases h
 cases y with
 |int j =>
  obtain⟨τt,fr,rp⟩:=rv;cases r2.isInt;cases x with
  |tup ds =>
   cases rp with
   | @tup _ p xs _ h rs=>obtain⟨w,h1,h2⟩:=item fr rs ev;exact .inr ⟨p,xs,j,w,rfl,rfl,h,h1,h2⟩
  |lst f ds =>
   cases rp with
   | @lst _ p xs _ _ h rs=>obtain⟨w,h1,h2⟩:=item fr rs ev;exact .inl ⟨p,xs,j,w,rfl,rfl,h.sq,h1,h2⟩
  |_=>exact nk ev
 |_=>cases x<;>cases ev
theorem oO:∀(cs:aF) {ρ:aX} {ds:aa},bX Φ cs ρ=ok ds->ds.length=cs.length
 |[],_,_,h=>by cases h;rfl
 |c::cs,_,_,h=>by
  obtain⟨x,_,h⟩:=aJ h;obtain⟨xs,hx,h⟩:=aJ h;cases h;simp[oO cs hx]
theorem Jx{es:aA}{n:Nat}(h:PA X es (pF X F Φ cs))(hl:cs.length<=1000):PE X (.Tuple es n pos) (tD X F Φ (.tup cs)):=by
 refine PE.imp (JY h) λσ H Q hq=>?_;obtain⟨R,τ,ρ,d,Si,ev,hq⟩:=hq;obtain⟨ds,Ml,ev⟩:=aJ ev;cases ev;refine⟨R,τ,ρ,ds,Si,Ml,λvs H1 e1 r1=>?_⟩;obtain⟨τt,fr,rs⟩:=r1;have hz:sizeLine=16777216:=aaU;refine⟨by rw[rs.length,oO cs Ml];left,λp hp=>?_⟩;have es:aM H1 (upd H1 p (.tup vs)):=aM.upd hp;exact hq _ _ (e1.trans es) ⟨τt,fr,.tup (bh.of bj) (rs.imp (λ_ _ h=>bh.same es h) λ_ _ _ _ h=>nd.same es h)⟩
theorem JA{es:aA}(h:PA X es (pF X F Φ cs))(hl:cs.length<=1000):PE X (.List es pos) (tD X F Φ (.lst cs)):=by
 refine PE.imp (J2 h) λσ H Q hq=>?_;obtain⟨R,τ,ρ,d,Si,ev,hq⟩:=hq;obtain⟨ds,Ml,ev⟩:=aJ ev;cases ev;refine⟨R,τ,ρ,ds,Si,Ml,λvs H1 e1 r1=>?_⟩;obtain⟨τt,fr,rs⟩:=r1;have hz:sizeLine=16777216:=aaU;refine⟨by rw[rs.length,oO cs Ml];left,λp hp=>?_⟩;have es:aM H1 (upd H1 p (.lst vs)):=aM.upd hp;refine hq _ _ (e1.trans es) ⟨λq=>if q=p then some []else τt q,λq z hq=>?_,.lst ⟨bj,by simp⟩ (rs.imp (λ_ _ h=>bh.same es h) λc q xs f h=>?_)⟩
 ·by_cases wx:q=p
  ·subst wx;exact e1.free hp
  ·simp only[wx,if_false]at hq;exact fr q z hq
 ·have h':=nd.same es h;cases f with
  |ow =>
   have wx:q≠p:=by
    intro z;subst z;exact h.1.ne hp
   exact⟨h'.1,by simp only[wx,if_false];exact h'.2⟩
  |fz=>exact h'
  |al=>exact h'
  |sc=>exact h'
theorem EX(L:Lk X S k Φ){f:Nat}{x:Str}{y:Expr}{ys:aA}{p:Pos}(hf:S.fn f=some x)(hg:eM S.sc x=true)(hn:iV x=true)(ha:PA X (y::ys) (pF X F Φ cs))
  (me:∀es,starEach (y::es) X.env=(false,eval y X.env)::starEach es X.env) (hpl:∀pos,(backTo pos (starEach ys X.env)).any (·.1)=false):PE X (.Call (.Name x p) (y::ys) [] pos) (tD X F Φ (.call f cs)):=by
 obtain⟨a,fd,ps,Fo,hm,hk,hb,hl⟩:=(L.fn f x hf).ex;unfold iV at hn;simp only[Bool.and_eq_true,Bool.not_eq_true']at hn;refine PE.imp (x3 Fo L.room (L.gl hg) hm hk hb .nil (O2 (X:=X)) ha hn.1.1 (me _) (hpl _)) λσ H Q hq=>?_;obtain⟨R,τ,ρ,d,Si,ev,hq⟩:=hq;obtain⟨xs,cO,ev⟩:=aJ ev;obtain⟨r,er,ev⟩:=aJ ev;cases ev;refine⟨R,τ,ρ,xs,Si,cO,λvs H1 e1 r1=>?_⟩;obtain⟨τt,fr,rs⟩:=r1;have fresh:∀p,H p=none->jX (gP X F) τ (cU cs) p:=λp hp=>⟨.inr (Si.same.free hp),λc i e=>absurd hp (Si.th p _ e)⟩
 have hR:∀p,R p->jX (gP X F) τ (cU cs) p:=λp hp=>⟨Si.rf p hp,λc i e=>by rw[Si.rt p hp]at e;cases e⟩
 rw[List.append_nil];refine⟨jX (gP X F) τ (cU cs),aC a_ xs,r,by rw[rs.length,<- hl _ _ er,aP,List.length_map],aI.hJ (λ_ _ h=>h) (λk k' p xs f h=>?_) rs _ _,er,λv H2 e2 rr=>?_⟩
 ·cases f with
  |ow=>exact⟨h.1,fresh p (fr p _ h.2)⟩
  |fz=>exact⟨h.1,hR p h.2⟩
  |al=>exact h
  |sc=>exact h
 ·obtain⟨τ2,Nx,rp⟩:=rr;refine hq v H2 (e1.trans e2) ⟨τ2,λp q h=>e1.free (Nx p q h),Rep.map (q:=[]) (q':=[]) (λ_ _ h=>h) (λc p xs f h=>?_) rp [] rfl⟩;cases f with
  |ow=>exact h
  |fz=>exact⟨h.1,h.2.elim id λz=>fresh p (e1.free z)⟩
  |al=>exact h.2.elim
  |sc=>exact h
def Xs(K:au)(f:Bf):af->Hp->VK->Prop:=match f with
 |.len=>λxs H Q=>∃p ys,xs=[.ref p]/\(dz K H p ys\/bh K H p ys)/\Q (.int ys.length) H
 |.abs=>λxs H Q=>∃i,xs=[.int i]/\Q (.int (if i<0 then -i else i)) H
 |.CG=>λxs H Q=>(∃i,xs=[.int i]/\Q (.int i) H)\/∃k,xs=[.bl k]/\Q (.int (if k then 1 else 0)) H
 |.list1=>λxs H Q=>∃p ys,xs=[.ref p]/\(dz K H p ys\/bh K H p ys)/\∀l,H l=none->Q (.ref l) (upd H l (.lst ys))
 |.tuple1=>λxs H Q=>∃p ys,xs=[.ref p]/\((dz K H p ys/\∀l,H l=none->Q (.ref l) (upd H l (.tup ys)))\/(bh K H p ys/\Q (.ref p) H))
 |.kr=>λxs H Q=>∃(p:Addr) (ns:ae),xs=[.ref p]/\dz K H p (ns.map V.int)/\Q (.int ns.sum) H
 |.all1=>λxs H Q=>∃(p:Addr) (bs:List Bool),xs=[.ref p]/\dz K H p (bs.map V.bl)/\Q (.bl (bs.all id)) H
 |.gZ=>λxs H Q=>∃(p:Addr) (ns:ae),xs=[.ref p]/\(dz K H p (ns.map V.int)\/bh K H p (ns.map V.int))/\ns.length<64/\∀l,H l=none->Q (.ref l) (upd H l (.lst ((sortI ns).map V.int)))
theorem aI.one{N:gJ}{k:bt}{n:Nat}{d:D}(h:aI T N k n vs [d]):∃v,vs=[v]/\Rep T N (n::k) v d:=by
 cases h with
 |cons h t=>cases t;exact⟨_,rfl,h⟩
theorem aI.two{N:gJ}{k:bt}{n:Nat}{d e:D}(h:aI T N k n vs [d,e]):∃v w,vs=[v,w]/\Rep T N (n::k) v d/\Rep T N ((n+1)::k) w e:=by
 cases h with
 |cons h t=>obtain⟨w,rfl,h'⟩:=t.one;exact⟨_,_,rfl,h,h'⟩
theorem aI.ints1{N:gJ}{k:bt}{n:Nat}{i:Int}(h:aI T N k n vs [.int i]):vs=[.int i]:=by
 obtain⟨v,rfl,z⟩:=h.one;cases z;rfl
theorem aI.ints2{N:gJ}{k:bt}{n:Nat}{i j:Int}(h:aI T N k n vs [.int i,.int j]):vs=[.int i,.int j]:=by
 obtain⟨v,w,rfl,z,z'⟩:=h.two;cases z;cases z';rfl
noncomputable def Bf.one:Bf->Bool
 |_=>true
theorem IE{f:Bf}{xs:aa}{d:D}(hf:f.one=true)(h:nc f xs=ok d):∃x,xs=[x]:=by
 cases xs with
 |nil=>cases f<;>exact nk h
 |cons x xs=>cases xs with
  |nil=>exact⟨x,rfl⟩
  |cons y ys=>cases f<;>first | (cases hf;done) | (cases x<;>exact nk h)
theorem aI.ofInts{T:mK}{N:gJ}{k:bt}:∀{ns:ae} {n:Nat} {vs:af},aI T N k n vs (ns.map D.int)->vs=ns.map V.int
 |[],_,_,h=>by cases h;rfl
 |i::ns,_,_,h=>by
  cases h with
  |cons h t=>cases h;rw[aI.ofInts t];rfl
theorem aI.HM{T:mK}{N:gJ}{k:bt}:∀{ns:List Bool} {n:Nat} {vs:af},aI T N k n vs (ns.map D.bl)->vs=ns.map V.bl
 |[],_,_,h=>by cases h;rfl
 |i::ns,_,_,h=>by
  cases h with
  |cons h t=>cases h;rw[aI.HM t];rfl
theorem jn{T:mK}{N:gJ}{k:bt}:∀(ns:ae) {n:Nat},aI T N k n (ns.map V.int) (ns.map D.int)
 |[],_=>.nil
 |i::ns,_=>.cons (.int i) (jn ns)
theorem G9{f:Bf}(hq:tD X F Φ (.bf f cs) σ H Q):Od (Xs X.K f) (pF X F Φ cs) σ H Q:=by
 obtain⟨R,τ,ρ,d,Si,ev,hq⟩:=hq;obtain⟨xs,cO,ev⟩:=aJ ev;refine⟨R,τ,ρ,xs,Si,cO,λvs H1 e1 r1=>?_⟩;obtain⟨τt,fr,rs⟩:=r1;cases f with
 |len =>
  obtain⟨x,rfl⟩:=IE rfl ev;obtain⟨v,rfl,rv⟩:=rs.one;cases x with
  |tup ds=>cases ev;obtain⟨_,_,rfl,h,r⟩:=rv.Eu;exact⟨_,_,rfl,.inr h,by rw[r.length];exact hq _ H1 e1 .int⟩
  |lst f ds=>cases ev;obtain⟨_,_,rfl,h,r⟩:=rv.pB;exact⟨_,_,rfl,.inl h.sq,by rw[r.length];exact hq _ H1 e1 .int⟩
  |_=>exact nk ev
 |abs =>
  obtain⟨x,rfl⟩:=IE rfl ev;cases x with
  |int i=>cases ev;cases rs.ints1;exact⟨_,rfl,hq _ H1 e1 .int⟩
  |_=>exact nk ev
 |CG =>
  obtain⟨x,rfl⟩:=IE rfl ev;obtain⟨v,rfl,rv⟩:=rs.one;cases x with
  |int i=>cases ev;cases rv;exact .inl ⟨_,rfl,hq _ H1 e1 .int⟩
  |bl i=>cases ev;cases rv;exact .inr ⟨_,rfl,hq _ H1 e1 .int⟩
  |_=>exact nk ev
 |list1 =>
  obtain⟨x,rfl⟩:=IE rfl ev;obtain⟨v,rfl,rv⟩:=rs.one;cases x with
  |tup ds =>
   cases ev;obtain⟨_,_,rfl,h,r⟩:=rv.Eu;refine⟨_,_,rfl,.inr h,λl hl=>?_⟩;exact hq _ _ (e1.trans (aM.upd hl)) (ck.rB (e1.free hl) (e1.trans (aM.upd hl)) bj ((r.fb Si fr).imp (λ_ _ h=>bh.same (aM.upd hl) h) λ_ _ _ _ h=>nd.same (aM.upd hl) h))
  |lst f ds =>
   cases ev;obtain⟨_,_,rfl,h,r⟩:=rv.pB;refine⟨_,_,rfl,.inl h.sq,λl hl=>?_⟩;exact hq _ _ (e1.trans (aM.upd hl)) (ck.rB (e1.free hl) (e1.trans (aM.upd hl)) bj ((r.fb Si fr).imp (λ_ _ h=>bh.same (aM.upd hl) h) λ_ _ _ _ h=>nd.same (aM.upd hl) h))
  |_=>exact nk ev
 |tuple1 =>
  obtain⟨x,rfl⟩:=IE rfl ev;obtain⟨v,rfl,rv⟩:=rs.one;cases x with
  |tup ds =>
   cases ev;obtain⟨_,_,rfl,h,r⟩:=rv.Eu;exact⟨_,_,rfl,.inr ⟨h,hq _ H1 e1 ⟨λ_=>none,λ_ _ h=>by simp at h,.tup h (r.fb Si fr)⟩⟩⟩
  |lst f ds =>
   cases ev;obtain⟨_,_,rfl,h,r⟩:=rv.pB;refine⟨_,_,rfl,.inl ⟨h.sq,λl hl=>?_⟩⟩;exact hq _ _ (e1.trans (aM.upd hl)) ⟨λ_=>none,λ_ _ h=>by simp at h,.tup (bh.of bj) ((r.fb Si fr).imp (λ_ _ h=>bh.same (aM.upd hl) h) λ_ _ _ _ h=>nd.same (aM.upd hl) h)⟩
  |_=>exact nk ev
 |kr =>
  obtain⟨x,rfl⟩:=IE rfl ev;obtain⟨v,rfl,rv⟩:=rs.one;cases x with
  |lst f ds =>
   have ev:(match intsOf ds with|some ns=>ok (.int ns.sum)|none=>none)=ok d:=ev;cases hn:intsOf ds with
   |none=>rw[hn]at ev;cases ev
   |some ns =>
    rw[hn]at ev;cases ev;cases ej hn;cases rv with
    |lst h r=>cases r.ofInts;exact⟨_,ns,rfl,h.sq,hq _ H1 e1 .int⟩
  |_=>exact nk ev
 |all1 =>
  obtain⟨x,rfl⟩:=IE rfl ev;obtain⟨v,rfl,rv⟩:=rs.one;cases x with
  |lst f ds =>
   have ev:(match i_ ds with|some bs=>ok (.bl (bs.all id))|none=>none)=ok d:=ev;cases hn:i_ ds with
   |none=>rw[hn]at ev;cases ev
   |some ns =>
    rw[hn]at ev;cases ev;cases va hn;cases rv with
    |lst h r=>cases r.HM;exact⟨_,ns,rfl,h.sq,hq _ H1 e1 .bl⟩
  |_=>exact nk ev
 |gZ =>
  obtain⟨x,rfl⟩:=IE rfl ev;obtain⟨v,rfl,rv⟩:=rs.one;have fin:∀ds,qd ds=ok d->∃ns:ae,ds=ns.map D.int/\ns.length<64/\∀l,H1 l=none->Q (.ref l) (upd H1 l (.lst ((sortI ns).map V.int))):=by
   intro ds e;unfold qd at e;split at e
   ·rename_i ns hn;split at e
    ·rename_i sY;cases e;refine⟨ns,ej hn,sY,λl hl=>hq _ _ (e1.trans (aM.upd hl)) (ck.rB (e1.free hl) (e1.trans (aM.upd hl)) bj (jn _))⟩
    ·cases e
   ·cases e
  cases x with
  |tup ds =>
   obtain⟨ns,rfl,sY,q⟩:=fin ds ev;cases rv with
   |tup h r=>cases r.ofInts;exact⟨_,ns,rfl,.inr h,sY,q⟩
  |lst f ds =>
   obtain⟨ns,rfl,sY,q⟩:=fin ds ev;cases rv with
   |lst h r=>cases r.ofInts;exact⟨_,ns,rfl,.inl h.sq,sY,q⟩
  |_=>exact nk ev
theorem OC(L:Lk X S k Φ){f:Bf}{y:Expr}{ys:aA}{p:Pos}(hg:eM S.sc (sA f:Str)=true)(hb:(sA f:Str)∈S.bl)(ha:PA X (y::ys) (pF X F Φ cs))
  (me:∀es,starEach (y::es) X.env=(false,eval y X.env)::starEach es X.env) (hpl:∀pos,(backTo pos (starEach ys X.env)).any (·.1)=false):PE X (.Call (.Name (sA f:Str) p) (y::ys) [] pos) (tD X F Φ (.bf f cs)):=by
 refine PE.imp (t:=Od (Xs X.K f) (pF X F Φ cs)) ?_ λσ H Q hq=>G9 hq;cases f with
 |len=>exact eK su (L.gl hg) (L.bl _ hb) PySem.boot_len ha (he:=me _) (hpl:=hpl _)
 |abs=>exact eK DS (L.gl hg) (L.bl _ hb) (by decide +kernel) ha (he:=me _) (hpl:=hpl _)
 |CG=>exact lE An (L.gl hg) (L.bl _ hb) (by decide +kernel) ha (he:=me _) (hpl:=hpl _)
 |list1=>exact lE sr (L.gl hg) (L.bl _ hb) (by decide +kernel) ha (he:=me _) (hpl:=hpl _)
 |tuple1=>exact lE pT (L.gl hg) (L.bl _ hb) (by decide +kernel) ha (he:=me _) (hpl:=hpl _)
 |kr=>exact eK (Am L.calm) (L.gl hg) (L.bl _ hb) (by decide +kernel) ha (he:=me _) (hpl:=hpl _)
 |gZ=>exact eK so (L.gl hg) (L.bl _ hb) (by decide +kernel) ha (he:=me _) (hpl:=hpl _)
 |all1=>exact eK (Ao L.calm) (L.gl hg) (L.bl _ hb) (by decide +kernel) ha (he:=me _) (hpl:=hpl _)
theorem EV(L:Lk X S k Φ){a:CE}{e:Expr}{p:Pos}(hf:eM S.sc ("len" : Str)=true)(VQ:("len" : Str)∈S.bl)(hg:eM S.sc ("set" : Str)=true)(VN:("set" : Str)∈S.bl)
  (ha:PE X e (tD X F Φ a)) (me:∀es,starEach (e::es) X.env=(false,eval e X.env)::starEach es X.env):PE X (.Call (.Name ("len" : Str) p) [.Call (.Name ("set" : Str) p') [e] [] pos'] [] pos) (tD X F Φ (.jx a)):=by
 refine PE.imp (Fw L.calm (L.gl hf) (L.bl _ VQ) (L.gl hg) (L.bl _ VN) (cD ha d_ (me _)) me) λσ H Q hq=>?_;obtain⟨R,τ,ρ,d,Si,ev,hq⟩:=hq;obtain⟨x,ex,ev⟩:=aJ ev;refine tD.intro Si ex λv H1 e1 r1=>?_;obtain⟨τ1,f1,rv⟩:=r1;cases x with
 |tup ds =>
  simp only[yg]at ev;split at ev
  ·rename_i ns hn;split at ev
   ·rename_i hl;cases ev;cases ej hn;cases rv with
    |tup h r=>cases r.ofInts;exact⟨_,ns,rfl,h,hl,hq _ H1 e1 .int⟩
   ·cases ev
  ·cases ev
 |_=>exact nk ev
theorem Jy{a:CE}{e:Expr}(h:PE X e (tD X F Φ a)):PE X (.UnaryOp .Not e pos) (tD X F Φ (.not a)):=by
 refine PE.imp (J0 h) λσ H Q hq=>?_;obtain⟨R,τ,ρ,d,Si,ev,hq⟩:=hq;obtain⟨b,eb,ev⟩:=aJ ev;obtain⟨x,ex,eb⟩:=aJ eb;cases ev;refine tD.intro Si ex λv H1 e1 r1=>?_;cases x<;>simp[iI]at eb;cases eb;exact⟨_,r1.zU,hq _ H1 e1 .bl⟩
theorem Jq{a:CE}{e:Expr}(h:PT X e (iw X F Φ a)):PT X (.UnaryOp .Not e pos) (iw X F Φ (.not a)):=by
 refine PT.imp (JT h) λσ H Q hq=>?_;obtain⟨R,τ,ρ,b,Si,ev,hq⟩:=hq;unfold uN at ev;obtain⟨d,ed,ev⟩:=aJ ev;obtain⟨c,ec,ed⟩:=aJ ed;cases ed;have Wt:b=!c:=by
  have e2:ok (!c)=ok b:=ev;exact(Except.ok.inj (aap e2)).symm
 subst Wt;exact⟨R,τ,ρ,c,Si,ec,λH' e=>hq H' e⟩
theorem Jz{a:CE}{e:Expr}(h:PE X e (tD X F Φ a)):PE X (.UnaryOp .USub e pos) (tD X F Φ (.neg a)):=by
 refine PE.imp (OX Jf h) λσ H Q hq=>?_;obtain⟨R,τ,ρ,d,Si,ev,hq⟩:=hq;obtain⟨x,ex,ev⟩:=aJ ev;refine tD.intro Si ex λv H1 e1 r1=>?_;cases x<;>simp[FN]at ev;cases ev;exact⟨_,r1.isInt,hq _ H1 e1 .int⟩
theorem Hd{c:CE}(hq:tD X F Φ (.and [c]) σ H Q):tD X F Φ c σ H Q:=by
 obtain⟨R,τ,ρ,d,Si,ev,hq⟩:=hq;obtain⟨b,eb,ev⟩:=aJ ev;obtain⟨x,ex,eb⟩:=aJ eb;cases ev;refine tD.intro Si ex λv H1 e1 r1=>?_;cases x<;>simp[iI]at eb;cases eb;rw[r1.zU];exact hq _ H1 e1 .bl
theorem J9{c:CE}(hq:tD X F Φ (.or [c]) σ H Q):tD X F Φ c σ H Q:=by
 obtain⟨R,τ,ρ,d,Si,ev,hq⟩:=hq;obtain⟨b,eb,ev⟩:=aJ ev;obtain⟨x,ex,eb⟩:=aJ eb;cases ev;refine tD.intro Si ex λv H1 e1 r1=>?_;cases x<;>simp[iI]at eb;cases eb;rw[r1.zU];exact hq _ H1 e1 .bl
theorem D0{c:CE}{Q:Bool->Hp->Prop}(hq:iw X F Φ (.and [c]) σ H Q):iw X F Φ c σ H Q:=by
 obtain⟨R,τ,ρ,d,Si,ev,hq⟩:=hq;unfold uN at ev;obtain⟨b,eb,ev⟩:=aJ ev;obtain⟨x,ex,eb⟩:=aJ eb;cases eb;cases ev;exact⟨R,τ,ρ,_,Si,ex,hq⟩
theorem FA{c:CE}{Q:Bool->Hp->Prop}(hq:iw X F Φ (.or [c]) σ H Q):iw X F Φ c σ H Q:=by
 obtain⟨R,τ,ρ,d,Si,ev,hq⟩:=hq;unfold uN at ev;obtain⟨b,eb,ev⟩:=aJ ev;obtain⟨x,ex,eb⟩:=aJ eb;cases eb;cases ev;exact⟨R,τ,ρ,_,Si,ex,hq⟩
theorem D1{c:CE}(hq:tD X F Φ (.and (c::c'::cs)) σ H Q):Hz (tD X F Φ c) (tD X F Φ (.and (c'::cs))) σ H Q:=by
 obtain⟨R,τ,ρ,d,Si,ev,hq⟩:=hq;obtain⟨b,eb,ev⟩:=aJ ev;obtain⟨x,ex,eb⟩:=aJ eb;refine tD.intro Si ex λv H1 e1 r1=>?_;cases x<;>simp[iI]at eb;cases eb;refine⟨_,r1.zU,?_⟩;cases b with
 |true =>
  rw[if_pos rfl]at ev ⊢;exact tD.intro (Si.go e1) ev λv H' e r=>hq v H' (e1.trans e) ((r.old e1).mono λi hi=>aal _ hi)
 |false =>
  rw[if_neg (by simp)]at ev ⊢;cases ev;exact hq _ H1 e1 .bl
theorem FC{c:CE}(hq:tD X F Φ (.or (c::c'::cs)) σ H Q):N8 (tD X F Φ c) (tD X F Φ (.or (c'::cs))) σ H Q:=by
 obtain⟨R,τ,ρ,d,Si,ev,hq⟩:=hq;obtain⟨b,eb,ev⟩:=aJ ev;obtain⟨x,ex,eb⟩:=aJ eb;refine tD.intro Si ex λv H1 e1 r1=>?_;cases x<;>simp[iI]at eb;cases eb;refine⟨_,r1.zU,?_⟩;cases b with
 |false =>
  rw[if_neg (by simp)]at ev ⊢;exact tD.intro (Si.go e1) ev λv H' e r=>hq v H' (e1.trans e) ((r.old e1).mono λi hi=>aal _ hi)
 |true =>
  rw[if_pos rfl]at ev ⊢;cases ev;exact hq _ H1 e1 .bl
theorem Av{c:CE}{Q:Bool->Hp->Prop}(hq:iw X F Φ (.and (c::c'::cs)) σ H Q):Of (iw X F Φ c) (iw X F Φ (.and (c'::cs))) σ H Q:=by
 obtain⟨R,τ,ρ,d,Si,ev,hq⟩:=hq;unfold uN at ev;obtain⟨x,ex,et⟩:=aJ ev;obtain⟨b,eb,ev⟩:=aJ ex;refine⟨R,τ,ρ,b,Si,eb,λH1 e1=>?_⟩;cases b with
 |true =>
  rw[if_pos rfl]at ev ⊢;exact⟨R,τ,ρ,d,Si.go e1,by unfold uN;rw[show bx Φ (.and (c'::cs)) ρ=ok x from ev];exact et,λH' e=>hq H' (e1.trans e)⟩
 |false =>
  rw[if_neg (by simp)]at ev ⊢;cases ev;cases et;exact hq H1 e1
theorem B4{c:CE}{Q:Bool->Hp->Prop}(hq:iw X F Φ (.or (c::c'::cs)) σ H Q):Xn (iw X F Φ c) (iw X F Φ (.or (c'::cs))) σ H Q:=by
 obtain⟨R,τ,ρ,d,Si,ev,hq⟩:=hq;unfold uN at ev;obtain⟨x,ex,et⟩:=aJ ev;obtain⟨b,eb,ev⟩:=aJ ex;refine⟨R,τ,ρ,b,Si,eb,λH1 e1=>?_⟩;cases b with
 |false =>
  rw[if_neg (by simp)]at ev ⊢;exact⟨R,τ,ρ,d,Si.go e1,by unfold uN;rw[show bx Φ (.or (c'::cs)) ρ=ok x from ev];exact et,λH' e=>hq H' (e1.trans e)⟩
 |true =>
  rw[if_pos rfl]at ev ⊢;cases ev;cases et;exact hq H1 e1
theorem gX{Q:af->Hp->Prop}(hq:pF X F Φ [] σ H Q):N_ σ H Q:=by
 obtain⟨R,τ,ρ,d,Si,ev,hq⟩:=hq;cases ev;exact hq _ H (aM.refl H) .nil
theorem eJ{c:CE}{Q:af->Hp->Prop}(hq:pF X F Φ (c::cs) σ H Q):Hy (tD X F Φ c) (pF X F Φ cs) σ H Q:=by
 obtain⟨R,τ,ρ,d,Si,ev,hq⟩:=hq;obtain⟨x,ex,ev⟩:=aJ ev;obtain⟨xs,cO,ev⟩:=aJ ev;cases ev;refine tD.intro Si ex λv H1 e1 r1=>⟨R,τ,ρ,xs,Si.go e1,cO,λvs H2 e2 r2=>hq _ H2 (e1.trans e2) (cy.cons e1 e2 (r1.mono λi hi=>aay _ hi) (r2.mono λi hi=>aal _ hi))⟩
theorem bz{c:CE}{e:Expr}(h:bT S c e=true)(es:aA)(env:Env):starEach (e::es) env=(false,eval e env)::starEach es env:=by
 cases e<;>first|rfl | (cases c<;>exact(aac h).elim)
theorem wV:∀{cs:aF} {es:aA},bH S cs es=true->∀(pos:Pos) (env:Env),(backTo pos (starEach es env)).any (·.1)=false
 |[],[],_,_,_=>rfl
 |[],_::_,h,_,_=>by exact(aac h).elim
 |_::_,[],h,_,_=>by exact(aac h).elim
 |c::cs,e::es,h,pos,env=>by
  replace h:=aE h;rw[bz h.1];have:=wV h.2 pos env;unfold backTo at this ⊢;simp only[List.map_cons,List.any_cons,Bool.false_or];exact this
theorem qE{c:CE}{e:Expr}(h:bT S c e=true):nr e:=by
 intro o i;cases e<;>first|rfl | (cases c<;>exact(aac h).elim)
theorem Bq{j:Nat}:PE X (.Constant .none j pos) (tD X F Φ .bu):=PE.imp J1 λσ H Q bW=>by obtain⟨R,τ,ρ,d,Si,ev,hq⟩:=bW;cases ev;exact hq _ H (aM.refl H) .bu
theorem HC{b:Bool}{j:Nat}:PE X (.Constant (.bool b) j pos) (tD X F Φ (.bl b)):=PE.imp O0 λσ H Q bW=>by obtain⟨R,τ,ρ,d,Si,ev,hq⟩:=bW;cases ev;exact hq _ H (aM.refl H) .bl
theorem Br{i:Int}{j:Nat}:PE X (.Constant (.int i) j pos) (tD X F Φ (.int i)):=PE.imp J4 λσ H Q bW=>by obtain⟨R,τ,ρ,d,Si,ev,hq⟩:=bW;cases ev;exact hq _ H (aM.refl H) .int
theorem KS(L:Lk X S k Φ){y:Expr}{p:Pos}(g1:eM S.sc ("range" : Str)=true)(g2:("range" : Str)∈S.bl)(pa:PA X [y] (pF X F Φ es))(kK:bH S es [y]=true)
  (pins:ak) (s:Shared) (σ:St) (H:Hp) (R:aj) (τ:Addr->Option bt) (ρ:aX) (xs items:aa) (I:Inv X pins σ H s) (Si:SI X F R τ ρ σ H) (cO:bX Φ es ρ=ok xs) (m6:dX Φ .iz xs=ok items) (Rr:It->Hp->Prop)
  (hR:∀J H2,aM H H2->Yl X.K J (kz X F τ (caps++cU es) H2) H2 items->Rr J H2) :
  wpAny (model X.prog X.w) X.A (eval (.Call (.Name ("range" : Str) p) [y] [] wq) X.env) (λv s1=>wpAny (model X.prog X.w) X.A (pyIter v) (Aw X pins σ target Rr) X.xe s1) X.xe s:=by
 match es,kK with
 |[c],kK =>
  replace kK:=aE kK;refine lC (L.gl g1) (L.bl _ g2) pa (bz kK.1 _ _) pins s σ H Rr I ⟨R,τ,ρ,xs,Si,cO,λvs H1 e1 rv=>?_⟩;obtain⟨τt,fr,rs⟩:=rv;obtain⟨n,rfl⟩:∃n,xs=[.int n]:=by
   cases xs with
   |nil=>cases m6
   |cons x t=>cases x<;>first | (cases m6;done) | (cases t with|nil=>exact⟨_,rfl⟩|cons _ _=>cases m6)
  cases rs.ints1
  ·obtain⟨⟨c1,c2⟩,m6⟩:=pv m6;subst m6;have kM:(cL:Int)=1000000:=rfl;refine⟨n,rfl,by left,by left,hR _ H1 e1 ?_⟩;have:=AO (X:=X) (lo:=0) (n:=n.toNat) (R:=kz X F τ (caps++cU [c]) H1) (H1:=H1);simpa using this
 |[],kK=>exact(aac kK).elim
 |_::_::_,kK=>exact(aac (aE kK).2).elim
theorem F2(L:Lk X S k Φ){y z:Expr}{p:Pos}(g1:eM S.sc ("range" : Str)=true)(g2:("range" : Str)∈S.bl)(pa:PA X [y,z] (pF X F Φ es))(kK:bH S es [y,z]=true)
  (pins:ak) (s:Shared) (σ:St) (H:Hp) (R:aj) (τ:Addr->Option bt) (ρ:aX) (xs items:aa) (I:Inv X pins σ H s) (Si:SI X F R τ ρ σ H) (cO:bX Φ es ρ=ok xs) (m6:dX Φ .kA xs=ok items) (Rr:It->Hp->Prop)
  (hR:∀J H2,aM H H2->Yl X.K J (kz X F τ (caps++cU es) H2) H2 items->Rr J H2) :
  wpAny (model X.prog X.w) X.A (eval (.Call (.Name ("range" : Str) p) [y,z] [] wq) X.env) (λv s1=>wpAny (model X.prog X.w) X.A (pyIter v) (Aw X pins σ target Rr) X.xe s1) X.xe s:=by
 match es,kK with
 |[c,c'],kK =>
  replace kK:=And.intro (aE kK).1 (aE (aE kK).2);refine qj (L.gl g1) (L.bl _ g2) pa (by rw[bz kK.1,bz kK.2.1];rfl) (bz kK.2.1 _ _) pins s σ H Rr I ⟨R,τ,ρ,xs,Si,cO,λvs H1 e1 rv=>?_⟩;obtain⟨τt,fr,rs⟩:=rv;obtain⟨m,n,rfl⟩:∃m n,xs=[.int m,.int n]:=by
   cases xs with
   |nil=>cases m6
   |cons x t=>cases x<;>first | (cases m6;done) | (cases t with
    |nil=>cases m6
    |cons y u=>cases y<;>first | (cases m6;done) | (cases u with|nil=>exact⟨_,_,rfl⟩|cons _ _=>cases m6))
  cases rs.ints2
  ·obtain⟨⟨c1,c2,c3,c4⟩,m6⟩:=pv m6;subst m6;have kM:(cL:Int)=1000000:=rfl;exact⟨m,n,rfl,⟨by left,by left,by left,by left⟩,hR _ H1 e1 AO⟩
 |[],kK=>exact(aac kK).elim
 |[_],kK=>exact(aac (aE kK).2).elim
 |_::_::_::_,kK=>exact(aac (aE (aE kK).2).2).elim
theorem KR(L:Lk X S k Φ){c:CE}{y:Expr}(pe:PE X y (tD X F Φ c))
  (pins:ak) (s:Shared) (σ:St) (H:Hp) (R:aj) (τ:Addr->Option bt) (ρ:aX) (xs items:aa) (I:Inv X pins σ H s) (Si:SI X F R τ ρ σ H) (cO:bX Φ [c] ρ=ok xs) (m6:dX Φ .seq xs=ok items) (Rr:It->Hp->Prop)
  (hR:∀J H2,aM H H2->Yl X.K J (kz X F τ (caps++cU [c]) H2) H2 items->Rr J H2) :
  wpAny (model X.prog X.w) X.A (eval y X.env) (λv s1=>wpAny (model X.prog X.w) X.A (pyIter v) (Aw X pins σ target Rr) X.xe s1) X.xe s:=by
 obtain⟨x,ex,cO⟩:=aJ cO;obtain⟨xs',Wo,cO⟩:=aJ cO;cases Wo;cases cO;have Yd:∀i∈iN c,i∈caps++cU [c]:=λi hi=>aal _ (aay _ hi);cases x with
 |tup ds =>
  cases m6;refine v5 pe pins s σ H Rr I (tD.intro Si ex λv H1 e1 rv=>?_);obtain⟨τt,fr,rp⟩:=rv;cases rp with
  | @tup _ p ys _ hp rs=>exact⟨p,rfl,⟨ys,hp⟩,hR _ H1 e1 (IU (q:=[]) hp (aI.hJ (λ_ _ h=>h) (vQ Si fr Yd) rs _ _))⟩
 |lst f ds =>
  cases m6;refine rm pe pins s σ H Rr I (tD.intro Si ex λv H1 e1 rv=>?_);obtain⟨τt,fr,rp⟩:=rv;cases rp with
  | @lst _ p ys _ _ hp rs=>exact⟨p,rfl,⟨ys,hp.sq⟩,hR _ H1 e1 (Es (q:=[]) hp.sq (aI.hJ (λ_ _ h=>h) (vQ Si fr Yd) rs _ _))⟩
 |_=>cases m6
theorem NK{xs:aa}{J:It}(Si:SI X F R τ ρ σ H)(hs:∀i∈fv,i∈fv')(r:cy X.K (gP X F) R τ fv H H2 vs xs)(y:IJ X.K J H2 vs xs items):
  Yl X.K J (kz X F τ fv' H2) H2 items:=by
 obtain⟨τt,fr,rs⟩:=r;have at':∀H',aM H2 H'->aI (bh X.K H') (nd X.K (kz X F τ fv' H2) (λ_=>False) (λ_=>none) H') [] 0 vs (aC a_ xs):=λH' e =>
  (aI.hJ (T':=bh X.K H2) (λ_ _ h=>h) (vQ Si fr hs) rs [] 0).imp (λ_ _ h=>bh.same e h) λ_ _ _ _ h=>nd.same e h
 have st:∀H',aM H2 H'->o3 X.K H2 vs xs H':=λH' e=>⟨⟨_,at' H2 (aM.refl H2),λp o _ h=>e p o h⟩,λ_ _ h=>bh.same e h⟩
 exact⟨λi H' e hi=>y.go i H' _ (st H' e) (at' H' e) hi,λi H' x ka e hi hy=>y.tj i H' _ x ka (st H' e) (at' H' e) hi hy,λi H' e hi=>y.stop i H' _ (st H' e) (at' H' e) hi⟩
theorem KU(L:Lk X S k Φ){p:Nat}{y:Expr}(hp:S.px.pi p S.sc S.bl y=some args)(ht:(decide (1100<=p)||fM target)=true)(hs:pb X F Φ es args)
  (pins:ak) (s:Shared) (σ:St) (H:Hp) (R:aj) (τ:Addr->Option bt) (ρ:aX) (xs items:aa) (I:Inv X pins σ H s) (Si:SI X F R τ ρ σ H) (cO:bX Φ es ρ=ok xs) (m6:dX Φ (.dj p) xs=ok items) (Rr:It->Hp->Prop)
  (hR:∀J H2,aM H H2->Yl X.K J (kz X F τ (caps++cU es) H2) H2 items->Rr J H2) :
  wpAny (model X.prog X.w) X.A (eval y X.env) (λv s1=>wpAny (model X.prog X.w) X.A (pyIter v) (Aw X pins σ target Rr) X.xe s1) X.xe s:=by
 obtain⟨d,ed,ei⟩:=aJ (show bd (Φ p xs) kv=ok items from m6);exact L.pr.i X _ _ k L.pX p y args hp F es target ht hs pins s σ H R τ ρ xs d items I Si cO ed ei Rr λJ H2 vs e2 r yz=>hR J H2 e2 (NK Si (λi hi=>by simp[hi]) r yz)
theorem uV{S':Sx}{ifs:aA}(h3:bP.length<=1)(h4:bH S' bP ifs=true)
  (pO:∀(X':Cx) (F':aj),Lk X' S' k Φ->∀(j:Nat) (c:CE) (e:Expr),bP[j]?=some c->ifs[j]?=some e->PE X' e (tD X' F' Φ c)/\PT X' e (iw X' F' Φ c)) :
  (bP=[]/\ifs=[])\/∃c e,bP=[c]/\ifs=[e]/\∀(X':Cx) (F':aj),Lk X' S' k Φ->PT X' e (iw X' F' Φ c):=by
 cases bP with
 |nil=>cases ifs with
  |nil=>exact .inl ⟨rfl,rfl⟩
  |cons _ _=>exact(aac h4).elim
 |cons c cs=>cases cs with
  |cons _ _=>simp at h3
  |nil=>cases ifs with
   |nil=>exact(aac h4).elim
   |cons e ifs=>cases ifs with
    |cons _ _=>exact(aac (aE h4).2).elim
    |nil=>exact .inr ⟨c,e,rfl,rfl,λX' F' L'=>(pO X' F' L' 0 c e rfl rfl).2⟩
def Rq(S:Sx)(ik:IK)(es:aF)(target iter:Expr):Bool:=match ik with
 |.iz=>bw (cX iter) λw=>decide (w.1=("range" : Str))&&eM S.sc w.1&&decide (w.1∈S.bl)&&bw (one w.2) λy=>bH S es [y]
 |.kA=>bw (cX iter) λw=>decide (w.1=("range" : Str))&&eM S.sc w.1&&decide (w.1∈S.bl)&&bw (two w.2) λy=>bH S es [y.1,y.2]
 |.seq=>bH S es [iter]
 |.dj p=>OW iter&&(decide (1100<=p)||fM target)&&bw (S.px.pi p S.sc S.bl iter) λxs=>bH S es xs
theorem Cz(L:Lk X S k Φ){ik:IK}(kK:∀l,bH S es l=true->PA X l (pF X F Φ es))
  (pO:∀l,bH S es l=true->∀(j:Nat) (c:CE) (e:Expr),es[j]?=some c->l[j]?=some e->PE X e (tD X F Φ c)/\PT X e (iw X F Φ c)) (hpe:∀l,bH S es l=true->pb X F Φ es l) (h6:Rq S ik es target iter=true) :
  ∀(pins:ak) (s:Shared) (σ:St) (H:Hp) (R:aj) (τ:Addr->Option bt) (ρ:aX) (xs items:aa),Inv X pins σ H s->SI X F R τ ρ σ H->bX Φ es ρ=ok xs->dX Φ ik xs=ok items->∀(Rr:It->Hp->Prop),
   (∀J H2,aM H H2->Yl X.K J (kz X F τ (caps++cU es) H2) H2 items->Rr J H2) ->
   wpAny (model X.prog X.w) X.A (eval iter X.env) (λv s1=>wpAny (model X.prog X.w) X.A (pyIter v) (Aw X pins σ target Rr) X.xe s1) X.xe s:=by
 cases ik with
 |iz =>
  obtain⟨⟨x,as⟩,hv,h6⟩:=bq h6;obtain⟨p,wq,rfl⟩:=bJ hv;obtain⟨C4,g3⟩:=aE h6;obtain⟨C3,g2⟩:=aE C4;obtain⟨C2,g1⟩:=aE C3;obtain rfl:x=_:=aab C2;obtain⟨y,hu,wG⟩:=bq g3;obtain rfl:as=[y]:=cf hu;exact KS L g1 (aab g2) (kK _ wG) wG
 |kA =>
  obtain⟨⟨x,as⟩,hv,h6⟩:=bq h6;obtain⟨p,wq,rfl⟩:=bJ hv;obtain⟨C4,g3⟩:=aE h6;obtain⟨C3,g2⟩:=aE C4;obtain⟨C2,g1⟩:=aE C3;obtain rfl:x=_:=aab C2;obtain⟨⟨y,z⟩,hu,wG⟩:=bq g3;obtain rfl:as=[y,z]:=gu hu;exact F2 L g1 (aab g2) (kK _ wG) wG
 |seq =>
  have Vw:=pO _ h6;cases es with
  |nil=>exact(aac h6).elim
  |cons c cs=>cases cs with
   |cons _ _=>exact(aac (aE h6).2).elim
   |nil=>exact KR L (Vw 0 c _ rfl rfl).1
 |dj p =>
  obtain⟨h6,g3⟩:=aE h6;obtain⟨xs,ha,wG⟩:=bq g3;exact KU L ha (aE h6).2 (hpe _ wG)
mutual
theorem bC:∀(c:CE) (X:Cx) (S:Sx) (F:aj) (L:Lk X S k Φ) (e:Expr),bT S c e=true->PE X e (tD X F Φ c)/\PT X e (iw X F Φ c)
 |.dj p cs,X,S,F,L,e,h=>by
  obtain⟨args,ha,hb⟩:=bq (aE h).2;exact L.pr.e X _ _ k L.pX p e args ha F cs (jk cs X S F L args hb)
 |.bu,X,S,F,L,e,h=>by
  obtain⟨c,hv,h_1⟩:=bq h;obtain⟨j,p,rfl⟩:=AY hv;obtain rfl:=zR h_1;exact⟨Bq,cY Bq λ_=>rfl⟩
 |.bl b,X,S,F,L,e,h=>by
  obtain⟨c,hv,h_1⟩:=bq h;obtain⟨j,p,rfl⟩:=AY hv;obtain rfl:=CD h_1;exact⟨HC,cY HC λ_=>rfl⟩
 |.int i,X,S,F,L,e,h=>by
  obtain⟨c,hv,h_1⟩:=bq h;obtain⟨j,p,rfl⟩:=AY hv;obtain rfl:=zS h_1;exact⟨Br,cY Br λ_=>rfl⟩
 |.v i,X,S,F,L,e,h=>by
  obtain⟨x,hv,h'⟩:=bq h;obtain⟨p,rfl⟩:=iP hv;have:=Ud (F:=F) L h;exact⟨this,cY this λ_=>rfl⟩
 |.glo x i,X,S,F,L,e,h=>by
  obtain⟨y,hv,h_1⟩:=bq h;obtain⟨pos,rfl⟩:=iP hv;obtain⟨h_2,h3⟩:=aE h_1;obtain⟨pP,h2⟩:=aE h_2;obtain⟨C1,h1⟩:=aE pP;obtain rfl:=aab C1;obtain⟨u,hm,r⟩:=L.cs _ _ (aab h2);have this:PE X (.Name y pos) (tD X F Φ (.glo y i)):=PE.imp (rn (v:=.int i) (L.gl h1) hm r (gL h3)) λσ H Q bW=>by obtain⟨R,τ,ρ,d,Si,ev,hq⟩:=bW;cases ev;exact hq _ H (aM.refl H) .int
  exact⟨this,cY this λ_=>rfl⟩
 |.glt x zs,X,S,F,L,e,h=>by
  obtain⟨y,hv,h_1⟩:=bq h;obtain⟨pos,rfl⟩:=iP hv;obtain⟨h_2,h3⟩:=aE h_1;obtain⟨pP,h2⟩:=aE h_2;obtain⟨C1,h1⟩:=aE pP;obtain rfl:=aab C1;obtain⟨u,hm,a,o,aN,n,rfl,q1,q2,q3,q4,q5⟩:=L.cs _ _ (aab h2);have this:PE X (.Name y pos) (tD X F Φ (.glt y zs)):=PE.imp (rn (v:=.ref a) (L.gl h1) hm rfl (gL h3)) λσ H Q bW=>by
   obtain⟨R,τ,ρ,d,Si,ev,hq⟩:=bW;cases ev;exact hq _ H (aM.refl H) ⟨λ_=>none,λ_ _ h=>by simp at h,.tup (.inr ⟨o,aN,n,q1,q2,q3,q4,q5⟩) (jn zs)⟩
  exact⟨this,cY this λ_=>rfl⟩
 |.bin op a b,X,S,F,L,e,h=>by
  obtain⟨⟨l,o,r⟩,hv,h_1⟩:=bq h;obtain⟨pos,rfl⟩:=EB hv;obtain⟨h_2,h2⟩:=aE h_1;obtain⟨pP,h1⟩:=aE h_2;obtain rfl:o=O9 op:=aab pP;have:=JC (F:=F) (pos:=pos) L (op:=op) (bC a X S F L _ h1).1 (bC b X S F L _ h2).1;exact⟨this,cY this λ_=>rfl⟩
 |.neg a,X,S,F,L,e,h=>by
  obtain⟨⟨o,x⟩,hv,h_1⟩:=bq h;obtain⟨pos,rfl⟩:=AV hv;obtain⟨h_2,h1⟩:=aE h_1;obtain rfl:o=.USub:=aab h_2;have:=Jz (F:=F) (Φ:=Φ) (pos:=pos) (bC a X S F L _ h1).1;exact⟨this,cY this λ_=>rfl⟩
 |.not a,X,S,F,L,e,h=>by
  obtain⟨⟨o,x⟩,hv,h_1⟩:=bq h;obtain⟨pos,rfl⟩:=AV hv;obtain⟨h_2,h1⟩:=aE h_1;obtain rfl:o=.Not:=aab h_2;exact⟨Jy (bC a X S F L _ h1).1,Jq (bC a X S F L _ h1).2⟩
 |.and cs,X,S,F,L,e,h=>by
  obtain⟨⟨o,vs⟩,hv,h_1⟩:=bq h;obtain⟨pos,rfl⟩:=tx hv;obtain⟨h_2,h1⟩:=aE h_1;obtain rfl:o=.And:=aab h_2;exact⟨(lz cs X S F L vs h1 pos).1,(lz cs X S F L vs h1 pos).2.pt⟩
 |.or cs,X,S,F,L,e,h=>by
  obtain⟨⟨o,vs⟩,hv,h_1⟩:=bq h;obtain⟨pos,rfl⟩:=tx hv;obtain⟨h_2,h1⟩:=aE h_1;obtain rfl:o=.Or:=aab h_2;exact⟨(nM cs X S F L vs h1 pos).1,(nM cs X S F L vs h1 pos).2.pt⟩
 |.cmp op a b,X,S,F,L,e,h=>by
  obtain⟨⟨l,os,rs⟩,hv,h_1⟩:=bq h;obtain⟨pos,rfl⟩:=xp hv;obtain⟨h_2,h2⟩:=aE h_1;obtain⟨pP,h1⟩:=aE h_2;obtain⟨r,hr,V8⟩:=bq h2;obtain⟨QT,h3⟩:=aE V8;obtain rfl:os=[UI op]:=aab pP;obtain rfl:rs=[r]:=cf hr;exact⟨PE.imp (xZ (B6 L op) (bC a X S F L _ h1).1 (bC b X S F L _ QT).1 (Cc h3)) λ_ _ _ pP=>uX pP,PT.imp (xQ (B6 L op) (bC a X S F L _ h1).1 (bC b X S F L _ QT).1 (Cc h3)) λ_ _ _ pP=>zl pP⟩
 |.vp a t,X,S,F,L,e,h=>by
  obtain⟨⟨f,as⟩,hv,h_1⟩:=bq h;obtain⟨p,pos,rfl⟩:=bJ hv;obtain⟨h_2,h5⟩:=aE h_1;obtain⟨pP,h2⟩:=aE h_2;obtain⟨C1,h1⟩:=aE pP;obtain rfl:f=_:=aab C1;obtain⟨⟨e,g⟩,hw,Gh⟩:=bq h5;obtain rfl:as=[e,g]:=gu hw;obtain⟨QQ,h6⟩:=aE Gh;obtain⟨x,hn,C4⟩:=bq h6;obtain⟨p',rfl⟩:∃p,g=.Name x p:=iP hn;obtain⟨C3,h4⟩:=aE C4;obtain⟨C2,h3⟩:=aE C3;obtain rfl:=aab C2;have:=JB (F:=F) (p:=p) (p':=p') (pos:=pos) L h1 (aab h2) h3 (aab h4) (bC a X S F L _ QQ).1 (λes=>bz QQ es _);exact⟨this,cY this λ_=>rfl⟩
 |.call f cs,X,S,F,L,e,h=>by
  obtain⟨⟨x,as⟩,hv,h_1⟩:=bq h;obtain⟨p,pos,rfl⟩:=bJ hv;obtain⟨h_2,h4⟩:=aE h_1;obtain⟨pP,h3⟩:=aE h_2;obtain⟨h1,h2⟩:=aE pP;obtain⟨⟨y,ys⟩,hu,rR⟩:=bq h4;obtain rfl:as=y::ys:=qR hu;cases cs with
  |nil=>exact(aac rR).elim
  |cons c IA =>
   have QR:=aE rR;have:=EX (F:=F) (p:=p) (pos:=pos) L (aab h1) h2 h3 (fJ (c::IA) X S F L (y::ys) rR) (λes=>bz QR.1 es _) (λpos=>wV QR.2 pos _);exact⟨this,cY this λ_=>rfl⟩
 |.bf f cs,X,S,F,L,e,h=>by
  obtain⟨⟨x,as⟩,hv,h_1⟩:=bq h;obtain⟨p,pos,rfl⟩:=bJ hv;obtain⟨h_2,h4⟩:=aE h_1;obtain⟨pP,h3⟩:=aE h_2;obtain⟨C1,h2⟩:=aE pP;obtain rfl:x=_:=aab C1;obtain⟨⟨y,ys⟩,hu,rR⟩:=bq h4;obtain rfl:as=y::ys:=qR hu;cases cs with
  |nil=>exact(aac rR).elim
  |cons c IA =>
   have QR:=aE rR;have:=OC (F:=F) (p:=p) (pos:=pos) L h2 (aab h3) (fJ (c::IA) X S F L (y::ys) rR) (λes=>bz QR.1 es _) (λpos=>wV QR.2 pos _);exact⟨this,cY this λ_=>rfl⟩
 |.jx a,X,S,F,L,e,h=>by
  obtain⟨⟨x,as⟩,hv,h_1⟩:=bq h;obtain⟨p,pos,rfl⟩:=bJ hv;obtain⟨h_2,h4⟩:=aE h_1;obtain⟨pP,h2⟩:=aE h_2;obtain⟨C1,h1⟩:=aE pP;obtain rfl:x=_:=aab C1;obtain⟨y,hu,rR⟩:=bq h4;obtain rfl:as=[y]:=cf hu;obtain⟨⟨z,bs⟩,hw,h4_3⟩:=bq rR;obtain⟨p',pos',rfl⟩:=bJ hw;obtain⟨V6,h5⟩:=aE h4_3;obtain⟨V5,h6⟩:=aE V6;obtain⟨V4,h3⟩:=aE V5;obtain rfl:z=_:=aab V4;obtain⟨u,Vn,Gh⟩:=bq h5;obtain rfl:bs=[u]:=cf Vn;have:=EV (F:=F) (p:=p) (p':=p') (pos:=pos) (pos':=pos') L h1 (aab h2) h3 (aab h6) (bC a X S F L _ Gh).1 (λes=>bz Gh es _);exact⟨this,cY this λ_=>rfl⟩
 |.ix a b,X,S,F,L,e,h=>by
  obtain⟨⟨l,r⟩,hv,h_1⟩:=bq h;obtain⟨pos,rfl⟩:=jh hv;obtain⟨h1,h2⟩:=aE h_1;have:=OA (F:=F) (pos:=pos) L (bC a X S F L _ h1).1 (bC b X S F L _ h2).1 (qE h2);exact⟨this,cY this λ_=>rfl⟩
 |.tup cs,X,S,F,L,e,h=>by
  obtain⟨es,hv,h_1⟩:=bq h;obtain⟨n,pos,rfl⟩:=kf hv;obtain⟨h1,h2⟩:=aE h_1;have:=Jx (F:=F) (n:=n) (pos:=pos) (fJ cs X S F L es h1) (aab h2);exact⟨this,cY this λ_=>rfl⟩
 |.lst cs,X,S,F,L,e,h=>by
  obtain⟨es,hv,h_1⟩:=bq h;obtain⟨pos,rfl⟩:=Ex hv;obtain⟨h1,h2⟩:=aE h_1;have:=JA (F:=F) (pos:=pos) (fJ cs X S F L es h1) (aab h2);exact⟨this,cY this λ_=>rfl⟩
 |.comp n t caps ik es bP elt,X,S,F,L,e,h=>by
  obtain⟨⟨jy,gens,sc⟩,hv,h_1⟩:=bq h;obtain⟨pos,rfl⟩:=AX hv;obtain⟨⟨target,iter,ifs,a⟩,hg,h_2⟩:=bq h_1;obtain rfl:gens=_:=cf hg;obtain⟨pP,h6⟩:=aE h_2;obtain⟨C1,h5⟩:=aE pP;obtain⟨h_5,h4⟩:=aE C1;obtain⟨h_6,h3⟩:=aE h_5;obtain⟨h_7,h2⟩:=aE h_6;obtain⟨h_8,h1⟩:=aE h_7;obtain rfl:a=0:=aab h_8;have pO:=λ(X':Cx) (F':aj) (L':Lk X' (S.inner target caps sc) k Φ)=>iS bP X' _ F' L' ifs h4;have this:PE X (.ListComp jy [⟨target,iter,ifs,0⟩] sc pos) (tD X F Φ (.comp n t caps ik es bP elt)) :=
   EW L (qC h1) h2 (λX' F' L'=>(bC elt X' _ F' L' jy h5).1) (uV (aab h3) h4 pO) (Cz L (λl=>fJ es X S F L l) (λl=>iS es X S F L l) (λl=>jk es X S F L l) h6)
  exact⟨this,cY this λ_=>rfl⟩
theorem iS:∀(cs:aF) (X:Cx) (S:Sx) (F:aj) (L:Lk X S k Φ) (es:aA),bH S cs es=true->∀(j:Nat) (c:CE) (e:Expr),cs[j]?=some c->es[j]?=some e->PE X e (tD X F Φ c)/\PT X e (iw X F Φ c)
 |[],X,S,F,L,_,_=>λj c e h _=>by simp at h
 |_::_,X,S,F,L,[],h=>by exact(aac h).elim
 |c::cs,X,S,F,L,e::es,h=>λj c' e' hc he=>by
  replace h:=aE h;cases j with
  |zero=>simp at hc he;subst hc he;exact bC c X S F L e h.1
  |succ j=>exact iS cs X S F L es h.2 j c' e' (by simpa using hc) (by simpa using he)
theorem jk:∀(cs:aF) (X:Cx) (S:Sx) (F:aj) (L:Lk X S k Φ) (es:aA),bH S cs es=true->pb X F Φ cs es
 |[],X,S,F,L,[],_=>trivial
 |[],X,S,F,L,_::_,h=>by exact(aac h).elim
 |_::_,X,S,F,L,[],h=>by exact(aac h).elim
 |c::cs,X,S,F,L,e::es,h=>by
  replace h:=aE h;exact⟨(bC c X S F L e h.1).1,λl=>bz h.1 l _,qE h.1,jk cs X S F L es h.2⟩
theorem fJ:∀(cs:aF) (X:Cx) (S:Sx) (F:aj) (L:Lk X S k Φ) (es:aA),bH S cs es=true->PA X es (pF X F Φ cs)
 |[],X,S,F,L,[],_=>PA.imp d_ λ_ _ _ h=>gX h
 |[],X,S,F,L,_::_,h=>by exact(aac h).elim
 |_::_,X,S,F,L,[],h=>by exact(aac h).elim
 |c::cs,X,S,F,L,e::es,h=>by
  replace h:=aE h;exact PA.imp (cD (bC c X S F L e h.1).1 (fJ cs X S F L es h.2) (bz h.1 es _)) λ_ _ _ h=>eJ h
theorem lz:∀(cs:aF) (X:Cx) (S:Sx) (F:aj) (L:Lk X S k Φ) (es:aA),bH S cs es=true->∀pos,PE X (.BoolOp .And es pos) (tD X F Φ (.and cs))/\PW X (.BoolOp .And es pos) (iw X F Φ (.and cs))
 |[],X,S,F,L,_,_,pos=>⟨λ_ _ _ _ _ _ ⟨_,_,_,_,_,ev,_⟩=>(by cases ev),λ_ _ _ _ _ _ _ bW=>by obtain⟨_,_,_,_,_,ev,_⟩:=bW;cases ev⟩
 |[c],X,S,F,L,[e],h,pos=>by
  replace h:=aE h;exact⟨PE.imp (BY (bC c X S F L e h.1).1) λ_ _ _ h=>Hd h,PW.imp (Fq (bC c X S F L e h.1).2) λ_ _ _ h=>D0 h⟩
 |[_],X,S,F,L,[],h,_=>by exact(aac h).elim
 |[_],X,S,F,L,_::_::_,h,_=>by exact(aac (aE h).2).elim
 |_::_::_,X,S,F,L,[],h,_=>by exact(aac h).elim
 |_::_::_,X,S,F,L,[_],h,_=>by exact(aac (aE h).2).elim
 |c::c'::cs,X,S,F,L,e::e'::es,h,pos=>by
  replace h:=aE h;have r:=lz (c'::cs) X S F L (e'::es) h.2 pos;exact⟨PE.imp (J6 (bC c X S F L e h.1).1 r.1) λ_ _ _ h=>D1 h,PW.imp (JR (bC c X S F L e h.1).2 r.2) λ_ _ _ h=>Av h⟩
theorem nM:∀(cs:aF) (X:Cx) (S:Sx) (F:aj) (L:Lk X S k Φ) (es:aA),bH S cs es=true->∀pos,PE X (.BoolOp .Or es pos) (tD X F Φ (.or cs))/\PW X (.BoolOp .Or es pos) (iw X F Φ (.or cs))
 |[],X,S,F,L,_,_,pos=>⟨λ_ _ _ _ _ _ ⟨_,_,_,_,_,ev,_⟩=>(by cases ev),λ_ _ _ _ _ _ _ bW=>by obtain⟨_,_,_,_,_,ev,_⟩:=bW;cases ev⟩
 |[c],X,S,F,L,[e],h,pos=>by
  replace h:=aE h;exact⟨PE.imp (BY (bC c X S F L e h.1).1) λ_ _ _ h=>J9 h,PW.imp (JQ (bC c X S F L e h.1).2) λ_ _ _ h=>FA h⟩
 |[_],X,S,F,L,[],h,_=>by exact(aac h).elim
 |[_],X,S,F,L,_::_::_,h,_=>by exact(aac (aE h).2).elim
 |_::_::_,X,S,F,L,[],h,_=>by exact(aac h).elim
 |_::_::_,X,S,F,L,[_],h,_=>by exact(aac (aE h).2).elim
 |c::c'::cs,X,S,F,L,e::e'::es,h,pos=>by
  replace h:=aE h;have r:=nM (c'::cs) X S F L (e'::es) h.2 pos;exact⟨PE.imp (OY (bC c X S F L e h.1).1 r.1) λ_ _ _ h=>FC h,PW.imp (OR (bC c X S F L e h.1).2 r.2) λ_ _ _ h=>B4 h⟩
end
theorem eR(L:Lk X S k Φ)(c:CE)(e:Expr)(h:bT S c e=true):PE X e (tD X F Φ c)/\PT X e (iw X F Φ c):=bC c X S F L e h
theorem iR(L:Lk X S k Φ)(cs:aF)(es:aA)(h:bH S cs es=true):pb X F Φ cs es:=jk cs X S F L es h
theorem ku(L:Lk X S k Φ)(cs:aF)(es:aA)(h:bH S cs es=true):PA X es (pF X F Φ cs):=fJ cs X S F L es h
end
section
variable {X:Cx}{S:Sx}{k:Nat}{F:aj}{Φ:aT}
theorem nN(L:Lk X S k Φ)(c:CE)(e:Expr)(h:bT S c e=true):PE X e (tK X F Φ c):=by
 by_cases hv:∃i,c=.v i
 ·obtain⟨i,rfl⟩:=hv;obtain⟨x,hx,ha⟩:=bq h;obtain⟨p,rfl⟩:=iP hx;obtain⟨hb,h3⟩:=aE ha;obtain⟨h1,h2⟩:=aE hb;unfold iV at h3;simp only[Bool.and_eq_true,Bool.not_eq_true']at h3;refine PE.imp (lD (i:=i) (by rw[L.N];exact aab h1) (L.RP h2) h3.1.1 h3.1.2) λσ H Q hq=>?_;obtain⟨R,τ,ρ,r,Si,ev,hq⟩:=hq;simp only[jo]at ev;split at ev
  ·rename_i d hd;split at ev
   ·cases ev;obtain⟨v,τ',hv,dQ,rk⟩:=Si.move hd;exact⟨v,hv,hq v H R τ' (aM.refl H) (λ_ h=>h) dQ rk⟩
   ·rename_i ho;cases ev;obtain⟨v,hv,rp⟩:=Si.rep i d hd;exact⟨v,hv,hq v H R τ (aM.refl H) (λ_ h=>h) Si (z6 rp (by simpa using ho))⟩
  ·cases ev
 ·refine PE.imp (eR (F:=F) L c e h).1 λσ H Q hq=>?_;obtain⟨R,τ,ρ,r,Si,ev,hq⟩:=hq;have Wt:bd (bx Φ c ρ) (λd=>ok (keep c d ρ))=ok r:=by
   cases c<;>first|exact ev|exact absurd ⟨_,rfl⟩ hv
  obtain⟨d,ed,er⟩:=aJ Wt;cases er;refine tD.intro Si ed λv H' e' r'=>?_;obtain⟨R',τ',h1,h2,h3⟩:=HU Si e' r';exact hq v H' R' τ' e' h1 h2 h3
end
structure Kp(R:aj)(H:Hp)(R':aj)(H':Hp):Prop where
 r:∀p,R p->R' p
 l:∀p (o:HO),R p->H p=some o->H' p=some o
 t:∀p xs,H p=some (.tup xs)->H' p=some (.tup xs)
 z:∀p o u,H p=some (.hU o u)->H' p=some (.hU o u)
theorem Kp.refl(R:aj)(H:Hp):Kp R H R H:=⟨λ_ h=>h,λ_ _ _ h=>h,λ_ _ h=>h,λ_ _ _ h=>h⟩
theorem Kp.of(e:aM H H')(h:∀p,R p->R' p):Kp R H R' H':=⟨h,λp xs _ h=>e _ _ h,λp xs h=>e _ _ h,λp o u h=>e _ _ h⟩
theorem Kp.trans{R2:Addr->Prop}(a:Kp R H R1 H1)(b:Kp R1 H1 R2 H2):Kp R H R2 H2 :=
 ⟨λp h=>b.r p (a.r p h),λp xs h e=>b.l p xs (a.r p h) (a.l p xs h e),λp xs h=>b.t p xs (a.t p xs h),λp o u h=>b.z p o u (a.z p o u h)⟩
theorem Kp.MT(a:Kp R H R' H'){p:Addr}(h:bh K H p xs):bh K H' p xs:=by
 rcases h with (h|⟨o,h⟩)|h
 ·exact .inl (.inl (a.t p xs h))
 ·exact .inl (.inr ⟨o,a.z p o _ h⟩)
 ·exact .inr h
theorem Kp.nd{K:au}{R R':aj}{H H':Hp}(a:Kp R H R' H'){q:bt}{p:Addr}{xs:Nd}{f:Fl}(h:DI.nd K R (λ_=>False) (λ_=>none) H q p xs f):DI.nd K R' (λ_=>False) (λ_=>none) H' q p xs f:=by
 cases f with
 |ow=>exact nomatch h.2
 |fz=>exact⟨h.1.at λo e=>a.l p o h.2 e,a.r p h.2⟩
 |al=>exact h.2.elim
 |sc =>
  obtain⟨ys,rfl,h⟩:=h.Bs;exact h.elim (λ⟨o,h⟩=>.inl ⟨o,a.z p o _ h⟩) .inr
theorem Kp.rep(a:Kp R H R' H'){k:bt}{v:V}{d:D}(h:Rep (bh K H) (DI.nd K R (λ_=>False) (λ_=>none) H) k v d):Rep (bh K H') (DI.nd K R' (λ_=>False) (λ_=>none) H') k v d :=
 h.imp (λ_ _ h=>a.MT h) λ_ _ _ _ h=>a.nd h
theorem Kp.OI(a:Kp R H R' H'){k:bt}{n:Nat}{v:af}{d:aa}(h:aI (bh K H) (DI.nd K R (λ_=>False) (λ_=>none) H) k n v d):aI (bh K H') (DI.nd K R' (λ_=>False) (λ_=>none) H') k n v d :=
 h.imp (λ_ _ h=>a.MT h) λ_ _ _ _ h=>a.nd h
def sP(X:Cx)(F:aj)(H':Hp)(v:V)(d:D):Prop:=∃τt:Addr->Option bt,(∀p q,τt p=some q->X.H₀ p=none)/\Rep (bh X.K H') (nd X.K (gP X F) (λ_=>False) τt H') [] v d
theorem iK.ret{v:V}{d:D}(Si:SI X F R τ ρ σ H)(h:iK X R τ H v d):sP X F H v d:=by
 obtain⟨τt,ht,rp⟩:=h;exact⟨τt,λp q e=>(ht p q e).2.2.1,rp.imp (λ_ _ h=>h) λ_ _ _ _ h=>h.mono (λh=>Si.rf _ h) id id⟩
def mn(X:Cx)(F:aj)(D:Ends)(R:aj)(H:Hp):Fo×aX->Prop
 | (.nx,ρ')=>∀σ' H' R' τ',SI X F R' τ' ρ' σ' H'->Kp R H R' H'->D.nx σ' H'
 | (.bk,ρ')=>∀σ' H' R' τ',SI X F R' τ' ρ' σ' H'->Kp R H R' H'->D.bk σ' H'
 | (.ct,ρ')=>∀σ' H' R' τ',SI X F R' τ' ρ' σ' H'->Kp R H R' H'->D.ct σ' H'
 | (.rt d,_)=>∀v H',aM X.H₀ H'->sP X F H' v d->D.rt v H'
def pq(X:Cx)(F:aj)(Φ:aT)(c:CS):TS:=λD σ H=>∃R τ ρ r,SI X F R τ ρ σ H/\iC Φ c ρ=ok r/\mn X F D R H r
def nH(X:Cx)(F:aj)(Φ:aT)(cs:ag):TS:=λD σ H=>∃R τ ρ r,SI X F R τ ρ σ H/\bp Φ cs ρ=ok r/\mn X F D R H r
noncomputable def FU(sc:Scope)(x:Str):Bool:=decide (sc.names.lookup x=some .local)||decide (sc.names.lookup x=some .cell)
def hZ(S:Sx)(i:Nat):Expr->Bool
 |.Name x _=>decide (S.N[i]?=some x)&&FU S.sc x
 |_=>false
def UP:Expr->Bool
 |.Name x _=>iV x
 |_=>true
def DM(S:Sx):aQ->aA->Bool
 |[],es=>match es with
  |[]=>true
  |_::_=>false
 |i::is,es=>match es with
  |[]=>false
  |e::es=>hZ S i e&&DM S is es
def sg(S:Sx):Tg->Expr->Bool
 |.nm i,e=>hZ S i e
 |.tp is,e=>bw (zf e) λes=>DM S is es
noncomputable def dY:Expr->Bool
 |.ListComp _ _ _ _=>true
 |_=>false
noncomputable def isTup:Expr->Bool
 |.Tuple _ _ _=>true
 |_=>false
noncomputable def T6(S:Sx)(tg v:Expr):Bool:=match tg,v with
 |.Name x p,.ListComp _ _ sc pos=>(S.sc.names.lookup x==some .local)&&(p.line==pos.line)&&!(sc.names.any λ(n,k)=>n==x&&(k==.local||k==.cell))
 |_,_=>false
noncomputable def Ja:Expr->Option (Str×Pos)
 |.Name x p=>some (x,p)
 |_=>none
theorem xl{e:Expr}{x:Str}{p:Pos}(h:Ja e=some (x,p)):e=.Name x p:=by
 cases e<;>first|exact nk h | (cases h;done) | (cases h;rfl)
def DL(S:Sx)(i j:Nat)(tg v:Expr):Bool :=
 bw (zf tg) λts=>bw (two ts) λt=>bw (Ja t.1) λx=>bw (Ja t.2) λy=>bw (zf v) λvs=>bw (two vs) λw =>
  decide (S.N[i]?=some x.1)&&decide (S.N[j]?=some y.1)&&decide (i≠j)&&decide (S.sc.names.lookup x.1=some .local)&&decide (S.sc.names.lookup y.1=some .local)&&decide (x.1≠y.1) &&
   decide (x.2.line=y.2.line)&&!([w.1,w.2].all (foldedForSure 8))&&!([w.1,w.2].all (constantsAlone 8))&&decide (([w.1,w.2].any λe=>match e with|.Starred ..=>true|_=>false)=false)
def G1(S:Sx)(it:CI)(e:Expr):Bool:=match it with
 |.iz a=>bw (cX e) λw=>decide (w.1=("range" : Str))&&eM S.sc w.1&&decide (w.1∈S.bl)&&bw (one w.2) λy=>bT S a y
 |.kA a b=>bw (cX e) λw=>decide (w.1=("range" : Str))&&eM S.sc w.1&&decide (w.1∈S.bl)&&bw (two w.2) λy=>bT S a y.1&&bT S b y.2
 |.seq a=>bT S a e&&ql e
 |.uc p es=>OW e&&bw (S.px.pi p S.sc S.bl e) λxs=>bH S es xs
noncomputable def B_:CI->Bool
 |.uc p _=>decide (1100<=p)
 |_=>true
noncomputable def zh:Stmt->Option (aA×Expr)
 |.Assign ts v _=>some (ts,v)
 |_=>none
theorem kh{s:Stmt}{ts:aA}{v:Expr}(h:zh s=some (ts,v)):∃p,s=.Assign ts v p:=by
 cases s<;>first|exact nk h | (cases h;done) | (cases h;exact⟨_,rfl⟩)
noncomputable def NR:Stmt->Option (Option Expr)
 |.Return v _=>some v
 |_=>none
theorem xj{s:Stmt}{v:Option Expr}(h:NR s=some v):∃p,s=.Return v p:=by
 cases s<;>first|exact nk h | (cases h;done) | (cases h;exact⟨_,rfl⟩)
noncomputable def NT:Stmt->Option Expr
 |.Expr v _=>some v
 |_=>none
theorem qP{s:Stmt}{v:Expr}(h:NT s=some v):∃p,s=.Expr v p:=by
 cases s<;>first|exact nk h | (cases h;done) | (cases h;exact⟨_,rfl⟩)
noncomputable def Jb:Stmt->Option (Expr×aZ×aZ)
 |.If t x y _=>some (t,x,y)
 |_=>none
theorem xn{s:Stmt}{t:Expr}{x y:aZ}(h:Jb s=some (t,x,y)):∃q,s=.If t x y q:=by
 cases s<;>first|exact nk h | (cases h;done) | (cases h;exact⟨_,rfl⟩)
noncomputable def NQ:Stmt->Option (Expr×aZ×aZ)
 |.While t x y _=>some (t,x,y)
 |_=>none
theorem Ew{s:Stmt}{t:Expr}{x y:aZ}(h:NQ s=some (t,x,y)):∃q,s=.While t x y q:=by
 cases s<;>first|exact nk h | (cases h;done) | (cases h;exact⟨_,rfl⟩)
noncomputable def Jc:Stmt->Option (Expr×Expr×aZ×aZ)
 |.For tg it x y _=>some (tg,it,x,y)
 |_=>none
theorem xo{s:Stmt}{it:Expr}{x y:aZ}(h:Jc s=some (tg,it,x,y)):∃q,s=.For tg it x y q:=by
 cases s<;>first|exact nk h | (cases h;done) | (cases h;exact⟨_,rfl⟩)
noncomputable def xq:Expr->Option (Expr×Str×Pos)
 |.Attribute o a p=>some (o,a,p)
 |_=>none
theorem tE{e:Expr}{a:Str}{p:Pos}(h:xq e=some (o,a,p)):e=.Attribute o a p:=by
 cases e<;>first|exact nk h | (cases h;done) | (cases h;rfl)
noncomputable def qQ:Expr->Option (Expr×aA×List Keyword×Pos)
 |.Call f as ks p=>some (f,as,ks,p)
 |_=>none
theorem p7{e f:Expr}{ks:List Keyword}{p:Pos}(h:qQ e=some (f,as,ks,p)):e=.Call f as ks p:=by
 cases e<;>first|exact nk h | (cases h;done) | (cases h;rfl)
noncomputable def isNil{α:Type}:List α->Bool
 |[]=>true
 |_::_=>false
theorem kI{α:Type}{l:List α}(h:isNil l=true):l=[]:=by cases l<;>first|rfl|cases h
noncomputable def F4:Stmt->Bool
 |.Raise _ _ _=>true
 |_=>false
theorem sh{i:Nat}{e:Expr}(h:hZ S i e=true):∃x p,e=.Name x p:=by
 cases e<;>first|exact⟨_,_,rfl⟩|exact(aac h).elim
theorem F6{e:Expr}(h:isNm e=true):∃x p,e=.Name x p:=by cases e<;>first|exact nk h | (cases h;done)|exact⟨_,_,rfl⟩
theorem zT{e:Expr}(h:dY e=true):∃x g sc p,e=.ListComp x g sc p:=by cases e<;>first|exact nk h | (cases h;done)|exact⟨_,_,_,_,rfl⟩
mutual
noncomputable def Ai(S:Sx):CS->Stmt->Bool
 |.asg t e,s0=>bw (zh s0) λz=>bw (one z.1) λtg=>bT S e z.2&&sg S t tg&&!(isTup z.2&&isTup tg)&&(!dY z.2||isNm tg)
 |.par i j a b,s0=>bw (zh s0) λz=>bw (one z.1) λtg=>bT S (.tup [a,b]) z.2&&DL S i j tg z.2
 |.ret e,s0=>bw (NR s0) λz=>bw z λv=>bT S e v
 |.rs _,s0=>F4 s0
 |.mut p i es,s0=>bw (S.px.pm p S.sc S.bl s0) λz=>hZ S i z.1&&UP z.1&&bH S es z.2
 |.app i e,s0=>bw (NT s0) λc=>bw (qQ c) λz=>isNil z.2.2.1&&bw (xq z.1) λa=>decide (a.2.1=("append" : Str))&&hZ S i a.1&&UP a.1&&(a.2.2.endLine==z.2.2.2.line)&&bw (one z.2.1) λv=>bT S e v
 |.setI i k e,s0=>bw (zh s0) λz=>bw (one z.1) λtg=>bw (kg tg) λw=>hZ S i w.1&&UP w.1&&bT S k w.2&&bT S e z.2&&!dY z.2
 |.ex e,s0=>bw (NT s0) λv=>bT S e v&&!dY v
 |.ifs c a b,s0=>bw (Jb s0) λz=>bT S c z.1&&dP S a z.2.1&&dP S b z.2.2
 |.Hq c b,s0=>bw (NQ s0) λz=>isNil z.2.2&&bT S c z.1&&dP S b z.2.1
 |.fr t it b,s0=>bw (Jc s0) λz=>isNil z.2.2.2&&sg S t z.1&&G1 S it z.2.1&&(fM z.1||B_ it)&&dP S b z.2.2.1
noncomputable def dP(S:Sx):ag->aZ->Bool
 |[],ss=>match ss with
  |[]=>true
  |_::_=>false
 |c::cs,ss=>match ss with
  |[]=>false
  |s::ss=>Ai S c s&&dP S cs ss
end
structure Ei(px:Px)(Φ:aT):Prop where
 m:∀(X:Cx) (sc:Scope) (bl:aq) (k:Nat),PX X sc bl k->X.N.Nodup->(∀x,X.fn x=true)->∀(p:Nat) (st:Stmt) (x:Str) (pos:Pos) (args:aA),px.pm p sc bl st=some (.Name x pos,args)->∀(i:Nat),X.N[i]?=some x->L2.Loc X.env.scope x->PE X (.Name x pos) (tI i) ->
  ∀(F:aj) (cs:aF),pb X F Φ cs args->PS X st (pq X F Φ (.mut p i cs))
structure j3(X:Cx)(S:Sx)(k:Nat)(Φ:aT):Prop extends Lk X S k Φ where
 oK:∀x,X.fn x=true
 px:PassesOwn (model X.prog X.w) X.A X.env X.xe
 fk:S.sc.kind=.function
 pm:Ei S.px Φ
section
variable {X:Cx}{S:Sx}{k:Nat}{F:aj}{Φ:aT}
theorem j3.loc(L:j3 X S k Φ){x:Str}(h:FU S.sc x=true):L2.Loc X.env.scope x:=by
 unfold L2.Loc;rw[L.sc];unfold FU at h;rw[Bool.or_eq_true]at h;exact h.imp aab aab
theorem HA(L:j3 X S k Φ){x:Str}{p:Pos}{l:Nat}{elt:Expr}{gens:List Comprehension}{sc:Scope}:swapsWith (.ListComp elt gens sc pos) (some (.Name x p)) l X.env=pure (T6 S (.Name x p) (.ListComp elt gens sc pos)):=by
 have hb:X.env.blockKind=.function:=by unfold Env.blockKind;rw[L.sc,L.fk];rfl
 have hk:(X.env.kindOf x==some .local)=(S.sc.names.lookup x==some .local):=by
  unfold Env.kindOf;rw[L.sc]
 unfold swapsWith T6;simp only[hb,hk];rfl
theorem fR{c:CE}{e:Expr}(h:bT S c e=true)(hc:dY e=false)(t:Option Expr)(l:Nat)(env:Env):swapsWith e t l env=pure false:=by
 cases e<;>first|rfl | (cases hc;done) | (cases c<;>exact(aac h).elim)
def Wh:aQ->Hi
 |[]=>LC
 |i::is=>C_ (oH i) (Wh is)
theorem BV(L:j3 X S k Φ){i:Nat}{e:Expr}(h:hZ S i e=true):PG X e (oH i):=by
 cases e<;>try (exact(aac h).elim;done)
 replace h:=aE h;exact mR L.nd (by rw[L.N];exact aab h.1) (L.loc h.2) (.inl (L.oK _))
theorem FL{i:Nat}{e:Expr}(h:hZ S i e=true)(es:aA)(env:Env):assignEach (e::es) env=(false,assign e env)::assignEach es env:=by
 cases e<;>first|rfl | (exact(aac h).elim;done)
theorem BU(L:j3 X S k Φ):∀{is:aQ} {es:aA},DM S is es=true->NF X es (Wh is)/\(assignEach es X.env).length=is.length/\(assignEach es X.env).findIdx? (·.1)=none
 |[],[],_=>⟨xW,rfl,rfl⟩
 |[],_::_,h=>by exact(aac h).elim
 |_::_,[],h=>by exact(aac h).elim
 |i::is,e::es,h=>by
  replace h:=aE h;obtain⟨h1,h2,h3⟩:=BU L h.2;have he:=FL h.1 es X.env;refine⟨ub (BV L h.1) h1 (by rw[he];rfl),by rw[he];simp[h2],?_⟩;rw[he,List.findIdx?_cons];simp[h3]
theorem tQ{H:Hp}{R:aj}{Q:St->Hp->Prop}:∀{is:aQ} {vs:af} {ds:aa} {kp:bt} {n:Nat} {σ:St} {τ:Addr->Option bt} {ρ ρ':aX},aI (bh X.K H) (nd X.K R (λ_=>False) (λ_=>none) H) kp n vs ds->SI X F R τ ρ σ H->iy is ds ρ=ok ρ' ->
  (∀σ' τ',SI X F R τ' ρ' σ' H->Q σ' H)->Wh is vs σ H Q
 |[],_,_,_,_,σ,τ,_,_,.nil,Si,e,hq=>by
  cases e;exact⟨rfl,hq σ τ Si⟩
 |[],_,_,_,_,_,_,_,_,.cons _ _,_,e,_=>by cases e
 |_::_,_,_,_,_,_,_,_,_,.nil,_,e,_=>by cases e
 |i::is,_,_,_,_,σ,τ,ρ,_,.cons (v:=v) (d:=d) h t,Si,e,hq=>by
  change (if _ then _ else _)=_ at e;split at e
  ·rename_i hi;obtain⟨τ',dQ⟩:=Si.set (i:=i) (gc (τ':=τ) (Rep.lH h)) hi;exact⟨_,_,rfl,tQ t dQ e hq⟩
  ·cases e
theorem qa(L:j3 X S k Φ){t:Tg}(h:sg S t tg=true):∃g,PG X tg g/\∀(v:V) (σ:St) (H:Hp) (Q:St->Hp->Prop) (R:aj) (τ:Addr->Option bt) (ρ ρ':aX) (d:D),SI X F R τ ρ σ H->iK X R τ H v d->bQ t d ρ=ok ρ' ->
  (∀σ' τ',SI X F R τ' ρ' σ' H->Q σ' H)->g v σ H Q:=by
 cases t with
 |nm i =>
  refine⟨oH i,BV L h,λv σ H Q R τ ρ ρ' d Si rk e hq=>?_⟩;simp only[bQ]at e;split at e
  ·rename_i hi;cases e;obtain⟨τ',dQ⟩:=Si.set rk hi;exact hq _ τ' dQ
  ·cases e
 |tp is =>
  obtain⟨es,hx,ha⟩:=bq h;obtain⟨nn,pp,rfl⟩:=kf hx;obtain⟨h1,h2,h3⟩:=BU L ha;refine⟨_,BS L.calm h1 h2 h3,λv σ H Q R τ ρ ρ' d Si rk e hq=>?_⟩;cases d<;>try (simp[bQ]at e;done)
  rename_i ds;simp only[bQ]at e;split at e
  ·cases e
  ·rename_i ho;obtain⟨τt,ht,rp⟩:=rk;cases rp with
   | @tup _ p xs _ hp rs =>
    have vU:aI (bh X.K H) (nd X.K R (λ_=>False) (λ_=>none) H) [] 0 xs ds:=aI.without (P:=dF) (λ_ _ h=>h) (λk k' p xs f hf h=>by
     cases f with
     |ow=>cases hf
     |fz=>exact h
     |al=>exact h.2.elim
     |sc=>exact h) rs (by simpa using ho) _ _
    refine⟨p,xs,rfl,hp,?_,tQ vU Si e hq⟩;rw[rs.length];have:∀(is:aQ) (ds:aa) (ρ ρ':aX),iy is ds ρ=ok ρ'->ds.length=is.length:=by
     intro is;induction is with
     |nil=>intro ds ρ ρ' e;cases ds with|nil=>rfl|cons _ _=>cases e
     |cons i is ih=>intro ds ρ ρ' e;cases ds with
      |nil=>cases e
      |cons d ds =>
       change (if _ then _ else _)=_ at e;split at e
       ·simp[ih ds _ _ e]
       ·cases e
    exact this _ _ _ _ e
end
section
variable {X:Cx}{S:Sx}{k:Nat}{F:aj}{Φ:aT}
theorem Bc(L:j3 X S k Φ){t:Tg}{e:CE}{v:Expr}(he:bT S e v=true)(ht:sg S t tg=true)(hp:(isTup v&&isTup tg)=false)(K6:swapsWithSole [tg] v pos.line X.env=pure false):PS X (.Assign [tg] v pos) (pq X F Φ (.asg t e)):=by
 obtain⟨g,hg,pw⟩:=qa (F:=F) L ht;have D9:(∃x p,tg=.Name x p)\/∃es n p,tg=.Tuple es n p:=by
  cases t with
  |nm i=>cases tg<;>first|exact .inl ⟨_,_,rfl⟩|exact(aac ht).elim
  |tp is=>cases tg<;>first|exact .inr ⟨_,_,_,rfl⟩|exact(aac ht).elim
 have each:(assignEach [tg] X.env).map (·.2)=[assign tg X.env]:=by
  rcases D9 with ⟨x,p,rfl⟩|⟨es,n,p,rfl⟩<;>rfl
 have hw:swappedStores [tg] v X.env=pure none:=by
  rcases D9 with ⟨x,p,rfl⟩|⟨es,n,p,rfl⟩
  ·first|rfl | (cases v<;>rfl)
  ·cases v<;>first|rfl|exact absurd hp (by simp[isTup])
 refine PS.imp (vW (nN (F:=F) L.toLk e v he) hg K6 hw each) λD σ H hq=>?_;obtain⟨R,τ,ρ,r,Si,ev,hq⟩:=hq;obtain⟨r1,uO,ev⟩:=aJ ev;obtain⟨ρ',eρ,ev⟩:=aJ ev;cases ev;exact⟨R,τ,ρ,r1,Si,uO,λv H' R' τ' es hR dQ rk=>pw v σ H' _ R' τ' r1.2 ρ' r1.1 dQ rk eρ λσ' jI sM=>hq σ' H' R' jI sM (Kp.of es hR)⟩
theorem ER(L:j3 X S k Φ){i n:Nat}{t:Tg}{ik:IK}{x:Str}{p Ox:Pos}{gens:List Comprehension}{sc:Scope}
  (he:bT S (.comp n t caps ik es bP elt) (.ListComp jy gens sc pos)=true) (hn:hZ S i (.Name x p)=true) (K6:swapsWith (.ListComp jy gens sc pos) (some (.Name x p)) Ox.line X.env=pure true) :
  PS X (.Assign [.Name x p] (.ListComp jy gens sc pos) Ox) (pq X F Φ (.asg (.nm i) (.comp n t caps ik es bP elt))):=by
 intro pins s σ H D I hq;obtain⟨R,τ,ρ,r,Si,ev,hq⟩:=hq;obtain⟨r1,uO,ev⟩:=aJ ev;obtain⟨ρ',eρ,ev⟩:=aJ ev;cases ev;have uO:bd (bx Φ (.comp n t caps ik es bP elt) ρ) (λd=>ok (keep (.comp n t caps ik es bP elt) d ρ))=ok r1:=uO;obtain⟨d,ed,uO⟩:=aJ uO;cases uO;have hg:=BV L hn;rw[exec_Assign_Name_used _ _ _ _ K6];refine aaa (ab5 (aaa ?_));obtain⟨⟨e0,g0,s0⟩,hv0,K2⟩:=bq he;cases hv0;obtain⟨⟨target,iter,ifs,a⟩,VO,hz⟩:=bq K2;obtain rfl:gens=_:=cf VO;obtain⟨hz,h6⟩:=aE hz;obtain⟨hz,h5⟩:=aE hz;obtain⟨hz,h4⟩:=aE hz;obtain⟨hz,h3⟩:=aE hz;obtain⟨hz,h2⟩:=aE hz;obtain⟨hz,h1⟩:=aE hz;obtain rfl:a=0:=aab hz;have hC:=uV (aab h3) h4 (λ(X':Cx) (F':aj) (L':Lk X' (S.inner target caps sc) k Φ)=>iS bP X' _ F' L' ifs h4);have run:wpAny (model X.prog X.w) X.A (comprehension (.ListComp jy [⟨target,iter,ifs,0⟩] sc pos) sc X.env (firstIterPos [⟨target,iter,ifs,0⟩] pos) (newList []) false (eval iter X.env) (some (assign (.Name x p) X.env))) (λ_ s'=>SP X pins D .next s') X.xe s:=by
  refine uW (F:=F) (k:=k) L.toLk (qC h1) h2 (λX' F' L'=>(eR (F:=F') L' elt jy h5).1) hC ?_ (use:=some (assign (.Name x p) X.env)) (Post:=λ_ s'=>SP X pins D .next s') I Si ed ?_
  ·exact Cz L.toLk (λl=>ku (F:=F) L.toLk es l) (λl=>iS es X S F L.toLk l) (λl=>iR L.toLk es l) h6
  ·intro acc C H1 s1 m AF hc IX sm rt;obtain⟨c1,c2,c3,c4,c5⟩:=hc;obtain⟨R',τ',hR,dQ,rk⟩:=HU (e:=.comp n t caps ik es bP elt) Si sm rt;have I1:Inv X pins σ H1 s1:=IX s1.heap (.refl ..);obtain⟨oC,esC,epC,hoC,Yf,hrC⟩:=AF;have cfs:C∉X.fs:=λz=>by
    obtain⟨_,o,ho,_⟩:=I1.ok.jO.mem z;exact absurd (aai (aae ho) c2) (aax _)
   have I2:Inv X ((C,oC)::pins) σ H1 s1:=I1.jm λq hq=>by
    rcases List.mem_cons.mp hq with rfl|hq
    ·exact⟨hoC,c5,c1,cfs,λv z=>by rw[Yf]at z;cases z⟩
    ·exact I1.pin q (aal _ hq)
   simp only[bQ]at eρ;split at eρ
   ·rename_i hi;cases eρ;obtain⟨τ2,pY⟩:=dQ.set rk hi;show wpAny _ _ (assign (.Name x p) X.env (.ref acc)) _ _ _;refine aau (hg ((C,oC)::pins) s1 σ H1 (.ref acc) (.ref acc) (λσ' H'=>σ'=σ.set i (some (.ref acc))/\H'=H1) I2 rfl ⟨rfl,rfl⟩) (λ_ s2 h2=>?_) λ_ _ z=>z;obtain⟨σ',H',I3,rfl,rfl⟩:=h2;have hC3:=(I3.pin (C,oC) (aal _ aaf)).1;refine⟨m,⟨oC,esC,epC,hC3,Yf,hrC⟩,λh' CL=>?_⟩;have I4:Inv X pins (σ.set i (some (.ref acc))) H' s2:=I3.jm λq hq=>I3.pin q (aal _ (aad _ hq));have I5:=I4.turned (t':=s2.toks) (h':=h') (it:=C) (λb o hb e=>(CL.2 b hb).trans e) c5 c1 (.inr c2) c3 c4;exact⟨_,H',I5,hq _ H' R' τ2 pY (Kp.of sm hR)⟩
   ·cases eρ
 exact aaa (aau run (λ_ s' h=>aag (aag h)) λ_ _ z=>z)
theorem Js(L:j3 X S k Φ){e:CE}{v:Expr}(he:bT S e v=true):PS X (.Return (some v) pos) (pq X F Φ (.ret e)):=by
 refine PS.imp (vV (nN (F:=F) L.toLk e v he)) λD σ H hq=>?_;obtain⟨R,τ,ρ,r,Si,ev,hq⟩:=hq;obtain⟨r1,uO,ev⟩:=aJ ev;cases ev;exact⟨R,τ,ρ,r1,Si,uO,λv H' R' τ' es hR dQ rk=>hq v H' dQ.same (rk.ret dQ)⟩
theorem Ow(L:j3 X S k Φ){e:CE}{v:Expr}(he:bT S e v=true)(VD:dY v=false):PS X (.Expr v pos) (pq X F Φ (.ex e)):=by
 refine PS.imp (kE (eR (F:=F) L.toLk e v he).1 (fR he VD _ _ _)) λD σ H hq=>?_;obtain⟨R,τ,ρ,r,Si,ev,hq⟩:=hq;obtain⟨d,ed,ev⟩:=aJ ev;cases ev;exact tD.intro Si ed λv H' es rv=>hq σ H' R τ (Si.go es) (Kp.of es λ_ h=>h)
theorem mn.from{D:Ends}{r:Fo×aX}(h:mn X F D R H r)(kp:Kp R H R1 H1):mn X F D R1 H1 r:=by
 obtain⟨fo,ρ'⟩:=r;cases fo with
 |nx=>exact λσ' H' R' τ' Si k2=>h σ' H' R' τ' Si (kp.trans k2)
 |bk=>exact λσ' H' R' τ' Si k2=>h σ' H' R' τ' Si (kp.trans k2)
 |ct=>exact λσ' H' R' τ' Si k2=>h σ' H' R' τ' Si (kp.trans k2)
 |rt d=>exact h
theorem Ov(L:j3 X S k Φ){c:CE}{a b:ag}{t:Expr}{x y:aZ}(hc:bT S c t=true)(ha:fG X x (nH X F Φ a))(hb:fG X y (nH X F Φ b)):PS X (.If t x y pos) (pq X F Φ (.ifs c a b)):=by
 refine PS.imp (BM (eR (F:=F) L.toLk c t hc).2 ha hb) λD σ H hq=>?_;obtain⟨R,τ,ρ,r,Si,ev,hq⟩:=hq;obtain⟨w,ew,ev⟩:=aJ ev;refine⟨R,τ,ρ,w,Si,ew,λH1 e1=>?_⟩;cases w with
 |true=>rw[if_pos rfl]at ev ⊢;exact⟨R,τ,ρ,r,Si.go e1,ev,hq.from (Kp.of e1 λ_ h=>h)⟩
 |false=>rw[if_neg (by simp)]at ev ⊢;exact⟨R,τ,ρ,r,Si.go e1,ev,hq.from (Kp.of e1 λ_ h=>h)⟩
theorem Bb(L:j3 X S k Φ){c:CE}{b:ag}{t:Expr}{x:aZ}(hc:bT S c t=true)(hb:fG X x (nH X F Φ b)):PS X (.While t x [] pos) (pq X F Φ (.Hq c b)):=by
 refine PS.imp (BJ L.px (eR (F:=F) L.toLk c t hc).2 hb) λD σ H hq=>?_;obtain⟨R,τ,ρ,r,Si,ev,hq⟩:=hq;obtain⟨n,hn⟩:=lG ev;refine⟨λm σ' H'=>∃R' τ' ρ',SI X F R' τ' ρ' σ' H'/\Kp R H R' H'/\df m _ ρ'=ok r,⟨n,R,τ,ρ,Si,Kp.refl R H,hn⟩,?_⟩;rintro m σ1 H1 ⟨R1,τ1,ρ1,o4,k1,e1⟩;cases m with
 |zero=>simp[df]at e1
 |succ m =>
  rw[df]at e1;obtain⟨st,es,e1⟩:=aJ e1;obtain⟨w,ew,es⟩:=aJ es;refine⟨R1,τ1,ρ1,w,o4,ew,λH2 e2=>?_⟩;cases w with
  |false =>
   rw[if_neg (by simp)]at es ⊢;cases es;cases e1;exact hq σ1 H2 R1 τ1 (o4.go e2) (k1.trans (Kp.of e2 λ_ h=>h))
  |true =>
   rw[if_pos rfl]at es ⊢;obtain⟨⟨fo,ρ2⟩,eb,es⟩:=aJ es;refine⟨λσ' H'=>∃R' τ' ρ',SI X F R' τ' ρ' σ' H'/\Kp R H R' H'/\df m _ ρ'=ok r,λσ' H' h=>⟨m,aa5 m,h⟩,R1,τ1,ρ1,(fo,ρ2),o4.go e2,eb,?_⟩;have k2:Kp R H R1 H2:=k1.trans (Kp.of e2 λ_ h=>h);cases fo with
   |nx=>cases es;exact λσ' H' R' τ' dQ k3=>⟨R',τ',ρ2,dQ,k2.trans k3,e1⟩
   |ct=>cases es;exact λσ' H' R' τ' dQ k3=>⟨R',τ',ρ2,dQ,k2.trans k3,e1⟩
   |bk=>cases es;cases e1;exact λσ' H' R' τ' dQ k3=>hq σ' H' R' τ' dQ (k2.trans k3)
   |rt d=>cases es;cases e1;exact hq
def la(X:Cx)(F:aj)(Φ:aT)(t:Tg)(b:ag)(R1:aj)(H1:Hp)(r:Fo×aX)(items:List DI.D)(i:Nat)(σ:St)(H:Hp):Prop :=
 ∃R' τ' ρ',SI X F R' τ' ρ' σ H/\Kp R1 H1 R' H/\cG (λd ρ=>bQ t d ρ) (λρ=>bp Φ b ρ) (items.drop i) ρ'=ok r
theorem oJ{g:TG}{t:Tg}{b:ag}{D:Ends}{r:Fo×aX}{items:List DI.D}{q:bt}
  (pw:∀(v:V) (σ:St) (H:Hp) (Q:St->Hp->Prop) (R:aj) (τ:Addr->Option bt) (ρ ρ':aX) (d:DI.D),SI X F R τ ρ σ H->iK X R τ H v d->bQ t d ρ=ok ρ'->(∀σ' τ',SI X F R τ' ρ' σ' H->Q σ' H)->g v σ H Q)
  (rs:aI (bh X.K H1) (nd X.K R1 (λ_=>False) (λ_=>none) H1) q 0 xs items) (hq:mn X F D R1 H1 r) (i:Nat) (x:V) (σ:St) (H:Hp) (hx:xs[i]?=some x) (h:la X F Φ t b R1 H1 r items i σ H) :
  g x σ H λσ2 H2=>nH X F Φ b { D with nx:=la X F Φ t b R1 H1 r items (i+1),ct:=la X F Φ t b R1 H1 r items (i+1),bk:=D.nx } σ2 H2:=by
 obtain⟨R',τ',ρ',Si,kp,ef⟩:=h;obtain⟨d,hd,rd⟩:=rs.uH hx;have hi:i<items.length:=by
  by_cases hi:i<items.length
  ·exact hi
  ·rw[List.getElem?_eq_none (by left)]at hd;cases hd
 have kL:items.drop i=d::items.drop (i+1):=by
  rw[List.drop_eq_getElem_cons hi];rw[List.getElem?_eq_getElem hi]at hd;cases hd;rfl
 rw[kL,cG]at ef;obtain⟨ρ1,e1,ef⟩:=aJ ef;obtain⟨⟨fo,ρ2⟩,e2,ef⟩:=aJ ef;refine pw x σ H _ R' τ' ρ' ρ1 d Si (gc (Rep.lH (kp.rep rd))) e1 λσ' jI dQ=>⟨R',jI,ρ1,(fo,ρ2),dQ,e2,?_⟩
 cases fo with
 |nx=>exact λσ3 H3 R3 τ3 sL k3=>⟨R3,τ3,ρ2,sL,kp.trans k3,ef⟩
 |ct=>exact λσ3 H3 R3 τ3 sL k3=>⟨R3,τ3,ρ2,sL,kp.trans k3,ef⟩
 |bk=>cases ef;exact λσ3 H3 R3 τ3 sL k3=>hq σ3 H3 R3 τ3 sL (kp.trans k3)
 |rt d=>cases ef;exact hq
theorem m4{t:Tg}{b:ag}{D:Ends}{r:Fo×aX}{items:List DI.D}{n:Nat}(hn:n=items.length)(hq:mn X F D R1 H1 r)(σ:St)(H:Hp)(h:la X F Φ t b R1 H1 r items n σ H):D.nx σ H:=by
 obtain⟨R',τ',ρ',Si,kp,ef⟩:=h;subst hn;rw[List.drop_length,cG]at ef;cases ef;exact hq σ H R' τ' Si kp
theorem yA(ρ:aX):hU [] ρ=ρ:=by
 unfold hU;apply ab9;intro i;rw[List.getElem?_mapIdx];cases ρ[i]? with
 |none=>rfl
 |some o=>simp
theorem mZ{v:V}{d:DI.D}(Si:SI X F R τ ρ σ H)(es:aM H H')(r:ck X.K (gP X F) R τ fv H H' v d):
  ∃R' τ',(∀p,R p->R' p)/\SI X F R' τ' (if ba bI d then hU fv ρ else ρ) σ H'/\Rep (bh X.K H') (nd X.K R' (λ_=>False) (λ_=>none) H') [] v (aY a_ d):=by
 by_cases ha:ba bI d=true
 ·rw[if_pos ha];exact rT Si es r
 ·rw[if_neg ha];have r':ck X.K (gP X F) R τ [] H H' v d:=by
   obtain⟨τt,fr,rp⟩:=r;exact⟨τt,fr,Rep.kb (P:=bI) (λ_ _ h=>h) (λk p xs f hf h=>by
    cases f with
    |ow=>exact h
    |fz=>exact h
    |al=>cases hf
    |sc=>exact h) rp (by simpa using ha)⟩
  have:=rT Si es r';rw[yA]at this;exact this
theorem uJ{ds:List DI.D}(Si:SI X F R τ ρ σ H)(es:aM H H')(r:cy X.K (gP X F) R τ fv H H' vs ds):
  ∃R' τ',(∀p,R p->R' p)/\SI X F R' τ' (if aR bI ds then hU fv ρ else ρ) σ H'/\aI (bh X.K H') (nd X.K R' (λ_=>False) (λ_=>none) H') [] 0 vs (aC a_ ds):=by
 by_cases ha:aR bI ds=true
 ·rw[if_pos ha];exact uI Si es r
 ·rw[if_neg ha];have r':cy X.K (gP X F) R τ [] H H' vs ds:=by
   obtain⟨τt,fr,rp⟩:=r;exact⟨τt,fr,aI.kb (P:=bI) (λ_ _ h=>h) (λk p xs f hf h=>by
    cases f with
    |ow=>exact h
    |fz=>exact h
    |al=>cases hf
    |sc=>exact h) rp (by simpa using ha)⟩
  have:=uI Si es r';rw[yA]at this;exact this
def Xj(X:Cx)(F:aj)(Φ:aT)(p:Nat)(cs:aF):TI:=λσ H Rr=>∃R τ ρ xs d items,SI X F R τ ρ σ H/\bX Φ cs ρ=ok xs/\Φ p xs=ok d/\kv d=ok items /\
 ∀J H2 vs,aM H H2->cy X.K (gP X F) R τ (cU cs) H H2 vs xs->IJ X.K J H2 vs xs items->Rr J H2
theorem EO(L:j3 X S k Φ){t:Tg}{p:Nat}{b:ag}{x:aZ}(ht:sg S t tg=true)(hi:S.px.pi p S.sc S.bl iter=some args)(hc:bH S cs args=true)(wy:OW iter=true)(Vq:(decide (1100<=p)||fM tg)=true)(hb:fG X x (nH X F Φ b)):PS X (.For tg iter x [] pos) (pq X F Φ (.fr t (.uc p cs) b)):=by
 obtain⟨g,hg,pw⟩:=qa (F:=F) L ht;have fO:∀y,foldedSetIterable iter X.env y=pure y:=by
  intro y;cases iter<;>first|rfl | (cases wy;done)
 have pi:PI X tg iter (Xj X F Φ p cs):=λpins s σ H Rr I ⟨R,τ,ρ,xs,d,items,Si,cO,ed,ei,hR⟩ =>
  L.pr.i X _ _ k L.toLk.pX p iter args hi F cs tg Vq (iR L.toLk cs args hc) pins s σ H R τ ρ xs d items I Si cO ed ei Rr hR
 refine PS.imp (g5 L.px L.calm pi hg hb fO) λD σ H hq=>?_;obtain⟨R,τ,ρ,r,Si,ev,hq⟩:=hq;obtain⟨⟨items,ρ1⟩,ei,ef⟩:=aJ ev;obtain⟨xs,cO,ei⟩:=aJ ei;obtain⟨d,ed,ei⟩:=aJ ei;obtain⟨KO,Wy,ei⟩:=aJ ei;cases ei;refine⟨R,τ,ρ,xs,d,items,Si,cO,ed,Wy,λJ H2 vs e2 Bz yz=>?_⟩;obtain⟨R',τ',hR,dQ,rs⟩:=uJ Si e2 Bz;have yq:=hq.from (Kp.of e2 hR);refine⟨λi m σ' H'=>m=items.length - i/\i<=items.length/\la X F Φ t b R' H2 r items i σ' H',⟨_,rfl,aaC _,R',τ',_,dQ,Kp.refl R' H2,by rw[List.drop_zero];exact ef⟩,?_⟩;rintro i m σ1 H1 ⟨rfl,VM,hf⟩;obtain⟨R1,τ1,ρ2,o4,k1,e1⟩:=id hf;have sU:=k1.OI rs;have MR:o3 X.K H2 vs xs H1:=⟨⟨R',rs,k1.l⟩,λa ys h=>k1.MT h⟩
 by_cases fZ:i<items.length
 ·refine .inr ⟨yz.go i H1 R1 MR sU fZ,λσ' H'=>la X F Φ t b R' H2 r items (i+1) σ' H',λσ' H' h=>⟨items.length - (i+1),by left,rfl,fZ,h⟩,λv H3 hy=>?_⟩;obtain⟨e3,dd,hd,rd⟩:=yz.tj i H1 R1 v H3 MR sU fZ hy;have kL:items.drop i=dd::items.drop (i+1):=by
   rw[List.drop_eq_getElem_cons fZ];rw[List.getElem?_eq_getElem fZ]at hd;cases hd;rfl
  rw[kL,cG]at e1;obtain⟨ρ3,eb,e1⟩:=aJ e1;obtain⟨⟨fo,ρ4⟩,e4,e1⟩:=aJ e1;have k3:Kp R' H2 R1 H3:=k1.trans (Kp.of e3 λ_ h=>h);refine pw v σ1 H3 _ R1 τ1 ρ2 ρ3 dd (o4.go e3) (gc rd) eb λσ' jI sM=>⟨R1,jI,ρ3,(fo,ρ4),sM,e4,?_⟩
  cases fo with
  |nx=>exact λσ3 H4 R3 τ3 sL k4=>⟨R3,τ3,ρ4,sL,k3.trans k4,e1⟩
  |ct=>exact λσ3 H4 R3 τ3 sL k4=>⟨R3,τ3,ρ4,sL,k3.trans k4,e1⟩
  |bk=>cases e1;exact λσ3 H4 R3 τ3 sL k4=>yq σ3 H4 R3 τ3 sL (k3.trans k4)
  |rt d=>cases e1;exact yq
 ·exact .inl ⟨yz.stop i H1 R1 MR sU (by left),m4 (n:=i) (by left) yq σ1 H1 hf⟩
theorem aI.ints{T:mK}{N:gJ}:∀(is:ae) {k:bt} {n:Nat},aI T N k n (is.map V.int) (is.map DI.D.int)
 |[],_,_=>.nil
 |i::is,_,_=>.cons (.int i) (aI.ints is)
theorem Ju(L:j3 X S k Φ){t:Tg}{it:CI}{b:ag}{x:aZ}(ht:sg S t tg=true)(hi:G1 S it iter=true)(hnp:(fM tg||B_ it)=true)(hb:fG X x (nH X F Φ b)):PS X (.For tg iter x [] pos) (pq X F Φ (.fr t it b)):=by
 obtain⟨g,hg,pw⟩:=qa (F:=F) L ht;have fO:∀y,foldedSetIterable iter X.env y=pure y:=by
  intro y;cases iter<;>first|rfl | (cases it<;>first|exact(aac hi).elim|exact(aac (aE hi).2).elim)
 have iz:∀{lo:Int} {n:Nat} {D:Ends} {R:aj} {τ:Addr->Option bt} {ρ:aX} {σ:St} {H H1:Hp} {r:Fo×aX},SI X F R τ ρ σ H->aM H H1->mn X F D R H r ->
   cG (λd ρ=>bQ t d ρ) (λρ=>bp Φ b ρ) ((List.range n).map λ(k:Nat)=>DI.D.int (lo+(k:Int))) ρ=ok r ->
   ∃W:Nat->Nat->L2.St->Hp->Prop,(∃m,W 0 m σ H1)/\∀i m σ H,W i m σ H ->
    ((Ax lo n).stop i H/\D.nx σ H)\/((Ax lo n).go i H/\∃N:L2.St->Hp->Prop,(∀σ' H',N σ' H'->∃m',m'<m/\W (i+1) m' σ' H')/\∀x H',(Ax lo n).tj i H x H'->g x σ H' λσ2 H2=>nH X F Φ b { D with nx:=N,ct:=N,bk:=D.nx } σ2 H2):=by
  intro lo n D R τ ρ σ H H1 r Si e1 hq ef;have rs:aI (bh X.K H1) (nd X.K R (λ_=>False) (λ_=>none) H1) [] 0 ((List.range n).map λ(k:Nat)=>V.int (lo+(k:Int))) ((List.range n).map λ(k:Nat)=>DI.D.int (lo+(k:Int))):=by
   have:=aI.ints (T:=bh X.K H1) (N:=nd X.K R (λ_=>False) (λ_=>none) H1) ((List.range n).map λ(k:Nat)=>lo+(k:Int)) (k:=[]) (n:=0);rw[List.map_map,List.map_map]at this;exact this
  have yq:=hq.from (Kp.of e1 (R':=R) λ_ h=>h);refine qv (la X F Φ t b R H1 r _) ⟨R,τ,ρ,Si.go e1,Kp.refl R H1,by rw[List.drop_zero];exact ef⟩ (λi σ' H' Ga h=>?_) (λσ' H' h=>m4 (by simp) yq σ' H' h);exact oJ pw rs yq i (.int (lo+i)) σ' H' (by rw[List.getElem?_map,List.getElem?_range Ga];rfl) h
 intro pins s σ H D I zY;cases it with
 |uc p cs =>
  obtain⟨wy,hz⟩:=aE hi;obtain⟨args,ha,Eb⟩:=bq hz;exact EO L ht ha Eb wy (by rw[Bool.or_comm];exact hnp) hb pins s σ H D I zY
 |iz a =>
  obtain⟨R,τ,ρ,r,Si,ev,hq⟩:=zY;obtain⟨⟨items,ρ1⟩,ei,ef⟩:=aJ ev;obtain⟨⟨y,as⟩,hv,hz⟩:=bq hi;obtain⟨p,wq,rfl⟩:=bJ hv;obtain⟨Nb,Eb⟩:=aE hz;obtain⟨P7,h2⟩:=aE Nb;obtain⟨P6,h1⟩:=aE P7;obtain rfl:y=_:=aab P6;obtain⟨e,hu,h3⟩:=bq Eb;obtain rfl:as=[e]:=cf hu;have pa:PA X [e] (pF X F Φ [a]):=PA.imp (cD (eR (F:=F) L.toLk a e h3).1 d_ (bz h3 _ _)) λ_ _ _ h=>by
   have:=eJ h;obtain⟨R,τ,ρ,d,Si,ev,hq⟩:=this;exact⟨R,τ,ρ,d,Si,ev,λv H' e r=>gX (hq v H' e r)⟩
  refine g5 L.px L.calm (lC (L.gl h1) (L.bl _ (aab h2)) pa (bz h3 _ _)) hg hb fO pins s σ H D I ?_;obtain⟨d,ed,ei⟩:=aJ ei;cases d<;>try (simp at ei;done)
  rename_i n;simp at ei;obtain⟨⟨c1,c2⟩,rfl,rfl⟩:=ei;have kM:(cL:Int)=1000000:=rfl;refine⟨R,τ,ρ,[.int n],Si,by show bd (bx Φ a ρ) _=_;rw[ed];rfl,λvs H1 e1 rv=>?_⟩;obtain⟨τt,fr,rs⟩:=rv;cases rs.ints1
  ·refine⟨n,rfl,by left,by left,?_⟩;refine iz (lo:=0) Si e1 hq ?_;simpa using ef
 |kA a c =>
  obtain⟨R,τ,ρ,r,Si,ev,hq⟩:=zY;obtain⟨⟨items,ρ1⟩,ei,ef⟩:=aJ ev;obtain⟨⟨y,as⟩,hv,hz⟩:=bq hi;obtain⟨p,wq,rfl⟩:=bJ hv;obtain⟨Nb,Eb⟩:=aE hz;obtain⟨P7,h2⟩:=aE Nb;obtain⟨P6,h1⟩:=aE P7;obtain rfl:y=_:=aab P6;obtain⟨⟨e,e'⟩,hu,h34⟩:=bq Eb;obtain rfl:as=[e,e']:=gu hu;obtain⟨h3,h4⟩:=aE h34;have pa:PA X [e,e'] (pF X F Φ [a,c]):=ku L.toLk [a,c] [e,e'] (by show(bT S a e&&(bT S c e'&&true))=true;rw[h3,h4];rfl);refine g5 L.px L.calm (qj (L.gl h1) (L.bl _ (aab h2)) pa (by rw[bz h3,bz h4];rfl) (bz h4 _ _)) hg hb fO pins s σ H D I ?_;obtain⟨d,ed,ei⟩:=aJ ei;obtain⟨d',Wz,ei⟩:=aJ ei;cases d<;>try (simp at ei;done)
  cases d'<;>try (simp at ei;done)
  rename_i m _ n;simp at ei;obtain⟨⟨c1,c2,c3,c4⟩,rfl,rfl⟩:=ei;have kM:(cL:Int)=1000000:=rfl;refine⟨R,τ,ρ,[.int m,.int n],Si,by show bd (bx Φ a ρ) _=_;rw[ed];show bd (bd (bx Φ c ρ) _) _=_;rw[Wz];rfl,λvs H1 e1 rv=>?_⟩;obtain⟨τt,fr,rs⟩:=rv;cases rs.ints2
  ·refine⟨m,n,rfl,⟨by left,by left,by left,by left⟩,?_⟩;exact iz (lo:=m) Si e1 hq ef
 |seq a =>
  obtain⟨R,τ,ρ,r,Si,ev,hq⟩:=zY;obtain⟨⟨items,ρ1⟩,ei,ef⟩:=aJ ev;replace hi:=aE hi;obtain⟨d,ed,ei⟩:=aJ ei;have pe:=(eR (F:=F) L.toLk a iter hi.1).1;cases d<;>try (simp at ei;done)
  ·rename_i ds;simp at ei;obtain⟨rfl,rfl⟩:=ei;refine g5 L.px L.calm (v5 pe) hg hb fO pins s σ H D I (tD.intro Si ed λv H1 e1 rv=>?_);obtain⟨R',τ',hR,dQ,rp⟩:=mZ Si e1 rv;rw[aY]at rp;cases rp with
   | @tup _ p xs _ hp rs =>
    have yq:=hq.from (Kp.of e1 hR);refine⟨p,rfl,⟨xs,hp⟩,yD (xs:=xs) (la X F Φ t b R' H1 r (aC a_ ds)) ⟨R',τ',_,dQ,Kp.refl R' H1,by rw[List.drop_zero];exact ef⟩ (λi σ' H' _ h=>?_) (λi x σ' H' hx h=>oJ pw rs yq i x σ' H' hx h) (λσ' H' h=>m4 (rs.length) yq σ' H' h)⟩;obtain⟨R2,τ2,ρ2,_,kp,_⟩:=h;exact kp.MT hp
  ·rename_i f ds;simp at ei;obtain⟨rfl,rfl⟩:=ei;refine g5 L.px L.calm (rm pe) hg hb fO pins s σ H D I (tD.intro Si ed λv H1 e1 rv=>?_);obtain⟨R',τ',hR,dQ,rp⟩:=mZ Si e1 rv;rw[aY]at rp;obtain⟨p,xs,rfl,hp,rs⟩:=rp.pB;have yq:=hq.from (Kp.of e1 hR);refine⟨p,rfl,⟨xs,hp.sq⟩,uK (xs:=xs) (la X F Φ t b R' H1 r (aC a_ ds)) ⟨R',τ',_,dQ,Kp.refl R' H1,by rw[List.drop_zero];exact ef⟩ (λi σ' H' _ h=>?_) (λi x σ' H' hx h=>oJ pw rs yq i x σ' H' hx h) (λσ' H' h=>m4 (rs.length) yq σ' H' h)⟩;obtain⟨R2,τ2,ρ2,_,kp,_⟩:=h;exact(kp.nd hp).sq
theorem rK{ρ':aX}{p:Addr}{q:bt}{n:Nd}{o:HO}(Si:SI X F R' τ' ρ' σ H1)(es:aM H H1)(hR:∀p,R p->R' p)(hp:fU H1 p n)(ht:τ' p=some q):Kp R H R' (upd H1 p o):=by
 obtain⟨o0,Ng,Qh,Nf⟩:=fU.some hp;exact⟨hR,λa u ha e=>by
  have ne:a≠p:=λz=>by subst z;rw[Si.rt _ (hR _ ha)]at ht;cases ht
  rw[aS ne];exact es _ _ e,λa zs e=>by
  have e1:=es _ _ e;have ne:a≠p:=λz=>by subst z;rw[Ng]at e1;cases e1;exact Qh _ rfl
  rw[aS ne];exact e1,λa o u e=>by
  have e1:=es _ _ e;have ne:a≠p:=λz=>by subst z;rw[Ng]at e1;cases e1;exact Nf _ _ rfl
  rw[aS ne];exact e1⟩
theorem iK.go{v:V}{d:DI.D}(h:iK X R τ H v d)(e:aM H H'):iK X R τ H' v d :=
 let ⟨τt,h1,h2⟩:=h;⟨τt,λp q z=>let ⟨a,b,c,d⟩:=h1 p q z;⟨a,b,c,aM.ne e d⟩,h2.imp (λ_ _ h=>bh.same e h) λ_ _ _ _ h=>nd.same e h⟩
theorem UO(L:j3 X S k Φ){i:Nat}(h:hZ S i o=true)(hv:∀x p,o=.Name x p->iV x=true):∃x p,o=.Name x p/\X.N[i]?=some x/\L2.Loc X.env.scope x/\PE X o (tI i):=by
 cases o<;>try (exact(aac h).elim;done)
 rename_i x p;have hn:=hv x p rfl;replace h:=aE h;unfold iV at hn;simp only[Bool.and_eq_true,Bool.not_eq_true']at hn;have hN:X.N[i]?=some x:=by rw[L.N];exact aab h.1
 have hl:=L.loc h.2;exact⟨x,p,rfl,hN,hl,lD hN (hl.imp id .inl) hn.1.1 hn.1.2⟩
theorem yG{e:CE}{r:DI.D×aX}{i:Nat}{ds:List DI.D}(h:jo Φ e ρ=ok r)(ho:r.2[i]?=some (some (.lst .ow ds))):ρ[i]?=some (some (.lst .ow ds)):=by
 by_cases hv:∃j,e=.v j
 ·obtain⟨j,rfl⟩:=hv;simp only[jo]at h;split at h
  ·split at h
   ·cases h;by_cases iA:i=j
    ·subst iA;rw[List.getElem?_set]at ho;simp at ho
    ·rw[List.getElem?_set_ne (Ne.symm iA)]at ho;exact ho
   ·cases h;exact ho
  ·cases h
 ·have h':bd (bx Φ e ρ) (λd=>ok (keep e d ρ))=ok r:=by
   cases e<;>first|exact h|exact absurd ⟨_,rfl⟩ hv
  obtain⟨d,_,er⟩:=aJ h';cases er;unfold keep at ho;split at ho
  ·obtain⟨d',h1,h2⟩:=yB _ _ _ _ ho;split at h2
   ·cases d'<;>simp[aY]at h2;rename_i f ds';cases f<;>simp[a_]at h2
   ·rw[h2];exact h1
  ·exact ho
theorem Jv(L:j3 X S k Φ){i:Nat}{e:CE}{x:Str}{v:Expr}{p p2:Pos}(hn:hZ S i (.Name x p)=true)(hx:iV x=true)(he:bT S e v=true)(sX:(p1.endLine==p2.line)=true):PS X (.Expr (.Call (.Attribute (.Name x p) ("append" : Str) p1) [v] [] p2) pos) (pq X F Φ (.app i e)):=by
 obtain⟨_,_,z,hN,hl,pe⟩:=UO L hn (λy q e=>by cases e;exact hx);cases z;refine PS.imp (kE (HJ abA PySem.F.slot_list_append PySem.F.type_list_append zL pe (cD (nN (F:=F) L.toLk e v he) d_ (bz he _ _)) (hfew:=by rw[bz he];rfl) (hline:=sX) (hs:=bz he _ _))) λD σ H hq=>?_;obtain⟨R,τ,ρ,r,Si,ev,hq⟩:=hq;obtain⟨r1,uO,ev⟩:=aJ ev;split at ev
 ·rename_i ds ho;split at ev
  ·rename_i hc;cases ev;have ho:=x8 ho;obtain⟨a,xs,hv,ha,X4,X5,_⟩:=Si.own (yG uO ho);refine⟨.ref a,hv,.inl ⟨rfl,_,dz.of ha⟩,R,τ,ρ,r1,Si,uO,λw H1 R1 τ1 es hR o4 rk=>?_⟩;obtain⟨a1,Tf,K5,Ih,Vi,CJ,sU⟩:=o4.own ho;rw[hv]at K5;cases K5;have hz:sizeLine=16777216:=aaU;have kM:cL=1000000:=rfl;refine⟨a,Tf,w,rfl,rfl,Ih,by left,?_⟩;obtain⟨τ2,pY⟩:=o4.put (m:=ds.length) (g:=λys=>ys++[w]) ho hv Ih CJ sU rk λrs r=>aI.HB rs (by simpa using r);exact hq σ _ R1 τ2 pY (rK (n:=.l _) o4 es hR Ih CJ)
  ·cases ev
 ·cases ev
theorem EN(L:j3 X S k Φ){i:Nat}{c e:CE}{x:Str}{ke v:Expr}{p:Pos}(hn:hZ S i (.Name x p)=true)(hx:iV x=true)(hk:bT S c ke=true)(he:bT S e v=true)(VD:dY v=false):PS X (.Assign [.Subscript (.Name x p) ke p1] v pos) (pq X F Φ (.setI i c e)):=by
 obtain⟨_,_,z,hN,hl,pe⟩:=UO L hn (λy q e=>by cases e;exact hx);cases z;have hw:swappedStores [.Subscript (.Name x p) ke p1] v X.env=pure none:=by cases v<;>rfl
 have ha:∀u,assign (.Subscript (.Name x p) ke p1) X.env u=(do
   let ov <- holding [u] (eval (.Name x p) X.env)
   let iv <- holding [u,ov] (eval ke X.env)
   standAt p1
   holding [u,ov,iv] (setItem ov iv u)
   release [u,ov,iv] []):=by
  intro u;cases ke<;>first|rfl | (cases c<;>exact(aac hk).elim)
 refine PS.imp (vW (nN (F:=F) L.toLk e v he) (JX pe (eR (F:=F) L.toLk c ke hk).1 set_list ha) (by first|rfl | (cases v<;>rfl) | (unfold swapsWithSole;exact fR he VD _ _ _)) hw rfl) λD σ H hq=>?_;obtain⟨R,τ,ρ,r,Si,ev,hq⟩:=hq;obtain⟨r1,uO,ev⟩:=aJ ev;obtain⟨n,en,ev⟩:=aJ ev;obtain⟨d,ed,en⟩:=aJ en;have en:=F7 en;subst en;split at ev
 ·rename_i ds ho;split at ev
  ·rename_i j hj;cases ev;have ho:=x8 ho;obtain⟨a,xs,hv,ha,X4,X5,_⟩:=Si.own (yG uO ho);refine⟨R,τ,ρ,r1,Si,uO,λw H1 R1 τ1 es hR o4 rk=>?_⟩;refine⟨.ref a,hv,tD.intro o4 ed λu H2 e2 ru=>?_⟩;cases ru.isInt;have pY:=o4.go e2;obtain⟨a2,IV,Sr,VV,Vh,Qa,Fe⟩:=pY.own ho;rw[hv]at Sr;cases Sr;refine⟨a,IV,n,j,rfl,rfl,VV,by rw[Vh];exact hj,?_⟩;obtain⟨τ3,sL⟩:=pY.put (m:=j) (g:=λys=>ys.set j w) ho hv VV Qa Fe (rk.go e2) λrs r=>aI.setAt (j:=j) rs (by simpa using r);exact hq σ _ R1 τ3 sL (rK (n:=.l _) pY (es.trans e2) hR VV Qa)
  ·cases ev
 ·cases ev
end
section
variable {X:Cx}{S:Sx}{k:Nat}{F:aj}{Φ:aT}
theorem JV(x:Str)(p:Pos):(Expr.Name x p).pos=p:=rfl
theorem vL{x y:Str}{px py pt MX:Pos}{kt:Nat}{a b:Expr}(hk:env.scope.kind=.function)(hx:env.scope.names.lookup x=some .local)(hy:env.scope.names.lookup y=some .local)(X3:x≠y)(hl:px.line=py.line)
  (h1:[a,b].all (foldedForSure 8)=false) (h2:[a,b].all (constantsAlone 8)=false) (h3:([a,b].any λe=>match e with|.Starred ..=>true|_=>false)=false) :
  swappedStores [.Tuple [.Name x px,.Name y py] kt pt] (.Tuple [a,b] k2 MX) env=pure (some [x,y]):=by
 have hb:env.blockKind=.function:=by unfold Env.blockKind;rw[hk];rfl
 have kx:env.kindOf x=some .local:=hx;have ky:env.kindOf y=some .local:=hy;have e1:([x,y].eraseDups.length != [x,y].length)=false:=by
  have:¬ (y==x)=true:=by simp;exact λz=>X3 z.symm
  have h':(y==x)=false:=by simpa using this
  simp[List.eraseDups_cons,List.filter,h',X3]
 unfold swappedStores;simp only[hb,h3,List.filterMap_cons,List.filterMap_nil,kx,ky,hl,JV,List.head?_cons,Option.map_some,Option.getD_some,h1,h2];simp only[beq_self_eq_true,Bool.and_self,if_true];rw[if_neg (by simp)];refine(acb ?_).trans ?_
 ·intro z;exact aac (h3.symm.trans z)
 rw[if_neg (by
  rw[e1];simp),if_neg Bool.false_ne_true,if_neg Bool.false_ne_true]
theorem nU{kp:bt}{v:V}{d:DI.D}(h:Rep (bh X.K H) (nd X.K R A τ H) kp v d)(hf:ba anyF d=false):iK X R' τ' H v d :=
 ⟨λ_=>none,λ_ _ h=>by simp at h,Rep.without (P:=anyF) (λ_ _ h=>h) (λk k' p xs f hf h=>by cases hf) h hf _⟩
theorem Jt(L:j3 X S k Φ){i j:Nat}{a b:CE}{v:Expr}(he:bT S (.tup [a,b]) v=true)(hp:DL S i j tg v=true):PS X (.Assign [tg] v pos) (pq X F Φ (.par i j a b)):=by
 obtain⟨ts,K5,q1⟩:=bq hp;obtain⟨kt,pt,rfl⟩:=kf K5;obtain⟨⟨t1,t2⟩,Sr,q2⟩:=bq q1;obtain rfl:ts=[t1,t2]:=gu Sr;obtain⟨⟨x,px⟩,hv3,q3⟩:=bq q2;obtain rfl:t1=_:=xl hv3;obtain⟨⟨y,py⟩,hv4,q4⟩:=bq q3;obtain rfl:t2=_:=xl hv4;obtain⟨vs,hv5,q5⟩:=bq q4;obtain⟨k2,MX,rfl⟩:=kf hv5;obtain⟨⟨ea,eb⟩,hv6,q6⟩:=bq q5;obtain rfl:vs=[ea,eb]:=gu hv6
 ·obtain⟨q7,Nu⟩:=aE q6;obtain⟨q8,h9⟩:=aE q7;obtain⟨q9,h8⟩:=aE q8;obtain⟨UD,h7⟩:=aE q9;obtain⟨ZW,h6⟩:=aE UD;obtain⟨ZV,h5⟩:=aE ZW;obtain⟨ZU,h4⟩:=aE ZV;obtain⟨ZT,h3⟩:=aE ZU;obtain⟨h1,h2⟩:=aE ZT;replace h1:S.N[i]?=some x:=aab h1;replace h2:S.N[j]?=some y:=aab h2;replace h3:=aab h3;replace h4:=aab h4;replace h5:=aab h5;replace h6:=aab h6;replace h7:=aab h7;replace h8:=gL h8;replace h9:=gL h9;replace Nu:=aab Nu;replace he:=aE he;have pa:=ku (F:=F) L.toLk [a,b] [ea,eb] he.1;refine PS.imp (JU L.calm L.nd (by rw[L.N];exact h1) (by rw[L.N];exact h2) h3 (by rw[L.sc];exact h4) (by rw[L.sc];exact h5) pa (vL (by rw[L.sc];exact L.fk) (by rw[L.sc];exact h4) (by rw[L.sc];exact h5) h6 h7 h8 h9 Nu)) λD σ H hq=>?_;obtain⟨R,τ,ρ,r,Si,ev,hq⟩:=hq;obtain⟨d1,ed1,ev⟩:=aJ ev;obtain⟨d2,ed2,ev⟩:=aJ ev;simp only[HY]at ev;obtain⟨⟨f1,f2,l1,l2⟩,rfl⟩:=ev;refine⟨R,τ,ρ,[d1,d2],Si,by show bd (bx Φ a ρ) _=_;rw[ed1];show bd (bd (bx Φ b ρ) _) _=_;rw[ed2];rfl,λvs H1 e1 rv=>?_⟩;obtain⟨τt,fr,rs⟩:=rv;obtain⟨v1,v2,rfl,r1,r2⟩:=rs.two
  ·obtain⟨τ1,S1⟩:=(Si.go e1).set (i:=i) (nU r1 f1) l1;obtain⟨τ2,S2⟩:=S1.set (i:=j) (nU r2 f2) (by simpa using l2);exact⟨v1,v2,rfl,hq _ H1 R τ2 S2 (Kp.of e1 λ_ h=>h)⟩
mutual
theorem vO(L:j3 X S k Φ):∀(c:CS) (st:Stmt),Ai S c st=true->PS X st (pq X F Φ c)
 |.asg t e,st,h=>by
  obtain⟨⟨D9,v⟩,v1,q1⟩:=bq h;obtain⟨pos,rfl⟩:=kh v1;obtain⟨tg,v2,q2⟩:=bq q1;obtain rfl:D9=[tg]:=cf v2;obtain⟨q3,h4⟩:=aE q2;obtain⟨q4,h3⟩:=aE q3;obtain⟨h1,h2⟩:=aE q4;have h1:bT S e v=true:=h1;replace h3:(isTup v&&isTup tg)=false:=gL h3;cases hc:dY v with
  |false=>exact Bc L h1 h2 h3 (fR h1 hc _ _ _)
  |true =>
   have h4:(!dY v||isNm tg)=true:=h4;rw[hc]at h4;obtain⟨x,p,rfl⟩:=F6 h4;obtain⟨jy,gens,sc,NP,rfl⟩:=zT hc;cases e<;>try (exact(aac h1).elim)
   cases t with
   |tp is=>exact(aac h2).elim
   |nm i =>
    cases hb:T6 S (.Name x p) (.ListComp jy gens sc NP)with
    |true=>exact ER L h1 h2 (by rw[HA L,hb])
    |false=>exact Bc L h1 h2 h3 (by
      show swapsWith (.ListComp jy gens sc NP) (some (.Name x p)) pos.line X.env=_;rw[HA L,hb])
 |.par i j a b,st,h=>by
  obtain⟨⟨D9,v⟩,v1,q1⟩:=bq h;obtain⟨pos,rfl⟩:=kh v1;obtain⟨tg,v2,q2⟩:=bq q1;obtain rfl:D9=[tg]:=cf v2;exact Jt L (aE q2).1 (aE q2).2
 |.ret e,st,h=>by
  obtain⟨z,v1,q1⟩:=bq h;obtain⟨pos,rfl⟩:=xj v1;obtain⟨v,v2,q2⟩:=bq q1;obtain rfl:z=some v:=v2;exact Js L q2
 |.rs c,st,h=>λ_ _ _ _ _ _ bW=>by obtain⟨R,τ,ρ,r,Si,ev,hq⟩:=bW;cases ev
 |.ex e,st,h=>by
  obtain⟨v,v1,q1⟩:=bq h;obtain⟨pos,rfl⟩:=qP v1;exact Ow L (aE q1).1 (gL (aE q1).2)
 |.mut p i es,st,h=>by
  obtain⟨⟨o,args⟩,ha,q1⟩:=bq h;obtain⟨q2,h3⟩:=aE q1;obtain⟨h1,h2⟩:=aE q2;obtain⟨x,pp,rfl,hN,hl,pe⟩:=UO L h1 (λy q e=>by cases e;exact h2);exact L.pm.m X _ _ k L.toLk.pX L.nd L.oK p st x pp args ha i hN hl pe F es (iR L.toLk es args h3)
 |.app i e,st,h=>by
  obtain⟨c,v1,q1⟩:=bq h;obtain⟨pos,rfl⟩:=qP v1;obtain⟨⟨fn,as,ks,p2⟩,v2,q2⟩:=bq q1;obtain rfl:c=_:=p7 v2;obtain⟨q3,q4⟩:=aE q2;obtain rfl:ks=[]:=kI q3;obtain⟨⟨o,a,p1⟩,v3,q5⟩:=bq q4;obtain rfl:fn=_:=tE v3;obtain⟨q6,q7⟩:=aE q5;obtain⟨v,v4,h4⟩:=bq q7;obtain rfl:as=[v]:=cf v4;obtain⟨q8,h5⟩:=aE q6;obtain⟨q9,h2⟩:=aE q8;obtain⟨UD,h1⟩:=aE q9;obtain rfl:a=_:=aab UD;obtain⟨x,p,rfl⟩:∃x p,o=.Name x p:=sh h1;exact Jv L h1 h2 h4 h5
 |.setI i k e,st,h=>by
  obtain⟨⟨D9,v⟩,v1,q1⟩:=bq h;obtain⟨pos,rfl⟩:=kh v1;obtain⟨tg,v2,q2⟩:=bq q1;obtain rfl:D9=[tg]:=cf v2;obtain⟨⟨o,ke⟩,v3,q3⟩:=bq q2;obtain⟨p1,rfl⟩:=jh v3;obtain⟨q4,h5⟩:=aE q3;obtain⟨q5,h4⟩:=aE q4;obtain⟨q6,h3⟩:=aE q5;obtain⟨h1,h2⟩:=aE q6;obtain⟨x,p,rfl⟩:∃x p,o=.Name x p:=sh h1;exact EN L h1 h2 h3 h4 (gL h5)
 |.ifs c a b,st,h=>by
  obtain⟨⟨t,x,y⟩,v1,q1⟩:=bq h;obtain⟨pos,rfl⟩:=xn v1;obtain⟨q2,h3⟩:=aE q1;obtain⟨h1,h2⟩:=aE q2;exact Ov L h1 (eG L a _ h2) (eG L b _ h3)
 |.Hq c b,st,h=>by
  obtain⟨⟨t,x,y⟩,v1,q1⟩:=bq h;obtain⟨pos,rfl⟩:=Ew v1;obtain⟨q2,h3⟩:=aE q1;obtain⟨h1,h2⟩:=aE q2;obtain rfl:y=[]:=kI h1;exact Bb L h2 (eG L b _ h3)
 |.fr t it b,st,h=>by
  obtain⟨⟨tg,iter,x,y⟩,v1,q1⟩:=bq h;obtain⟨pos,rfl⟩:=xo v1;obtain⟨q2,h5⟩:=aE q1;obtain⟨q3,h4⟩:=aE q2;obtain⟨q4,h3⟩:=aE q3;obtain⟨h1,h2⟩:=aE q4;obtain rfl:y=[]:=kI h1;exact Ju L h2 h3 h4 (eG L b _ h5)
theorem eG(L:j3 X S k Φ):∀(cs:ag) (qU:aZ),dP S cs qU=true->fG X qU (nH X F Φ cs)
 |[],[],_=>fG.imp xR λD σ H bW=>by obtain⟨R,τ,ρ,r,Si,ev,hq⟩:=bW;cases ev;exact hq σ H R τ Si (Kp.refl R H)
 |[],_::_,h=>by exact(aac h).elim
 |_::_,[],h=>by exact(aac h).elim
 |c::cs,st::qU,h=>by
  replace h:=aE h;have h1:PS X st (pq X F Φ c):=vO L c st h.1;have h2:fG X qU (nH X F Φ cs):=eG L cs qU h.2;refine fG.imp (dS h1 h2) λD σ H hq=>?_;obtain⟨R,τ,ρ,r,Si,ev,hq⟩:=hq;obtain⟨⟨fo,ρ1⟩,e1,ev⟩:=aJ ev;refine⟨R,τ,ρ,(fo,ρ1),Si,e1,?_⟩;cases fo with
  |nx=>exact λσ' H' R' τ' dQ kp=>⟨R',τ',ρ1,r,dQ,ev,hq.from kp⟩
  |bk=>cases ev;exact hq
  |ct=>cases ev;exact hq
  |rt d=>cases ev;exact hq
end
end
variable {mg:Str->Option Value}{ps:aq}{qual:Str}
theorem De{w:World}{x:Str}{f:Addr}{fd:FuncData}{k:Nat}{N bl:aq}{cs:List (Str×GK)}{px:Px}{oK:Nat->Option Str}{m:aw}{body:ag}
  (Fu:AK K x qual st f fd) (Sc:fq N ps (aL st)) (wB:dP ⟨aL st,N,oK,bl,cs,px⟩ body (bD st)=true) (wy:pZ px Φ) (K9:Ei px Φ)
  (uD:∀y∈bl,mg y=none) (pO:∀y i,(y,i)∈cs->∃u,mg y=some u/\Ay K i u)
  (vv:∀g y,oK g=some y->∃(f:Addr) (fd:FuncData) (ps:aq),f_ P w K mg base zc k f fd ps (RV K ps.length (Φ g))/\mg y=some (.ref f)/\PySem.W.keepIn K (.ref f)=true/\Binds K fd ps []/\∀ds r,Φ g ds=ok r->ds.length=ps.length)
  (hm:∀ds r,m ds=ok r->ds.length=ps.length/\zE Φ N.length body ds=ok r):f_ P w K mg base zc (k+1) f fd ps (RV K ps.length m):=by
 refine Fu.ok (N:=N) Sc (λvs H Q E ⟨_,_,_,h,_⟩=>h) λgx A outer s H vs Q E hr vq=>?_;obtain⟨F,ds,r,hl,rs,er,hq⟩:=vq;obtain⟨Sw,wu⟩:=hm ds r er
 let X:=(i8 zc P w K mg base N qual (aL st) f gx A outer s H E).Ea
 have L:j3 X ⟨aL st,N,oK,bl,cs,px⟩ k Φ:=⟨⟨rfl,rfl,Sc.nd,rfl,hr,uD,λg y h=>⟨vv g y h⟩,pO,wy⟩,λ_=>rfl,PassesOwn.never,Sc.kind,K9⟩
 refine⟨nH X F Φ body,eG L body _ wB,?_⟩;unfold zE at wu;obtain⟨⟨fo,ρ'⟩,eb,wu⟩:=aJ wu;have hpl:ps.length<=N.length:=by have:=aaS List.length Sc.pre;rw[List.length_take]at this;left
 have F8:vs.length=ds.length:=rs.length;refine⟨λp=>F p/\H p≠none,λ_=>none,_,(fo,ρ'),⟨?_,λi d hi=>?_,λ_ _=>rfl,λp h=>h.2,λp h=>.inl h.1,λ_ _ h=>by simp at h,λ_ _ h=>by simp at h,aM.refl H⟩,eb,?_⟩
 ·unfold L2.start;simp[F8]
 ·have Qu:i<ds.length:=by
   by_cases jN:i<ds.length
   ·exact jN
   ·rw[List.getElem?_append_right (by simpa using jN)]at hi;rw[List.getElem?_replicate]at hi;split at hi<;>simp at hi
  rw[List.getElem?_append_left (by simpa using Qu),List.getElem?_map]at hi;have hd:ds[i]?=some d:=by
   cases q:ds[i]? with
   |none=>rw[q]at hi;cases hi
   |some z=>rw[q]at hi;simp at hi;rw[hi]
  obtain⟨v,hv,rv⟩:=rs.get hd;refine⟨v,?_,rv.imp (q:=[0+i]) (q':=[i]) (λ_ _ h=>h) λc p xs f h=>?_⟩
  ·unfold L2.start;rw[List.getElem?_append_left (by rw[List.length_map,F8];exact Qu),List.getElem?_map,hv];rfl
  ·cases f with
   |ow=>exact nomatch h.2
   |fz=>exact⟨h.1,h.2,h.1.ne⟩
   |al=>exact h.2.elim
   |sc=>exact h
 ·cases fo with
  |nx =>
   cases wu;exact λσ' H' R' τ' dQ kp=>hq .bu H' dQ.same ⟨λ_=>none,λ_ _ h=>by simp at h,.bu⟩
  |bk=>simp at wu
  |ct=>simp at wu
  |rt d =>
   cases wu;exact λv H' es rr=>hq v H' es rr
structure Ent(P:aH)(w:World)(K:au)(mg:aU)(base:Heap)(k:Nat)(y:Str)(m:aw):Prop where
 ex:∃(f:Addr) (fd:FuncData) (ps:aq),f_ P w K mg base zc k f fd ps (RV K ps.length m)/\mg y=some (.ref f)/\PySem.W.keepIn K (.ref f)=true/\Binds K fd ps []/\∀ds r,m ds=ok r->ds.length=ps.length
theorem Ent.up{w:World}{k k':Nat}{y:Str}{m:aw}(h:Ent P w K mg base k y m)(hk:k<=k'):Ent P w K mg base k' y m:=by
 obtain⟨f,fd,ps,h1,h2⟩:=h.ex;exact⟨f,fd,ps,h1.mono hk,h2⟩
theorem ent{w:World}{x:Str}{f:Addr}{fd:FuncData}{k:Nat}{N bl:aq}{cs:List (Str×GK)}{px:Px}{oK:Nat->Option Str}{m:aw}{body:ag}
  (Fu:AK K x qual st f fd) (hmg:mg x=some (.ref f)) (hb:Binds K fd ps []) (Sc:fq N ps (aL st)) (wB:dP ⟨aL st,N,oK,bl,cs,px⟩ body (bD st)=true) (wy:pZ px Φ) (K9:Ei px Φ) (uD:∀y∈bl,mg y=none) (pO:∀y i,(y,i)∈cs->∃u,mg y=some u/\Ay K i u)
  (vv:∀g y,oK g=some y->Ent P w K mg base k y (Φ g)) (hm:∀ds r,m ds=ok r->ds.length=ps.length/\zE Φ N.length body ds=ok r):Ent P w K mg base (k+1) x m :=
 ⟨f,fd,ps,De Fu Sc wB wy K9 uD pO (λg y h=>(vv g y h).ex) hm,hmg,Fu.kp,hb,λds r h=>(hm ds r h).1⟩
noncomputable def cI{α:Type}(P:α->Prop):List α->Prop
 |[]=>True
 |a::l=>P a/\cI P l
theorem cI.mem{α:Type}{P:α->Prop}:∀{l:List α},cI P l->∀a∈l,P a
 |[],_,_,h=>by cases h
 |_::_,h,_,hm=>(List.mem_cons.mp hm).elim (λe=>e▸h.1) (cI.mem h.2 _)
theorem cI.tab{β:Type}{P:Nat->β->Prop}:∀{l:List (Nat×β)},cI (λp=>P p.1 p.2) l->∀g y,l.lookup g=some y->P g y
 |[],_,_,_,h=>by cases h
 | (k,b)::l,h,g,y,e=>by
  rw[List.lookup_cons]at e;cases hg:g==k with
  |true=>rw[hg]at e;cases e;rw[eq_of_beq hg];exact h.1
  |false=>rw[hg]at e;exact cI.tab h.2 g y e
theorem cI.two{β γ:Type}{P:β->γ->Prop}{l:List (β×γ)}(h:cI (λp=>P p.1 p.2) l)(y:β)(i:γ)(hm:(y,i)∈l):P y i:=cI.mem h _ hm
theorem Py{α:Type}{l:List α}(h:l.length=1):∃a,l=[a]:=List.length_eq_one_iff.mp h
theorem Pw{α:Type}{l:List α}(h:l.length=2):∃a b,l=[a,b]:=by
 cases l with
 |nil=>cases h
 |cons a l=>obtain⟨b,rfl⟩:=Py (Nat.succ.inj h);exact⟨a,b,rfl⟩
theorem Pu{α:Type}{l:List α}(h:l.length=3):∃a b c,l=[a,b,c]:=by
 cases l with
 |nil=>cases h
 |cons a l=>obtain⟨b,c,rfl⟩:=Pw (Nat.succ.inj h);exact⟨a,b,c,rfl⟩
theorem UU{α:Type}{l:List α}(h:l.length=4):∃a b c d,l=[a,b,c,d]:=by
 cases l with
 |nil=>cases h
 |cons a l=>obtain⟨b,c,d,rfl⟩:=Pu (Nat.succ.inj h);exact⟨a,b,c,d,rfl⟩
noncomputable def oz:aa->Option (ae)
 |[]=>some []
 |.int i::ds=>(oz ds).map (i :: ·)
 |_::_=>none
theorem oy:∀ns:ae,oz (ns.map D.int)=some ns
 |[]=>rfl
 |n::ns=>by simp[oz,oy ns]
theorem uf:∀{ds:aa} {ns:ae},oz ds=some ns->ds=ns.map D.int
 |[],ns,h=>by simp[oz]at h;subst h;rfl
 |d::ds,ns,h=>by
  cases d<;>simp[oz]at h;obtain⟨ms,h1,rfl⟩:=h;rw[uf h1];rfl
def rF:aw
 |[.lst .sc ds]=>match oz ds with
  |some ns=>if ns.length<=63 then ok (.bl true)else none
  |none=>none
 |_=>none
theorem FT(h:ns.length<=63):rF [.lst .sc (ns.map D.int)]=ok (.bl true):=by
 simp[rF,oy,h]
section
variable {X:Cx}{pins:ak}{σ:St}{H:Hp}{s:Shared}{h':Heap}
theorem xr(I:Inv X pins σ H s)(hf:∀b∈ch,ph X pins H b)(k:∀b u,b∉ch->s.heap.get? b=some u->h'.get? b=some u):Inv X pins σ H { s with heap:=h',toks:=t' }:=by
 have HN:∀b u,H b=some u->b∉ch:=λb u e z=>by rw[(hf b z).1]at e;cases e
 refine I.step (g':=s.gens) (d':=s.drawn) (ch:=ch) (λb hb=>⟨(hf b hb).2.2.2.1,(hf b hb).2.1,(hf b hb).2.2.2.2.1,(hf b hb).2.2.2.2.2⟩) (λb o _ _ hc e _=>k b o hc e) (λb o _ _ hc e _=>⟨o.slots,k b o hc e⟩) (λ_ _ _ _ n=>n)
  (λb o hc e=>⟨o,k b o hc e⟩) (λ_ _ e=>e) (λ_ _ _ e=>e) (λb ps e=>⟨#[],by rw[e];simp⟩) (λm hm=>?_) (λb u e=>?_) I.bare
 ·obtain⟨o,es,ep,ho,r⟩:=hm;exact⟨o,es,ep,k _ o (λz=>(hf _ z).2.1 rfl) ho,r⟩
 ·refine(I.cm b u e).iJ (λc v hc q=>k c v ?_ q) (λ_ q=>q) λ_ _ q=>q;rcases hc with z|z
  ·rw[z];exact HN b u e
  ·exact HN c _ z
theorem xu{T:Addr}{o:HO}(I:Inv X pins σ H s)(hf:∀b∈ch,ph X pins H b)(k:∀b u,b∉ch->s.heap.get? b=some u->h'.get? b=some u)(hT:s.heap.objs.size<=T)(new:cM X.prog X.w (upd H T o) h' T o):
  Inv X pins σ (upd H T o) { s with heap:=h',toks:=t' }:=by
 have HN:∀b u,H b=some u->b∉ch:=λb u e z=>by rw[(hf b z).1]at e;cases e
 have hn:H T=none:=I.cm.fresh hT;have ne:∀b (u:Obj),s.heap.get? b=some u->b≠T:=λb u e z=>absurd (aae e) (by rw[z];exact Nat.not_lt.mpr hT);have up:∀b u,H b=some u->upd H T o b=some u:=λb u e=>by rw[aS (cg e hn)];exact e
 refine I.step (g':=s.gens) (d':=s.drawn) (ch:=ch) (λb hb=>⟨(hf b hb).2.2.2.1,(hf b hb).2.1,(hf b hb).2.2.2.2.1,(hf b hb).2.2.2.2.2⟩) (λb o _ _ hc e _=>k b o hc e) (λb o _ _ hc e _=>⟨o.slots,k b o hc e⟩) (λb u _ e n=>by rw[aS (ne b u e)];exact n)
  (λb o hc e=>⟨o,k b o hc e⟩) (λ_ _ e=>up _ _ e) (λ_ _ _ e=>up _ _ e) (λb ps e=>⟨#[],by rw[up _ _ e];simp⟩) (λm hm=>?_) (yr (λb u e=>?_) hn new) I.bare
 ·obtain⟨o,es,ep,ho,r⟩:=hm;exact⟨o,es,ep,k _ o (λz=>(hf _ z).2.1 rfl) ho,r⟩
 ·refine(I.cm b u e).iJ (λc v hc q=>k c v ?_ q) (λ_ q=>q) λ_ _ q=>q;rcases hc with z|z
  ·rw[z];exact HN b u e
  ·exact HN c _ z
end
def Xb(K:au)(a b:Addr):It :=
  ⟨λi H=>∃xs ys x y,dz K H a xs/\dz K H b ys/\xs[i]?=some x/\ys[i]?=some y,
   λi H v H'=>∃T x y,(∀xs,dz K H a xs->xs[i]?=some x)/\(∀ys,dz K H b ys->ys[i]?=some y)/\H T=none/\v=.ref T/\H'=upd H T (.tup [x,y]),
   λi H=>∃xs ys,dz K H a xs/\dz K H b ys/\(xs.length<=i\/ys.length<=i)⟩
theorem qT{w:World}{h:Heap}{T:Addr}{x y:V}{u v:Value}(rx:RelV x u)(ry:RelV y v)(e:h.get? T=some { cls:=.type "tuple",data:=.seq #[u,v] }):cM P w H h T (.tup [x,y]) :=
 ⟨by rw[sizeLine_eq];simp,[u,v],.cons rx (.cons ry .nil),⟨_,e,rfl,_,rfl⟩⟩
theorem dh{h:Heap}{a b:Addr}{o u:Obj}(ha:h.get? a=some o)(hb:h.get? b=some u)(hc:o.cls≠u.cls):a≠b:=λz=>by
 subst z;rw[ha]at hb;cases hb;exact hc rfl
theorem A0{w:World}{tp:Pos}{a b z TI TO:Addr}(hTT:TI≠TO)(Nt:i1≠i2):
  Turn P w K (.Tuple elts n1 tp) (Xb K a b) [z,TI,TO,i1,i2] z (λi h=>IsZip h z TI TO .none/\IsPair h TI (.ref i1) (.ref i2)/\(∃x y,IsPair h TO x y)/\h.IsListIter i1 a i/\h.IsListIter i2 b i):=by
 have apart:∀{h:Heap} {x y:Value} {xs ys:aV} {i:Nat},IsZip h z TI TO .none->IsPair h TI (.ref i1) (.ref i2)->IsPair h TO x y->h.IsListIter i1 a i->h.IsListIter i2 b i->h.IsList a xs->h.IsList b ys->ZipApart z TI TO i1 i2 a b:=by
  intro h x y xs ys i hz hI hO l1 l2 ha hb;obtain⟨o1,e1,c1,_⟩:=l1;obtain⟨o2,e2,c2,_⟩:=l2;obtain⟨oa,ea,ca,_⟩:=ha;obtain⟨ob,eb,cb,_⟩:=hb;exact⟨dh hI hz (by simp),dh hO hz (by simp),dh e1 hz (by rw[c1];simp),dh e2 hz (by rw[c2];simp),hTT,dh hI e1 (by rw[c1];simp),dh hI e2 (by rw[c2];simp),dh hO e1 (by rw[c1];simp),dh hO e2 (by rw[c2];simp),Nt,
   dh ea hz (by rw[ca];simp),dh ea hO (by rw[ca];simp),dh ea e1 (by rw[ca,c1];simp),dh ea e2 (by rw[ca,c2];simp),dh eb hz (by rw[cb];simp),dh eb hO (by rw[cb];simp),dh eb e1 (by rw[cb,c1];simp),dh eb e2 (by rw[cb,c2];simp)⟩
 refine⟨by simp,λi h st c hc=>?_,λi h h' st k=>?_,?_,?_,λA i s Q E st hQ=>wpAny_pyIter_zip st.1 hQ⟩
 ·obtain⟨hz,hI,⟨x,y,hO⟩,⟨o1,e1,_,d1⟩,⟨o2,e2,_,d2⟩⟩:=st;simp only[List.mem_cons,List.not_mem_nil,or_false]at hc;rcases hc with rfl|rfl|rfl|rfl|rfl
  ·exact⟨_,hz,λv q=>by cases q⟩
  ·exact⟨_,hI,λv q=>by cases q⟩
  ·exact⟨_,hO,λv q=>by cases q⟩
  ·exact⟨o1,e1,λv q=>by rw[d1]at q;cases q⟩
  ·exact⟨o2,e2,λv q=>by rw[d2]at q;cases q⟩
 ·obtain⟨hz,hI,⟨x,y,hO⟩,l1,l2⟩:=st;exact⟨k z (by simp) _ hz,k TI (by simp) _ hI,⟨x,y,k TO (by simp) _ hO⟩,l1.at λo e=>k i1 (by simp) o e,l2.at λo e=>k i2 (by simp) o e⟩
 ·intro X hP hw hK hc i pins s σ H E I hf st hg;subst hP hw hK;obtain⟨xs,ys,x,y,q1,q2,ex,ey⟩:=hg;obtain⟨hz,hI,⟨x0,y0,hO⟩,l1,l2⟩:=st;obtain⟨aN,rv,p,_⟩:=I.list q1;obtain⟨its',Az,p',_⟩:=I.list q2;obtain⟨u,hu,ru⟩:=rv.get ex;obtain⟨u',Ib,ZN⟩:=Az.get ey;have D:=apart hz hI hO l1 l2 p.isList p'.isList;refine wpAny_pyNext_zip_item D hz hI hO l1 l2 p.isList p'.isList (x:=u) (y:=u') (by simpa using hu) (by simpa using Ib) λh1 z1 o1 a1 b1 t1 Ol k1=>⟨_,rfl,?_⟩
  refine wpAny_letOwnedTupleGo_zip z1 λh2 z2 D_=>?_;have Y6:s.heap.objs.size≠z:=aaw (aae hz);have kk:∀c o,c∉[z,TI,TO,i1,i2]->s.heap.get? c=some o->h2.get? c=some o:=λc o hc e=>by
   simp only[List.mem_cons,List.not_mem_nil,or_false,not_or]at hc;exact D_.extBut c o hc.1 (k1 c o hc.1 hc.2.2.1 hc.2.2.2.1 hc.2.2.2.2 e)
  have hT:h2.get? s.heap.objs.size=some { cls:=.type "tuple",data:=.seq #[u,u'] }:=D_.extBut _ _ Y6 t1;have hn:H s.heap.objs.size=none:=I.cm.fresh (aaj _);refine⟨.ref s.heap.objs.size,upd H s.heap.objs.size (.tup [x,y]),xu (s:=s) (h':=h2) (t':=s.toks) I hf kk (aaj _) (qT ru ZN hT),rfl,⟨_,x,y,λzs hz=>by rw[I.iY hz q1];exact ex,λzs hz=>by rw[I.iY hz q2];exact ey,hn,rfl,rfl⟩,⟨z2,D_.extBut _ _ D.TIz (k1 _ _ D.TIz D.TITO D.TIi1 D.TIi2 hI),⟨_,_,D_.extBut _ _ D.TOz o1⟩,a1.extBut D_.extBut D.i1z,b1.extBut D_.extBut D.i2z⟩,λc hc=>?_⟩;rw[aS]
  ·exact(hf c hc).1
  ·intro z;subst z;simp only[List.mem_cons,List.not_mem_nil,or_false]at hc;rcases hc with e|e|e|e|e
   ·exact absurd (aae hz) (by rw[<- e];exact aax _)
   ·exact absurd (aae hI) (by rw[<- e];exact aax _)
   ·exact absurd (aae hO) (by rw[<- e];exact aax _)
   ·obtain⟨_,w,_⟩:=l1;exact absurd (aae w) (by rw[<- e];exact aax _)
   ·obtain⟨_,w,_⟩:=l2;exact absurd (aae w) (by rw[<- e];exact aax _)
 ·intro X hP hw hK hc i pins s σ H E I hf st hg;subst hP hw hK;obtain⟨xs,ys,q1,q2,hl⟩:=hg;obtain⟨hz,hI,⟨x0,y0,hO⟩,l1,l2⟩:=st;obtain⟨aN,rv,p,_⟩:=I.list q1;obtain⟨its',Az,p',_⟩:=I.list q2;have e1:=rv.length;have e2:=Az.length;refine wpAny_pyNext_zip_end (I.ok.hd hc) (apart hz hI hO l1 l2 p.isList p'.isList) hz hI hO l1 l2 p.isList p'.isList (by simp;left) λh1 k1=>⟨rfl,xr (t':=s.toks) I hf λc o hc e=>?_⟩
  simp only[List.mem_cons,List.not_mem_nil,or_false,not_or]at hc;exact k1 c o hc.1 hc.2.2.1 hc.2.2.2.1 hc.2.2.2.2 e
variable {ta:TA}
theorem JW{tp p:Pos}(hg:Gl X "zip")(hm:X.mg "zip" = none)(ha:PA X [e1,e2] ta)(hs:∀es,starEach (e1::es) X.env=(false,eval e1 X.env)::starEach es X.env)(Nc:∀es,starEach (e2::es) X.env=(false,eval e2 X.env)::starEach es X.env):
  PI X (.Tuple elts n1 tp) (.Call (.Name "zip" p) [e1,e2] [] pos) (λσ H R=>ta σ H λvs H1=>∃a b,vs=[.ref a,.ref b]/\(∃xs,dz X.K H1 a xs)/\(∃ys,dz X.K H1 b ys)/\R (Xb X.K a b) H1):=by
 intro pins s σ H R I h;refine Call_ (eh I hg hm boot_zip (aas (cW (ha pos pins s σ H _ I h) λus s1 bW=>?_) (hs _) (by rw[Nc];rfl)));obtain⟨vs,H1,I1,r1,q1⟩:=bW;obtain⟨a,b,e,⟨xs,q1⟩,⟨ys,q2⟩,q⟩:=q1;subst e;obtain⟨u,v,rfl,ru,rv⟩:=vals2 r1;cases ru;cases rv;obtain⟨aN,_,p1,_⟩:=I1.list q1;obtain⟨its',_,p2,_⟩:=I1.list q2;refine call_zip_2 p1.isList p2.isList λh' z t o l1 l2 sz k=>wpAny_pyIter_zip z ?_;refine⟨s1.heap.objs.size+4,[s1.heap.objs.size+4,s1.heap.objs.size+2,s1.heap.objs.size+3,s1.heap.objs.size,s1.heap.objs.size+1],_,_,H1,rfl,I1.kept (t':=s1.toks) k,A0 (aak (aa5 _)) (aak (aa5 _)),⟨z,t,⟨_,_,o⟩,l1,l2⟩,λb hb=>?_,q⟩;have pz:s1.heap.objs.size<=b:=by
  simp only[List.mem_cons,List.not_mem_nil,or_false]at hb;rcases hb with rfl|rfl|rfl|rfl|rfl<;>first|exact Nat.le_add_right .. |exact aaj _
 exact I1.Ac pz (I1.cm.fresh pz)
def i9(sc:Scope)(bl:aq)(e:Expr):Option (aA):=match cX e with
 |some z=>match two z.2 with
  |some _=>if z.1=("zip" : Str)/\eM sc z.1=true/\z.1∈bl then some z.2 else none
  |none=>none
 |none=>none
theorem qF{sc:Scope}{bl:aq}{e:Expr}(h:i9 sc bl e=some args):∃p pos a b,e=.Call (.Name ("zip" : Str) p) [a,b] [] pos/\args=[a,b]/\eM sc ("zip" : Str)=true/\("zip" : Str)∈bl:=by
 unfold i9 at h;cases hv:cX e with
 |none=>rw[hv]at h;exact nk h
 |some z =>
  obtain⟨x,as⟩:=z;rw[hv]at h;obtain⟨p,pos,rfl⟩:=bJ hv;have h:(match two as with|some _=>if x=("zip" : Str)/\eM sc x=true/\x∈bl then some as else none|none=>none)=some args:=h;cases hw:two as with
  |none=>rw[hw]at h;exact nk h
  |some w =>
   obtain⟨a,b⟩:=w;rw[hw]at h;have h:(if x=("zip" : Str)/\eM sc x=true/\x∈bl then some as else none)=some args:=h;obtain rfl:=gu hw;by_cases hc:x=("zip" : Str)/\eM sc x=true/\x∈bl
   ·rw[if_pos hc]at h;cases h;obtain⟨rfl,h1,h2⟩:=hc;exact⟨_,_,_,_,rfl,rfl,h1,h2⟩
   ·rw[if_neg hc]at h;cases h
theorem nX{a b:Expr}(h:pb X F Φ cs [a,b]):(∃c d,cs=[c,d]/\PE X a (tD X F Φ c)/\PE X b (tD X F Φ d))/\PA X [a,b] (pF X F Φ cs)/\(∀es,starEach (a::es) X.env=(false,eval a X.env)::starEach es X.env)/\(∀es,starEach (b::es) X.env=(false,eval b X.env)::starEach es X.env):=by
 match cs,h with
 |[c,d],h =>
  obtain⟨h1,h2,_,h3,h4,_,_⟩:=h;exact⟨⟨c,d,rfl,h1,h3⟩,PA.imp (cD h1 (PA.imp (cD h3 (PA.imp d_ λ_ _ _ h=>gX h) (h4 _)) λ_ _ _ h=>eJ h) (h2 _)) λ_ _ _ h=>eJ h,h2,h4⟩
 |[],h=>exact h.elim
 |[_],h=>exact h.2.2.2.elim
 |_::_::_::_,h=>exact h.2.2.2.2.2.2.elim
theorem Rep.Tv{k:bt}{v:V}{d:D}(e:aM H H')(h:Rep (bh K H) (nd K R (λ_=>False) (λ_=>none) H) k v d):Rep (bh K H') (nd K R (λ_=>False) (λ_=>none) H') k' v d :=
 (Rep.lH h (k':=k')).imp (λ_ _ h=>bh.same e h) λ_ _ _ _ h=>nd.same e h
theorem Ep{p q:Addr}{f g:Fl}{a b:aa}:IJ K (Xb K p q) H2 [.ref p,.ref q] [.lst f a,.lst g b] (aC a_ (List.zipWith (λx y=>.tup [x,y]) a b)):=by
 have len:(aC a_ (List.zipWith (λx y=>D.tup [x,y]) a b)).length=min a.length b.length:=by rw[aP];simp
 have two:∀{H':Hp} {R':aj},aI (bh K H') (nd K R' (λ_=>False) (λ_=>none) H') [] 0 [.ref p,.ref q] (aC a_ [.lst f a,.lst g b]) ->
   ∃xs ys,dz K H' p xs/\dz K H' q ys/\aI (bh K H') (nd K R' (λ_=>False) (λ_=>none) H') [0] 0 xs (aC a_ a)/\aI (bh K H') (nd K R' (λ_=>False) (λ_=>none) H') [1] 0 ys (aC a_ b):=by
  intro H' R' h;rw[aC,aY,aC,aY,aC]at h;cases h with
  |cons h t=>cases t with
   |cons h' t=>cases h with
    |lst h r=>cases h' with
     |lst h' r'=>exact⟨_,_,h.sq,h'.sq,r,r'⟩
 refine⟨λi H' R' _ h hi=>?_,λi H' R' x ka _ h hi hy=>?_,λi H' R' _ h hi=>?_⟩
 ·obtain⟨xs,ys,h1,h2,r1,r2⟩:=two h;rw[len]at hi;have l1:=r1.length;have l2:=r2.length;rw[aP,List.length_map]at l1 l2;exact⟨xs,ys,xs[i]'(by left),ys[i]'(by left),h1,h2,aan _,aan _⟩
 ·obtain⟨xs,ys,h1,h2,r1,r2⟩:=two h;obtain⟨T,u,v,g1,g2,hn,rfl,rfl⟩:=hy;obtain⟨d1,e1,p1⟩:=r1.uH (g1 xs h1);obtain⟨d2,e2,p2⟩:=r2.uH (g2 ys h2);have es:aM H' (upd H' T (.tup [u,v])):=aM.upd hn;refine⟨es,.tup [d1,d2],?_,.tup (bh.of bj) (.cons (p1.Tv es) (.cons (p2.Tv es) .nil))⟩;rw[aP,List.getElem?_map]at e1 e2 ⊢;obtain⟨c1,q1,rfl⟩:=Option.map_eq_some_iff.mp e1;obtain⟨c2,q2,rfl⟩:=Option.map_eq_some_iff.mp e2;rw[List.getElem?_zipWith,q1,q2];simp[aY,aC]
 ·obtain⟨xs,ys,h1,h2,r1,r2⟩:=two h;rw[len]at hi;have l1:=r1.length;have l2:=r2.length;rw[aP,List.length_map]at l1 l2;exact⟨xs,ys,h1,h2,by left⟩
theorem IT{n:Nat}(hΦ:Φ n=vB){sc:Scope}{bl:aq}{k:Nat}(L:PX X sc bl k){e:Expr}(he:i9 sc bl e=some args)(ht:fM tg=true)(hs:pb X F Φ cs args)
  {pins:ak} {s:Shared} {xs:aa} {d:D} (I:Inv X pins σ H s) (Si:SI X F R τ ρ σ H) (cO:bX Φ cs ρ=ok xs) (ed:Φ n xs=ok d) (ei:kv d=ok items) (Rr:It->Hp->Prop)
  (hR:∀J H2 vs,aM H H2->cy X.K (gP X F) R τ (cU cs) H H2 vs xs->IJ X.K J H2 vs xs items->Rr J H2) :
  wpAny (model X.prog X.w) X.A (eval e X.env) (λv s1=>wpAny (model X.prog X.w) X.A (pyIter v) (Aw X pins σ tg Rr) X.xe s1) X.xe s:=by
 obtain⟨p,pos,a,b,rfl,rfl,h1,h2⟩:=qF he;cases tg<;>try (cases ht;done)
 obtain⟨_,pa,s1,s2⟩:=nX hs;refine JW (L.gl h1) (L.bl _ h2) pa s1 s2 pins s σ H Rr I ⟨R,τ,ρ,xs,Si,cO,λvs H1 e1 rv=>?_⟩;have Uk:=rv;obtain⟨τt,fr,rs⟩:=rv;rw[hΦ]at ed;unfold vB at ed;split at ed
 ·cases ed;cases ei;obtain⟨v,w,rfl,rx,ry⟩:=rs.two;cases rx with
  |lst hx _=>cases ry with
   |lst hy _=>exact⟨_,_,rfl,⟨_,hx.sq⟩,⟨_,hy.sq⟩,hR _ H1 _ e1 Uk Ep⟩
 ·cases ed
section
variable {X:Cx}
end
def gw(f:Str)(sc:Scope)(bl:aq)(e:Expr):Option (aA):=match cX e with
 |some z=>match one z.2 with
  |some _=>if z.1=f/\eM sc z.1=true/\z.1∈bl then some z.2 else none
  |none=>none
 |none=>none
theorem lL{f:Str}{sc:Scope}{bl:aq}{e:Expr}(h:gw f sc bl e=some args):∃p pos a,e=.Call (.Name f p) [a] [] pos/\args=[a]/\eM sc f=true/\f∈bl:=by
 unfold gw at h;cases hv:cX e with
 |none=>rw[hv]at h;exact nk h
 |some z =>
  obtain⟨x,as⟩:=z;rw[hv]at h;obtain⟨p,pos,rfl⟩:=bJ hv;have h:(match one as with|some _=>if x=f/\eM sc x=true/\x∈bl then some as else none|none=>none)=some args:=h;cases hw:one as with
  |none=>rw[hw]at h;exact nk h
  |some a =>
   rw[hw]at h;have h:(if x=f/\eM sc x=true/\x∈bl then some as else none)=some args:=h;obtain rfl:=cf hw;by_cases hc:x=f/\eM sc x=true/\x∈bl
   ·rw[if_pos hc]at h;cases h;obtain⟨rfl,h1,h2⟩:=hc;exact⟨_,_,_,rfl,rfl,h1,h2⟩
   ·rw[if_neg hc]at h;cases h
def Xc(K:au)(a:Addr):It :=
  ⟨λi H=>∃xs x,dz K H a xs/\xs[i]?=some x,
   λi H v H'=>∃T x,(∀xs,dz K H a xs->xs[i]?=some x)/\H T=none/\v=.ref T/\H'=upd H T (.tup [.int i,x]),
   λi H=>∃xs,dz K H a xs/\xs.length<=i⟩
theorem zj{w:World}{tp:Pos}{a e it:Addr}(yt:e≠it):
  Turn P w K (.Tuple elts n1 tp) (Xc K a) [e,it] e (λi h=>(∃old,IsEnum h e it (i:Int) old)/\h.IsListIter it a i):=by
 refine⟨by simp,λi h st c hc=>?_,λi h h' st k=>?_,?_,?_,λA i s Q E st hQ=>?_⟩
 ·obtain⟨⟨old,he⟩,⟨o1,e1,_,d1⟩⟩:=st;simp only[List.mem_cons,List.not_mem_nil,or_false]at hc;rcases hc with rfl|rfl
  ·exact⟨_,he,λv q=>by cases q⟩
  ·exact⟨o1,e1,λv q=>by rw[d1]at q;cases q⟩
 ·obtain⟨⟨old,he⟩,l1⟩:=st;exact⟨⟨old,k e (by simp) _ he⟩,l1.at λo z=>k it (by simp) o z⟩
 ·intro X hP hw hK hc i pins s σ H E I hf st hg;subst hP hw hK;obtain⟨xs,x,q1,ex⟩:=hg;obtain⟨⟨old,he⟩,l1⟩:=st;obtain⟨aN,rv,p,_⟩:=I.list q1;obtain⟨u,hu,ru⟩:=rv.get ex;refine wpAny_pyNext_enum_item he l1 p.isList (x:=u) (by simpa using hu) yt λh1 e1 a1 t1 Ol k1=>⟨_,rfl,?_⟩
  refine wpAny_letOwnedTupleGo_enum e1 λh2 e2 D_=>?_;have ene:s.heap.objs.size≠e:=aaw (aae he);have kk:∀c o,c∉[e,it]->s.heap.get? c=some o->h2.get? c=some o:=λc o hc z=>by
   simp only[List.mem_cons,List.not_mem_nil,or_false,not_or]at hc;exact D_.extBut c o hc.1 (k1 c o hc.1 hc.2 z)
  have hT:h2.get? s.heap.objs.size=some { cls:=.type "tuple",data:=.seq #[.int i s.toks,u] }:=D_.extBut _ _ ene t1;have hn:H s.heap.objs.size=none:=I.cm.fresh (aaj _);have ci:((i+1:Nat):Int)=(i:Int)+1:=by push_cast;rfl
  refine⟨.ref s.heap.objs.size,upd H s.heap.objs.size (.tup [.int i,x]),xu (s:=s) (h':=h2) (t':=s.toks+1) I hf kk (aaj _) (qT ⟨_,rfl⟩ ru hT),rfl,⟨_,x,λzs hz=>by rw[I.iY hz q1];exact ex,hn,rfl,rfl⟩,⟨⟨u,by rw[ci];exact e2⟩,a1.extBut D_.extBut yt.symm⟩,λc hc=>?_⟩;rw[aS]
  ·exact(hf c hc).1
  ·intro z;subst z;simp only[List.mem_cons,List.not_mem_nil,or_false]at hc;rcases hc with z|z
   ·exact absurd (aae he) (by rw[<- z];exact aax _)
   ·obtain⟨_,w,_⟩:=l1;exact absurd (aae w) (by rw[<- z];exact aax _)
 ·intro X hP hw hK hc i pins s σ H E I hf st hg;subst hP hw hK;obtain⟨xs,q1,hl⟩:=hg;obtain⟨⟨old,he⟩,l1⟩:=st;obtain⟨aN,rv,p,_⟩:=I.list q1;have e1:=rv.length;refine wpAny_pyNext_enum_end (I.ok.hd hc) he l1 p.isList (by simp;left) λh1 k1=>⟨rfl,xr (t':=s.toks) I hf λc o hc z=>?_⟩
  simp only[List.mem_cons,List.not_mem_nil,or_false,not_or]at hc;exact k1 c o hc.2 z
 ·obtain⟨⟨old,he⟩,_⟩:=st;exact wpAny_pyIter_enum he hQ
theorem As:bootBuiltins "enumerate" = some (.type "enumerate"):=by decide +kernel
theorem Ft{tp p:Pos}(hg:Gl X "enumerate")(hm:X.mg "enumerate" = none)(ha:PA X [e1] ta)(hs:∀es,starEach (e1::es) X.env=(false,eval e1 X.env)::starEach es X.env):
  PI X (.Tuple elts n1 tp) (.Call (.Name "enumerate" p) [e1] [] pos) (λσ H R=>ta σ H λvs H1=>∃a,vs=[.ref a]/\(∃xs,dz X.K H1 a xs)/\R (Xc X.K a) H1):=by
 intro pins s σ H R I h;refine Call_ (eh I hg hm As (aas (cW (ha pos pins s σ H _ I h) λus s1 bW=>?_) (hs _) rfl));obtain⟨vs,H1,I1,r1,q1⟩:=bW;obtain⟨a,e,⟨xs,q1⟩,q⟩:=q1;subst e;obtain⟨u,rfl,ru⟩:=vals1 r1;cases ru;obtain⟨aN,_,p1,_⟩:=I1.list q1;refine call_enumerate_list p1.isList λh' z l1 sz k=>wpAny_pyIter_enum z ?_;refine⟨s1.heap.objs.size+1,[s1.heap.objs.size+1,s1.heap.objs.size],_,_,H1,rfl,I1.kept (t':=s1.toks) k,zj (Nat.succ_ne_self _),⟨⟨_,z⟩,l1⟩,λb hb=>?_,q⟩;have pz:s1.heap.objs.size<=b:=by
  simp only[List.mem_cons,List.not_mem_nil,or_false]at hb;rcases hb with rfl|rfl<;>first|exact Nat.le_add_right .. |exact aaj _
 exact I1.Ac pz (I1.cm.fresh pz)
noncomputable def br(k:Nat):aa->aa
 |[]=>[]
 |x::xs=>.tup [.int k,x]::br (k+1) xs
def mj:aw
 |[.lst _ a]=>ok (.lst .ow (br 0 a))
 |_=>none
theorem kU:∀(a:aa) (k i:Nat),(br k a)[i]?=(a[i]?).map λx=>.tup [.int ((k+i:Nat):Int),x]
 |[],k,i=>by simp[br]
 |x::xs,k,0=>by simp[br]
 |x::xs,k,i+1=>by
  rw[br,List.getElem?_cons_succ,List.getElem?_cons_succ,kU xs (k+1) i,show k+1+i=k+(i+1) by left]
theorem kT:∀(a:aa) (k:Nat),(br k a).length=a.length
 |[],k=>rfl
 |x::xs,k=>by rw[br,List.length_cons,List.length_cons,kT xs]
theorem Fz{a:Expr}(h:pb X F Φ cs [a]):PA X [a] (pF X F Φ cs)/\(∀es,starEach (a::es) X.env=(false,eval a X.env)::starEach es X.env):=by
 match cs,h with
 |[c],h =>
  obtain⟨h1,h2,_,_⟩:=h;exact⟨PA.imp (cD h1 (PA.imp d_ λ_ _ _ h=>gX h) (h2 _)) λ_ _ _ h=>eJ h,h2⟩
 |[],h=>exact h.elim
 |_::_::_,h=>exact h.2.2.2.elim
theorem AN{p:Addr}{f:Fl}{a:aa}:IJ K (Xc K p) H2 [.ref p] [.lst f a] (aC a_ (br 0 a)):=by
 have len:(aC a_ (br 0 a)).length=a.length:=by rw[aP,List.length_map,kT]
 have two:∀{H':Hp} {R':aj},aI (bh K H') (nd K R' (λ_=>False) (λ_=>none) H') [] 0 [.ref p] (aC a_ [.lst f a]) ->
   ∃xs,dz K H' p xs/\aI (bh K H') (nd K R' (λ_=>False) (λ_=>none) H') [0] 0 xs (aC a_ a):=by
  intro H' R' h;rw[aC,aY,aC]at h;cases h with
  |cons h t=>cases h with
   |lst h r=>exact⟨_,h.sq,r⟩
 refine⟨λi H' R' _ h hi=>?_,λi H' R' x ka _ h hi hy=>?_,λi H' R' _ h hi=>?_⟩
 ·obtain⟨xs,h1,r1⟩:=two h;rw[len]at hi;have l1:=r1.length;rw[aP,List.length_map]at l1;exact⟨xs,xs[i]'(by left),h1,aan _⟩
 ·obtain⟨xs,h1,r1⟩:=two h;obtain⟨T,u,g1,hn,rfl,rfl⟩:=hy;obtain⟨d1,e1,p1⟩:=r1.uH (g1 xs h1);have es:aM H' (upd H' T (.tup [.int i,u])):=aM.upd hn;refine⟨es,.tup [.int i,d1],?_,.tup (bh.of bj) (.cons (.int _) (.cons (p1.Tv es) .nil))⟩;rw[aP,List.getElem?_map]at e1 ⊢;obtain⟨c1,q1,rfl⟩:=Option.map_eq_some_iff.mp e1;rw[kU,q1];simp[aY,aC]
 ·obtain⟨xs,h1,r1⟩:=two h;rw[len]at hi;have l1:=r1.length;rw[aP,List.length_map]at l1;exact⟨xs,h1,by left⟩
theorem GA{n:Nat}(hΦ:Φ n=mj){sc:Scope}{bl:aq}{k:Nat}(L:PX X sc bl k){e:Expr}(he:gw "enumerate" sc bl e=some args)(ht:fM tg=true)(hs:pb X F Φ cs args)
  {pins:ak} {s:Shared} {xs:aa} {d:D} (I:Inv X pins σ H s) (Si:SI X F R τ ρ σ H) (cO:bX Φ cs ρ=ok xs) (ed:Φ n xs=ok d) (ei:kv d=ok items) (Rr:It->Hp->Prop)
  (hR:∀J H2 vs,aM H H2->cy X.K (gP X F) R τ (cU cs) H H2 vs xs->IJ X.K J H2 vs xs items->Rr J H2) :
  wpAny (model X.prog X.w) X.A (eval e X.env) (λv s1=>wpAny (model X.prog X.w) X.A (pyIter v) (Aw X pins σ tg Rr) X.xe s1) X.xe s:=by
 obtain⟨p,pos,a,rfl,rfl,h1,h2⟩:=lL he;cases tg<;>try (cases ht;done)
 obtain⟨pa,s1⟩:=Fz hs;refine Ft (L.gl h1) (L.bl _ h2) pa s1 pins s σ H Rr I ⟨R,τ,ρ,xs,Si,cO,λvs H1 e1 rv=>?_⟩;have Uk:=rv;obtain⟨τt,fr,rs⟩:=rv;rw[hΦ]at ed;unfold mj at ed;split at ed
 ·cases ed;cases ei;obtain⟨v,rfl,rx⟩:=rs.one;cases rx with
  |lst hx _=>exact⟨_,rfl,⟨_,hx.sq⟩,hR _ H1 _ e1 Uk AN⟩
 ·cases ed
section
variable {prog:aH}{w:World}{A:aK}{E:aB}{s:Shared}
def sJ(h:Heap)(vs:ao)(nss:aG):Prop:=vs.length=nss.length/\∀(i:Nat) (ns:ae),nss[i]?=some ns->∃t aN,vs[i]?=some (.ref t)/\IsTup h t aN.toArray/\IntsAre aN ns/\ns≠[]
theorem um{fin:Bool}{Q:Bool->Shared->Prop}:∀{aN FZ:ao} {ns ms:ae} (i:Nat),IntsAre aN ns->IntsAre FZ ms->fin=decide (aN.length<FZ.length)->Q (HT.lexLt ns ms) s->PySem.W.KatLex prog w A true fin Q (aN.zip FZ) i s
 |_,_,_,_,i,.nil,.nil,hf,h=>by subst hf;exact h
 |_,_,_,_,i,.nil,.cons _ _ _,hf,h=>by subst hf;exact h
 |_,_,_,_,i,.cons _ _ _,.nil,hf,h=>by subst hf;exact h
 |_,_,_,_,i,.cons (ns:=ns) a t h1,.cons (ns:=ms) b u h2,hf,h=>by
  rw[HT.dN]at h;refine PySem.W.kat_cons (wpAny_eqBool_int (PySem.W.kat_go (λe=>?_) λe=>?_))
  ·have e:a=b:=by simpa using e
   rw[if_pos e]at h;exact PySem.W.kat_yes (um (i+1) h1 h2 (by rw[hf];simp) h)
  ·have e:¬ a=b:=by simpa using e
   rw[if_neg e]at h;refine PySem.W.kat_no ?_;rw[Bool.true_and];cases i==0 with
   |true=>exact oneLt_int h
   |false=>exact PySem.W.kat_one _ _ (lt_int h)
theorem sJ.mono{h:Heap}{vs:ao}{nss:aG}(k:∀b o,h.get? b=some o->h'.get? b=some o)(t:sJ h vs nss):sJ h' vs nss :=
 ⟨t.1,λi ns e=>let ⟨a,aN,e1,⟨o,ho,r⟩,e3⟩:=t.2 i ns e;⟨a,aN,e1,⟨o,k _ _ ho,r⟩,e3⟩⟩
end
noncomputable def gv(ns:ae):D:=.tup (ns.map D.int)
theorem aI.RD{T:mK}{N:gJ}{q:bt}:∀{n:Nat} {vs ws:af} {ds es:aa},aI T N q n vs ds->aI T N q (n+ds.length) ws es->aI T N q n (vs++ws) (ds++es)
 |_,_,_,_,_,.nil,h=>h
 |n,_,_,_,_,.cons (ds:=ds) h t,h'=>.cons h (aI.RD t (by
   rw[List.length_cons,Nat.add_comm ds.length 1,<- Nat.add_assoc]at h';exact h'))
theorem xD{p a:Addr}{ys:af}{o:HO}(hp:H p=some (.lst xs))(h:bh K H a ys):bh K (upd H p o) a ys:=by
 rcases h with (h|⟨o',h⟩)|h
 ·exact .inl (.inl (by rw[aS (λz=>by subst z;rw[hp]at h;cases h)];exact h))
 ·exact .inl (.inr ⟨o',by rw[aS (λz=>by subst z;rw[hp]at h;cases h)];exact h⟩)
 ·exact .inr h
theorem yb{n i:Nat}{xs:aa}{r:Fo×aX}(ev:wa Φ n i (ou cs xs ρ)=ok r)(ha:aR bI xs=false):∃d d',ρ[i]?=some (some d)/\Φ n (d::xs)=ok d'/\r=(.nx,ρ.set i (some d')):=by
 unfold ou at ev;rw[if_neg (by rw[ha];exact Bool.false_ne_true)]at ev;unfold wa at ev;split at ev
 ·rename_i d hd;obtain⟨d',h1,h2⟩:=aJ ev;cases h2;exact⟨d,d',hd,h1,rfl⟩
 ·cases ev
theorem Ce{n i:Nat}{xs:aa}{r:Fo×aX}(ev:wa Φ n i (ou cs xs ρ)=ok r)(ha:aR bI xs=true):∃d d',Φ n (d::aC a_ xs)=ok d':=by
 unfold ou at ev;rw[if_pos ha]at ev;unfold wa at ev;split at ev
 ·rename_i d hd;obtain⟨d',h1,h2⟩:=aJ ev;exact⟨d,d',h1⟩
 ·cases ev
def J7:D->Option (aa)
 |.lst f ds=>if dF f then some ds else none
 |_=>none
theorem B2{d:D}(h:J7 d=some ds):d=.lst .ow ds:=by
 cases d<;>first|exact nk h | (cases h;done)|skip
 rename_i f es;have h:(if dF f then some es else none)=some ds:=h;cases f<;>first | (cases h;rfl) | (cases h;done)
def Dh(xs:aa):O D:=match two xs with
 |some z=>match J7 z.1 with
  |some ds=>match J7 z.2 with
   |some es=>if aR anyF es=false/\ds.length+es.length<=cL then ok (.lst .ow (ds++es))else none
   |none=>none
  |none=>none
 |none=>none
theorem yE{x y d:D}(h:Dh [x,y]=ok d):∃ds es,x=.lst .ow ds/\y=.lst .ow es/\aR anyF es=false/\ds.length+es.length<=cL/\d=.lst .ow (ds++es):=by
 have h:(match J7 x with|some ds=>(match J7 y with|some es=>if aR anyF es=false/\ds.length+es.length<=cL then ok (.lst .ow (ds++es))else none|none=>none)|none=>none)=ok d:=h;cases h1:J7 x with
 |none=>rw[h1]at h;exact nk h
 |some ds=>cases h2:J7 y with
  |none=>rw[h1,h2]at h;cases h
  |some es =>
   rw[h1,h2]at h;obtain⟨⟨h3,h4⟩,h5⟩:=pv h;exact⟨ds,es,B2 h1,B2 h2,h3,h4,h5.symm⟩
def l6(m:Str)(st:Stmt):Option (Expr×aA):=match NT st with
 |some c=>match qQ c with
  |some z=>match xq z.1 with
   |some y=>if y.2.1=m/\z.2.2.1=[]/\(y.2.2.endLine==z.2.2.2.line)=true then some (y.1,z.2.1)else none
   |none=>none
  |none=>none
 |none=>none
theorem nE{m:Str}(h:l6 m st=some (o,as)):∃p1 p2 pos,st=.Expr (.Call (.Attribute o m p1) as [] p2) pos/\(p1.endLine==p2.line)=true:=by
 unfold l6 at h;cases h1:NT st with
 |none=>rw[h1]at h;exact nk h
 |some c =>
  obtain⟨pos,rfl⟩:=qP h1;rw[h1]at h;cases h2:qQ c with
  |none=>simp only[h2]at h;cases h
  |some z =>
   obtain⟨f,DZ,ks,p2⟩:=z;obtain rfl:=p7 h2;simp only[h2]at h;cases h3:xq f with
   |none=>simp only[h3]at h;cases h
   |some y =>
    obtain⟨o',a,p1⟩:=y;obtain rfl:=tE h3;simp only[h3]at h;by_cases hc:a=m/\ks=[]/\(p1.endLine==p2.line)=true
    ·rw[if_pos hc]at h;cases h;obtain⟨rfl,rfl,hl⟩:=hc;exact⟨p1,p2,pos,rfl,hl⟩
    ·rw[if_neg hc]at h;cases h
def wW(_:Scope)(_:aq)(st:Stmt):Option (Expr×aA):=match l6 ("extend" : Str) st with
 |some z=>match one z.2 with
  |some _=>some z
  |none=>none
 |none=>none
theorem Mc{n:Nat}(hΦ:Φ n=Dh){sc:Scope}{bl:aq}{k:Nat}(L:PX X sc bl k)(hN:X.N.Nodup)(vv:∀x,X.fn x=true){x:Str}(he:wW sc bl st=some (.Name x pos,args))
  {i:Nat} (hi:X.N[i]?=some x) (hl:L2.Loc X.env.scope x) (pe:PE X (.Name x pos) (tI i)) (hs:pb X F Φ cs args):PS X st (pq X F Φ (.mut n i cs)):=by
 unfold wW at he;cases h1:l6 ("extend" : Str) st with
 |none=>rw[h1]at he;exact nk he
 |some z =>
  rw[h1]at he;obtain⟨o,as⟩:=z;cases h2:one as with
  |none=>simp only[h2]at he;cases he
  |some v =>
   simp only[h2]at he;cases he;obtain rfl:=cf h2;obtain⟨p1,p2,pos',rfl,sX⟩:=nE h1;cases cs with
   |nil=>exact hs.elim
   |cons c cs=>cases cs with
    |cons _ _=>exact hs.2.2.2.elim
    |nil =>
     refine PS.imp (kE (HJ abA PySem.F.slot_list_extend PySem.F.type_list_extend zK pe (cD hs.1 d_ (hs.2.1 _)) (hfew:=by rw[hs.2.1];rfl) (hline:=sX) (hs:=hs.2.1 _))) λD σ H hq=>?_;obtain⟨R,τ,ρ,r,Si,ev,hq⟩:=hq;obtain⟨xs,cO,ev⟩:=aJ ev;obtain⟨y,ey,cO⟩:=aJ cO;cases cO;have key:∃ds es,y=.lst .ow es/\ρ[i]?=some (some (.lst .ow ds))/\aR anyF es=false/\ds.length+es.length<=cL/\r=(.nx,ρ.set i (some (.lst .ow (ds++es)))):=by
      cases hz:aR bI [y]with
      |true =>
       obtain⟨d,d',h⟩:=Ce ev hz;rw[hΦ]at h;obtain⟨ds,es,_,h3,_⟩:=yE h;cases y<;>first|exact nk h3 | (cases h3;done)|skip
       rename_i f Iq;cases f<;>cases h3
      |false =>
       obtain⟨d,d',h,h',rfl⟩:=yb ev hz;rw[hΦ]at h';obtain⟨ds,es,rfl,rfl,h3,h4,rfl⟩:=yE h';exact⟨ds,es,rfl,h,h3,h4,rfl⟩
     obtain⟨ds,es,rfl,ho,hf,hc,rfl⟩:=key;obtain⟨a,xs,hv,ha,X4,X5,_⟩:=Si.own ho;refine⟨.ref a,hv,.inl ⟨rfl,_,dz.of ha⟩,tD.intro Si ey λu H1 e1 ru=>?_⟩;have o4:=Si.go e1;obtain⟨a1,Tf,K5,Ih,Vi,CJ,sU⟩:=o4.own ho;rw[hv]at K5;cases K5;obtain⟨τt,fr,rp⟩:=ru;obtain⟨b,zs,rfl,hb,rz⟩:=rp.pB;have hz:sizeLine=16777216:=aaU;have kM:cL=1000000:=rfl;have hzl:=rz.length;refine⟨a,b,Tf,zs,rfl,rfl,Ih,hb.1,by left,?_⟩;obtain⟨τ2,pY⟩:=o4.put (m:=0) (g:=λys=>ys++zs) (v:=.int 0) (d:=.int 0) ho hv Ih CJ sU ⟨λ_=>none,λ_ _ h=>by simp at h,.int 0⟩ λrs _=>aI.RD rs (rz.without (P:=anyF) (λ_ _ h=>xD Ih h) (λ_ _ _ _ _ h=>by cases h) hf _ _);exact hq σ _ R τ2 pY (rK (n:=.l _) o4 e1 (λ_ h=>h) Ih CJ)
section
variable {X:Cx}{F R:aj}{τ:Addr->Option bt}{ρ:aX}{σ:St}{H:Hp}
end
def oV(_:Scope)(_:aq)(st:Stmt):Option (Expr×aA):=match l6 ("clear" : Str) st with
 |some z=>if z.2=[]then(match kg z.1 with
  |some y=>some (y.1,[y.2])
  |none=>none)else none
 |none=>none
theorem Ak{sc:Scope}{bl:aq}(h:oV sc bl st=some (o,args)):∃k p0 p1 p2 pos,args=[k]/\st=.Expr (.Call (.Attribute (.Subscript o k p0) ("clear" : Str) p1) [] [] p2) pos/\(p1.endLine==p2.line)=true:=by
 unfold oV at h;cases h1:l6 ("clear" : Str) st with
 |none=>rw[h1]at h;exact nk h
 |some z =>
  obtain⟨b,as⟩:=z;rw[h1]at h;have h:(if as=[]then(match kg b with|some y=>some (y.1,[y.2])|none=>none)else none)=some (o,args):=h;by_cases ha:as=[]
  ·rw[if_pos ha]at h;cases h2:kg b with
   |none=>rw[h2]at h;exact nk h
   |some y =>
    obtain⟨a,k⟩:=y;rw[h2]at h;cases h;subst ha;obtain⟨p0,rfl⟩:=jh h2;obtain⟨p1,p2,pos,rfl,hl⟩:=nE h1;exact⟨k,p0,p1,p2,pos,rfl,rfl,hl⟩
  ·rw[if_neg ha]at h;cases h
section
variable {prog:aH}{w:World}{A:aK}{E:aB}{s:Shared}
def Ends(prog:aH)(w:World)(A:aK)(it:Addr)(S:Heap->Prop):Prop:=∀(s:Shared) (Q E:aB),S s.heap->(∀h' e,Heap.ExtBut it s.heap h'->(∃o,h'.get? e=some o/\o.cls=.type "StopIteration")->E (.ref e) { s with heap:=h' })->wpAny (model prog w) A (Builtin.SmallTypes.nextOf (.ref it)) Q E s
structure Xg(z TI TO i1 i2:Addr)(f1 f2:aW):Prop where
 n1:TI≠z/\TO≠z/\i1≠z/\i2≠z
 n2:TI≠TO/\TI≠i1/\TI≠i2/\TO≠i1/\TO≠i2/\i1≠i2
 f1:z∉f1/\TO∉f1/\i2∉f1
 f2:z∉f2/\TO∉f2/\i1∉f2
section
variable {z TI TO i1 i2:Addr}{f1 f2:aW}{n1 n2 k:Nat}{P1 P2:Nat->Value->Prop}{S1 S2:Nat->Heap->Prop}{a b:Value}
end
end
noncomputable abbrev sI(h:Heap)(z TI TO a:Addr)(f:Bool):Prop :=
 h.get? z=some { cls:=.type "zip",dict:=none,data:=.fields #[rawInt a,.bool f,.bool false,.ref TI,.ref TO],slots:=#[] }
variable {oa:Obj}{ys:aV}
section
variable {prog:aH}{w:World}{A:aK}{E:aB}{s:Shared}
theorem AM{a:Addr}{o:Obj}{Q:Option Obj->Shared->Prop}(ho:s.heap.get? a=some o)(h:Q (some o) s):wpAny (model prog w) A (loadIfAlive a) Q E s:=by
 have h':Q (s.heap.get? a) s:=by rw[ho];exact h
 exact λ_ _ _=>h'
theorem xi{z TI TO a:Addr}{f:Bool}{Q:Bool->Shared->Prop}(hz:sI s.heap z TI TO a f)(ha:s.heap.get? a=some oa)(hQ:∀h',sI h' z TI TO a true->Heap.SameBut z s.heap h'->Q false { s with heap:=h' }):
  wpAny (model prog w) A (Builtin.SmallTypes.ownedTupleIsFree (.ref z)) Q E s:=by
 unfold Builtin.SmallTypes.ownedTupleIsFree;refine aaa (abF hz rfl (x:=rawInt a) rfl ?_);show wpAny _ _ (loadIfAlive ((a:Int).toNat) >>= _) _ _ _;rw[Int.toNat_natCast];refine aaa (AM ha ?_);simp only[Option.isNone_some,Bool.false_eq_true,if_false];refine aaa (abF hz rfl (x:=.bool f) rfl ?_);cases f with
 |true =>
  rw[if_neg (show ¬ ((Value.bool true != Value.bool true)=true) from Bool.false_ne_true)];exact aag (hQ s.heap hz (Heap.SameBut.refl _ _))
 |false =>
  rw[if_pos (show(Value.bool false != Value.bool true)=true from rfl)];exact aaa (wpAny_setField_rec hz (by simp) λh₃ Qx md=>aag (hQ h₃ Qx md))
theorem tf{z TI TO a:Addr}{f:Bool}{xs:aV}{x y:Value}{Q:aB}(D:ZipApart z TI TO i1 i2 l1 l2)
  (hz:sI s.heap z TI TO a f) (ha:s.heap.get? a=some oa) (Ef:IsPair s.heap TI (.ref i1) (.ref i2))
  (h1:s.heap.IsListIter i1 l1 k1) (h2:s.heap.IsListIter i2 l2 k2) (Ed:s.heap.IsList l1 xs) (z4:s.heap.IsList l2 ys) (hx:xs[k1]?=some x) (hy:ys[k2]?=some y)
  (hQ:∀h',sI h' z TI TO a true->h'.IsListIter i1 l1 (k1+1)->h'.IsListIter i2 l2 (k2+1)->IsPair h' s.heap.objs.size x y->h'.objs.size=s.heap.objs.size+1 ->
   (∀c o,c≠z->c≠i1->c≠i2->s.heap.get? c=some o->h'.get? c=some o)->Q (.ref s.heap.objs.size) { s with heap:=h' }) :
  wpAny (model prog w) A (Builtin.«zip.__next__» ⟨[.ref z],[]⟩) (λfin s'=>∃v,fin=.done (.ret v)/\Q v s') E s:=by
 show wpAny _ _ (field (.ref z) 2 >>= _) _ _ _;refine aaa (abF hz rfl (x:=.bool false) rfl ?_);show wpAny _ _ (field (.ref z) 3 >>= _) _ _ _;refine aaa (abF hz rfl (x:=.ref TI) rfl ?_);refine aaa (wpAny_seqItems Ef rfl ?_);show wpAny _ _ (Builtin.SmallTypes.ownedTupleIsFree (.ref z) >>= _) _ _ _;refine aaa (xi hz ha λh₁ H_ fN=>?_);simp only[Bool.false_eq_true,if_false];refine aaa ?_;rw[<- Array.forIn_toList];simp only[List.forIn_cons,List.forIn_nil];refine aaa (aaa (aaD ?_));show wpAny _ _ (Builtin.SmallTypes.nextOf (.ref i1) >>= _) _ _ _;refine aaa (abI (h1.extBut fN.extBut D.i1z) (Ed.extBut fN.extBut D.l1z) hx λh₂ Ik i3=>aag ?_);refine aag ?_;refine aaa (aaa (aaD ?_));show wpAny _ _ (Builtin.SmallTypes.nextOf (.ref i2) >>= _) _ _ _;refine aaa (abI ((h2.extBut fN.extBut D.i2z).extBut i3.extBut D.i12.symm) ((z4.extBut fN.extBut D.l2z).extBut i3.extBut D.l2i1) hy λh₃ QS md=>aag ?_);refine aag ?_;refine aag ?_;have hsz:h₃.objs.size=s.heap.objs.size:=by rw[md.1,i3.1,fN.1]
 refine aaa (wpAny_newTuple ?_ (by show 2<=_;rw[sizeLine_eq];decide));refine aag ⟨_,rfl,?_⟩;show Q (.ref h₃.objs.size) _;have fZ:∀{c o},h₃.get? c=some o->c≠h₃.objs.size:=λe=>aak (aae e);have hk:∀c o,c≠z->c≠i1->c≠i2->s.heap.get? c=some o->(h₃.push { cls:=.type "tuple",data:=.seq #[x,y] }).get? c=some o:=λc o c1 c2 c3 e=>aah _ (md.extBut _ _ c3 (i3.extBut _ _ c2 (fN.extBut _ _ c1 e)));rw[hsz];refine hQ _ (aah _ (md.extBut _ _ D.i2z.symm (i3.extBut _ _ D.i1z.symm H_))) ((Ik.extBut md.extBut D.i12).at λo e=>aah _ e) (QS.at λo e=>aah _ e) ?_ (by rw[Heap.size_push,hsz]) hk;rw[<- hsz];exact aam _ rfl
theorem vA{z TI TO a:Addr}{f:Bool}{xs:aV}{Q:Fin->Shared->Prop}(hh:A.handled=none)(D:ZipApart z TI TO i1 i2 l1 l2)
  (hz:sI s.heap z TI TO a f) (ha:s.heap.get? a=some oa) (Ef:IsPair s.heap TI (.ref i1) (.ref i2))
  (h1:s.heap.IsListIter i1 l1 k1) (h2:s.heap.IsListIter i2 l2 k2) (Ed:s.heap.IsList l1 xs) (z4:s.heap.IsList l2 ys) (uC:xs[k1]?=none\/ys[k2]?=none)
  (hE:∀h' e,(∀c o,c≠z->c≠i1->c≠i2->s.heap.get? c=some o->h'.get? c=some o)->(∃o,h'.get? e=some o/\o.cls=.type "StopIteration")->E (.ref e) { s with heap:=h' }) :
  wpAny (model prog w) A (Builtin.«zip.__next__» ⟨[.ref z],[]⟩) Q E s:=by
 show wpAny _ _ (field (.ref z) 2 >>= _) _ _ _;refine aaa (abF hz rfl (x:=.bool false) rfl ?_);show wpAny _ _ (field (.ref z) 3 >>= _) _ _ _;refine aaa (abF hz rfl (x:=.ref TI) rfl ?_);refine aaa (wpAny_seqItems Ef rfl ?_);show wpAny _ _ (Builtin.SmallTypes.ownedTupleIsFree (.ref z) >>= _) _ _ _;refine aaa (xi hz ha λh₁ H_ fN=>?_);simp only[Bool.false_eq_true,if_false];refine aaa ?_;rw[<- Array.forIn_toList];simp only[List.forIn_cons,List.forIn_nil];refine aaa (aaa (aaD ?_));show wpAny _ _ (Builtin.SmallTypes.nextOf (.ref i1) >>= _) _ _ _;cases hx:xs[k1]? with
 |none =>
  refine aaa (wpAny_nextOf_list_end hh (h1.extBut fN.extBut D.i1z) (Ed.extBut fN.extBut D.l1z) hx λh₂ e i3 he=>?_);exact hE h₂ e (λc o c1 c2 c3 x=>i3 _ _ c2 (fN.extBut _ _ c1 x)) he
 |some x =>
  have hy:ys[k2]?=none:=by rcases uC with h|h;rw[hx]at h;cases h;exact h
  refine aaa (abI (h1.extBut fN.extBut D.i1z) (Ed.extBut fN.extBut D.l1z) hx λh₂ Ik i3=>aag ?_);refine aag ?_;refine aaa (aaa (aaD ?_));show wpAny _ _ (Builtin.SmallTypes.nextOf (.ref i2) >>= _) _ _ _;refine aaa (wpAny_nextOf_list_end hh ((h2.extBut fN.extBut D.i2z).extBut i3.extBut D.i12.symm) ((z4.extBut fN.extBut D.l2z).extBut i3.extBut D.l2i1) hy λh₃ e md he=>?_);exact hE h₃ e (λc o c1 c2 c3 x=>md _ _ c3 (i3.extBut _ _ c2 (fN.extBut _ _ c1 x))) he
theorem nu{z TI TO a:Addr}{f:Bool}{xs:aV}{x y:Value}{Q:Option Value->Shared->Prop}(D:ZipApart z TI TO i1 i2 l1 l2)
  (hz:sI s.heap z TI TO a f) (ha:s.heap.get? a=some oa) (Ef:IsPair s.heap TI (.ref i1) (.ref i2))
  (h1:s.heap.IsListIter i1 l1 k1) (h2:s.heap.IsListIter i2 l2 k2) (Ed:s.heap.IsList l1 xs) (z4:s.heap.IsList l2 ys) (hx:xs[k1]?=some x) (hy:ys[k2]?=some y)
  (hQ:∀h',sI h' z TI TO a true->h'.IsListIter i1 l1 (k1+1)->h'.IsListIter i2 l2 (k2+1)->IsPair h' s.heap.objs.size x y->h'.objs.size=s.heap.objs.size+1 ->
   (∀c o,c≠z->c≠i1->c≠i2->s.heap.get? c=some o->h'.get? c=some o)->Q (some (.ref s.heap.objs.size)) { s with heap:=h' }) :
  wpAny (model prog w) A (pyNext (.ref z)) Q E s:=by
 have hT:s.TypeIs (.ref z) "zip":=⟨_,hz,rfl⟩
 unfold pyNext;exact aaa (ab7 (aa8 (name:=Str.ofString "__next__") hT abd
  (aaT abd hT PySem.F.entry_zip_next
   (tf D hz ha Ef h1 h2 Ed z4 hx hy λh' a1 a2 a3 a4 a5 a6=>aag (hQ h' a1 a2 a3 a4 a5 a6)) (PySem.F.args_zip_next_1 _))))
theorem pA{z TI TO a:Addr}{f:Bool}{xs:aV}{Q:Option Value->Shared->Prop}(hh:A.handled=none)(D:ZipApart z TI TO i1 i2 l1 l2)
  (hz:sI s.heap z TI TO a f) (ha:s.heap.get? a=some oa) (Ef:IsPair s.heap TI (.ref i1) (.ref i2))
  (h1:s.heap.IsListIter i1 l1 k1) (h2:s.heap.IsListIter i2 l2 k2) (Ed:s.heap.IsList l1 xs) (z4:s.heap.IsList l2 ys) (uC:xs[k1]?=none\/ys[k2]?=none)
  (hQ:∀h',(∀c o,c≠z->c≠i1->c≠i2->s.heap.get? c=some o->h'.get? c=some o)->Q none { s with heap:=h' }):wpAny (model prog w) A (pyNext (.ref z)) Q E s:=by
 have hT:s.TypeIs (.ref z) "zip":=⟨_,hz,rfl⟩
 unfold pyNext;refine aaa (ab7 (aa8 (name:=Str.ofString "__next__") hT abd
  (aaT abd hT PySem.F.entry_zip_next (vA hh D hz ha Ef h1 h2 Ed z4 uC λh' e hk he=>?_) (PySem.F.args_zip_next_1 _))))
 obtain⟨o,ho,hc⟩:=he;refine aaa (wpAny_isInstance (T:="StopIteration") (b:=true) ⟨o,ho,hc⟩ isSubtype_stop ?_);exact aag (hQ _ hk)
end
theorem IS:typeLookup (.type "zip") "__len__" = pure none:=by rw[typeLookup_type,builtinLookup_eq_fast];kernel_rfl
theorem NJ:typeLookup (.type "zip") "__length_hint__" = pure none:=by rw[typeLookup_type,builtinLookup_eq_fast];kernel_rfl
section
variable {prog:aH}{w:World}{A:aK}{E:aB}{s:Shared}
theorem Em{z:Addr}(hT:s.TypeIs (.ref z) "zip"){Q:Bool->Shared->Prop}(h:Q true s):wpAny (model prog w) A (Builtin.List.listLengthHint (.ref z)) Q E s:=by
 unfold Builtin.List.listLengthHint;refine aaa (wpAny_specialOf hT IS ?_);refine wpAny_ite_split (λwF=>absurd wF (by decide)) (λ_=>?_);refine wpAny_ite_split (λwF=>absurd wF (by decide)) (λ_=>?_);refine aaa (wpAny_specialOf hT NJ ?_);exact aag h
end
structure Zl(h:Heap)(z TI TO i1 i2 l1 l2 S:Addr)(xs ys:aV)(i:Nat):Prop where
 st:(IsZip h z TI TO .none/\∃a b,IsPair h TO a b)\/∃a f oa,sI h z TI TO a f/\h.get? a=some oa/\S<a
 ti:IsPair h TI (.ref i1) (.ref i2)
 w1:h.IsListIter i1 l1 i
 w2:h.IsListIter i2 l2 i
 q1:h.IsList l1 xs
 q2:h.IsList l2 ys
structure Below(z TI TO i1 i2 l1 l2 S:Addr):Prop where
 D:ZipApart z TI TO i1 i2 l1 l2
 z:z<S
 TI:TI<S
 TO:TO<S
 i1:i1<S
 i2:i2<S
 l1:l1<S
 l2:l2<S
section
variable {prog:aH}{w:World}{A:aK}{E:aB}{s:Shared}{z TI TO i1 i2 l1 l2 S:Addr}{xs ys:aV}{i:Nat}
theorem Zl.keep{h:Heap}(B:Below z TI TO i1 i2 l1 l2 S)(Z:Zl h z TI TO i1 i2 l1 l2 S xs ys i)(hk:∀b o,b≠S->h.get? b=some o->h'.get? b=some o):Zl h' z TI TO i1 i2 l1 l2 S xs ys i:=by
 have n:∀{b},b<S->b≠S:=λh=>aak h;refine⟨?_,hk _ _ (n B.TI) Z.ti,Z.w1.at λo e=>hk _ o (n B.i1) e,Z.w2.at λo e=>hk _ o (n B.i2) e,Z.q1.at λo e=>hk _ o (n B.l1) e,Z.q2.at λo e=>hk _ o (n B.l2) e⟩;rcases Z.st with ⟨h1,a,b,h2⟩|⟨a,f,oa,h1,h2,h3⟩
 ·exact .inl ⟨hk _ _ (n B.z) h1,a,b,hk _ _ (n B.TO) h2⟩
 ·exact .inr ⟨a,f,oa,hk _ _ (n B.z) h1,hk _ _ (aaw h3) h2,h3⟩
theorem Ek{x y:Value}{Q:Option Value->Shared->Prop}(B:Below z TI TO i1 i2 l1 l2 S)(Z:Zl s.heap z TI TO i1 i2 l1 l2 S xs ys i)(hS:S<s.heap.objs.size)(hx:xs[i]?=some x)(hy:ys[i]?=some y)
  (hQ:∀h',Zl h' z TI TO i1 i2 l1 l2 S xs ys (i+1)->IsPair h' s.heap.objs.size x y->h'.objs.size=s.heap.objs.size+1->(∀c o,c≠z->c≠TO->c≠i1->c≠i2->s.heap.get? c=some o->h'.get? c=some o)->Q (some (.ref s.heap.objs.size)) { s with heap:=h' }) :
  wpAny (model prog w) A (pyNext (.ref z)) Q E s:=by
 have D:=B.D;rcases Z.st with ⟨hz,a,b,Nq⟩|⟨a,f,oa,hz,ha,hSa⟩
 ·refine wpAny_pyNext_zip_item D hz Z.ti Nq Z.w1 Z.w2 Z.q1 Z.q2 hx hy λh' z1 o1 a1 b1 t1 Ol k1=>hQ h' ?_ t1 Ol k1;exact⟨.inr ⟨s.heap.objs.size,false,_,z1,t1,hS⟩,k1 _ _ D.TIz D.TITO D.TIi1 D.TIi2 Z.ti,a1,b1,Z.q1.at λo e=>k1 _ o D.l1z D.l1TO D.l1i1 D.l1i2 e,Z.q2.at λo e=>k1 _ o D.l2z D.l2TO D.l2i1 D.l2i2 e⟩
 ·refine nu D hz ha Z.ti Z.w1 Z.w2 Z.q1 Z.q2 hx hy λh' z1 a1 b1 t1 Ol k1=>hQ h' ?_ t1 Ol λc o c1 _ c3 c4 e=>k1 c o c1 c3 c4 e;have n:∀{b},b<S->a≠b:=λh=>aaw (abv h hSa);exact⟨.inr ⟨a,true,oa,z1,k1 _ _ (n B.z) (n B.i1) (n B.i2) ha,hSa⟩,k1 _ _ D.TIz D.TIi1 D.TIi2 Z.ti,a1,b1,Z.q1.at λo e=>k1 _ o D.l1z D.l1i1 D.l1i2 e,Z.q2.at λo e=>k1 _ o D.l2z D.l2i1 D.l2i2 e⟩
theorem En{Q:Option Value->Shared->Prop}(hh:A.handled=none)(B:Below z TI TO i1 i2 l1 l2 S)(Z:Zl s.heap z TI TO i1 i2 l1 l2 S xs ys i)(uC:xs[i]?=none\/ys[i]?=none)
  (hQ:∀h',(∀c o,c≠z->c≠TO->c≠i1->c≠i2->s.heap.get? c=some o->h'.get? c=some o)->Q none { s with heap:=h' }):wpAny (model prog w) A (pyNext (.ref z)) Q E s:=by
 have D:=B.D;rcases Z.st with ⟨hz,a,b,Nq⟩|⟨a,f,oa,hz,ha,hSa⟩
 ·exact wpAny_pyNext_zip_end hh D hz Z.ti Nq Z.w1 Z.w2 Z.q1 Z.q2 uC hQ
 ·exact pA hh D hz ha Z.ti Z.w1 Z.w2 Z.q1 Z.q2 uC λh' k=>hQ h' λc o c1 _ c3 c4 e=>k c o c1 c3 c4 e
end
structure RE(xs ys:aV)(lo:Addr)(h:Heap)(as:aW):Prop where
 above:∀a∈as,lo<a
 nd:as.Nodup
 pairs:∀(j:Nat) (a:Addr),as[j]?=some a->∃x y,xs[j]?=some x/\ys[j]?=some y/\IsPair h a x y
section
variable {prog:aH}{w:World}{A:aK}{s:Shared}{R:Result->Shared->Prop}{z TI TO i1 i2 l1 l2 S:Addr}{xs ys:aV}
theorem Ej(hh:A.handled=none)(B:Below z TI TO i1 i2 l1 l2 S)(hn:min xs.size ys.size<=sizeLine)(res:Value) 
  (hR:∀h' tk acc c as,(∀b o,b≠S->b≠z->b≠TO->b≠i1->b≠i2->h₁.get? b=some o->h'.get? b=some o)->h'.get? S=some { cls:=.type "list",dict:=none,data:=.seq acc c,slots:=#[] }->as.length=min xs.size ys.size->RE xs ys S h' as ->
   acc.toList=as.map Value.ref->R (.ok (.ret res)) { s with heap:=h',toks:=tk }) :
  ∀(k i:Nat) (h:Heap) (tk c:Nat) (acc:aV) (as:aW),min xs.size ys.size - i=k->i<=min xs.size ys.size->Zl h z TI TO i1 i2 l1 l2 S xs ys i->(∀b o,b≠S->b≠z->b≠TO->b≠i1->b≠i2->h₁.get? b=some o->h.get? b=some o) ->
   h.get? S=some { cls:=.type "list",dict:=none,data:=.seq acc c,slots:=#[] }->acc.toList=as.map Value.ref->as.length=i->RE xs ys S h as ->
   codeAny (model prog w) A (.builtin "list.extend.loop" ⟨[.ref S,.ref z,res],[]⟩) R { s with heap:=h,toks:=tk }:=by
 have nz:S≠z:=aaw B.z;have nO:S≠TO:=aaw B.TO;have n1:S≠i1:=aaw B.i1;have n2:S≠i2:=aaw B.i2;have Xl:∀{a:Addr},S<a->a≠z/\a≠TO/\a≠i1/\a≠i2:=λh=>⟨aaw (abv B.z h),aaw (abv B.TO h),aaw (abv B.i1 h),aaw (abv B.i2 h)⟩
 intro k;induction k with
 |zero =>
  intro i h tk c acc as hk hi Z CT hS fg QN hG;refine aa_ PySem.F.entry_extend_loop ?_;rw[Around.under_plainId PySem.F.plain_extend_loop _];show wpAny _ A.in1 (pyNext (.ref z) >>= _) _ _ _;have uC:xs[i]?=none\/ys[i]?=none:=by
   rcases Nat.le_total xs.size ys.size with q|q
   ·exact .inl (Array.getElem?_eq_none (by left))
   ·exact .inr (Array.getElem?_eq_none (by left))
  refine aaa (En (s:={ s with heap:=h,toks:=tk }) (A:=A.in1) hh B Z uC λh' he=>?_);refine aag (hR h' tk acc c as (λb o h1 h2 h3 h4 h5 e=>he b o h2 h3 h4 h5 (CT b o h1 h2 h3 h4 h5 e)) (he S _ nz nO n1 n2 hS) (by left) ⟨hG.above,hG.nd,λj a hj=>?_⟩ fg);obtain⟨x,y,e1,e2,e3⟩:=hG.pairs j a hj;obtain⟨a1,a2,a3,a4⟩:=Xl (hG.above a (aaq hj));exact⟨x,y,e1,e2,he a _ a1 a2 a3 a4 e3⟩
 |succ k ih =>
  intro i h tk c acc as hk hi Z CT hS fg QN hG;have fZ:i<min xs.size ys.size:=by left
  have hx:xs[i]?=some (xs[i]'(by left)):=aa0 _;have hy:ys[i]?=some (ys[i]'(by left)):=aa0 _;have hsz:acc.size=i:=by rw[<- Array.length_toList,fg,List.length_map,QN]
  have VX:S<h.objs.size:=aae hS;refine aa_ PySem.F.entry_extend_loop ?_;rw[Around.under_plainId PySem.F.plain_extend_loop _];show wpAny _ A.in1 (pyNext (.ref z) >>= _) _ _ _;refine aaa (Ek (s:={ s with heap:=h,toks:=tk }) B Z VX hx hy λh' Z' ht hz Nj=>?_);dsimp only at ht hz Nj ⊢;have Aa:=Nj S _ nz nO n1 n2 hS;have up:∀b o,b≠S->h'.get? b=some o->(h'.update S (Obj.mapSeq (·.push (Value.ref h.objs.size)))).get? b=some o:=λb o hb e=>(aaE _ _ (abw hb)).trans e;show wpAny _ A.in1 (updateSeq S (·.push (Value.ref h.objs.size)) >>= _) _ _ _;refine aaa ?_;refine abU Aa rfl (aag ⟨plainId_quiet PySem.F.plain_extend_loop _,ih (i+1) _ tk _ (acc.push (Value.ref h.objs.size)) (as++[h.objs.size]) (by left) fZ (Z'.keep B up)
   (λb o h1 h2 h3 h4 h5 e=>up b o h1 (Nj b o h2 h3 h4 h5 (CT b o h1 h2 h3 h4 h5 e))) (aaY _ Aa rfl) (by rw[Array.toList_push,fg,List.map_append];rfl) (by rw[List.length_append,QN];rfl) ⟨?_,?_,?_⟩⟩) (by rw[hsz];left) (by show(acc.push (Value.ref h.objs.size)).size<=sizeLine+1;rw[Array.size_push,hsz];left)
  ·intro a ha;rcases List.mem_append.mp ha with ha|ha
   ·exact hG.above a ha
   ·rw[List.mem_singleton.mp ha];exact VX
  ·refine List.nodup_append.mpr ⟨hG.nd,List.nodup_cons.mpr ⟨List.not_mem_nil,abx⟩,λa ha b hb e=>?_⟩;rw[List.mem_singleton.mp hb]at e;subst e;obtain⟨j,hj⟩:=List.mem_iff_getElem?.mp ha;obtain⟨_,_,_,_,e⟩:=hG.pairs j _ hj;exact absurd (aae e) (aax _)
  ·intro j b hj;rcases Nat.lt_trichotomy j as.length with q|q|q
   ·rw[List.getElem?_append_left q]at hj;obtain⟨x',y',e1,e2,e3⟩:=hG.pairs j b hj;have hb:=hG.above b (aaq hj);obtain⟨a1,a2,a3,a4⟩:=Xl hb;exact⟨x',y',e1,e2,up b _ (aaw hb) (Nj b _ a1 a2 a3 a4 e3)⟩
   ·subst q;have hb:h.objs.size=b:=by simpa using hj
    subst hb;exact⟨_,_,by rw[QN];exact hx,by rw[QN];exact hy,up _ _ (aaw VX) ht⟩
   ·have Qn:(as++[h.objs.size])[j]?=none:=List.getElem?_eq_none (by rw[List.length_append,List.length_singleton];left);rw[Qn]at hj;exact nk hj
theorem zd(hh:A.handled=none)(B:Below z TI TO i1 i2 l1 l2 S)(hn:min xs.size ys.size<=sizeLine)(Z:Zl s.heap z TI TO i1 i2 l1 l2 S xs ys 0)(K2:IsZip s.heap z TI TO .none)(res:Value)(c₀:Nat)(hS:s.heap.get? S=some { cls:=.type "list",data:=.seq #[] c₀ })
  (hR:∀h' tk acc c as,(∀b o,b≠S->b≠z->b≠TO->b≠i1->b≠i2->s.heap.get? b=some o->h'.get? b=some o)->h'.get? S=some { cls:=.type "list",dict:=none,data:=.seq acc c,slots:=#[] }->as.length=min xs.size ys.size->RE xs ys S h' as ->
   acc.toList=as.map Value.ref->R (.ok (.ret res)) { s with heap:=h',toks:=tk }) :
  wpAny (model prog w) A.in1 (Builtin.List.listExtendWith (.ref S) (.ref z) res)
   (λfin s'=>match fin with|.done f=>R (.ok f) s'|.again c'=>c'.quiet=true/\codeAny (model prog w) A c' R s') (λe s'=>R (.error e) s') s:=by
 have hSz:S≠z:=aaw B.z;have hT:s.TypeIs (.ref z) "zip":=⟨_,K2,rfl⟩
 unfold Builtin.List.listExtendWith;refine aaa (wpAny_typeOf (T:="zip") hT ?_);have h1:Builtin.List.listSameRef (.ref S) (.ref z)=false:=by simp[Builtin.List.listSameRef,hSz]
 have h2:(Value.type "zip" == Value.type "list")=false:=by decide
 have h3:(Value.type "zip" == Value.type "tuple")=false:=by decide
 simp only[h1,h2,h3,Bool.or_false,Bool.false_eq_true,if_false];refine aaa (wpAny_pyIter_zip K2 ?_);refine aaa (aaD (Em hT ?_));refine wpAny_ite_split (λ_=>?_) (λwF=>absurd rfl wF);refine aaa (wpAny_rule ?_);refine aaa ?_;show wpAny _ _ (updateSeq S (·.push .none) >>= λ_=>updateSeq S (·.pop)) _ _ _;refine aaa (abU hS rfl ?_);have yv:=aaY (Obj.mapSeq (·.push Value.none)) hS rfl;refine abU (hz:=by seq_fits) yv rfl ?_;have QP:=aaY (Obj.mapSeq (·.pop)) yv rfl;have MY:∀b o,b≠S->s.heap.get? b=some o->((s.heap.update S (Obj.mapSeq (·.push Value.none))).update S (Obj.mapSeq (·.pop))).get? b=some o:=λb o hb e=>(aaE _ _ (abw hb)).trans ((aaE _ _ (abw hb)).trans e);refine aag ⟨plainId_quiet PySem.F.plain_extend_loop _,?_⟩;exact Ej hh B hn res (s:=s) (h₁:=s.heap) hR (min xs.size ys.size) 0 _ s.toks _ #[] [] (Nat.sub_zero _) (aaC _) (Z.keep B MY) (λb o h1 _ _ _ _ e=>MY b o h1 e) QP rfl rfl ⟨(λ_ ha=>nomatch ha),abx,λj a hj=>by simp at hj⟩
theorem El(hh:A.handled=none)(B:Below z TI TO i1 i2 l1 l2 S)(hn:min xs.size ys.size<=sizeLine)(Z:Zl s.heap z TI TO i1 i2 l1 l2 S xs ys 0)(K2:IsZip s.heap z TI TO .none)(hS:s.heap.get? S=some { cls:=.type "list",data:=.seq #[] })
  (hR:∀h' tk acc c as,(∀b o,b≠S->b≠z->b≠TO->b≠i1->b≠i2->s.heap.get? b=some o->h'.get? b=some o)->h'.get? S=some { cls:=.type "list",dict:=none,data:=.seq acc c,slots:=#[] }->as.length=min xs.size ys.size->RE xs ys S h' as ->
   acc.toList=as.map Value.ref->R (.ok (.ret .none)) { s with heap:=h',toks:=tk }) :
  wpAny (model prog w) A.in1 (Builtin.«list.__init__» ⟨[.ref S,.ref z],[]⟩)
   (λfin s'=>match fin with|.done f=>R (.ok f) s'|.again c'=>c'.quiet=true/\codeAny (model prog w) A c' R s') (λe s'=>R (.error e) s') s:=by
 show wpAny _ _ (do let old <- Builtin.List.listItems (.ref S);Builtin.List.listUpdate (.ref S) (λ_=>#[]);letGo old.toList.reverse;Builtin.List.listExtendWith (.ref S) (.ref z) .none) _ _ s;refine aaa ?_;unfold Builtin.List.listItems;refine aaa (wpAny_seqItems hS rfl (aag ?_));show wpAny _ _ (updateSeq S (λ_=>#[]) >>= λ_=>letGo (#[]:aV).toList.reverse >>= λ_=>Builtin.List.listExtendWith (.ref S) (.ref z) .none) _ _ s;refine aaa (abU hS rfl ?_);have yv:=aaY (Obj.mapSeq (λ_=>(#[]:aV))) hS rfl;have MY:∀b o,b≠S->s.heap.get? b=some o->(s.heap.update S (Obj.mapSeq (λ_=>(#[]:aV)))).get? b=some o :=
  λb o hb e=>(aaE _ _ (abw hb)).trans e
 refine aaa (wpAny_letGo ?_);refine zd hh B hn (Z.keep B MY) (MY _ _ (aak B.z) K2) .none _ yv λh' tk acc c as hk Aa hl hG fg=>?_;exact hR h' tk acc c as (λb o h1 h2 h3 h4 h5 e=>hk b o h1 h2 h3 h4 h5 (MY b o h1 e)) Aa hl hG fg
end
section
variable {prog:aH}{w:World}{A:aK}{E:aB}{s:Shared}{z TI TO i1 i2 l1 l2:Addr}{xs ys:aV}
theorem Eo{Q:aB}(hh:A.handled=none)(D:ZipApart z TI TO i1 i2 l1 l2)(hn:min xs.size ys.size<=sizeLine)(hz:IsZip s.heap z TI TO .none)(Ef:IsPair s.heap TI (.ref i1) (.ref i2)){a b:Value}(Nq:IsPair s.heap TO a b)(h1:s.heap.IsListIter i1 l1 0)(h2:s.heap.IsListIter i2 l2 0)(q1:s.heap.IsList l1 xs)(q2:s.heap.IsList l2 ys)
  (hQ:∀h' tk acc c as,(∀b o,b≠z->b≠TO->b≠i1->b≠i2->s.heap.get? b=some o->h'.get? b=some o)->h'.get? s.heap.objs.size=some { cls:=.type "list",dict:=none,data:=.seq acc c,slots:=#[] }->as.length=min xs.size ys.size->RE xs ys s.heap.objs.size h' as ->
   acc.toList=as.map Value.ref->Q (.ref s.heap.objs.size) { s with heap:=h',toks:=tk }) :
  wpAny (model prog w) A (call (.type "list") [.ref z]) Q E s:=by
 refine callType_codes (Q₁:=λobj s₁=>obj=.ref s.heap.objs.size/\s₁={ s with heap:=s.heap.push { cls:=.type "list",data:=.seq #[] } }) PySem.F.called_list (PySem.F.typeCall_list_1 _) PySem.F.entry_list_init
  (code_list_new _ ⟨rfl,rfl⟩) λobj s₁ h₁=>?_
 obtain⟨rfl,rfl⟩:=h₁;have hS:(s.heap.push { cls:=.type "list",data:=.seq #[] }).get? s.heap.objs.size=some { cls:=.type "list",data:=.seq #[] }:=aam _ rfl;have up:∀b o,s.heap.get? b=some o->(s.heap.push { cls:=.type "list",data:=.seq #[] }).get? b=some o:=λb o e=>aah _ e;have B:Below z TI TO i1 i2 l1 l2 s.heap.objs.size:=⟨D,aae hz,aae Ef,aae Nq,(by obtain⟨_,e,_⟩:=h1;exact aae e),(by obtain⟨_,e,_⟩:=h2;exact aae e),(by obtain⟨_,e,_⟩:=q1;exact aae e),(by obtain⟨_,e,_⟩:=q2;exact aae e)⟩
 refine⟨⟨_,hS,rfl⟩,PySem.F.args_list_init_2 _ _,El (A:=A.in1) hh B hn ⟨.inl ⟨up _ _ hz,a,b,up _ _ Nq⟩,up _ _ Ef,h1.at λo e=>up _ o e,h2.at λo e=>up _ o e,q1.at λo e=>up _ o e,q2.at λo e=>up _ o e⟩ (up _ _ hz) hS λh' tk acc c as hk Aa hl hG fg=>?_⟩;exact⟨rfl,hQ h' tk acc c as (λb o h2 h3 h4 h5 e=>hk b o (aak (aae e)) h2 h3 h4 h5 (up b o e)) Aa hl hG fg⟩
end
theorem Inv.PD{pins:ak}{s:Shared}(I:Inv X pins σ H s)(k:∀b u,s.heap.get? b=some u->h'.get? b=some u)(up:∀b u,H b=some u->H' b=some u)
  (nw:∀b u,H' b=some u->H b=some u\/(s.heap.objs.size<=b/\cM X.prog X.w H' h' b u)):Inv X pins σ H' { s with heap:=h',toks:=t' }:=by
 refine I.step (g':=s.gens) (d':=s.drawn) (ch:=[]) (λb hb=>nomatch hb) (λb o _ _ _ e _=>k b o e) (λb o _ _ _ e _=>⟨o.slots,k b o e⟩) (λb u _ e n=>?_)
  (λb o _ e=>⟨o,k b o e⟩) (λ_ _ e=>up _ _ e) (λ_ _ _ e=>up _ _ e) (λb ps e=>⟨#[],by rw[up _ _ e];simp⟩) (λm hm=>?_) (λb u e=>?_) I.bare
 ·cases q:H' b with
  |none=>rfl
  |some v =>
   rcases nw b v q with z|⟨z,_⟩
   ·rw[n]at z;exact nk z
   ·exact absurd (aae e) (Nat.not_lt.mpr z)
 ·obtain⟨o,es,ep,ho,r⟩:=hm;exact⟨o,es,ep,k _ o ho,r⟩
 ·rcases nw b u e with e|⟨_,e⟩
  ·exact(I.cm b u e).iJ (λc v _ q=>k c v q) (λ_ q=>up _ _ q) λ_ _ q=>up _ _ q
  ·exact e
def pN(H:Hp):List (Addr×V×V)->Hp
 |[]=>H
 |q::r=>upd (pN H r) q.1 (.tup [q.2.1,q.2.2])
theorem kG{H:Hp}{b:Addr}{u:HO}(e:H b=some u):∀{r:List (Addr×V×V)},(∀q∈r,H q.1=none)->pN H r b=some u
 |[],_=>e
 |q::r,h=>by
  have hn:b≠q.1:=λz=>by rw[z,h q List.mem_cons_self]at e;cases e
  show upd (pN H r) q.1 _ b=_;rw[aS hn];exact kG e λq hq=>h q (aad _ hq)
theorem yj{H:Hp}:∀{r:List (Addr×V×V)},(r.map (·.1)).Nodup->∀q∈r,pN H r q.1=some (.tup [q.2.1,q.2.2])
 |[],_,_,h=>nomatch h
 |q'::r,hn,q,h=>by
  show upd (pN H r) q'.1 _ q.1=_;have sW:=List.nodup_cons.mp hn;rcases List.mem_cons.mp h with rfl|h
  ·exact bj
  ·have:q.1≠q'.1:=λz=>sW.1 (by show q'.1∈_;rw[<- z];exact aaF h);rw[aS this];exact yj sW.2 q h
theorem uo{H:Hp}{b:Addr}{u:HO}:∀{r:List (Addr×V×V)},pN H r b=some u->H b=some u\/∃q∈r,q.1=b/\u=.tup [q.2.1,q.2.2]
 |[],e=>.inl e
 |q::r,e=>by
  replace e:upd (pN H r) q.1 (.tup [q.2.1,q.2.2]) b=some u:=e;by_cases z:b=q.1
  ·subst z;rw[bj]at e;cases e;exact .inr ⟨q,aaf,rfl,rfl⟩
  ·rw[aS z]at e;rcases uo e with h|⟨q',h1,h2⟩
   ·exact .inl h
   ·exact .inr ⟨q',aad _ h1,h2⟩
def Zm(K:au)(ta:TA):TE:=λσ H Q=>ta σ H λvs H1=>∃a b xs ys,vs=[.ref a,.ref b]/\dz K H1 a xs/\dz K H1 b ys /\
 ∀(l:Addr) (r:List (Addr×V×V)),H1 l=none->(∀q∈r,H1 q.1=none)->(r.map (·.1)).Nodup->l∉r.map (·.1)->r.map (·.2)=xs.zip ys->Q (.ref l) (upd (pN H1 r) l (.lst (r.map λq=>V.ref q.1)))
theorem Fv{p:Pos}(hc:X.calm=true)(Nk:Gl X "list")(VF:X.mg "list" = none)(hg:Gl X "zip")(hm:X.mg "zip" = none)(ha:PA X [e1,e2] ta)(hs:∀es,starEach (e1::es) X.env=(false,eval e1 X.env)::starEach es X.env)(Nc:∀es,starEach (e2::es) X.env=(false,eval e2 X.env)::starEach es X.env):
  PE X (.Call (.Name "list" p') [.Call (.Name "zip" p) [e1,e2] [] pos] [] pos') (Zm X.K ta):=by
 intro pins s σ H Q I h;refine aaG (eh I Nk VF boot_list ?_);refine aas ?_;show wpAny _ _ (spliced ((false,eval (.Call (.Name "zip" p) [e1,e2] [] pos) X.env)::backTo pos' (starEach [] X.env))) _ _ s;refine abn ?_;refine Call_ (eh I hg hm boot_zip (aas (cW (ha pos pins s σ H _ I h) λus s1 bW=>?_) (hs _) (by rw[Nc];rfl)));obtain⟨vs,H1,I1,r1,q1⟩:=bW;obtain⟨a,b,xs,ys,e,q1,q2,hq⟩:=q1;subst e;obtain⟨u,v,rfl,ru,rv⟩:=vals2 r1;cases ru;cases rv;obtain⟨aN,rx,p1,Nb⟩:=I1.list q1;obtain⟨its',ry,p2,Eb⟩:=I1.list q2;refine call_zip_2 p1.isList p2.isList λh' z t o l1 l2 sz k=>abB ?_;have Ed:h'.IsList a aN.toArray:=p1.isList.at λo e=>k _ o e;have z4:h'.IsList b its'.toArray:=p2.isList.at λo e=>k _ o e;have cls:∀{x y:Addr} {o u:Obj},h'.get? x=some o->h'.get? y=some u->o.cls≠u.cls->x≠y:=λh1 h2 h3=>dh h1 h2 h3;have al:@LT.lt Nat _ a s1.heap.objs.size:=by obtain⟨_,e,_⟩:=p1.isList;exact aae e
 have bl:@LT.lt Nat _ b s1.heap.objs.size:=by obtain⟨_,e,_⟩:=p2.isList;exact aae e
 have D:ZipApart (s1.heap.objs.size+4) (s1.heap.objs.size+2) (s1.heap.objs.size+3) s1.heap.objs.size (s1.heap.objs.size+1) a b:=by
  constructor<;>first|exact aak (by left)|exact aaw (by left)
 have lx:=rx.length;have ly:=ry.length;have hn:min aN.toArray.size its'.toArray.size<=sizeLine:=by simp;left
 refine Eo (s:={ s1 with heap:=h' }) (I1.ok.hd hc) D hn z t o l1 l2 Ed z4 λYt tk acc c as hk hS hl hG fg=>?_;dsimp only at hk hS hG ⊢;have hlen:as.length=(xs.zip ys).length:=by rw[hl,List.length_zip];simp;left
 have keep:∀b o,s1.heap.get? b=some o->Yt.get? b=some o:=λb o e=>by
  have:@LT.lt Nat _ b s1.heap.objs.size:=aae e;exact hk b o (aak (by left)) (aak (by left)) (aak (by left)) (aak (by left)) (k b o e)
 have fresh:∀c,s1.heap.objs.size<=c->H1 c=none:=λc h=>I1.cm.fresh h;have hS5:h'.objs.size=s1.heap.objs.size+5:=sz
 let r:List (Addr×V×V):=as.zip (xs.zip ys)
 have r1:r.map (·.1)=as:=List.map_fst_zip (by left);have r2:r.map (·.2)=xs.zip ys:=List.map_snd_zip (by left);have wF:∀c∈as,@LT.lt Nat _ h'.objs.size c:=hG.above;have Vs:∀q∈r,H1 q.1=none:=λq hq=>fresh _ (by have:=wF q.1 (by rw[<- r1];exact aaF hq);left);have sX:H1 h'.objs.size=none:=fresh _ (by left);have Lg:h'.objs.size∉r.map (·.1):=by rw[r1];exact λz=>absurd (wF _ z) (aax _)
 have Ec:(r.map (·.1)).Nodup:=by rw[r1];exact hG.nd
 have CQ:(as.map V.ref)=r.map λq=>V.ref q.1:=by rw[<- r1,List.map_map];rfl
 refine⟨.ref h'.objs.size,upd (pN H1 r) h'.objs.size (.lst (r.map λq=>V.ref q.1)),?_,rfl,hq _ r sX Vs Ec Lg r2⟩;refine Inv.PD (s:=s1) (t':=tk) I1 keep (λb u e=>?_) λb u e=>?_
 ·rw[aS λz=>by rw[z,sX]at e;cases e];exact kG e Vs
 ·by_cases zb:b=h'.objs.size
  ·subst zb;rw[bj]at e;cases e;refine .inr ⟨by left,?_,acc.toList,c,?_,by rw[Array.toArray_toList];exact hS⟩
   ·rw[<- CQ,List.length_map,hlen,List.length_zip];left
   ·rw[<- CQ,fg];clear fg CQ hG hl hlen r1 wF Ec r r2 Vs Lg hS hk keep;induction as with
    |nil=>exact .nil
    |cons a as ih=>exact .cons rfl ih
  ·rw[aS zb]at e;rcases uo e with e|⟨q,hq,rfl,rfl⟩
   ·exact .inl e
   ·have hm:q.1∈as:=by rw[<- r1];exact aaF hq
    refine .inr ⟨by have:=wF _ hm;left,?_⟩;obtain⟨j,hj⟩:=List.mem_iff_getElem?.mp hq;have Qs:as[j]?=some q.1/\(xs.zip ys)[j]?=some q.2:=by
     have:=List.getElem?_zip_eq_some.mp hj;exact this
    obtain⟨x,y,ex,ey,hp⟩:=hG.pairs j q.1 Qs.1;obtain⟨e1,e2⟩:xs[j]?=some q.2.1/\ys[j]?=some q.2.2:=List.getElem?_zip_eq_some.mp Qs.2;obtain⟨u1,Vo,Um⟩:=rx.get e1;obtain⟨u2,hu2,Ul⟩:=ry.get e2;rw[List.getElem?_toArray,Vo]at ex;rw[List.getElem?_toArray,hu2]at ey;cases ex;cases ey;exact qT Um Ul hp
noncomputable def pairD(x y:D):D:=.tup [x,y]
def Pq(xs:aa):O D:=match two xs with
 |some z=>match z.1 with
  |.lst _ a=>match z.2 with
   |.lst _ b=>ok (.lst .ow (aC bB (List.zipWith pairD a b)))
   |_=>none
  |_=>none
 |none=>none
theorem Kw{x y d:D}(h:Pq [x,y]=ok d):∃f a g b,x=.lst f a/\y=.lst g b/\d=.lst .ow (aC bB (List.zipWith pairD a b)):=by
 cases x<;>first|exact nk h | (cases h;done)|skip
 cases y<;>first|exact nk h | (cases h;done)|skip
 cases h;exact⟨_,_,_,_,rfl,rfl,rfl⟩
def yS(sc:Scope)(bl:aq)(e:Expr):Option (aA):=match cX e with
 |some z=>match one z.2 with
  |some i=>if z.1=("list" : Str)/\eM sc z.1=true/\z.1∈bl then i9 sc bl i else none
  |none=>none
 |none=>none
theorem DN{sc:Scope}{bl:aq}{e:Expr}(h:yS sc bl e=some args):∃p pos i,e=.Call (.Name ("list" : Str) p) [i] [] pos/\eM sc ("list" : Str)=true/\("list" : Str)∈bl/\i9 sc bl i=some args:=by
 unfold yS at h;cases hv:cX e with
 |none=>rw[hv]at h;exact nk h
 |some z =>
  obtain⟨x,as⟩:=z;rw[hv]at h;obtain⟨p,pos,rfl⟩:=bJ hv;have h2:(match one as with|some i=>if x=("list" : Str)/\eM sc x=true/\x∈bl then i9 sc bl i else none|none=>none)=some args:=h;clear h;cases hw:one as with
  |none=>rw[hw]at h2;exact nk h2
  |some a =>
   rw[hw]at h2;have h3:(if x=("list" : Str)/\eM sc x=true/\x∈bl then i9 sc bl a else none)=some args:=h2;clear h2;obtain rfl:=cf hw;by_cases hc:x=("list" : Str)/\eM sc x=true/\x∈bl
   ·rw[if_pos hc]at h3;obtain⟨rfl,h1,h2⟩:=hc;exact⟨_,_,_,rfl,h1,h2,h3⟩
   ·rw[if_neg hc]at h3;cases h3
theorem tZ{T:mK}{N:gJ}(hN:∀k k' p xs f,N k p xs f->N k' p xs f):∀{r:List (Addr×V×V)} {xs ys:af} {a b:aa} {k1 k2 k:bt} {n1 n2 n:Nat},aI T N k1 n1 xs a->aI T N k2 n2 ys b->r.map (·.2)=xs.zip ys->(∀q∈r,T q.1 [q.2.1,q.2.2])->aI T N k n (r.map λq=>V.ref q.1) (List.zipWith pairD a b)
 |[],xs,ys,a,b,_,_,_,_,_,_,r1,r2,e,_=>by
  have l1:=r1.length;have l2:=r2.length;have e':=aaS List.length e;rw[List.length_zip]at e';have:List.zipWith pairD a b=[]:=List.eq_nil_of_length_eq_zero (by rw[List.length_zipWith];simp at e';left);rw[this];exact .nil
 |q::r,xs,ys,a,b,k1,k2,k,n1,n2,n,r1,r2,e,ht=>by
  cases r1 with
  |nil=>cases e
  |cons h1 t1=>cases r2 with
   |nil=>cases e
   |cons h2 t2 =>
    have e1:q.2=(_,_):=(abJ e).1;have e2:=(abJ e).2;refine .cons (.tup (ht q aaf) ?_) (tZ hN t1 t2 e2 λq hq=>ht q (aad _ hq));rw[e1];have m1:=Rep.hJ (T':=T) (N':=N) (g:=id) (λ_ _ h=>h) hN h1 (0::n::k);have m2:=Rep.hJ (T':=T) (N':=N) (g:=id) (λ_ _ h=>h) hN h2 (1::n::k);rw[dU]at m1 m2;exact .cons m1 (.cons m2 .nil)
theorem gh(g:Fl->Fl):∀a b:aa,aC g (List.zipWith pairD a b)=List.zipWith pairD (aC g a) (aC g b)
 |[],_=>by cases ‹aa› <;> rfl
 |_::_,[]=>rfl
 |x::a,y::b=>by
  show aY g (pairD x y)::aC g (List.zipWith pairD a b)=_;rw[gh g a b];rfl
theorem Pp{n:Nat}(hΦ:Φ n=Pq){sc:Scope}{bl:aq}{k:Nat}(L:PX X sc bl k){e:Expr}(he:yS sc bl e=some args)(hs:pb X F Φ cs args):PE X e (tD X F Φ (.dj n cs))/\PT X e (iw X F Φ (.dj n cs)):=by
 obtain⟨p,pos,i,rfl,h1,h2,hz⟩:=DN he;obtain⟨p',pos',a,b,rfl,rfl,h3,h4⟩:=qF hz;obtain⟨⟨c,d,rfl,_,_⟩,pa,s1,s2⟩:=nX hs;have this:PE X (.Call (.Name ("list" : Str) p) [.Call (.Name ("zip" : Str) p') [a,b] [] pos'] [] pos) (tD X F Φ (.dj n [c,d])):=by
  refine PE.imp (Fv L.calm (L.gl h1) (L.bl _ h2) (L.gl h3) (L.bl _ h4) pa s1 s2) λσ H Q hq=>?_;obtain⟨R,τ,ρ,d',Si,ev,hq⟩:=hq;obtain⟨xs,cO,ev⟩:=aJ ev;rw[hΦ]at ev;refine⟨R,τ,ρ,xs,Si,cO,λvs H1 e1 r1=>?_⟩;obtain⟨τt,fr,rs⟩:=r1;have hl:∃x y,xs=[x,y]:=by
   unfold Pq at ev;cases hw:two xs with
   |none=>rw[hw]at ev;exact nk ev
   |some z=>exact⟨z.1,z.2,gu hw⟩
  obtain⟨x,y,rfl⟩:=hl;obtain⟨f,da,g,db,rfl,rfl,rfl⟩:=Kw ev;obtain⟨v,w,rfl,rx,ry⟩:=rs.two;cases rx with
  |lst hx ax=>cases ry with
   |lst hy ay =>
    refine⟨_,_,_,_,rfl,hx.sq,hy.sq,λl r hl hr hn Lg hz=>hq _ _ ?_ ?_⟩
    ·intro b o e;have e':=e1 b o e;rw[aS λz=>by rw[z,hl]at e';cases e'];exact kG e' hr
    ·have sm:aM H1 (upd (pN H1 r) l (.lst (r.map λq=>V.ref q.1))):=λb o e=>by
      rw[aS λz=>by rw[z,hl]at e;cases e];exact kG e hr
     refine ck.rB (e1.free hl) (e1.trans sm) bj ?_;rw[gh];refine tZ nd.oI ((ax.fb Si fr (k':=[]) (n':=0)).imp (λ_ _ h=>bh.same sm h) λ_ _ _ _ h=>nd.same sm h) ((ay.fb Si fr (k':=[]) (n':=0)).imp (λ_ _ h=>bh.same sm h) λ_ _ _ _ h=>nd.same sm h) hz λq hq=>?_;have yq:q.1≠l:=λz=>Lg (by rw[<- z];exact aaF hq);exact bh.of (by rw[aS yq];exact yj hn q hq)
 exact⟨this,cY this λ_=>rfl⟩
noncomputable def l7(n:Int):ae:=(List.range n.toNat).map λ(k:Nat)=>(k:Int)
def M5(xs:aa):O D:=match one xs with
 |some x=>match x with
  |.int n=>if n<=cL /\ -cL<=n then ok (.lst .ow ((l7 n).map D.int))else none
  |_=>none
 |none=>none
theorem Kz{xs:aa}{d:D}(h:M5 xs=ok d):∃n:Int,xs=[.int n]/\n<=cL /\ -cL<=n/\d=.lst .ow ((l7 n).map D.int):=by
 unfold M5 at h;cases hw:one xs with
 |none=>rw[hw]at h;exact nk h
 |some x =>
  obtain rfl:=cf hw;rw[hw]at h;cases x<;>first|exact nk h | (cases h;done)|skip
  rename_i n;obtain⟨⟨h1,h2⟩,h3⟩:=pv h;exact⟨n,rfl,h1,h2,h3.symm⟩
def yT(sc:Scope)(bl:aq)(e:Expr):Option (aA):=match cX e with
 |some z=>match one z.2 with
  |some i=>if z.1=("list" : Str)/\eM sc z.1=true/\z.1∈bl then gw ("range" : Str) sc bl i else none
  |none=>none
 |none=>none
theorem DP{sc:Scope}{bl:aq}{e:Expr}(h:yT sc bl e=some args):∃p pos i,e=.Call (.Name ("list" : Str) p) [i] [] pos/\eM sc ("list" : Str)=true/\("list" : Str)∈bl/\gw ("range" : Str) sc bl i=some args:=by
 unfold yT at h;cases hv:cX e with
 |none=>rw[hv]at h;exact nk h
 |some z =>
  obtain⟨x,as⟩:=z;rw[hv]at h;obtain⟨p,pos,rfl⟩:=bJ hv;have h2:(match one as with|some i=>if x=("list" : Str)/\eM sc x=true/\x∈bl then gw ("range" : Str) sc bl i else none|none=>none)=some args:=h;clear h;cases hw:one as with
  |none=>rw[hw]at h2;exact nk h2
  |some a =>
   rw[hw]at h2;have h3:(if x=("list" : Str)/\eM sc x=true/\x∈bl then gw ("range" : Str) sc bl a else none)=some args:=h2;clear h2;obtain rfl:=cf hw;by_cases hc:x=("list" : Str)/\eM sc x=true/\x∈bl
   ·rw[if_pos hc]at h3;obtain⟨rfl,h1,h2⟩:=hc;exact⟨_,_,_,rfl,h1,h2,h3⟩
   ·rw[if_neg hc]at h3;cases h3
def Zn(ta:TA):TE:=λσ H Q=>ta σ H λvs H1=>∃n:Int,vs=[.int n]/\n<=cL /\ -cL<=n/\∀l,H1 l=none->Q (.ref l) (upd H1 l (.lst ((l7 n).map V.int)))
theorem tw:∀{ns:ae} {us:ao},us.length=ns.length->(∀(i:Nat) (u:Value),us[i]?=some u->∃t,u=.int (ns.getD i 0) t)->Vals (ns.map V.int) us
 |[],[],_,_=>.nil
 |[],_::_,h,_=>by simp at h
 |_::_,[],h,_=>by simp at h
 |n::ns,u::us,h,hu=>.cons (hu 0 u rfl) (tw (by simpa using h) λi v hv=>hu (i+1) v hv)
theorem zG{p:Pos}(hc:X.calm=true)(Nk:Gl X "list")(VF:X.mg "list" = none)(hg:Gl X "range")(hm:X.mg "range" = none)(ha:PA X [e1] ta)(hs:starEach [e1] X.env=[(false,eval e1 X.env)]):
  PE X (.Call (.Name "list" p') [.Call (.Name "range" p) [e1] [] pos] [] pos') (Zn ta):=by
 intro pins s σ H Q I h;refine aaG (eh I Nk VF boot_list ?_);refine aas ?_;show wpAny _ _ (spliced ((false,eval (.Call (.Name "range" p) [e1] [] pos) X.env)::backTo pos' (starEach [] X.env))) _ _ s;refine abn ?_;refine Call_ (eh I hg hm boot_range (aas (cW (ha pos pins s σ H _ I h) λus s1 bW=>?_) hs rfl));obtain⟨vs,H1,I1,r1,q1⟩:=bW;obtain⟨n,e,n1,n2,hq⟩:=q1;subst e;have XD:n<=1000000:=n1;have XB:-1000000<=n:=n2;cases r1 with
 |cons r rr =>
  cases rr;obtain⟨t,rfl⟩:=r;refine call_range_1 (abB ?_);have e2:Builtin.Range.rangeSize 0 n 1=((n.toNat:Nat):Int):=by rw[rangeSize_one];split<;>left
  refine call_list_range (I1.ok.hd hc) (IsRange.new ..) (small_one (by left) (by left) (by left) (by left)) e2 (by left) λh' tk MI c' hk hS fg=>?_;have keep:∀b o,s1.heap.get? b=some o->h'.get? b=some o:=λb o e=>hk b o (aah _ e);have hsz:MI.size=n.toNat:=fg.1;refine⟨.ref _,upd H1 _ (.lst ((l7 n).map V.int)),I1.laid (t':=tk) keep ?_ ⟨?_,MI.toList,c',?_,?_⟩,rfl,hq _ (I1.cm.fresh ?_)⟩
  ·show s1.heap.objs.size<=(s1.heap.push _).objs.size;simp[Heap.push]
  ·rw[sizeLine_eq];simp[l7];left
  ·refine tw (by simp[l7,hsz]) λi u hu=>?_;have Ib:MI[i]?=some u:=by simpa using hu
   have hi:i<n.toNat:=by rw[<- hsz];exact(Array.getElem?_eq_some_iff.mp Ib).1
   obtain⟨t,rfl⟩:=fg.2 i u Ib;refine⟨t,?_⟩;have:(l7 n).getD i 0=(i:Int):=by unfold l7;simp[List.getD,hi]
   rw[this];congr 1;left
  ·rw[Array.toArray_toList];exact hS
  ·show s1.heap.objs.size<=(s1.heap.push _).objs.size;simp[Heap.push]
theorem Pr{n:Nat}(hΦ:Φ n=M5){sc:Scope}{bl:aq}{k:Nat}(L:PX X sc bl k){e:Expr}(he:yT sc bl e=some args)(hs:pb X F Φ cs args):PE X e (tD X F Φ (.dj n cs))/\PT X e (iw X F Φ (.dj n cs)):=by
 obtain⟨p,pos,i,rfl,h1,h2,hz⟩:=DP he;obtain⟨p',pos',a,rfl,rfl,h3,h4⟩:=lL hz;cases cs with
 |nil=>exact hs.elim
 |cons c cs=>cases cs with
  |cons _ _=>exact hs.2.2.2.elim
  |nil =>
   have pa:PA X [a] (pF X F Φ [c]):=PA.imp (cD hs.1 (PA.imp d_ λ_ _ _ h=>gX h) (hs.2.1 _)) λ_ _ _ h=>eJ h;have this:PE X (.Call (.Name ("list" : Str) p) [.Call (.Name ("range" : Str) p') [a] [] pos'] [] pos) (tD X F Φ (.dj n [c])):=by
    refine PE.imp (zG L.calm (L.gl h1) (L.bl _ h2) (L.gl h3) (L.bl _ h4) pa (hs.2.1 _)) λσ H Q hq=>?_;obtain⟨R,τ,ρ,d,Si,ev,hq⟩:=hq;obtain⟨xs,cO,ev⟩:=aJ ev;rw[hΦ]at ev;obtain⟨m,rfl,m1,m2,rfl⟩:=Kz ev;refine⟨R,τ,ρ,_,Si,cO,λvs H1 e1 r1=>?_⟩;obtain⟨τt,fr,rs⟩:=r1;obtain⟨v,rfl,rv⟩:=rs.one;cases rv;refine⟨m,rfl,m1,m2,λl hl=>hq _ _ ?_ ?_⟩
    ·intro b o e;have e':=e1 b o e;rw[aS λz=>by rw[z,hl]at e';cases e'];exact e'
    ·refine ck.rB (e1.free hl) (λb o e=>?_) bj (jn _);have e':=e1 b o e;rw[aS λz=>by rw[z,hl]at e';cases e'];exact e'
   exact⟨this,cY this λ_=>rfl⟩
theorem aI.Iu{T:mK}{N:gJ}{k:bt}:∀(j:Nat) {n:Nat} {vs:af} {ds:aa},aI T N k n vs ds->aI T N k (n+j) (vs.drop j) (ds.drop j)
 |0,_,_,_,h=>h
 |j+1,_,_,_,.nil=>.nil
 |j+1,n,_,_,.cons h t=>by
  rw[show n+(j+1)=n+1+j by left];exact aI.Iu j t
theorem aI.Hu{T:mK}{N:gJ}{k:bt}:∀(j:Nat) {n:Nat} {vs:af} {ds:aa},aI T N k n vs ds->aI T N k n (vs.take j) (ds.take j)
 |0,_,_,_,_=>by rw[List.take_zero,List.take_zero];exact .nil
 |j+1,_,_,_,.nil=>.nil
 |j+1,n,_,_,.cons h t=>.cons h (aI.Hu j t)
noncomputable def pS{α:Type}(b:Bool)(k:Nat)(xs:List α):List α:=if b then xs.drop k else xs.take k
def OL(K:au)(b:Bool):V->Option Int->Option Int->Hp->VK->Prop:=λx lo hi H Q=>∃(a:Addr) (xs:af) (k:Nat),x=.ref a/\dz K H a xs/\lo=(if b then some (k:Int)else none)/\hi=(if b then none else some (k:Int))/\k<=xs.length/\∀p,H p=none->Q (.ref p) (upd H p (.lst (pS b k xs)))
theorem xI(b:Bool):W7 X (OL X.K b):=by
 intro pins s σ H x v vl vu lo hi sl Q I rx hs pl pu h;obtain⟨a,xs,k,rfl,hx,rfl,rfl,hk,q⟩:=h;cases rx;obtain⟨aN,r,HI,hz⟩:=I.list hx;have hl:=eH HI;have hlen:aN.length=xs.length:=r.length.symm;refine⟨"list",_,slot_list_getitem.lookup,hl.typeIs,wpAny_getItem_list_slice hl hs pl pu .none (by simp) ?_ (by rw[List.size_toArray,hlen];exact hz)⟩;have e:slicePick aN.toArray (if b then some (k:Int)else none) (if b then none else some (k:Int)) none=(pS b k aN).toArray:=by
  cases b with
  |true=>exact slicePick_from aN.toArray k (by simp;left)
  |false=>exact slicePick_upto aN.toArray k (by simp;left)
 have rc:Vals (pS b k xs) (pS b k aN):=by
  cases b with
  |true=>exact r.drop k
  |false=>exact r.take k
 have lc:(pS b k xs).length<=xs.length:=by
  cases b with
  |true=>show(xs.drop k).length<=_;rw[List.length_drop];left
  |false=>show(xs.take k).length<=_;rw[List.length_take];left
 rw[e];exact⟨.ref s.heap.objs.size,_,I.KA (t':=s.toks) rc (aaB lc hz),rfl,q _ I.fresh⟩
def cutD(b:Bool)(xs:aa):O D:=match two xs with
 |some z=>match z.1 with
  |.lst _ ds=>match z.2 with
   |.int k=>if 0<=k/\k<=ds.length then ok (.lst .ow (aC bB (pS b k.toNat ds)))else none
   |_=>none
  |_=>none
 |none=>none
theorem GW{b:Bool}{x y d:D}(h:cutD b [x,y]=ok d):∃(f:Fl) (ds:aa) (k:Nat),x=.lst f ds/\y=.int k/\k<=ds.length/\d=.lst .ow (aC bB (pS b k ds)):=by
 cases x<;>first|exact nk h | (cases h;done) | (cases y<;>first|exact nk h | (cases h;done)|skip)
 obtain⟨⟨h1,h2⟩,h3⟩:=pv h;rename_i f ds k;exact⟨f,ds,k.toNat,rfl,by rw[Int.toNat_of_nonneg h1],by left,h3.symm⟩
noncomputable def Ez(b:Bool)(e:Expr):Option Expr:=match e with
 |.Slice lo hi st _=>match st with
  |none=>match b with
   |true=>match hi with
    |none=>lo
    |some _=>none
   |false=>match lo with
    |none=>hi
    |some _=>none
  |some _=>none
 |_=>none
theorem Ey{b:Bool}{e k:Expr}(h:Ez b e=some k):∃p,e=.Slice (if b then some k else none) (if b then none else some k) none p:=by
 cases e<;>first|exact nk h | (cases h;done)|skip
 rename_i lo hi st p;cases st with
 |some _=>cases h
 |none=>cases b with
  |true=>cases hi with
   |some _=>cases h
   |none=>cases h;exact⟨p,rfl⟩
  |false=>cases lo with
   |some _=>cases h
   |none=>cases h;exact⟨p,rfl⟩
def sj(b:Bool)(_:Scope)(_:aq)(e:Expr):Option (aA):=match kg e with
 |some z=>match Ez b z.2 with
  |some k=>some [z.1,k]
  |none=>none
 |none=>none
theorem Aj{b:Bool}{sc:Scope}{bl:aq}{e:Expr}(h:sj b sc bl e=some args):∃a k p pos,e=.Subscript a (.Slice (if b then some k else none) (if b then none else some k) none p) pos/\args=[a,k]:=by
 unfold sj at h;cases hv:kg e with
 |none=>rw[hv]at h;exact nk h
 |some z =>
  obtain⟨a,s⟩:=z;rw[hv]at h;obtain⟨pos,rfl⟩:=jh hv;have h:(match Ez b s with|some k=>some [a,k]|none=>none)=some args:=h;cases hw:Ez b s with
  |none=>rw[hw]at h;exact nk h
  |some k =>
   rw[hw]at h;cases h;obtain⟨p,rfl⟩:=Ey hw;exact⟨a,k,p,pos,rfl,rfl⟩
theorem My{b:Bool}{n:Nat}(hΦ:Φ n=cutD b){sc:Scope}{bl:aq}{k:Nat}(L:PX X sc bl k){e:Expr}(he:sj b sc bl e=some args)(hs:pb X F Φ cs args):PE X e (tD X F Φ (.dj n cs))/\PT X e (iw X F Φ (.dj n cs)):=by
 obtain⟨a,ke,p,pos,rfl,rfl⟩:=Aj he;cases cs with
 |nil=>exact hs.elim
 |cons c cs=>cases cs with
  |nil=>exact hs.2.2.2.elim
  |cons c' cs=>cases cs with
   |cons _ _=>exact hs.2.2.2.2.2.2.elim
   |nil =>
    obtain⟨h1,_,_,h2,_,_,_⟩:=hs;have this:PE X (.Subscript a (.Slice (if b then some ke else none) (if b then none else some ke) none p) pos) (tD X F Φ (.dj n [c,c'])):=by
     have go:∀{tl th:TO},PO X (if b then some ke else none) tl->PO X (if b then none else some ke) th->(∀(H1:Hp) (R:aj) (τ:Addr->Option bt) (ρ:aX) (k:Nat) (σ:St) (Q:Option Int->Option Int->Hp->Prop),SI X F R τ ρ σ H1->bx Φ c' ρ=ok (.int k)->(∀H2,aM H1 H2->Q (if b then some (k:Int)else none) (if b then none else some (k:Int)) H2)->tl σ H1 λl H2=>th σ H2 λu H3=>Q l u H3)->PE X (.Subscript a (.Slice (if b then some ke else none) (if b then none else some ke) none p) pos) (tD X F Φ (.dj n [c,c'])):=by
      intro tl th pl pu hh;refine PE.imp (BW (xI b) h1 pl pu) λσ H Q hq=>?_;obtain⟨R,τ,ρ,d,Si,ev,hq⟩:=hq;obtain⟨xs,cO,ev⟩:=aJ ev;obtain⟨x,ex,cO⟩:=aJ cO;obtain⟨ys,wJ,cO⟩:=aJ cO;cases cO;obtain⟨y,ey,wJ⟩:=aJ wJ;cases wJ;rw[hΦ]at ev;obtain⟨f,ds,j,rfl,rfl,hj,rfl⟩:=GW ev;refine tD.intro Si ex λv H1 e1 r1=>hh H1 R τ ρ j σ (λl u H3=>OL X.K b v l u H3 Q) (Si.go e1) ey λH2 e2=>?_;have r2:=(r1.go e2).mono (fv':=iN (.dj n [c,c'])) λi hi=>aay _ hi;obtain⟨τt,fr,rp⟩:=r2;obtain⟨q,xs,rfl,hn,rs⟩:=rp.pB;have ee:=e1.trans e2;refine⟨q,xs,j,rfl,hn.sq,rfl,rfl,by rw[rs.length];exact hj,λl hl=>hq _ _ (ee.trans (aM.upd hl)) (ck.rB (ee.free hl) (ee.trans (aM.upd hl)) bj ?_)⟩;have rc:∃n',aI (bh X.K H2) (nd X.K R (jX (gP X F) τ (iN (.dj n [c,c']))) τt H2) [] n' (pS b j xs) (pS b j ds):=by
       cases b with
       |true=>exact⟨_,rs.Iu j⟩
       |false=>exact⟨_,rs.Hu j⟩
      obtain⟨n',rc⟩:=rc;exact(rc.fb Si fr).imp (λ_ _ h=>bh.same (aM.upd hl) h) λ_ _ _ _ h=>nd.same (aM.upd hl) h
     cases b with
     |true =>
      refine go (xU h2) xV λH1 R τ ρ k σ Q Si ek hk=>tD.intro Si ek λv H2 e2 r2=>?_;cases r2.isInt;exact⟨k,rfl,hk H2 e2⟩
     |false =>
      refine go xV (xU h2) λH1 R τ ρ k σ Q Si ek hk=>tD.intro Si ek λv H2 e2 r2=>?_;cases r2.isInt;exact⟨k,rfl,hk H2 e2⟩
    exact⟨this,cY this λ_=>by cases b<;>rfl⟩
section
open PySem.SeqAt
open PySem.AutoSeq1 (wpAny_loadPart')
open PySem.MeetsSeq PySem.MeetsSeq2 PySem.MeetsSeq3
theorem BF(A:aK)(s:Shared)(a:Int)(t:Tok)(c:Int)(u:Tok)(prog:aH)(w:World)(E:aB)(Q:aB)(h:Q (.bool (decide (a ≥ c))) s):wpAny (model prog w) A (richCompare .GtE (.int a t) (.int c u)) Q E s :=
 (PyProof.Rows.ge_int h:wpAny (model prog w) A (compareOp .GtE (.int a t) (.int c u)) Q E s)
theorem FV{vs ws:ao}{ms:ae}{m n:Nat}(h1:IntsAre vs ns)(h2:IntsAre ws ms)(hz:vs.zip ws=[])(hl:ns.length+n=ms.length+m):(!HT.lexLt ns ms)=decide (m ≥ n):=by
 cases h1 with
 |nil=>cases h2 with
  |nil=>simp only[List.length_nil]at hl;exact(aaK (by left)).symm
  |cons c u h=>simp only[List.length_nil,List.length_cons]at hl;exact(aaI (by left)).symm
 |cons a t h=>cases h2 with
  |nil=>simp only[List.length_nil,List.length_cons]at hl;exact(aaK (by left)).symm
  |cons c u h=>rw[List.zip_cons_cons]at hz;cases hz
theorem pC(l b:Addr)(items dE:aV)(n n2:Nat)(dd vx:Option Addr)(sl vn:Array (Option Value))(ns ms:ae)(hi:IntsAre items.toList ns)(hj:IntsAre dE.toList ms):
  Meets (Builtin.«tuple.__ge__» ⟨[.ref l,.ref b],[]⟩) (λ_ R s=>s.heap.get? l=some { cls:=.type "tuple",dict:=dd,data:=.seq items n,slots:=sl }/\s.heap.get? b=some { cls:=.type "tuple",dict:=vx,data:=.seq dE n2,slots:=vn }/\R (.ok (.ret (.bool (!HT.lexLt ns ms)))) s) :=
 .of_wp λprog w A R s h=>by
  obtain⟨hp,g,d,tk,os⟩:=s;obtain⟨hl,hb,h⟩:=h;have f2:=AutoSeq1.sub_tuple_tuple;have z1:items.size=ns.length:=by rw[<- hi.length];simp
  have z2:dE.size=ms.length:=by rw[<- hj.length];simp
  wp_walk using wpAny_loadPart' hl,wpAny_loadPart' hb,wpAny_forIn_list _ (λrest b s'=>b.1=none/\s'=⟨hp,g,d,tk,os⟩/\∃(vs ws:ao) (lh AB:ae),rest=vs.zip ws/\IntsAre vs lh/\IntsAre ws AB/\lh.length+dE.size=AB.length+items.size/\R (.ok (.ret (.bool (!HT.lexLt lh AB)))) ⟨hp,g,d,tk,os⟩) _
  case turn =>
   rintro ⟨y,x⟩ rest b s' ⟨pz,rfl,vs,ws,lh,AB,hz,K4,Ia,hlen,hR⟩;cases K4 with
   |nil=>rw[List.zip_nil_left]at hz;cases hz
   |cons a t hvi'=>cases Ia with
    |nil=>rw[List.zip_nil_right]at hz;cases hz
    |cons c u hwi' =>
     rw[List.zip_cons_cons]at hz;injection hz with Vf CM
     injection Vf with hy hx
     subst hy hx;rw[HT.dN]at hR;simp only[List.length_cons]at hlen;obtain⟨e,he,CU⟩:=HT.uP A.in1 ⟨hp,g,d,tk,os⟩ a t c u;refine aaa (he prog w _ _ ?_);cases e with
     |true =>
      rw[if_pos (CU.mp rfl)]at hR
      wp_walk
      exact⟨rfl,rfl,_,_,_,_,CM,hvi',hwi',by left,hR⟩
     |false =>
      have yt:¬ a=c:=λq=>absurd (CU.mpr q) aac;rw[if_neg yt,show(!decide (a<c))=decide (a ≥ c) by by_cases q:a<c<;>simp[q]<;>left]at hR;have Vt:=BF A.in1 ⟨hp,g,d,tk,os⟩ a t c u prog w
      wp_walk using Vt
      exact⟨_,rfl,by simpa using hR⟩
  case fin =>
   rintro ⟨b1,b2⟩ s' ⟨pz,rfl,vs,ws,lh,AB,hz,K4,Ia,hlen,hR⟩;simp only at pz;subst pz;rw[FV K4 Ia hz.symm hlen]at hR
   wp_walk
   exact⟨_,rfl,by simpa [Builtin.Tuple.tupleCompareSizes]using hR⟩
  case h=>exact⟨rfl,rfl,items.toList,dE.toList,ns,ms,rfl,hi,hj,by left,h⟩
end
def OK(K:au):R2:=λx y H Q=>∃a b ns ms,x=.ref a/\y=.ref b/\bh K H a (ns.map V.int)/\bh K H b (ms.map V.int)/\Q (.bl (!HT.lexLt ns ms)) H
theorem B5(hu:X.A.units<cLine):jZ X (compareOp .GtE) (OK X.K):=by
 intro pins s σ H x y v u Q I rx ry h;obtain⟨a,b,ns,ms,rfl,rfl,ha,hb,q⟩:=h;cases rx;cases ry;obtain⟨aN,r1,⟨⟨cls,dd,data,sl⟩,ho,hc,n,hd⟩,_⟩:=I.tuple ha;obtain⟨mE,r2,⟨⟨GZ,vx,data2,vn⟩,rN,hc2,n2,hd2⟩,_⟩:=I.tuple hb;simp only at hc hd hc2 hd2;subst hc hd hc2 hd2;exact richCompare_meets_room (op:=.GtE) ⟨_,ho,rfl⟩ ⟨_,rN,rfl⟩ PySem.F.slot_tuple_ge PySem.F.entry_tuple_ge (PySem.F.args_tuple_ge_2 _ _) (pC a b aN.toArray mE.toArray n n2 dd vx sl vn ns ms (intsAre_of r1) (intsAre_of r2))
  ⟨ho,rN,show Value.bool (!HT.lexLt ns ms)≠Value.notImplemented/\EP X pins σ Q (.bool (!HT.lexLt ns ms)) s from⟨(λx=>nomatch x),⟨.bl _,H,I,rfl,q⟩⟩⟩ hu
def Nv(xs:aa):O D:=match two xs with
 |some z=>match z.1 with
  |.tup a=>match z.2 with
   |.tup b=>match intsOf a with
    |some ns=>match intsOf b with
     |some ms=>ok (.bl (!HT.lexLt ns ms))
     |none=>none
    |none=>none
   |_=>none
  |_=>none
 |none=>none
theorem LA{x y d:D}(h:Nv [x,y]=ok d):∃ns ms:ae,x=.tup (ns.map D.int)/\y=.tup (ms.map D.int)/\d=.bl (!HT.lexLt ns ms):=by
 cases x<;>first|exact nk h | (cases h;done) | (cases y<;>first|exact nk h | (cases h;done)|skip)
 rename_i a b;have h:(match intsOf a with|some ns=>(match intsOf b with|some ms=>ok (D.bl (!HT.lexLt ns ms))|none=>none)|none=>none)=ok d:=h;cases h1:intsOf a with
 |none=>rw[h1]at h;exact nk h
 |some ns=>cases h2:intsOf b with
  |none=>rw[h1,h2]at h;cases h
  |some ms =>
   rw[h1,h2]at h;cases h;exact⟨ns,ms,by rw[ej h1],by rw[ej h2],rfl⟩
def yU(_:Scope)(_:aq)(e:Expr):Option (aA):=match EA e with
 |some z=>match one z.2.2 with
  |some r=>if z.2.1=[.GtE]then some [z.1,r]else none
  |none=>none
 |none=>none
theorem DQ{sc:Scope}{bl:aq}{e:Expr}(h:yU sc bl e=some args):∃l r p,e=.Compare l [.GtE] [r] p/\args=[l,r]:=by
 unfold yU at h;cases hv:EA e with
 |none=>rw[hv]at h;exact nk h
 |some z =>
  obtain⟨l,os,rs⟩:=z;rw[hv]at h;obtain⟨p,rfl⟩:=xp hv;replace h:(match one rs with|some r=>if os=[.GtE]then some [l,r]else none|none=>none)=some args:=h;cases hw:one rs with
  |none=>rw[hw]at h;exact nk h
  |some r =>
   rw[hw]at h;replace h:(if os=[.GtE]then some [l,r]else none)=some args:=h;obtain rfl:=cf hw;by_cases hc:os=[.GtE]
   ·rw[if_pos hc]at h;cases h;subst hc;exact⟨l,r,p,rfl,rfl⟩
   ·rw[if_neg hc]at h;cases h
theorem Q3{n:Nat}(hΦ:Φ n=Nv){sc:Scope}{bl:aq}{k:Nat}(L:PX X sc bl k){e:Expr}(he:yU sc bl e=some args)(hs:pb X F Φ cs args):PE X e (tD X F Φ (.dj n cs))/\PT X e (iw X F Φ (.dj n cs)):=by
 obtain⟨l,r,p,rfl,rfl⟩:=DQ he;have hu:X.A.units<cLine:=by have:=L.room.units;left
 cases cs with
 |nil=>exact hs.elim
 |cons c cs=>cases cs with
  |nil=>exact hs.2.2.2.elim
  |cons c' cs=>cases cs with
   |cons _ _=>exact hs.2.2.2.2.2.2.elim
   |nil =>
    obtain⟨h1,_,_,h2,_,_,_⟩:=hs;have key:∀{σ:St} {H:Hp} {R:aj} {τ:Addr->Option bt} {ρ:aX} {d:D} {Q:VK},SI X F R τ ρ σ H->bx Φ (.dj n [c,c']) ρ=ok d->(∀b H2,d=.bl b->aM H H2->Q (.bl b) H2)->Hw (OK X.K) (tD X F Φ c) (tD X F Φ c') σ H Q:=by
     intro σ H R τ ρ d Q Si ev hq;obtain⟨xs,cO,ev⟩:=aJ ev;obtain⟨x,ex,cO⟩:=aJ cO;obtain⟨ys,wJ,cO⟩:=aJ cO;cases cO;obtain⟨y,ey,wJ⟩:=aJ wJ;cases wJ;rw[hΦ]at ev;obtain⟨ns,ms,rfl,rfl,rfl⟩:=LA ev;refine tD.intro Si ex λv H1 e1 r1=>tD.intro (Si.go e1) ey λu H2 e2 r2=>?_;obtain⟨_,_,p1⟩:=r1.go e2;obtain⟨_,_,p2⟩:=r2;cases p1 with
     |tup t1 s1=>cases p2 with
      |tup t2 s2 =>
       cases s1.ofInts;cases s2.ofInts;exact⟨_,_,ns,ms,rfl,rfl,t1,t2,hq _ H2 rfl (e1.trans e2)⟩
    refine⟨PE.imp (xZ (B5 hu) h1 h2 (Ca _)) λσ H Q hq=>?_,PT.imp (xQ (B5 hu) h1 h2 (Ca _)) λσ H Q hq=>?_⟩
    ·obtain⟨R,τ,ρ,d,Si,ev,hq⟩:=hq;exact key Si ev λb H2 e es=>hq _ H2 es (by subst e;exact .bl)
    ·obtain⟨R,τ,ρ,b,Si,ev,hq⟩:=hq;obtain⟨d,ed,et⟩:=aJ ev;refine key Si ed λb' H2 e es=>?_;subst e;cases et;exact⟨_,rfl,hq H2 es⟩
section
variable {X:Cx}
end
end DI
end
section
namespace DI
open PySem PySem.Spec PyProof.Rows L2 PySem.W
noncomputable def cV{α:Type}(lt:Nat->Nat->Bool):KasT α->α
 |.ret a=>a
 |.ask i j k=>cV lt (k (lt i j))
theorem gO{α β:Type}(lt:Nat->Nat->Bool)(f:α->KasT β):∀t:KasT α,cV lt (t.bind f)=cV lt (f (cV lt t))
 |.ret a=>rfl
 |.ask i j k=>gO lt f (k (lt i j))
section
noncomputable def jA{α:Type}(n:Nat)(lt:Nat->Nat->Bool):KasT α->Prop
 |.ret _=>True
 |.ask i j k=>i<n/\j<n/\jA n lt (k (lt i j))
end
theorem y8{α:Type}{cmp:Nat->Nat->(Bool->Shared->Prop)->Shared->Prop}{lt:Nat->Nat->Bool}{s:Shared}{n:Nat}(hc:∀i j C,i<n->j<n->C (lt i j) s->cmp i j C s){Q:α->Shared->Prop}:
  ∀(t:KasT α),jA n lt t->Q (cV lt t) s->t.kasWp cmp Q s
 |.ret a,_,h=>h
 |.ask i j k,⟨h1,h2,h3⟩,h=>hc i j _ h1 h2 (y8 hc (k (lt i j)) h3 h)
theorem fF{α β:Type}{lt:Nat->Nat->Bool}{n:Nat}{f:α->KasT β}:∀{t:KasT α},jA n lt t->jA n lt (f (cV lt t))->jA n lt (t.bind f)
 |.ret _,_,h=>h
 |.ask i j k,⟨h1,h2,h3⟩,h=>⟨h1,h2,fF h3 h⟩
structure Ord(lt:Nat->Nat->Bool)(n:Nat):Prop where
 tr:∀a b c,a<n->b<n->c<n->lt a b=true->lt b c=true->lt a c=true
 as:∀a b,a<n->b<n->lt a b=true->lt b a=false
 mL:∀a b,a<n->b<n->a≠b->lt a b=true\/lt b a=true
structure Arr(p:Array Nat)(n:Nat):Prop where
 sz:p.size=n
 pm:p.toList.Perm (List.range n)
section
variable {lt:Nat->Nat->Bool}{n:Nat}{p:Array Nat}
theorem Arr.bd(h:Arr p n){i:Nat}(hi:i<n):p.getD i 0<n:=by
 have jN:i<p.size:=by rw[h.sz];exact hi
 have:p.getD i 0=p[i]:=by simp[Array.getD,jN]
 rw[this];have hm:p[i]∈p.toList:=Array.getElem_mem_toList jN;exact List.mem_range.mp (h.pm.mem_iff.mp hm)
theorem Arr.inj(h:Arr p n){i j:Nat}(hi:i<n)(hj:j<n)(e:p.getD i 0=p.getD j 0):i=j:=by
 have jN:i<p.toList.length:=by rw[Array.length_toList,h.sz];exact hi
 have Qs:j<p.toList.length:=by rw[Array.length_toList,h.sz];exact hj
 have nd:p.toList.Nodup:=h.pm.nodup_iff.mpr List.nodup_range;have e1:p.getD i 0=p.toList[i]:=by simp[Array.getD,show i<p.size by rw[h.sz];exact hi]
 have e2:p.getD j 0=p.toList[j]:=by simp[Array.getD,show j<p.size by rw[h.sz];exact hj]
 rw[e1,e2]at e;exact(aca nd).mp e
def Up(lt:Nat->Nat->Bool)(p:Array Nat)(k:Nat):Prop:=∀i j,i<j->j<k->lt (p.getD i 0) (p.getD j 0)=true
def Dn(lt:Nat->Nat->Bool)(p:Array Nat)(k:Nat):Prop:=∀i j,i<j->j<k->lt (p.getD j 0) (p.getD i 0)=true
theorem Up.snoc(O:Ord lt n)(h:Arr p n){k:Nat}(hk:k<n)(h1:1<=k)(u:Up lt p k)(hl:lt (p.getD (k - 1) 0) (p.getD k 0)=true):Up lt p (k+1):=λi j iA hj=>by
 by_cases e:j=k
 ·subst e;by_cases e2:i=j - 1
  ·subst e2;exact hl
  ·exact O.tr _ _ _ (h.bd (by left)) (h.bd (by left)) (h.bd hk) (u i (j - 1) (by left) (by left)) hl
 ·exact u i j iA (by left)
theorem Dn.snoc(O:Ord lt n)(h:Arr p n){k:Nat}(hk:k<n)(h1:1<=k)(u:Dn lt p k)(hl:lt (p.getD k 0) (p.getD (k - 1) 0)=true):Dn lt p (k+1):=λi j iA hj=>by
 by_cases e:j=k
 ·subst e;by_cases e2:i=j - 1
  ·subst e2;exact hl
  ·exact O.tr _ _ _ (h.bd hk) (h.bd (by left)) (h.bd (by left)) hl (u i (j - 1) (by left) (by left))
 ·exact u i j iA (by left)
theorem sH(O:Ord lt n)(h:Arr p n):∀(f k:Nat),1<=k->k+f<=n->Up lt p k->jA n lt (kas_asc p f k)/\k<=cV lt (kas_asc p f k)/\cV lt (kas_asc p f k)<=k+f/\Up lt p (cV lt (kas_asc p f k))
 |0,k,_,_,u=>⟨trivial,aaj _,aaj _,u⟩
 |f+1,k,h1,hf,u=>by
  have a1:p.getD k 0<n:=h.bd (by left);have a2:p.getD (k - 1) 0<n:=h.bd (by left);cases c:lt (p.getD k 0) (p.getD (k - 1) 0)with
  |true =>
   have e:cV lt (kas_asc p (f+1) k)=k:=by
    show cV lt (if lt (p.getD k 0) (p.getD (k - 1) 0)=true then .ret k else kas_asc p f (k+1))=k;rw[c];rfl
   refine⟨⟨a1,a2,?_⟩,by rw[e];exact aaj _,by rw[e];left,by rw[e];exact u⟩;show jA n lt (if lt (p.getD k 0) (p.getD (k - 1) 0)=true then .ret k else kas_asc p f (k+1));rw[c];trivial
  |false =>
   have e:cV lt (kas_asc p (f+1) k)=cV lt (kas_asc p f (k+1)):=by
    show cV lt (if lt (p.getD k 0) (p.getD (k - 1) 0)=true then .ret k else kas_asc p f (k+1))=_;rw[c];rfl
   have hl:lt (p.getD (k - 1) 0) (p.getD k 0)=true:=by
    rcases O.mL _ _ a2 a1 (λz=>absurd (h.inj (by left) (by left) z) (by left))with z|z
    ·exact z
    ·rw[c]at z;cases z
   obtain⟨b1,b2,b3,b4⟩:=sH O h f (k+1) (by left) (by left) (u.snoc O h (by left) h1 hl);refine⟨⟨a1,a2,?_⟩,by rw[e];left,by rw[e];left,by rw[e];exact b4⟩;show jA n lt (if lt (p.getD k 0) (p.getD (k - 1) 0)=true then .ret k else kas_asc p f (k+1));rw[c];exact b1
theorem yQ(O:Ord lt n)(h:Arr p n):∀(f k:Nat),1<=k->k+f<=n->Dn lt p k->jA n lt (kas_desc f p k 0)/\∃m,cV lt (kas_desc f p k 0)=(p,m,0)/\k<=m/\m<=k+f/\Dn lt p m
 |0,k,_,_,u=>⟨trivial,k,rfl,aaj _,aaj _,u⟩
 |f+1,k,h1,hf,u=>by
  have a1:p.getD k 0<n:=h.bd (by left);have a2:p.getD (k - 1) 0<n:=h.bd (by left);cases c:lt (p.getD k 0) (p.getD (k - 1) 0)with
  |true =>
   obtain⟨b1,m,b2,b3,b4,b5⟩:=yQ O h f (k+1) (by left) (by left) (u.snoc O h (by left) h1 c);have e:kas_desc (f+1) p k 0=.ask (p.getD k 0) (p.getD (k - 1) 0) λc=>if c=true then(if (0:Nat)>0 then kas_desc f (kas_rev p (k - (0+1)) k) (k+1) 0 else kas_desc f p (k+1) 0)else .ask (p.getD (k - 1) 0) (p.getD k 0) λd=>if d=true then .ret (p,k,0)else kas_desc f p (k+1) (0+1):=rfl
   rw[e];refine⟨⟨a1,a2,?_⟩,m,?_,by left,by left,b5⟩
   ·rw[c];exact b1
   ·show cV lt (if lt (p.getD k 0) (p.getD (k - 1) 0)=true then _ else _)=_;rw[c];exact b2
  |false =>
   have hl:lt (p.getD (k - 1) 0) (p.getD k 0)=true:=by
    rcases O.mL _ _ a2 a1 (λz=>absurd (h.inj (by left) (by left) z) (by left))with z|z
    ·exact z
    ·rw[c]at z;cases z
   have e:kas_desc (f+1) p k 0=.ask (p.getD k 0) (p.getD (k - 1) 0) λc=>if c=true then(if (0:Nat)>0 then kas_desc f (kas_rev p (k - (0+1)) k) (k+1) 0 else kas_desc f p (k+1) 0)else .ask (p.getD (k - 1) 0) (p.getD k 0) λd=>if d=true then .ret (p,k,0)else kas_desc f p (k+1) (0+1):=rfl
   rw[e];refine⟨⟨a1,a2,?_⟩,k,?_,aaj _,by left,u⟩
   ·rw[c];exact⟨a2,a1,by rw[hl];trivial⟩
   ·show cV lt (if lt (p.getD k 0) (p.getD (k - 1) 0)=true then _ else _)=_;rw[c];show cV lt (if lt (p.getD (k - 1) 0) (p.getD k 0)=true then _ else _)=_;rw[hl];rfl
theorem mY{p q:Array Nat}{i j:Nat}(h:p[i]?=q[j]?):p.getD i 0=q.getD j 0:=by
 rw[Array.getD_eq_getD_getElem?,Array.getD_eq_getD_getElem?,h]
theorem JK(h:Arr p n){m:Nat}(hm:m<=n):Arr (kas_rev p 0 m) n/\(Dn lt p m->Up lt (kas_rev p 0 m) m):=by
 have hs:(kas_rev p 0 m).size=p.size:=mirror_size _ _ _ _;refine⟨⟨by rw[hs];exact h.sz,?_⟩,λu i j iA hj=>?_⟩
 ·have:=(mirror_perm p 0 m ((m - 0) / 2)).toList;exact this.trans h.pm
 ·have g:∀k,k<m->(kas_rev p 0 m).getD k 0=p.getD (m - 1 - k) 0:=λk hk=>by
   refine mY ?_;rw[show kas_rev p 0 m=mirror p 0 m ((m - 0) / 2) from rfl,getElem?_mirror_all (by rw[h.sz];exact hm),if_pos ⟨Nat.zero_le _,hk⟩];congr 1;left
  rw[g i (by left),g j hj];exact u (m - 1 - j) (m - 1 - i) (by left) (by left)
theorem A3(O:Ord lt n)(h:Arr p n){m:Nat}(h1:1<=m)(hm:m<=n)(u:Dn lt p m):jA n lt (kas_tail3 m n p)/\∃r,cV lt (kas_tail3 m n p)=r/\Arr r.2 n/\1<=r.1/\r.1<=n/\Up lt r.2 r.1:=by
 obtain⟨a1,a2⟩:=JK (lt:=lt) h hm;obtain⟨b1,b2,b3,b4⟩:=sH O a1 (n - m) m h1 (by left) (a2 u);unfold kas_tail3;refine⟨fF b1 trivial,_,rfl,?_⟩;rw[gO];exact⟨a1,aaB h1 b2,by show cV lt _<=n;left,b4⟩
theorem DH(O:Ord lt n)(h:Arr p n)(hn:2<=n):jA n lt (kas_count n p)/\∃r,cV lt (kas_count n p)=r/\Arr r.2 n/\1<=r.1/\r.1<=n/\Up lt r.2 r.1:=by
 obtain⟨b1,b2,b3,b4⟩:=sH O h (n - 1) 1 (aaj _) (by left) (λi j _ _=>by left);generalize hk:cV lt (kas_asc p (n - 1) 1)=k at *;have key:∀t:KasT (Nat×Array Nat),t=(if (k==n)=true then .ret (k,p)else if k>1 then .ask (p.getD 0 0) (p.getD (k - 1) 0) λc=>if c=true then .ret (k,p)else kas_descPart k n (kas_rev p 0 k)else kas_descPart k n p) ->
   jA n lt t/\∃r,cV lt t=r/\Arr r.2 n/\1<=r.1/\r.1<=n/\Up lt r.2 r.1:=by
  intro t ht;by_cases e:k=n
  ·rw[if_pos (by simpa using e)]at ht;subst ht;exact⟨trivial,(k,p),rfl,h,b2,by show k<=n;left,b4⟩
  ·rw[if_neg (by simpa using e)]at ht;by_cases e1:k>1
   ·rw[if_pos e1]at ht;subst ht;have hl:lt (p.getD 0 0) (p.getD (k - 1) 0)=true:=b4 0 (k - 1) (by left) (by left);refine⟨⟨h.bd (by left),h.bd (by left),by rw[hl];trivial⟩,(k,p),?_,h,b2,by left,b4⟩;show cV lt (if lt (p.getD 0 0) (p.getD (k - 1) 0)=true then _ else _)=_;rw[hl];rfl
   ·rw[if_neg e1]at ht;have hk1:k=1:=by left
    subst hk1;subst ht;have hl:lt (p.getD 1 0) (p.getD 0 0)=true:=by
     have a1:p.getD 1 0<n:=h.bd (by left);have a0:p.getD 0 0<n:=h.bd (by left);cases c:lt (p.getD 1 0) (p.getD 0 0)with
     |true=>rfl
     |false =>
      exfalso;obtain⟨f,hf⟩:∃f,n - 1=f+1:=⟨n - 2,by left⟩
      rw[hf]at hk;have e':cV lt (kas_asc p (f+1) 1)=cV lt (kas_asc p f 2):=by
       show cV lt (if lt (p.getD 1 0) (p.getD (1 - 1) 0)=true then .ret 1 else kas_asc p f 2)=_;rw[show(1 - 1:Nat)=0 from rfl,c];rfl
      rw[e']at hk;have u2:Up lt p 2:=λi j iA hj=>by
       have:i=0/\j=1:=by left
       obtain⟨rfl,rfl⟩:=this;rcases O.mL _ _ a0 a1 (λz=>absurd (h.inj (by left) (by left) z) (by left))with z|z
       ·exact z
       ·rw[c]at z;cases z
      obtain⟨_,c2,_,_⟩:=sH O h f 2 (by left) (by left) u2;left
    have d2:Dn lt p 2:=λi j iA hj=>by
     have:i=0/\j=1:=by left
     obtain⟨rfl,rfl⟩:=this;exact hl
    obtain⟨c1,m,c2,c3,c4,c5⟩:=yQ O h (n - 2) 2 (by left) (by left) d2;obtain⟨t1,r,t2,t3⟩:=A3 O h (m:=m) (by left) (by left) c5;unfold kas_descPart;refine⟨fF c1 ?_,r,?_,t3⟩
    ·rw[show(1+1:Nat)=2 from rfl,show n - 2=n - 2 from rfl,c2];exact t1
    ·rw[gO,show(1+1:Nat)=2 from rfl,c2];exact t2
 have e:=key _ rfl;refine⟨?_,?_⟩
 ·unfold kas_count;exact fF b1 (by rw[hk];exact e.1)
 ·unfold kas_count;rw[gO,hk];exact e.2
theorem Arr.or(O:Ord lt n)(h:Arr p n){i j:Nat}(hi:i<n)(hj:j<n)(e:i≠j)(c:lt (p.getD i 0) (p.getD j 0)=false):lt (p.getD j 0) (p.getD i 0)=true:=by
 rcases O.mL _ _ (h.bd hi) (h.bd hj) (λz=>e (h.inj hi hj z))with z|z
 ·rw[c]at z;cases z
 ·exact z
theorem nW(O:Ord lt n)(h:Arr p n){k:Nat}(hk:k<n)(u:Up lt p k):∀(f l r:Nat),l<=r->r<=k->r - l<=f->(∀i,i<l->lt (p.getD i 0) (p.getD k 0)=true)->(∀i,r<=i->i<k->lt (p.getD k 0) (p.getD i 0)=true) ->
  jA n lt (kas_place p k f l r)/\∃m,cV lt (kas_place p k f l r)=m/\m<=k/\(∀i,i<m->lt (p.getD i 0) (p.getD k 0)=true)/\∀i,m<=i->i<k->lt (p.getD k 0) (p.getD i 0)=true
 |0,l,r,hl,hr,hf,a,b=>by
  have:l=r:=by left
  subst this;exact⟨trivial,l,rfl,hr,a,b⟩
 |f+1,l,r,hl,hr,hf,a,b=>by
  have e:kas_place p k (f+1) l r=if l ≥ r then .ret l else .ask (p.getD k 0) (p.getD ((l+r) / 2) 0) λc=>if c=true then kas_place p k f l ((l+r) / 2)else kas_place p k f ((l+r) / 2+1) r:=rfl
  rw[e];by_cases Lg:l ≥ r
  ·rw[if_pos Lg];have:l=r:=by left
   subst this;exact⟨trivial,l,rfl,hr,a,b⟩
  ·rw[if_neg Lg];have hm:l<=(l+r) / 2/\(l+r) / 2<r:=by left
   generalize (l+r) / 2=m at *;have b1:p.getD k 0<n:=h.bd hk;have b2:p.getD m 0<n:=h.bd (by left);cases c:lt (p.getD k 0) (p.getD m 0)with
   |true =>
    obtain⟨c1,m',c2,c3⟩:=nW O h hk u f l m hm.1 (by left) (by left) a λi h1 h2=>by
     by_cases e:i=m
     ·subst e;exact c
     ·exact O.tr _ _ _ b1 b2 (h.bd (by left)) c (u m i (by left) h2)
    refine⟨⟨b1,b2,by rw[c];exact c1⟩,m',?_,c3⟩;show cV lt (if lt (p.getD k 0) (p.getD m 0)=true then _ else _)=_;rw[c];exact c2
   |false =>
    have vt:=h.or O hk (by left) (by left) c;obtain⟨c1,m',c2,c3⟩:=nW O h hk u f (m+1) r (by left) hr (by left) (λi hi=>by
     by_cases e:i=m
     ·subst e;exact vt
     ·exact O.tr _ _ _ (h.bd (by left)) b2 b1 (u i m (by left) (by left)) vt) b
    refine⟨⟨b1,b2,by rw[c];exact c1⟩,m',?_,c3⟩;show cV lt (if lt (p.getD k 0) (p.getD m 0)=true then _ else _)=_;rw[c];exact c2
theorem Ar(h:Arr p n){k m:Nat}(hk:k<n)(hm:m<=k)(u:Up lt p k)(a:∀i,i<m->lt (p.getD i 0) (p.getD k 0)=true)(b:∀i,m<=i->i<k->lt (p.getD k 0) (p.getD i 0)=true):
  Arr (bubble p k (k - m)) n/\Up lt (bubble p k (k - m)) (k+1):=by
 have hs:(bubble p k (k - m)).size=p.size:=bubble_size _ _ _;refine⟨⟨by rw[hs];exact h.sz,(bubble_perm p k (k - m)).toList.trans h.pm⟩,λi j iA hj=>?_⟩;have g:∀t,(bubble p k (k - m)).getD t 0=if t=m then p.getD k 0 else if m<t/\t<=k then p.getD (t - 1) 0 else p.getD t 0:=λt=>by
  have e:=getElem?_bubble (xs:=p) (src:=k) (by rw[h.sz];exact hk) (k - m) (Nat.sub_le _ _) t;rw[show k - (k - m)=m by left]at e;by_cases h1:t=m
  ·rw[if_pos h1]at e ⊢;exact mY e
  ·rw[if_neg h1]at e ⊢;by_cases h2:m<t/\t<=k
   ·rw[if_pos h2]at e ⊢;exact mY e
   ·rw[if_neg h2]at e ⊢;exact mY e
 rw[g i,g j];by_cases i1:i=m
 ·rw[if_pos i1,if_neg (by left),if_pos (by left)];exact b (j - 1) (by left) (by left)
 ·rw[if_neg i1];by_cases i2:m<i/\i<=k
  ·rw[if_pos i2,if_neg (by left),if_pos (by left)];exact u (i - 1) (j - 1) (by left) (by left)
  ·rw[if_neg i2];by_cases j1:j=m
   ·rw[if_pos j1];exact a i (by left)
   ·rw[if_neg j1];by_cases j2:m<j/\j<=k
    ·rw[if_pos j2];by_cases e:i=j - 1
     ·left
     ·exact u i (j - 1) (by left) (by left)
    ·rw[if_neg j2];exact u i j iA (by left)
end
theorem DW{lt:Nat->Nat->Bool}{n:Nat}(O:Ord lt n):∀(f:Nat) {p:Array Nat} {k:Nat},Arr p n->k+f=n->Up lt p k->jA n lt (kas_bin f p k)/\Arr (cV lt (kas_bin f p k)) n/\Up lt (cV lt (kas_bin f p k)) n
 |0,p,k,h,hk,u=>⟨trivial,h,by rw[<- hk];exact u⟩
 |f+1,p,k,h,hk,u=>by
  obtain⟨a1,m,a2,a3,a4,a5⟩:=nW O h (k:=k) (by left) u k 0 k (aaC _) (aaj _) (aaj _) (λi hi=>by left) (λi h1 h2=>by left);obtain⟨b1,b2⟩:=Ar h (by left) a3 u a4 a5;obtain⟨c1,c2,c3⟩:=DW O f b1 (by left) b2;have e:kas_bin (f+1) p k=(kas_place p k k 0 k).bind λl=>kas_bin f (bubble p k (k - l)) (k+1):=rfl;rw[e];refine⟨fF a1 (by rw[a2];exact c1),?_⟩;rw[gO,a2];exact⟨c2,c3⟩
theorem ES{lt:Nat->Nat->Bool}{n:Nat}(O:Ord lt n)(hn:2<=n):jA n lt (kas_sort n)/\Arr (cV lt (kas_sort n)) n/\Up lt (cV lt (kas_sort n)) n:=by
 have h0:Arr (List.toArray (List.range n)) n:=⟨by simp,by simp⟩
 obtain⟨a1,r,a2,a3,a4,a5,a6⟩:=DH O h0 hn;unfold kas_sort;have key:∀t,t=(if r.1<n then kas_bin (n - max r.1 1) r.2 (max r.1 1)else .ret r.2)->jA n lt t/\Arr (cV lt t) n/\Up lt (cV lt t) n:=by
  intro t ht;by_cases h:r.1<n
  ·rw[if_pos h]at ht;subst ht;rw[show max r.1 1=r.1 by left];exact DW O _ a3 (by left) a6
  ·rw[if_neg h]at ht;subst ht;have:r.1=n:=by left
   exact⟨trivial,a3,by rw[this]at a6;exact a6⟩
 have e:=key _ rfl;refine⟨fF a1 (by rw[a2];exact e.1),?_⟩;rw[gO,a2];exact e.2
end DI
end
section
namespace DI
open PySem PySem.Spec PyProof.Rows L2
def pW(h:Heap)(vs:ao)(nss:aG):Prop:=vs.length=nss.length/\∀(i:Nat) (ns:ae),nss[i]?=some ns->∃t aN,vs[i]?=some (.ref t)/\IsTup h t aN.toArray/\IntsAre aN ns
variable {h':Heap}{nss:aG}{vs:ao}
theorem pW.mono{h:Heap}(k:∀b o,h.get? b=some o->h'.get? b=some o)(t:pW h vs nss):pW h' vs nss :=
 ⟨t.1,λi ns e=>let ⟨a,aN,e1,⟨o,ho,r⟩,e3⟩:=t.2 i ns e;⟨a,aN,e1,⟨o,k _ _ ho,r⟩,e3⟩⟩
theorem pW.mem{h:Heap}(t:pW h vs nss){v:Value}(hv:v∈vs):∃a aN ns,v=.ref a/\IsTup h a aN.toArray/\IntsAre aN ns:=by
 obtain⟨i,hi⟩:=List.mem_iff_getElem?.mp hv;have hl:i<nss.length:=by rw[<- t.1];exact(List.getElem?_eq_some_iff.mp hi).1
 obtain⟨a,aN,e1,e2,e3⟩:=t.2 i _ (aan hl);rw[hi]at e1;cases e1;exact⟨a,aN,_,rfl,e2,e3⟩
section
variable {prog:aH}{w:World}{A:aK}{E:aB}{s:Shared}
theorem oN:∀{vs:ao} {nss:aG} {Q:List (Option Value)->Shared->Prop},pW s.heap vs nss->(∀fs:List (Option Value),fs.length=vs.length->(∀f∈fs,∀v,f=some v->∃n t,v=.int n t)->Q fs s)->wpAny (model prog w) A (vs.mapM firstOfTuple') Q E s
 |[],_,_,_,h=>by rw[List.mapM_nil];exact aag (h [] rfl λ_ h=>nomatch h)
 |v::vs,[],_,t,_=>by have:=t.1;simp at this
 |v::vs,ns::nss,Q,t,h=>by
  obtain⟨a,aN,e,⟨o,ho,hc,n,hd⟩,hi⟩:=t.2 0 ns rfl;cases e;rw[List.mapM_cons];refine aaa ?_;rw[PySem.W.kas_first_eq];refine aaa (PySem.W.Looks.here (show PySem.W.Looks (model prog w) s.heap (typeOf (.ref a)) o.cls from(PySem.W.Looks.ld ho).andThen .now) ?_);rw[hc,if_neg (by first|decide|simp)];refine aaa (listItems_at ho hd (aag ?_));refine aaa (oN (vs:=vs) (nss:=nss) ⟨by simpa using t.1,λi ms e=>t.2 (i+1) ms e⟩ λfs h1 h2=>aag (h _ (by simp[h1]) λf hf v hv=>?_));rcases List.mem_cons.mp hf with rfl|hf
  ·cases hi with
   |nil=>simp at hv
   |cons a' tk hi=>simp at hv;exact⟨_,_,hv.symm⟩
  ·exact h2 f hf v hv
def IP(κ:SortKind):Prop:=κ=tuples' true\/κ=general'\/κ=oneType'
theorem kind_any{Q:SortKind->Shared->Prop}(t:pW s.heap vs nss)(yt:vs≠[])(h:∀κ,IP κ->Q κ s):wpAny (model prog w) A (keyKind' vs.toArray) Q E s:=by
 obtain⟨v0,vr,rfl⟩:∃v0 vr,vs=v0::vr:=by
  cases vs with
  |nil=>exact absurd rfl yt
  |cons v0 vr=>exact⟨v0,vr,rfl⟩
 rw[kat_kind_eq,List.mapM_toArray,map_eq_pure_bind];refine aaa (aaa (oN t λfs hl hf=>aag ?_));by_cases ha:(fs.toArray.all λx=>x.isSome)=true
 ·rw[if_pos ha];refine aaa (wpAny_rule ?_);obtain⟨gs,hg,hgi⟩:∃gs:ao,fs=gs.map some/\∀v∈gs,∃n t,v=.int n t:=by
   clear h hl t;induction fs with
   |nil=>exact⟨[],rfl,λ_ h=>nomatch h⟩
   |cons f fs ih =>
    simp only[List.all_toArray,List.all_cons,Bool.and_eq_true]at ha;obtain⟨gs,e1,e2⟩:=ih (λf hf'=>hf f (aad _ hf')) (by simpa using ha.2);cases f with
    |none=>simp at ha
    |some v =>
     exact⟨v::gs,by rw[e1];rfl,λu hu=>by
      rcases List.mem_cons.mp hu with rfl|hu
      ·exact hf _ aaf _ rfl
      ·exact e2 u hu⟩
  subst hg;obtain⟨g0,gr,rfl⟩:∃g0 gr,gs=g0::gr:=by
   cases gs with
   |nil=>simp at hl
   |cons a b=>exact⟨a,b,rfl⟩
  have hfm:(((g0::gr).map some).toArray.filterMap id)=(g0::gr).toArray:=by simp
  rw[hfm,oneTypeOnly'_eq,List.mapM_toArray,map_eq_pure_bind];refine aaa (aaa (aaa (PySem.W.kas_mapM (r:=Value.type "int") _ (λv hv Q' hq=>by
   obtain⟨n,t,rfl⟩:=hgi v hv;exact(PySem.W.Looks.of_pure (M:=model prog w) rfl).here hq) (aag ?_))))
  have C0:((List.map (λ_=>Value.type "int") (g0::gr)).toArray.all λx=>x==Value.type "int")=true:=by
   simp only[List.all_toArray,List.all_map,List.all_eq_true];intro _ _;show(Value.type "int" == Value.type "int")=true;decide
  have h0:(List.map (λ_=>Value.type "int") (g0::gr)).toArray[0]?=some (Value.type "int"):=by simp
  rw[h0];simp only[C0,if_true];exact aag (aag (h _ (.inl rfl)))
 ·rw[if_neg ha];by_cases hb:((fs.toArray[0]?.bind id).isSome)=true
  ·rw[if_pos hb];exact aag (h _ (.inr (.inl rfl)))
  ·rw[if_neg hb];rw[oneTypeOnly'_eq,List.mapM_toArray,map_eq_pure_bind];refine aaa (aaa (aaa (PySem.W.kas_mapM (r:=Value.type "tuple") _ (λv hv Q' hq=>by
    obtain⟨a,aN,ns,rfl,⟨o,ho,hc,_⟩,_⟩:=t.mem hv;refine PySem.W.Looks.here (show PySem.W.Looks (model prog w) s.heap (typeOf (.ref a)) o.cls from(PySem.W.Looks.ld ho).andThen .now) ?_;rw[hc];exact hq) (aag ?_))))
   have C0:((List.map (λ_=>Value.type "tuple") (v0::vr)).toArray.all λx=>x==Value.type "tuple")=true:=by
    simp only[List.all_toArray,List.all_map,List.all_eq_true];intro _ _;show(Value.type "tuple" == Value.type "tuple")=true;decide
   have h0:(List.map (λ_=>Value.type "tuple") (v0::vr)).toArray[0]?=some (Value.type "tuple"):=by simp
   rw[h0];simp only[C0,if_true];exact aag (aag (h _ (.inr (.inr rfl))))
theorem Kx{κ:SortKind}(hk:IP κ)(hu:A.units<cLine){a b:Addr}{aN FZ:ao}{ns ms:ae}{Q:Bool->Shared->Prop}(ha:IsTup s.heap a aN.toArray)(hb:IsTup s.heap b FZ.toArray)(hi:IntsAre aN ns)(hj:IntsAre FZ ms)(h:Q (HT.lexLt ns ms) s):
  wpAny (model prog w) A (keyLt' κ (.ref a) (.ref b)) Q E s:=by
 rcases hk with rfl|rfl|rfl
 ·obtain⟨o,ho,_,n,hd⟩:=ha;obtain⟨o',gk,_,n',AG⟩:=hb;exact PySem.W.kat_lt ho hd gk AG (um 0 hi hj (by simp) h)
 ·exact PySem.W.kat_one _ _ (HT.wd ha hb (by simpa using hi) (by simpa using hj) hu h)
 ·show wpAny (model prog w) A (oneLt' true (.ref a) (.ref b)) Q E s;rw[oneLt'_eq];simp only[if_true];refine aaa (wpAny_cRoomFor hu ?_);obtain⟨⟨cls,dd,data,sl⟩,ho,hc,n,hd⟩:=id ha;obtain⟨⟨GZ,vx,data2,vn⟩,rN,hc2,n2,hd2⟩:=id hb;simp only at hc hd hc2 hd2;subst hc hd hc2 hd2;refine aaa (wpAny_callSpecialIfBound?_slot (name:=Str.ofString "__lt__") ⟨_,ho,rfl⟩ abL (aa9 abL ⟨_,ho,rfl⟩ PySem.F.entry_tuple_lt (PySem.F.args_tuple_lt_2 _ _) (HT.jB a b _ _ n n2 dd vx sl vn ns ms (by simpa using hi) (by simpa using hj)) ⟨ho,rN,?_⟩));exact aaM h
end
def sQ(h:Heap)(d:Addr)(es:Array DictEntry)(ep:Nat):Prop:=∃o,h.get? d=some o/\o.ExactDict/\o.data=.dict es ep
variable {Q:Value->Shared->Prop}
section
variable {prog:aH}{w:World}{A:aK}{E:aB}{s:Shared}{d it:Addr}{es:Array DictEntry}{ep i:Nat}
theorem sQ.typeIs(h:sQ s.heap d es ep):s.TypeIs (.ref d) "dict":=let ⟨o,ho,hx,_⟩:=h;⟨o,ho,hx.1⟩
theorem yP(hd:(d==sysModules)=false)(hm:sQ s.heap d es ep)
  (hQ:Q (.ref s.heap.objs.size) { s with heap:=s.heap.push { cls:=.type "dict_keyiterator",data:=.fields #[.ref d,.int 0 0,.int es.size 0,.int ep 0] } }):wpAny (model prog w) A (pyIter (.ref d)) Q E s:=by
 have hT:=hm.typeIs;obtain⟨o,ho,hx,QD⟩:=hm;refine wpAny_pyIter_slot hT PySem.F.slot_dict_iter (aaT PySem.F.slot_dict_iter hT PySem.F.entry_dict_iter ?_ (PySem.F.args_dict_iter_1 _));unfold Builtin.«dict.__iter__» Builtin.Dict.dictSlotNone;refine aaa (aaa (wpAny_notOrdered_dict hT (aag ?_)));show wpAny _ _ (Builtin.Dict.showsAll d >>= _) _ _ s;unfold Builtin.Dict.showsAll;rw[if_neg (by rw[hd];exact Bool.false_ne_true)];refine aaa (aag (aaa (ab_ ho QD (aaa (wpAny_dictEpoch ho QD ?_)))));exact aaa (abc (aag ⟨_,rfl,"dict_keyiterator",_,⟨_,aam _ rfl,rfl⟩,PySem.F.slot_dict_keyiterator_next.lookup,hQ⟩))
theorem yO{Q:Option Value->Shared->Prop}(hit:s.heap.IsKeyIter it d i es.size ep)(hm:sQ s.heap d es ep)(fZ:i<es.size)
  (hQ:∀h',h'.IsKeyIter it d (i+1) es.size ep->Heap.SameBut it s.heap h'->Q (some es[i].key) { s with heap:=h' }):wpAny (model prog w) A (pyNext (.ref it)) Q E s:=by
 obtain⟨o,ho,hc,hd⟩:=id hit;obtain⟨od,Ql,wC,Qz⟩:=hm;unfold pyNext;refine aaa (ab7 (aa8 (name:=Str.ofString "__next__") hit.typeIs aaH (aaT aaH hit.typeIs PySem.F.entry_dict_keyiterator_next ?_ (PySem.F.args_dict_keyiterator_next_1 _))));refine aaa (aag (aaa (aaa ?_)))
 first|refine aaa (aaO hit.typeIs (aag ?_))|refine aaa (aa6 hit.typeIs (aag ?_))
 refine aaa (wpAny_fieldsOf ho hd ?_);simp only[show Builtin.Dict_items.ownsTuple "dict_keyiterator" = false by decide,Bool.false_eq_true,if_false];show wpAny _ _ (if (Value.ref d==Value.none)=true then _ else _) _ _ s;rw[if_neg (show ¬ ((Value.ref d==Value.none)=true) from Bool.false_ne_true)];refine aaa (aag (aaa (ab_ Ql Qz ?_)));rw[if_neg (by simp)];refine aaa (aag (aaa (wpAny_dictEpoch Ql Qz ?_)));rw[if_neg (by simp)];refine aag ?_;simp only[show ¬ ((i:Int)<0) from by left,if_false,Int.toNat_natCast,Array.getElem?_eq_getElem fZ];refine aaa ?_
 first|refine aaa (aaO hit.typeIs (aag ?_))|refine aaa (aa6 hit.typeIs (aag ?_))
 refine aaa (wpAny_isOneOf_keyiter hit.typeIs ?_);show wpAny _ _ (setField (.ref it) 1 (rawInt ((i:Int)+1)) >>= _) _ _ s;refine aaa (wpAny_setField ho hd (by simp) ?_);have F_:(s.heap.update it (Obj.mapFields (·.setIfInBounds 1 (rawInt ((i:Int)+1))))).IsKeyIter it d (i+1) es.size ep :=
  ⟨_,aaY _ ho (Obj.isFreed_of_fields (Obj.data_mapFields hd _)),(Obj.cls_mapFields ..).trans hc,by rw[Obj.data_mapFields hd];simp[rawInt]⟩
 refine aaa (aaD (aaa (wpAny_isOneOf_keyiter (s:={ s with heap:=s.heap.update it (Obj.mapFields (·.setIfInBounds 1 (rawInt ((i:Int)+1)))) }) F_.typeIs ?_)));show wpAny _ _ (pure es[i].key) _ _ _;exact aag (aag ⟨_,rfl,aag (hQ _ F_ (Heap.SameBut.update ..))⟩)
theorem DA{Q:Option Value->Shared->Prop}(hh:A.handled=none)(hit:s.heap.IsKeyIter it d i es.size ep)(hm:sQ s.heap d es ep)(hge:es.size<=i)
  (hQ:∀h',Heap.ExtBut it s.heap h'->Q none { s with heap:=h' }):wpAny (model prog w) A (pyNext (.ref it)) Q E s:=by
 obtain⟨o,ho,hc,hd⟩:=id hit;obtain⟨od,Ql,wC,Qz⟩:=hm;unfold pyNext;refine aaa (ab7 (aa8 (name:=Str.ofString "__next__") hit.typeIs aaH (aaT aaH hit.typeIs PySem.F.entry_dict_keyiterator_next ?_ (PySem.F.args_dict_keyiterator_next_1 _))));refine aaa (aag (aaa (aaa ?_)))
 first|refine aaa (aaO hit.typeIs (aag ?_))|refine aaa (aa6 hit.typeIs (aag ?_))
 refine aaa (wpAny_fieldsOf ho hd ?_);simp only[show Builtin.Dict_items.ownsTuple "dict_keyiterator" = false by decide,Bool.false_eq_true,if_false];show wpAny _ _ (if (Value.ref d==Value.none)=true then _ else _) _ _ s;rw[if_neg (show ¬ ((Value.ref d==Value.none)=true) from Bool.false_ne_true)];refine aaa (aag (aaa (ab_ Ql Qz ?_)));rw[if_neg (by simp)];refine aaa (aag (aaa (wpAny_dictEpoch Ql Qz ?_)));rw[if_neg (by simp)];refine aag ?_;simp only[show ¬ ((i:Int)<0) from by left,if_false,Int.toNat_natCast,Array.getElem?_eq_none hge];refine aaa ?_
 first|refine aaa (aaO hit.typeIs (aag ?_))|refine aaa (aa6 hit.typeIs (aag ?_))
 show wpAny _ _ (setField (.ref it) 0 .none >>= _) _ _ s;refine aaa (wpAny_setField ho hd (by simp) ?_);show wpAny _ _ (newExc (.type "StopIteration") [] >>= _) _ _ _;refine aaa ?_;simp only[newExc,newTuple];refine aaa (abc ?_ (by size_fits));refine aaa (m:=firstArgMember _ _) (wpAny_of_eq (a:=Value.none) (by first|rfl | (simp only[firstArgMember];rfl)) ?_);refine abc ?_ (by size_fits);simp only[raiseNew];refine aaa (wpAny_handled ?_);rw[show A.in1.handled=none from hh];refine aaa (aag (wpAny_throw ?_));refine aaa (wpAny_isInstance (T:="StopIteration") (b:=true) ⟨_,aam _ rfl,rfl⟩ isSubtype_stop ?_);exact aag (hQ _ (((Heap.SameBut.update ..).extBut.push _).push _))
end
theorem wj:∀a b c:ae,HT.lexLt a b=true->HT.lexLt b c=true->HT.lexLt a c=true
 |[],[],_,h,_=>by rw[HT.jD]at h;cases h
 |[],_::_,[],_,h=>by rw[HT.c_]at h;cases h
 |[],_::_,_::_,_,_=>rfl
 |_::_,[],_,h,_=>by rw[HT.c_]at h;cases h
 |_::_,_::_,[],_,h=>by rw[HT.c_]at h;cases h
 |x::a,y::b,z::c,h1,h2=>by
  rw[HT.dN]at *;by_cases e1:x=y
  ·subst e1;rw[if_pos rfl]at h1;by_cases e2:x=z
   ·subst e2;rw[if_pos rfl]at h2 ⊢;exact wj a b c h1 h2
   ·rw[if_neg e2]at h2 ⊢;exact h2
  ·rw[if_neg e1]at h1;have l1:x<y:=aab h1;by_cases e2:y=z
   ·subst e2;rw[if_neg (by left)];exact aaK l1
   ·rw[if_neg e2]at h2;have l2:y<z:=aab h2;rw[if_neg (by left)];exact aaK (by left)
theorem rJ:∀a b:ae,HT.lexLt a b=true->HT.lexLt b a=false
 |[],[],_=>rfl
 |[],_::_,_=>rfl
 |_::_,[],h=>by rw[HT.c_]at h;cases h
 |x::a,y::b,h=>by
  rw[HT.dN]at *;by_cases e:x=y
  ·subst e;rw[if_pos rfl]at h ⊢;exact rJ a b h
  ·rw[if_neg e]at h;have l:x<y:=aab h;rw[if_neg (by left)];exact aaI (by left)
theorem mV:∀a b:ae,a≠b->HT.lexLt a b=true\/HT.lexLt b a=true
 |[],[],h=>absurd rfl h
 |[],_::_,_=>.inl rfl
 |_::_,[],_=>.inr rfl
 |x::a,y::b,h=>by
  rw[HT.dN,HT.dN];by_cases e:x=y
  ·subst e;rw[if_pos rfl,if_pos rfl];exact mV a b λz=>h (by rw[z])
  ·rw[if_neg e,if_neg (Ne.symm e)];rcases Int.lt_or_gt_of_ne e with l|l
   ·exact .inl (aaK l)
   ·exact .inr (aaK l)
def bU(nss:aG):aG:=nss.mergeSort λa b=>!HT.lexLt b a
def vi(nss:aG):Prop:=nss.Pairwise λa b=>HT.lexLt a b=true
theorem xN:∀{l m:aG},vi l->vi m->l.Perm m->l=m
 |[],m,_,_,p=>(List.perm_nil.mp p.symm).symm
 |a::l,[],_,_,p=>by have:=p.length_eq;simp at this
 |a::l,b::m,h1,h2,p=>by
  have e:a=b:=by
   have ha:a∈b::m:=p.mem_iff.mp aaf;have hb:b∈a::l:=p.mem_iff.mpr aaf;rcases List.mem_cons.mp ha with e|ha
   ·exact e
   ·rcases List.mem_cons.mp hb with e|hb
    ·exact e.symm
    ·have l1:=(List.pairwise_cons.mp h2).1 a ha;have l2:=(List.pairwise_cons.mp h1).1 b hb;rw[rJ _ _ l1]at l2;cases l2
  subst e;rw[xN (List.pairwise_cons.mp h1).2 (List.pairwise_cons.mp h2).2 (List.perm_cons a |>.mp p)]
theorem jK(h:nss.Nodup):vi (bU nss):=by
 have p:(bU nss).Perm nss:=aaR _ _;have nd:(bU nss).Nodup:=p.nodup_iff.mpr h;have sd:(bU nss).Pairwise λa b=>(!HT.lexLt b a)=true:=List.pairwise_mergeSort (λa b c h1 h2=>by
  cases e:HT.lexLt c a with
  |false=>rfl
  |true =>
   exfalso;by_cases wF:b=c
   ·subst wF;rw[e]at h1;cases h1
   ·rcases mV b c wF with l|l
    ·rw[wj _ _ _ l e]at h1;cases h1
    ·rw[l]at h2;cases h2) (λa b=>by
  cases e:HT.lexLt b a with
  |false=>rfl
  |true=>rw[rJ _ _ e];rfl) nss
 exact(sd.and nd).imp λ{a b} ⟨h1,h2⟩=>by
  rcases mV a b h2 with l|l
  ·exact l
  ·rw[l]at h1;cases h1
theorem Bh{l:aG}(h:nss.Nodup)(hr:vi l)(p:l.Perm nss):l=bU nss:=xN hr (jK h) (p.trans (aaR _ _).symm)
def ltN(nss:aG)(i j:Nat):Bool:=HT.lexLt (nss.getD i []) (nss.getD j [])
theorem J8(h:nss.Nodup):Ord (ltN nss) nss.length :=
 ⟨λa b c _ _ _ h1 h2=>wj _ _ _ h1 h2,λa b _ _ h=>rJ _ _ h,λa b ha hb wF=>mV _ _ λe=>wF (by
  have e1:nss.getD a []=nss[a]:=by simp[ha]
  have e2:nss.getD b []=nss[b]:=by simp[hb]
  rw[e1,e2]at e;exact(aca h).mp e)⟩
theorem qc(h:nss.Nodup){p:Array Nat}(ha:Arr p nss.length)(hu:Up (ltN nss) p nss.length):(p.toList.map λi=>nss.getD i [])=bU nss:=by
 refine Bh h ?_ ?_
 ·refine List.pairwise_iff_getElem.mpr λi j hi hj iA=>?_;simp only[List.length_map,Array.length_toList]at hi hj;have:=hu i j iA (by rw[<- ha.sz];exact hj);unfold ltN at this;have e:∀k (hk:k<p.size),p.getD k 0=p[k]:=λk hk=>by simp[Array.getD,hk]
  rw[e i hi,e j hj]at this;simpa using this
 ·have e:nss=(List.range nss.length).map λi=>nss.getD i []:=by
   refine abf (by simp) λi h1 h2=>?_;simp[h1]
  refine(ha.pm.map λi=>nss.getD i []).trans ?_;rw[<- e]
variable {ep:Nat}
section
variable {prog:aH}{w:World}{A:aK}{E:aB}{s:Shared}
theorem Be{a:Addr}{n:Nat}{P:PySem.Fin->Shared->Prop}(hu:A.units<cLine)(ho:s.heap.get? a=some (seqObj "list" vs.toArray n))(sY:vs.length<64)(Ec:nss.Nodup)
  (ht:pW (((s.heap.update a (Obj.mapSeq λ_=>#[])).push (seqObj "tuple" vs.toArray 0)).push (seqObj "list" #[] 0)) vs nss)
  (h:∀p:Array Nat,Arr p vs.length->(p.toList.map λi=>nss.getD i [])=bU nss->P (.done (.ret .none)) { s with heap:=sortedHeap s.heap a vs (List.toArray (p.toList.map λi=>vs.getD i Value.none)) }) :
  wpAny (model prog w) A (Builtin.«list.sort» ⟨[.ref a],[]⟩) P E s:=by
 rw[list_sort_plain];have ha:a<s.heap.objs.size:=aae ho;have hsz:vs.toArray.size=vs.length:=by simp
 have hz:vs.length<=sizeLine:=by rw[sizeLine_eq];left
 have hl:=ht.1;refine aaa (listItems_at ho rfl (aaa (listUpdate_at ho rfl ?_ (by rw[hsz];exact hz) (aaC _))));obtain⟨e1,Nh⟩:∃e1,(s.heap.update a (Obj.mapSeq λ_=>#[])).get? a=some (seqObj "list" #[] e1):=⟨_,get?_update_seq ho (λ_=>#[])⟩
 refine aaa (seqEpoch_at Nh rfl (aaa (wpAny_newTuple (aaa (ab6 (aaD ?_) (aaC _))) (by simpa using hz))));have X8:(((s.heap.update a (Obj.mapSeq λ_=>#[])).push (seqObj "tuple" vs.toArray 0)).push (seqObj "list" #[] 0)).get? a=some (seqObj "list" #[] e1):=aah _ (aah _ Nh);show wpAny (model prog w) A _ P E ({ s with heap:=((s.heap.update a (Obj.mapSeq λ_=>#[])).push (seqObj "tuple" vs.toArray 0)).push (seqObj "list" #[] 0) }:Shared);dsimp only;have fin:∀(mw:SortSt) (p:Array Nat),Arr p vs.length->(p.toList.map λi=>nss.getD i [])=bU nss->(arrOf mw).map (·.2)=List.toArray (p.toList.map λi=>vs.getD i Value.none)->failedOf mw=none->wpAny (model prog w) A (do
   let touched:=(<- seqEpoch a) != e1
   Builtin.List.listUpdate (.ref a) λ_=>(arrOf mw).map (·.2)
   if let some e:=failedOf mw then rule "list.sort.comparison-raised";throw e
   if touched then rule "list.sort.modified";raiseError "ValueError" "list modified during sort"
   ret .none) P E ({ s with heap:=((s.heap.update a (Obj.mapSeq λ_=>#[])).push (seqObj "tuple" vs.toArray 0)).push (seqObj "list" #[] 0) }:Shared):=by
  intro mw p hp hs hA hF;refine aaa (seqEpoch_at X8 rfl ?_);rw[hA];refine aaa (listUpdate_at X8 rfl ?_ (aaC _) (by rw[List.size_toArray,List.length_map,Array.length_toList,hp.sz];exact ab8 hz));rw[hF];simp only[bne_self_eq_false,Bool.false_eq_true,if_false];exact aag (h p hp hs)
 by_cases h2:vs.toArray.size<2
 ·rw[if_pos h2,if_pos h2];refine aaa (aag ?_);rw[StateT.run_pure];refine aaa (aag ?_);rw[hsz]at h2;have VW:Arr (List.toArray (List.range vs.length)) vs.length:=⟨by simp,by simp⟩
  refine fin (SortSt.mk' general' (vs.toArray.zip vs.toArray) #[] 7 none) (List.toArray (List.range vs.length)) VW ?_ ?_ rfl
  ·rw[hl]at VW ⊢;exact qc Ec VW λi j iA hj=>by left
  ·apply Array.toList_inj.mp;show(Array.map (·.2) (vs.toArray.zip vs.toArray)).toList=_;rw[Array.toList_map,show(vs.toArray.zip vs.toArray)=pairsOf vs from rfl,pairsOf_toList,List.map_snd_zip (Nat.le_refl _)];refine abf (by simp) λi h1 h2=>?_;simp[h1]
 ·rw[if_neg h2,if_neg h2];rw[hsz]at h2;refine aaa (kind_any ht (λz=>by rw[z]at h2;simp at h2) λκ hk=>?_);have ok:=ES (J8 Ec) (by rw[<- hl];left);refine aaa (aau (PySem.W.kat_run (ks:=vs) (vs:=vs) (κ:=κ) (Q:=λmw s'=>s'=({ s with heap:=((s.heap.update a (Obj.mapSeq λ_=>#[])).push (seqObj "tuple" vs.toArray 0)).push (seqObj "list" #[] 0) }:Shared)/\∃p,Arr p vs.length/\(p.toList.map λi=>nss.getD i [])=bU nss/\(arrOf mw).map (·.2)=List.toArray (p.toList.map λi=>vs.getD i Value.none)/\failedOf mw=none)
   (G:=λp s'=>s'=({ s with heap:=((s.heap.update a (Obj.mapSeq λ_=>#[])).push (seqObj "tuple" vs.toArray 0)).push (seqObj "list" #[] 0) }:Shared)/\Arr p vs.length/\(p.toList.map λi=>nss.getD i [])=bU nss) rfl (by left) sY (λp mw s' hps har hf hG=>⟨hG.1,p,hG.2.1,hG.2.2,PySem.W.kat_snds rfl har,hf⟩) ?_) (λr s' ⟨e,p,hp,hs,hA,hF⟩=>?_) λ_ _ e=>e)
  rotate_left
  ·subst e;exact fin r.2 p hp hs hA hF
  ·rw[hl];refine y8 (lt:=ltN nss) (n:=nss.length) (λi j C hi hj hC=>?_) _ ok.1 ⟨rfl,ok.2.1,qc Ec ok.2.1 ok.2.2⟩;obtain⟨x,aN,e1,i1,i2⟩:=ht.2 i _ (aan hi);obtain⟨y,FZ,e2,j1,j2⟩:=ht.2 j _ (aan hj);unfold PySem.W.kas_ask;rw[show vs.getD i Value.none=.ref x by simp[e1],show vs.getD j Value.none=.ref y by simp[e2]];refine Kx hk hu i1 j1 i2 j2 ?_;have e3:nss.getD i []=nss[i]:=by simp[hi]
   have e4:nss.getD j []=nss[j]:=by simp[hj]
   have Yq:C (HT.lexLt (nss.getD i []) (nss.getD j [])) _:=hC;rw[e3,e4]at Yq;exact Yq
theorem Dz{es:Array DictEntry}(hh:A.handled=none)(I d:Addr)(yt:d≠I):Walks prog w A I [I,d] [I] es.size (λi v=>∃e,es[i]?=some e/\v=e.key) (λi h=>h.IsKeyIter I d i es.size ep/\sQ h d es ep) where
 sub:=λb hb=>by simp at hb;simp[hb]
 frame:=λ_ _ _ st hk=>⟨st.1.at λo e=>hk I (by simp) o e,let ⟨o,ho,r⟩:=st.2;⟨o,hk d (by simp) o ho,r⟩⟩
 item:=λi s Q E hi st hQ=>yO st.1 st.2 hi λh' F_ Ss=>hQ _ h' s.toks ⟨es[i],aa0 hi,rfl⟩ ⟨F_,let ⟨o,ho,r⟩:=st.2;⟨o,Ss.extBut d o yt ho,r⟩⟩ λb o hb e=>Ss.extBut b o (λh=>hb (by simp[h])) e
 done:=λs Q E st hQ=>DA hh st.1 st.2 (aaj _) λh' he'=>hQ h' s.toks λb o hb e=>he' b o (λh=>hb (by simp[h])) e
 self:=λ_ _ _ _ st hQ=>wpAny_pyIter_keyiter st.1 hQ
theorem Mu{d:Addr}{es:Array DictEntry}(lo:(d==sysModules)=false):PySem.W.KdlSrc prog w "dict" d d es.size (λi v=>∃e,es[i]?=some e/\v=e.key) (λh=>sQ h d es ep) where
 type:=λ_ hm=>hm.typeIs
 there:=λ_ hm=>let ⟨_,ho,_⟩:=hm;⟨aae ho,aae ho⟩
 keep:=λ_ _ hm hk=>let ⟨o,ho,r⟩:=hm;⟨o,hk d (.inl rfl) o ho,r⟩
 notList:=by decide
 notTuple:=by decide
 hint:=λ_ _ _ _ hm hq=>PySem.W.kdl_hint_dict hm.typeIs hq
 iter:=λ_ _ hh hm=>⟨_,_,(λ_ _ hq=>yP lo hm hq),Dz hh _ d (let ⟨_,ho,_⟩:=hm;aak (aae ho)),⟨⟨_,aam _ rfl,rfl,rfl⟩,let ⟨o,ho,r⟩:=hm;⟨o,aah _ ho,r⟩⟩⟩
theorem tN{d:Addr}{es:Array DictEntry}(hh:A.handled=none)(hu:A.units+2<cLine)(lo:(d==sysModules)=false)(hm:sQ s.heap d es ep)(sY:es.size<64)(Ec:nss.Nodup)(ht:pW s.heap (es.toList.map (·.key)) nss)
  (h:∀(S:Addr) (h':Heap) (tk e:Nat) (p:Array Nat),s.heap.get? S=none->(∀b o,s.heap.get? b=some o->h'.get? b=some o)->Arr p es.size->(p.toList.map λi=>nss.getD i [])=bU nss ->
   h'.get? S=some (seqObj "list" (List.toArray (p.toList.map λi=>(es.toList.map (·.key)).getD i Value.none)) e)->Q (.ref S) { s with heap:=h',toks:=tk }) :
  wpAny (model prog w) A (call (.builtin "sorted") [.ref d]) Q E s:=by
 refine Calls.call_function_entry kind_sorted plain_sorted entry_sorted (args_sorted1 _) ?_;unfold Builtin.«sorted»;have hz:es.size<=sizeLine:=by rw[sizeLine_eq];left
 refine aaa (m:=checkCount "sorted" 1 1 _) (aag (aaa (PySem.W.kdu_collect (A:=A.in1) (Mu lo) hh hm hz λh1 tk acc hk fg=>?_)));have QO:acc.toList=es.toList.map (·.key):=by
  refine ab9 λi=>?_;rw[List.getElem?_map,Array.getElem?_toList,Array.getElem?_toList];by_cases hi:i<es.size
  ·have Yb:i<acc.size:=by rw[fg.1];exact hi
   obtain⟨e,he,hv⟩:=fg.2 i acc[i] (aa0 Yb);rw[Array.getElem?_eq_getElem Yb,he,hv];rfl
  ·rw[Array.getElem?_eq_none (by rw[fg.1];left),Array.getElem?_eq_none (by left)];rfl
 rw[QO];generalize Vl:es.toList.map (·.key)=vs at *;have F8:vs.length=es.size:=by rw[<- Vl];simp
 refine aaa (ab6 ?_ (by rw[F8];exact hz));show wpAny _ _ _ _ _ ({ s with heap:=h1.push (seqObj "list" vs.toArray 0),toks:=tk }:Shared);have Qm:(h1.push (seqObj "list" vs.toArray 0)).get? h1.objs.size=some (seqObj "list" vs.toArray 0):=aam _ rfl;have k6:∀b o,s.heap.get? b=some o->((((h1.push (seqObj "list" vs.toArray 0)).update h1.objs.size (Obj.mapSeq λ_=>#[])).push (seqObj "tuple" vs.toArray 0)).push (seqObj "list" #[] 0)).get? b=some o:=λb o e=>by
  refine aah _ (aah _ ?_);rw[Heap.get?_update_other _ _ (Nat.ne_of_gt (Heap.lt_size (hk b o e)))];exact aah _ (hk b o e)
 have hle:s.heap.get? h1.objs.size=none:=by
  cases q:s.heap.get? h1.objs.size with
  |none=>rfl
  |some o=>exact absurd (aae (hk _ o q)) (aax _)
 refine aaa (aaD (aaT slot_list_sort ⟨_,Qm,rfl⟩ entry_list_sort (Be (s:={ s with heap:=h1.push (seqObj "list" vs.toArray 0),toks:=tk }) (nss:=nss) (show A.in1.in1.units<cLine by show A.units+1+1<cLine;left) Qm (by rw[F8];exact sY) Ec (ht.mono k6) λp hp hs=>⟨_,rfl,?_⟩) (args_list_sort _)));obtain⟨e,he⟩:=sortedHeap_at (out:=List.toArray (p.toList.map λi=>vs.getD i Value.none)) Qm;refine aag ⟨_,rfl,h h1.objs.size _ tk e p hle (λb o e=>?_) (by rw[<- F8];exact hp) hs he⟩;have fZ:=aae (hk b o e);rw[sortedHeap_old (Nat.ne_of_lt fZ) (by rw[size_push'];exact Nat.lt_succ_of_lt fZ)];exact aah _ (hk b o e)
end
section
variable {α β:Type}
noncomputable def cA:aG->List α->ae->Option α
 |c'::cs,v::vs,c=>if c'=c then some v else cA cs vs c
 |_,_,_=>none
noncomputable def setC:aG->List α->ae->α->List α
 |c'::cs,v'::vs,c,v=>(if c'=c then v else v')::setC cs vs c v
 |_,_,_,_=>[]
noncomputable def de(cs:aG)(c:ae):aG:=if c∈cs then cs else cs++[c]
noncomputable def vf(cs:aG)(as:List α)(c:ae)(a:α):List α:=if c∈cs then as else as++[a]
def cc(cs:aG)(vs:List α)(c:ae)(v:α):List α:=if c∈cs then setC cs vs c v else vs++[v]
end
section
variable {zs:List (ae×Addr×Value)}{c:ae}
theorem lN:∀(zs:List (ae×Addr×Value)) (c:ae),(atKey zs c).map (·.2)=cA (zs.map (·.1)) (zs.map (·.2.2)) c
 |[],_=>rfl
 |z::zs,c=>by
  have ih:=lN zs c;unfold atKey at ih ⊢;rw[List.find?_cons];show _=if z.1=c then some z.2.2 else cA (zs.map (·.1)) (zs.map (·.2.2)) c
  by_cases e:z.1=c
  ·rw[decide_eq_true e,if_pos e];rfl
  ·rw[decide_eq_false e,if_neg e];exact ih
theorem eD:∀(zs:List (ae×Addr×Value)) (c:ae),(atKey zs c).isSome=true ↔ c∈zs.map (·.1)
 |[],c=>by simp[atKey]
 |z::zs,c=>by
  have ih:=eD zs c;unfold atKey at ih ⊢;rw[List.find?_cons,List.map_cons,List.mem_cons];by_cases e:z.1=c
  ·rw[decide_eq_true e];simp[e]
  ·rw[decide_eq_false e];rw[ih];exact⟨.inr,λh=>h.resolve_left λz=>e z.symm⟩
theorem l8(a:Addr)(v:Value):(storedH zs c a v).map (·.1)=de (zs.map (·.1)) c:=by
 unfold storedH de;by_cases h:c∈zs.map (·.1)
 ·rw[if_pos ((eD zs c).mpr h),if_pos h,List.map_map];refine aat λz _=>?_;show(putAt c v z).1=z.1;unfold putAt;split<;>rfl
 ·rw[if_neg (λz=>h ((eD zs c).mp z)),if_neg h,List.map_append];rfl
theorem tL(a:Addr)(v:Value):(storedH zs c a v).map (·.2.1)=vf (zs.map (·.1)) (zs.map (·.2.1)) c a:=by
 unfold storedH vf;by_cases h:c∈zs.map (·.1)
 ·rw[if_pos ((eD zs c).mpr h),if_pos h,List.map_map];refine aat λz _=>?_;show(putAt c v z).2.1=z.2.1;unfold putAt;split<;>rfl
 ·rw[if_neg (λz=>h ((eD zs c).mp z)),if_neg h,List.map_append];rfl
theorem t8(v:Value):∀zs:List (ae×Addr×Value),(zs.map (putAt c v)).map (·.2.2)=setC (zs.map (·.1)) (zs.map (·.2.2)) c v
 |[]=>rfl
 |z::zs=>by
  show(putAt c v z).2.2::((zs.map (putAt c v)).map (·.2.2))=(if z.1=c then v else z.2.2)::setC (zs.map (·.1)) (zs.map (·.2.2)) c v;rw[t8 v zs];unfold putAt;by_cases e:z.1=c
  ·rw[if_pos e,if_pos e]
  ·rw[if_neg e,if_neg e]
theorem tJ(a:Addr)(v:Value):(storedH zs c a v).map (·.2.2)=cc (zs.map (·.1)) (zs.map (·.2.2)) c v:=by
 unfold storedH cc;by_cases h:c∈zs.map (·.1)
 ·rw[if_pos ((eD zs c).mpr h),if_pos h];exact t8 v zs
 ·rw[if_neg (λz=>h ((eD zs c).mp z)),if_neg h,List.map_append];rfl
end
theorem tu{c:ae}{v:V}{u:Value}(r:RelV v u):∀{cs:aG} {xs:af} {us:ao},Vals xs us->Vals (setC cs xs c v) (setC cs us c u)
 |[],_,_,h=>by cases h<;>exact .nil
 |c'::cs,_,_,h=>by
  cases h with
  |nil=>exact .nil
  |cons h t =>
   refine .cons ?_ (tu r t);show RelV (if c'=c then v else _) (if c'=c then u else _);by_cases e:c'=c
   ·rw[if_pos e,if_pos e];exact r
   ·rw[if_neg e,if_neg e];exact h
theorem p5{v:V}{u:Value}(r:RelV v u):∀{xs:af} {us:ao},Vals xs us->Vals (xs++[v]) (us++[u])
 |_,_,.nil=>.cons r .nil
 |_,_,.cons h t=>.cons h (p5 r t)
theorem AU{cs:aG}{xs:af}{us:ao}(h:Vals xs us){c:ae}{v:V}{u:Value}(r:RelV v u):Vals (cc cs xs c v) (cc cs us c u):=by
 unfold cc;by_cases e:c∈cs
 ·rw[if_pos e,if_pos e];exact tu r h
 ·rw[if_neg e,if_neg e];exact p5 r h
theorem nB:∀{cs:aG} {xs:af} {us:ao} (_:Vals xs us) (c:ae),o9 (cA cs xs c) (cA cs us c)
 |[],_,_,_,_=>by cases ‹Vals _ _› <;> exact True.intro
 |c'::cs,_,_,h,c=>by
  cases h with
  |nil=>exact True.intro
  |cons h t =>
   show o9 (if c'=c then some _ else _) (if c'=c then some _ else _);by_cases e:c'=c
   ·rw[if_pos e,if_pos e];exact h
   ·rw[if_neg e,if_neg e];exact nB t c
variable {pos pos':Pos}
section
variable {X:Cx}{pins:ak}{σ:St}{H:Hp}{s:Shared}{p b:Addr}{cs:aG}{as:aW}{xs:af}{ep:Nat}{c:ae}{A:aK}{E:aB}
theorem items_int:∀{c:ae} {aN:ao},Vals (c.map V.int) aN->ItemsAre (intKind X.prog X.w) c aN
 |[],_,h=>by cases h;exact .nil
 |i::c,_,h=>by
  cases h with
  |cons h t =>
   obtain⟨t',rfl⟩:=h;exact .cons (by simp[intKind,Value.isInt]) (items_int t)
theorem rL(I:Inv X pins σ H s)(h:bh X.K H b (c.map V.int)):(tupleKind (intKind X.prog X.w)).is s.heap c b:=by
 obtain⟨aN,rv,⟨o,h1,h2,n,h3⟩,_⟩:=I.tuple h;exact⟨o,aN.toArray,n,h1,h2,h3,by simpa using items_int rv⟩
theorem r6(I:Inv X pins σ H s)(h:H p=some (.ext (DO p cs as xs ep)))(k:eP (bh X.K H) as cs):
  ∃(zs:List (ae×Addr×Value)) (o:Obj) (es:Array DictEntry),zs.map (·.1)=cs/\zs.map (·.2.1)=as/\Vals xs (zs.map (·.2.2))/\s.heap.get? p=some o/\o.ExactDict/\o.data=.dict es ep /\
   s.heap.DictOfH (tupleKind (intKind X.prog X.w)) p zs/\es.toList=zs.map (entryOfKey (tupleKind (intKind X.prog X.w)))/\cs.length<=sizeLine/\(p==sysModules)=false:=by
 obtain⟨⟨zs,o,es,e1,e2,e3,ho,hx,hd,he,hn,hl,hs⟩,_⟩:=(show cM X.prog X.w H s.heap p (.ext (DO p cs as xs ep)) from I.cm p _ h)
 refine⟨zs,o,es,e1,e2,e3,ho,hx,hd,⟨o,es,ep,ho,hx,hd,he,λz hz=>?_,by rw[e1];exact hn⟩,he,hl,hs⟩;obtain⟨j,hj⟩:=List.mem_iff_getElem?.mp hz;exact rL I (k.tup j z.2.1 z.1 (by rw[<- e2,List.getElem?_map,hj];rfl) (by rw[<- e1,List.getElem?_map,hj];rfl))
theorem dict_cls(I:Inv X pins σ H s)(h:H p=some (.ext (DO p cs as xs ep))):s.TypeIs (.ref p) "dict" /\ ∀b,Value.ref p=.ref b->∃ob,s.heap.get? b=some ob/\ob.dict=none:=by
 obtain⟨⟨zs,o,es,e1,e2,e3,ho,hx,_⟩,_⟩:=(show cM X.prog X.w H s.heap p (.ext (DO p cs as xs ep)) from I.cm p _ h)
 exact⟨⟨o,ho,hx.1⟩,λb q=>by cases q;exact⟨o,ho,hx.2.1⟩⟩
theorem GU{d:V}{r:Value}(hu:A.units+1<cLine)(I:Inv X pins σ H s)(h:H p=some (.ext (DO p cs as xs ep)))(k:eP (bh X.K H) as cs)(hb:bh X.K H b (c.map V.int))(rd:RelV d r)(hQ:∀w' s',Inv X pins σ H s'->RelV ((cA cs xs c).getD d) w'->Q w' s'):
  wpAny (model X.prog X.w) A (call (.builtin "dict.get") [.ref p,.ref b,r]) Q E s:=by
 obtain⟨zs,o,es,e1,e2,e3,ho,hx,hd,dd,_,hl,hs⟩:=r6 I h k;refine call_meetsIn PySem.F.slot_dict_get dd.typeIs PySem.F.entry_dict_get (PySem.F.args_dict_get_3 _ _ _) (meetsH_dict_get_default (tupleKind (intKind X.prog X.w)) p b hs r) ⟨ab4 hu,c,zs,rL I hb,dd,hQ _ _ (I.tok _) ?_⟩;rw[lN,e1];have hg:=nB (cs:=cs) e3 c;cases q:cA cs xs c with
 |none =>
  rw[q]at hg;rw[o9.none_of hg];exact rd
 |some v =>
  rw[q]at hg;obtain⟨u,Ib,ru⟩:=o9.some_of hg;rw[Ib];exact ru
theorem wR{v:V}{r:Value}{Q:Unit->Shared->Prop}(hu:A.units+1<cLine)(I:Inv X pins σ H s)(h:H p=some (.ext (DO p cs as xs ep)))(k:eP (bh X.K H) as cs)(hb:bh X.K H b (c.map V.int))(rv:RelV v r)(fZ:cs.length<sizeLine)
  (hQ:∀yH s',Inv X pins σ (upd H p (.ext (DO p (de cs c) (vf cs as c b) (cc cs xs c v) yH))) s'->Q () s') :
  wpAny (model X.prog X.w) A (setItem (.ref p) (.ref b) r) Q E s:=by
 obtain⟨zs,o,es,e1,e2,e3,ho,hx,hd,dd,_,hl,hs⟩:=r6 I h k;have hz:zs.length<=sizeLine:=by rw[<- e1,List.length_map]at hl;exact hl
 refine wpAny_setItem_heap (hsz:=hz) (ab4 hu) (rL I hb) dd λh' WK CL=>?_;obtain⟨q,Iq,yH,hq,h2,h3,h4,_,h5⟩:=WK;refine hQ yH _ (I.write (x:=p) (e:=p) (by rw[h];exact True.intro) (.inl rfl) (λb q hb z=>(CL.2 b hb).trans z) ⟨q,hq⟩ ⟨⟨storedH zs c b r,q,Iq,?_,?_,?_,hq,h2,h3,h4,?_,?_,hs⟩,⟨q,hq⟩,?_⟩)
 ·rw[l8,e1]
 ·rw[tL,e1,e2]
 ·rw[tJ,e1];exact AU e3 rv
 ·rw[<- e1,<- l8 (zs:=zs) (c:=c) b r];exact h5
 ·unfold de;split
  ·exact hl
  ·rw[List.length_append,List.length_singleton];left
 ·rintro h1 Ij ⟨RN,o',es'',f1,f2,f3,f4,f5⟩ kk;exact⟨RN,o',es'',f1,f2,f3,kk _ f4,f5⟩
theorem Fx:PE X (.Dict [] [] pos) (λ_ H Q=>∀p,H p=none->Q (.ref p) (upd H p (.ext (DO p [] [] [] 0)))):=λpins s σ H Q I h=>by
 have VT:sysModules<s.heap.objs.size:=abv (by decide) (show mainGlobals<s.heap.objs.size from(I.mod.glob.keeps I.bk).lt);refine wpAny_Dict_empty ⟨.ref s.heap.objs.size,_,I.laid (a:=s.heap.objs.size) (o:=.ext (DO s.heap.objs.size [] [] [] 0)) (t':=s.toks) (λ_ _ q=>aah _ q) (aaj _) ?_,rfl,h _ (I.cm.fresh (aaj _))⟩;have hg:(s.heap.push { cls:=.type "dict",data:=.dict #[] }).get? s.heap.objs.size=some { cls:=.type "dict",data:=.dict #[] }:=aam _ rfl;refine⟨⟨[],_,#[],rfl,rfl,.nil,hg,⟨rfl,rfl,rfl⟩,rfl,rfl,abx,aaC _,beq_eq_false_iff_ne.mpr (abw (aak VT))⟩,⟨_,hg⟩,?_⟩;rintro h1 Ij ⟨RN,o',es'',f1,f2,f3,f4,f5⟩ kk;exact⟨RN,o',es'',f1,f2,f3,kk _ f4,f5⟩
end
variable {T:mK}
theorem kB{N N':gJ}{k k':bt}{v:V}{d:D}(h:Rep T N k v d)(hf:ba anyF d=false):Rep T N' k' v d:=by
 have:=Rep.gen (T':=T) (N':=N') (g:=id) (P:=anyF) (C:=λ_ _=>True) (I:=λ_ _=>True) (λ_ _ h=>h) trivial (λ_ _ e=>e) (λ_ _ _ _ e _=>e) (λk k' p xs f _ hz _=>nomatch hz) h (k':=k') trivial hf;rw[dU]at this;exact this
theorem nS{T:mK}{N:gJ}:∀{cs:aG} {k:bt} {n:Nat} {xs:af} {ds:aa} (_:aI T N k n xs ds) (c:ae),(cA cs xs c=none/\cA cs ds c=none)\/∃v d k',cA cs xs c=some v/\cA cs ds c=some d/\Rep T N k' v d/\d∈ds
 |[],_,_,_,_,_,_=>by cases ‹aI _ _ _ _ _ _› <;> exact .inl ⟨rfl,rfl⟩
 |c'::cs,_,_,_,_,r,c=>by
  cases r with
  |nil=>exact .inl ⟨rfl,rfl⟩
  | @cons _ _ v d vs ds h t =>
   by_cases e:c'=c
   ·exact .inr ⟨v,d,_,aaQ e,aaQ e,h,aaf⟩
   ·have e1:∀{α:Type} (a:α) (l:List α),cA (c'::cs) (a::l) c=cA cs l c:=λa l=>acb e;rw[e1,e1];rcases nS (cs:=cs) t c with h|⟨v',d',k',h1,h2,h3,h4⟩
    ·exact .inl h
    ·exact .inr ⟨v',d',k',h1,h2,h3,aad _ h4⟩
theorem qp{p:Fl->Bool}:∀{ds:aa},aR p ds=false->∀d∈ds,ba p d=false
 |[],_,_,h=>nomatch h
 |d::ds,h,d',hd=>by
  have h:=HK h;rcases List.mem_cons.mp hd with rfl|hd
  ·exact h.1
  ·exact qp h.2 d' hd
theorem t5{T:mK}{N:gJ}{c:ae}{v:V}{d:D}(hv:∀k,Rep T N k v d):∀{cs:aG} {k:bt} {n:Nat} {xs:af} {ds:aa},aI T N k n xs ds->aI T N k n (setC cs xs c v) (setC cs ds c d)
 |[],_,_,_,_,r=>by cases r<;>exact .nil
 |c'::cs,_,_,_,_,r=>by
  cases r with
  |nil=>exact .nil
  |cons h t =>
   refine .cons ?_ (t5 hv t);show Rep _ _ _ (if c'=c then v else _) (if c'=c then d else _);by_cases e:c'=c
   ·rw[if_pos e,if_pos e];exact hv _
   ·rw[if_neg e,if_neg e];exact h
theorem qg{T:mK}{N:gJ}{v:V}{d:D}(hv:∀k,Rep T N k v d):∀{k:bt} {n:Nat} {xs:af} {ds:aa},aI T N k n xs ds->aI T N k n (xs++[v]) (ds++[d])
 |_,_,_,_,.nil=>.cons (hv _) .nil
 |_,_,_,_,.cons h t=>.cons h (qg hv t)
variable {ds xs:aa}
theorem BC{N:gJ}{c:ae}{v:V}{d:D}(hv:∀k,Rep T N k v d){cs:aG}{k:bt}{n:Nat}{xs:af}(r:aI T N k n xs ds):aI T N k n (cc cs xs c v) (cc cs ds c d):=by
 unfold cc;by_cases e:c∈cs
 ·rw[if_pos e,if_pos e];exact t5 hv r
 ·rw[if_neg e,if_neg e];exact qg hv r
theorem Cw{as:aW}{cs:aG}(k:eP T as cs){b:Addr}{c:ae}(hb:T b (c.map V.int)):eP T (vf cs as c b) (de cs c):=by
 unfold vf de;by_cases e:c∈cs
 ·rw[if_pos e,if_pos e];exact k
 ·rw[if_neg e,if_neg e];refine⟨by rw[List.length_append,List.length_append,k.len];rfl,λj a c' ha hc=>?_⟩;by_cases hj:j<as.length
  ·rw[List.getElem?_append_left hj]at ha;rw[List.getElem?_append_left (by rw[<- k.len];exact hj)]at hc;exact k.tup j a c' ha hc
  ·rw[List.getElem?_append_right (by left)]at ha;rw[List.getElem?_append_right (by rw[<- k.len];left),<- k.len]at hc;cases hz:j - as.length with
   |zero =>
    rw[hz]at ha hc;cases ha;cases hc;exact hb
   |succ m=>rw[hz]at ha;cases ha
variable {F R:Addr->Prop}{H:Hp}{K:au}{τ:Addr->Option bt}
theorem ck.newD{G:Addr->Prop}{fv:aQ}{H':Hp}{p:Addr}(hp:H p=none)(hl:H' p=some (.ext (DO p [] [] [] 0))):ck K G R τ fv H H' (.ref p) (.cJ .ow [] []):=by
 refine⟨λq=>if q=p then some []else none,λq k hq=>?_,.cJ (ep:=0) (as:=[]) (xs:=[]) ⟨hl,by simp⟩ ⟨rfl,λj a c h=>by simp at h⟩ .nil⟩;by_cases wx:q=p
 ·subst wx;exact hp
 ·simp[wx]at hq
noncomputable def Dx(xs:aa):O D:=match xs with
 |[]=>ok (.cJ .ow [] [])
 |_::_=>none
noncomputable def si(_:Scope)(_:aq)(e:Expr):Option (aA):=match e with
 |.Dict [] [] _=>some []
 |_=>none
variable {X:Cx}{args:aA}{cs:aF}{Φ:aT}
theorem GP{n:Nat}(hΦ:Φ n=Dx){sc:Scope}{bl:aq}{k:Nat}(L:PX X sc bl k){e:Expr}(he:si sc bl e=some args)(hs:pb X F Φ cs args):PE X e (tD X F Φ (.dj n cs))/\PT X e (iw X F Φ (.dj n cs)):=by
 have h1:∃pos,e=.Dict [] [] pos/\args=[]:=by
  unfold si at he;split at he
  ·cases he;exact⟨_,rfl,rfl⟩
  ·cases he
 obtain⟨pos,rfl,rfl⟩:=h1;cases cs with
 |cons _ _=>exact hs.elim
 |nil =>
  have this:PE X (.Dict [] [] pos) (tD X F Φ (.dj n [])):=by
   refine PE.imp (Fx (X:=X) (pos:=pos)) λσ H Q hq p hp=>?_;obtain⟨R,τ,ρ,d,Si,ev,hq⟩:=hq;have ev:Φ n []=ok d:=ev;rw[hΦ]at ev;cases ev;exact hq _ _ (aM.upd hp) (ck.newD hp bj)
  exact⟨this,cY this λ_=>rfl⟩
noncomputable def three{α:Type}:List α->Option (α×α×α)
 |[a,b,c]=>some (a,b,c)
 |_=>none
theorem tG{α:Type}{l:List α}{z:α×α×α}(h:three l=some z):l=[z.1,z.2.1,z.2.2]:=by
 unfold three at h;split at h
 ·cases h;rfl
 ·cases h
noncomputable def gR:D->Option (aG×aa)
 |.cJ _ cs vs=>some (cs,vs)
 |_=>none
def keyOf:D->Option (ae)
 |.tup ks=>intsOf ks
 |_=>none
theorem kX{d:D}{z:aG×aa}(h:gR d=some z):∃f,d=.cJ f z.1 z.2:=by
 cases d<;>first | (cases h;done) | (cases h;exact⟨_,rfl⟩)
theorem oq{d:D}{c:ae}(h:keyOf d=some c):d=.tup (c.map D.int):=by
 cases d<;>first | (cases h;done)|skip
 rw[ej (show intsOf _=some c from h)]
def DB(xs:aa):O D:=match two xs with
 |some z=>match gR z.1 with
  |some d=>match keyOf z.2 with
   |some c=>match cA d.1 d.2 c with
    |some v=>if ba anyF v=false then ok v else none
    |none=>none
   |none=>none
  |none=>none
 |none=>none
theorem GR{r:D}(h:DB xs=ok r):∃f cs vs c,xs=[.cJ f cs vs,.tup (c.map D.int)]/\cA cs vs c=some r/\ba anyF r=false:=by
 unfold DB at h;cases h1:two xs with
 |none=>rw[h1]at h;cases h
 |some z =>
  rw[h1]at h;have h:(match gR z.1 with|some d=>(match keyOf z.2 with|some c=>(match cA d.1 d.2 c with|some v=>if ba anyF v=false then ok v else none|none=>none)|none=>none)|none=>none)=ok r:=h;cases h2:gR z.1 with
  |none=>rw[h2]at h;cases h
  |some d =>
   rw[h2]at h;have h:(match keyOf z.2 with|some c=>(match cA d.1 d.2 c with|some v=>if ba anyF v=false then ok v else none|none=>none)|none=>none)=ok r:=h;cases h3:keyOf z.2 with
   |none=>rw[h3]at h;cases h
   |some c =>
    rw[h3]at h;have h:(match cA d.1 d.2 c with|some v=>if ba anyF v=false then ok v else none|none=>none)=ok r:=h;cases h4:cA d.1 d.2 c with
    |none=>rw[h4]at h;cases h
    |some v =>
     rw[h4]at h;obtain⟨hf,rfl⟩:=pv (show(if ba anyF v=false then ok v else none)=ok r from h);obtain⟨f,e1⟩:=kX h2;exact⟨f,d.1,d.2,c,by rw[gu h1,e1,oq h3],h4,hf⟩
def Uw(K:au):R2:=λx y H Q=>∃p b cs as xs ep c v,x=.ref p/\y=.ref b/\H p=some (.ext (DO p cs as xs ep))/\eP (bh K H) as cs/\bh K H b (c.map V.int)/\cA cs xs c=some v/\Q v H
theorem F0(hu:X.A.units+1<cLine):IQ X (Uw X.K):=by
 intro value slice pins s σ H x y v u Q I rx ry h hs;obtain⟨p,b,cs,as,xs,ep,c,w,rfl,rfl,hp,hk,hb,hg,q⟩:=h;cases rx;cases ry;obtain⟨zs,o,es,e1,e2,e3,ho,hx,hd,dd,_,hl,F9⟩:=r6 I hp hk;have Yc:=nB (cs:=cs) e3 c;rw[hg]at Yc;obtain⟨u,Ib,ru⟩:=o9.some_of Yc;have:(atKey zs c).map (·.2)=some u:=by rw[lN,e1];exact Ib
 obtain⟨q',hq',rfl⟩:=Option.map_eq_some_iff.mp this;exact abD (x:=q'.2) dd.typeIs PySem.F.slot_dict_getitem.lookup
  (wpAny_getItem_heap (Q:=λr s'=>r=q'.2/\EP X pins σ Q r s') (ab4 hu) (rL I hb) dd hq' ⟨rfl,w,H,I.tok _,ru,q⟩) hs
def wY(_:Scope)(_:aq)(e:Expr):Option (aA):=match kg e with
 |some z=>some [z.1,z.2]
 |none=>none
theorem Mv{n:Nat}(hΦ:Φ n=DB){sc:Scope}{bl:aq}{k:Nat}(L:PX X sc bl k){e:Expr}(he:wY sc bl e=some args)(hs:pb X F Φ cs args):PE X e (tD X F Φ (.dj n cs))/\PT X e (iw X F Φ (.dj n cs)):=by
 unfold wY at he;cases h1:kg e with
 |none=>rw[h1]at he;cases he
 |some z =>
  rw[h1]at he;cases he;obtain⟨pos,rfl⟩:=jh h1;obtain⟨⟨c1,c2,rfl,p1,p2⟩,_⟩:=nX hs;have this:PE X (.Subscript z.1 z.2 pos) (tD X F Φ (.dj n [c1,c2])):=by
   refine PE.imp (BZ (F0 (CH L.room)) p1 p2 hs.2.2.2.2.2.1) λσ H Q hq=>?_;obtain⟨R,τ,ρ,d,Si,ev,hq⟩:=hq;obtain⟨xs,cO,ev⟩:=aJ ev;rw[hΦ]at ev;obtain⟨f,cs,vs,c,rfl,hg,hf⟩:=GR ev;obtain⟨x,ex,cO⟩:=aJ cO;obtain⟨ys,wJ,cO⟩:=aJ cO;obtain⟨y,ey,Wn⟩:=aJ wJ;cases Wn;cases cO;refine tD.intro Si ex λv H1 e1 r1=>tD.intro (Si.go e1) ey λu H2 e2 r2=>?_;obtain⟨τ1,f1,q1⟩:=r1;obtain⟨τ2,f2,q2⟩:=r2;cases q1 with
   |cJ hn hk hr=>cases q2 with
    |tup ht Qf =>
     cases Qf.ofInts;rcases nS hr c with ⟨_,hz⟩|⟨w,d',k',g1,g2,g3,_⟩
     ·rw[hg]at hz;cases hz
     ·rw[hg]at g2;cases g2;refine⟨_,_,_,_,_,_,c,w,rfl,rfl,e2 _ _ hn.dat,hk.imp λ_ _ h=>bh.same e2 h,ht,g1,hq w H2 (e1.trans e2) ⟨λ_=>none,λ_ _ h=>by simp at h,?_⟩⟩;exact(kB (N':=nd X.K R (jX (gP X F) τ (iN (.dj n [c1,c2]))) (λ_=>none) H1) (k':=[]) g3 hf).imp (λ_ _ h=>bh.same e2 h) λ_ _ _ _ h=>nd.same e2 h
  exact⟨this,cY this λ_=>rfl⟩
def uT(xs:aa):O D:=match three xs with
 |some z=>match gR z.1 with
  |some d=>match keyOf z.2.1 with
   |some c=>if aR anyF d.2=false/\ba anyF z.2.2=false then ok ((cA d.1 d.2 c).getD z.2.2)else none
   |none=>none
  |none=>none
 |none=>none
theorem DD{r:D}(h:uT xs=ok r):∃f cs vs c x,xs=[.cJ f cs vs,.tup (c.map D.int),x]/\aR anyF vs=false/\ba anyF x=false/\r=(cA cs vs c).getD x:=by
 unfold uT at h;cases h1:three xs with
 |none=>rw[h1]at h;cases h
 |some z =>
  rw[h1]at h;have h:(match gR z.1 with|some d=>(match keyOf z.2.1 with|some c=>if aR anyF d.2=false/\ba anyF z.2.2=false then ok ((cA d.1 d.2 c).getD z.2.2)else none|none=>none)|none=>none)=ok r:=h;cases h2:gR z.1 with
  |none=>rw[h2]at h;cases h
  |some d =>
   rw[h2]at h;have h:(match keyOf z.2.1 with|some c=>if aR anyF d.2=false/\ba anyF z.2.2=false then ok ((cA d.1 d.2 c).getD z.2.2)else none|none=>none)=ok r:=h;cases h3:keyOf z.2.1 with
   |none=>rw[h3]at h;cases h
   |some c =>
    rw[h3]at h;obtain⟨⟨hf,hx⟩,rfl⟩:=pv (show(if aR anyF d.2=false/\ba anyF z.2.2=false then ok ((cA d.1 d.2 c).getD z.2.2)else none)=ok r from h);obtain⟨f,e1⟩:=kX h2;exact⟨f,d.1,d.2,c,z.2.2,by rw[tG h1,e1,oq h3],hf,hx,rfl⟩
def m_(_:Scope)(_:aq)(e:Expr):Option (aA):=match l6 ("get" : Str) (.Expr e ⟨0,0,0,0⟩)with
 |some z=>match two z.2 with
  |some y=>if isNm z.1=true then some [z.1,y.1,y.2]else none
  |none=>none
 |none=>none
theorem wZ{sc:Scope}{bl:aq}{e:Expr}(h:m_ sc bl e=some args):∃x p p1 p2 a b,e=.Call (.Attribute (.Name x p) ("get" : Str) p1) [a,b] [] p2/\args=[.Name x p,a,b]/\(p1.endLine==p2.line)=true:=by
 unfold m_ at h;cases h1:l6 ("get" : Str) (.Expr e ⟨0,0,0,0⟩)with
 |none=>rw[h1]at h;cases h
 |some z =>
  obtain⟨o,as⟩:=z;rw[h1]at h;have h2:(match two as with|some y=>if isNm o=true then some [o,y.1,y.2]else none|none=>none)=some args:=h;clear h;cases h3:two as with
  |none=>rw[h3]at h2;cases h2
  |some y =>
   rw[h3]at h2;have h4:(if isNm o=true then some [o,y.1,y.2]else none)=some args:=h2;clear h2;by_cases hn:isNm o=true
   ·rw[if_pos hn]at h4;cases h4;obtain⟨p1,p2,pos,e1,hl⟩:=nE h1;cases e1;cases o<;>first | (cases hn;done)|skip
    rw[gu h3];exact⟨_,_,_,_,_,_,rfl,rfl,hl⟩
   ·rw[if_neg hn]at h4;cases h4
theorem zH{x:Str}{p p1 p2:Pos}{a b:Expr}{td:TE}{ta:TA}(hu:X.A.units+1<cLine)(ho:PE X (.Name x p) td)(ha:PA X [a,b] ta)(s1:∀es,starEach (a::es) X.env=(false,eval a X.env)::starEach es X.env)(s2:∀es,starEach (b::es) X.env=(false,eval b X.env)::starEach es X.env)(hl:(p1.endLine==p2.line)=true):
  PE X (.Call (.Attribute (.Name x p) ("get" : Str) p1) [a,b] [] p2) (λσ H Q=>td σ H λv H1=>∃q cs as xs ep,v=.ref q/\H1 q=some (.ext (DO q cs as xs ep))/\ta σ H1 λys H2=>∃k c z,ys=[.ref k,z]/\H2 q=some (.ext (DO q cs as xs ep))/\eP (bh X.K H2) as cs/\bh X.K H2 k (c.map V.int)/\Q ((cA cs xs c).getD z) H2):=by
 intro pins s σ H Q I h;refine wpAny_Call_method rfl (by rw[s1,s2];rfl) hl PySem.F.plainAttrs_dict PySem.F.slot_dict_get PySem.F.type_dict_get (cW (ho pins s σ H _ I h) λu ZJ bW=>?_);obtain⟨v,H1,I1,rx,q,cs,as,xs,ep,ex,hd,q1⟩:=bW;subst ex;obtain rfl:u=Value.ref q:=rx;obtain⟨t1,t2⟩:=dict_cls I1 hd;refine⟨t1,t2,?_⟩;have hA:=ha p2 pins ZJ σ H1 _ I1 q1;rw[s1]at hA ⊢;refine abE (by show(false||(backTo p2 (starEach [b] X.env)).any (·.1))=false;rw[s2];rfl) (abS ?_);refine cW hA λus s3 bW=>?_;obtain⟨ys,H2,I2,r2,k,c,z,ey,hd2,hk,hb,q2⟩:=bW;subst ey;obtain⟨w1,w2,rfl,ZL,ZK⟩:=vals2 r2;cases ZL;exact GU hu I2 hd2 hk hb ZK λw' s4 I4 lb=>⟨_,H2,I4,lb,q2⟩
theorem GS{n:Nat}(hΦ:Φ n=uT){sc:Scope}{bl:aq}{k:Nat}(L:PX X sc bl k){e:Expr}(he:m_ sc bl e=some args)(hs:pb X F Φ cs args):PE X e (tD X F Φ (.dj n cs))/\PT X e (iw X F Φ (.dj n cs)):=by
 obtain⟨x,p,p1,p2,a,b,rfl,rfl,hl⟩:=wZ he;cases cs with
 |nil=>exact hs.elim
 |cons c0 cs =>
  obtain⟨h0,_,_,Ss⟩:=hs;obtain⟨⟨c1,c2,rfl,_,_⟩,pa,s1,s2⟩:=nX Ss;have this:PE X (.Call (.Attribute (.Name x p) ("get" : Str) p1) [a,b] [] p2) (tD X F Φ (.dj n [c0,c1,c2])):=by
   refine PE.imp (zH (CH L.room) h0 pa s1 s2 hl) λσ H Q hq=>?_;obtain⟨R,τ,ρ,d,Si,ev,hq⟩:=hq;obtain⟨xs,cO,ev⟩:=aJ ev;rw[hΦ]at ev;obtain⟨f,cs,vs,c,y,rfl,hf,hy,rfl⟩:=DD ev;obtain⟨x0,ex,cO⟩:=aJ cO;obtain⟨ys,wJ,cO⟩:=aJ cO;cases cO;refine tD.intro Si ex λv H1 e1 r1=>?_;obtain⟨τ1,f1,q1⟩:=r1;cases q1 with
   |cJ hn hk hr =>
    refine⟨_,_,_,_,_,rfl,hn.dat,R,τ,ρ,_,Si.go e1,wJ,λus H2 e2 r2=>?_⟩;obtain⟨τ2,f2,q2⟩:=r2;obtain⟨u1,u2,rfl,Um,Ul⟩:=q2.two;obtain⟨_,_,rfl,ht,Qf⟩:=Um.Eu;cases Qf.ofInts;refine⟨_,c,u2,rfl,e2 _ _ hn.dat,hk.imp λ_ _ h=>bh.same e2 h,ht,?_⟩;refine hq _ H2 (e1.trans e2) ⟨λ_=>none,λ_ _ h=>by simp at h,?_⟩;rcases nS hr c with ⟨g1,g2⟩|⟨w,d',k',g1,g2,g3,g4⟩
    ·rw[g1,g2];exact kB (T:=bh X.K H2) Ul hy
    ·rw[g1,g2];exact(kB (N':=nd X.K R (jX (gP X F) τ (iN (.dj n [c0,c1,c2]))) (λ_=>none) H1) (k':=[]) g3 (qp hf _ g4)).imp (λ_ _ h=>bh.same e2 h) λ_ _ _ _ h=>nd.same e2 h
  exact⟨this,cY this λ_=>rfl⟩
def uS(xs:aa):O D:=match three xs with
 |some z=>match z.1 with
  |.cJ f cs vs=>match keyOf z.2.2 with
   |some c=>if dF f=true/\ba anyF z.2.1=false/\cs.length<cL then ok (.cJ .ow (de cs c) (cc cs vs c z.2.1))else none
   |none=>none
  |_=>none
 |none=>none
theorem uR{d:D}{r:D}(h:uS (d::xs)=ok r):∃cs vs c x,d=.cJ .ow cs vs/\xs=[x,.tup (c.map D.int)]/\ba anyF x=false/\cs.length<cL/\r=.cJ .ow (de cs c) (cc cs vs c x):=by
 unfold uS at h;cases h1:three (d::xs)with
 |none=>rw[h1]at h;cases h
 |some z =>
  rw[h1]at h;have e0:=tG h1;obtain⟨d',x,y⟩:=z;obtain⟨rfl,rfl⟩:d=d'/\xs=[x,y]:=abJ e0;cases d<;>first | (cases h;done)|skip
  rename_i f cs vs;have h:(match keyOf y with|some c=>if dF f=true/\ba anyF x=false/\cs.length<cL then ok (D.cJ .ow (de cs c) (cc cs vs c x))else none|none=>none)=ok r:=h;cases h3:keyOf y with
  |none=>rw[h3]at h;cases h
  |some c =>
   rw[h3]at h;obtain⟨⟨hf,hx,hl⟩,rfl⟩:=pv (show(if dF f=true/\ba anyF x=false/\cs.length<cL then ok (D.cJ .ow (de cs c) (cc cs vs c x))else none)=ok r from h);cases f<;>first | (cases hf;done)|exact⟨cs,vs,c,x,rfl,by rw[oq h3],hx,hl,rfl⟩
def m9(_:Scope)(_:aq)(st:Stmt):Option (Expr×aA):=match zh st with
 |some z=>match one z.1 with
  |some t=>match kg t with
   |some y=>some (y.1,[z.2,y.2])
   |none=>none
  |none=>none
 |none=>none
variable {o tg value:Expr}{st:Stmt}
theorem wX{sc:Scope}{bl:aq}(h:m9 sc bl st=some (o,args)):∃v i pos' pos,st=.Assign [.Subscript o i pos'] v pos/\args=[v,i]:=by
 unfold m9 at h;cases h1:zh st with
 |none=>rw[h1]at h;cases h
 |some z =>
  obtain⟨ts,v⟩:=z;rw[h1]at h;have h2:(match one ts with|some t=>(match kg t with|some y=>some (y.1,[v,y.2])|none=>none)|none=>none)=some (o,args):=h;clear h;cases h3:one ts with
  |none=>rw[h3]at h2;cases h2
  |some t =>
   rw[h3]at h2;have h4:(match kg t with|some y=>some (y.1,[v,y.2])|none=>none)=some (o,args):=h2;clear h2;cases h5:kg t with
   |none=>rw[h5]at h4;cases h4
   |some y =>
    rw[h5]at h4;cases h4;obtain⟨pos,rfl⟩:=kh h1;obtain rfl:=cf h3;obtain⟨p,rfl⟩:=jh h5;exact⟨_,_,_,_,rfl,rfl⟩
mutual
theorem any_map(g:Fl->Fl):∀d:D,ba anyF (aY g d)=ba anyF d
 |.bu=>rfl
 |.bl _=>rfl
 |.int _=>rfl
 |.tup ds=>ve g ds
 |.lst _ ds=>rfl
 |.cJ _ _ ds=>rfl
theorem ve(g:Fl->Fl):∀ds:aa,aR anyF (aC g ds)=aR anyF ds
 |[]=>rfl
 |d::ds=>by show(ba _ _||aR _ _)=(ba _ d||aR _ ds);rw[any_map g d,ve g ds]
end
mutual
theorem xb:∀d:D,ba anyF d=false->ba bI d=false
 |.bu,_=>rfl
 |.bl _,_=>rfl
 |.int _,_=>rfl
 |.tup ds,h=>y_ ds h
 |.lst _ ds,h=>nomatch h
 |.cJ _ _ ds,h=>nomatch h
theorem y_:∀ds:aa,aR anyF ds=false->aR bI ds=false
 |[],_=>rfl
 |d::ds,h=>by
  have h:=HK h;show(ba _ d||aR _ ds)=false;rw[xb d h.1,y_ ds h.2];rfl
end
theorem any_ints:∀c:ae,aR anyF (c.map D.int)=false
 |[]=>rfl
 |i::c=>any_ints c
theorem Jn{i:Expr}{l:Nat}{env:Env}:swapsWith value (some (.Subscript o i pos')) l env=pure false:=by
 unfold swapsWith;cases value<;>rfl
theorem BN{x:Str}{p0:Pos}{i:Expr}{tv to ti:TE}(hu:X.A.units+1<cLine)(hv:PE X value tv)(ho:PE X (.Name x p0) to)(hi:PE X i ti):
  PS X (.Assign [.Subscript (.Name x p0) i pos'] value pos) (λD σ H=>tv σ H λv H1=>to σ H1 λo H2=>ti σ H2 λy H3=>∃q b cs as xs ep c,o=.ref q/\y=.ref b/\H3 q=some (.ext (DO q cs as xs ep))/\eP (bh X.K H3) as cs/\bh X.K H3 b (c.map V.int)/\cs.length<sizeLine /\
   ∀yH,D.nx σ (upd H3 q (.ext (DO q (de cs c) (vf cs as c b) (cc cs xs c v) yH)))):=by
 intro pins s σ H D I h;refine wpAny_Assign_Subscript (cW (hv pins s σ H _ I h) λr s1 ⟨v,H1,I1,rv,q1⟩=>cW (ho pins s1 σ H1 _ I1 q1) λu s2 ⟨o,H2,I2,rx,q2⟩=>cW (hi pins s2 σ H2 _ I2 q2) λiv s3 bW=>?_) Jn;obtain⟨y,H3,I3,ry,q,b,cs,as,xs,ep,c,eo,ey,hd,hk,hb,hl,q3⟩:=bW;subst eo ey;obtain rfl:u=Value.ref q:=rx;obtain rfl:iv=Value.ref b:=ry;exact wR hu I3 hd hk hb rv hl λyH s4 I4=>⟨σ,_,I4,q3 yH⟩
variable {ρ:aX}{σ:L2.St}
theorem SI.O3{i:Nat}{cs:aG}(Si:SI X F R τ ρ σ H)(hi:ρ[i]?=some (some (.cJ .ow cs ds))):
  ∃p as xs ep,σ[i]?=some (some (.ref p))/\H p=some (.ext (DO p cs as xs ep))/\τ p=some [i]/\eP (bh X.K H) as cs/\aI (bh X.K H) (nd X.K R (λ_=>False) τ H) [i] 0 xs ds:=by
 obtain⟨v,hv,rp⟩:=Si.rep i _ hi;cases rp with
 |cJ h k r=>exact⟨_,_,_,_,hv,h.1,h.2,k,r⟩
theorem GO{n:Nat}(hΦ:Φ n=uS){sc:Scope}{bl:aq}{k:Nat}(L:PX X sc bl k)(hN:X.N.Nodup)(vv:∀x,X.fn x=true){x:Str}(he:m9 sc bl st=some (.Name x pos,args))
  {i:Nat} (hi:X.N[i]?=some x) (hl:L2.Loc X.env.scope x) (pe:PE X (.Name x pos) (tI i)) (hs:pb X F Φ cs args):PS X st (pq X F Φ (.mut n i cs)):=by
 obtain⟨v,ix,p1,p2,rfl,rfl⟩:=wX he;obtain⟨⟨c1,c2,rfl,h1,h2⟩,_⟩:=nX hs;refine PS.imp (BN (CH L.room) h1 pe h2) λD σ H hq=>?_;obtain⟨R,τ,ρ,r,Si,ev,hq⟩:=hq;obtain⟨xs,cO,ev⟩:=aJ ev;obtain⟨y,ey,cO⟩:=aJ cO;obtain⟨ys,wJ,cO⟩:=aJ cO;cases cO;obtain⟨kd,ek,Wn⟩:=aJ wJ;cases Wn;have key:∃cs vs c,kd=.tup (c.map DI.D.int)/\ρ[i]?=some (some (.cJ .ow cs vs))/\ba anyF y=false/\cs.length<cL/\r=(.nx,ρ.set i (some (.cJ .ow (de cs c) (cc cs vs c y)))):=by
  cases hz:aR bI [y,kd]with
  |true =>
   obtain⟨d,d',h⟩:=Ce ev hz;rw[hΦ]at h;obtain⟨cs,vs,c,x',_,e1,e2,_⟩:=uR h;have e3:aY a_ y=x'/\aY a_ kd=.tup (c.map DI.D.int):=by
    have:=abJ e1;exact⟨this.1,(abJ this.2).1⟩
   have a1:ba bI y=false:=xb y (by rw[<- any_map a_ y,e3.1];exact e2);have a2:ba bI kd=false:=xb kd (by rw[<- any_map a_ kd,e3.2];exact any_ints c);have:aR bI [y,kd]=false:=by show(ba bI y||(ba bI kd||false))=false;rw[a1,a2];rfl
   rw[this]at hz;cases hz
  |false =>
   obtain⟨d,d',h,h',rfl⟩:=yb ev hz;rw[hΦ]at h';obtain⟨cs,vs,c,x',rfl,e1,e2,e3,rfl⟩:=uR h';cases e1;exact⟨cs,vs,c,rfl,h,e2,e3,rfl⟩
 obtain⟨cs,vs,c,rfl,ho,hf,hc,rfl⟩:=key;obtain⟨p,as,zs,ep,hv,hd,ht,hk,rs⟩:=Si.O3 ho;refine tD.intro Si ey λu H1 e1 ru=>⟨.ref p,hv,tD.intro (Si.go e1) ek λw H2 e2 lb=>?_⟩
 obtain⟨τ1,f1,q1⟩:=ru;obtain⟨τ2,f2,q2⟩:=lb;cases q2 with
 | @tup _ b _ _ hb Qf =>
  cases Qf.ofInts;have es:=e1.trans e2;have pY:=Si.go es;have hd2:=es _ _ hd;have kM:cL=1000000:=rfl;have hz:sizeLine=16777216:=aaU;refine⟨p,b,cs,as,zs,ep,c,rfl,rfl,hd2,hk.imp λ_ _ h=>bh.same es h,hb,by left,λyH=>?_⟩;have hn:fU H2 p (.d cs as zs ep):=hd2;have rk:iK X R τ H2 u y:=nU ((kB (N':=nd X.K R (λ_=>False) τ H1) (k':=[]) q1 hf).imp (λ_ _ h=>bh.same e2 h) λ_ _ _ _ h=>nd.same e2 h) hf;obtain⟨p',DZ,RN,abj,P_,AG,ht',Ya,vU⟩:=pY.O3 ho;rw[hv]at P_;cases P_;rw[hd2]at AG;obtain⟨τ3,sL⟩:=pY.OT (m:=0) (n':=.d (de cs c) (vf cs as c b) (cc cs zs c u) yH) (o:=.ext (DO p (de cs c) (vf cs as c b) (cc cs zs c u) yH)) (d1:=.cJ .ow (de cs c) (cc cs vs c y)) (xs':=cc cs zs c u) (ds':=cc cs vs c y) ho hv hn ht (rs.imp (λ_ _ h=>bh.same es h) λ_ _ _ _ h=>nd.same es h) rk bj
   (λhN r=>.cJ hN (Cw ((hk.imp λ_ _ h=>bh.same es h).imp λ_ _ h=>Bd hn h) (Bd hn hb)) r) (λrs r=>BC (λk=>kB r hf) rs)
  exact hq σ _ R τ3 sL (rK pY es (λ_ h=>h) hn ht)
variable {P:aH}
theorem Ki{w:World}{h:Heap}{a:Addr}{o:HO}(x:cM P w H h a o):∃u,h.get? a=some u:=by
 cases o with
 |lst xs=>obtain⟨_,_,_,_,e⟩:=x;exact⟨_,e⟩
 |tup xs=>obtain⟨_,_,_,o,e,_⟩:=x;exact⟨_,e⟩
 |dK mD=>obtain⟨_,_,_,_,o,_,_,e,_⟩:=x;exact⟨_,e⟩
 |dT mD=>obtain⟨_,_,_,_,o,_,_,e,_⟩:=x;exact⟨_,e⟩
 |set S n=>obtain⟨o,_,_,_,e,_⟩:=x;exact⟨_,e⟩
 |ins C dx fs=>obtain⟨_,_,_,e,_⟩:=x;exact⟨_,e⟩
 |own y=>exact x
 |xd fs=>obtain⟨_,⟨o,_,_,e,_⟩,_⟩:=x;exact⟨_,e⟩
 |iz lo hi=>obtain⟨_,_,_,e⟩:=x;exact⟨_,e⟩
 |hU o u=>exact⟨_,x.1⟩
 |EE ps=>exact⟨_,x⟩
 |met f y=>exact⟨_,x⟩
 |ext φ=>exact x.2.1
theorem Inv.PC{pins:ak}{s:Shared}{t':Nat}{a:Addr}{o:HO}(I:Inv X pins σ H s)(k:∀b u,s.heap.get? b=some u->h'.get? b=some u)(ha:s.heap.get? a=none)(new:cM X.prog X.w (upd H a o) h' a o):
  H a=none/\Inv X pins σ (upd H a o) { s with heap:=h',toks:=t' }:=by
 have hn:H a=none:=by
  cases q:H a with
  |none=>rfl
  |some u =>
   obtain⟨z,hz⟩:=Ki (I.cm a u q);rw[ha]at hz;exact nk hz
 have up:∀b u,H b=some u->upd H a o b=some u:=λb u e=>by rw[aS (cg e hn)];exact e
 refine⟨hn,I.step (g':=s.gens) (d':=s.drawn) (ch:=[]) (λb hb=>nomatch hb) (λb o _ _ _ e _=>k b o e) (λb o _ _ _ e _=>⟨o.slots,k b o e⟩) (λb u _ e n=>?_)
  (λb o _ e=>⟨o,k b o e⟩) (λ_ _ e=>up _ _ e) (λ_ _ _ e=>up _ _ e) (λb ps e=>⟨#[],by rw[up _ _ e];simp⟩) (λm hm=>?_) (λb u e=>?_) I.bare⟩
 ·rw[aS λz=>by rw[z,ha]at e;cases e];exact n
 ·obtain⟨o,es,ep,ho,r⟩:=hm;exact⟨o,es,ep,k _ o ho,r⟩
 ·by_cases z:b=a
  ·subst z;rw[bj]at e;cases e;exact new
  ·rw[aS z]at e;exact(I.cm b u e).iJ (λc v _ q=>k c v q) (λ_ q=>up _ _ q) λ_ _ q=>up _ _ q
section
variable {X:Cx}{pins:ak}{σ:St}{H:Hp}{s:Shared}{d:Addr}{cs:aG}{as:aW}{xs:af}{ep:Nat}
theorem ra(I:Inv X pins σ H s)(h:H d=some (.ext (DO d cs as xs ep))):∃es:Array DictEntry,sQ s.heap d es ep/\es.size=as.length/\es.toList.map (·.key)=as.map Value.ref/\cs.Nodup/\as.length=cs.length/\(d==sysModules)=false:=by
 obtain⟨⟨zs,o,es,e1,e2,e3,ho,hx,hd,he,hn,hl,hs⟩,_⟩:=(show cM X.prog X.w H s.heap d (.ext (DO d cs as xs ep)) from I.cm d _ h)
 refine⟨es,⟨o,ho,hx,hd⟩,?_,?_,hn,?_,hs⟩
 ·rw[<- Array.length_toList,he,<- e2,List.length_map,List.length_map]
 ·rw[he,<- e2,List.map_map,List.map_map];rfl
 ·rw[<- e1,<- e2,List.length_map,List.length_map]
noncomputable def YV(d:Addr)(cs:aG)(as:aW)(xs:af)(ep:Nat):It :=
 ⟨λi H=>H d=some (.ext (DO d cs as xs ep))/\i<as.length,λi H v H'=>H'=H/\∃a,as[i]?=some a/\v=.ref a,λi H=>H d=some (.ext (DO d cs as xs ep))/\as.length<=i⟩
theorem zk{w:World}(d it:Addr)(cs:aG)(as:aW)(xs:af)(ep:Nat):Turn P w K tg (YV d cs as xs ep) [it] it (λi h=>h.IsKeyIter it d i as.length ep) where
 mem:=by simp
 obj:=λi h st b hb=>by
  have e:b=it:=by simpa using hb
  subst e;obtain⟨o,e,c,d⟩:=st;exact⟨o,e,λv z=>by rw[d]at z;cases z⟩
 keep:=λi h h' st k=>st.at λo e=>k it (by simp) o e
 item:=by
  intro X hP hw hK hc i pins s σ H E I hf st hg;subst hP hw hK;obtain⟨hd,hi⟩:=hg;obtain⟨es,hr,hz,mh,_⟩:=ra I hd;obtain⟨f0,f1,f2,f3,f4,f5⟩:=hf it (by simp);have jN:i<es.size:=by rw[hz];exact hi
  have VL:es[i].key=.ref as[i]:=by
   have:=aaS (λl=>l[i]?) mh;simp only[List.getElem?_map,Array.getElem?_toList]at this;rw[Array.getElem?_eq_getElem jN,List.getElem?_eq_getElem hi]at this;exact aap this
  rw[<- hz]at st;refine yO st hr jN λh' mw sb=>?_;have I1:Inv X pins σ H { s with heap:=h' }:=I.turned (t':=s.toks) (λb o hb e=>(sb.2 b hb).trans e) f0 f1 f3 f4 f5;obtain⟨o,e,c,d'⟩:=id mw;refine⟨_,rfl,yx (s:={ s with heap:=h' }) e c d' (by decide) ⟨.ref as[i],H,I1,by rw[VL];rfl,⟨rfl,as[i],aan hi,rfl⟩,?_,λb hb=>(hf b hb).1⟩⟩;rw[hz]at mw;exact mw
 done:=by
  intro X hP hw hK hc i pins s σ H E I hf st hg;subst hP hw hK;obtain⟨hd,hi⟩:=hg;obtain⟨es,hr,hz,mh,_⟩:=ra I hd;obtain⟨f0,f1,f2,f3,f4,f5⟩:=hf it (by simp);rw[<- hz]at st;exact DA (I.ok.hd hc) st hr (by rw[hz];exact hi) λh' eb=>⟨rfl,I.turned (t':=s.toks) (λb o hb e=>eb b o hb e) f0 f1 f3 f4 f5⟩
 self:=λ_ _ _ _ _ st h=>wpAny_pyIter_keyiter st h
end
def oT(xs:aa):O D:=match one xs with
 |some d=>match gR d with
  |some z=>ok (.lst .ow (z.1.map gv))
  |none=>none
 |none=>none
theorem Ah{r:D}(h:oT xs=ok r):∃f cs vs,xs=[.cJ f cs vs]/\r=.lst .ow (cs.map gv):=by
 unfold oT at h;cases h1:one xs with
 |none=>rw[h1]at h;exact nk h
 |some d =>
  rw[h1]at h;have h:(match gR d with|some z=>ok (D.lst .ow (z.1.map gv))|none=>none)=ok r:=h;cases h2:gR d with
  |none=>rw[h2]at h;exact nk h
  |some z =>
   rw[h2]at h;cases h;obtain⟨f,e⟩:=kX h2;exact⟨f,z.1,z.2,by rw[cf h1,e],rfl⟩
theorem gg(g:Fl->Fl):∀cs:aG,aC g (cs.map gv)=cs.map gv
 |[]=>rfl
 |c::cs=>by
  show aY g (gv c)::aC g (cs.map gv)=_;rw[gg g cs];have:∀c:ae,aC g (c.map D.int)=c.map D.int:=λc=>by
   induction c with
   |nil=>rfl
   |cons i c ih=>show D.int i::aC g (c.map D.int)=_;rw[ih];rfl
  show D.tup (aC g (c.map D.int))::_=_;rw[this];rfl
theorem xP{N:gJ}{k:bt}{a:Addr}{c:ae}(h:T a (c.map V.int)):Rep T N k (.ref a) (gv c):=.tup h (aI.ints c)
def DR(_:Scope)(_:aq)(e:Expr):Option (aA):=if isNm e=true then some [e]else none
theorem Dy{n:Nat}(hΦ:Φ n=oT){sc:Scope}{bl:aq}{k:Nat}(L:PX X sc bl k){e:Expr}(he:DR sc bl e=some args)(ht:(decide (1100<=n)||fM tg)=true)(hs:pb X F Φ cs args)
  {pins:ak} {s:Shared} {d:D} {items:aa} (I:Inv X pins σ H s) (Si:SI X F R τ ρ σ H) (cO:bX Φ cs ρ=ok xs) (ed:Φ n xs=ok d) (ei:kv d=ok items) (Rr:It->Hp->Prop)
  (hR:∀J H2 vs,aM H H2->cy X.K (gP X F) R τ (cU cs) H H2 vs xs->IJ X.K J H2 vs xs items->Rr J H2) :
  wpAny (model X.prog X.w) X.A (eval e X.env) (λv s1=>wpAny (model X.prog X.w) X.A (pyIter v) (Aw X pins σ tg Rr) X.xe s1) X.xe s:=by
 unfold DR at he;by_cases hn:isNm e=true
 ·rw[if_pos hn]at he;cases he;cases cs with
  |nil=>exact hs.elim
  |cons c cs=>cases cs with
   |cons _ _=>exact hs.2.2.2.elim
   |nil =>
    rw[hΦ]at ed;obtain⟨f,ks,vs,rfl,rfl⟩:=Ah ed;cases ei;obtain⟨x,ex,cO⟩:=aJ cO;cases cO;refine cW (hs.1 pins s σ H _ I (tD.intro Si ex (Q:=λv H1=>aM H H1/\ck X.K (gP X F) R τ (iN c) H H1 v (.cJ f ks vs)) λv H1 e1 r1=>⟨e1,r1⟩)) λu s1 bW=>?_;obtain⟨v,H1,I1,rv,e1,r1⟩:=bW;obtain⟨τt,fr,q1⟩:=id r1;cases q1 with
    | @cJ _ p _ as ys ep _ _ Ec hk hr =>
     cases rv;have hd:=Ec.dat;obtain⟨es,K8,hz,mh,Qo,hlen,F9⟩:=ra I1 hd;refine yP F9 K8 ?_;have hb:s1.heap.objs.size<=s1.heap.objs.size:=aaj _;refine⟨s1.heap.objs.size,[s1.heap.objs.size],_,YV p ks as ys ep,H1,rfl,I1.kept (t':=s1.toks) (λb o e=>aah _ e),zk p s1.heap.objs.size ks as ys ep,⟨_,aam _ rfl,rfl,by rw[hz];rfl⟩,λb hb=>?_,hR _ H1 [.ref p] e1 (cy.cons e1 (aM.refl _) (r1.mono λj hj=>aay _ hj) ⟨λ_=>none,λ_ _ h=>by simp at h,.nil⟩) ?_⟩
     ·have:b=s1.heap.objs.size:=by simpa using hb
      subst this;exact I1.Ac (aaj _) (I1.cm.fresh (aaj _))
     ·rw[gg];have iJ:∀H',o3 X.K H1 [.ref p] [.cJ f ks vs] H'->H' p=some (.ext (DO p ks as ys ep)):=λH' st=>by
       obtain⟨R0,Uo,hl⟩:=st.n0;cases Uo with
       |cons h0 _=>cases h0 with
        |cJ h1 _ _ =>
         cases f with
         |sc=>exact h1.elim
         |ow=>exact hl p _ h1.2 hd
         |fz=>exact hl p _ h1.2 hd
         |al=>exact hl p _ h1.2 hd
      refine⟨λi H' R' st rs hi=>⟨iJ H' st,by rw[List.length_map]at hi;left⟩,λi H' R' x ka st rs hi hy=>?_,λi H' R' st rs hi=>⟨iJ H' st,by rw[List.length_map]at hi;left⟩⟩;obtain⟨rfl,a,ha,rfl⟩:=hy;rw[List.length_map]at hi;refine⟨aM.refl _,gv ks[i],by rw[List.getElem?_map,List.getElem?_eq_getElem hi];rfl,xP (st.tp _ _ (hk.tup i a _ ha (aan hi)))⟩
 ·rw[if_neg hn]at he;cases he
theorem w8(hc:X.calm=true)(hu:X.A.units+2<cLine):fX X (.builtin "sorted") (λxs H Q=>∃(d:Addr) (cs:aG) (as:aW) (ys:af) (ep:Nat),xs=[.ref d]/\H d=some (.ext (DO d cs as ys ep))/\eP (bh X.K H) as cs/\cs.length<64 /\
  ∀(l:Addr) (bs:aW),H l=none->eP (bh X.K H) bs (bU cs)->Q (.ref l) (upd H l (.lst (bs.map V.ref)))):=by
 intro pins s σ H xs us Q I r h;obtain⟨d,cs,as,ys,ep,rfl,hd,hk,sY,q⟩:=h;obtain⟨u,rfl,ru⟩:=r.one;cases ru;obtain⟨es,K8,hz,mh,Qo,hlen,F9⟩:=ra I hd;have ht:pW s.heap (es.toList.map (·.key)) cs:=by
  rw[mh];refine⟨by rw[List.length_map,hlen],λi ns e=>?_⟩;have hi:i<as.length:=by rw[hlen];exact(List.getElem?_eq_some_iff.mp e).1
  obtain⟨FZ,rj,ij,_⟩:=I.tuple (hk.tup i as[i] ns (aan hi) e);exact⟨as[i],FZ,by rw[List.getElem?_map,List.getElem?_eq_getElem hi];rfl,ij,dZ rj⟩
 refine tN (I.ok.hd hc) hu F9 K8 (by rw[hz,hlen];exact sY) Qo ht λS h' tk e p hS Nj hp hs hl=>?_;rw[mh]at hl;have Vv:(p.toList.map λi=>(as.map Value.ref).getD i Value.none)=(p.toList.map λi=>as.getD i 0).map Value.ref:=by
  rw[List.map_map];refine aat λi hi=>?_;have jN:i<as.length:=by
   have:=List.mem_range.mp (hp.pm.mem_iff.mp hi);left
  simp[jN]
 rw[Vv]at hl;have VS:eP (bh X.K H) (p.toList.map λi=>as.getD i 0) (bU cs):=by
  rw[<- hs];refine⟨by simp,λj a c h1 h2=>?_⟩;rw[List.getElem?_map]at h1 h2;cases hj:p.toList[j]? with
  |none=>rw[hj]at h1;exact nk h1
  |some i =>
   rw[hj]at h1 h2;have jN:i<as.length:=by
    have:=List.mem_range.mp (hp.pm.mem_iff.mp (aaq hj));left
   cases h1;cases h2;exact hk.tup i _ _ (by simp[jN]) (by simp[show i<cs.length by left])
 have P9:∀l:aW,Vals (l.map V.ref) (l.map Value.ref):=λl=>by
  induction l with
  |nil=>exact .nil
  |cons a l ih=>exact .cons rfl ih
 have hsz:sizeLine=16777216:=aaU;obtain⟨hn,I'⟩:=Inv.PC (t':=tk) (o:=.lst ((p.toList.map λi=>as.getD i 0).map V.ref)) I Nj hS ⟨by rw[List.length_map,List.length_map,Array.length_toList,hp.sz];left,_,e,P9 _,hl⟩;exact⟨.ref S,_,I',rfl,q S _ hn VS⟩
def oR(xs:aa):O D:=match one xs with
 |some d=>match gR d with
  |some z=>if z.1.length<64 then ok (.lst .ow ((bU z.1).map gv))else none
  |none=>none
 |none=>none
theorem Ag{r:D}(h:oR xs=ok r):∃f cs vs,xs=[.cJ f cs vs]/\cs.length<64/\r=.lst .ow ((bU cs).map gv):=by
 unfold oR at h;cases h1:one xs with
 |none=>rw[h1]at h;exact nk h
 |some d =>
  rw[h1]at h;have h:(match gR d with|some z=>if z.1.length<64 then ok (D.lst .ow ((bU z.1).map gv))else none|none=>none)=ok r:=h;cases h2:gR d with
  |none=>rw[h2]at h;exact nk h
  |some z =>
   rw[h2]at h;obtain⟨hl,rfl⟩:=pv (show(if z.1.length<64 then ok (D.lst .ow ((bU z.1).map gv))else none)=ok r from h);obtain⟨f,e⟩:=kX h2;exact⟨f,z.1,z.2,by rw[cf h1,e],hl,rfl⟩
theorem qh{T:mK}{N:gJ}:∀{bs:aW} {cs:aG} {k:bt} {n:Nat},eP T bs cs->aI T N k n (bs.map V.ref) (cs.map gv)
 |[],[],_,_,_=>.nil
 |[],_::_,_,_,h=>by have:=h.len;simp at this
 |_::_,[],_,_,h=>by have:=h.len;simp at this
 |b::bs,c::cs,_,_,h=>.cons (xP (h.tup 0 b c rfl rfl)) (qh ⟨by have:=h.len;simpa using this,λj a c' h1 h2=>h.tup (j+1) a c' h1 h2⟩)
theorem Dw{n:Nat}(hΦ:Φ n=oR){sc:Scope}{bl:aq}{k:Nat}(L:PX X sc bl k){e:Expr}(he:gw ("sorted" : Str) sc bl e=some args)(hs:pb X F Φ cs args):PE X e (tD X F Φ (.dj n cs))/\PT X e (iw X F Φ (.dj n cs)):=by
 obtain⟨p,pos,a,rfl,rfl,h1,h2⟩:=lL he;cases cs with
 |nil=>exact hs.elim
 |cons c cs=>cases cs with
  |cons _ _=>exact hs.2.2.2.elim
  |nil =>
   have pa:PA X [a] (pF X F Φ [c]):=PA.imp (cD hs.1 (PA.imp d_ λ_ _ _ h=>gX h) (hs.2.1 _)) λ_ _ _ h=>eJ h;have hu:X.A.units+2<cLine:=aao (Nat.add_le_add_left (by decide:2<=64) _) L.room.units;have this:PE X (.Call (.Name ("sorted" : Str) p) [a] [] pos) (tD X F Φ (.dj n [c])):=by
    refine PE.imp (eK (w8 L.calm hu) (L.gl h1) (L.bl _ h2) (by decide +kernel) pa (he:=hs.2.1 _)) λσ H Q hq=>?_;obtain⟨R,τ,ρ,d,Si,ev,hq⟩:=hq;obtain⟨xs,cO,ev⟩:=aJ ev;rw[hΦ]at ev;obtain⟨f,ks,vs,rfl,hl,rfl⟩:=Ag ev;refine⟨R,τ,ρ,_,Si,cO,λus H1 e1 r1=>?_⟩;obtain⟨τt,fr,rs⟩:=r1;obtain⟨v,rfl,rv⟩:=rs.one;cases rv with
    |cJ hn hk hr =>
     refine⟨_,ks,_,_,_,rfl,hn.dat,hk,hl,λl bs vt VS=>hq _ _ (e1.trans (aM.upd vt)) (ck.rB (e1.free vt) (e1.trans (aM.upd vt)) bj ?_)⟩;exact qh (VS.imp λ_ _ h=>bh.same (aM.upd vt) h)
   exact⟨this,cY this λ_=>rfl⟩
structure Seen(K:au)(H:Hp)(x:V)(d:D):Prop where
 ex:∃(N:gJ) (k:bt),Rep (bh K H) N k x d/\∀q p xs f,N q p (.l xs) f->dz K H p xs
structure YS(K:au)(H:Hp)(xs:af)(ds:aa):Prop where
 ex:∃(N:gJ) (k:bt),aI (bh K H) N k 0 xs ds/\∀q p xs f,N q p (.l xs) f->dz K H p xs
section
variable {X:Cx}
open Classical in
end
section
variable {prog:aH}{w:World}{A:aK}{E:aB}{s:Shared}
end
open Classical in
section
variable {prog:aH}{w:World}{A:aK}{E:aB}{s:Shared}
end
end DI
end
section
namespace DI
open PySem PySem.Spec PyProof.Rows PySem.W
structure XC(K:Frag)(C:Addr):Prop where
 ga:findIn K (.ref C) "__getattribute__" = some (some (.builtin "BaseException.__getattribute__"))
 gt:findIn K (.ref C) "__getattr__" = some none
 cl:findIn K (.ref C) "__class__" = some (some (.builtin "object.__class__"))
 be:mroIn K C (.type "BaseException")=some true
 ob:mroIn K C (.type "object")=some true
 cs:(clsIn K C).isSome=true
section
variable {prog:aH}{w:World}{A:aK}{E:aB}{h:Heap}{g:Array GenState}{d:Drawn}{t:Nat}{os:OsState}{K:Frag}{x C:Addr}{o:Obj}
theorem Th{R:Result->Shared->Prop}(Z:XC K C)(X:K.In h)(hx:h.get? x=some o)(hc:o.cls=.ref C)(hq:R (.ok (.ret (.ref C))) ⟨h,g,d,t,os⟩):
  codeAny (model prog w) A (.call (.builtin "getset_descriptor.__get__") ⟨[.builtin "object.__class__",.ref x,.ref C],[]⟩) R ⟨h,g,d,t,os⟩:=by
 have L1:=looks_mroIn (M:=model prog w) X Z.ob;refine abT KF.slot_gs.plain KF.entry_gs (KF.slot_gs.check _ _ _ _ _ _ _ _ KF.type_class (KF.args_gs _ _ _) ?_);have hT5:(⟨h,g,d,t,os⟩:Shared).TypeIs (.builtin "object.__class__") "getset_descriptor":=abM;have e1:(".".intercalate ("object.__class__".cutAt '.').dropLast) = "object":=F.owner_object_class
 repeat (any_goals (first|assumption | (with_reducible refine aaN hx ?_;rw[hc]) | (with_reducible refine L1.at ?_) | (rw[e1];with_reducible refine L1.at ?_)|wp_step))
 refine⟨ab3 _ (by decide +kernel),aa_ F.entry_object_class ?_⟩
 repeat (any_goals (first|assumption | (with_reducible refine aaN hx ?_;rw[hc])|wp_step))
theorem IW{tk:Tok}{Q:Fin->Shared->Prop}(Z:XC K C)(X:K.In h)(hx:h.get? x=some o)(hc:o.cls=.ref C)(hq:Q (.done (.ret (.ref C))) ⟨h,g,d,t,os⟩):
  wpAny (model prog w) A (Builtin.«object.__getattribute__» ⟨[.ref x,.str "__class__" tk],[]⟩) Q E ⟨h,g,d,t,os⟩:=by
 have hT5:(⟨h,g,d,t,os⟩:Shared).TypeIs (.builtin "object.__class__") "getset_descriptor":=abM;have f5:=abM;have f6:=F.slot_gs_get.lookup;have f7:=F.slot_gs_set.lookup;have L1:=looks_findIn (M:=model prog w) X Z.cl
 repeat (any_goals (first|assumption | (with_reducible refine aaN hx ?_;rw[hc]) | (with_reducible refine L1.at ?_)|wp_step))
 refine Th Z X hx hc ?_
 repeat (any_goals (first|assumption|wp_step))
theorem IY{M:Model}{HR:Value}{Q:Unit->Shared->Prop}(Z:XC K C)(X:K.In h)(hx:h.get? x=some o)(hc:o.cls=.ref C)(hq:Q () ⟨h,g,d,t,os⟩):
  wpAny M A (checkBuiltinCall "BaseException.__getattribute__" ⟨[.ref x,HR],[]⟩) Q E ⟨h,g,d,t,os⟩:=by
 have hk:builtinKind "BaseException.__getattribute__" = some .slot:=by decide +kernel
 have K7:splitId "BaseException.__getattribute__" = some ("BaseException","__getattribute__"):=by decide +kernel
 have L1:=looks_mroIn (M:=M) X Z.be;have ha:=F.args_bexc_ga (.ref x) HR;simp only[checkBuiltinCall,hk,K7];refine aaa ?_
 ·unfold isInstance
  repeat (first | (with_reducible refine aaN hx ?_;rw[hc]) | (with_reducible refine L1.at ?_)|wp_step)
  exact hq
theorem NL{tk:Tok}{R:Result->Shared->Prop}(B:ExcAttrFacts "ValueError")(Z:XC K C)(X:K.In h)(hx:h.get? x=some o)(hc:o.cls=.ref C)(hq:R (.ok (.ret (.ref C))) ⟨h,g,d,t,os⟩):
  codeAny (model prog w) A (.call (.builtin "BaseException.__getattribute__") ⟨[.ref x,.str "__class__" tk],[]⟩) R ⟨h,g,d,t,os⟩ :=
 abT B.ga.plain F.entry_bexc_ga (IY Z X hx hc (IW Z X hx hc hq))
theorem Y7{tk:Tok}{Q:aB}(B:ExcAttrFacts "ValueError")(Z:XC K C)(X:K.In h)(hx:h.get? x=some o)(hc:o.cls=.ref C)(hq:Q (.ref C) ⟨h,g,d,t,os⟩):
  wpAny (model prog w) A (getAttrBy (.ref x) (.str "__class__" tk) false) Q E ⟨h,g,d,t,os⟩:=by
 have f3:=B.ga.bind (.ref x);have hx0:(false&&onTheHeap (Value.builtin "BaseException.__getattribute__"))=false:=rfl;have hx2:(Value.builtin "BaseException.__getattribute__" == Value.builtin "object.__getattribute__")=false:=by decide +kernel
 have hx1:(onTheHeap (Value.ref C)&&Value.builtin "BaseException.__getattribute__" == Value.builtin "object.__getattribute__")=false:=by rw[hx2];rfl
 have L1:=looks_findIn (M:=model prog w) X Z.ga;have L2:=looks_findIn (M:=model prog w) X Z.gt
 repeat (any_goals (first|assumption | (with_reducible refine aaN hx ?_;rw[hc]) | (with_reducible refine L1.at ?_) | (with_reducible refine L2.at ?_)|wp_step))
 refine NL B Z X hx hc ?_
 repeat (any_goals (first|assumption|wp_step))
theorem NM{Q:Option Value->Shared->Prop}(B:ExcAttrFacts "ValueError")(Z:XC K C)(X:K.In h)(hx:h.get? x=some o)(hc:o.cls=.ref C)(hq:Q (some (.ref C)) ⟨h,g,d,t+1,os⟩):
  wpAny (model prog w) A (getAttr? (.ref x) "__class__") Q E ⟨h,g,d,t,os⟩:=by
 unfold getAttr? getAttrBy?
 repeat (any_goals (first|assumption|with_reducible apply Y7 B Z X hx hc|wp_step))
end
def xg(x C:Addr)(h:Heap):Prop:=∃o,h.get? x=some o/\o.cls=.ref C
theorem Cv{K:Frag}{x C:Addr}(B:ExcAttrFacts "ValueError")(Z:XC K C):KitX K (.ref x) (.ref C) (xg x C) where
 ty:=λM h _ p=>by
  obtain⟨o,h1,h2⟩:=p;exact h2▸(Looks.ld h1).andThen .now
 it:=λ_ _ X _=>by
  obtain⟨cdD,Lm⟩:=Option.isSome_iff_exists.mp Z.cs;unfold clsIn at Lm;split at Lm
  ·rename_i c' d' cd' Uc ho;intro A' Q' E' s' k q;unfold isType loadHead;exact aaa (wpAny_loadPart (k _ _ (X _ _ ho)) (aag q))
  ·cases Lm
 ne:=λh tp dd aN n sl X htp=>by
  obtain⟨cdD,Lm⟩:=Option.isSome_iff_exists.mp Z.cs;refine Bool.eq_false_iff.mpr λq=>?_;have e:C=tp:=Value.ref.inj (beq_iff_eq.mp q);subst e;unfold clsIn at Lm;split at Lm
  ·rename_i c' d' cd' Uc ho;have z:=(X _ _ ho).symm.trans htp;cases z
  ·cases Lm
 ca:=λ{prog w A E Q s} X p k=>by
  obtain⟨o,h1,h2⟩:=p;obtain⟨h,g,d,t,os⟩:=s;exact NM B Z X h1 h2 k
end DI
end
section
namespace DI
open PySem PySem.Spec PyProof.Rows L2
variable {H H' H1:Hp}{P:aH}
theorem l_{w:World}{h:Heap}{a:Addr}{o:HO}(x:cM P w H h a o):∃u,h.get? a=some u:=by
 cases o with
 |lst xs=>obtain⟨_,_,_,_,e⟩:=x;exact⟨_,e⟩
 |tup xs=>obtain⟨_,_,_,o,e,_⟩:=x;exact⟨_,e⟩
 |dK mD=>obtain⟨_,_,_,_,o,_,_,e,_⟩:=x;exact⟨_,e⟩
 |dT mD=>obtain⟨_,_,_,_,o,_,_,e,_⟩:=x;exact⟨_,e⟩
 |set S n=>obtain⟨o,_,_,_,e,_⟩:=x;exact⟨_,e⟩
 |ins C dx fs=>obtain⟨_,_,_,e,_⟩:=x;exact⟨_,e⟩
 |own y=>obtain⟨_,e⟩:=x;exact⟨_,e⟩
 |xd fs=>obtain⟨_,⟨_,_,_,e,_⟩,_⟩:=x;exact⟨_,e⟩
 |iz lo hi=>obtain⟨_,_,_,e⟩:=x;exact⟨_,e⟩
 |hU ob u=>obtain⟨e,_⟩:=x;exact⟨_,e⟩
 |EE ps=>exact⟨_,(show h.get? a=some _ from x)⟩
 |met f y=>exact⟨_,(show h.get? a=some _ from x)⟩
 |ext φ=>obtain⟨_,⟨_,e⟩,_⟩:=x;exact⟨_,e⟩
def Td(l:List Env)(H':Hp)(h h' B:Heap):Prop:=∀b o,h'.get? b=some o->b∉lJ l->(H' b≠none\/h.get? b≠none)->B.get? b=some o
variable {B base h' h2 h3:Heap}
theorem moved{w:World}{l:List Env}{h:Heap}(un:Un (lJ l) [] H H' h h2)(cm:jb P w H' h2)(AI:Td l H' h h2 B)(fu:h.FunFrames base l)(AH:∀b∈lJ l,H b=none)
  (st:B.StaysIn h3) (sl:h2.UpToSlots h3):Un (lJ l) [] H H' h h3/\jb P w H' h3/\Td l H' h h3 B:=by
 have fr:∀b∈lJ l,H' b=none:=λb hb=>by
  obtain⟨_,o,ho,_⟩:=fu.mem hb;exact un.free b o ho (AH b hb) (by simp)
 have keep:∀b o,h2.get? b=some o->b∉lJ l->(H' b≠none\/h.get? b≠none)->h3.get? b=some o:=λb o e hb hc=>st b o (AI b o e hb hc);have slot:∀b o,h.get? b=some o->b∈lJ l->∃sl,h3.get? b=some { o with slots:=sl }:=λb o e hb=>by
  obtain⟨sl1,e1⟩:=un.slot b o e (AH b hb) hb (by simp);obtain⟨_,o',gk,nf⟩:=fu.mem hb;rw[e]at gk;cases gk;obtain⟨vn,e2⟩:=sl b _ e1 (λvs z=>nf vs z);exact⟨vn,e2⟩
 refine⟨⟨λb o e n hb _=>keep b o (un.keep b o e n hb (by simp)) hb (.inr (by rw[e];simp)),λb o e n hb _=>slot b o e hb,un.free,λb o e _=>?_,un.lq,un.kR,un.lr⟩,λa o e=>?_,λb o e hb hc=>?_⟩
 ·by_cases hb:b∈lJ l
  ·obtain⟨s1,e1⟩:=slot b o e hb;exact⟨_,e1⟩
  ·obtain⟨o',e1⟩:=un.there b o e (by simp);exact⟨o',keep b o' e1 hb (.inr (by rw[e];simp))⟩
 ·refine(cm a o e).iJ (λb u hb q=>?_) (λ_ q=>q) λ_ _ q=>q;have ht:H' b≠none:=by
   rcases hb with rfl|hb
   ·rw[e];simp
   ·rw[hb];simp
  exact keep b u q (λz=>ht (fr b z)) (.inl ht)
 ·have:∃o2,h2.get? b=some o2:=by
   rcases hc with hc|hc
   ·cases q:H' b with
    |none=>exact absurd q hc
    |some u=>exact l_ (cm b u q)
   ·cases q:h.get? b with
    |none=>exact absurd q hc
    |some u=>exact un.there b u q (by simp)
  obtain⟨o2,e2⟩:=this;have e3:=keep b o2 e2 hb hc;rw[e]at e3;cases e3;exact AI b _ e2 hb hc
structure Tb(P:aH)(w:World)(C:Addr)(l:List Env)(H:Hp)(s:Shared)(e:Addr)(H':Hp)(s':Shared):Prop where
 fly:∃t B,Heap.FlyingW B l e (.ref C) (.ref t) s'.heap/\Td l H' s.heap s'.heap B
 os:s'.os=s.os
 bare:AllBare s'.gens
 un:Un (lJ l) [] H H' s.heap s'.heap
 cm:jb P w H' s'.heap
noncomputable abbrev s_(P:aH)(w:World)(C:Addr):vy:=λl H s E e s'=>∃ea H',e=.ref ea/\Tb P w C l H s ea H' s'/\E (.ref C) none H'
theorem uL{l:List Env}{e:Addr}{cls a0:Value}{h:Heap}(f:Heap.FlyingW B l e cls a0 h):e∉lJ l:=λhm=>by
 obtain⟨_,o,ho,nf⟩:=f.2.2.1.mem hm;obtain⟨oe,vs,he,_,hd,_⟩:=f.first;rw[ho]at he;cases he;exact nf vs hd
variable {C ea:Addr}
theorem Tb.new{w:World}{l:List Env}{s s':Shared}{e:Addr}(f:Tb P w C l H s e H' s'):H' e=none/\s.heap.get? e=none:=by
 obtain⟨t,B,fw,AI⟩:=f.fly;obtain⟨oe,vs,he,_⟩:=fw.first;have key:¬ (H' e≠none\/s.heap.get? e≠none):=λz=>by
  have:=AI e oe he (uL fw) z;rw[fw.2.1]at this;cases this
 exact⟨Classical.not_not.mp λz=>key (.inl z),Classical.not_not.mp λz=>key (.inr z)⟩
variable {s1:Shared}{σ:L2.St}
section
variable {P:aH}{w:World}{C:Addr}{K:au}{mg:aU}{base:Heap}{N:aq}{qual:Str}{scope:Scope}{f:Addr}{cd:Value}{A:aK}{outer:List Env}{s:Shared}{H:Hp}{E:XK}
theorem left{pins:ak}{s2:Shared}{t:Addr}
  (I:Inv (i8 (s_ P w C) P w K mg base N qual scope f cd A outer s H E) pins σ H1 s1)
  (un:Un (lJ (i8 (s_ P w C) P w K mg base N qual scope f cd A outer s H E).stack) [] H1 H' s1.heap h2) (cm:jb P w H' h2) (AI:Td (i8 (s_ P w C) P w K mg base N qual scope f cd A outer s H E).stack H' s1.heap h2 B)
  (fw:Heap.FlyingW B outer ea (.ref C) (.ref t) h3) (sl:h2.UpToSlots h3) (os:s2.os=s1.os) (bare:AllBare s2.gens):Tb P w C outer H s ea H' { s2 with heap:=h3 }:=by
 obtain⟨Zc,Qk,WM⟩:=moved un cm AI I.stack I.gY fw.1 sl;have J:=I.qH (s':={ s2 with heap:=h3 }) (ch:=[]) os Zc Qk bare λ_ z=>nomatch z;refine⟨⟨t,B,fw,λb o e hb hc=>?_⟩,J.os,bare,J.base,Qk⟩;have hbL:b≠s.heap.objs.size:=by
  rcases hc with hc|hc
  ·rintro rfl;exact hc J.free
  ·rintro rfl;exact hc (Heap.get?_none_of_le (aaj _))
 refine WM b o e (λz=>?_) ?_
 ·rcases List.mem_cons.mp (I.jJ b z)with z|z
  ·exact hbL z
  ·exact hb z
 ·rcases hc with hc|hc
  ·exact .inl hc
  ·right;cases q:s.heap.get? b with
   |none=>exact absurd q hc
   |some u =>
    obtain⟨o',e'⟩:=I.base.there b u q (by intro z;cases z);rw[e'];simp
theorem O1{E1:XK}(hE:∀H',E1 (.ref C) none H'->E (.ref C) none H'):Passes (s_ P w C) (i8 (s_ P w C) P w K mg base N qual scope f cd A outer s H E) E1:=by
 intro pins σ H1 s1 e s2 I hx;obtain⟨ea,H',rfl,⟨⟨t,B,fw,AI⟩,os,bare,un,cm⟩,he⟩:=hx;show wpAny (model P w) _ (leaving _ (.ref ea)) _ _ s2;refine wpAny_leaves_onW (L:=s.heap.objs.size) I.ok.frames rfl fw λh' fw' sl=>?_;exact⟨ea,H',rfl,left I un cm AI fw' sl os bare,hE H' he⟩
theorem Fg{pins:ak}{vs:ao}
  (I:Inv (i8 (s_ P w C) P w K mg base N qual scope f cd A outer s H E) pins σ H1 s1) (hm:Heap.MadeExcOf s1.heap h' ea (.ref C) vs) (he:E (.ref C) none H1) :
  (i8 (s_ P w C) P w K mg base N qual scope f cd A outer s H E).xe (.ref ea) { s1 with heap:=h' }:=by
 show wpAny (model P w) _ (leaving _ (.ref ea)) _ _ _
 let l:=(i8 (s_ P w C) P w K mg base N qual scope f cd A outer s H E).stack
 let B:=PySem.W.hideAll s1.heap (lJ l)
 have hB:B.StaysIn s1.heap:=λb o e=>PySem.W.of_hideAll _ e;refine wpAny_leaves_madeW (h:=s1.heap) (base:=B) (L:=s.heap.objs.size) I.ok.frames rfl hB (PySem.W.funFrames_hide (as:=lJ l) I.stack λenv he a ha=>List.mem_filterMap.mpr ⟨env,he,ha⟩) hm λYt t fw _ _ sl=>?_;refine⟨ea,H1,rfl,left (s2:=s1) (H':=H1) I (Un.kept hm.keeps) (I.cm.kept hm.keeps) (λb o e hb hc=>?_) fw sl rfl I.bare,he⟩;have:∃o1,s1.heap.get? b=some o1:=by
  rcases hc with hc|hc
  ·cases q:H1 b with
   |none=>exact absurd q hc
   |some u=>exact l_ (I.cm b u q)
  ·cases q:s1.heap.get? b with
   |none=>exact absurd q hc
   |some u=>exact⟨u,rfl⟩
 obtain⟨o1,e1⟩:=this;have e2:=hm.keeps b o1 e1;have e:h'.get? b=some o:=e;rw[e]at e2;cases e2;exact PySem.W.hideAll_get _ e1 hb
end
abbrev I0:ao:=[.type "ValueError",.type "Exception",.type "BaseException",.type "object"]
noncomputable abbrev pd(x:Str)(C:Addr)(mg:aU)(h:Heap):Prop:=OwnCls x C I0 "ValueError.__new__" mg h
variable {K:au}
theorem yF(q:PySem.W.excIn K C I0 "ValueError.__new__" = true):∃(dd:Option Addr) (nm:Str) (bs bm:ao) (ns:Addr) (qn:Str) (hd:Bool) (sn:aq) (sub:ao) (ab:Bool) (col:Option Bool) (k0 k1 k2 k3 k5:Option Value),
  K.lookup C=some (excClassObj nm qn C ns bs bm hd sn sub ab col dd k0 k1 k2 k3 k5 "ValueError.__new__")/\PySem.W.tailIn K I0 bm=true/\PySem.W.nsOkIn K ns=true/\PySem.W.nsIn K ns "__init__" = some none:=by
 unfold PySem.W.excIn at q;split at q
 case h_2=>cases q
 case h_1 dd cd sl ho =>
  split at q
  case h_2=>cases q
  case h_1 C' bm k0 k1 k2 k3 n k5 hm hs =>
   rw[Bool.and_eq_true,Bool.and_eq_true,Bool.and_eq_true,Bool.and_eq_true,Bool.and_eq_true]at q;obtain⟨⟨⟨⟨⟨e1,e2⟩,e3⟩,e4⟩,e5⟩,e6⟩:=q;have e1:=beq_iff_eq.mp e1;have e2:=beq_iff_eq.mp e2;have e6:=beq_iff_eq.mp e6;subst e1;subst e2;cases cd with
   |mk nm bs mro ns qn hd sn sub ab col del =>
    cases hm;have e3:del=false:=by simpa using e3
    subst e3;cases sl with
    |mk l =>
     cases hs;exact⟨_,_,_,_,_,_,_,_,_,_,_,_,_,_,_,_,ho,e4,e5,e6⟩
variable {mg:Str->Option Value}
theorem x6{h:Heap}{x:Str}(X:K.In h)(G:h.Ns mainGlobals mg)(e:PySem.W.nsIn K mainGlobals x=some (some (.ref C)))(q:PySem.W.excIn K C I0 "ValueError.__new__" = true):pd x C mg h:=by
 obtain⟨_,_,_,_,_,_,_,_,_,_,_,_,_,_,_,_,ho,e4,e5,e6⟩:=yF q;exact⟨abg X G e,_,_,_,_,_,_,_,_,_,_,_,_,_,_,_,_,_,X _ _ ho,.of_isNs (PySem.W.isNs_of_in X e5),PySem.W.nsMap_none_of_in X e5 e6,PySem.W.tail_of_in X e4⟩
variable {cpos hpos np p1 p2 p3 pos:Pos}
section
variable {X:Cx}{C:Addr}{x:Str}
noncomputable def Jj(X:Cx)(C:Addr):TS:=λD σ H=>∀pins s h' ea vs,Inv X pins σ H s->Heap.MadeExcOf s.heap h' ea (.ref C) vs->X.xe (.ref ea) { s with heap:=h' }
theorem BK{m:Str}{j:Nat}{p:Pos}(hc:X.calm=true)(O:pd x C X.mg X.base)(hg:Gl X x)(hd:(x==("__debug__" : Str))=false):
  PS X (.Raise (some (.Call (.Name x np) [.Constant (.str m) j p] [] cpos)) none pos) (Jj X C):=by
 intro pins s σ H D I hw;obtain⟨tl,N,nm,q,bs,hdct,sn,sub,ab,col,dd,k0,k1,k2,k3,k5,mN,hC,hN,hni,T⟩:=O.obj;refine wpAny_Raise_call_subT (C:=C) (nm:=nm) (q:=q) (N:=N) (bs:=bs) (bm:=tl) (hdct:=hdct) (sn:=sn) (sub:=sub) (ab:=ab) (col:=col) (dd:=dd) (k0:=k0) (k1:=k1) (k2:=k2) (k3:=k3) (k5:=k5)
  F.excBase_ValueError (mN:=mN) (T.hasType F.excBase_ValueError.hasBase) (I.ok.hd hc) rfl hni (mW I hg O.bound ⟨rfl,?_⟩ hd)
 have he:starEach [.Constant (.str m) j p] X.env=(false,eval (.Constant (.str m) j p) X.env)::starEach [] X.env:=rfl;have hp:=cD (JZ (X:=X) (x:=m) (j:=j) (pos:=p)) d_ he cpos pins s σ H (λvs H'=>H'=H/\vs.length<=1) I ⟨rfl,aaj 1⟩;rw[he]at hp ⊢;refine abS (cW hp λus s2 bW=>?_);obtain⟨vs,H2,I2,r,q2,q3⟩:=bW;subst q2;exact⟨rfl,by rw[<- r.length];exact aaB q3 (by decide),I2.bk _ _ hC,hN.keeps I2.bk,T.keeps I2.bk,λh' e hm=>hw pins s2 h' e us I2 hm⟩
end
variable {X:Cx}
theorem Cx.Ok.mk'(ok:X.Ok)(e:Value)(E:aB):Cx.Ok { X with A:=X.A.mark (some e),calm:=false,xe:=E } :=
 ⟨ok.mod,ok.kind,ok.glob,ok.blt,ok.above,ok.inj,ok.has,ok.IC,(λh=>by cases h),ok.frames,ok.Jo,ok.Ra,ok.bs,ok.DV,ok.ui,ok.wK,ok.jO,ok.AH⟩
theorem uy{pins:ak}{s:Shared}(I:Inv X pins σ H s)(e:Value)(E:aB):Inv { X with A:=X.A.mark (some e),calm:=false,xe:=E } pins σ H s :=
 ⟨Cx.Ok.mk' I.ok e E,I.os,I.bare,I.base,I.loc,I.cell,I.free,I.e_,I.pin,I.cm,I.len⟩
variable {E:Value->Shared->Prop}
theorem ox{pins:ak}{s:Shared}{e:Value}(ok:X.Ok)(I:Inv { X with A:=X.A.mark (some e),calm:=false,xe:=E } pins σ H s):Inv X pins σ H s :=
 ⟨ok,I.os,I.bare,I.base,I.loc,I.cell,I.free,I.e_,I.pin,I.cm,I.len⟩
theorem xY{i:Nat}{x:Str}(hN:X.N[i]?=some x)(hv:IL X.env.scope x)(hd:(x==("__debug__" : Str))=false)(wC:(x==("__classdict__" : Str))=false):PE X (.Name x pos) (tI i):=lD hN hv hd wC
noncomputable def only(n j:Nat)(v:V):St:=(List.replicate n none).set j (some v)
theorem B7{n j i:Nat}{v w:V}(h:(only n j v)[i]?=some (some w)):i=j/\w=v:=by
 unfold only at h;by_cases hi:i=j
 ·subst hi;refine⟨rfl,?_⟩;by_cases hl:i<n
  ·rw[List.getElem?_set_self (by simpa using hl)]at h;cases h;rfl
  ·rw[List.getElem?_eq_none (by simpa using hl)]at h;cases h
 ·rw[List.getElem?_set_ne (Ne.symm hi),List.getElem?_replicate]at h;split at h<;>cases h
variable {A:aK}{Q:Unit->Shared->Prop}
section
variable {X:Cx}{C:Addr}{x n y:Str}{i j:Nat}{E1:XK}
theorem v_{M:Model}{pins:ak}{s:Shared}{v:V}(I:Inv X pins σ H s)(hl:X.env.kindOf n=some .local)(Vg:y≠n)(nd:X.N.Nodup)(hj:X.N[j]?=some y)(hv:σ[j]?=some (some v))
  (h:∀s',Inv X pins (only X.N.length j v) H s'->Q () s'):wpAny M A (do bindName X.env n .none;unbindBehindTheSuite X.env n pos) Q E s:=by
 obtain⟨m,hn,VH⟩:=id I.loc;have wz:(X.env.scope.kind==.class||(X.env.scope.kind==.module&&X.env.locals != X.env.globals))=false:=by rw[I.ok.kind];rfl
 refine wpAny_nameGoes_keeps hl hn wz λh' u sW hs=>h _ ?_;have tracked:jb X.prog X.w H h':=λb ob e=>by
  refine(I.cm b ob e).iJ (λc w' hc q=>(hs.2 c ?_).trans q) (λ_ q=>q) λ_ _ q=>q;rintro rfl;rcases hc with rfl|hc
  ·rw[I.free]at e;cases e
  ·rw[I.free]at hc;cases hc
 refine⟨I.ok,I.os,I.bare,⟨λb o e n hb hx=>?_,λb o e n hb hx=>?_,I.base.free,λb o e hx=>?_,I.base.lq,I.base.kR,I.base.lr⟩,⟨_,sW,λk z v' e1 e2 e3=>?_⟩,λz c e=>?_,I.free,I.e_,λp hp=>?_,tracked,by unfold only;simp⟩
 ·exact(hs.2 b (aak (aai (aae e) I.ok.above))).trans (I.base.keep b o e n hb hx)
 ·obtain⟨sl,e1⟩:=I.base.slot b o e n hb hx;exact⟨sl,(hs.2 b (aak (aai (aae e) I.ok.above))).trans e1⟩
 ·obtain⟨o',e1⟩:=I.base.there b o e hx;exact⟨o',(hs.2 b (aak (aai (aae e) I.ok.above))).trans e1⟩
 ·obtain⟨rfl,rfl⟩:=B7 e2;rw[hj]at e1;cases e1;obtain⟨u',r',q⟩:=VH k y _ hj hv e3;refine⟨u',r',?_⟩;rcases q with ⟨kk,e⟩|⟨kk,c,e,z⟩
  ·exact .inl ⟨kk,by show(if y=n then u else m y)=_;rw[if_neg Vg];exact e⟩
  ·exact .inr ⟨kk,c,e,z.sameBut hs (I.DK y c e)⟩
 ·obtain⟨w',z'⟩:=I.cell z c e;exact⟨w',z'.sameBut hs (I.DK z c e)⟩
 ·obtain⟨e,n,ne,nf,d⟩:=I.pin p hp;exact⟨(hs.2 p.1 ne).trans e,n,ne,nf,d⟩
end
noncomputable abbrev Cx.kl(X:Cx)(pins:ak)(E:aB):Cx:={ X with xe:=E,pn:=X.pn++pins }
section
variable {X:Cx}{C:Addr}{x n y:Str}{i j:Nat}{E1:XK}
theorem yp{pins:ak}{s:Shared}(I:Inv X pins σ H s)(E:aB):Inv (Cx.kl X pins E) [] σ H s :=
 ⟨⟨I.ok.mod,I.ok.kind,I.ok.glob,I.ok.blt,I.ok.above,I.ok.inj,I.ok.has,I.ok.IC,I.ok.hd,I.ok.frames,I.ok.Jo,I.ok.Ra,I.ok.bs,I.ok.DV,I.ok.ui,I.ok.wK,I.ok.jO,I.ok.AH⟩,I.os,I.bare,I.base,I.loc,I.cell,I.free,I.e_,λp hp=>I.pin p (by simpa using hp),I.cm,I.len⟩
theorem fD{pins q:ak}{s:Shared}(I:Inv (Cx.kl X pins E) q σ H s):Inv X pins σ H s :=
 ⟨⟨I.ok.mod,I.ok.kind,I.ok.glob,I.ok.blt,I.ok.above,I.ok.inj,I.ok.has,I.ok.IC,I.ok.hd,I.ok.frames,I.ok.Jo,I.ok.Ra,I.ok.bs,I.ok.DV,I.ok.ui,I.ok.wK,I.ok.jO,I.ok.AH⟩,I.os,I.bare,I.base,I.loc,I.cell,I.free,I.e_,λp hp=>I.pin p (aay _ hp),I.cm,I.len⟩
theorem tracked{w:World}{l:List Env}{h:Heap}(un:Un (lJ l) [] H H' h h')(cm:jb P w H' h')(n1:H' ea=none)(n2:h.get? ea=none)(at_:xg ea C h'):
  Un (lJ l) [] H (upd H' ea (.ext (xg ea C))) h h'/\jb P w (upd H' ea (.ext (xg ea C))) h':=by
 have ne:∀b u,H' b=some u->b≠ea:=λb u q=>cg q n1;refine⟨⟨un.keep,un.slot,λb o e n hx=>?_,un.there,λb xs q=>?_,λb o u q=>?_,λb ps q=>?_⟩,λb u q=>?_⟩
 ·have:b≠ea:=by rintro rfl;rw[n2]at e;cases e
  rw[aS this];exact un.free b o e n hx
 ·have:=un.lq b xs q;rw[aS (ne _ _ this)];exact this
 ·have:=un.kR b o u q;rw[aS (ne _ _ this)];exact this
 ·obtain⟨m,this⟩:=un.lr b ps q;exact⟨m,by rw[aS (ne _ _ this)];exact this⟩
 ·by_cases hb:b=ea
  ·subst hb;rw[bj]at q;cases q;obtain⟨o,e1,e2⟩:=at_;exact⟨⟨o,e1,e2⟩,⟨o,e1⟩,λh1 h2 ⟨o,e1,e2⟩ k=>⟨o,k o e1,e2⟩⟩
  ·rw[aS hb]at q;exact(cm b u q).iJ (λ_ _ _ q=>q) (λc r=>by rw[aS (ne _ _ r)];exact r) λc xs r=>by rw[aS (ne _ _ r)];exact r
end
theorem uM{M:Model}{nm q Z1 q':Str}{N B N':Addr}{bs bm bs' WW:ao}{hdct QB:Bool}{sn ZG:aq}{sub T8:ao}{ab ab':Bool}{col WO:Option Bool}{dd WK:Option Addr}{k0 k1 k2 k3 k5 l0 l1 l2 l3 l5:Option Value}{newId Ko:String}
  {h:Heap} {g:Array GenState} {d:Drawn} {t:Nat} {os:OsState} {e:Addr} {oe:Obj} {Q:Bool->Shared->Prop}
  (hC:h.get? C=some (excClassObj nm q C N bs bm hdct sn sub ab col dd k0 k1 k2 k3 k5 newId)) (hB:h.get? B=some (excClassObj Z1 q' B N' bs' WW QB ZG T8 ab' WO WK l0 l1 l2 l3 l5 Ko)) (he:h.get? e=some oe) (wz:oe.cls=.ref C) (uE:WW.contains (.type "BaseException")=true) (Ga:bm.contains (.ref B)=true)
  (hq:Q true ⟨h,g,d,t,os⟩):wpAny M A (excMatches (.ref e) (.ref B)) Q E ⟨h,g,d,t,os⟩:=by
 have hcB:(Value.ref B::WW).contains (.type "BaseException")=true:=by rw[List.contains_cons,uE,Bool.or_true]
 have hcC:(Value.ref C::bm).contains (.ref B)=true:=by rw[List.contains_cons,Ga,Bool.or_true]
 have f:=tc_notTuple;unfold excMatches
 repeat (first | (with_reducible refine aaN he ?_;rw[wz])|with_reducible refine aaN hB ?_ | (with_reducible refine wpAny_isSubtype_exc hB ?_;rw[hcB]) | (with_reducible refine wpAny_isSubtype_exc hC ?_;rw[hcC])|wp_step)
 exact hq
def lU(C B:Addr)(h:Heap):Prop:=∃(nm q:Str) (N:Addr) (bs bm:ao) (hdct:Bool) (sn:aq) (sub:ao) (ab:Bool) (col:Option Bool) (dd:Option Addr) (k0 k1 k2 k3 k5:Option Value) (newId:String),h.get? C=some (excClassObj nm q C N bs bm hdct sn sub ab col dd k0 k1 k2 k3 k5 newId)/\bm.contains (.ref B)=true
variable {body:aZ}
section
variable {X:Cx}{C B:Addr}{x n y:Str}{i j:Nat}{E1:XK}
theorem Fs{tb:TS}(CK:X.stack=X.env::X.outer)(Ie:X.env.frame=some X.env.locals)(O:pd x B X.mg X.base)(OS:lU C B X.base)(hg:Gl X x)(hd:(x==("__debug__" : Str))=false)
  (nd:X.N.Nodup) (hi:X.N[i]?=some n) (hj:X.N[j]?=some y) (Vg:y≠n) (sX:X.env.scope.names.lookup n=some .local) (Qq:X.env.scope.names.lookup y=some .local) (dn:(n==("__debug__" : Str))=false) (dc:(n==("__classdict__" : Str))=false)
  (K6:swapsWith (.Name n p2) (some (.Name y p1)) p3.line (X.env)=pure false)
  (hb:∀pn vk,Passes (s_ X.prog X.w C) (Cx.kl X pn vk) E1->fG (Cx.kl X pn vk) body tb) :
  PS X (.Try body [.ExceptHandler (some (.Name x np)) (some n) [.Assign [.Name y p1] (.Name n p2) p3] hpos] [] [] pos)
   (λD σ H=>tb D σ H/\∀ea H',E1 (.ref C) none H'->H' ea=none->D.nx (only X.N.length j (.ref ea)) (upd H' ea (.ext (xg ea C)))):=by
 intro pins s σ H D I hw;obtain⟨hbd,hh⟩:=hw;have ok:=I.ok;refine wpAny_Try_except ?_;refine aau (hb pins _ ?_ [] s σ H D (yp I (λe s₁=>wpAny (model X.prog X.w) X.A (noteFrame e X.env) (λ_ s₂=>wpAny (model X.prog X.w) X.A (setFlight e none) (λ_ s₃=>wpAny (model X.prog X.w) X.A (handleBy e X.env [.ExceptHandler (some (.Name x np)) (some n) [.Assign [.Name y p1] (.Name n p2) p3] hpos]) (SP X pins D) X.xe s₃) X.xe s₂) X.xe s₁)) hbd) (λf s₁ q=>?_) (λ_ _ q=>q)
 ·intro ua σ1 H1 s1 e s2 I1 hx;obtain⟨ea,H',rfl,fl,he⟩:=hx;obtain⟨n1,n2⟩:=fl.new;obtain⟨⟨t,B,fw,AI⟩,os,bare,un,cm⟩:=fl;have I1:Inv X pins σ1 H1 s1:=fD I1;have fw:Heap.FlyingW B (X.env::X.outer) ea (.ref C) (.ref t) s2.heap:=CK▸fw;have LH:X.A.frames=some (X.env::X.outer):=CK▸I1.ok.frames;show wpAny (model X.prog X.w) X.A (noteFrame (.ref ea) X.env) _ X.xe s2;refine wpAny_looks_onW LH Ie fw λh4 held Ub=>?_;refine wpAny_landsW held λh5 LD Ua=>?_;obtain⟨NX,CN,MA⟩:=moved un cm AI I1.stack I1.gY LD.1 (Ub.trans Ua);have I5:Inv X pins σ1 H' { s2 with heap:=h5 }:=I1.qH (ch:=[]) os NX CN bare λ_ z=>nomatch z;refine wpAny_handleBy_cons (codeAny_handlers_test (aaZ I5.ok.kind hg (aby (by rw[I5.ok.glob];exact I5.mod.glob.keeps I5.bk) O.bound ?_) hd)) (by intro q;cases q);obtain⟨bm,ZZ,nm,qn,bs,hdct,sn,sub,ab,col,dd,k0,k1,k2,k3,k5,mN,hB,_,_,TL⟩:=(O.keeps I5.bk).obj;obtain⟨Z0,q2,N2,bs2,bm2,QA,ZF,T7,ab2,WN,vx,l0,l1,l2,l3,l5,id2,hC,Ga⟩:=OS;have hC:=I5.bk _ _ hC;obtain⟨ob,VB,Ld⟩:=LD.there;refine uM hC hB VB Ld (TL.hasType (by decide +kernel)) Ga (codeAny_handlers_suite_as ?_);refine lands_againW LD λh6 Q5 T_=>?_;obtain⟨Tt,Lb,WL⟩:=moved NX CN MA I1.stack I1.gY Q5.1 T_;obtain⟨Ts,La⟩:=tracked (C:=C) Tt Lb n1 n2 Q5.there;have I7:Inv X pins σ1 (upd H' ea (.ext (xg ea C))) { s2 with heap:=h6 }:=I1.qH (s':={ s2 with heap:=h6 }) (ch:=[]) os Ts La bare λ_ z=>nomatch z;have jN:i<σ1.length:=by rw[I7.len];exact(List.getElem?_eq_some_iff.mp hi).1
  have Qs:j<σ1.length:=by rw[I7.len];exact(List.getElem?_eq_some_iff.mp hj).1
  refine fI I7 nd hi (.inl sX) (v:=.ref ea) (u:=.ref ea) rfl (λs8 I8=>?_) (.inr sX)
  let X2:Cx:={ X with A:=X.A.mark (some (.ref ea)),calm:=false,xe:=AsSuiteRaised (model X.prog X.w) (X.A.mark (some (.ref ea))) X.env n hpos (notedBy (model X.prog X.w) (X.A.mark (some (.ref ea))) X.env (cameBackBy (model X.prog X.w) X.A X.env X.xe)) }
  have ps:fG X2 [.Assign [.Name y p1] (.Name n p2) p3] _:=kD (rl (X:=X2) (i:=j) nd hj (.inl Qq) (xY (X:=X2) (i:=i) (pos:=p2) hi (.inl sX) dn dc) K6 (hf:=.inr Qq));refine aau (ps pins s8 _ _ { nx:=λσ' ka=>ka=upd H' ea (.ext (xg ea C))/\σ'[j]?=some (some (.ref ea)),rt:=λ_ _=>False } (uy I8 _ _) ⟨.ref ea,by rw[List.getElem?_set_self jN],rfl,by rw[List.getElem?_set_self (by simpa using Qs)]⟩) (λf s9 q9=>?_) (λ_ _ q=>q);cases f with
  |next =>
   obtain⟨σ9,H9,I9,rfl,e9⟩:=q9;have I9:=ox ok I9;exact v_ I9 sX Vg nd hj e9 λZI Ta=>⟨_,_,Ta,hh ea H' he n1⟩
  |ret v=>obtain⟨_,_,_,_,_,z⟩:=q9;exact z.elim
  |brk=>obtain⟨_,_,_,z⟩:=q9;exact z.elim
  |cont=>obtain⟨_,_,_,z⟩:=q9;exact z.elim
 ·cases f with
  |next=>obtain⟨σ',H',I',q⟩:=q;exact abk ⟨σ',H',fD I',q⟩
  |ret v=>obtain⟨v,σ',H',I',r,q⟩:=q;exact⟨v,σ',H',fD I',r,q⟩
  |brk=>obtain⟨σ',H',I',q⟩:=q;exact⟨σ',H',fD I',q⟩
  |cont=>obtain⟨σ',H',I',q⟩:=q;exact⟨σ',H',fD I',q⟩
end
def TK(C:Addr)(i:Nat)(b:Bool):TE:=λσ H Q=>∃ea,σ[i]?=some (some (.ref ea))/\H ea=some (.ext (xg ea C))/\Q (.bl b) H
section
variable {X:Cx}{C:Addr}{i:Nat}
theorem KW{cv:V}{cu:Value}{b:Bool}(Z:XC X.K C)(hr:∀u,RelV cv u->u=cu)(hk:PySem.W.kitOne X.K (.ref C) cu=some b):
  fX X (.builtin "isinstance") (λxs H Q=>∃ea,xs=[.ref ea,cv]/\H ea=some (.ext (xg ea C))/\Q (.bl b) H):=by
 intro pins s σ H xs us Q I r h;obtain⟨ea,rfl,hH,q⟩:=h;obtain⟨u,w',rfl,ru,lb⟩:=vals2 r;cases ru;cases hr w' lb;obtain⟨⟨o,e1,e2⟩,_⟩:=(show cM X.prog X.w H s.heap ea (.ext (xg ea C)) from I.cm ea _ hH)
 exact aaX (Cv PySem.F.attr_ValueError Z) I.wk ⟨o,e1,e2⟩ hk (λz=>nomatch z) λtk=>⟨.bl b,H,I.tok tk,rfl,q⟩
structure RM(X:Cx)(C:Addr)(cl:Str->Option Bool):Prop where
 xc:XC X.K C
 isi:Gl X "isinstance"
 Z_:X.mg "isinstance" = none
 ex:∀x b,cl x=some b->∀p,∃cv cu,PE X (.Name x p) (tC cv)/\(∀u,RelV cv u->u=cu)/\PySem.W.kitOne X.K (.ref C) cu=some b
def F5(err:Str)(cl:Str->Option Bool)(e:Expr):Option Bool:=(cX e).bind λz=>(two z.2).bind λw=>(AW w.1).bind λy=>(AW w.2).bind λx=>if z.1 = "isinstance" /\ y=err then cl x else none
theorem J3{err:Str}{cl:Str->Option Bool}(Z:RM X C cl)(he:∀p,PE X (.Name err p) (tI i)){e:Expr}{b:Bool}(h:F5 err cl e=some b):PE X e (TK C i b)/\(∀es,starEach (e::es) X.env=(false,eval e X.env)::starEach es X.env)/\∀whole,isTrue e X.env whole=(do let v <- whole;standAt e.pos;holding [v] (truthy v)):=by
 obtain⟨⟨f,as⟩,hv,g1⟩:=Option.bind_eq_some_iff.mp h;obtain⟨p0,pos,rfl⟩:=bJ hv;obtain⟨⟨ey,ex⟩,hw,g2⟩:=Option.bind_eq_some_iff.mp g1;obtain rfl:as=[ey,ex]:=gu hw;obtain⟨y,hy,g3⟩:=Option.bind_eq_some_iff.mp g2;obtain⟨p1,rfl⟩:=iP hy;obtain⟨x,hx,g4⟩:=Option.bind_eq_some_iff.mp g3;obtain⟨p2,rfl⟩:=iP hx;by_cases hh:f = "isinstance" /\ y=err
 ·rw[if_pos hh]at g4;obtain⟨rfl,rfl⟩:=hh;refine⟨?_,λ_=>rfl,λ_=>rfl⟩;obtain⟨cv,cu,h1,h2,h3⟩:=Z.ex x b g4 p2;refine PE.imp (eK (KW Z.xc h2 h3) Z.isi Z.Z_ PyProof.Rows.boot_isinstance (cD (he p1) (cD h1 d_))) λσ H Q hq=>?_;obtain⟨ea,e1,e2,q⟩:=hq;exact⟨_,e1,ea,rfl,e2,q⟩
 ·rw[if_neg hh]at g4;cases g4
end
variable {ps:aq}{qual:Str}{st:Stmt}
theorem WJ{w:World}{CX:vy}{x:Str}{f:Addr}{fd:FuncData}{N:aq}{k:Nat}{sp:Sp}(F:AK K x qual st f fd)(S:fq N ps (aL st))(len:∀vs H Q E,sp vs H Q E->vs.length=ps.length)
  (oD:∀(gx:Value) (A:aK) (outer:List Env) (s:Shared) (H:Hp) (vs:af) (Q:VK) (E:XK),f9 k (A.deeper (envOfC qual (aL st) s.heap.objs.size f gx))->sp vs H Q E ->
   ∃t,fG (i8 CX P w K mg base N qual (aL st) f gx A outer s H E) (bD st) t/\t { nx:=λ_ H'=>Q .bu H',rt:=Q } (L2.start N vs) H):f_ P w K mg base CX (k+1) f fd ps sp:=by
 obtain⟨oc,od,kV,doc,pm,an,gx,ct,B3,rfl,lk,wC⟩:=F.ex;exact Im lk wC S len λA outer s H vs Q E hr vq=>oD gx A outer s H vs Q E hr vq
def RU(K:au)(C:Addr)(n:Nat)(mr:aa->Prop):Sp:=λvs H _ E=>∃(F:aj) (ds:aa),vs.length=n/\aI (bh K H) (nd K F (λ_=>False) (λ_=>none) H) [] 0 vs ds/\mr ds/\∀H',aM H H'->E (.ref C) none H'
variable {vs:af}
theorem tO{F:aj}{N:aq}{ds:aa}(h0:X.H₀=H)(hl:ds.length<=N.length)(rs:aI (bh X.K H) (nd X.K F (λ_=>False) (λ_=>none) H) [] 0 vs ds):
  SI X F (λp=>F p/\H p≠none) (λ_=>none) (ds.map some++List.replicate (N.length - ds.length) none) (L2.start N vs) H:=by
 have F8:vs.length=ds.length:=rs.length;refine⟨?_,λi d hi=>?_,λ_ _=>rfl,λp h=>h.2,λp h=>.inl h.1,λ_ _ h=>by simp at h,λ_ _ h=>by simp at h,h0▸aM.refl H⟩
 ·unfold L2.start;simp[F8]
 ·have Qu:i<ds.length:=by
   by_cases jN:i<ds.length
   ·exact jN
   ·rw[List.getElem?_append_right (by simpa using jN),List.getElem?_replicate]at hi;split at hi<;>simp at hi
  rw[List.getElem?_append_left (by simpa using Qu),List.getElem?_map]at hi;have hd:ds[i]?=some d:=by
   cases q:ds[i]? with
   |none=>rw[q]at hi;exact nk hi
   |some z=>rw[q]at hi;simp at hi;rw[hi]
  obtain⟨v,hv,rv⟩:=rs.get hd;refine⟨v,?_,rv.imp (q:=[0+i]) (q':=[i]) (λ_ _ h=>h) λc p xs f h=>?_⟩
  ·unfold L2.start;rw[List.getElem?_append_left (by rw[List.length_map,F8];exact Qu),List.getElem?_map,hv];rfl
  ·cases f with
   |ow=>exact nomatch h.2
   |fz=>exact⟨h.1,h.2,h.1.ne⟩
   |al=>exact h.2.elim
   |sc=>exact h
noncomputable def nI(X:Cx)(F:aj)(bad:aX->Prop):TS:=λ_ σ H=>∃R τ ρ,SI X F R τ ρ σ H/\bad ρ
theorem PS.Ea{X:Cx}{st:Stmt}{t:TS}(h:PS X.Ea st t):PS X st t:=λpins s σ H D I hw =>
 aau (h pins s σ H D (I.nv _) hw) (λ_ _ q=>q.gW) λ_ _ q=>q.elim
theorem SI.Ea{X:Cx}{F R:aj}{τ:Addr->Option bt}{ρ:aX}{σ:St}{H:Hp}(S:SI X F R τ ρ σ H):SI X.Ea F R τ ρ σ H:=⟨S.len,S.rep,S.rt,S.rh,S.rf,S.th,S.t0,S.same⟩
noncomputable def zm(X:Cx)(F:aj)(bad:aX->Prop):TE:=λσ H _=>∃R τ ρ,SI X F R τ ρ σ H/\bad ρ
section
variable {X:Cx}{S:Sx}{k:Nat}{Φ:aT}{F:aj}{bad:aX->Prop}{C:Addr}
theorem Gv{f':Addr}{Yu:FuncData}{Sd:aq}{XE:aa->Prop}{ce:aF}{g:Str}{e:Expr}{es:aA}(L:Lk X S k Φ)(hx:Passes (s_ X.prog X.w C) X (λc _ H'=>c=.ref C/\aM X.H₀ H'))
  (F':f_ X.prog X.w X.K X.mg X.base (s_ X.prog X.w C) k f' Yu Sd (RU X.K C Sd.length XE)) (h2:eM S.sc g=true) (hg:X.mg g=some (.ref f')) (hk:PySem.W.keepIn X.K (.ref f')=true) (hb:Binds X.K Yu Sd []) (hd:(g==("__debug__" : Str))=false)
  (h3:bH S ce (e::es)=true) (me:∀r,starEach (e::r) X.env=(false,eval e X.env)::starEach r X.env) (hpl:(backTo cpos (starEach es X.env)).any (·.1)=false) :
  PE X (.Call (.Name g np) (e::es) [] cpos) (zm X F λρ=>∃ds',bX Φ ce ρ=ok ds'/\XE (aC a_ ds')/\ds'.length=Sd.length):=by
 refine PE.imp (x3 (X:=X) (p:=np) (pos:=cpos) F' L.room (L.gl h2) hg hk hb .nil hx (ku (F:=F) L ce (e::es) h3) hd (me _) hpl) λσ H Q hq=>?_;obtain⟨R,τ,ρ,Si,ds',Qy,VE,VR⟩:=hq;refine⟨R,τ,ρ,ds',Si,Qy,λY_ H2 e2 rv=>?_⟩;obtain⟨τt,ft,OG⟩:=rv;rw[List.append_nil];refine⟨λ_=>True,aC a_ ds',by rw[OG.length,VR],aI.hJ (λ_ _ h=>h) (λk k' p xs f h=>?_) OG _ _,VE,λH' e'=>⟨rfl,(Si.same.trans e2).trans e'⟩⟩;cases f with
 |ow=>exact⟨h.1,trivial⟩
 |fz=>exact⟨h.1,trivial⟩
 |al=>exact⟨h.1,trivial⟩
 |sc=>exact h
theorem Mg{e:Expr}(h:PE X e (zm X F bad)):PS X (.Return (some e) pos) (nI X F bad):=PS.imp (vV h) λ_ _ _ q=>q
theorem Rb{e:Expr}(h:PE X e (zm X F bad))(hs:swapsWith e none pos.line X.env=pure false):PS X (.Expr e pos) (nI X F bad):=PS.imp (kE h hs) λ_ _ _ q=>q
theorem Mf{i:Nat}{x:Str}{e:Expr}{p:Pos}(hN:X.N.Nodup)(hi:X.N[i]?=some x)(hx:L2.Loc X.env.scope x)(hf:X.fn x=true)(h:PE X e (zm X F bad))(hs:swapsWith e (some (.Name x p)) pos.line X.env=pure false):PS X (.Assign [.Name x p] e pos) (nI X F bad) :=
 PS.imp (rl hN hi hx h hs (.inl hf)) λ_ _ _ q=>q
end
structure Nr where
 ps:aq
 err:Str
 ex:Str
 cls:Str
 f:Str
 al:Str
noncomputable def Nr.N(n:Nr):aq:=n.ps++[n.err,n.ex]
noncomputable def DG(x:Str):Bool:=!(x==("__debug__" : Str))&&!(x==("__classdict__" : Str))
theorem SI.kl{X:Cx}{F R:aj}{τ:Addr->Option bt}{ρ:aX}{σ:St}{H:Hp}{pn:ak}{E:aB}(S:SI X F R τ ρ σ H):SI (Cx.kl X pn E) F R τ ρ σ H:=⟨S.len,S.rep,S.rt,S.rh,S.rf,S.th,S.t0,S.same⟩
theorem vZ{S:Sx}{env:Env}{pos:Pos}:∀{es:aA} {cs:aF},bH S cs es=true->(backTo pos (starEach es env)).any (·.1)=false
 |[],_,_=>rfl
 |e::es,[],h=>by exact(aac h).elim
 |e::es,c::cs,h=>by
  replace h:=aE h;rw[bz h.1 es env];show(false||(backTo pos (starEach es env)).any (·.1))=false;rw[vZ h.2];rfl
noncomputable def AA:Px:=⟨λ_ _ _ _=>none,λ_ _ _ _=>none,λ_ _ _ _=>none⟩
noncomputable def Pc:CI->Bool
 |.kA _ _=>false
 |_=>true
mutual
inductive vj(Φ:aT)(Ψ:Nat->aa->Prop)(n:Nat):CS->aX->Prop
 |ex {g:Nat} {es:aF} {ρ:aX} {xs:aa} (h1:bX Φ es ρ=ok xs) (h2:Ψ g (aC a_ xs)):vj Φ Ψ n (.ex (.call g es)) ρ
 |asg {i g:Nat} {es:aF} {ρ:aX} {xs:aa} (h1:bX Φ es ρ=ok xs) (h2:Ψ g (aC a_ xs)):vj Φ Ψ n (.asg (.nm i) (.call g es)) ρ
 |ret {g:Nat} {es:aF} {ρ:aX} {xs:aa} (h1:bX Φ es ρ=ok xs) (h2:Ψ g (aC a_ xs)):vj Φ Ψ n (.ret (.call g es)) ρ
 |rs {ρ:aX}:vj Φ Ψ n (.rs n) ρ
 |XX {c:CE} {a b:ag} {ρ:aX} (h1:uN Φ c ρ=ok true) (h2:Er Φ Ψ n a ρ):vj Φ Ψ n (.ifs c a b) ρ
 |iff {c:CE} {a b:ag} {ρ:aX} (h1:uN Φ c ρ=ok false) (h2:Er Φ Ψ n b ρ):vj Φ Ψ n (.ifs c a b) ρ
 |fr {t:Tg} {a:CI} {b:ag} {ρ ρ1:aX} {items:aa} (h1:bR Φ a ρ=ok (items,ρ1)) (h2:NI Φ Ψ n t b items ρ1) (h3:Pc a=true):vj Φ Ψ n (.fr t a b) ρ
inductive Er(Φ:aT)(Ψ:Nat->aa->Prop)(n:Nat):ag->aX->Prop
 |hd {c:CS} {cs:ag} {ρ:aX} (h:vj Φ Ψ n c ρ):Er Φ Ψ n (c::cs) ρ
 |tl {c:CS} {cs:ag} {ρ ρ':aX} (h1:iC Φ c ρ=ok (.nx,ρ')) (h2:Er Φ Ψ n cs ρ'):Er Φ Ψ n (c::cs) ρ
inductive NI(Φ:aT)(Ψ:Nat->aa->Prop)(n:Nat):Tg->ag->aa->aX->Prop
 |hd {t:Tg} {b:ag} {d:D} {ds:aa} {ρ ρ1:aX} (h1:bQ t d ρ=ok ρ1) (h2:Er Φ Ψ n b ρ1):NI Φ Ψ n t b (d::ds) ρ
 |tl {t:Tg} {b:ag} {d:D} {ds:aa} {ρ ρ1 ρ2:aX} (h1:bQ t d ρ=ok ρ1) (h2:bp Φ b ρ1=ok (.nx,ρ2)) (h3:NI Φ Ψ n t b ds ρ2):NI Φ Ψ n t b (d::ds) ρ
end
noncomputable def Xk:Stmt->Option Expr
 |.Raise e c _=>match c with
  |none=>e
  |some _=>none
 |_=>none
theorem I_{s:Stmt}{e:Expr}(h:Xk s=some e):∃p,s=.Raise (some e) none p:=by
 cases s<;>first|exact nk h | (cases h;done)|skip
 rename_i a c p;cases c with
 |some _=>cases h
 |none=>cases h;exact⟨p,rfl⟩
noncomputable def PR:Expr->Bool
 |.Constant c _ _=>match c with|.str _=>true|_=>false
 |_=>false
theorem F3{e:Expr}(h:PR e=true):∃m j p,e=.Constant (.str m) j p:=by
 cases e<;>first|exact(aac h).elim|skip
 rename_i c _ _;cases c<;>first|exact(aac h).elim|exact⟨_,_,_,rfl⟩
def Xr(y:Str)(st:Stmt):Bool:=bw (Xk st) λe=>bw (cX e) λz=>(z.1==y)&&bw (one z.2) PR
mutual
noncomputable def xk(gl:Bool)(n:Nat)(y:Str):CS->Stmt->Bool
 |.rs m,st=>!(m==n)||(gl&&Xr y st)
 |.ifs _ a b,st=>bw (Jb st) λz=>ze gl n y a z.2.1&&ze gl n y b z.2.2
 |.fr _ _ b,st=>bw (Jc st) λz=>ze gl n y b z.2.2.1
 |_,_=>true
noncomputable def ze(gl:Bool)(n:Nat)(y:Str):ag->aZ->Bool
 |c::cs,st::qU=>xk gl n y c st&&ze gl n y cs qU
 |_,_=>true
end
structure jz(P:aH)(w:World)(K:au)(mg:aU)(base:Heap)(k:Nat)(C:Addr)(y:Str)(mr:aa->Prop):Prop where
 ex:∃(f:Addr) (fd:FuncData) (ps:aq),f_ P w K mg base (s_ P w C) k f fd ps (RU K C ps.length mr)/\mg y=some (.ref f)/\PySem.W.keepIn K (.ref f)=true/\Binds K fd ps []/\∀ds,mr ds->ds.length=ps.length
structure MN(X:Cx)(S:Sx)(k:Nat)(Φ:aT)(Ψ:Nat->aa->Prop)(C:Addr)(y:Str)(gl:Bool):Prop where
 ls:j3 X S k Φ
 hR:∀pins σ H1 s1 h' ea vs,Inv X pins σ H1 s1->aM X.H₀ H1->Heap.MadeExcOf s1.heap h' ea (.ref C) vs->X.xe (.ref ea) { s1 with heap:=h' }
 hx:Passes (s_ X.prog X.w C) X (λc _ H'=>c=.ref C/\aM X.H₀ H')
 fe:∀g x,S.fn g=some x->(∃ds,Ψ g ds)->jz X.prog X.w X.K X.mg X.base k C x (Ψ g)
 gy:gl=true->Gl X y/\(y==("__debug__" : Str))=false
 own:pd y C X.mg X.base
variable {R1:Addr->Prop}{es:aF}{iter tg:Expr}{xs:aa}{ρ:aX}
section
variable {X:Cx}{S:Sx}{k n:Nat}{Φ:aT}{Ψ:Nat->aa->Prop}{F:aj}{C:Addr}{y:Str}{gl:Bool}
theorem Di(L:Lk X S k Φ)(hx:Passes (s_ X.prog X.w C) X (λc _ H'=>c=.ref C/\aM X.H₀ H'))(fe:∀g x,S.fn g=some x->(∃ds,Ψ g ds)->jz X.prog X.w X.K X.mg X.base k C x (Ψ g)){g:Nat}{e:Expr}(h:bT S (.call g es) e=true):PE X e (zm X F λρ=>∃xs,bX Φ es ρ=ok xs/\Ψ g (aC a_ xs)):=by
 obtain⟨⟨x,as⟩,hv,q1⟩:=bq h;obtain⟨p,pos,rfl⟩:=bJ hv;obtain⟨q2,q3⟩:=aE q1;obtain⟨q4,h3⟩:=aE q2;obtain⟨h1,h2⟩:=aE q4;obtain⟨⟨a,DZ⟩,hu,h4⟩:=bq q3;obtain rfl:as=a::DZ:=qR hu;by_cases yt:∃ds,Ψ g ds
 case neg=>exact λ_ _ _ _ _ _ ⟨_,_,_,_,xs,_,e2⟩=>absurd ⟨_,e2⟩ yt
 obtain⟨f,fd,ps,Fo,hm,hk,hb,hl⟩:=(fe g x (aab h1) yt).ex;unfold iV at h3;simp only[Bool.and_eq_true,Bool.not_eq_true']at h3;have me:∀r,starEach (a::r) X.env=(false,eval a X.env)::starEach r X.env:=λr=>by
  cases es with
  |nil=>exact(aac h4).elim
  |cons c cs=>exact bz (aE h4).1 r _
 have hpl:(backTo pos (starEach DZ X.env)).any (·.1)=false:=by
  cases es with
  |nil=>exact(aac h4).elim
  |cons c cs=>exact vZ (aE h4).2
 refine PE.imp (Gv (F:=F) (C:=C) (np:=p) (cpos:=pos) L hx Fo h2 hm hk hb h3.1.1 h4 me hpl) λσ H Q hq=>?_;obtain⟨R,τ,ρ,Si,xs,e1,e2⟩:=hq;exact⟨R,τ,ρ,Si,xs,e1,e2,by have:=hl _ e2;rw[aP,List.length_map]at this;exact this⟩
theorem rW(L:MN X S k Φ Ψ C y gl){g:Nat}{e:Expr}(h:bT S (.call g es) e=true):PE X e (zm X F λρ=>∃xs,bX Φ es ρ=ok xs/\Ψ g (aC a_ xs)):=Di L.ls.toLk L.hx L.fe h
def sR(X:Cx)(F:aj)(Φ:aT)(Ψ:Nat->aa->Prop)(n:Nat)(t:Tg)(b:ag)(R1:aj)(H1:Hp)(items:aa)(i:Nat)(σ:St)(H:Hp):Prop:=∃R' τ' ρ',SI X F R' τ' ρ' σ H/\Kp R1 H1 R' H/\NI Φ Ψ n t b (items.drop i) ρ'
def RS(X:Cx)(F:aj)(Φ:aT)(Ψ:Nat->aa->Prop)(n:Nat)(b:ag):TS:=λD σ H=>nH X F Φ b D σ H\/nI X F (Er Φ Ψ n b) D σ H
theorem rX{g:TG}{t:Tg}{b:ag}{D:L2.Ends}{items:List DI.D}{xs:af}{q:bt}
  (pw:∀(v:V) (σ:St) (H:Hp) (Q:St->Hp->Prop) (R:aj) (τ:Addr->Option bt) (ρ ρ':aX) (d:DI.D),SI X F R τ ρ σ H->iK X R τ H v d->bQ t d ρ=ok ρ'->(∀σ' τ',SI X F R τ' ρ' σ' H->Q σ' H)->g v σ H Q)
  (rs:aI (bh X.K H1) (nd X.K R1 (λ_=>False) (λ_=>none) H1) q 0 xs items) (i:Nat) (x:V) (σ:St) (H:Hp) (hx:xs[i]?=some x) (h:sR X F Φ Ψ n t b R1 H1 items i σ H) :
  g x σ H λσ2 H2=>RS X F Φ Ψ n b { D with nx:=sR X F Φ Ψ n t b R1 H1 items (i+1),ct:=sR X F Φ Ψ n t b R1 H1 items (i+1),bk:=D.nx } σ2 H2:=by
 obtain⟨R',τ',ρ',Si,kp,ef⟩:=h;obtain⟨d,hd,rd⟩:=rs.uH hx;have hi:i<items.length:=by
  by_cases hi:i<items.length
  ·exact hi
  ·rw[List.getElem?_eq_none (by left)]at hd;cases hd
 have kL:items.drop i=d::items.drop (i+1):=by
  rw[List.drop_eq_getElem_cons hi];rw[List.getElem?_eq_getElem hi]at hd;cases hd;rfl
 rw[kL]at ef;cases ef with
 |hd e1 e2=>exact pw x σ H _ R' τ' ρ' _ d Si (gc (Rep.lH (kp.rep rd))) e1 λσ' jI dQ=>.inr ⟨R',jI,_,dQ,e2⟩
 |tl e1 e2 e3=>exact pw x σ H _ R' τ' ρ' _ d Si (gc (Rep.lH (kp.rep rd))) e1 λσ' jI dQ=>.inl ⟨R',jI,_,(.nx,_),dQ,e2,λσ3 H3 R3 τ3 sL k3=>⟨R3,τ3,_,sL,kp.trans k3,e3⟩⟩
theorem rY{t:Tg}{b:ag}{items:List DI.D}{m:Nat}{P:Prop}(hn:m=items.length)(σ:St)(H:Hp)(h:sR X F Φ Ψ n t b R1 H1 items m σ H):P:=by
 obtain⟨_,_,_,_,_,ef⟩:=h;subst hn;rw[List.drop_length]at ef;cases ef
theorem Md(L:j3 X S k Φ){t:Tg}{a:CE}{b:ag}{x:aZ}(ht:sg S t tg=true)(hi:G1 S (.seq a) iter=true)(hb:fG X x (RS X F Φ Ψ n b)):PS X (.For tg iter x [] pos) (nI X F (vj Φ Ψ n (.fr t (.seq a) b))):=by
 obtain⟨g,hg,pw⟩:=qa (F:=F) L ht;have fO:∀y,foldedSetIterable iter X.env y=pure y:=by
  intro y;cases iter<;>first|rfl|exact(aac hi).elim|exact(aac (aE hi).2).elim
 intro pins s σ H D I zY;obtain⟨R,τ,ρ,Si,QH⟩:=zY;cases QH with
 |fr ei ef _ =>
  replace hi:=aE hi;obtain⟨d,ed,ei⟩:=aJ ei;have pe:=(eR (F:=F) L.toLk a iter hi.1).1;cases d<;>try (simp at ei;done)
  ·rename_i ds;simp at ei;obtain⟨rfl,rfl⟩:=ei;refine g5 L.px L.calm (v5 pe) hg hb fO pins s σ H D I (tD.intro Si ed λv H1 e1 rv=>?_);obtain⟨R',τ',hR,dQ,rp⟩:=mZ Si e1 rv;rw[aY]at rp;cases rp with
   | @tup _ p xs _ hp rs =>
    refine⟨p,rfl,⟨xs,hp⟩,yD (xs:=xs) (sR X F Φ Ψ n t b R' H1 (aC a_ ds)) ⟨R',τ',_,dQ,Kp.refl R' H1,by rw[List.drop_zero];exact ef⟩ (λi σ' H' _ h=>?_) (λi x σ' H' hx h=>rX pw rs i x σ' H' hx h) (λσ' H' h=>rY (rs.length) σ' H' h)⟩;obtain⟨R2,τ2,ρ2,_,kp,_⟩:=h;exact kp.MT hp
  ·rename_i f ds;simp at ei;obtain⟨rfl,rfl⟩:=ei;refine g5 L.px L.calm (rm pe) hg hb fO pins s σ H D I (tD.intro Si ed λv H1 e1 rv=>?_);obtain⟨R',τ',hR,dQ,rp⟩:=mZ Si e1 rv;rw[aY]at rp;cases rp with
   | @lst _ p xs _ _ hp rs =>
    refine⟨p,rfl,⟨xs,hp.sq⟩,uK (xs:=xs) (sR X F Φ Ψ n t b R' H1 (aC a_ ds)) ⟨R',τ',_,dQ,Kp.refl R' H1,by rw[List.drop_zero];exact ef⟩ (λi σ' H' _ h=>?_) (λi x σ' H' hx h=>rX pw rs i x σ' H' hx h) (λσ' H' h=>rY (rs.length) σ' H' h)⟩;obtain⟨R2,τ2,ρ2,_,kp,_⟩:=h;exact(kp.nd hp).sq
theorem Gr(L:j3 X S k Φ){t:Tg}{p:Nat}{cs:aF}{b:ag}{x:aZ}{args:aA}(ht:sg S t tg=true)(hi:S.px.pi p S.sc S.bl iter=some args)(hc:bH S cs args=true)(wy:OW iter=true)(Vq:(decide (1100<=p)||fM tg)=true)(hb:fG X x (RS X F Φ Ψ n b)):PS X (.For tg iter x [] pos) (nI X F (vj Φ Ψ n (.fr t (.uc p cs) b))):=by
 obtain⟨g,hg,pw⟩:=qa (F:=F) L ht;have fO:∀y,foldedSetIterable iter X.env y=pure y:=by
  intro y;cases iter<;>first|rfl | (cases wy;done)
 have pi:PI X tg iter (Xj X F Φ p cs):=λpins s σ H Rr I ⟨R,τ,ρ,xs,d,items,Si,cO,ed,ei,hR⟩ =>
  L.pr.i X _ _ k L.toLk.pX p iter args hi F cs tg Vq (iR L.toLk cs args hc) pins s σ H R τ ρ xs d items I Si cO ed ei Rr hR
 refine PS.imp (g5 L.px L.calm pi hg hb fO) λD σ H hq=>?_;obtain⟨R,τ,ρ,Si,QH⟩:=hq;cases QH with
 | @fr _ _ _ _ ρ1 items ei ef _ =>
  obtain⟨xs,cO,ei⟩:=aJ ei;obtain⟨d,ed,ei⟩:=aJ ei;obtain⟨KO,Wy,ei⟩:=aJ ei;cases ei;refine⟨R,τ,ρ,xs,d,items,Si,cO,ed,Wy,λJ H2 vs e2 Bz yz=>?_⟩;obtain⟨R',τ',hR,dQ,rs⟩:=uJ Si e2 Bz;refine⟨λi m σ' H'=>m=items.length - i/\i<=items.length/\sR X F Φ Ψ n t b R' H2 items i σ' H',⟨_,rfl,aaC _,R',τ',_,dQ,Kp.refl R' H2,by rw[List.drop_zero];exact ef⟩,?_⟩;rintro i m σ1 H1 ⟨rfl,VM,hf⟩;obtain⟨R1,τ1,ρ2,o4,k1,e1⟩:=id hf;have sU:=k1.OI rs;have MR:o3 X.K H2 vs xs H1:=⟨⟨R',rs,k1.l⟩,λa ys h=>k1.MT h⟩
  by_cases fZ:i<items.length
  ·refine .inr ⟨yz.go i H1 R1 MR sU fZ,λσ' H'=>sR X F Φ Ψ n t b R' H2 items (i+1) σ' H',λσ' H' h=>⟨items.length - (i+1),by left,rfl,fZ,h⟩,λv H3 hy=>?_⟩;obtain⟨e3,dd,hd,rd⟩:=yz.tj i H1 R1 v H3 MR sU fZ hy;have kL:items.drop i=dd::items.drop (i+1):=by
    rw[List.drop_eq_getElem_cons fZ];rw[List.getElem?_eq_getElem fZ]at hd;cases hd;rfl
   rw[kL]at e1;have k3:Kp R' H2 R1 H3:=k1.trans (Kp.of e3 λ_ h=>h);cases e1 with
   |hd eb e2=>exact pw v σ1 H3 _ R1 τ1 ρ2 _ dd (o4.go e3) (gc rd) eb λσ' jI sM=>.inr ⟨R1,jI,_,sM,e2⟩
   |tl eb e4 e5=>exact pw v σ1 H3 _ R1 τ1 ρ2 _ dd (o4.go e3) (gc rd) eb λσ' jI sM=>.inl ⟨R1,jI,_,(.nx,_),sM,e4,λσ3 H4 R3 τ3 sL k4=>⟨R3,τ3,_,sL,k3.trans k4,e5⟩⟩
  ·exact(rY (m:=i) (by left) σ1 H1 hf:False).elim
theorem Gq(L:j3 X S k Φ){t:Tg}{a:CE}{b:ag}{x:aZ}(ht:sg S t tg=true)(hi:G1 S (.iz a) iter=true)(hb:fG X x (RS X F Φ Ψ n b)):PS X (.For tg iter x [] pos) (nI X F (vj Φ Ψ n (.fr t (.iz a) b))):=by
 obtain⟨g,hg,pw⟩:=qa (F:=F) L ht;have fO:∀y,foldedSetIterable iter X.env y=pure y:=by
  intro y;cases iter<;>first|rfl|exact(aac hi).elim
 obtain⟨⟨z,as⟩,hv,hz⟩:=bq hi;obtain⟨p,wq,rfl⟩:=bJ hv;obtain⟨Nb,Eb⟩:=aE hz;obtain⟨P7,h2⟩:=aE Nb;obtain⟨P6,h1⟩:=aE P7;obtain rfl:z=_:=aab P6;obtain⟨e,hu,h3⟩:=bq Eb;obtain rfl:as=[e]:=cf hu;have pa:PA X [e] (pF X F Φ [a]):=PA.imp (cD (eR (F:=F) L.toLk a e h3).1 d_ (bz h3 _ _)) λ_ _ _ h=>by
  have:=eJ h;obtain⟨R,τ,ρ,d,Si,ev,hq⟩:=this;exact⟨R,τ,ρ,d,Si,ev,λv H' e r=>gX (hq v H' e r)⟩
 intro pins s σ H D I zY;obtain⟨R,τ,ρ,Si,QH⟩:=zY;cases QH with
 | @fr _ _ _ _ ρ1 items ei ef _ =>
  refine g5 L.px L.calm (lC (L.gl h1) (L.bl _ (aab h2)) pa (bz h3 _ _)) hg hb fO pins s σ H D I ?_;obtain⟨d,ed,ei⟩:=aJ ei;cases d<;>try (simp at ei;done)
  rename_i m;simp at ei;obtain⟨⟨c1,c2⟩,rfl,rfl⟩:=ei;have kM:(cL:Int)=1000000:=rfl;refine⟨R,τ,ρ,[.int m],Si,by show bd (bx Φ a ρ) _=_;rw[ed];rfl,λvs H1 e1 rv=>?_⟩;obtain⟨τt,fr,Uo⟩:=rv;cases Uo.ints1;refine⟨m,rfl,by left,by left,?_⟩;have rs:aI (bh X.K H1) (nd X.K R (λ_=>False) (λ_=>none) H1) [] 0 ((List.range m.toNat).map λ(k:Nat)=>V.int (0+(k:Int))) ((List.range m.toNat).map λ(k:Nat)=>DI.D.int (k:Int)):=by
   have:=aI.ints (T:=bh X.K H1) (N:=nd X.K R (λ_=>False) (λ_=>none) H1) ((List.range m.toNat).map λ(k:Nat)=>(k:Int)) (k:=[]) (n:=0);rw[List.map_map,List.map_map]at this;have e:((List.range m.toNat).map λ(k:Nat)=>V.int (0+(k:Int)))=(List.range m.toNat).map (V.int∘λ(k:Nat)=>(k:Int)):=aat λk _=>by show V.int (0+(k:Int))=V.int k;rw[Int.zero_add]
   rw[e];exact this
  refine qv (sR X F Φ Ψ n t b R H1 _) ⟨R,τ,_,Si.go e1,Kp.refl R H1,by rw[List.drop_zero];exact ef⟩ (λi σ' H' Ga h=>?_) (λσ' H' h=>rY (by simp) σ' H' h);exact rX pw rs i (.int (0+i)) σ' H' (by rw[List.getElem?_map,List.getElem?_range Ga];rfl) h
theorem jP{c:CS}(h:∀ρ,vj Φ Ψ n c ρ->False):PS X st (nI X F (vj Φ Ψ n c)):=λ_ _ _ _ _ _ hq=>by
 obtain⟨_,_,ρ,_,hb⟩:=hq;exact(h ρ hb).elim
theorem Dj{c:CS}(h:∀ρ,vj Φ Ψ n c ρ->PS X st (λ_ σ H=>∃R τ,SI X F R τ ρ σ H)):PS X st (nI X F (vj Φ Ψ n c)):=λpins s σ H D I hq=>by
 obtain⟨R,τ,ρ,Si,hb⟩:=hq;exact h ρ hb pins s σ H D I ⟨R,τ,Si⟩
theorem Mh(L:MN X S k Φ Ψ C y gl){g:Nat}(h:Ai S (.ex (.call g es)) st=true)(a:bX Φ es ρ=ok xs)(b:Ψ g (aC a_ xs)):PS X st (λ_ σ H=>∃R τ,SI X F R τ ρ σ H):=by
 obtain⟨v,v1,q1⟩:=bq h;obtain⟨pos,rfl⟩:=qP v1;obtain⟨h1,h2⟩:=aE q1;exact PS.imp (Rb (rW (F:=F) L h1) (fR h1 (gL h2) _ _ _)) λD σ H hq=>by obtain⟨R,τ,Si⟩:=hq;exact⟨R,τ,ρ,Si,_,a,b⟩
theorem Gu(L:MN X S k Φ Ψ C y gl){g:Nat}(h:Ai S (.ret (.call g es)) st=true)(a:bX Φ es ρ=ok xs)(b:Ψ g (aC a_ xs)):PS X st (λ_ σ H=>∃R τ,SI X F R τ ρ σ H):=by
 obtain⟨z,v1,q1⟩:=bq h;obtain⟨pos,rfl⟩:=xj v1;obtain⟨v,v2,q2⟩:=bq q1;obtain rfl:z=some v:=v2;exact PS.imp (Mg (rW (F:=F) L q2)) λD σ H hq=>by obtain⟨R,τ,Si⟩:=hq;exact⟨R,τ,ρ,Si,_,a,b⟩
theorem Gw(L:MN X S k Φ Ψ C y gl){i g:Nat}(h:Ai S (.asg (.nm i) (.call g es)) st=true)(a:bX Φ es ρ=ok xs)(b:Ψ g (aC a_ xs)):PS X st (λ_ σ H=>∃R τ,SI X F R τ ρ σ H):=by
 obtain⟨⟨D9,v⟩,v1,q1⟩:=bq h;obtain⟨pos,rfl⟩:=kh v1;obtain⟨tg,v2,q2⟩:=bq q1;obtain rfl:D9=[tg]:=cf v2;obtain⟨q3,h4⟩:=aE q2;obtain⟨q4,h3⟩:=aE q3;obtain⟨h1,h2⟩:=aE q4;obtain⟨x,p,rfl⟩:∃x p,tg=.Name x p:=sh h2;have Ij:=aE (show _=true from h2);have hc:dY v=false:=by
  obtain⟨⟨x,as⟩,hv,_⟩:=bq h1;obtain⟨p,pos,rfl⟩:=bJ hv;rfl
 exact PS.imp (Mf L.ls.nd (by rw[L.ls.N];exact aab Ij.1) (L.ls.loc Ij.2) (L.ls.oK _) (rW (F:=F) L h1) (fR h1 hc _ _ _)) λD σ H hq=>by obtain⟨R,τ,Si⟩:=hq;exact⟨R,τ,ρ,Si,_,a,b⟩
mutual
theorem erS(L:MN X S k Φ Ψ C y gl):∀(c:CS) (st:Stmt),Ai S c st=true->xk gl n y c st=true->PS X st (nI X F (vj Φ Ψ n c))
 |.ex e,st,h,_=>Dj λρ hb=>by cases hb with|ex a b=>exact Mh L h a b
 |.ret e,st,h,_=>Dj λρ hb=>by cases hb with|ret a b=>exact Gu L h a b
 |.asg t e,st,h,_=>Dj λρ hb=>by cases hb with|asg a b=>exact Gw L h a b
 |.rs m,st,h,hk=>by
  by_cases hm:m=n
  ·subst hm;have hk:(!(m==m)||(gl&&Xr y st))=true:=hk;rw[beq_self_eq_true,Bool.not_true,Bool.false_or]at hk;obtain⟨hg,hk⟩:=aE hk;obtain⟨gy,dy⟩:=L.gy hg;obtain⟨e,v1,q1⟩:=bq hk;obtain⟨pos,rfl⟩:=I_ v1;obtain⟨⟨x,as⟩,v2,q2⟩:=bq q1;obtain⟨p,pos',rfl⟩:=bJ v2;obtain⟨q3,q4⟩:=aE q2;obtain⟨c,v3,q5⟩:=bq q4;obtain rfl:as=[c]:=cf v3;obtain⟨m',j,p',rfl⟩:=F3 q5;obtain rfl:x=y:=eq_of_beq q3;exact PS.imp (BK L.ls.calm L.own gy dy) λD σ H hq=>by
    obtain⟨R,τ,ρ,Si,hb⟩:=hq;exact λpins s h' ea us I CO=>L.hR pins _ H s h' ea us I Si.same CO
  ·exact jP λ_ hb=>by cases hb;exact absurd rfl hm
 |.ifs c a b,st,h,hk=>by
  obtain⟨⟨t,x,z⟩,v1,q1⟩:=bq h;obtain⟨pos,rfl⟩:=xn v1;obtain⟨q2,h3⟩:=aE q1;obtain⟨h1,h2⟩:=aE q2;obtain⟨k1,k2⟩:=aE (show(ze gl n y a x&&ze gl n y b z)=true from hk);refine PS.imp (BM (pos:=pos) (eR (F:=F) L.ls.toLk c t h1).2 (wN L a x h2 k1) (wN L b z h3 k2)) λD σ H hq=>?_;obtain⟨R,τ,ρ,Si,hb⟩:=hq;cases hb with
  |XX e1 e2=>exact⟨R,τ,ρ,true,Si,e1,λH2 es=>PJ ⟨R,τ,ρ,Si.go es,e2⟩⟩
  |iff e1 e2=>exact⟨R,τ,ρ,false,Si,e1,λH2 es=>PM ⟨R,τ,ρ,Si.go es,e2⟩⟩
 |.par _ _ _ _,st,h,_=>jP λ_ hb=>by cases hb
 |.mut _ _ _,st,h,_=>jP λ_ hb=>by cases hb
 |.app _ _,st,h,_=>jP λ_ hb=>by cases hb
 |.setI _ _ _,st,h,_=>jP λ_ hb=>by cases hb
 |.Hq _ _,st,h,_=>jP λ_ hb=>by cases hb
 |.fr t it b,st,h,hk=>by
  obtain⟨⟨tg,iter,x,z⟩,v1,q1⟩:=bq h;obtain⟨pos,rfl⟩:=xo v1;obtain⟨q2,h5⟩:=aE q1;obtain⟨q3,h4⟩:=aE q2;obtain⟨q4,h3⟩:=aE q3;obtain⟨h1,h2⟩:=aE q4;obtain rfl:z=[]:=kI h1;have hk:ze gl n y b x=true:=hk;cases it with
  |seq a =>
   have p1:=eG (F:=F) L.ls b x h5;have p2:=wN L b x h5 hk;exact Md L.ls h2 h3 λpins s σ H D I hq=>hq.elim (p1 pins s σ H D I) (p2 pins s σ H D I)
  |uc p cs =>
   obtain⟨wy,hz⟩:=aE h3;obtain⟨args,ha,Eb⟩:=bq hz;have p1:=eG (F:=F) L.ls b x h5;have p2:=wN L b x h5 hk;exact Gr L.ls h2 ha Eb wy (by rw[Bool.or_comm];exact h4) λpins s σ H D I hq=>hq.elim (p1 pins s σ H D I) (p2 pins s σ H D I)
  |iz a =>
   have p1:=eG (F:=F) L.ls b x h5;have p2:=wN L b x h5 hk;exact Gq L.ls h2 h3 λpins s σ H D I hq=>hq.elim (p1 pins s σ H D I) (p2 pins s σ H D I)
  |kA a c=>exact jP λ_ hb=>by cases hb with|fr _ _ h=>cases h
theorem wN(L:MN X S k Φ Ψ C y gl):∀(cs:ag) (qU:aZ),dP S cs qU=true->ze gl n y cs qU=true->fG X qU (nI X F (Er Φ Ψ n cs))
 |[],_,_,_=>λ_ _ _ _ _ _ bW=>by obtain⟨_,_,_,_,hb⟩:=bW;cases hb
 |_::_,[],h,_=>by exact(aac h).elim
 |c::cs,st::qU,h,hk=>by
  replace h:=aE h;obtain⟨k1,k2⟩:=aE (show(xk gl n y c st&&ze gl n y cs qU)=true from hk);have hN:fG X qU Jk:=λ_ _ _ _ _ _ z=>z.elim;have h1:PS X st (pq X F Φ c):=vO (F:=F) L.ls c st h.1;have A:fG X (st::qU) _:=dS (erS L c st h.1 k1) hN;have B:fG X (st::qU) _:=dS h1 (wN L cs qU h.2 k2);intro pins s σ H D I hq;obtain⟨R,τ,ρ,Si,hb⟩:=hq;cases hb with
  |hd e=>exact A pins s σ H D I ⟨R,τ,ρ,Si,e⟩
  |tl e1 e2=>exact B pins s σ H D I ⟨R,τ,ρ,(.nx,_),Si,e1,λσ' H' R' τ' dQ kp=>⟨R',τ',_,dQ,e2⟩⟩
end
end
theorem Me{w:World}{x:Str}{f:Addr}{fd:FuncData}{k n:Nat}{N bl:aq}{cs:List (Str×GK)}{px:Px}{oK:Nat->Option Str}{Φ:aT}{Ψ:Nat->aa->Prop}{mr:aa->Prop}{b:ag}{y:Str}
  (Fu:AK K x qual st f fd) (Sc:fq N ps (aL st)) (wB:dP ⟨aL st,N,oK,bl,cs,px⟩ b (bD st)=true) (Vj:ze (eM (aL st) y&&!(y==("__debug__" : Str))) n y b (bD st)=true) (wy:pZ px Φ) (K9:Ei px Φ)
  (uD:∀y∈bl,mg y=none) (pO:∀y i,(y,i)∈cs->∃u,mg y=some u/\Ay K i u) (vv:∀g y,oK g=some y->Ent P w K mg base k y (Φ g)) (Qw:∀g y,oK g=some y->(∃ds,Ψ g ds)->jz P w K mg base k C y (Ψ g))
  (O:pd y C mg base) (hm:∀ds,mr ds->ds.length=ps.length/\Er Φ Ψ n b (ds.map some++List.replicate (N.length - ds.length) none)):f_ P w K mg base (s_ P w C) (k+1) f fd ps (RU K C ps.length mr):=by
 refine WJ (N:=N) Fu Sc (λvs H Q E ⟨_,_,h,_⟩=>h) λgx A outer s H vs Q E hr vq=>?_;obtain⟨F,ds,hl,rs,hmr,hE⟩:=vq;obtain⟨Sw,Qy⟩:=hm ds hmr
 let X:=i8 (s_ P w C) P w K mg base N qual (aL st) f gx A outer s H E
 have Ls:j3 X ⟨aL st,N,oK,bl,cs,px⟩ k Φ:=⟨⟨rfl,rfl,Sc.nd,rfl,hr,uD,λg y h=>⟨(vv g y h).ex⟩,pO,wy⟩,λ_=>rfl,PassesOwn.leaving,Sc.kind,K9⟩
 have hpl:ps.length<=N.length:=by have:=aaS List.length Sc.pre;rw[List.length_take]at this;left
 have Lx:MN X ⟨aL st,N,oK,bl,cs,px⟩ k Φ Ψ C y (eM (aL st) y&&!(y==("__debug__" : Str))):=⟨Ls,λpins σ H1 s1 h' ea vs I es CO=>Fg I CO (hE H1 es),O1 λH' h=>hE H' h.2,Qw,λz=>⟨Ls.gl (aE z).1,by simpa using (aE z).2⟩,O⟩
 exact⟨_,wN (F:=F) Lx b _ wB Vj,_,_,_,tO (X:=X) rfl (by left) rs,Qy⟩
section
variable {X:Cx}{S:Sx}{k n:Nat}{Φ:aT}{Ψ:Nat->aa->Prop}{F:aj}{C B:Addr}
end
def MQ(X:Cx)(F:aj)(T:aX->D->Prop):TS:=λE σ H=>∃R τ ρ r,SI X F R τ ρ σ H/\T ρ r/\∀v H',aM X.H₀ H'->sP X F H' v r->E.rt v H'
def gq(T:aX->D->Prop)(r:D):Fo×aX->Prop
 | (.nx,ρ')=>T ρ' r
 | (.rt d,_)=>d=r
 |_=>False
section
variable {X:Cx}{S:Sx}{k:Nat}{Φ:aT}{F:aj}{T:aX->D->Prop}
theorem rg(L:j3 X S k Φ){tr:aZ}(hT:fG X tr (MQ X F T)):∀(pre:ag) (tp:aZ),dP S pre tp=true->fG X (tp++tr) (λE σ H=>∃R τ ρ r fo,SI X F R τ ρ σ H/\bp Φ pre ρ=ok fo/\gq T r fo/\∀v H',aM X.H₀ H'->sP X F H' v r->E.rt v H')
 |[],[],_=>fG.imp hT λE σ H bW=>by obtain⟨R,τ,ρ,r,fo,Si,ev,hp,hq⟩:=bW;cases ev;exact⟨R,τ,ρ,r,Si,hp,hq⟩
 |[],_::_,h=>by exact(aac h).elim
 |_::_,[],h=>by exact(aac h).elim
 |c::cs,st::qU,h=>by
  replace h:=aE h;refine fG.imp (dS (vO (F:=F) L c st h.1) (rg L hT cs qU h.2)) λE σ H hq=>?_;obtain⟨R,τ,ρ,r,fo,Si,ev,hp,hq⟩:=hq;obtain⟨⟨f1,ρ1⟩,e1,ev⟩:=aJ ev;refine⟨R,τ,ρ,(f1,ρ1),Si,e1,?_⟩;cases f1 with
  |nx=>exact λσ' H' R' τ' dQ kp=>⟨R',τ',ρ1,r,fo,dQ,ev,hp,hq⟩
  |bk=>cases ev;exact hp.elim
  |ct=>cases ev;exact hp.elim
  |rt d=>cases ev;obtain rfl:d=r:=hp;exact hq
open Classical in
end
section
variable {X:Cx}{S:Sx}{k n:Nat}{Φ:aT}{Ψ:Nat->aa->Prop}{F:aj}{C B:Addr}
def o_(CX:vy)(X:Cx)(σ:St)(E:XK):Prop:=∀(pins:ak) (H:Hp) (s:Shared) (e:Value) (s':Shared),Inv X pins σ H s->CX X.stack H s E e s'->X.xe e s'
theorem Fd{CX:vy}{f:Addr}{fd:FuncData}{sp:Sp}{eQ:af}{ds:ao}{E:XK}{pins:ak}{s:Shared}{Q:VK}{us:ao}(Fo:f_ X.prog X.w X.K X.mg X.base CX k f fd ps sp)(hr:f9 k X.A)(hb:Binds X.K fd ps ds)(hd:Vals eQ ds)(hx:o_ CX X σ E)
  (I:Inv X pins σ H s) (r:Vals vs us) (h:sp (vs++eQ) H Q E):wpAny (model X.prog X.w) X.A (call (.ref f) us) (EP X pins σ Q) X.xe s:=by
 have r2:Vals (vs++eQ) (us++ds):=r.append hd;have hl:(us++ds).length=ps.length:=by rw[<- r2.length];exact Fo.len _ _ _ _ h
 refine wpAny_call (abo (Fo.run X.A X.stack s H ⟨us,[]⟩ (us++ds) (vs++eQ) Q E hr I.Rf (hb s us I.wk hl) r2 h) λr s' hq=>?_);cases r with
 |error e=>exact hx pins H s e s' I hq
 |ok fl =>
  cases fl with
  |ret u=>exact I.after hq
  |next=>exact False.elim hq
  |brk=>exact False.elim hq
  |cont=>exact False.elim hq
theorem G5(L:Lk X S k Φ)(fe:∀g x,S.fn g=some x->(∃ds,Ψ g ds)->jz X.prog X.w X.K X.mg X.base k C x (Ψ g)){g:Nat}{e:Expr}(h:bT S (.call g es) e=true){pins:ak}{s:Shared}{Q:VK}{R:aj}{τ:Addr->Option bt}  
  (hx:o_ (s_ X.prog X.w C) X σ (λc _ H'=>c=.ref C/\aM H H')) (I:Inv X pins σ H s) (Si:SI X F R τ ρ σ H) (e1:bX Φ es ρ=ok xs) (e2:Ψ g (aC a_ xs)):wpAny (model X.prog X.w) X.A (eval e X.env) (EP X pins σ Q) X.xe s:=by
 obtain⟨⟨x,as⟩,hv,q1⟩:=bq h;obtain⟨p,pos,rfl⟩:=bJ hv;obtain⟨q2,q3⟩:=aE q1;obtain⟨q4,h3⟩:=aE q2;obtain⟨h1,h2⟩:=aE q4;obtain⟨⟨a,DZ⟩,hu,h4⟩:=bq q3;obtain rfl:as=a::DZ:=qR hu;obtain⟨f,fd,ps,Fo,hm,hk,hb,hl⟩:=(fe g x (aab h1) ⟨_,e2⟩).ex;unfold iV at h3;simp only[Bool.and_eq_true,Bool.not_eq_true']at h3;have me:∀r,starEach (a::r) X.env=(false,eval a X.env)::starEach r X.env:=λr=>by
  cases es with
  |nil=>exact(aac h4).elim
  |cons c cs=>exact bz (aE h4).1 r _
 have hpl:(backTo pos (starEach DZ X.env)).any (·.1)=false:=by
  cases es with
  |nil=>exact(aac h4).elim
  |cons c cs=>exact vZ (aE h4).2
 have Sw:xs.length=ps.length:=by have:=hl _ e2;rw[aP,List.length_map]at this;exact this
 refine aaG (mW I (L.gl h2) hm ?_ h3.1.1);refine PySem.W.callWith_K (h₀:=X.base) I.ok.mod.Sn hk (cW (ku (F:=F) L es (a::DZ) h4 pos pins s σ H (λvs H2=>RU X.K C ps.length (Ψ g) (vs++[]) H2 Q λc _ H'=>c=.ref C/\aM H H') I ⟨R,τ,ρ,xs,Si,e1,λY_ H2 WI rv=>?_⟩) λus s1 ⟨vs,H1,I1,r,q⟩=>⟨I1.wk,?_⟩) (me _) hpl
 ·obtain⟨τt,ft,OG⟩:=rv;rw[List.append_nil];refine⟨λ_=>True,aC a_ xs,by rw[OG.length,Sw],aI.hJ (λ_ _ h=>h) (λk k' p xs f h=>?_) OG _ _,e2,λH' e'=>⟨rfl,WI.trans e'⟩⟩;cases f with
  |ow=>exact⟨h.1,trivial⟩
  |fz=>exact⟨h.1,trivial⟩
  |al=>exact⟨h.1,trivial⟩
  |sc=>exact h
 ·exact Fd Fo L.room hb .nil hx I1 r q
end
section
variable {X:Cx}{C B:Addr}{x n y:Str}{i j:Nat}
theorem v9{M:Model}{pins:ak}{s:Shared}(I:Inv X pins σ H s)(hl:X.env.kindOf n=some .local)(nd:X.N.Nodup)(hi:X.N[i]?=some n)
  (h:∀s',Inv X pins (σ.set i none) H s'->Q () s'):wpAny M A (do bindName X.env n .none;unbindBehindTheSuite X.env n pos) Q E s:=by
 obtain⟨m,hn,VH⟩:=id I.loc;have wz:(X.env.scope.kind==.class||(X.env.scope.kind==.module&&X.env.locals != X.env.globals))=false:=by rw[I.ok.kind];rfl
 refine wpAny_nameGoes_keeps hl hn wz λh' u sW hs=>h _ ?_;have tracked:jb X.prog X.w H h':=λb ob e=>by
  refine(I.cm b ob e).iJ (λc w' hc q=>(hs.2 c ?_).trans q) (λ_ q=>q) λ_ _ q=>q;rintro rfl;rcases hc with rfl|hc
  ·rw[I.free]at e;cases e
  ·rw[I.free]at hc;cases hc
 refine⟨I.ok,I.os,I.bare,⟨λb o e n hb hx=>?_,λb o e n hb hx=>?_,I.base.free,λb o e hx=>?_,I.base.lq,I.base.kR,I.base.lr⟩,⟨_,sW,λk z v' e1 e2 e3=>?_⟩,λz c e=>?_,I.free,I.e_,λp hp=>?_,tracked,by rw[List.length_set];exact I.len⟩
 ·exact(hs.2 b (aak (aai (aae e) I.ok.above))).trans (I.base.keep b o e n hb hx)
 ·obtain⟨sl,e1⟩:=I.base.slot b o e n hb hx;exact⟨sl,(hs.2 b (aak (aai (aae e) I.ok.above))).trans e1⟩
 ·obtain⟨o',e1⟩:=I.base.there b o e hx;exact⟨o',(hs.2 b (aak (aai (aae e) I.ok.above))).trans e1⟩
 ·have X_:k≠i:=by
   rintro rfl;by_cases hk:k<σ.length
   ·rw[List.getElem?_set_self hk]at e2;cases e2
   ·rw[List.getElem?_eq_none (by rw[List.length_set];left)]at e2;cases e2
  rw[List.getElem?_set_ne (Ne.symm X_)]at e2;have hzn:z≠n:=by
   rintro rfl;exact X_ ((List.getElem?_inj (List.getElem?_eq_some_iff.mp e1).1 nd).mp (e1.trans hi.symm))
  obtain⟨u',r',q⟩:=VH k z _ e1 e2 e3;refine⟨u',r',?_⟩;rcases q with ⟨kk,e⟩|⟨kk,c,e,z'⟩
  ·exact .inl ⟨kk,by show(if z=n then u else m z)=_;rw[if_neg hzn];exact e⟩
  ·exact .inr ⟨kk,c,e,z'.sameBut hs (I.DK z c e)⟩
 ·obtain⟨w',z'⟩:=I.cell z c e;exact⟨w',z'.sameBut hs (I.DK z c e)⟩
 ·obtain⟨e,n,ne,nf,d⟩:=I.pin p hp;exact⟨(hs.2 p.1 ne).trans e,n,ne,nf,d⟩
theorem Jg{pins:ak}{s:Shared}{D:L2.Ends}(CK:X.stack=X.env::X.outer)(Ie:X.env.frame=some X.env.locals)(O:pd x B X.mg X.base)(OS:lU C B X.base)(hg:Gl X x)(hd:(x==("__debug__" : Str))=false)
  (nd:X.N.Nodup) (hi:X.N[i]?=some n) (hj:X.N[j]?=some y) (iA:i≠j) (sX:X.env.scope.names.lookup n=some .local) (Qq:X.env.scope.names.lookup y=some .local) (dn:(n==("__debug__" : Str))=false) (dc:(n==("__classdict__" : Str))=false)
  (K6:swapsWith (.Name n p2) (some (.Name y p1)) p3.line (X.env)=pure false) (I:Inv X pins σ H s)
  (hb:∀vk,o_ (s_ X.prog X.w C) (Cx.kl X pins vk) σ (λc _ H'=>c=.ref C/\aM H H')->wpAny (model X.prog X.w) X.A (execs body X.env) (SP (Cx.kl X pins vk) [] ⟨λ_ _=>False,λ_ _=>False,λ_ _=>False,λ_ _=>False⟩) vk s)
  (hh:∀ea H',aM H H'->H' ea=none->D.nx ((σ.set i none).set j (some (.ref ea))) (upd H' ea (.ext (xg ea C)))) :
  wpAny (model X.prog X.w) X.A (exec (.Try body [.ExceptHandler (some (.Name x np)) (some n) [.Assign [.Name y p1] (.Name n p2) p3] hpos] [] [] pos) X.env) (SP X pins D) X.xe s:=by
 have ok:=I.ok;refine wpAny_Try_except ?_;refine aau (hb (λe s₁=>wpAny (model X.prog X.w) X.A (noteFrame e X.env) (λ_ s₂=>wpAny (model X.prog X.w) X.A (setFlight e none) (λ_ s₃=>wpAny (model X.prog X.w) X.A (handleBy e X.env [.ExceptHandler (some (.Name x np)) (some n) [.Assign [.Name y p1] (.Name n p2) p3] hpos]) (SP X pins D) X.xe s₃) X.xe s₂) X.xe s₁) ?_) (λf s₁ q=>?_) (λ_ _ q=>q)
 ·intro ua H1 s1 e s2 I1 hx;obtain⟨ea,H',rfl,fl,he⟩:=hx;obtain⟨n1,n2⟩:=fl.new;obtain⟨⟨t,B,fw,AI⟩,os,bare,un,cm⟩:=fl;have I1:Inv X pins σ H1 s1:=fD I1;have fw:Heap.FlyingW B (X.env::X.outer) ea (.ref C) (.ref t) s2.heap:=CK▸fw;have LH:X.A.frames=some (X.env::X.outer):=CK▸I1.ok.frames;show wpAny (model X.prog X.w) X.A (noteFrame (.ref ea) X.env) _ X.xe s2;refine wpAny_looks_onW LH Ie fw λh4 held Ub=>?_;refine wpAny_landsW held λh5 LD Ua=>?_;obtain⟨NX,CN,MA⟩:=moved un cm AI I1.stack I1.gY LD.1 (Ub.trans Ua);have I5:Inv X pins σ H' { s2 with heap:=h5 }:=I1.qH (ch:=[]) os NX CN bare λ_ z=>nomatch z;refine wpAny_handleBy_cons (codeAny_handlers_test (aaZ I5.ok.kind hg (aby (by rw[I5.ok.glob];exact I5.mod.glob.keeps I5.bk) O.bound ?_) hd)) (by intro q;cases q);obtain⟨bm,ZZ,nm,qn,bs,hdct,sn,sub,ab,col,dd,k0,k1,k2,k3,k5,mN,hB,_,_,TL⟩:=(O.keeps I5.bk).obj;obtain⟨Z0,q2,N2,bs2,bm2,QA,ZF,T7,ab2,WN,vx,l0,l1,l2,l3,l5,id2,hC,Ga⟩:=OS;have hC:=I5.bk _ _ hC;obtain⟨ob,VB,Ld⟩:=LD.there;refine uM hC hB VB Ld (TL.hasType (by decide +kernel)) Ga (codeAny_handlers_suite_as ?_);refine lands_againW LD λh6 Q5 T_=>?_;obtain⟨Tt,Lb,WL⟩:=moved NX CN MA I1.stack I1.gY Q5.1 T_;obtain⟨Ts,La⟩:=tracked (C:=C) Tt Lb n1 n2 Q5.there;have I7:Inv X pins σ (upd H' ea (.ext (xg ea C))) { s2 with heap:=h6 }:=I1.qH (s':={ s2 with heap:=h6 }) (ch:=[]) os Ts La bare λ_ z=>nomatch z;have jN:i<σ.length:=by rw[I7.len];exact(List.getElem?_eq_some_iff.mp hi).1
  refine fI I7 nd hi (.inl sX) (v:=.ref ea) (u:=.ref ea) rfl (λs8 I8=>?_) (.inr sX)
  let X2:Cx:={ X with A:=X.A.mark (some (.ref ea)),calm:=false,xe:=AsSuiteRaised (model X.prog X.w) (X.A.mark (some (.ref ea))) X.env n hpos (notedBy (model X.prog X.w) (X.A.mark (some (.ref ea))) X.env (cameBackBy (model X.prog X.w) X.A X.env X.xe)) }
  have ps:fG X2 [.Assign [.Name y p1] (.Name n p2) p3] _:=kD (rl (X:=X2) (i:=j) nd hj (.inl Qq) (xY (X:=X2) (i:=i) (pos:=p2) hi (.inl sX) dn dc) K6 (hf:=.inr Qq));refine aau (ps pins s8 _ _ { nx:=λσ' ka=>ka=upd H' ea (.ext (xg ea C))/\σ'=(σ.set i (some (.ref ea))).set j (some (.ref ea)),rt:=λ_ _=>False } (uy I8 _ _) ⟨.ref ea,by rw[List.getElem?_set_self jN],rfl,rfl⟩) (λf s9 q9=>?_) (λ_ _ q=>q);cases f with
  |next =>
   obtain⟨σ9,H9,I9,rfl,rfl⟩:=q9;have I9:=ox ok I9;refine v9 I9 sX nd hi λZI Ta=>⟨_,_,?_,hh ea H' he.2 n1⟩
   rw[List.set_comm _ _ (Ne.symm iA),List.set_set]at Ta;exact Ta
  |ret v=>obtain⟨_,_,_,_,_,z⟩:=q9;exact z.elim
  |brk=>obtain⟨_,_,_,z⟩:=q9;exact z.elim
  |cont=>obtain⟨_,_,_,z⟩:=q9;exact z.elim
 ·cases f with
  |next=>obtain⟨_,_,_,z⟩:=q;exact z.elim
  |ret v=>obtain⟨_,_,_,_,_,z⟩:=q;exact z.elim
  |brk=>obtain⟨_,_,_,z⟩:=q;exact z.elim
  |cont=>obtain⟨_,_,_,z⟩:=q;exact z.elim
end
def T3(Φ:aT)(Ψ:Nat->aa->Prop)(i j i0 g:Nat)(es:aF)(tc:CE)(T:aX->D->Prop)(ρ:aX)(r:D):Prop :=
 (∃ρ1,iC Φ (.asg (.nm i0) (.call g es)) ρ=ok (.nx,ρ1)/\uN Φ tc ρ1=ok false/\T ρ1 r) \/
 (∃xs,bX Φ es ρ=ok xs/\Ψ g (aC a_ xs)/\uN Φ tc ((ρ.set i none).set j none)=ok true/\r=.bl true)
section
variable {X:Cx}{S:Sx}{k n:Nat}{Φ:aT}{Ψ:Nat->aa->Prop}{F R:aj}{C B:Addr}{τ:Addr->Option bt}{ρ:aX}{σ:St}{H:Hp}
theorem SI.forget{i:Nat}{w:Option V}(S:SI X F R τ ρ σ H):SI X F R τ (ρ.set i none) (σ.set i w) H:=by
 refine⟨by simp[S.len],λj d hj=>?_,S.rt,S.rh,S.rf,S.th,S.t0,S.same⟩;have iA:i≠j:=by
  rintro rfl;by_cases h:i<ρ.length
  ·rw[List.getElem?_set_self h]at hj;cases hj
  ·rw[List.getElem?_eq_none (by rw[List.length_set];left)]at hj;cases hj
 rw[List.getElem?_set_ne iA]at hj ⊢;exact S.rep j d hj
theorem SI.Je{pn:ak}(S:SI (Cx.kl X pn E) F R τ ρ σ H):SI X F R τ ρ σ H:=⟨S.len,S.rep,S.rt,S.rh,S.rf,S.th,S.t0,S.same⟩
theorem MG(L:Lk X S k Φ)(fT:∀x,X.fn x=true){i:Nat}{e:CE}{x:Str}{p:Pos}{v:Expr}(he:bT S e v=true)(hn:hZ S i (.Name x p)=true)(hc:dY v=false):PS X (.Assign [.Name x p] v pos) (pq X F Φ (.asg (.nm i) e)):=by
 have h2:=aE (show _=true from hn);have hl:L2.Loc X.env.scope x:=by
  have:=h2.2;unfold FU at this;unfold L2.Loc;rw[L.sc];rcases(Bool.or_eq_true _ _).mp this with z|z
  ·exact .inl (aab z)
  ·exact .inr (aab z)
 refine PS.imp (vW (nN (F:=F) L e v he) (mR (pos:=p) L.nd (by rw[L.N];exact aab h2.1) hl (.inl (fT x))) (show swapsWith v (some (.Name x p)) pos.line X.env=pure false from fR he hc _ _ _) (by cases v<;>rfl) rfl) λD σ H hq=>?_;obtain⟨R,τ,ρ,r,Si,ev,hq⟩:=hq;obtain⟨r1,uO,ev⟩:=aJ ev;obtain⟨ρ',eρ,ev⟩:=aJ ev;cases ev;refine⟨R,τ,ρ,r1,Si,uO,λv H' R' τ' es hR dQ rk=>?_⟩;simp only[bQ]at eρ;split at eρ
 ·rename_i hi;cases eρ;obtain⟨jI,sM⟩:=dQ.set rk hi;exact hq _ H' R' jI sM (Kp.of es hR)
 ·cases eρ
theorem Kr{share ex kept xf:Str}{cl:Str->Option Bool}{i j i0 g:Nat}{tc:CE}{T:aX->D->Prop}{tp:aZ}{v te ie:Expr}(L:j3 X S k Φ)(hk:X.stack=X.env::X.outer)(hf:X.env.frame=some X.env.locals)(O:pd share B X.mg X.base)(OS:lU C B X.base)(gs:Gl X share)(ds:(share==("__debug__" : Str))=false)
  (hi:X.N[i]?=some ex) (hj:X.N[j]?=some kept) (yt:kept≠ex) (lx:X.env.scope.names.lookup ex=some .local) (lk:X.env.scope.names.lookup kept=some .local) (dx:DG ex=true) (dk:DG kept=true) (fe:∀g x,S.fn g=some x->(∃ds,Ψ g ds)->jz X.prog X.w X.K X.mg X.base k C x (Ψ g))
  (Z:RM X C cl) (hie:F5 kept cl ie=some true) {AA:Pos} (hv:bT S (.call g es) v=true) (hc:dY v=false) (h0:hZ S i0 (.Name xf AA)=true) (ht:bT S tc te=true) (S4:fG X tp (MQ X F T)):∀{q0 np p1 p2 p3 hpos pos rp ip:Pos},fG X (.Try [.Assign [.Name xf AA] v q0] [.ExceptHandler (some (.Name share np)) (some ex) [.Assign [.Name kept p1] (.Name ex p2) p3] hpos] [] [] pos::.If te [.Return (some ie) rp] [] ip::tp)
   (MQ X F (T3 Φ Ψ i j i0 g es tc T)):=by
 intro q0 np p1 p2 p3 hpos pos rp ip;unfold DG at dx dk;simp only[Bool.and_eq_true,Bool.not_eq_true']at dx dk;have iA:i≠j:=λe=>yt (aap (hj.symm.trans (e▸hi)));have Ys:=aE (show _=true from h0);have hl0:L2.Loc X.env.scope xf:=L.loc Ys.2;have hi0:X.N[i0]?=some xf:=by rw[L.N];exact aab Ys.1
 have Lt:∀pn vk,Lk (Cx.kl X pn vk) S k Φ:=λpn vk=>⟨L.sc,L.N,L.nd,L.calm,L.room,L.bl,λf x h=>⟨(L.fn f x h).ex⟩,L.cs,L.pr⟩
 have G:=Fs (X:=X) (C:=C) (B:=B) (body:=[.Assign [.Name xf AA] v q0]) (tb:=λD σ H=>∃R τ ρ ρ1,SI X F R τ ρ σ H/\iC Φ (.asg (.nm i0) (.call g es)) ρ=ok (.nx,ρ1)/\∀σ' H' R' τ',SI X F R' τ' ρ1 σ' H'->D.nx σ' H') (i:=i) (j:=j) (E1:=λ_ _ _=>False) (np:=np) (p1:=p1) (p2:=p2) (p3:=p3) (hpos:=hpos) (pos:=pos) hk hf O OS gs ds L.nd hi hj yt lx lk dx.1 dx.2 rfl
  λpn vk _=>fG.imp (kD (MG (F:=F) (pos:=q0) (Lt pn vk) (λx=>L.oK x) hv h0 hc)) λD σ H ⟨R,τ,ρ,ρ1,Si,ev,hq⟩=>⟨R,τ,ρ,_,Si.kl,ev,λσ' H' R' τ' dQ _=>hq σ' H' R' τ' dQ.Je⟩
 have W:PS X (.Try [.Assign [.Name xf AA] v q0] [.ExceptHandler (some (.Name share np)) (some ex) [.Assign [.Name kept p1] (.Name ex p2) p3] hpos] [] [] pos) (λD σ H=>∃R τ ρ xs,SI X F R τ ρ σ H/\bX Φ es ρ=ok xs/\Ψ g (aC a_ xs)/\∀ea H',aM H H'->H' ea=none->D.nx ((σ.set i none).set j (some (.ref ea))) (upd H' ea (.ext (xg ea C)))):=by
  intro pins s σ H D I hw;obtain⟨R,τ,ρ,xs,Si,e1,e2,hh⟩:=hw;refine Jg hk hf O OS gs ds L.nd hi hj iA lx lk dx.1 dx.2 rfl I (λvk hx=>?_) hh;have pe:PE (Cx.kl X pins vk) v (λσ' H' _=>σ'=σ/\H'=H):=by
   rintro ua s' σ' H' Q I' ⟨rfl,rfl⟩;exact G5 (F:=F) (Ψ:=Ψ) (C:=C) (Lt pins vk) fe hv hx I' Si.kl e1 e2
  exact kD (rl (X:=Cx.kl X pins vk) (i:=i0) (pos:=q0) (pos':=AA) L.nd hi0 hl0 pe (fR hv hc _ _ _) (hf:=.inl (L.oK xf))) [] s σ H _ (yp I vk) ⟨rfl,rfl⟩
 have S3:=BM (X:=X) (pos:=ip) (eR (F:=F) L.toLk tc te ht).2 (kD (vV (X:=X) (pos:=rp) (J3 Z (λp=>lD (pos:=p) hj (.inl lk) dk.1 dk.2) hie).1)) xR;intro pins s σ H D I hw;obtain⟨R,τ,ρ,r,Si,hT,hq⟩:=hw;rcases hT with ⟨ρ1,a1,a2,a3⟩|⟨xs,e1,e2,e3,rfl⟩
 ·refine dS G (dS S3 S4) pins s σ H D I ⟨⟨R,τ,ρ,ρ1,Si,a1,λσ' H' R' τ' dQ=>?_⟩,λ_ _ z=>z.elim⟩;exact⟨R',τ',ρ1,false,dQ,a2,λH2 e2=>PM ⟨R',τ',ρ1,_,dQ.go e2,a3,hq⟩⟩
 ·refine dS W (dS S3 S4) pins s σ H D I ⟨R,τ,ρ,xs,Si,e1,e2,λea H' Iq hn=>?_⟩;have sm:aM H (upd H' ea (.ext (xg ea C))):=Iq.trans (aM.upd hn);have pY:=((Si.go sm).forget (i:=i) (w:=none)).forget (i:=j) (w:=some (.ref ea));have hjl:j<((σ.set i none)).length:=by rw[List.length_set,I.len];exact(List.getElem?_eq_some_iff.mp hj).1
  refine⟨R,τ,_,true,pY,e3,λH2 e4=>PJ ⟨ea,by rw[List.getElem?_set_self hjl],?_,hq _ _ ?_ ⟨λ_=>none,λ_ _ h=>by simp at h,.bl true⟩⟩⟩
  ·exact e4 _ _ bj
  ·exact(Si.same.trans sm).trans e4
end
noncomputable def ux:Fl->Bool
 |.fz=>true
 |.al=>true
 |_=>false
def fP(o:av):av:=o.bind λd=>if ba ux d=true then none else some d
def qu(ρ:aX):aX:=ρ.map fP
section
variable {X:Cx}{S:Sx}{k:Nat}{Φ:aT}{F R:aj}{τ:Addr->Option bt}{ρ:aX}{σ:St}{H:Hp}
theorem SI.WQ{p:Addr}{xs:af}(Si:SI X F R τ ρ σ H)(hR:R p)(hp:H p=some (.lst xs))(h0:X.H₀ p=none):SI X F (λq=>R q/\q≠p) τ (qu ρ) σ (upd H p (.lst [])):=by
 have there:∀a,H a≠none->upd H p (.lst []) a≠none:=λa h=>by
  by_cases z:a=p
  ·rw[z,bj];simp
  ·rw[aS z];exact h
 refine⟨by unfold qu;rw[List.length_map];exact Si.len,λm d hm=>?_,λq h=>Si.rt q h.1,λq h=>there q (Si.rh q h.1),λq h=>Si.rf q h.1,λa q e=>there a (Si.th a q e),Si.t0,λa u e=>?_⟩
 ·unfold qu at hm;rw[List.getElem?_map]at hm;obtain⟨o,ho,e⟩:=Option.map_eq_some_iff.mp hm;unfold fP at e;obtain⟨d',AG,e1⟩:=Option.bind_eq_some_iff.mp e;subst AG;by_cases hf:ba ux d'=true
  ·rw[if_pos hf]at e1;cases e1
  rw[if_neg hf]at e1;cases e1;obtain⟨v,h1,h2⟩:=Si.rep m d ho;refine⟨v,h1,?_⟩;have:=Rep.gen (g:=id) (P:=ux) (T':=bh X.K (upd H p (.lst []))) (N':=nd X.K (λq=>R q/\q≠p) (λ_=>False) τ (upd H p (.lst []))) (C:=λa b=>a=b) (I:=λa b=>a=b) (λ_ _ h=>xD hp h) rfl (λ_ _ e=>by rw[e]) (λ_ _ _ _ e e'=>by rw[e,e']) (λc c' a n f ec hf h=>?_) h2 rfl (Bool.eq_false_iff.mpr hf)
  ·rw[dU]at this;exact this
  ·subst ec;cases f with
   |ow=>exact⟨h.1.at λu e=>by rw[aS λz=>by subst z;exact nomatch (Si.rt _ hR).symm.trans h.2];exact e,h.2⟩
   |fz=>cases hf
   |al=>cases hf
   |sc =>
    obtain⟨ys,rfl,h⟩:=h.Bs;exact h.elim (λ⟨o',w⟩=>.inl ⟨o',by rw[aS (λz=>by subst z;rw[hp]at w;cases w)];exact w⟩) .inr
 ·rw[aS (λz=>by subst z;rw[h0]at e;cases e)];exact Si.same a u e
def TC(Φ:aT)(i:Nat)(c:CE)(post:ag)(ρ:aX)(r:D):Prop:=∃(k:Int) (ds gs:aa) (ρ2:aX),bx Φ c ρ=ok (.int k)/\0<=k/\ρ[i]?=some (some (.lst .fz ds))/\ds[k.toNat]?=some (.lst .fz gs)/\bp Φ post (qu ρ)=ok (.rt r,ρ2)
theorem G0(L:j3 X S k Φ)(hF:∀p,¬ F p){x:Str}{ke:Expr}{i:Nat}{c:CE}(he:oV S.sc S.bl st=some (.Name x pos,[ke]))(hn:hZ S i (.Name x pos)=true)(hd:iV x=true)(hc:bH S [c] [ke]=true){post:ag}{tp:aZ}(hp:dP S post tp=true):fG X (st::tp) (MQ X F (TC Φ i c post)):=by
 obtain⟨ke',p0,p1,p2,pos',e0,rfl,sX⟩:=Ak he;cases e0;have hs:=iR (F:=F) L.toLk [c] [ke] hc;have h2:=aE (show _=true from hn);have AG:(x==("__debug__" : Str))=false/\(x==("__classdict__" : Str))=false:=by
  unfold iV at hd;simp only[Bool.and_eq_true,Bool.not_eq_true']at hd;exact⟨hd.1.1,hd.1.2⟩
 have pe:PE X (.Name x pos) (tI i):=lD (by rw[L.N];exact aab h2.1) ((L.loc h2.2).elim .inl λz=>.inr (.inl z)) AG.1 AG.2;refine fG.imp (dS (kE (pos:=pos') (J5 abA PySem.F.slot_list_clear PySem.F.type_list_clear Ci (BZ (yk.or Cy) pe hs.1 hs.2.2.1) (hline:=sX))) (eG (F:=F) L post tp hp)) λD σ H hq=>?_;obtain⟨R,τ,ρ,r,Si,⟨k,ds,gs,ρ2,ey,hk,ho,hg,ev⟩,hq⟩:=hq;obtain⟨v,hv,_⟩:=Si.rep i _ ho;refine⟨v,hv,tD.intro Si ey λu H1 e1 ru=>?_⟩;cases ru.isInt;have o4:=Si.go e1;obtain⟨v',P_,rv⟩:=o4.rep i _ ho;rw[hv]at P_;cases P_;obtain⟨a,xs,rfl,sW,rs⟩:=rv.pB;obtain⟨w,hw,lb⟩:=rs.get hg;obtain⟨p,zs,rfl,oB,_⟩:=lb.pB;have fZ:k.toNat<xs.length:=by
  by_cases z:k.toNat<xs.length
  ·exact z
  ·rw[List.getElem?_eq_none (by left)]at hw;cases hw
 have h4:IH xs k=some (.ref p):=by
  unfold IH L2.sV;rw[if_pos hk,if_pos (by left)];exact hw
 have Ij:H1 p=some (.lst zs):=oB.1;have pY:=o4.WQ oB.2 Ij ((o4.rf p oB.2).elim (λz=>(hF p z).elim) id);exact .inl ⟨a,xs,k,_,rfl,rfl,sW.sq,h4,.inl ⟨rfl,_,dz.of Ij⟩,p,zs,rfl,rfl,Ij,_,τ,_,_,pY,ev,hq⟩
end
end DI
end
section
namespace DI
open PySem (Str)
section
variable {α β:Type}
@[simp]theorem cH(a:α)(f:α->O β):bd (ok a) f=f a:=rfl
@[simp]theorem SW(c:Nat)(f:α->O β):bd (some (.error c)) f=some (.error c):=rfl
noncomputable def II(f:α->O β)(x:O α):O β:=bd x f
@[simp]theorem WY(f:α->O β)(a:α):II f (ok a)=f a:=rfl
@[simp]theorem S5(f:α->O β)(c:Nat):II f (some (.error c))=some (.error c):=rfl
end
def Rx(op:Hn)(x y:O D):O D:=bd x λx=>bd y λy=>cT op x y
@[simp]theorem SV(op:Hn)(x y:D):Rx op (ok x) (ok y)=cT op x y:=rfl
def Ro(op:AL)(x y:O D):O D:=bd x λx=>bd y λy=>cK op x y
@[simp]theorem GY(op:AL)(x y:D):Ro op (ok x) (ok y)=cK op x y:=rfl
def XT(x y:O D):O D:=bd x λx=>bd y λy=>wm x y
@[simp]theorem U4(x y:D):XT (ok x) (ok y)=wm x y:=rfl
def Pd(x:O D):O D:=bd (bd x iI) λb=>ok (.bl (!b))
@[simp]theorem Sh(b:Bool):Pd (ok (.bl b))=ok (.bl (!b)):=rfl
@[simp]theorem N0(b:Bool):iI (.bl b)=ok b:=rfl
def pE(x:O D):O Bool:=bd x iI
@[simp]theorem EC(b:Bool):pE (ok (.bl b))=ok b:=rfl
@[simp]theorem NZ(c:Nat):pE (some (.error c))=some (.error c):=rfl
def XU(t:Ty)(x:O D):O D:=bd x λx=>ok (.bl (eU t x))
@[simp]theorem U_(t:Ty)(x:D):XU t (ok x)=ok (.bl (eU t x)):=rfl
def DT(m:aw)(xs:O (aa)):O D:=bd xs λxs=>bd (m (aC a_ xs)) λr=>ok (aY i4 r)
def Wj(x:O D):O D:=bd x λr=>ok (aY i4 r)
@[simp]theorem Wi(r:D):Wj (ok r)=ok (aY i4 r):=rfl
@[simp]theorem SG(c:Nat):Wj (some (.error c))=some (.error c):=rfl
@[simp]theorem Ru(m:aw)(xs:aa):DT m (ok xs)=Wj (m (aC a_ xs)):=rfl
@[simp]theorem NB(m:aw)(c:Nat):DT m (some (.error c))=some (.error c):=rfl
noncomputable def yR(x:O D)(xs:O (aa)):O (aa):=bd x λx=>bd xs λxs=>ok (x::xs)
@[simp]theorem Rn(x:D)(xs:aa):yR (ok x) (ok xs)=ok (x::xs):=rfl
@[simp]theorem Ny(c:Nat)(xs:O (aa)):yR (some (.error c)) xs=some (.error c):=rfl
@[simp]theorem MB(x:D)(c:Nat):yR (ok x) (some (.error c))=some (.error c):=rfl
noncomputable def PL(x:O Bool)(a b:O D):O D:=bd x λk=>if k then a else b
@[simp]theorem U7(a b:O D):PL (ok true) a b=a:=rfl
@[simp]theorem U8(a b:O D):PL (ok false) a b=b:=rfl
def He(x y:O D):O D:=bd (bd x iI) λc=>if c then y else ok (.bl false)
@[simp]theorem WZ(y:O D):He (ok (.bl true)) y=y:=rfl
@[simp]theorem W0(y:O D):He (ok (.bl false)) y=ok (.bl false):=rfl
@[simp]theorem W2(a b:Bool):He (ok (.bl a)) (ok (.bl b))=ok (.bl (a&&b)):=by cases a<;>rfl
def Se(x y:O D):O D:=bd (bd x iI) λc=>if c then ok (.bl true)else y
@[simp]theorem Xu(y:O D):Se (ok (.bl true)) y=ok (.bl true):=rfl
@[simp]theorem Xv(y:O D):Se (ok (.bl false)) y=y:=rfl
@[simp]theorem Xw(a b:Bool):Se (ok (.bl a)) (ok (.bl b))=ok (.bl (a||b)):=by cases a<;>rfl
def Cu(x:O D):O D:=bd (bd x iI) λc=>ok (.bl c)
@[simp]theorem PB(c:Bool):Cu (ok (.bl c))=ok (.bl c):=rfl
@[simp]theorem Oy(d:D):xH (some (some d))=ok (aY bB d):=rfl
section
variable (Φ:aT)(ρ:aX)
@[simp]theorem YF:bx Φ .bu ρ=ok .bu:=rfl
@[simp]theorem abr(b:Bool):bx Φ (.bl b) ρ=ok (.bl b):=rfl
@[simp]theorem Ds(i:Int):bx Φ (.int i) ρ=ok (.int i):=rfl
@[simp]theorem YL(x:Str)(i:Int):bx Φ (.glo x i) ρ=ok (.int i):=rfl
@[simp]theorem YK(x:Str)(zs:ae):bx Φ (.glt x zs) ρ=ok (.tup (zs.map D.int)):=rfl
@[simp]theorem e_v(i:Nat):bx Φ (.v i) ρ=xH ρ[i]?:=rfl
@[simp]theorem YM(op:Hn)(a b:CE):bx Φ (.bin op a b) ρ=Rx op (bx Φ a ρ) (bx Φ b ρ):=rfl
@[simp]theorem yM(op:AL)(a b:CE):bx Φ (.cmp op a b) ρ=Ro op (bx Φ a ρ) (bx Φ b ρ):=rfl
@[simp]theorem YH(a:CE):bx Φ (.neg a) ρ=II FN (bx Φ a ρ):=rfl
@[simp]theorem YE(a:CE):bx Φ (.not a) ρ=Pd (bx Φ a ρ):=rfl
@[simp]theorem YJ(a:CE)(t:Ty):bx Φ (.vp a t) ρ=XU t (bx Φ a ρ):=rfl
@[simp]theorem WD(f:Nat)(es:aF):bx Φ (.call f es) ρ=DT (Φ f) (bX Φ es ρ):=rfl
@[simp]theorem abt(f:Bf)(es:aF):bx Φ (.bf f es) ρ=II (nc f) (bX Φ es ρ):=rfl
@[simp]theorem YB(f:Nat)(es:aF):bx Φ (.dj f es) ρ=II (Φ f) (bX Φ es ρ):=rfl
@[simp]theorem WB(a b:CE):bx Φ (.ix a b) ρ=XT (bx Φ a ρ) (bx Φ b ρ):=rfl
@[simp]theorem WA(a:CE):bx Φ (.jx a) ρ=II yg (bx Φ a ρ):=rfl
@[simp]theorem YA(es:aF):bx Φ (.tup es) ρ=II (λxs=>ok (.tup xs)) (bX Φ es ρ):=rfl
@[simp]theorem YI(es:aF):bx Φ (.lst es) ρ=II (λxs=>ok (.lst .ow xs)) (bX Φ es ρ):=rfl
@[simp]theorem Rh(es:aF):bx Φ (.and es) ρ=qx Φ es ρ:=rfl
@[simp]theorem abq(es:aF):bx Φ (.or es) ρ=Ad Φ es ρ:=rfl
@[simp]theorem Mq(e:CE):qx Φ [e] ρ=Cu (bx Φ e ρ):=rfl
@[simp]theorem Dt(e e':CE)(es:aF):qx Φ (e::e'::es) ρ=He (bx Φ e ρ) (qx Φ (e'::es) ρ):=rfl
@[simp]theorem YD(e:CE):Ad Φ [e] ρ=Cu (bx Φ e ρ):=rfl
@[simp]theorem YC(e e':CE)(es:aF):Ad Φ (e::e'::es) ρ=Se (bx Φ e ρ) (Ad Φ (e'::es) ρ):=rfl
@[simp]theorem YG:bX Φ [] ρ=ok []:=rfl
@[simp]theorem WC(e:CE)(es:aF):bX Φ (e::es) ρ=yR (bx Φ e ρ) (bX Φ es ρ):=rfl
@[simp]theorem e_T(e:CE):uN Φ e ρ=pE (bx Φ e ρ):=rfl
theorem WH(e:CE):bd (bx Φ e ρ) iI=pE (bx Φ e ρ):=rfl
@[simp]theorem WG:iD Φ [] ρ=ok true:=rfl
@[simp]theorem WE(e:CE):iD Φ [e] ρ=pE (bx Φ e ρ):=by
 rw[iD,WH];cases h:pE (bx Φ e ρ)with
 |none=>rfl
 |some r=>cases r with
  |error c=>rfl
  |ok b=>cases b<;>simp[iD,bd,ok]
end
def pQ(is:aQ):Nat->aX->aX
 |_,[]=>[]
 |n,d::ρ=>(if n∈is then d.map (aY a_)else d)::pQ is (n+1) ρ
theorem Il(is:aQ):∀(ρ:aX) (n:Nat),ρ.mapIdx (λi d=>if i+n∈is then d.map (aY a_)else d)=pQ is n ρ
 |[],_=>rfl
 |d::ρ,n=>by
  rw[List.mapIdx_cons,pQ,<- Il is ρ (n+1)];simp only[Nat.zero_add,Nat.add_assoc,Nat.add_comm 1 n]
theorem wH(is:aQ)(ρ:aX):hU is ρ=pQ is 0 ρ:=by rw[<- Il];rfl
@[simp]theorem Q6(is:aQ)(n:Nat):pQ is n []=[]:=rfl
@[simp]theorem Nw(is:aQ)(n:Nat)(d:av)(ρ:aX):pQ is n (d::ρ)=(if n∈is then d.map (aY a_)else d)::pQ is (n+1) ρ:=rfl
def dB(e:CE)(ρ:aX)(x:O D):O (D×aX):=bd x λd=>ok (keep e d ρ)
variable {ρ ρ1 ρ2:aX}
@[simp]theorem ur{e:CE}{d:D}(h:ba bI d=false):dB e ρ (ok d)=ok (d,ρ):=by
 show ok (keep e d ρ)=_;rw[keep,h];rfl
@[simp]theorem PF{e:CE}{d:D}(h:ba bI d=true):dB e ρ (ok d)=ok (aY a_ d,pQ (iN e) 0 ρ):=by
 show ok (keep e d ρ)=_;rw[keep,h,<- wH];rfl
@[simp]theorem M6(e:CE)(ρ:aX)(c:Nat):dB e ρ (some (.error c))=some (.error c):=rfl
def Cj(i:Nat)(ρ:aX)(o:Option (av)):O (D×aX):=match o with
 |some (some d)=>if ba dF d then ok (d,ρ.set i none)else ok (d,ρ)
 |_=>none
@[simp]theorem Pj{i:Nat}{d:D}(h:ba dF d=true):Cj i ρ (some (some d))=ok (d,ρ.set i none):=aaQ h
@[simp]theorem Pk{i:Nat}{d:D}(h:ba dF d=false):Cj i ρ (some (some d))=ok (d,ρ):=acb (by rw[h];exact aac)
@[simp]theorem k_v(Φ:aT)(i:Nat)(ρ:aX):jo Φ (.v i) ρ=Cj i ρ ρ[i]?:=rfl
noncomputable def isV:CE->Bool
 |.v _=>true
 |_=>false
@[simp]theorem XQ(Φ:aT)(ρ:aX)(op:Hn)(a b:CE):jo Φ (.bin op a b) ρ=dB (.bin op a b) ρ (bx Φ (.bin op a b) ρ):=rfl
@[simp]theorem XO(Φ:aT)(ρ:aX)(op:AL)(a b:CE):jo Φ (.cmp op a b) ρ=dB (.cmp op a b) ρ (bx Φ (.cmp op a b) ρ):=rfl
@[simp]theorem U0(Φ:aT)(ρ:aX)(f:Nat)(es:aF):jo Φ (.call f es) ρ=dB (.call f es) ρ (bx Φ (.call f es) ρ):=rfl
@[simp]theorem Z9(Φ:aT)(ρ:aX)(f:Bf)(es:aF):jo Φ (.bf f es) ρ=dB (.bf f es) ρ (bx Φ (.bf f es) ρ):=rfl
@[simp]theorem XG(Φ:aT)(ρ:aX)(f:Nat)(es:aF):jo Φ (.dj f es) ρ=dB (.dj f es) ρ (bx Φ (.dj f es) ρ):=rfl
@[simp]theorem Z7(Φ:aT)(ρ:aX)(a b:CE):jo Φ (.ix a b) ρ=dB (.ix a b) ρ (bx Φ (.ix a b) ρ):=rfl
@[simp]theorem XF(Φ:aT)(ρ:aX)(es:aF):jo Φ (.tup es) ρ=dB (.tup es) ρ (bx Φ (.tup es) ρ):=rfl
@[simp]theorem XM(Φ:aT)(ρ:aX)(es:aF):jo Φ (.lst es) ρ=dB (.lst es) ρ (bx Φ (.lst es) ρ):=rfl
@[simp]theorem HV(Φ:aT)(ρ:aX)(i:Int):jo Φ (.int i) ρ=dB (.int i) ρ (bx Φ (.int i) ρ):=rfl
@[simp]theorem Z8(Φ:aT)(ρ:aX)(i:Bool):jo Φ (.bl i) ρ=dB (.bl i) ρ (bx Φ (.bl i) ρ):=rfl
@[simp]theorem XI(Φ:aT)(ρ:aX): jo Φ (.bu) ρ=dB (.bu) ρ (bx Φ (.bu) ρ):=rfl
@[simp]theorem XJ(Φ:aT)(ρ:aX)(a:CE):jo Φ (.neg a) ρ=dB (.neg a) ρ (bx Φ (.neg a) ρ):=rfl
@[simp]theorem XH(Φ:aT)(ρ:aX)(a:CE):jo Φ (.not a) ρ=dB (.not a) ρ (bx Φ (.not a) ρ):=rfl
@[simp]theorem PH(Φ:aT)(ρ:aX)(es:aF):jo Φ (.and es) ρ=dB (.and es) ρ (bx Φ (.and es) ρ):=rfl
@[simp]theorem Z6(Φ:aT)(ρ:aX)(es:aF):jo Φ (.or es) ρ=dB (.or es) ρ (bx Φ (.or es) ρ):=rfl
@[simp]theorem UZ(Φ:aT)(ρ:aX)(n:Nat)(t:Tg)(caps:aQ)(ik:IK)(es bP:aF)(elt:CE):jo Φ (.comp n t caps ik es bP elt) ρ=dB (.comp n t caps ik es bP elt) ρ (bx Φ (.comp n t caps ik es bP elt) ρ):=rfl
@[simp]theorem XN(Φ:aT)(ρ:aX)(a:CE)(t:Ty):jo Φ (.vp a t) ρ=dB (.vp a t) ρ (bx Φ (.vp a t) ρ):=rfl
@[simp]theorem UY(Φ:aT)(ρ:aX)(a:CE):jo Φ (.jx a) ρ=dB (.jx a) ρ (bx Φ (.jx a) ρ):=rfl
theorem FY(Φ:aT)(e:CE)(ρ:aX)(h:isV e=false):jo Φ e ρ=dB e ρ (bx Φ e ρ):=by cases e<;>first|rfl|cases h
@[simp]theorem MV(ρ:aX):iy [] [] ρ=ok ρ:=rfl
variable {ds xs:aa}{is:aQ}
@[simp]theorem Jw{i:Nat}{d:D}(h:i<ρ.length):iy (i::is) (d::ds) ρ=iy is ds (ρ.set i (some d)):=aaQ h
@[simp]theorem RX{i:Nat}{d:D}(h:i<ρ.length):bQ (.nm i) d ρ=ok (ρ.set i (some d)):=aaQ h
@[simp]theorem RW(h:aR dF ds=false):bQ (.tp is) (.tup ds) ρ=iy is ds ρ:=acb (by rw[h];exact aac)
def MH(i:Nat)(r:O (D×aX)):O (Fo×aX):=bd r λr=>bd (bQ (.nm i) r.1 r.2) λρ'=>ok (.nx,ρ')
@[simp]theorem y9{i:Nat}{d:D}(h:i<ρ.length):MH i (ok (d,ρ))=ok (.nx,ρ.set i (some d)):=by
 show bd (bQ (.nm i) d ρ) _=_;rw[bQ,if_pos h];rfl
@[simp]theorem RB(i:Nat)(c:Nat):MH i (some (.error c))=some (.error c):=rfl
def RA(is:aQ)(r:O (D×aX)):O (Fo×aX):=bd r λr=>bd (bQ (.tp is) r.1 r.2) λρ'=>ok (.nx,ρ')
@[simp]theorem SY(h:aR dF ds=false):RA is (ok (.tup ds,ρ))=bd (iy is ds ρ) λρ'=>ok (.nx,ρ'):=by
 show bd (bQ (.tp is) (.tup ds) ρ) _=_;rw[bQ,h];rfl
noncomputable def retS(r:O (D×aX)):O (Fo×aX):=bd r λr=>ok (.rt r.1,r.2)
@[simp]theorem RZ(d:D)(ρ:aX):retS (ok (d,ρ))=ok (.rt d,ρ):=rfl
@[simp]theorem OH(c:Nat):retS (some (.error c))=some (.error c):=rfl
noncomputable def Wr(ρ:aX)(x:O D):O (Fo×aX):=bd x λ_=>ok (.nx,ρ)
@[simp]theorem Wq(ρ:aX)(d:D):Wr ρ (ok d)=ok (.nx,ρ):=rfl
@[simp]theorem SO(ρ:aX)(c:Nat):Wr ρ (some (.error c))=some (.error c):=rfl
noncomputable def p_(Φ:aT)(ss:ag)(r:O (Fo×aX)):O (Fo×aX):=bd r λr=>match r with
 | (.nx,ρ')=>bp Φ ss ρ'
 |r=>ok r
@[simp]theorem tH(Φ:aT)(ss:ag)(ρ:aX):p_ Φ ss (ok (.nx,ρ))=bp Φ ss ρ:=rfl
@[simp]theorem N3(Φ:aT)(ss:ag)(d:D)(ρ:aX):p_ Φ ss (ok (.rt d,ρ))=ok (.rt d,ρ):=rfl
@[simp]theorem N5(Φ:aT)(ss:ag)(ρ:aX):p_ Φ ss (ok (.bk,ρ))=ok (.bk,ρ):=rfl
@[simp]theorem N4(Φ:aT)(ss:ag)(ρ:aX):p_ Φ ss (ok (.ct,ρ))=ok (.ct,ρ):=rfl
@[simp]theorem MP(Φ:aT)(ss:ag)(c:Nat):p_ Φ ss (some (.error c))=some (.error c):=rfl
noncomputable def F1(Φ:aT)(a b:ag)(ρ:aX)(x:O Bool):O (Fo×aX):=bd x λk=>if k then bp Φ a ρ else bp Φ b ρ
@[simp]theorem KP(Φ:aT)(a b:ag)(ρ:aX):F1 Φ a b ρ (ok true)=bp Φ a ρ:=rfl
@[simp]theorem U6(Φ:aT)(a b:ag)(ρ:aX):F1 Φ a b ρ (ok false)=bp Φ b ρ:=rfl
@[simp]theorem PK(Φ:aT)(a b:ag)(ρ:aX)(c:Nat):F1 Φ a b ρ (some (.error c))=some (.error c):=rfl
def RC(i:Nat)(r:O (D×aX)):O (Fo×aX):=bd r λr=>match v7 r.2[i]? with
  |some ds=>if ds.length<cL then ok (.nx,r.2.set i (some (.lst .ow (ds++[r.1]))))else none
  |none=>none
@[simp]theorem S0{i:Nat}{d:D}(h:ρ[i]?=some (some (.lst .ow ds)))(hl:ds.length<cL):RC i (ok (d,ρ))=ok (.nx,ρ.set i (some (.lst .ow (ds++[d])))):=by
 show(match v7 ρ[i]? with|some ds=>_|none=>_)=_;rw[h];exact aaQ hl
section
variable (Φ:aT)(ρ:aX)
@[simp]theorem Xh:bp Φ [] ρ=ok (.nx,ρ):=rfl
@[simp]theorem bO(s:CS)(ss:ag):bp Φ (s::ss) ρ=p_ Φ ss (iC Φ s ρ):=rfl
@[simp]theorem Ho(i:Nat)(e:CE):iC Φ (.asg (.nm i) e) ρ=MH i (jo Φ e ρ):=rfl
@[simp]theorem Tj(is:aQ)(e:CE):iC Φ (.asg (.tp is) e) ρ=RA is (jo Φ e ρ):=rfl
@[simp]theorem NN(e:CE):iC Φ (.ret e) ρ=retS (jo Φ e ρ):=rfl
theorem p4(c:CE)(b:ag):iC Φ (.Hq c b) ρ=fH (λρ=>bd (uN Φ c ρ) λk=>if k then bd (bp Φ b ρ) λr=>match r with
   | (.nx,ρ')=>ok (.inl ρ')
   | (.ct,ρ')=>ok (.inl ρ')
   | (.bk,ρ')=>ok (.inr (.nx,ρ'))
   | (.rt d,ρ')=>ok (.inr (.rt d,ρ'))
  else ok (.inr (.nx,ρ))) ρ:=rfl
theorem NO(i j:Nat)(a b:CE):iC Φ (.par i j a b) ρ=bd (bx Φ a ρ) λx=>bd (bx Φ b ρ) λy=>if ba anyF x=false/\ba anyF y=false/\i<ρ.length/\j<ρ.length then ok (.nx,(ρ.set i (some x)).set j (some y))else none:=rfl
@[simp]theorem Y8(c:Nat):iC Φ (.rs c) ρ=some (.error c):=rfl
@[simp]theorem Y9(e:CE):iC Φ (.ex e) ρ=Wr ρ (bx Φ e ρ):=rfl
@[simp]theorem tm(c:CE)(a b:ag):iC Φ (.ifs c a b) ρ=F1 Φ a b ρ (pE (bx Φ c ρ)):=rfl
@[simp]theorem Xi(i:Nat)(e:CE):iC Φ (.app i e) ρ=RC i (jo Φ e ρ):=rfl
end
noncomputable def mk(Φ:aT)(ar n:Nat)(b:ag):aw:=λds=>if ds.length=ar then zE Φ n b ds else none
noncomputable def pR(r:O (Fo×aX)):O D:=bd r λr=>match r.1 with
 |.nx=>ok .bu
 |.rt d=>ok d
 |_=>none
@[simp]theorem SR(ρ:aX):pR (ok (.nx,ρ))=ok .bu:=rfl
@[simp]theorem SQ(d:D)(ρ:aX):pR (ok (.rt d,ρ))=ok d:=rfl
@[simp]theorem Rg(c:Nat):pR (some (.error c))=some (.error c):=rfl
variable {ar:Nat}{Φ:aT}
theorem mk_eq{n:Nat}{b:ag}(h:ds.length=ar):mk Φ ar n b ds=pR (bp Φ b (ds.map some++List.replicate (n - ds.length) none)):=aaQ h
theorem Ck{n:Nat}{b:ag}(ds:aa)(r:D)(h:mk Φ ar n b ds=ok r):ds.length=ar/\zE Φ n b ds=ok r:=by
 unfold mk at h;split at h
 ·rename_i hl;exact⟨hl,h⟩
 ·cases h
theorem Int.beq_eq_decide_eq(i j:Int):(i==j)=decide (i=j):=rfl
section
variable (g:Fl->Fl)(p:Fl->Bool)
@[simp]theorem FR(b:Bool):aY g (.bl b)=.bl b:=rfl
@[simp]theorem Co(b:Int):aY g (.int b)=.int b:=rfl
@[simp]theorem Pm:aY g .bu=.bu:=rfl
@[simp]theorem Cn(ds:aa):aY g (.tup ds)=.tup (aC g ds):=rfl
@[simp]theorem Pn(f:Fl)(ds:aa):aY g (.lst f ds)=.lst (g f) (aC g ds):=rfl
@[simp]theorem Po(f:Fl)(ks:aG)(vs:aa):aY g (.cJ f ks vs)=.cJ (g f) ks (aC g vs):=rfl
@[simp]theorem M1:aC g []=[]:=rfl
@[simp]theorem Ks(d:D)(ds:aa):aC g (d::ds)=aY g d::aC g ds:=rfl
@[simp]theorem M4(a b:aa):aC g (a++b)=aC g a++aC g b:=by simp only[aP,List.map_append]
@[simp]theorem M3(ds:aa):(aC g ds).length=ds.length:=by rw[aP,List.length_map]
theorem dm{α:Type}{e:α->D}(h:∀x,aY g (e x)=e x)(xs:List α):aC g (xs.map e)=xs.map e:=by
 rw[aP,List.map_map];exact aat λx _=>h x
theorem cE{α:Type}{e:α->D}(h:∀x,ba p (e x)=false):∀xs:List α,aR p (xs.map e)=false
 |[]=>by rw[List.map_nil,aR]
 |x::xs=>by rw[List.map_cons,aR,h x,cE h xs];rfl
@[simp]theorem Gg(b:Bool):ba p (.bl b)=false:=ab0 rfl
@[simp]theorem oE(b:Int):ba p (.int b)=false:=ab0 rfl
@[simp]theorem QL:ba p .bu=false:=ab0 rfl
@[simp]theorem CY(ds:aa):ba p (.tup ds)=aR p ds:=ab0 rfl
@[simp]theorem CZ(f:Fl)(ds:aa):ba p (.lst f ds)=(p f||aR p ds):=ab0 rfl
@[simp]theorem QM(f:Fl)(ks:aG)(vs:aa):ba p (.cJ f ks vs)=(p f||aR p vs):=ab0 rfl
@[simp]theorem Np:aR p []=false:=ab0 rfl
@[simp]theorem Lp(d:D)(ds:aa):aR p (d::ds)=(ba p d||aR p ds):=ab0 rfl
@[simp]theorem z_:∀a b:aa,aR p (a++b)=(aR p a||aR p b)
 |[],b=>by simp
 |d::a,b=>by simp[z_ a b,Bool.or_assoc]
@[simp]theorem wc(ns:ae):aC g (ns.map D.int)=ns.map D.int:=dm g (Co g) ns
@[simp]theorem wD(ns:ae):aR p (ns.map D.int)=false:=cE p (oE p) ns
@[simp]theorem zO(ns:List Bool):aC g (ns.map D.bl)=ns.map D.bl:=dm g (FR g) ns
@[simp]theorem z9(ns:List Bool):aR p (ns.map D.bl)=false:=cE p (Gg p) ns
@[simp]theorem M7(t:Ty)(d:D):eU t (aY g d)=eU t d:=by cases d<;>cases t<;>rfl
end
@[simp]theorem LR:bB .ow=.al:=rfl
@[simp]theorem LS:bB .fz=.fz:=rfl
@[simp]theorem LU:bB .al=.al:=rfl
@[simp]theorem LQ:bB .sc=.sc:=rfl
@[simp]theorem LN:a_ .ow=.fz:=rfl
@[simp]theorem LO:a_ .fz=.fz:=rfl
@[simp]theorem LP:a_ .al=.fz:=rfl
@[simp]theorem LM:a_ .sc=.sc:=rfl
@[simp]theorem L9:i4 .ow=.ow:=rfl
@[simp]theorem L_:i4 .fz=.al:=rfl
@[simp]theorem Ma:i4 .al=.al:=rfl
@[simp]theorem L8:i4 .sc=.sc:=rfl
@[simp]theorem L5:bI .ow=false:=rfl
@[simp]theorem L6:bI .fz=false:=rfl
@[simp]theorem L7:bI .al=true:=rfl
@[simp]theorem L4:bI .sc=false:=rfl
@[simp]theorem LZ:dF .ow=true:=rfl
@[simp]theorem L0:dF .fz=false:=rfl
@[simp]theorem L3:dF .al=false:=rfl
@[simp]theorem LY:dF .sc=false:=rfl
@[simp]theorem LV:uw .ow=false:=rfl
@[simp]theorem LW:uw .fz=false:=rfl
@[simp]theorem LX:uw .al=false:=rfl
noncomputable def ai(ns:ae):aa:=ns.map D.int
noncomputable def mJ(ns:List Bool):aa:=ns.map D.bl
@[simp]theorem Na(ns:ae):(ai ns).length=ns.length:=aba ..
@[simp]theorem Rv(ns:List Bool):(mJ ns).length=ns.length:=aba ..
@[simp]theorem M_:ai []=[]:=rfl
@[simp]theorem K1(n:Int)(ns:ae):ai (n::ns)=.int n::ai ns:=rfl
@[simp]theorem K0(ns:ae)(n:Int):ai ns++[.int n]=ai (ns++[n]):=by simp[ai]
@[simp]theorem zW(ns:ae)(i:Nat):(ai ns)[i]?=ns[i]?.map D.int:=List.getElem?_map ..
@[simp]theorem gi(g:Fl->Fl)(ns:ae):aC g (ai ns)=ai ns:=wc g ns
@[simp]theorem uF(p:Fl->Bool)(ns:ae):aR p (ai ns)=false:=wD p ns
@[simp]theorem Kt(g:Fl->Fl)(ns:List Bool):aC g (mJ ns)=mJ ns:=zO g ns
@[simp]theorem Lq(p:Fl->Bool)(ns:List Bool):aR p (mJ ns)=false:=z9 p ns
@[simp]theorem YQ(i j:Int):cT .add (.int i) (.int j)=ok (.int (i+j)):=rfl
@[simp]theorem YO(i j:Int):cT .sub (.int i) (.int j)=ok (.int (i - j)):=rfl
theorem jE{i j:Int}(h:iW i j=true):cT .mul (.int i) (.int j)=ok (.int (i*j)):=aaQ h
theorem oX{i j:Int}(h:qB j=true):cT .fdiv (.int i) (.int j)=ok (.int (i.fdiv j)):=aaQ h
@[simp]theorem Rz{i j:Int}(h:j≠0):cT .mod (.int i) (.int j)=ok (.int (i.fmod j)):=aaQ h
@[simp]theorem Ry{i j:Int}(h:0<=j):cT .shr (.int i) (.int j)=ok (.int (i / 2 ^ j.toNat)):=aaQ h
theorem IG{i j:Int}(h:xT i j=true):cT .pow (.int i) (.int j)=ok (.int (i ^ j.toNat)):=aaQ h
@[simp]theorem XA(i:Int):FN (.int i)=ok (.int (-i)):=rfl
theorem mulOk_of{i j:Int}(h:i.natAbs<2 ^ 9000)(h':j.natAbs<2 ^ 9000):iW i j=true:=by
 simp only[iW,big,h,h',decide_true,Bool.and_self,Bool.or_true]
theorem we{n:Nat}(h:n<2 ^ 64):n<2 ^ 9000:=aai h (aar (by decide) (by decide))
theorem rE{i:Int}(j:Int)(h:i.natAbs<2 ^ 64):iW i j=true:=by simp only[iW,h,decide_true,Bool.true_or]
theorem FO{j:Int}(i:Int)(h:j.natAbs<2 ^ 64):iW i j=true:=by simp only[iW,h,decide_true,Bool.true_or,Bool.or_true]
theorem i7{j:Int}(h0:j≠0)(h:j.natAbs<2 ^ 9000):qB j=true:=by
 simp only[qB,big,h,decide_true,Bool.and_true,decide_eq_true_eq];exact h0
@[simp]theorem Ha{i j:Int}(h:j.natAbs<2 ^ 64):cT .mul (.int i) (.int j)=ok (.int (i*j)):=jE (FO i h)
@[simp]theorem SX{i j:Int}(h:i.natAbs<2 ^ 64):cT .mul (.int i) (.int j)=ok (.int (i*j)):=jE (rE j h)
@[simp]theorem DX{i j:Int}(h0:j≠0)(h:j.natAbs<2 ^ 64):cT .fdiv (.int i) (.int j)=ok (.int (i.fdiv j)):=oX (i7 h0 (we h))
theorem mH{a b:D}(ha:dM 40 a=true)(hb:dM 40 b=true):cK .eq a b=ok (.bl (lj a b)):=by
 show(if dM 40 a&&dM 40 b then _ else _)=_;rw[ha,hb];rfl
theorem MD{a b:D}(ha:dM 40 a=true)(hb:dM 40 b=true):cK .ne a b=ok (.bl (!lj a b)):=by
 show(if dM 40 a&&dM 40 b then _ else _)=_;rw[ha,hb];rfl
@[simp]theorem gd(n:Nat)(i:Int):dM n (.int i)=true:=by cases n<;>rfl
@[simp]theorem UL(n:Nat)(i:Bool):dM n (.bl i)=true:=by cases n<;>rfl
@[simp]theorem Sf(n:Nat):dM n .bu=true:=by cases n<;>rfl
@[simp]theorem mS(n:Nat)(ds:aa):dM (n+1) (.tup ds)=ds.all (dM n):=rfl
@[simp]theorem x9(n:Nat)(f:Fl)(ds:aa):dM (n+1) (.lst f ds)=ds.all (dM n):=rfl
@[simp]theorem UC(i j:Int):cK .eq (.int i) (.int j)=ok (.bl (decide (i=j))):=by rw[mH (gd _ _) (gd _ _)];show ok (D.bl (i==j))=_;rw[Int.beq_eq_decide_eq]
@[simp]theorem UB(i j:Int):cK .ne (.int i) (.int j)=ok (.bl (!decide (i=j))):=by rw[MD (gd _ _) (gd _ _)];show ok (D.bl (!(i==j)))=_;rw[Int.beq_eq_decide_eq]
@[simp]theorem ZP(i j:Int):cK .lt (.int i) (.int j)=ok (.bl (decide (i<j))):=rfl
@[simp]theorem ZQ(i j:Int):cK .le (.int i) (.int j)=ok (.bl (decide (i<=j))):=rfl
@[simp]theorem ZR(i j:Int):cK .gt (.int i) (.int j)=ok (.bl (decide (j<i))):=rfl
@[simp]theorem ZS(i j:Int):cK .ge (.int i) (.int j)=ok (.bl (decide (j<=i))):=rfl
@[simp]theorem X0(ds:aa)(i:Int):wm (.tup ds) (.int i)=sG ds i:=rfl
@[simp]theorem X1(f:Fl)(ds:aa)(i:Int):wm (.lst f ds) (.int i)=sG ds i:=rfl
theorem oY{n:Nat}{d:D}(h:ds[n]?=some d):sG ds (n:Int)=ok (aY bB d):=by
 have hn:n<ds.length:=(List.getElem?_eq_some_iff.mp h).1;have e:sV ds.length (n:Int)=some n:=by unfold sV;rw[if_pos (by left),if_pos (by left)];rfl
 unfold sG;rw[e,Option.bind_some,h]
theorem at_of{i:Int}{d:D}(h0:0<=i)(h:ds[i.toNat]?=some d):sG ds i=ok (aY bB d):=by
 have:=oY h
 rwa [show((i.toNat:Nat):Int)=i by left]at this
@[simp]theorem WX(d:D)(ds:aa):sG (d::ds) 0=ok (aY bB d):=oY (n:=0) rfl
@[simp]theorem abH(a d:D)(ds:aa):sG (a::d::ds) 1=ok (aY bB d):=oY (n:=1) rfl
@[simp]theorem abG(a b d:D)(ds:aa):sG (a::b::d::ds) 2=ok (aY bB d):=oY (n:=2) rfl
@[simp]theorem SM(ds:aa):nc .len [.tup ds]=ok (.int ds.length):=rfl
@[simp]theorem SN(f:Fl)(ds:aa):nc .len [.lst f ds]=ok (.int ds.length):=rfl
@[simp]theorem Yx(i:Int):nc .abs [.int i]=ok (.int i.natAbs):=by
 show ok (D.int (if i<0 then -i else i))=_;congr 2;split<;>left
@[simp]theorem Q_(f:Fl)(ds:aa):nc .list1 [.lst f ds]=ok (.lst .ow (aC bB ds)):=rfl
@[simp]theorem Q9(ds:aa):nc .list1 [.tup ds]=ok (.lst .ow (aC bB ds)):=rfl
@[simp]theorem SK(f:Fl)(ds:aa):nc .tuple1 [.lst f ds]=ok (.tup (aC bB ds)):=rfl
@[simp]theorem SJ(ds:aa):nc .tuple1 [.tup ds]=ok (.tup (aC bB ds)):=rfl
@[simp]theorem Yv(f:Fl)(ns:ae):nc .kr [.lst f (ai ns)]=ok (.int ns.sum):=by
 show(match intsOf (ns.map D.int)with|some ns=>_|none=>_)=_;rw[bS]
@[simp]theorem Yw(f:Fl)(bs:List Bool):nc .all1 [.lst f (mJ bs)]=ok (.bl (bs.all id)):=by
 show(match i_ (bs.map D.bl)with|some ns=>_|none=>_)=_;rw[lM]
variable {ns ws:ae}
@[simp]theorem Gp(h:ns.length<64):nc .gZ [.tup (ai ns)]=ok (.lst .ow (ai (sortI ns))):=by
 show qd _=_;unfold qd ai;rw[bS];exact aaQ h
@[simp]theorem Mb(h:ns.length<4000):yg (.tup (ai ns))=ok (.int (se ns).length):=by
 show(match intsOf (ns.map D.int)with|some ns=>_|none=>_)=_;rw[bS];exact aaQ h
@[simp]theorem m5(i j:Int):lj (.int i) (.int j)=decide (i=j):=by show(i==j)=_;rw[Int.beq_eq_decide_eq]
@[simp]theorem Wx(i j:Bool):lj (.bl i) (.bl j)=(i==j):=rfl
@[simp]theorem Gy(a b:aa):lj (.tup a) (.tup b)=dg a b:=rfl
@[simp]theorem Gz(f g:Fl)(a b:aa):lj (.lst f a) (.lst g b)=dg a b:=rfl
@[simp]theorem Dl:dg [] []=true:=rfl
@[simp]theorem lK(a b:D)(as bs:aa):dg (a::as) (b::bs)=(lj a b&&dg as bs):=rfl
theorem oP:∀{as bs:aa},dg as bs=true->as.length=bs.length
 |[],[],_=>rfl
 |[],_::_,h=>(aac h).elim
 |_::_,[],h=>(aac h).elim
 |a::as,b::bs,h=>by
  replace h:(_&&_)=true:=h;rw[Bool.and_eq_true]at h;rw[List.length_cons,List.length_cons,oP h.2]
theorem i6{α:Type}{e:α->D}[DecidableEq α](h:∀x y,lj (e x) (e y)=decide (x=y)):∀xs ys:List α,dg (xs.map e) (ys.map e)=decide (xs=ys)
 |[],[]=>by simp
 |[],y::ys=>by
  cases z:dg ([].map e) ((y::ys).map e)with
  |true=>have:=oP z;simp at this
  |false=>simp
 |x::xs,[]=>by
  cases z:dg ((x::xs).map e) ([].map e)with
  |true=>have:=oP z;simp at this
  |false=>simp
 |x::xs,y::ys=>by
  rw[List.map_cons,List.map_cons,lK,h,i6 h xs ys];by_cases e1:x=y<;>by_cases e2:xs=ys<;>simp[e1,e2]
theorem mT{α:Type}{e:α->D}{n:Nat}(h:∀x,dM n (e x)=true)(xs:List α):(xs.map e).all (dM n)=true:=by
 rw[List.all_map];exact List.all_eq_true.mpr λx _=>h x
theorem bZ{bind:D->O aX}{test:aX->O Bool}{el:aX->O D}{α:Type}{e:α->D}{g:α->D}:∀{xs:List α},(∀x∈xs,∃ρ,bind (e x)=ok ρ/\test ρ=ok true/\el ρ=ok (g x))->iF bind test el (xs.map e)=ok (xs.map g)
 |[],_=>rfl
 |x::xs,h=>by
  obtain⟨ρ,h1,h2,h3⟩:=h x (aaf ..);have ih:=bZ (xs:=xs) λy hy=>h y (aad _ hy);rw[List.map_cons,iF,h1,cH,h2,cH,if_pos rfl,h3,cH,ih];rfl
theorem eN{bind:D->O aX}{test:aX->O Bool}{el:aX->O D}{α:Type}{e:α->D}{g:α->D}{t:α->Bool}:∀{xs:List α},(∀x∈xs,∃ρ,bind (e x)=ok ρ/\test ρ=ok (t x)/\(t x=true->el ρ=ok (g x)))->iF bind test el (xs.map e)=ok ((xs.filter t).map g)
 |[],_=>rfl
 |x::xs,h=>by
  obtain⟨ρ,h1,h2,h3⟩:=h x (aaf ..);have ih:=eN (xs:=xs) λy hy=>h y (aad _ hy);rw[List.map_cons,iF,h1,cH,h2,cH,List.filter_cons];cases ht:t x with
  |true=>rw[if_pos rfl,h3 ht,cH,ih,if_pos rfl];rfl
  |false=>rw[if_neg Bool.false_ne_true,ih,if_neg Bool.false_ne_true]
section
variable {Φ:aT}{n:Nat}{t:Tg}{caps:aQ}{ik:IK}{es bP:aF}{elt:CE}{ρ:aX}{xs items ds:aa}
theorem cP(h1:bX Φ es ρ=ok xs)(h2:dX Φ ik xs=ok items)
  (h3:iF (λd=>bQ t d (bE n caps ρ)) (λρ'=>iD Φ bP ρ') (λρ'=>bx Φ elt ρ') items=ok ds) (hl:ds.length<=cL):bx Φ (.comp n t caps ik es bP elt) ρ=ok (.lst .ow (aC i4 ds)):=by
 show bd (bX Φ es ρ) _=_;rw[h1,cH,h2,cH,h3,cH,if_pos hl]
end
theorem yn(Φ:aT)(ds:aa):dX Φ .seq [.tup ds]=ok (aC a_ ds):=rfl
theorem dW(Φ:aT)(f:Fl)(ds:aa):dX Φ .seq [.lst f ds]=ok (aC a_ ds):=rfl
theorem kH(Φ:aT){n:Int}(h0:0<=n)(h:n<=1000000):dX Φ .iz [.int n]=ok ((List.range n.toNat).map λ(k:Nat)=>D.int (k:Int)):=by
 show(if n<=(cL:Int) /\ -(cL:Int)<=n then _ else _)=_;have:(cL:Int)=1000000:=rfl;rw[if_pos (by left)]
theorem bY{n:Nat}(h:n<=1000000):n<=cL:=h
theorem dA{t:Tg}{it:CI}{b:ag}{items:aa}{r:O (Fo×aX)}(h:bR Φ it ρ=ok (items,ρ1))(h':cG (λd ρ=>bQ t d ρ) (λρ=>bp Φ b ρ) items ρ1=r):iC Φ (.fr t it b) ρ=r:=by
 show bd (bR Φ it ρ) _=_;rw[h];exact h'
theorem dt(bind:D->aX->O aX)(body:aX->O (Fo×aX))(ρ:aX):cG bind body [] ρ=ok (.nx,ρ):=rfl
theorem bG{bind:D->aX->O aX}{body:aX->O (Fo×aX)}{x:D}{r:O (Fo×aX)}(h1:bind x ρ=ok ρ1)(h2:body ρ1=ok (.nx,ρ2))(h3:cG bind body xs ρ2=r):cG bind body (x::xs) ρ=r:=by
 rw[cG,h1,cH,h2];exact h3
theorem Dd{bind:D->aX->O aX}{body:aX->O (Fo×aX)}{x y:D}(h1:bind x ρ=ok ρ1)(h2:body ρ1=ok (.rt y,ρ2)):cG bind body (x::xs) ρ=ok (.rt y,ρ2):=by
 rw[cG,h1,cH,h2];rfl
theorem zQ{a:CE}{n:Int}(h:bx Φ a ρ=ok (.int n))(h0:0<=n)(h1:n<=1000000):bR Φ (.iz a) ρ=ok ((List.range n.toNat).map λ(k:Nat)=>D.int (k:Int),ρ):=by
 show bd (bx Φ a ρ) _=_;rw[h];show(if n<=(cL:Int) /\ -(cL:Int)<=n then _ else _)=_;have:(cL:Int)=1000000:=rfl;rw[if_pos (by left)]
theorem KQ{a:CE}(h:bx Φ a ρ=ok (.tup ds)):bR Φ (.seq a) ρ=ok (aC a_ ds,if aR bI ds then pQ (iN a) 0 ρ else ρ):=by
 show bd (bx Φ a ρ) _=_;rw[h,<- wH];show ok (_,if ba bI (.tup ds)then _ else _)=_;rw[CY]
theorem uv{a:CE}{f:Fl}(h:bx Φ a ρ=ok (.lst f ds)):bR Φ (.seq a) ρ=ok (aC a_ ds,if (bI f||aR bI ds)then pQ (iN a) 0 ρ else ρ):=by
 show bd (bx Φ a ρ) _=_;rw[h,<- wH];show ok (_,if ba bI (.lst f ds)then _ else _)=_;rw[CZ]
noncomputable def eQ(t b:Int):Int:=if b<0 then -(Int.gcd t b:Int)else(Int.gcd t b:Int)
def Kj(t b:Int):Int:=t.fdiv (eQ t b)
def Kk(t b:Int):Int:=b.fdiv (eQ t b)
theorem yy{t b:Int}(h:b≠0):0<Int.gcd t b:=Int.gcd_pos_of_ne_zero_right t h
theorem jR{t b:Int}(h:b≠0):eQ t b≠0:=by
 have:=yy (t:=t) h;unfold eQ;split<;>left
theorem LB{t b:Int}(h:b≠0):Int.gcd t b<=b.natAbs:=abh (by left) (Nat.gcd_dvd_right _ _)
theorem GL{t b:Int}(h:b≠0):(eQ t b).natAbs<=b.natAbs:=by
 have:=LB (t:=t) h;unfold eQ;split<;>left
theorem nY{t b:Int}(h:b≠0):∃t' b':Int,t=eQ t b*t'/\b=eQ t b*b'/\Kj t b=t'/\Kk t b=b'/\1<=b'/\Int.gcd t' b'=1:=by
 have hg:=yy (t:=t) h;obtain⟨t1,ht⟩:(Int.gcd t b:Int)∣t:=Int.gcd_dvd_left ..;obtain⟨b1,hb⟩:(Int.gcd t b:Int)∣b:=Int.gcd_dvd_right ..;have hc:Int.gcd t1 b1=1:=by
  have e:Int.gcd ((Int.gcd t b:Int)*t1) ((Int.gcd t b:Int)*b1)=Int.gcd t b*Int.gcd t1 b1:=by
   rw[Int.gcd_mul_left];simp
  rw[<- ht,<- hb]at e;have:Int.gcd t b*1=Int.gcd t b*Int.gcd t1 b1:=by rw[Nat.mul_one];exact e
  exact(Nat.eq_of_mul_eq_mul_left hg this).symm
 by_cases hn:b<0
 ·have ed:eQ t b = -(Int.gcd t b:Int):=by simp[eQ,hn]
  have e1:t=eQ t b*(-t1):=by rw[ed,Int.neg_mul_neg];exact ht
  have e2:b=eQ t b*(-b1):=by rw[ed,Int.neg_mul_neg];exact hb
  refine⟨-t1,-b1,e1,e2,?_,?_,?_,by rw[Int.gcd_neg,Int.neg_gcd];exact hc⟩
  ·unfold Kj
   conv=>lhs;arg 1;rw[e1]
   exact aa7 _ (jR h)
  ·unfold Kk
   conv=>lhs;arg 1;rw[e2]
   exact aa7 _ (jR h)
  ·have:b1<0:=by
    by_cases VU:b1<0
    ·exact VU
    ·have:0<=(Int.gcd t b:Int)*b1:=Int.mul_nonneg (by left) (by left);left
   left
 ·have ed:eQ t b=(Int.gcd t b:Int):=by simp[eQ,hn]
  have e1:t=eQ t b*t1:=by rw[ed];exact ht
  have e2:b=eQ t b*b1:=by rw[ed];exact hb
  refine⟨t1,b1,e1,e2,?_,?_,?_,hc⟩
  ·unfold Kj
   conv=>lhs;arg 1;rw[e1]
   exact aa7 _ (jR h)
  ·unfold Kk
   conv=>lhs;arg 1;rw[e2]
   exact aa7 _ (jR h)
  ·have:0<b1:=by
    by_cases VU:0<b1
    ·exact VU
    ·have:(Int.gcd t b:Int)*b1<=0:=Int.mul_nonpos_of_nonneg_of_nonpos (by left) (by left);left
   left
noncomputable def qD(q:Rat):D:=.tup [.int q.num,.int q.den]
@[simp]theorem Kv(g:Fl->Fl)(q:Rat):aY g (qD q)=qD q:=by unfold qD;simp
@[simp]theorem Lu(g:Fl->Bool)(q:Rat):ba g (qD q)=false:=by unfold qD;simp
noncomputable def aO(qs:az):aa:=qs.map qD
@[simp]theorem R9(qs:az):(aO qs).length=qs.length:=aba ..
@[simp]theorem R8:aO []=[]:=rfl
@[simp]theorem OO(q:Rat)(qs:az):aO (q::qs)=qD q::aO qs:=rfl
@[simp]theorem ON(qs:az)(q:Rat):aO qs++[qD q]=aO (qs++[q]):=by simp[aO]
@[simp]theorem Fp(qs:az)(i:Nat):(aO qs)[i]?=qs[i]?.map qD:=List.getElem?_map ..
@[simp]theorem R7(qs:az)(i:Nat)(q:Rat):(aO qs).set i (qD q)=aO (qs.set i q):=by unfold aO;rw[List.map_set]
@[simp]theorem kF(g:Fl->Fl)(qs:az):aC g (aO qs)=aO qs:=dm g (Kv g) qs
@[simp]theorem QK(g:Fl->Bool)(qs:az):aR g (aO qs)=false:=cE g (Lu g) qs
theorem x_(n:Nat)(q:Rat):dM (n+1) (qD q)=true:=by
 unfold qD;rw[mS,List.all_cons,List.all_cons,gd,gd];rfl
theorem Dm(p q:Rat):lj (qD p) (qD q)=decide (p=q):=by
 unfold qD;rw[Gy,lK,lK,Dl,m5,m5,Bool.and_true];by_cases h:p=q
 ·subst h;simp
 ·rw[decide_eq_false h];cases e1:decide (p.num=q.num)with
  |false=>rfl
  |true =>
   cases e2:decide ((p.den:Int)=(q.den:Int))with
   |false=>rfl
   |true =>
    refine absurd (Rat.ext (by simpa using e1) ?_) h;have:(p.den:Int)=q.den:=by simpa using e2
    left
@[simp]theorem XS(q:Rat):wm (qD q) (.int 0)=ok (.int q.num):=by unfold qD;simp
@[simp]theorem XR(q:Rat):wm (qD q) (.int 1)=ok (.int q.den):=by unfold qD;simp
theorem rV{t b:Int}(hb:b≠0):t.fdiv (eQ t b)=(Rat.divInt t b).num/\b.fdiv (eQ t b)=((Rat.divInt t b).den:Int):=by
 obtain⟨t',b',e1,e2,h1,h2,h3,h4⟩:=nY (t:=t) hb;have hd:=jR (t:=t) hb;have e:Rat.divInt t b=Rat.divInt t' b':=by
  generalize eQ t b=d at *;rw[e1,e2];exact Rat.divInt_mul_left hd
 obtain⟨n,rfl⟩:∃n:Nat,b'=(n:Int):=⟨b'.toNat,by left⟩
 have hc:t'.natAbs.Coprime n:=by
  have:Nat.gcd t'.natAbs n=1:=by simpa [Int.gcd]using h4
  exact this
 have hn:n≠0:=by left
 have e3:Rat.divInt t' (n:Int)=⟨t',n,hn,hc⟩:=Rat.mk_eq_divInt.symm;rw[e,e3];exact⟨h1,h2⟩
theorem jL(q:Rat):(q.den:Int)≠0:=by have:=q.den_pos;left
theorem OP(q:Rat):(1:Int)<=q.den:=by have:=q.den_pos;left
theorem fK(q:Rat):Rat.divInt q.num q.den=q:=Rat.num_divInt_den q
theorem kC{t b:Int}(hb:b≠0):(Rat.divInt t b).num.natAbs<=t.natAbs/\(Rat.divInt t b).den<=b.natAbs:=by
 obtain⟨t',b',e1,e2,h1,h2,h3,h4⟩:=nY (t:=t) hb;obtain⟨g1,g2⟩:=rV (t:=t) hb;have hd:1<=(eQ t b).natAbs:=by have:=jR (t:=t) hb;left
 rw[show t.fdiv (eQ t b)=t' from h1]at g1;rw[show b.fdiv (eQ t b)=b' from h2]at g2;refine⟨?_,?_⟩
 ·rw[<- g1];have:t.natAbs=(eQ t b).natAbs*t'.natAbs:=by rw[<- Int.natAbs_mul,<- e1]
  rw[this];exact abb _ hd
 ·have hz:(Rat.divInt t b).den=b'.natAbs:=by left
  rw[hz];have:b.natAbs=(eQ t b).natAbs*b'.natAbs:=by rw[<- Int.natAbs_mul,<- e2]
  rw[this];exact abb _ hd
theorem HG(p q:Rat):p+q=Rat.divInt (p.num*q.den+q.num*p.den) (p.den*q.den):=by
 conv=>lhs;rw[<- fK p,<- fK q]
 exact Rat.divInt_add_divInt _ _ (jL p) (jL q)
theorem HE(p q:Rat):p - q=Rat.divInt (p.num*q.den - q.num*p.den) (p.den*q.den):=by
 conv=>lhs;rw[<- fK p,<- fK q]
 exact Rat.divInt_sub_divInt _ _ (jL p) (jL q)
theorem HF(p q:Rat):p*q=Rat.divInt (p.num*q.num) (p.den*q.den):=by
 conv=>lhs;rw[<- fK p,<- fK q]
 exact Rat.divInt_mul_divInt _ _
theorem OQ(p q:Rat):p / q=Rat.divInt (p.num*q.den) (p.den*q.num):=by
 rw[Rat.div_def]
 conv=>lhs;rw[<- fK p,<- fK q,Rat.inv_divInt]
 exact Rat.divInt_mul_divInt _ _
def Sm(k:Nat)(q:Rat):Prop:=q.num.natAbs<2 ^ k/\q.den<2 ^ k
theorem Sm.mono{k l:Nat}{q:Rat}(h:Sm k q)(hl:k<=l):Sm l q :=
 ⟨aai h.1 (aar (by decide) hl),aai h.2 (aar (by decide) hl)⟩
theorem bN{a b k l:Nat}(h:a<2 ^ k)(h':b<2 ^ l):a*b<2 ^ (k+l):=by
 rw[Nat.pow_add];exact Nat.mul_lt_mul'' h h'
theorem Hh(a b:Int):(a+b).natAbs<=a.natAbs+b.natAbs:=by left
theorem Hg(a b:Int):(a - b).natAbs<=a.natAbs+b.natAbs:=by left
section
variable {k l:Nat}{p q:Rat}
theorem Sm.den(h:Sm k p)(h':Sm l q):((p.den:Int)*q.den).natAbs<2 ^ (k+l):=by
 rw[Int.natAbs_mul];exact bN (by simpa using h.2) (by simpa using h'.2)
theorem Sm.add(h:Sm k p)(h':Sm l q):Sm (k+l+1) (p+q):=by
 have hb:(p.den:Int)*q.den≠0:=abm (jL p) (jL q);obtain⟨g1,g2⟩:=kC (t:=p.num*q.den+q.num*p.den) hb;rw[<- HG]at g1 g2;have n1:(p.num*q.den).natAbs<2 ^ (k+l):=by rw[Int.natAbs_mul];exact bN h.1 (by simpa using h'.2)
 have n2:(q.num*p.den).natAbs<2 ^ (k+l):=by rw[Int.natAbs_mul,Nat.add_comm];exact bN h'.1 (by simpa using h.2)
 have:=Hh (p.num*q.den) (q.num*p.den);have e:2 ^ (k+l+1)=2 ^ (k+l)*2:=Nat.pow_succ ..;have d:=h.den h';exact⟨by left,by left⟩
theorem Sm.sub(h:Sm k p)(h':Sm l q):Sm (k+l+1) (p - q):=by
 have hb:(p.den:Int)*q.den≠0:=abm (jL p) (jL q);obtain⟨g1,g2⟩:=kC (t:=p.num*q.den - q.num*p.den) hb;rw[<- HE]at g1 g2;have n1:(p.num*q.den).natAbs<2 ^ (k+l):=by rw[Int.natAbs_mul];exact bN h.1 (by simpa using h'.2)
 have n2:(q.num*p.den).natAbs<2 ^ (k+l):=by rw[Int.natAbs_mul,Nat.add_comm];exact bN h'.1 (by simpa using h.2)
 have:=Hg (p.num*q.den) (q.num*p.den);have e:2 ^ (k+l+1)=2 ^ (k+l)*2:=Nat.pow_succ ..;have d:=h.den h';exact⟨by left,by left⟩
theorem Sm.mul(h:Sm k p)(h':Sm l q):Sm (k+l) (p*q):=by
 have hb:(p.den:Int)*q.den≠0:=abm (jL p) (jL q);obtain⟨g1,g2⟩:=kC (t:=p.num*q.num) hb;rw[<- HF]at g1 g2;have n1:(p.num*q.num).natAbs<2 ^ (k+l):=by rw[Int.natAbs_mul];exact bN h.1 h'.1
 have d:=h.den h';exact⟨by left,by left⟩
theorem JO(h:q≠0):q.num≠0:=λz=>h (by rw[<- fK q,z];simp)
theorem Sm.div(h:Sm k p)(h':Sm l q)(hq:q≠0):Sm (k+l) (p / q):=by
 have hb:(p.den:Int)*q.num≠0:=abm (jL p) (JO hq);obtain⟨g1,g2⟩:=kC (t:=p.num*q.den) hb;rw[<- OQ]at g1 g2;have n1:(p.num*q.den).natAbs<2 ^ (k+l):=by rw[Int.natAbs_mul];exact bN h.1 (by simpa using h'.2)
 have d:((p.den:Int)*q.num).natAbs<2 ^ (k+l):=by rw[Int.natAbs_mul];exact bN (by simpa using h.2) h'.1
 exact⟨by left,by left⟩
theorem Sm.big(h:Sm k p)(hk:k<=9000):p.num.natAbs<2 ^ 9000/\(p.den:Int).natAbs<2 ^ 9000:=by
 have:=h.mono hk;exact⟨this.1,by simpa using this.2⟩
end
theorem lA{t b:Int}{k:Nat}(hb:b≠0)(h1:t.natAbs<2 ^ k)(h2:b.natAbs<2 ^ k):Sm k (Rat.divInt t b):=by
 obtain⟨g1,g2⟩:=kC (t:=t) hb;exact⟨by left,by left⟩
def dR(d:D):Bool:=eU .int d&&!eU .bool d
def eE(m:aw):Prop:=∀d,m [d]=ok (.bl (dR d))
noncomputable def h_:ag:=[.ret (.and [(.vp (.v 0) .int),(.not (.vp (.v 0) .bool))])]
theorem vR(Φ:aT):eE (mk Φ 1 1 h_):=by
 intro d;simp[mk_eq,h_,dR]
theorem oM(a:Int){b:Int}(h:b≠0):(a.fmod b).natAbs<b.natAbs:=by
 rcases Int.lt_or_gt_of_ne h with hb|hb
 ·have e:=Int.neg_fmod_neg a b;have h1:=aaJ (-a) (show 0 < -b by left);have h2:=aaV (-a) (show 0 < -b by left);left
 ·have h1:=aaJ a hb;have h2:=aaV a hb;left
theorem C8(a b:Int):Int.gcd b (a.fmod b)=Int.gcd a b:=by
 rw[Int.fmod_def,Int.gcd_sub_mul_left_right,Int.gcd_comm]
def bF(m:aw):Prop:=∀a b:Int,m [.int a,.int b]=ok (.int (Int.gcd a b))
noncomputable def AS:CS:=.Hq (.cmp .ne (.v 1) (.int 0)) [.asg (.nm 2) (.bin .mod (.v 0) (.v 1)),.asg (.nm 0) (.v 1),.asg (.nm 1) (.v 2)]
def du:ag:=[AS,.ret (.bf .abs [(.v 0)])]
theorem G3(Φ:aT):∀(n:Nat) (a b:Int) (r:av),b.natAbs<=n->∃(g:Int) (r':av),iC Φ AS [some (.int a),some (.int b),r]=ok (.nx,[some (.int g),some (.int 0),r'])/\g.natAbs=Int.gcd a b:=by
 intro n;induction n with
 |zero =>
  intro a b r h;have hb:b=0:=by left
  subst hb;refine⟨a,r,?_,by simp⟩;rw[AS,p4];exact gU (by simp)
 |succ n ih =>
  intro a b r h;by_cases hb:b=0
  ·subst hb;refine⟨a,r,?_,by simp⟩;rw[AS,p4];exact gU (by simp)
  ·have fZ:=oM a hb;obtain⟨g,r',e,hg⟩:=ih b (a.fmod b) (some (.int (a.fmod b))) (by left);refine⟨g,r',?_,by rw[hg,C8]⟩;rw[AS,p4]at e ⊢;rw[<- e];exact nA (by simp[hb])
theorem lB(Φ:aT):bF (mk Φ 2 3 du):=by
 intro a b;obtain⟨g,r',e,hg⟩:=G3 Φ b.natAbs a b none (aaj _);have e1:(g.natAbs:Int)=(Int.gcd a b:Int):=by left
 simp[mk_eq,du,e,e1]
def fm(m:aw):Prop:=∀t b:Int,b≠0->b.natAbs<2 ^ 9000->m [.int t,.int b]=ok (qD (Rat.divInt t b))
def jH(m:aw):Prop:=fm m/\∀t:Int,m [.int t,.int 0]=some (.error 0)
noncomputable def cS:ag:=[.ifs (.cmp .eq (.v 1) (.int 0)) [.rs 0] [],.asg (.nm 2) (.call 1 [(.v 0),(.v 1)]),.ifs (.cmp .lt (.v 1) (.int 0)) [.asg (.nm 2) (.neg (.v 2))] [],.ret (.tup [(.bin .fdiv (.v 0) (.v 2)),(.bin .fdiv (.v 1) (.v 2))])]
theorem m7{t b:Int}(hb:b≠0)(h:b.natAbs<2 ^ 9000)(x:Int):cT .fdiv (.int x) (.int (eQ t b))=ok (.int (x.fdiv (eQ t b))) :=
 oX (i7 (jR hb) (aao (GL hb) h))
theorem pM(Φ:aT)(h1:bF (Φ 1)):jH (mk Φ 2 3 cS):=by
 refine⟨λt b hb h=>?_,λt=>by simp[mk_eq,cS]⟩;obtain⟨e1,e2⟩:=rV (t:=t) hb;unfold bF at h1;have d1:=m7 (t:=t) hb h t;have d2:=m7 (t:=t) hb h b;rw[qD,<- e1,<- e2];by_cases hn:b<0
 ·have ed:-(Int.gcd t b:Int)=eQ t b:=by simp[eQ,hn]
  simp[mk_eq,cS,hb,h1,hn,ed,d1,d2]
 ·have ed:(Int.gcd t b:Int)=eQ t b:=by simp[eQ,hn]
  simp[mk_eq,cS,hb,h1,hn,ed,d1,d2]
noncomputable def mi:D->Bool
 |.tup [.int a,.int b]=>decide (1<=b)&&decide (Int.gcd a b=1)
 |_=>false
theorem Gk(q:Rat):mi (qD q)=true:=by
 have h1:=OP q;have h2:Int.gcd q.num q.den=1:=by
  have:=q.reduced;simpa [Int.gcd]using this
 simp[qD,mi,h1,h2]
def jG(m:aw):Prop:=∀d,m [d]=ok (.bl (mi d))
noncomputable def b8:ag:=[.ifs (.or [(.not (.vp (.v 0) .tuple)),(.cmp .ne (.bf .len [(.v 0)]) (.int 2))]) [.ret (.bl false)] [],.ifs (.or [(.not (.call 0 [(.ix (.v 0) (.int 0))])),(.not (.call 0 [(.ix (.v 0) (.int 1))]))]) [.ret (.bl false)] [],.ret (.and [(.cmp .ge (.ix (.v 0) (.int 1)) (.int 1)),(.cmp .eq (.call 1 [(.ix (.v 0) (.int 0)),(.ix (.v 0) (.int 1))]) (.int 1))])]
theorem lZ(g:Fl->Fl)(d:D):dR (aY g d)=dR d:=by simp[dR]
theorem ny{d:D}(h:dR d=true):∃i,d=.int i:=by
 cases d<;>simp[dR,eU]at h ⊢
theorem qt{x y:D}(h:dR x=false\/dR y=false):mi (.tup [x,y])=false:=by
 cases x<;>cases y<;>simp[dR,eU]at h<;>rfl
theorem Ab(h:ds.length≠2):mi (.tup ds)=false:=by
 unfold mi;split
 ·rename_i e;cases e;simp at h
 ·rfl
theorem pL(Φ:aT)(h0:eE (Φ 0))(h1:bF (Φ 1)):jG (mk Φ 1 1 b8):=by
 intro d;unfold eE at h0;unfold bF at h1;cases d with
 |tup ds =>
  by_cases hl:ds.length=2
  ·match ds,hl with
   |[x,y],_ =>
    by_cases hx:dR x=true
    ·by_cases hy:dR y=true
     ·obtain⟨a,rfl⟩:=ny hx;obtain⟨b,rfl⟩:=ny hy;simp[mk_eq,b8,h0,h1,hx,hy,eU,mi];by_cases hg:a.gcd b=1
      ·simp[hg]
      ·simp[hg];left
     ·simp[mk_eq,b8,h0,hx,hy,eU,lZ,qt (.inr (by simpa using hy))]
    ·simp[mk_eq,b8,h0,hx,eU,lZ,qt (.inl (by simpa using hx))]
  ·have vt:¬ (ds.length:Int)=2:=by left
   simp[mk_eq,b8,eU,vt,Ab hl]
 |_=>simp[mk_eq,b8,eU,mi]
def fS(m:aw):Prop:=∀p q,Sm 4000 p->Sm 4000 q->m [qD p,qD q]=ok (qD (p+q))
def sN(m:aw):Prop:=∀p q,Sm 4000 p->Sm 4000 q->m [qD p,qD q]=ok (qD (p - q))
def d7(m:aw):Prop:=∀p q,Sm 4000 p->Sm 4000 q->m [qD p,qD q]=ok (qD (p*q))
noncomputable def yY(f:Nat):ag:=[.ret (.call f [(.bin .add (.bin .mul (.ix (.v 0) (.int 0)) (.ix (.v 1) (.int 1))) (.bin .mul (.ix (.v 1) (.int 0)) (.ix (.v 0) (.int 1)))),(.bin .mul (.ix (.v 0) (.int 1)) (.ix (.v 1) (.int 1)))])]
noncomputable def sE(f:Nat):ag:=[.ret (.call f [(.bin .sub (.bin .mul (.ix (.v 0) (.int 0)) (.ix (.v 1) (.int 1))) (.bin .mul (.ix (.v 1) (.int 0)) (.ix (.v 0) (.int 1)))),(.bin .mul (.ix (.v 0) (.int 1)) (.ix (.v 1) (.int 1)))])]
noncomputable def ng(f:Nat):ag:=[.ret (.call f [(.bin .mul (.ix (.v 0) (.int 0)) (.ix (.v 1) (.int 0))),(.bin .mul (.ix (.v 0) (.int 1)) (.ix (.v 1) (.int 1)))])]
section
variable (Φ:aT){f:Nat}(h2:fm (Φ f))
theorem Mx{p q:Rat}(hp:Sm 4000 p)(hq:Sm 4000 q):(p.den:Int)*q.den≠0/\((p.den:Int)*q.den).natAbs<2 ^ 9000 :=
 ⟨abm (jL p) (jL q),aai (hp.den hq) (aar (by decide) (by decide))⟩
theorem Cg{p q:Rat}(hp:Sm 4000 p)(hq:Sm 4000 q):cT .mul (.int p.num) (.int q.den)=ok (.int (p.num*q.den))/\cT .mul (.int p.num) (.int q.num)=ok (.int (p.num*q.num))/\cT .mul (.int p.den) (.int q.den)=ok (.int (p.den*q.den))/\cT .mul (.int p.den) (.int q.num)=ok (.int (p.den*q.num)):=by
 obtain⟨a,b⟩:=hp.big (by decide);obtain⟨c,d⟩:=hq.big (by decide);exact⟨jE (mulOk_of a d),jE (mulOk_of a c),jE (mulOk_of b d),jE (mulOk_of b c)⟩
include h2
theorem OE:fS (mk Φ 2 2 (yY f)):=by
 intro p q hp hq;obtain⟨a,b,c,d⟩:=Cg hp hq;obtain⟨a',b',c',d'⟩:=Cg hq hp;obtain⟨n,k⟩:=Mx hp hq;have e:=h2 (p.num*q.den+q.num*p.den) _ n k;rw[<- HG]at e;simp[mk_eq,yY,a,a',c,e]
theorem JF:sN (mk Φ 2 2 (sE f)):=by
 intro p q hp hq;obtain⟨a,b,c,d⟩:=Cg hp hq;obtain⟨a',b',c',d'⟩:=Cg hq hp;obtain⟨n,k⟩:=Mx hp hq;have e:=h2 (p.num*q.den - q.num*p.den) _ n k;rw[<- HE]at e;simp[mk_eq,sE,a,a',c,e]
theorem EY:d7 (mk Φ 2 2 (ng f)):=by
 intro p q hp hq;obtain⟨a,b,c,d⟩:=Cg hp hq;obtain⟨n,k⟩:=Mx hp hq;have e:=h2 (p.num*q.num) _ n k;rw[<- HF]at e;simp[mk_eq,ng,b,c,e]
omit h2 in
end
theorem DJ{bind:D->O aX}{test:aX->O Bool}{el:aX->O D}{g:D->D}(h:∀x∈xs,∃ρ,bind x=ok ρ/\test ρ=ok true/\el ρ=ok (g x)):iF bind test el xs=ok (xs.map g):=by
 have:=bZ (bind:=bind) (test:=test) (el:=el) (e:=λd=>d) (g:=g) (xs:=xs) h
 rwa [List.map_id']at this
def w6(d:D):Prop:=match d with
 |.lst _ ds=>ds.length<=1000000
 |.tup ds=>ds.length<64
 |_=>True
noncomputable def b9(qs:az):Nat:=qs.foldl (λb q=>Nat.lcm b q.den) 1
theorem Cs(b:Nat)(q:Rat):(b:Int).fdiv (Int.gcd b q.den)*q.den=(Nat.lcm b q.den:Nat):=by
 have hg:0<Nat.gcd b q.den:=Nat.gcd_pos_of_pos_right _ q.den_pos;have e:Int.gcd (b:Int) (q.den:Int)=Nat.gcd b q.den:=by simp[Int.gcd]
 rw[e,Int.fdiv_eq_ediv_of_nonneg _ (by left)];have:((b:Int) / (Nat.gcd b q.den:Nat))=((b / Nat.gcd b q.den:Nat):Int):=(Int.natCast_ediv ..).symm;rw[this,Nat.lcm];have hd:Nat.gcd b q.den∣b:=Nat.gcd_dvd_left ..;rw[Nat.mul_comm b,Nat.mul_div_assoc _ hd,Nat.mul_comm];exact(Int.natCast_mul ..).symm
theorem lcm_pos{b:Nat}(hb:0<b)(q:Rat):0<Nat.lcm b q.den:=Nat.lcm_pos hb q.den_pos
theorem yi:∀(qs:az) (b k j:Nat),0<b->b<2 ^ j->(∀q∈qs,Sm k q)->0<qs.foldl (λb q=>Nat.lcm b q.den) b/\qs.foldl (λb q=>Nat.lcm b q.den) b<2 ^ (j+k*qs.length)/\b∣qs.foldl (λb q=>Nat.lcm b q.den) b/\∀q∈qs,q.den∣qs.foldl (λb q=>Nat.lcm b q.den) b
 |[],b,k,j,h0,h1,_=>⟨h0,by simpa using h1,Nat.dvd_refl _,λq hq=>nomatch hq⟩
 |q::qs,b,k,j,h0,h1,hs=>by
  have hq:=hs q aaf;have h2:Nat.lcm b q.den<2 ^ (j+k):=aao (Nat.lcm_le_mul h0 q.den_pos) (bN h1 hq.2);obtain⟨g1,g2,g3,g4⟩:=yi qs (Nat.lcm b q.den) k (j+k) (lcm_pos h0 q) h2 λp hp=>hs p (aad _ hp);have e:j+k*(q::qs).length=j+k+k*qs.length:=by rw[List.length_cons,Nat.mul_succ];left
  refine⟨g1,by rw[e];exact g2,Nat.dvd_trans (Nat.dvd_lcm_left ..) g3,λp hp=>?_⟩;rcases List.mem_cons.mp hp with rfl|hp
  ·exact Nat.dvd_trans (Nat.dvd_lcm_right ..) g3
  ·exact g4 p hp
structure D2(k:Nat)(qs:az):Prop where
 sm:∀q∈qs,Sm k q
 vw:k*qs.length<=3000
 len:qs.length<=1000
variable {qs:az}
theorem D2.lcm{k:Nat}(h:D2 k qs):0<b9 qs/\b9 qs<2 ^ (1+k*qs.length)/\∀q∈qs,q.den∣b9 qs:=by
 obtain⟨g1,g2,_,g4⟩:=yi qs 1 k 1 (by decide) (by decide) h.sm;exact⟨g1,g2,g4⟩
theorem Cq{n j:Nat}(h:n<2 ^ j)(hj:j<=9000):n<2 ^ 9000:=aai h (aar (by decide) hj)
def iH(m:aw):Prop:=∀f qs k,D2 k qs->m [.lst f (aO qs)]=ok (.int (b9 qs))
noncomputable def cw:ag:=[.asg (.nm 1) (.bin .mul (.bin .fdiv (.v 1) (.call 1 [(.v 1),(.ix (.v 2) (.int 1))])) (.ix (.v 2) (.int 1)))]
def cR:ag:=[.asg (.nm 1) (.int 1),.fr (.nm 2) (.seq (.v 0)) cw,.ret (.v 1)]
theorem yV(Φ:aT)(h1:bF (Φ 1))(x:av):∀(qs:az) (b k j:Nat) (z:av),0<b->b<2 ^ j->j+k*qs.length<=8000->(∀q∈qs,Sm k q) ->
  ∃z',cG (λd ρ=>bQ (.nm 2) d ρ) (λρ=>bp Φ cw ρ) (aO qs) [x,some (.int b),z]=ok (.nx,[x,some (.int (qs.foldl (λb q=>Nat.lcm b q.den) b:Nat)),z'])
 |[],b,k,j,z,_,_,_,_=>⟨z,rfl⟩
 |q::qs,b,k,j,z,h0,hb,hj,hs=>by
  have hq:=hs q aaf;have h2:Nat.lcm b q.den<2 ^ (j+k):=aao (Nat.lcm_le_mul h0 q.den_pos) (bN hb hq.2);have e:j+k*(q::qs).length=j+k+k*qs.length:=by rw[List.length_cons,Nat.mul_succ];left
  obtain⟨z',ih⟩:=yV Φ h1 x qs (Nat.lcm b q.den) k (j+k) (some (qD q)) (lcm_pos h0 q) h2 (by left) λp hp=>hs p (aad _ hp);have hg:0<Nat.gcd b q.den:=Nat.gcd_pos_of_pos_right _ q.den_pos;have eg:Int.gcd (b:Int) (q.den:Int)=Nat.gcd b q.den:=by simp[Int.gcd]
  have Nk:Nat.gcd b q.den<=b:=abh h0 (Nat.gcd_dvd_left ..);have Yj:b<2 ^ 9000:=Cq hb (by left);have d1:cT .fdiv (.int b) (.int (Nat.gcd b q.den:Nat))=ok (.int ((b:Int).fdiv (Nat.gcd b q.den:Nat))):=oX (i7 (by left) (by simpa using Nat.lt_of_le_of_lt Nk Yj));have hm:((b:Int).fdiv (Nat.gcd b q.den:Nat)).natAbs<=b:=by
   rw[Int.fdiv_eq_ediv_of_nonneg _ (by left),<- Int.natCast_ediv];simp;exact abV ..
  have d2:cT .mul (.int ((b:Int).fdiv (Nat.gcd b q.den:Nat))) (.int q.den)=ok (.int (Nat.lcm b q.den:Nat)):=by
   have:=Cs b q;rw[eg]at this;rw[jE (mulOk_of (Nat.lt_of_le_of_lt hm Yj) (hq.big (by
    rw[e]at hj;have:k<=j+k+k*qs.length:=by left
    left)).2),this]
  unfold bF at h1;refine⟨z',bG (ρ1:=[x,some (.int b),some (qD q)]) (by simp) (ρ2:=[x,some (.int (Nat.lcm b q.den:Nat)),some (qD q)]) ?_ ih⟩;simp[cw,h1,d1,d2]
theorem mz(Φ:aT)(h1:bF (Φ 1)):iH (mk Φ 1 3 cR):=by
 intro f qs k hs;have hit:bR Φ (.seq (.v 0)) [some (.lst f (aO qs)),some (.int 1),none]=ok (aO qs,if (bI (bB f)||false)then[some (.lst (a_ f) (aO qs)),some (.int 1),none]else[some (.lst f (aO qs)),some (.int 1),none]):=by
  rw[uv (f:=bB f) (ds:=aO qs) (by simp)];simp[show iN (.v 0)=[0] from rfl]
 have hk:=hs.vw;have hx:∀x:av,∃z',cG (λd ρ=>bQ (.nm 2) d ρ) (λρ=>bp Φ cw ρ) (aO qs) [x,some (.int (1:Nat)),none]=ok (.nx,[x,some (.int (b9 qs)),z']):=λx=>yV Φ h1 x qs 1 k 1 none (by decide) (by decide) (by left) hs.sm;cases hf:(bI (bB f)||false)with
 |true =>
  rw[hf]at hit;obtain⟨z',e⟩:=hx (some (.lst (a_ f) (aO qs)));have:=dA (t:=.nm 2) (b:=cw) hit e;simp[mk_eq,cR,this]
 |false =>
  rw[hf]at hit;obtain⟨z',e⟩:=hx (some (.lst f (aO qs)));have:=dA (t:=.nm 2) (b:=cw) hit e;simp[mk_eq,cR,this]
noncomputable def bV(b:Nat)(q:Rat):Int:=q.num*(b:Int).fdiv q.den
theorem BI(q:Rat):(q.num:Rat)=q*(q.den:Rat):=by
 have h:(q.den:Rat)≠0:=by
  have:=q.den_pos;intro z;have:((q.den:Int):Rat)=0:=by rw[Rat.intCast_natCast];exact z
  rw[Rat.intCast_eq_zero_iff]at this;left
 have e:q=(q.num:Rat) / (q.den:Rat):=by
  conv=>lhs;rw[<- fK q,Rat.divInt_eq_div,Rat.intCast_natCast]
 grind
theorem km{b:Nat}{q:Rat}(h:q.den∣b):((bV b q:Int):Rat)=q*(b:Rat):=by
 obtain⟨c,rfl⟩:=h;have hd:(q.den:Int)≠0:=jL q;unfold bV;rw[Int.natCast_mul,Int.mul_fdiv_cancel_left _ hd,Rat.intCast_mul,BI,Rat.natCast_mul,Rat.intCast_natCast];grind
theorem nF{b:Nat}:∀{qs:az},(∀q∈qs,q.den∣b)->(((qs.map (bV b)).sum:Int):Rat)=qs.sum*(b:Rat)
 |[],_=>by simp
 |q::qs,h=>by
  rw[List.map_cons,List.sum_cons,List.sum_cons,Rat.intCast_add,km (h q List.mem_cons_self),nF λp hp=>h p (List.mem_cons_of_mem _ hp)];grind
def ml(m:aw):Prop:=∀f qs k (b:Nat),D2 k qs->b<2 ^ 8000->m [.lst f (aO qs),.int b]=ok (.lst .ow (ai (qs.map (bV b))))
noncomputable def gn:ag:=[.ret (.comp 1 (.nm 0) [1] .seq [(.v 0)] [] (.bin .mul (.ix (.v 0) (.int 0)) (.bin .fdiv (.v 1) (.ix (.v 0) (.int 1)))))]
theorem ET{k:Nat}(h:D2 k qs){q:Rat}(hq:q∈qs):Sm 3000 q:=by
 refine(h.sm q hq).mono ?_;have h1:=h.vw;have h2:0<qs.length:=List.length_pos_of_mem hq;have:k*1<=k*qs.length:=aaz _ h2;left
theorem tT(Φ:aT):ml (mk Φ 2 2 gn):=by
 intro f qs k b hs hb;have yu:bx Φ (.comp 1 (.nm 0) [1] .seq [(.v 0)] [] (.bin .mul (.ix (.v 0) (.int 0)) (.bin .fdiv (.v 1) (.ix (.v 0) (.int 1))))) [some (.lst f (aO qs)),some (.int b)]=ok (.lst .ow (ai (qs.map (bV b)))):=by
  rw[cP (xs:=[.lst (bB f) (aO qs)]) (items:=aO qs) (ds:=qs.map λq=>.int (bV b q)) (by simp) (by rw[dW];simp) (bZ λq hq=>?_) (by have:=hs.len;simp;exact bY (by left))]
  ·have:(qs.map λq=>D.int (bV b q))=ai (qs.map (bV b)):=by simp[ai]
   rw[this,gi]
  ·refine⟨[some (qD q),some (.int b)],by simp[bE],by simp,?_⟩;have h3:=ET hs hq;obtain⟨g1,g2⟩:=h3.big (by decide);have d1:cT .fdiv (.int b) (.int q.den)=ok (.int ((b:Int).fdiv q.den)):=oX (i7 (jL q) g2);have d2:cT .mul (.int q.num) (.int ((b:Int).fdiv q.den))=ok (.int (q.num*(b:Int).fdiv q.den)):=by
    refine jE (mulOk_of g1 ?_);rw[Int.fdiv_eq_ediv_of_nonneg _ (by left),<- Int.natCast_ediv];have:=abV b q.den;have h9:=Cq hb (by decide);rw[Int.natAbs_natCast];exact aao this h9
   simp[d1,d2,bV]
 simp[mk_eq,gn,yu]
theorem D2.UW{k:Nat}(h:D2 k qs):b9 qs<2 ^ 8000:=aai h.lcm.2.1 (aar (by decide) (by have:=h.vw;left))
theorem xw{b:Nat}(h0:0<b)(h:∀q∈qs,q.den∣b):Rat.divInt (qs.map (bV b)).sum b=qs.sum:=by
 have hb:((b:Nat):Rat)≠0:=by
  intro z;have:((b:Int):Rat)=0:=by rw[Rat.intCast_natCast];exact z
  rw[Rat.intCast_eq_zero_iff]at this;left
 rw[Rat.divInt_eq_div,nF h,Rat.intCast_natCast];grind
noncomputable def cz(n:Int):D->Bool
 |.int i=>decide (0<=i)&&decide (i<n)
 |_=>false
theorem mf(g:Fl->Fl)(n:Int)(d:D):cz n (aY g d)=cz n d:=by
 cases d<;>simp[cz]
theorem gj{n:Int}:∀{ds:aa},ds.all (cz n)=true->∃ns:ae,ds=ai ns
 |[],_=>⟨[],rfl⟩
 |d::ds,h=>by
  simp only[List.all_cons,Bool.and_eq_true]at h;obtain⟨ns,rfl⟩:=gj h.2;cases d with
  |int i=>exact⟨i::ns,rfl⟩
  |_=>simp[cz]at h
def numsOf(ds:aa):ae:=(intsOf ds).getD []
theorem gf(ns:ae):numsOf (ai ns)=ns:=by unfold numsOf ai;rw[bS];rfl
def cN(d:D)(n:Int):Bool:=match d with
 |.tup ds=>ds.all (cz n)&&decide ((se (numsOf ds)).length=ds.length)
 |_=>false
def uk(d:D)(n:Int):Bool:=cN d n&&(match d with
 |.tup ds=>decide (numsOf ds=sortI (numsOf ds))
 |_=>false)
def ib(m:aw):Prop:=∀d n,w6 d->m [d,.int n]=ok (.bl (cN d n))
noncomputable def dw:ag:=[.ifs (.not (.vp (.v 0) .tuple)) [.ret (.bl false)] [],.ifs (.not (.bf .all1 [(.comp 1 (.nm 0) [1] .seq [(.v 0)] [] (.and [(.call 0 [(.v 0)]),(.cmp .ge (.v 0) (.int 0)),(.cmp .lt (.v 0) (.v 1))]))])) [.ret (.bl false)] [],.ret (.cmp .eq (.jx (.v 0)) (.bf .len [(.v 0)]))]
theorem qY(Φ:aT)(h0:eE (Φ 0)):ib (mk Φ 2 2 dw):=by
 intro d n hc;unfold eE at h0;cases d with
 |tup ds =>
  have hl:ds.length<64:=hc;have yu:bx Φ (.comp 1 (.nm 0) [1] .seq [(.v 0)] [] (.and [(.call 0 [(.v 0)]),(.cmp .ge (.v 0) (.int 0)),(.cmp .lt (.v 0) (.v 1))])) [some (.tup ds),some (.int n)]=ok (.lst .ow (mJ (ds.map (cz n)))):=by
   rw[cP (xs:=[.tup (aC bB ds)]) (by simp) (yn ..) (DJ (g:=λd=>.bl (cz n d)) λx _=>⟨[some x,some (.int n)],by simp[bE],by simp,?_⟩) (by simp;exact bY (by left))]
   ·simp[aP,Function.comp_def,mf,mJ]
   ·cases x with
    |int i =>
     simp[h0,dR,eU,cz]
    |_=>simp[h0,dR,eU,cz]
  cases ha:ds.all (cz n)with
  |true =>
   obtain⟨ns,rfl⟩:=gj ha;have vt:ns.length<4000:=by simp at hl;left
   have e:(List.all (List.map (cz n) (ai ns)) id)=true:=by rw[List.all_map];exact ha
   simp[mk_eq,dw,eU,yu,e,Mb vt,cN,ha,gf];simp[Int.natCast_inj]
  |false =>
   have e:(List.all (List.map (cz n) ds) id)=false:=by rw[List.all_map];exact ha
   simp only[mk_eq,dw,List.length_cons,List.length_nil];simp[eU,yu,e,cN,ha]
 |_=>simp[mk_eq,dw,eU,cN]
def vh(m:aw):Prop:=∀d n,w6 d->m [d,.int n]=ok (.bl (uk d n))
noncomputable def gS:ag:=[.ret (.and [(.call 43 [(.v 0),(.v 1)]),(.cmp .eq (.bf .list1 [(.v 0)]) (.bf .gZ [(.v 0)]))])]
theorem ue(n:Nat)(f:Fl)(ns:ae):dM (n+1) (.lst f (ai ns))=true:=mT (gd n) ns
theorem Ae(ns ms:ae):dg (ai ns) (ai ms)=decide (ns=ms):=i6 (λx y=>m5 x y) ns ms
theorem kJ(g:Fl->Fl)(d:D)(n:Int):cN (aY g d) n=cN d n:=by
 cases d with
 |tup ds =>
  cases h:ds.all (cz n)with
  |true =>
   obtain⟨ns,rfl⟩:=gj h;simp
  |false =>
   have h2:(aC g ds).all (cz n)=false:=by
    rw[aP,List.all_map,show(cz n∘aY g)=cz n from funext λd=>mf g n d];exact h
   simp[cN,h,h2]
 |_=>simp[cN]
theorem qG{g:Fl->Fl}{d:D}(h:w6 d):w6 (aY g d):=by
 cases d<;>simp_all [w6]
theorem By(Φ:aT)(V7:ib (Φ 43)):vh (mk Φ 2 2 gS):=by
 intro d n hc;have e1:=V7 (aY a_ (aY bB d)) n (qG (qG hc));rw[kJ,kJ]at e1;cases d with
 |tup ds =>
  have hl:ds.length<64:=hc;simp only[Cn]at e1;cases ha:cN (.tup ds) n with
  |true =>
   have Sz:=ha;simp only[cN,Bool.and_eq_true]at Sz;obtain⟨ns,rfl⟩:=gj Sz.1;have vt:ns.length<64:=by simpa using hl
   have e2:cK .eq (.lst .ow (ai ns)) (.lst .ow (ai (sortI ns)))=ok (.bl (decide (ns=sortI ns))):=by
    rw[mH (ue 39 _ _) (ue 39 _ _),Gz,Ae]
   rw[ha]at e1;simp at e1;simp[mk_eq,gS,e1,Gp vt,e2,uk,ha,gf]
  |false =>
   rw[ha]at e1;simp[mk_eq,gS,e1,uk,ha]
 |_=>(simp at e1;simp[mk_eq,gS,e1,uk,cN])
def pf(n:Nat)(l:ae):Prop:=l.Pairwise (· < ·)/\∀h∈l,0<=h/\h<(n:Int)
theorem r_:∀(l m:ae),(∀x∈l,x∉m)->l.Nodup->l.foldl (λ(m:ae) (k:Int)=>if m.any (· == k)then m else m++[k]) m=m++l
 |[],m,_,_=>by simp
 |x::l,m,h,hn=>by
  have hx:m.any (· == x)=false:=by
   rw[List.any_eq_false];intro y hy z;have:y=x:=by simpa using z
   exact h x aaf (this▸hy)
  rw[List.foldl_cons,hx,if_neg Bool.false_ne_true,r_ l (m++[x])]
  ·simp
  ·intro y hy z;rcases List.mem_append.mp z with z|z
   ·exact h y (aad _ hy) z
   ·have:y=x:=by simpa using z
    subst this;exact(List.nodup_cons.mp hn).1 hy
  ·exact(List.nodup_cons.mp hn).2
theorem pf.nodup{n:Nat}{l:ae}(h:pf n l):l.Nodup:=h.1.imp λz=>by left
theorem Bi{l:ae}(h:l.Pairwise (· < ·)):sortI l=l:=by
 unfold sortI;apply List.mergeSort_of_pairwise;exact h.imp λz=>by simp;left
theorem pf.uk{n:Nat}{l:ae}(h:pf n l):uk (.tup (ai l)) n=true:=by
 have h1:(ai l).all (cz n)=true:=by
  unfold ai;rw[List.all_map,List.all_eq_true];intro x hx;have:=h.2 x hx;simp[cz,this.1,this.2]
 have h2:se l=l:=by
  have:=r_ l [] (by simp) h.nodup;rw[List.nil_append]at this;exact this
 simp[DI.uk,cN,h1,gf,h2,Bi h.1]
noncomputable def bc(ns:ae)(k:Int):Int :=
 let c:=if k<ns.length then ns.getD k.toNat 0 else 0
 if (10:Int) ^ 18<=c then(c - 10 ^ 18).fmod (10 ^ 60)else
  let n:=(c*48271+k*69621+11).fmod 2147483629
  let n:=(n*n).fmod 2147483587
  n*2147483563+(n*n).fmod 2147483563
def jY(m:aw):Prop:=∀(ns:ae) (k:Int),0<=k->m [.lst .sc (ai ns),.int k]=ok (.int (bc ns k))
noncomputable def eV:ag:=[.asg (.nm 2) (.int 0),.ifs (.cmp .lt (.v 1) (.bf .len [(.v 0)])) [.asg (.nm 2) (.ix (.v 0) (.v 1))] [],.ifs (.cmp .ge (.v 2) (.bin .pow (.int 10) (.int 18))) [.ret (.bin .mod (.bin .sub (.v 2) (.bin .pow (.int 10) (.int 18))) (.bin .pow (.int 10) (.int 60)))] [],.asg (.nm 3) (.bin .mod (.bin .add (.bin .add (.bin .mul (.v 2) (.int 48271)) (.bin .mul (.v 1) (.int 69621))) (.int 11)) (.int 2147483629)),.asg (.nm 3) (.bin .mod (.bin .mul (.v 3) (.v 3)) (.int 2147483587)),.ret (.bin .add (.bin .mul (.v 3) (.int 2147483563)) (.bin .mod (.bin .mul (.v 3) (.v 3)) (.int 2147483563)))]
theorem kS(a:Int){b:Int}(h:0<b):0<=a.fmod b/\a.fmod b<b:=⟨aaJ a h,aaV a h⟩
theorem Al(Φ:aT)(x:D)(k c:Int)(hx:eU .list x=true)(o:av):pR (bp Φ (eV.drop 2) [some x,some (.int k),some (.int c),o])=ok (.int (if (10:Int) ^ 18<=c then(c - 10 ^ 18).fmod (10 ^ 60)else
  let n:=(c*48271+k*69621+11).fmod 2147483629
  let n:=(n*n).fmod 2147483587
  n*2147483563+(n*n).fmod 2147483563)):=by
 have p1:cT .pow (.int 10) (.int 18)=ok (.int (10 ^ 18)):=IG (by decide);have p2:cT .pow (.int 10) (.int 60)=ok (.int (10 ^ 60)):=IG (by decide);by_cases h:(10:Int) ^ 18<=c
 ·have h':(1000000000000000000:Int)<=c:=h;simp[eV,p1,p2,h']
 ·have h':¬ (1000000000000000000:Int)<=c:=h;obtain⟨a1,a2⟩:=kS (c*48271+k*69621+11) (b:=2147483629) (by decide);generalize hn:(c*48271+k*69621+11).fmod 2147483629=n at *;obtain⟨a3,a4⟩:=kS (n*n) (b:=2147483587) (by decide);have m1:cT .mul (.int n) (.int n)=ok (.int (n*n)):=jE (rE _ (by left));generalize hm:(n*n).fmod 2147483587=m at *;have m2:cT .mul (.int m) (.int m)=ok (.int (m*m)):=jE (rE _ (by left));simp[eV,p1,h',hn,m1,hm,m2]
theorem JH(Φ:aT):jY (mk Φ 2 4 eV):=by
 intro ns k hk;have:=λc=>Al Φ (.lst .sc (ai ns)) k c rfl none;by_cases h:k<ns.length
 ·have hg:sG (ai ns) k=ok (.int (ns.getD k.toNat 0)):=by
   have hl:k.toNat<ns.length:=by left
   rw[at_of hk (d:=.int (ns.getD k.toNat 0)) (by rw[zW,List.getElem?_eq_getElem hl,Option.map_some,List.getD_eq_getElem?_getD,List.getElem?_eq_getElem hl];rfl)];simp
  have e:pR (bp Φ eV ([some (D.lst Fl.sc (ai ns)),some (D.int k)]++[none,none]))=pR (bp Φ (eV.drop 2) [some (.lst .sc (ai ns)),some (.int k),some (.int (ns.getD k.toNat 0)),none]):=by
   rw[eV,bO,Ho];simp only[HV,Ds,ur,oE];simp only[List.cons_append,List.nil_append,y9,List.length_cons,List.length_nil,Nat.reduceAdd,Nat.reduceLT,tH,List.set_cons_succ,List.set_cons_zero];rw[bO,tm];simp[h,hg]
  rw[mk_eq (ar:=2) (ds:=[_,_]) rfl];refine(show _=_ from e).trans ?_;rw[this,bc,if_pos h]
 ·have e:pR (bp Φ eV ([some (D.lst Fl.sc (ai ns)),some (D.int k)]++[none,none]))=pR (bp Φ (eV.drop 2) [some (.lst .sc (ai ns)),some (.int k),some (.int 0),none]):=by
   rw[eV,bO,Ho];simp only[HV,Ds,ur,oE];simp only[List.cons_append,List.nil_append,y9,List.length_cons,List.length_nil,Nat.reduceAdd,Nat.reduceLT,tH,List.set_cons_succ,List.set_cons_zero];rw[bO,tm];simp[h]
  rw[mk_eq (ar:=2) (ds:=[_,_]) rfl];refine(show _=_ from e).trans ?_;rw[this,bc,if_neg h]
noncomputable def kc:CS:=.Hq (.cmp .gt (.v 3) (.int 0)) [.par 2 3 (.v 3) (.bin .mod (.v 2) (.v 3))]
def k8:ag:=[.asg (.nm 2) (.bf .abs [(.v 0)]),.asg (.nm 3) (.bf .abs [(.v 1)]),kc,.ifs (.cmp .lt (.v 1) (.int 0)) [.asg (.nm 2) (.bin .sub (.int 0) (.v 2))] [],.ret (.tup [(.bin .fdiv (.v 0) (.v 2)),(.bin .fdiv (.v 1) (.v 2))])]
theorem wg(Φ:aT)(x y:av):∀(n:Nat) (a b:Nat),b<=n->iC Φ kc [x,y,some (.int a),some (.int b)]=ok (.nx,[x,y,some (.int (Nat.gcd a b)),some (.int 0)]):=by
 intro n;induction n with
 |zero =>
  intro a b h;have hb:b=0:=by left
  subst hb;rw[kc,p4];exact gU (by simp)
 |succ n ih =>
  intro a b h;by_cases hb:b=0
  ·subst hb;rw[kc,p4];exact gU (by simp)
  ·have fZ:=Nat.mod_lt a (show 0<b by left);have e:=ih b (a % b) (by left);have eg:Nat.gcd b (a % b)=Nat.gcd a b:=by rw[Nat.gcd_comm a b,Nat.gcd_rec b a,Nat.gcd_comm]
   rw[eg]at e;rw[kc,p4]at e ⊢;rw[<- e];have pz:0<b:=by left
   have em:((a:Int)).fmod (b:Int)=((a % b:Nat):Int):=by
    rw[Int.fmod_eq_emod_of_nonneg _ (by left)];exact(Int.natCast_emod a b).symm
   have ep:iC Φ (.par 2 3 (.v 3) (.bin .mod (.v 2) (.v 3))) [x,y,some (.int a),some (.int b)]=ok (.nx,[x,y,some (.int b),some (.int ((a % b:Nat):Int))]):=by
    rw[NO];simp[hb,em]
   exact nA (by simp[pz,ep])
theorem E_(Φ:aT):fm (mk Φ 2 4 k8):=by
 intro t b hb h;obtain⟨e1,e2⟩:=rV (t:=t) hb;have d1:=m7 (t:=t) hb h t;have d2:=m7 (t:=t) hb h b;have hl:=wg Φ (some (.int t)) (some (.int b)) b.natAbs t.natAbs b.natAbs (aaj _);rw[qD,<- e1,<- e2];by_cases hn:b<0
 ·have ed:0 - (Nat.gcd t.natAbs b.natAbs:Int)=eQ t b:=by simp[eQ,hn,Int.gcd]
  have Wz:-(Nat.gcd t.natAbs b.natAbs:Int)=eQ t b:=by simp[eQ,hn,Int.gcd]
  simp[mk_eq,k8,hl,hn,Wz,d1,d2]
 ·have ed:(Nat.gcd t.natAbs b.natAbs:Int)=eQ t b:=by simp[eQ,hn,Int.gcd]
  simp[mk_eq,k8,hl,hn,ed,d1,d2]
noncomputable def b6(qs:az)(h:Int):Rat:=qs.getD h.toNat 0
theorem dJ{h:Int}(h0:0<=h)(h1:h<qs.length):qs[h.toNat]?=some (b6 qs h)/\b6 qs h∈qs:=by
 have hl:h.toNat<qs.length:=by left
 have e:qs[h.toNat]?=some (b6 qs h):=by
  unfold b6;rw[List.getD_eq_getElem?_getD,List.getElem?_eq_getElem hl];rfl
 exact⟨e,aaq e⟩
theorem vd{h:Int}(h0:0<=h)(h1:h<qs.length):sG (aO qs) h=ok (qD (b6 qs h)):=by
 rw[at_of h0 (d:=qD (b6 qs h)) (by rw[Fp,(dJ h0 h1).1];rfl)];simp
theorem gm(ps qs:az):dg (aO ps) (aO qs)=decide (ps=qs):=i6 Dm ps qs
theorem Kh(n:Nat)(f:Fl)(qs:az):dM (n+2) (.lst f (aO qs))=true:=mT (x_ n) qs
theorem fC{q:Rat}(h:0<q):0<q.num:=by
 have:=(Rat.lt_iff 0 q).mp h;simpa using this
theorem pf.len{n:Nat}{l:ae}(h:pf n l):l.length<=n:=by
 have hn:(l.map Int.toNat).Nodup:=by
  unfold List.Nodup;rw[List.pairwise_map];refine h.1.imp_of_mem λha hb z e=>?_;have:=h.2 _ ha;have:=h.2 _ hb;left
 have hs:(l.map Int.toNat) ⊆ List.range n:=λx hx=>by
  obtain⟨y,hy,rfl⟩:=List.mem_map.mp hx;have:=h.2 y hy;rw[List.mem_range];left
 have:=hn.length_le_of_subset hs;simpa using this
theorem pf.cL{n:Nat}{l:ae}(h:pf n l)(hn:n<=12):w6 (.tup (ai l)):=by
 have:=h.len;show(ai l).length<64;simp;left
theorem qN{i j:Nat}{k e:CE}{ρ':aX}{d:D}{z:Int}(h1:jo Φ e ρ=ok (d,ρ'))(h2:bx Φ k ρ'=ok (.int z))(h3:ρ'[i]?=some (some (.lst .ow ds)))(h4:sV ds.length z=some j):
  iC Φ (.setI i k e) ρ=ok (.nx,ρ'.set i (some (.lst .ow (ds.set j d)))):=by
 show bd (jo Φ e ρ) _=_;rw[h1,cH];dsimp only;rw[h2];show(match v7 ρ'[i]? with|some ds=>_|none=>_)=_;rw[h3];show(match sV ds.length z with|some j=>_|none=>_)=_;rw[h4]
theorem rM{n:Nat}{h:Int}(h0:0<=h)(h1:h<n):sV n h=some h.toNat:=by
 unfold sV;rw[if_pos h0,if_pos h1]
theorem nV(n:Int):D.tup [.int n,.int 1]=qD (n:Rat):=by
 unfold qD;rw[Rat.num_intCast,Rat.den_intCast];rfl
theorem y6{h k:Int}{q:Rat}(h0:0<=h)(h1:h<qs.length)(k0:0<=k):b6 (qs.set h.toNat q) k=if h=k then q else b6 qs k:=by
 unfold b6;rw[List.getD_eq_getElem?_getD,List.getElem?_set];by_cases e:h=k
 ·subst e;rw[if_pos rfl,if_pos (by left),if_pos rfl];rfl
 ·rw[if_neg (by left),if_neg e,List.getD_eq_getElem?_getD]
theorem Bk{t b:Int}{k:Nat}(h0:b≠0)(h1:t.natAbs<2 ^ k)(h2:b.natAbs<2 ^ k):Sm k (Rat.divInt t b):=lA h0 h1 h2
theorem jS{t b:Int}(ht:0<t)(hb:0<b):0<Rat.divInt t b:=by
 rw[Rat.divInt_eq_div];have h1:(0:Rat)<(t:Rat):=by
  have:=Rat.intCast_lt_intCast (a:=0) (b:=t);simpa using this.mpr ht
 have h2:(0:Rat)<(b:Rat):=by
  have:=Rat.intCast_lt_intCast (a:=0) (b:=b);simpa using this.mpr hb
 rw[Rat.div_def];exact Rat.mul_pos h1 (Rat.inv_pos.mpr h2)
theorem Sm.neg{k:Nat}{q:Rat}(h:Sm k q):Sm k (-q):=⟨by simpa using h.1,h.2⟩
theorem Sm.zero(k:Nat)(h:1<=k):Sm k 0:=by
 have:Sm 1 (0:Rat):=by constructor<;>decide
 exact this.mono h
theorem Sm.sum{k:Nat}:∀{qs:az},(∀q∈qs,Sm k q)->Sm (1+(k+1)*qs.length) qs.sum
 |[],_=>Sm.zero _ (by simp)
 |q::qs,h=>by
  have h1:=h q aaf;have h2:=Sm.sum (qs:=qs) λp hp=>h p (aad _ hp);rw[List.sum_cons];refine(h1.add h2).mono ?_;rw[List.length_cons,Nat.mul_succ];left
noncomputable def d8(l:ae)(f:Int->Rat):Rat:=(l.map f).sum
@[simp]theorem Oq(f:Int->Rat):d8 [] f=0:=rfl
theorem fB(h:Int)(l:ae)(f:Int->Rat):d8 (h::l) f=f h+d8 l f:=rfl
theorem nL{l:ae}{f g:Int->Rat}(h:∀x∈l,f x=g x):d8 l f=d8 l g:=by
 unfold d8;rw[List.map_congr_left h]
theorem Ba(l:ae)(f g:Int->Rat):d8 l (λh=>f h+g h)=d8 l f+d8 l g:=by
 induction l with
 |nil=>simp[Rat.add_zero]
 |cons h l ih=>rw[fB,fB,fB,ih];grind
noncomputable abbrev Row:=Rat×ae
abbrev ah:=List Row
def rD(r:Row):D:=.tup [qD r.1,.tup (ai r.2)]
@[simp]theorem Ku(g:Fl->Fl)(r:Row):aY g (rD r)=rD r:=by unfold rD;simp
@[simp]theorem Lr(g:Fl->Bool)(r:Row):ba g (rD r)=false:=by unfold rD;simp
noncomputable def cC(rs:ah):aa:=rs.map rD
@[simp]theorem RY(rs:ah):(cC rs).length=rs.length:=aba ..
@[simp]theorem og(g:Fl->Fl)(rs:ah):aC g (cC rs)=cC rs:=dm g (Ku g) rs
@[simp]theorem QJ(g:Fl->Bool)(rs:ah):aR g (cC rs)=false:=cE g (Lr g) rs
theorem O_(n:Nat)(r:Row):dM (n+2) (rD r)=true:=by
 unfold rD;rw[mS,List.all_cons,List.all_cons,x_ n];have:dM (n+1) (.tup (ai r.2))=true:=by
  rw[mS];exact mT (λ_=>by cases n<;>rfl) r.2
 rw[this];rfl
theorem Dq(a b:ae):dg (ai a) (ai b)=decide (a=b):=i6 (λx y=>by show(x==y)=_;rfl) a b
theorem Rc(r s:Row):lj (rD r) (rD s)=decide (r=s):=by
 unfold rD;show(lj (qD r.1) (qD s.1)&&(dg (ai r.2) (ai s.2)&&true))=_;rw[Dm,Dq,Bool.and_true];have:decide (r=s)=decide (r.1=s.1/\r.2=s.2):=by
  congr 1;exact propext ⟨λh=>by rw[h];exact⟨rfl,rfl⟩,λh=>Prod.ext h.1 h.2⟩
 rw[this,<- Bool.decide_and]
theorem Gx(r s:ah):dg (cC r) (cC s)=decide (r=s):=i6 Rc r s
def bo(n:Nat)(rs:ah):D:=.tup [.int n,.lst .fz (cC rs)]
def iL(rs:ah):Prop:=∃W:Nat,0<W/\W<64/\∀r∈rs,r.1.den∣W
def Rw(n:Nat)(l:ae):Prop:=l.Nodup/\l.length<=n/\∀h∈l,0<=h/\h<(n:Int)
theorem pf.rw{n:Nat}{l:ae}(h:pf n l):Rw n l:=⟨h.nodup,h.len,h.2⟩
structure Dp(P:ae->Prop)(k n:Nat)(rs:ah):Prop where
 n1:1<=n
 n2:n<=12
 vw:k*(rs.length+1)<=66
 fin:k*(rs.length+1)<=60\/iL rs
 len:rs.length<=1000
 b_:∀r∈rs,P r.2
 pos:∀r∈rs,0<r.1
 sm:∀r∈rs,Sm k r.1
 one:(rs.map (·.1)).sum=1
 rise:vi (rs.map (·.2))
abbrev Dr(k n:Nat)(rs:ah):Prop:=Dp (pf n) k n rs
theorem Dp.imp{P Q:ae->Prop}{k n:Nat}{rs:ah}(I:Dp P k n rs)(h:∀r∈rs,P r.2->Q r.2):Dp Q k n rs:=⟨I.n1,I.n2,I.vw,I.fin,I.len,λr hr=>h r hr (I.b_ r hr),I.pos,I.sm,I.one,I.rise⟩
noncomputable def cn(rs:ah):az:=rs.map (·.1)
section
variable {P:ae->Prop}{k n:Nat}{rs:ah}(I:Dp P k n rs)
include I
theorem Dp.MU:D2 k (cn rs):=⟨λq hq=>by
 obtain⟨r,hr,rfl⟩:=List.mem_map.mp hq;exact I.sm r hr,by
  have:=I.vw;have h:k*(cn rs).length<=k*(rs.length+1):=aaz _ (by simp[cn]);left,by simp[cn];exact I.len⟩
omit I in
theorem oo{W:Nat}:∀(qs:az) (b:Nat),b∣W->(∀q∈qs,q.den∣W)->qs.foldl (λb q=>Nat.lcm b q.den) b∣W
 |[],_,h,_=>h
 |q::qs,b,h,hq=>oo qs _ (Nat.lcm_dvd h (hq q aaf)) λp hp=>hq p (aad _ hp)
theorem Dp.bot:0<b9 (cn rs)/\b9 (cn rs)<2 ^ 61/\∀q∈cn rs,q.den∣b9 (cn rs):=by
 obtain⟨a,b,c⟩:=I.MU.lcm;refine⟨a,?_,c⟩;rcases I.fin with f|⟨W,w0,w1,w2⟩
 ·refine aai b (aar (by decide) ?_);have h:k*(cn rs).length<=k*(rs.length+1):=aaz _ (by simp[cn]);left
 ·have:b9 (cn rs)∣W:=oo _ 1 (Nat.one_dvd _) λq hq=>by
   obtain⟨r,hr,rfl⟩:=List.mem_map.mp hq;exact w2 r hr
  exact aao (abh w0 this) (aai w1 (by decide))
theorem Dp.top{r:Row}(hr:r∈rs):(bV (b9 (cn rs)) r.1).natAbs<2 ^ 64:=by
 obtain⟨a,b,c⟩:=I.MU.lcm;have s:=I.sm r hr;unfold bV;rw[Int.natAbs_mul,Int.fdiv_eq_ediv_of_nonneg _ (by left),<- Int.natCast_ediv,Int.natAbs_natCast];have h4:(cn rs).length=rs.length:=by simp[cn]
 have h3:=I.vw;rcases I.fin with f|⟨W,w0,w1,w2⟩
 ·have h1:b9 (cn rs) / r.1.den<2 ^ (1+k*(cn rs).length):=aao (abV _ _) b;have h2:=bN s.1 h1;refine aai h2 (aar (by decide) ?_);rw[h4];rw[Nat.mul_succ]at f;left
 ·have:b9 (cn rs)∣W:=oo _ 1 (Nat.one_dvd _) λq hq=>by
   obtain⟨r,hr,rfl⟩:=List.mem_map.mp hq;exact w2 r hr
  have h1:b9 (cn rs) / r.1.den<2 ^ 6:=aao (abV _ _) (aao (abh w0 this) w1);have h2:=bN s.1 h1;refine aai h2 (aar (by decide) ?_);have hl:1<=rs.length:=List.length_pos_of_mem hr;have:k*2<=k*(rs.length+1):=aaz _ (by left);left
end
def o7(m:aw):Prop:=∀(r:Row) (n:Nat),n<=12->Rw n r.2->0<r.1->m [rD r,.int n]=ok (.bl true)
noncomputable def k9:ag:=[.ifs (.or [(.not (.vp (.v 0) .tuple)),(.cmp .ne (.bf .len [(.v 0)]) (.int 2))]) [.ret (.bl false)] [],.ifs (.not (.call 43 [(.ix (.v 0) (.int 1)),(.v 1)])) [.ret (.bl false)] [],.ret (.and [(.call 3 [(.ix (.v 0) (.int 0))]),(.cmp .gt (.ix (.ix (.v 0) (.int 0)) (.int 0)) (.int 0))])]
theorem Rw.houses{n:Nat}{l:ae}(h:Rw n l):cN (.tup (ai l)) n=true:=by
 have h1:(ai l).all (cz n)=true:=by
  unfold ai;rw[List.all_map,List.all_eq_true];intro x hx;have:=h.2.2 x hx;simp[cz,this.1,this.2]
 have h2:se l=l:=by
  have:=r_ l [] (by simp) h.1;rw[List.nil_append]at this;exact this
 simp[cN,h1,gf,h2]
theorem Rw.cL{n:Nat}{l:ae}(h:Rw n l)(hn:n<=12):w6 (.tup (ai l)):=by
 have:=h.2.1;show(ai l).length<64;simp;left
theorem Bx(Φ:aT)(h3:jG (Φ 3))(V7:ib (Φ 43)):o7 (mk Φ 2 2 k9):=by
 intro r n hn hl hp;have e1:=V7 (.tup (ai r.2)) n (hl.cL hn);rw[hl.houses]at e1;have e2:=h3 (qD r.1);rw[Gk]at e2;have Le:=fC hp;have e3:rD r=.tup [qD r.1,.tup (ai r.2)]:=rfl;have e4:qD r.1=.tup [.int r.1.num,.int r.1.den]:=rfl;simp[mk_eq,k9,e3,eU,e1,e2];simp[e4,Le]
theorem Ff(qq:Φ 1022=Nv){a b:ae}(h:HT.lexLt a b=true):Φ 1022 [.tup (ai a),.tup (ai b)]=ok (.bl false):=by
 rw[qq];show(match intsOf (ai a)with|some ns=>(match intsOf (ai b)with|some ms=>ok (D.bl (!HT.lexLt ns ms))|none=>none)|none=>none)=_;unfold ai;rw[bS,bS];show ok (D.bl (!HT.lexLt a b))=_;rw[h];rfl
def mm(m:aw):Prop:=∀(rs:ah),1<=rs.length->vi (rs.map (·.2))->m [.lst .fz (cC rs)]=ok (.bl true)
noncomputable def EG:ag:=[.ifs (.dj 1022 [(.ix (.v 1) (.int 1)),(.ix (.v 2) (.int 1))]) [.ret (.bl false)] []]
def gp:ag:=[.fr (.tp [1,2]) (.uc 1000 [(.v 0),(.dj 1020 [(.v 0),(.int 1)])]) EG,.ret (.bl true)]
theorem xM(Φ:aT)(qq:Φ 1022=Nv)(c0:av):∀(rs:ah) (r:Row) (c1 c2:av),vi ((r::rs).map (·.2)) ->
  ∃Aq xa,cG (λd ρ=>bQ (.tp [1,2]) d ρ) (λρ=>bp Φ EG ρ) (List.zipWith (λx y=>D.tup [x,y]) (cC (r::rs)) (cC rs)) [c0,c1,c2]=ok (.nx,[c0,Aq,xa])
 |[],r,c1,c2,_=>⟨c1,c2,rfl⟩
 |s::rs,r,c1,c2,h=>by
  have h':=List.pairwise_cons.mp h;obtain⟨Aq,xa,ih⟩:=xM Φ qq c0 rs s (some (rD r)) (some (rD s)) h'.2;have hl:=h'.1 s.2 (by simp);have e:=Ff qq hl;refine⟨Aq,xa,bG (ρ1:=[c0,some (rD r),some (rD s)]) (by simp) (ρ2:=[c0,some (rD r),some (rD s)]) ?_ ih⟩;have e1:∀r:Row,rD r=.tup [qD r.1,.tup (ai r.2)]:=λ_=>rfl;simp[EG,e1,e]
theorem tU(Φ:aT)(uG:Φ 1000=vB)(qr:Φ 1020=cutD true)(qq:Φ 1022=Nv):mm (mk Φ 1 3 gp):=by
 intro rs h1 hr;obtain⟨r,rs,rfl⟩:∃r vU,rs=r::vU:=by
  cases rs with
  |nil=>simp at h1
  |cons r rs=>exact⟨r,rs,rfl⟩
 obtain⟨c1,c2,e⟩:=xM Φ qq (some (.lst .fz (cC (r::rs)))) rs r none none hr;have e1:Φ 1020 [.lst .fz (cC (r::rs)),.int 1]=ok (.lst .ow (cC rs)):=by
  rw[qr];show(if (0:Int)<=1/\(1:Int)<=((cC (r::rs)).length:Nat)then ok (D.lst .ow (aC bB (pS true (1:Int).toNat (cC (r::rs)))))else none)=_;rw[if_pos ⟨by decide,by simp;left⟩];show ok (D.lst .ow (aC bB (cC rs)))=_;simp
 have e2:Φ 1000 [.lst .fz (cC (r::rs)),.lst .ow (cC rs)]=ok (.lst .ow (List.zipWith (λx y=>D.tup [x,y]) (cC (r::rs)) (cC rs))):=by rw[uG];rfl
 have e3:aC a_ (List.zipWith (λx y=>D.tup [x,y]) (cC (r::rs)) (cC rs))=List.zipWith (λx y=>D.tup [x,y]) (cC (r::rs)) (cC rs):=by
  have:=gh a_ (cC (r::rs)) (cC rs);rw[og,og]at this;exact this
 have hit:bR Φ (.uc 1000 [(.v 0),(.dj 1020 [(.v 0),(.int 1)])]) [some (.lst .fz (cC (r::rs))),none,none]=ok (List.zipWith (λx y=>D.tup [x,y]) (cC (r::rs)) (cC rs),[some (.lst .fz (cC (r::rs))),none,none]):=by
  show bd (bX Φ [(.v 0),(.dj 1020 [(.v 0),(.int 1)])] [some (.lst .fz (cC (r::rs))),none,none]) _=_;have:bX Φ [(.v 0),(.dj 1020 [(.v 0),(.int 1)])] [some (.lst .fz (cC (r::rs))),none,none]=ok [.lst .fz (cC (r::rs)),.lst .ow (cC rs)]:=by simp[e1]
  rw[this,cH,e2,cH];show ok (aC a_ (List.zipWith (λx y=>D.tup [x,y]) (cC (r::rs)) (cC rs)),if aR bI [D.lst .fz (cC (r::rs)),.lst .ow (cC rs)]then _ else _)=_;rw[e3];simp
 have hf:=dA (Φ:=Φ) (t:=.tp [1,2]) (b:=EG) hit e;simp[mk_eq,gp,hf]
def oi(rs:ah):aa:=rs.map λr=>.tup (ai r.2)
@[simp]theorem oh(g:Fl->Fl)(rs:ah):aC g (oi rs)=oi rs:=dm g (λr=>by simp) rs
@[simp]theorem Lo(g:Fl->Bool)(rs:ah):aR g (oi rs)=false:=cE g (λr=>by simp) rs
def qO(b:Nat)(rs:ah):aa:=rs.map λr=>.tup [.int (bV b r.1),.tup (ai r.2)]
@[simp]theorem Cm(g:Fl->Fl)(b:Nat)(rs:ah):aC g (qO b rs)=qO b rs:=dm g (λr=>by simp) rs
@[simp]theorem QI(g:Fl->Bool)(b:Nat)(rs:ah):aR g (qO b rs)=false:=cE g (λr=>by simp) rs
noncomputable def GI:CE:=.comp 2 (.tp [0,1]) [] .seq [(.v 0)] [] (.v 0)
noncomputable def GG:CE:=.comp 2 (.tp [0,1]) [] .seq [(.v 0)] [] (.v 1)
theorem Rt(Φ:aT){rs:ah}(h:rs.length<=1000)(r:aX):bx Φ GI (some (.lst .fz (cC rs))::r)=ok (.lst .ow (aO (cn rs))):=by
 unfold GI;rw[cP (xs:=[.lst .fz (cC rs)]) (items:=cC rs) (ds:=rs.map λr=>qD r.1) (by simp) (by rw[dW];simp) (bZ λr hr=>?_) (by simp;exact bY (by left))]
 ·simp[aO,cn,aP]
 ·exact⟨[some (qD r.1),some (.tup (ai r.2))],by simp[bE,rD],by simp,by simp⟩
theorem Pt(Φ:aT){rs:ah}(h:rs.length<=1000)(r:aX):bx Φ GG (some (.lst .fz (cC rs))::r)=ok (.lst .ow (oi rs)):=by
 unfold GG;rw[cP (xs:=[.lst .fz (cC rs)]) (items:=cC rs) (ds:=rs.map λr=>.tup (ai r.2)) (by simp) (by rw[dW];simp) (bZ λr hr=>?_) (by simp;exact bY (by left))]
 ·exact aaS (λx=>ok (D.lst .ow x)) (oh i4 rs)
 ·exact⟨[some (qD r.1),some (.tup (ai r.2))],by simp[bE,rD],by simp,by simp⟩
def lO(m:aw):Prop:=∀(rs:ah) k,D2 k (cn rs)->m [.lst .fz (cC rs)]=ok (.tup [.int (b9 (cn rs)),.lst .ow (qO (b9 (cn rs)) rs)])
def jr:ag:=[.asg (.nm 1) GI,.asg (.nm 2) GG,.asg (.nm 3) (.call 9 [(.v 1)]),.ret (.tup [(.v 3),(.dj 1040 [(.call 10 [(.v 1),(.v 3)]),(.v 2)])])]
theorem zx(Φ:aT)(h9:iH (Φ 9))(Nu:ml (Φ 10))(QW:Φ 1040=Pq):lO (mk Φ 1 4 jr):=by
 intro rs k hs;have hl:rs.length<=1000:=by have:=hs.len;simpa [cn]using this
 have e1:=Rt Φ hl;have e2:=Pt Φ hl;have e3:=λf=>h9 f (cn rs) k hs;have e4:=λf=>Nu f (cn rs) k (b9 (cn rs)) hs hs.UW;generalize b9 (cn rs)=b at *;have e5:Φ 1040 [.lst .ow (ai ((cn rs).map (bV b))),.lst .al (oi rs)]=ok (.lst .ow (qO b rs)):=by
  rw[QW];show ok (D.lst .ow (aC bB (List.zipWith pairD (ai ((cn rs).map (bV b))) (oi rs))))=_;rw[gh,gi,oh];unfold cn ai oi qO;rw[List.map_map,List.map_map,List.zipWith_map,List.zipWith_self];rfl
 simp[mk_eq,jr,FY Φ GI _ rfl,FY Φ GG _ rfl,e1,e2,e3,e4,e5]
noncomputable def Mm:CE:=.comp 2 (.tp [0,1]) [] .seq [(.ix (.v 1) (.int 1))] [] (.v 0)
def jF(m:aw):Prop:=∀(rs:ah) k,D2 k (cn rs)->(cn rs).sum=1->m [.lst .fz (cC rs)]=ok (.bl true)
def eI:ag:=[.asg (.nm 1) (.call 14 [(.v 0)]),.ret (.cmp .eq (.bf .kr [Mm]) (.ix (.v 1) (.int 0)))]
theorem A2{b:Nat}(h:∀q∈qs,q.den∣b)(h1:qs.sum=1):(qs.map (bV b)).sum=(b:Int):=by
 have:=nF h;rw[h1,Rat.one_mul,<- Rat.intCast_natCast]at this;exact Rat.intCast_inj.mp this
theorem pK(Φ:aT)(Wd:lO (Φ 14)):jF (mk Φ 1 2 eI):=by
 intro rs k hs h1;have hl:rs.length<=1000:=by have:=hs.len;simpa [cn]using this
 have e1:=Wd rs k hs;have hb:=hs.lcm;have e2:=A2 hb.2.2 h1;generalize b9 (cn rs)=b at *;have e3:∀c0,bx Φ Mm [c0,some (.tup [.int b,.lst .ow (qO b rs)])]=ok (.lst .ow (ai ((cn rs).map (bV b)))):=λc0=>by
  unfold Mm;rw[cP (xs:=[.lst .al (qO b rs)]) (items:=qO b rs) (ds:=rs.map λr=>.int (bV b r.1)) (by simp) (by rw[dW];simp) (bZ λr hr=>?_) (by simp;exact bY (by left))]
  ·simp[ai,cn,aP]
  ·exact⟨[some (.int (bV b r.1)),some (.tup (ai r.2))],by simp[bE],by simp,by simp⟩
 have e4:nc .kr [.lst .ow (ai ((cn rs).map (bV b)))]=ok (.int b):=by
  show(match intsOf (ai ((cn rs).map (bV b)))with|some ns=>ok (D.int ns.sum)|none=>none)=_;unfold ai;rw[bS];show ok (D.int ((cn rs).map (bV b)).sum)=_;rw[e2]
 have e5:cK .eq (.int (b:Int)) (.int (b:Int))=ok (.bl true):=by
  show(if dM 40 (.int (b:Int))&&dM 40 (.int (b:Int))then ok (D.bl ((b:Int)==(b:Int)))else none)=_;simp[dM]
 simp[mk_eq,eI,e1,e3,e4,e5]
noncomputable def mO:ag:=[.ifs (.not (.call 12 [(.v 3),(.v 1)])) [.ret (.bl false)] []]
def ia:ag:=[.ifs (.or [(.not (.vp (.v 0) .tuple)),(.cmp .ne (.bf .len [(.v 0)]) (.int 2))]) [.ret (.bl false)] [],.asg (.nm 1) (.ix (.v 0) (.int 0)),.asg (.nm 2) (.ix (.v 0) (.int 1)),.ifs (.or [(.not (.call 0 [(.v 1)])),(.cmp .lt (.v 1) (.int 1)),(.cmp .gt (.v 1) (.glo "MOST_HOUSES" 12))]) [.ret (.bl false)] [],.ifs (.not (.vp (.v 2) .list)) [.ret (.bl false)] [],.fr (.nm 3) (.seq (.v 2)) mO,.ret (.and [(.call 44 [(.v 2)]),(.call 15 [(.v 2)])])]
def RG(m:aw):Prop:=∀k n rs,Dr k n rs->m [bo n rs]=ok (.bl true)
def IM(m:aw):Prop:=∀k n rs,Dp (Rw n) k n rs->m [bo n rs]=ok (.bl true)
theorem oS(Φ:aT)(Nt:o7 (Φ 12)){n:Nat}(hn:n<=12)(c0 c2:av):∀(rs:ah) (c3:av),(∀r∈rs,Rw n r.2/\0<r.1)->∃w_,cG (λd ρ=>bQ (.nm 3) d ρ) (λρ=>bp Φ mO ρ) (cC rs) [c0,some (.int n),c2,c3]=ok (.nx,[c0,some (.int n),c2,w_])
 |[],c3,_=>⟨c3,rfl⟩
 |r::rs,c3,h=>by
  obtain⟨w_,ih⟩:=oS Φ Nt hn c0 c2 rs (some (rD r)) λs hs=>h s (aad _ hs);have h1:=h r aaf;have e:=Nt r n hn h1.1 h1.2;refine⟨w_,bG (ρ1:=[c0,some (.int n),c2,some (rD r)]) (by simp) (ρ2:=[c0,some (.int n),c2,some (rD r)]) ?_ ih⟩;simp[mO,e]
theorem Dp.some{P:ae->Prop}{k n:Nat}{rs:ah}(I:Dp P k n rs):1<=rs.length:=by
 cases rs with
 |nil=>have:=I.one;simp at this
 |cons r rs=>simp
theorem vS(Φ:aT)(h0:eE (Φ 0))(Nt:o7 (Φ 12))(h15:jF (Φ 15))(h44:mm (Φ 44)):IM (mk Φ 1 4 ia):=by
 intro k n rs I;have n1:=I.n1;have n2:=I.n2;have e1:=h15 rs k I.MU I.one;have e2:=h44 rs I.some I.rise;have e3:Φ 0 [.int (n:Int)]=ok (.bl true):=by rw[h0];rfl
 obtain⟨c3,e4⟩:=oS Φ Nt n2 (some (bo n rs)) (some (.lst .fz (cC rs))) rs none λr hr=>⟨I.b_ r hr,I.pos r hr⟩
 have hit:bR Φ (.seq (.v 2)) [some (bo n rs),some (.int n),some (.lst .fz (cC rs)),none]=ok (cC rs,[some (bo n rs),some (.int n),some (.lst .fz (cC rs)),none]):=by
  rw[uv (f:=.fz) (ds:=cC rs) (by simp)];simp
 have hf:=dA (Φ:=Φ) (t:=.nm 3) (b:=mO) hit e4;have c1:cK .lt (.int (n:Int)) (.int 1)=ok (.bl false):=by
  show ok (D.bl (decide ((n:Int)<1)))=_;rw[decide_eq_false (by left)]
 have c2:cK .gt (.int (n:Int)) (.int 12)=ok (.bl false):=by
  show ok (D.bl (decide ((12:Int)<n)))=_;rw[decide_eq_false (by left)]
 have Ze:∀ds,eU .tuple (.tup ds)=true:=λ_=>rfl;have Zd:∀f ds,eU .list (.lst f ds)=true:=λ_ _=>rfl;unfold bo at hf ⊢;simp[mk_eq,ia,Ze,Zd,e3,c1,c2,hf,e2,e1]
noncomputable def Mp:CE:=.comp 2 (.tp [0,1]) [0] .seq [(.ix (.v 0) (.int 1))] [] (.call 11 [(.v 1),(.ix (.v 2) (.int 0))])
def fj:ag:=[.ret (.and [(.call 45 [(.v 0)]),(.bf .all1 [Mp])])]
theorem qX(Φ:aT)(h11:vh (Φ 11))(h45:IM (Φ 45)):RG (mk Φ 1 1 fj):=by
 intro k n rs I;have e1:=h45 k n rs (I.imp λ_ _ h=>h.rw);have e2:bx Φ Mp [some (bo n rs)]=ok (.lst .ow (mJ (rs.map λ_=>true))):=by
  unfold Mp;rw[cP (xs:=[.lst .fz (cC rs)]) (items:=cC rs) (ds:=rs.map λ_=>.bl true) (by simp[bo]) (by rw[dW];simp) (bZ λr hr=>?_) (by simp;exact bY (by have:=I.len;left))]
  ·simp[mJ,aP]
  ·have hl:=I.b_ r hr;have e:=h11 (.tup (ai r.2)) n (hl.cL I.n2);rw[hl.uk]at e;exact⟨[some (qD r.1),some (.tup (ai r.2)),some (bo n rs)],by simp[bE,rD,bo],by simp,by simp[bo,e]⟩
 have e3:nc .all1 [.lst .ow (mJ (rs.map λ_=>true))]=ok (.bl true):=by
  show(match i_ (mJ (rs.map λ_=>true))with|some bs=>ok (D.bl (bs.all id))|none=>none)=_;unfold mJ;rw[lM];show ok (D.bl ((rs.map λ_=>true).all id))=_;congr 2;simp
 have m1:aY a_ (bo n rs)=bo n rs:=by simp[bo]
 have m2:aY bB (bo n rs)=bo n rs:=by simp[bo]
 simp[mk_eq,fj,m1,m2,e1,e2,e3]
def o8(m:aw):Prop:=∀k n rs,Dr k n rs->m [bo n rs]=ok .bu
noncomputable def dI:ag:=[.ifs (.not (.call 16 [(.v 0)])) [.rs 1] []]
theorem mB(Φ:aT)(h16:RG (Φ 16)):o8 (mk Φ 1 1 dI):=by
 intro k n rs I;have e1:=h16 k n rs I;have m1:aY a_ (bo n rs)=bo n rs:=by simp[bo]
 have m2:aY bB (bo n rs)=bo n rs:=by simp[bo]
 simp[mk_eq,dI,m1,m2,e1]
noncomputable def vY(ws xs:az):az:=(ws.zip xs).map λp=>p.1*p.2
noncomputable def DY(ts:ae)(h:Int):Int:=ts.getD h.toNat 0
def sumZ(b_:ae)(ts:ae):Int:=(b_.map (DY ts)).sum
structure Gs(j n:Nat)(ws xs:az):Prop where
 l1:ws.length=n
 l2:xs.length=n
 s1:∀q∈ws,Sm j q
 s2:∀q∈xs,Sm j q
 jj:j<=100
theorem Gs.MU{j n:Nat}{ws xs:az}(G:Gs j n ws xs)(hn:n<=12):D2 (j+j) (vY ws xs):=by
 have hl:(vY ws xs).length=n:=by unfold vY;rw[List.length_map,List.length_zip,G.l1,G.l2,Nat.min_self]
 have hj:=G.jj;refine⟨λq hq=>?_,?_,by left⟩
 ·obtain⟨p,hp,rfl⟩:=List.mem_map.mp hq;have m:=List.of_mem_zip hp;exact(G.s1 _ m.1).mul (G.s2 _ m.2)
 ·rw[hl];have:(j+j)*n<=200*12:=aaL (by left) hn;left
theorem Gs.at{j n:Nat}{ws xs:az}(G:Gs j n ws xs){h:Int}(h0:0<=h)(h1:h<n):b6 (vY ws xs) h=b6 ws h*b6 xs h:=by
 obtain⟨g1,_⟩:=dJ (qs:=ws) h0 (by rw[G.l1];exact h1);obtain⟨g2,_⟩:=dJ (qs:=xs) h0 (by rw[G.l2];exact h1);unfold b6 at *;unfold vY;rw[List.getD_eq_getElem?_getD,List.getElem?_map,List.zip,List.getElem?_zipWith,g1,g2];rfl
def C7(rs:ah)(P:az):ae:=rs.map λr=>sumZ r.2 (P.map (bV (b9 P)))
def vJ(b:Nat)(rs:ah)(gs:ae):Int:=((rs.zip gs).map λp=>bV b p.1.1*p.2).sum
def cQ(rs:ah)(ws xs:az):Rat:=(rs.map λr=>r.1*d8 r.2 λh=>b6 ws h*b6 xs h).sum
theorem ED{b:Nat}{P:az}(hd:∀q∈P,q.den∣b){h:Int}(h0:0<=h)(h1:h<P.length):((DY (P.map (bV b)) h:Int):Rat)=b6 P h*(b:Rat):=by
 obtain⟨g,m⟩:=dJ (qs:=P) h0 h1;have hl:h.toNat<P.length:=by left
 have e:DY (P.map (bV b)) h=bV b (b6 P h):=by
  unfold DY;rw[List.getD_eq_getElem?_getD,List.getElem?_map,g];rfl
 rw[e,km (hd _ m)]
theorem nJ{b:Nat}{P:az}(hd:∀q∈P,q.den∣b):∀(b_:ae),(∀h∈b_,0<=h/\h<(P.length:Int))->((sumZ b_ (P.map (bV b)):Int):Rat)=(d8 b_ λh=>b6 P h)*(b:Rat)
 |[],_=>by simp[sumZ,d8,Rat.zero_mul]
 |h::b_,hh=>by
  have ih:=nJ hd b_ λx hx=>hh x (aad _ hx);have h1:=hh h aaf;have e:sumZ (h::b_) (P.map (bV b))=DY (P.map (bV b)) h+sumZ b_ (P.map (bV b)):=rfl;rw[e,Rat.intCast_add,ED hd h1.1 h1.2,ih,fB];grind
theorem xx{b c:Nat}{P:az}(hc:∀q∈P,q.den∣c):∀(rs:ah),(∀r∈rs,r.1.den∣b)->(∀r∈rs,∀h∈r.2,0<=h/\h<(P.length:Int)) ->
  ((vJ b rs (rs.map λr=>sumZ r.2 (P.map (bV c))):Int):Rat)=(rs.map λr=>r.1*d8 r.2 λh=>b6 P h).sum*((b:Rat)*(c:Rat))
 |[],_,_=>by simp[vJ,Rat.zero_mul]
 |r::rs,hb,hl=>by
  have ih:=xx hc rs (λs hs=>hb s (aad _ hs)) λs hs=>hl s (aad _ hs);have e:vJ b (r::rs) ((r::rs).map λr=>sumZ r.2 (P.map (bV c)))=bV b r.1*sumZ r.2 (P.map (bV c))+vJ b rs (rs.map λr=>sumZ r.2 (P.map (bV c))):=rfl;rw[e,Rat.intCast_add,Rat.intCast_mul,km (hb r List.mem_cons_self),nJ hc r.2 (hl r List.mem_cons_self),ih,List.map_cons,List.sum_cons];grind
theorem AQ{p i:Nat}{es:aF}{d d':D}(h1:bX Φ es ρ=ok xs)(h2:aR bI xs=false)(h3:ρ[i]?=some (some d))(h4:Φ p (d::xs)=ok d'):iC Φ (.mut p i es) ρ=ok (.nx,ρ.set i (some d')):=by
 show bd (bX Φ es ρ) (λxs=>wa Φ p i (ou es xs ρ))=_;rw[h1,cH];unfold ou;rw[h2,if_neg Bool.false_ne_true];unfold wa;rw[h3];show bd (Φ p (d::xs)) _=_;rw[h4];rfl
theorem MF(i:Int):cT .band (.int i) (.int 1)=ok (.int (i % 2)):=rfl
theorem lI(c:ae):∀(cs:aG) (ws:ae),cA cs (ai ws) c=(cA cs ws c).map D.int
 |[],_=>by cases ‹ae› <;> rfl
 |_::_,[]=>rfl
 |c'::cs,w::ws=>by
  show(if c'=c then some (D.int w)else cA cs (ai ws) c)=Option.map D.int (if c'=c then some w else cA cs ws c);by_cases e:c'=c
  ·rw[if_pos e,if_pos e];rfl
  ·rw[if_neg e,if_neg e];exact lI c cs ws
theorem qe(c:ae)(v:Int):∀(cs:aG) (ws:ae),setC cs (ai ws) c (.int v)=ai (setC cs ws c v)
 |[],_=>by cases ‹ae› <;> rfl
 |_::_,[]=>rfl
 |c'::cs,w::ws=>by
  show(if c'=c then D.int v else D.int w)::setC cs (ai ws) c (.int v)=D.int (if c'=c then v else w)::ai (setC cs ws c v);rw[qe c v cs ws];by_cases e:c'=c
  ·rw[if_pos e,if_pos e]
  ·rw[if_neg e,if_neg e]
theorem vE(cs:aG)(ws:ae)(c:ae)(v:Int):cc cs (ai ws) c (.int v)=ai (cc cs ws c v):=by
 unfold cc;by_cases e:c∈cs
 ·rw[if_pos e,if_pos e];exact qe c v cs ws
 ·rw[if_neg e,if_neg e];simp
def cF(cs:aG)(ws:ae)(c:ae):Int:=(cA cs ws c).getD 0
theorem oG{α:Type}{c:ae}:∀{cs:aG} (ws:List α),c∉cs->cA cs ws c=none
 |[],_,_=>by cases ‹List α› <;> rfl
 |_::_,[],_=>rfl
 |c'::cs,w::ws,h=>by
  show(if c'=c then some w else cA cs ws c)=none;rw[if_neg λe=>h (by rw[e];exact List.mem_cons_self)];exact oG ws λz=>h (aad _ z)
theorem kQ{α:Type}{c:ae}:∀{cs:aG} {ws:List α},cs.length=ws.length->c∈cs->∃w,cA cs ws c=some w/\w∈ws
 |[],_,_,h=>nomatch h
 |_::_,[],hl,_=>by simp at hl
 |c'::cs,w::ws,hl,h=>by
  by_cases e:c'=c
  ·exact⟨w,aaQ e,aaf⟩
  ·have h':c∈cs:=(List.mem_cons.mp h).resolve_left λz=>e z.symm;obtain⟨w',e1,e2⟩:=kQ (cs:=cs) (ws:=ws) (by simpa using hl) h';exact⟨w',(acb e).trans e1,aad _ e2⟩
theorem n_:∀{cs:aG} {ws:ae},cs.Nodup->cs.length=ws.length->cs.map (cF cs ws)=ws
 |[],[],_,_=>rfl
 |[],_::_,_,h=>by simp at h
 |_::_,[],_,h=>by simp at h
 |c::cs,w::ws,hn,hl=>by
  have sW:=List.nodup_cons.mp hn;have ih:=n_ (cs:=cs) (ws:=ws) sW.2 (by simpa using hl);rw[List.map_cons];have e1:cF (c::cs) (w::ws) c=w:=by
   show(if c=c then some w else cA cs ws c).getD 0=w;rw[if_pos rfl];rfl
  have e2:cs.map (cF (c::cs) (w::ws))=cs.map (cF cs ws):=aat λx hx=>by
   show(if c=x then some w else cA cs ws x).getD 0=_;rw[if_neg (show ¬ c=x from λz=>sW.1 (by rw[z];exact hx))];rfl
  rw[e1,e2,ih]
theorem tR{c:ae}{v:Int}:∀{cs:aG} {ws:ae},cs.Nodup->cs.length=ws.length->c∈cs->(setC cs ws c v).sum=ws.sum - cF cs ws c+v/\(setC cs ws c v).length=ws.length
 |[],_,_,_,h=>nomatch h
 |_::_,[],_,h,_=>by simp at h
 |c'::cs,w::ws,hn,hl,h=>by
  have sW:=List.nodup_cons.mp hn;have vt:cs.length=ws.length:=by simpa using hl
  have es:setC (c'::cs) (w::ws) c v=(if c'=c then v else w)::setC cs ws c v:=rfl;by_cases e:c'=c
  ·have Qd:∀{cs:aG} {ws:ae},cs.length=ws.length->c∉cs->setC cs ws c v=ws:=λ{cs}=>by
    induction cs with
    |nil=>intro ws hl _;cases ws with|nil=>rfl|cons _ _=>simp at hl
    |cons d cs ih =>
     intro ws hl hc;cases ws with
     |nil=>simp at hl
     |cons w ws =>
      show(if d=c then v else w)::setC cs ws c v=_;rw[if_neg λz=>hc (by rw[z];exact List.mem_cons_self),ih (by simpa using hl) λz=>hc (List.mem_cons_of_mem _ z)]
   have hcn:c∉cs:=e▸sW.1;rw[es,if_pos e,Qd vt hcn];have eg:cF (c'::cs) (w::ws) c=w:=by
    show(if c'=c then some w else cA cs ws c).getD 0=w;rw[if_pos e];rfl
   rw[eg];refine⟨?_,rfl⟩;rw[List.sum_cons,List.sum_cons];left
  ·have h':c∈cs:=(List.mem_cons.mp h).resolve_left λz=>e z.symm;obtain⟨i1,i2⟩:=tR (v:=v) sW.2 vt h';have eg:cF (c'::cs) (w::ws) c=cF cs ws c:=by
    show(if c'=c then some w else cA cs ws c).getD 0=_;rw[if_neg e];rfl
   rw[es,if_neg e,eg];refine⟨?_,by rw[List.length_cons,List.length_cons,i2]⟩;rw[List.sum_cons,List.sum_cons,i1];left
theorem tS{c:ae}{v:Int}:∀{cs:aG} {ws:ae} {x:Int},x∈setC cs ws c v->x∈ws\/x=v
 |[],_,_,h=>by cases ‹ae› <;> exact nomatch h
 |_::_,[],_,h=>nomatch h
 |c'::cs,w::ws,x,h=>by
  have h:x∈(if c'=c then v else w)::setC cs ws c v:=h;rcases List.mem_cons.mp h with e|h
  ·by_cases q:c'=c
   ·rw[if_pos q]at e;exact .inr e
   ·rw[if_neg q]at e;rw[e];exact .inl aaf
  ·rcases tS h with h|h
   ·exact .inl (aad _ h)
   ·exact .inr h
structure Tab(P:ae->Prop)(j:Nat)(cs:aG)(ws:ae):Prop where
 nd:cs.Nodup
 ln:cs.length=ws.length
 vw:cs.length<=j
 b_:∀c∈cs,P c
 pos:∀w∈ws,1<=w
 sum:ws.sum<=7*j
 ne:1<=j->cs≠[]
variable {cs:aG}
theorem Tab.get{n:ae->Prop}{j:Nat}(T:Tab n j cs ws)(c:ae):0<=cF cs ws c:=by
 by_cases h:c∈cs
 ·obtain⟨w,e,m⟩:=kQ T.ln h;unfold cF;rw[e];have:=T.pos w m;show 0<=w;left
 ·unfold cF;rw[oG ws h];exact Int.le_refl _
theorem Tab.put{n:ae->Prop}{j:Nat}(T:Tab n j cs ws){c:ae}(hc:n c){i:Int}(h1:1<=i)(h7:i<=7):Tab n (j+1) (de cs c) (cc cs ws c (cF cs ws c+i)):=by
 have hg:=T.get c;have hf:=T.vw;have hs:=T.sum;by_cases h:c∈cs
 ·obtain⟨s1,s2⟩:=tR (v:=cF cs ws c+i) T.nd T.ln h;unfold de cc;rw[if_pos h,if_pos h];refine⟨T.nd,by rw[s2];exact T.ln,by left,T.b_,λw hw=>?_,by rw[s1];left,λ_ z=>by rw[z]at h;cases h⟩;rcases tS hw with hw|rfl
  ·exact T.pos w hw
  ·left
 ·have hz:cF cs ws c=0:=by unfold cF;rw[oG ws h];rfl
  unfold de cc;rw[if_neg h,if_neg h,hz];refine⟨?_,by rw[List.length_append,List.length_append,T.ln];rfl,by rw[List.length_append,List.length_singleton];left,λd hd=>?_,λw hw=>?_,by rw[List.sum_append];simp;left,λ_ z=>by simp at z⟩
  ·refine List.nodup_append.mpr ⟨T.nd,List.nodup_cons.mpr ⟨List.not_mem_nil,abx⟩,λa ha b hb e=>?_⟩;rw[List.mem_singleton.mp hb]at e;exact h (e▸ha)
  ·rcases List.mem_append.mp hd with hd|hd
   ·exact T.b_ d hd
   ·rw[List.mem_singleton.mp hd];exact hc
  ·rcases List.mem_append.mp hw with hw|hw
   ·exact T.pos w hw
   ·rw[List.mem_singleton.mp hw];left
def mv(cs:aG)(ws:ae):ah:=(bU cs).map λc=>(Rat.divInt (cF cs ws c) ws.sum,c)
theorem Tab.ye{n:ae->Prop}{j:Nat}(T:Tab n j cs ws):∀w∈ws,w<=ws.sum:=λw hw=>by
 have:∀l:ae,(∀x∈l,1<=x)->0<=l.sum/\∀x∈l,x<=l.sum:=λl=>by
  induction l with
  |nil=>intro _;exact⟨Int.le_refl _,λ_ h=>nomatch h⟩
  |cons a l ih =>
   intro h;obtain⟨i1,i2⟩:=ih λx hx=>h x (aad _ hx);have ha:=h a aaf;rw[List.sum_cons];refine⟨by left,λx hx=>?_⟩;rcases List.mem_cons.mp hx with rfl|hx
   ·left
   ·have:=i2 x hx;left
 exact(this ws T.pos).2 w hw
theorem mP(W:Int)(hW:W≠0):∀ls:ae,(ls.map λx=>Rat.divInt x W).sum=Rat.divInt ls.sum W
 |[]=>by simp
 |x::ls=>by
  rw[List.map_cons,List.sum_cons,mP W hW ls,List.sum_cons,Rat.divInt_eq_div,Rat.divInt_eq_div,Rat.divInt_eq_div,Rat.intCast_add];grind
theorem ud{a b:az}(h:a.Perm b):a.sum=b.sum:=by
 induction h with
 |nil=>rfl
 |cons x _ ih=>rw[List.sum_cons,List.sum_cons,ih]
 |swap x y l=>rw[List.sum_cons,List.sum_cons,List.sum_cons,List.sum_cons];grind
 |trans _ _ i1 i2=>rw[i1,i2]
theorem Tab.dr{P:ae->Prop}{n j:Nat}(T:Tab P j cs ws)(h1:1<=j)(h6:j<=8)(n1:1<=n)(n2:n<=12):Dp P 6 n (mv cs ws):=by
 have hp:(bU cs).Perm cs:=aaR _ _;have hl:(mv cs ws).length=cs.length:=by unfold mv;rw[List.length_map];exact hp.length_eq
 have hf:=T.vw;have hs:=T.sum;have val:∀c∈bU cs,1<=cF cs ws c/\cF cs ws c<=ws.sum:=λc hc=>by
  obtain⟨w,e,m⟩:=kQ T.ln (hp.mem_iff.mp hc);unfold cF;rw[e];exact⟨T.pos w m,T.ye w m⟩
 have hW:1<=ws.sum:=by
  obtain⟨c,hc⟩:=List.exists_mem_of_ne_nil cs (T.ne h1);have:=val c (hp.mem_iff.mpr hc);left
 refine⟨n1,n2,by rw[hl];left,.inl (by rw[hl];left),by rw[hl];left,λr hr=>?_,λr hr=>?_,λr hr=>?_,?_,?_⟩
 ·obtain⟨c,hc,rfl⟩:=List.mem_map.mp hr;exact T.b_ c (hp.mem_iff.mp hc)
 ·obtain⟨c,hc,rfl⟩:=List.mem_map.mp hr;exact jS (by have:=val c hc;left) (by left)
 ·obtain⟨c,hc,rfl⟩:=List.mem_map.mp hr;have:=val c hc;exact Bk (by left) (by show _<64;left) (by show _<64;left)
 ·have e:(mv cs ws).map (·.1)=(bU cs).map λc=>Rat.divInt (cF cs ws c) ws.sum:=by
   unfold mv;rw[List.map_map];rfl
  rw[e];have e2:((bU cs).map λc=>Rat.divInt (cF cs ws c) ws.sum).sum=(cs.map λc=>Rat.divInt (cF cs ws c) ws.sum).sum:=ud (hp.map _);have e3:(cs.map λc=>Rat.divInt (cF cs ws c) ws.sum)=(cs.map (cF cs ws)).map λx=>Rat.divInt x ws.sum:=by rw[List.map_map];rfl
  rw[e2,e3,n_ T.nd T.ln,mP _ (by left),Rat.divInt_eq_div];have z:((ws.sum:Int):Rat)≠0:=λz=>by rw[Rat.intCast_eq_zero_iff]at z;left
  grind
 ·have e:(mv cs ws).map (·.2)=bU cs:=by
   unfold mv;rw[List.map_map];exact(aat λ_ _=>rfl).trans (List.map_id _)
  rw[e];exact jK T.nd
theorem US(n:Nat)(t:Nat->Bool):pf n (((List.range n).filter t).map λ(k:Nat)=>(k:Int)):=by
 refine⟨?_,λh hh=>?_⟩
 ·rw[List.pairwise_map];refine(List.Pairwise.filter _ List.pairwise_lt_range).imp λz=>?_;left
 ·obtain⟨k,hk,rfl⟩:=List.mem_map.mp hh;have:=List.mem_range.mp (List.mem_filter.mp hk).1;left
noncomputable def wQ:CE:=.comp 1 (.nm 0) [7] .iz [(.v 4)] [(.cmp .eq (.bin .band (.bin .shr (.v 1) (.v 0)) (.int 1)) (.int 1))] (.v 0)
noncomputable def w9:CS:=.mut 1033 5 [(.bin .add (.bin .add (.dj 1031 [(.v 5),(.v 8),(.int 0)]) (.int 1)) (.bin .mod (.bin .fdiv (.v 7) (.int 4096)) (.int 7))),(.v 8)]
def EK:ag:=[.asg (.nm 7) (.call 200 [(.v 0),(.bin .add (.bin .add (.v 1) (.int 1)) (.v 6))]),.asg (.nm 8) (.bf .tuple1 [wQ]),w9]
noncomputable def Mn:CE:=.comp 1 (.nm 0) [5] (.dj 1100) [(.v 5)] [] (.dj 1032 [(.v 1),(.v 0)])
noncomputable def Mo:CE:=.comp 1 (.nm 0) [9,5] .seq [(.dj 1035 [(.v 5)])] [] (.tup [(.call 201 [(.dj 1032 [(.v 2),(.v 0)]),(.v 1)]),(.v 0)])
def jw:ag:=[.asg (.nm 3) (.call 200 [(.v 0),(.v 1)]),.asg (.nm 4) (.bin .add (.int 1) (.bin .mod (.v 3) (.v 2))),.asg (.nm 3) (.bin .fdiv (.v 3) (.v 2)),.asg (.nm 5) (.dj 1030 []),.fr (.nm 6) (.iz (.bin .add (.int 1) (.bin .mod (.v 3) (.int 6)))) EK,.asg (.nm 9) (.bf .kr [Mn]),.ret (.tup [(.v 4),Mo])]
structure D8(Φ:aT):Prop where
 Q1:Φ 1030=Dx
 Q0:Φ 1031=uT
 QZ:Φ 1032=DB
 QY:Φ 1033=uS
 QX:Φ 1035=oR
 QV:Φ 1100=oT
theorem GQ(Φ:aT){n:Nat}(hn:n<=12)(N:Int)(a b c d e f:av)(r:aX):∃b_,pf n b_/\bx Φ wQ (a::b::c::d::some (.int n)::e::f::some (.int N)::r)=ok (.lst .ow (ai b_)):=by
 refine⟨_,US n λ(k:Nat)=>decide (N / 2 ^ k % 2=1),?_⟩;unfold wQ;rw[cP (xs:=[.int n]) (ds:=((List.range n).filter λ(k:Nat)=>decide (N / 2 ^ k % 2=1)).map λ(k:Nat)=>D.int (k:Int)) (by simp) (kH Φ (by left) (by left)) ?_ ?_]
 ·simp[aP,ai]
 ·rw[Int.toNat_natCast];refine eN λk hk=>⟨[some (.int k),some (.int N)],by simp[bE],?_,λ_=>by simp⟩
  have e1:cT .shr (.int N) (.int k)=ok (.int (N / 2 ^ k)):=by rw[Ry (by left)];simp
  simp[e1,MF]
 ·have:=abN (λ(k:Nat)=>decide (N / 2 ^ k % 2=1)) (List.range n);simp at this ⊢;exact bY (by left)
theorem Mw(P:D8 Φ)(f:Fl)(cs:aG)(ws:ae)(c:ae):Φ 1031 [.cJ f cs (ai ws),.tup (ai c),.int 0]=ok (.int (cF cs ws c)):=by
 rw[P.Q0];show(match intsOf (ai c)with|some c=>if aR anyF (ai ws)=false/\ba anyF (.int 0)=false then ok ((cA cs (ai ws) c).getD (.int 0))else none|none=>none)=_;unfold ai;rw[bS];show(if aR anyF (ai ws)=false/\ba anyF (.int 0)=false then ok ((cA cs (ai ws) c).getD (.int 0))else none)=_;rw[if_pos ⟨uF _ _,rfl⟩,lI];unfold cF;cases cA cs ws c<;>rfl
theorem Mt(P:D8 Φ)(hl:cs.length<1000)(ws:ae)(c:ae)(v:Int):Φ 1033 [.cJ .ow cs (ai ws),.int v,.tup (ai c)]=ok (.cJ .ow (de cs c) (ai (cc cs ws c v))):=by
 rw[P.QY];show(match intsOf (ai c)with|some c=>if dF .ow=true/\ba anyF (.int v)=false/\cs.length<cL then ok (D.cJ .ow (de cs c) (cc cs (ai ws) c (.int v)))else none|none=>none)=_;unfold ai;rw[bS];show(if dF .ow=true/\ba anyF (.int v)=false/\cs.length<cL then ok (D.cJ .ow (de cs c) (cc cs (ai ws) c (.int v)))else none)=_;rw[if_pos ⟨rfl,rfl,by show _<1000000;left⟩,vE];rfl
theorem Iv(P:D8 Φ)(f:Fl)(hl:cs.length=ws.length){c:ae}(h:c∈cs):Φ 1032 [.cJ f cs (ai ws),.tup (ai c)]=ok (.int (cF cs ws c)):=by
 obtain⟨w,e,_⟩:=kQ hl h;rw[P.QZ];show(match intsOf (ai c)with|some c=>(match cA cs (ai ws) c with|some v=>if ba anyF v=false then ok v else none|none=>none)|none=>none)=_;unfold ai;rw[bS];show(match cA cs (ai ws) c with|some v=>if ba anyF v=false then ok v else none|none=>none)=_;rw[lI,e];unfold cF;rw[e];rfl
theorem yN(Φ:aT)(P:D8 Φ)(kO:jY (Φ 200))(ns:ae){a:Int}(ha:0<=a){n:Nat}(hn:n<=12)(c2 c3:av):∀(k j:Nat) (cs:aG) (ws:ae) (c6 c7 c8:av),Tab (pf n) j cs ws->j+k<=6 ->
  ∃IA RO oW pU WR,cG (λd ρ=>bQ (.nm 6) d ρ) (λρ=>bp Φ EK ρ) ((List.range' j k).map λ(i:Nat)=>D.int (i:Int)) [some (.lst .sc (ai ns)),some (.int a),c2,c3,some (.int n),some (.cJ .ow cs (ai ws)),c6,c7,c8,none] =
   ok (.nx,[some (.lst .sc (ai ns)),some (.int a),c2,c3,some (.int n),some (.cJ .ow IA (ai RO)),oW,pU,WR,none])/\Tab (pf n) (j+k) IA RO
 |0,j,cs,ws,c6,c7,c8,T,_=>⟨cs,ws,c6,c7,c8,rfl,T⟩
 |k+1,j,cs,ws,c6,c7,c8,T,hj=>by
  have e1:=kO ns (a+1+j) (by left);obtain⟨b_,hl,e2⟩:=GQ Φ hn (bc ns (a+1+j)) (some (.lst .sc (ai ns))) (some (.int a)) c2 c3 (some (.cJ .ow cs (ai ws))) (some (.int j)) [c8,none];obtain⟨f1,f2⟩:=kS ((bc ns (a+1+j)).fdiv 4096) (b:=7) (by decide);have hw:cF cs ws b_+1+((bc ns (a+1+j)).fdiv 4096).fmod 7=cF cs ws b_+(1+((bc ns (a+1+j)).fdiv 4096).fmod 7):=by left
  have T':=T.put hl (i:=1+((bc ns (a+1+j)).fdiv 4096).fmod 7) (by left) (by left);obtain⟨IA,RO,oW,pU,WR,ih,T''⟩:=yN Φ P kO ns ha hn c2 c3 k (j+1) _ _ (some (.int j)) (some (.int (bc ns (a+1+j)))) (some (.tup (ai b_))) T' (by left);have g1:=λf=>Mw P f cs ws b_;have hf:=T.vw;have g2:=Mt P (cs:=cs) (by left) ws b_ (cF cs ws b_+(1+((bc ns (a+1+j)).fdiv 4096).fmod 7));have x1:iC Φ w9 [some (.lst .sc (ai ns)),some (.int a),c2,c3,some (.int n),some (.cJ .ow cs (ai ws)),some (.int j),some (.int (bc ns (a+1+j))),some (.tup (ai b_)),none]=ok (.nx,[some (.lst .sc (ai ns)),some (.int a),c2,c3,some (.int n),some (.cJ .ow (de cs b_) (ai (cc cs ws b_ (cF cs ws b_+(1+((bc ns (a+1+j)).fdiv 4096).fmod 7))))),some (.int j),some (.int (bc ns (a+1+j))),some (.tup (ai b_)),none]):=by
   unfold w9;refine(AQ (xs:=[.int (cF cs ws b_+(1+((bc ns (a+1+j)).fdiv 4096).fmod 7)),.tup (ai b_)]) (d:=.cJ .ow cs (ai ws)) ?_ (by simp) rfl g2).trans rfl;simp[g1,hw]
  refine⟨IA,RO,oW,pU,WR,?_,by rw[show j+(k+1)=j+1+k by left];exact T''⟩;rw[List.range'_succ,List.map_cons];refine bG (ρ1:=[some (.lst .sc (ai ns)),some (.int a),c2,c3,some (.int n),some (.cJ .ow cs (ai ws)),some (.int j),c7,c8,none]) (by simp) (ρ2:=[some (.lst .sc (ai ns)),some (.int a),c2,c3,some (.int n),some (.cJ .ow (de cs b_) (ai (cc cs ws b_ (cF cs ws b_+(1+((bc ns (a+1+j)).fdiv 4096).fmod 7))))),some (.int j),some (.int (bc ns (a+1+j))),some (.tup (ai b_)),none]) ?_ ih;simp[EK,e1,e2,x1]
theorem hV{t b:Int}(hb:b≠0):(Rat.divInt t b).den∣b.natAbs:=by
 obtain⟨t',b',e1,e2,h1,h2,h3,h4⟩:=nY (t:=t) hb;obtain⟨g1,g2⟩:=rV (t:=t) hb;rw[show b.fdiv (eQ t b)=b' from h2]at g2;have hz:(Rat.divInt t b).den=b'.natAbs:=by left
 have:b.natAbs=(eQ t b).natAbs*b'.natAbs:=by rw[<- Int.natAbs_mul,<- e2]
 rw[hz,this];exact Nat.dvd_mul_left ..
def lT(m:aw):Prop:=∀(ns:ae) (a:Int) (p:Nat),0<=a->1<=p->p<=12->∃n rs,n<=p/\Dr 6 n rs/\iL rs/\m [.lst .sc (ai ns),.int a,.int p]=ok (.tup [.int n,.lst .ow (cC rs)])
theorem zD(Φ:aT)(P:D8 Φ)(kO:jY (Φ 200))(oF:fm (Φ 201)):lT (mk Φ 3 10 jw):=by
 intro ns a p ha p1 p2;have e1:=kO ns a ha;obtain⟨f1,f2⟩:=kS (bc ns a) (b:=(p:Int)) (by left);obtain⟨n,hn⟩:∃n:Nat,1+(bc ns a).fmod p=(n:Int):=⟨(1+(bc ns a).fmod p).toNat,by left⟩
 obtain⟨g1,g2⟩:=kS ((bc ns a).fdiv p) (b:=6) (by decide);obtain⟨k,hk⟩:∃k:Nat,1+((bc ns a).fdiv p).fmod 6=(k:Int):=⟨(1+((bc ns a).fdiv p).fmod 6).toNat,by left⟩
 have T0:Tab (pf n) 0 [] []:=⟨abx,rfl,aaj _,(λ_ h=>nomatch h),(λ_ h=>nomatch h),by simp,λh=>by left⟩
 obtain⟨cs,ws,c6,c7,c8,el,T⟩:=yN Φ P kO ns ha (n:=n) (by left) (some (.int p)) (some (.int ((bc ns a).fdiv p))) k 0 [] [] none none none T0 (by left);rw[Nat.zero_add]at T;have D6:=T.dr (n:=n) (by left) (by left) (by left) (by left);have hm:cT .mod (.int (bc ns a)) (.int p)=ok (.int ((bc ns a).fmod p)):=Rz (by left);have hd:cT .fdiv (.int (bc ns a)) (.int p)=ok (.int ((bc ns a).fdiv p)):=oX (i7 (by left) (we (by left)));have Lf:Φ 1030 []=ok (.cJ .ow [] []):=by rw[P.Q1];rfl
 have hit:bR Φ (.iz (.bin .add (.int 1) (.bin .mod (.v 3) (.int 6)))) [some (.lst .sc (ai ns)),some (.int a),some (.int p),some (.int ((bc ns a).fdiv p)),some (.int n),some (.cJ .ow [] []),none,none,none,none]=ok ((List.range' 0 k).map λ(i:Nat)=>D.int (i:Int),[some (.lst .sc (ai ns)),some (.int a),some (.int p),some (.int ((bc ns a).fdiv p)),some (.int n),some (.cJ .ow [] []),none,none,none,none]):=by
  rw[zQ (n:=k) (by simp[hk]) (by left) (by left),Int.toNat_natCast,List.range_eq_range']
 have hf:=dA (Φ:=Φ) (t:=.nm 6) (b:=EK) hit el;have hp:(bU cs).Perm cs:=aaR _ _;have mh:∀f,dX Φ (.dj 1100) [.cJ f cs (ai ws)]=ok (cs.map gv):=λf=>by
  show bd (Φ 1100 _) kv=_;rw[P.QV];show ok (aC a_ (cs.map gv))=_;rw[gg]
 have hfew:=T.vw;have Qe:∀c,gv c=.tup (ai c):=λ_=>rfl;have s1:∀r,bx Φ Mn [some (.lst .sc (ai ns)),some (.int a),some (.int p),some (.int ((bc ns a).fdiv p)),some (.int n),some (.cJ .ow cs (ai ws)),c6,c7,c8,r]=ok (.lst .ow (ai (cs.map (cF cs ws)))):=λr=>by
  unfold Mn;rw[cP (xs:=[.cJ .al cs (ai ws)]) (by simp) (mh _) (ds:=cs.map λc=>.int (cF cs ws c)) (bZ λc hc=>?_) (by simp;exact bY (by left))]
  ·simp[ai,aP]
  ·have e:=Iv P .fz T.ln hc;exact⟨[some (.tup (ai c)),some (.cJ .fz cs (ai ws))],by simp[bE,Qe],by simp,by simp[e]⟩
 rw[n_ T.nd T.ln]at s1;have s2:nc .kr [.lst .ow (ai ws)]=ok (.int ws.sum):=by
  show(match intsOf (ai ws)with|some ns=>ok (D.int ns.sum)|none=>none)=_;unfold ai;rw[bS]
 have hW:1<=ws.sum/\ws.sum<=42:=by
  have hs:=T.sum;refine⟨?_,by left⟩;obtain⟨c,hc⟩:=List.exists_mem_of_ne_nil cs (T.ne (by left));obtain⟨w,e,m⟩:=kQ T.ln hc;have:=T.pos w m;have:=T.ye w m;left
 refine⟨n,mv cs ws,by left,D6,⟨ws.sum.toNat,by left,by left,λr hr=>?_⟩,?_⟩
 ·unfold mv at hr;obtain⟨c,_,rfl⟩:=List.mem_map.mp hr;have h:ws.sum=((ws.sum.toNat:Nat):Int):=by left
  show(Rat.divInt (cF cs ws c) ws.sum).den∣_;have d:=hV (t:=cF cs ws c) (b:=ws.sum) (by left)
  rwa [show ws.sum.natAbs=ws.sum.toNat by left]at d
 have Qb:∀f,Φ 1035 [.cJ f cs (ai ws)]=ok (.lst .ow ((bU cs).map gv)):=λf=>by
  rw[P.QX];show(if cs.length<64 then ok (D.lst .ow ((bU cs).map gv))else none)=_;rw[if_pos (by left)]
 have s3:bx Φ Mo [some (.lst .sc (ai ns)),some (.int a),some (.int p),some (.int ((bc ns a).fdiv p)),some (.int n),some (.cJ .ow cs (ai ws)),c6,c7,c8,some (.int ws.sum)]=ok (.lst .ow (cC (mv cs ws))):=by
  unfold Mo;rw[cP (xs:=[.lst .ow ((bU cs).map gv)]) (by simp[Qb]) (items:=(bU cs).map gv) (by rw[dW,gg]) (ds:=(bU cs).map λc=>rD (Rat.divInt (cF cs ws c) ws.sum,c)) (bZ λc hc=>?_) (by rw[List.length_map];exact bY (by rw[hp.length_eq];left))]
  ·have:((bU cs).map λc=>rD (Rat.divInt (cF cs ws c) ws.sum,c))=cC (mv cs ws):=by unfold cC mv;rw[List.map_map];rfl
   rw[this,og]
  ·have e:=Iv P .fz T.ln (hp.mem_iff.mp hc);have e':=oF (cF cs ws c) ws.sum (by left) (we (by left));exact⟨[some (.tup (ai c)),some (.int ws.sum),some (.cJ .fz cs (ai ws))],by simp[bE,Qe],by simp,by simp[e,e',rD]⟩
 simp[mk_eq,jw,e1,hm,hd,hn,Lf];rw[hf];simp[s1,s2,s3]
structure Hl(i j n:Nat)(ws xs:az):Prop where
 l1:ws.length=n
 l2:xs.length=n
 s1:∀q∈ws,Sm i q
 s2:∀q∈xs,Sm j q
 jj:i+j<=20
theorem Gs.two{j n:Nat}{ws xs:az}(G:Gs j n ws xs)(hj:j<=10):Hl j j n ws xs:=⟨G.l1,G.l2,G.s1,G.s2,by left⟩
def ja(m:aw):Prop:=∀f g n b_ ws xs i j,pf n b_->n<=12->Hl i j n ws xs->m [.lst f (aO ws),.tup (ai b_),.lst g (aO xs)]=ok (qD (d8 b_ λh=>b6 ws h*b6 xs h))
noncomputable def kn:ag:=[.asg (.nm 3) (.call 202 [(.v 3),(.call 203 [(.ix (.v 0) (.v 4)),(.ix (.v 2) (.v 4))])])]
def k7:ag:=[.asg (.nm 3) (.tup [(.int 0),(.int 1)]),.fr (.nm 4) (.seq (.v 1)) kn,.ret (.v 3)]
theorem ma(Φ:aT)(dq:fS (Φ 202))(fh:d7 (Φ 203))(f g:Fl)(ws xs:az)(n a1 j:Nat)(G:Hl a1 j n ws xs)(y:av):∀(b_:ae) (acc:Rat) (i:Nat) (w:av),(∀h∈b_,0<=h/\h<(n:Int))->Sm (1+21*i) acc->i+b_.length<=12 ->
  ∃w',cG (λd ρ=>bQ (.nm 4) d ρ) (λρ=>bp Φ kn ρ) (ai b_) [some (.lst f (aO ws)),y,some (.lst g (aO xs)),some (qD acc),w]=ok (.nx,[some (.lst f (aO ws)),y,some (.lst g (aO xs)),some (qD (acc+d8 b_ λh=>b6 ws h*b6 xs h)),w'])
 |[],acc,i,w,_,_,_=>⟨w,by simp[d8,dt,Rat.add_zero]⟩
 |h::b_,acc,i,w,hm,hs,hi=>by
  rw[List.length_cons]at hi;obtain⟨a,b⟩:=hm h aaf;obtain⟨_,m1⟩:=dJ (qs:=ws) a (by rw[G.l1];exact b);obtain⟨_,m2⟩:=dJ (qs:=xs) a (by rw[G.l2];exact b);have s1:=G.s1 _ m1;have s2:=G.s2 _ m2;have hj:=G.jj;have s3:Sm 20 (b6 ws h*b6 xs h):=(s1.mul s2).mono (by left);have e1:=fh _ _ (s1.mono (by left)) (s2.mono (by left));have e2:=dq acc _ (hs.mono (by left)) (s3.mono (by decide));have a1':=vd (qs:=ws) a (by rw[G.l1];exact b);have a2:=vd (qs:=xs) a (by rw[G.l2];exact b);obtain⟨w',ih⟩:=ma Φ dq fh f g ws xs n a1 j G y b_ (acc+b6 ws h*b6 xs h) (i+1) (some (.int h)) (λx hx=>hm x (aad _ hx)) ((hs.add s3).mono (by left)) (by left);refine⟨w',bG (ρ1:=[some (.lst f (aO ws)),y,some (.lst g (aO xs)),some (qD acc),some (.int h)]) (by simp) (ρ2:=[some (.lst f (aO ws)),y,some (.lst g (aO xs)),some (qD (acc+b6 ws h*b6 xs h)),some (.int h)]) ?_ ?_⟩
  ·simp[kn,a1',a2,e1,e2]
  ·exact ih.trans (by rw[fB,Rat.add_assoc])
theorem Bw(Φ:aT)(dq:fS (Φ 202))(fh:d7 (Φ 203)):ja (mk Φ 3 5 k7):=by
 intro f g n b_ ws xs i j hl hn G;have z0:D.tup [.int 0,.int 1]=qD 0:=rfl;obtain⟨w',e⟩:=ma Φ dq fh f g ws xs n i j G (some (.tup (ai b_))) b_ 0 0 none hl.2 (by constructor<;>decide) (by have:=hl.len;left);rw[Rat.zero_add]at e;have hit:bR Φ (.seq (.v 1)) [some (.lst f (aO ws)),some (.tup (ai b_)),some (.lst g (aO xs)),some (qD 0),none]=ok (ai b_,[some (.lst f (aO ws)),some (.tup (ai b_)),some (.lst g (aO xs)),some (qD 0),none]):=by
  rw[KQ (ds:=ai b_) (by simp)];simp
 have hf:=dA (Φ:=Φ) (t:=.nm 4) (b:=kn) hit e;simp[mk_eq,k7,z0,hf]
theorem Hl.lg{n i j:Nat}{b_:ae}{ws xs:az}(hl:pf n b_)(hn:n<=12)(G:Hl i j n ws xs):Sm 253 (d8 b_ λh=>b6 ws h*b6 xs h):=by
 have:=Sm.sum (k:=20) (qs:=b_.map λh=>b6 ws h*b6 xs h) λq hq=>by
  obtain⟨h,hh,rfl⟩:=List.mem_map.mp hq;obtain⟨a,b⟩:=hl.2 h hh;exact((G.s1 _ (dJ (qs:=ws) a (by rw[G.l1];exact b)).2).mul (G.s2 _ (dJ (qs:=xs) a (by rw[G.l2];exact b)).2)).mono (by have:=G.jj;left)
 rw[List.length_map]at this;exact this.mono (by have:=hl.len;left)
def za(m:aw):Prop:=∀n rs f g ws xs i j,Dr 6 n rs->Hl i j n ws xs->m [bo n rs,.lst f (aO ws),.lst g (aO xs)]=ok (qD (cQ rs ws xs))
noncomputable def mM:ag:=[.asg (.nm 3) (.call 202 [(.v 3),(.call 203 [(.v 4),(.call 231 [(.v 1),(.v 5),(.v 2)])])])]
def nh:ag:=[.asg (.nm 3) (.tup [(.int 0),(.int 1)]),.fr (.tp [4,5]) (.seq (.ix (.v 0) (.int 1))) mM,.ret (.v 3)]
theorem oj(Φ:aT)(dq:fS (Φ 202))(fh:d7 (Φ 203))(rS:ja (Φ 231))(f g:Fl)(ws xs:az)(n a1 j:Nat)(hn:n<=12)(G:Hl a1 j n ws xs)(c0:av):∀(rs:ah) (acc:Rat) (i:Nat) (c4 c5:av),(∀r∈rs,pf n r.2/\Sm 6 r.1)->Sm (1+260*i) acc->i+rs.length<=12 ->
  ∃Ap pV,cG (λd ρ=>bQ (.tp [4,5]) d ρ) (λρ=>bp Φ mM ρ) (cC rs) [c0,some (.lst f (aO ws)),some (.lst g (aO xs)),some (qD acc),c4,c5]=ok (.nx,[c0,some (.lst f (aO ws)),some (.lst g (aO xs)),some (qD (acc+cQ rs ws xs)),Ap,pV])
 |[],acc,i,c4,c5,_,_,_=>⟨c4,c5,by simp[cQ,cC,dt,Rat.add_zero]⟩
 |r::rs,acc,i,c4,c5,hm,hs,hi=>by
  rw[List.length_cons]at hi;obtain⟨hl,s1⟩:=hm r aaf;have s2:=G.lg hl hn;have e0:=λf g=>rS f g n r.2 ws xs a1 j hl hn G;generalize hS:(d8 r.2 λh=>b6 ws h*b6 xs h)=S at *;have s3:Sm 259 (r.1*S):=(s1.mul s2).mono (by decide);have e1:=fh r.1 S (s1.mono (by decide)) (s2.mono (by decide));have e2:=dq acc (r.1*S) (hs.mono (by left)) (s3.mono (by decide));obtain⟨Ap,pV,ih⟩:=oj Φ dq fh rS f g ws xs n a1 j hn G c0 rs (acc+r.1*S) (i+1) (some (qD r.1)) (some (.tup (ai r.2))) (λx hx=>hm x (aad _ hx)) ((hs.add s3).mono (by left)) (by left);refine⟨Ap,pV,bG (ρ1:=[c0,some (.lst f (aO ws)),some (.lst g (aO xs)),some (qD acc),some (qD r.1),some (.tup (ai r.2))]) (by simp[rD]) (ρ2:=[c0,some (.lst f (aO ws)),some (.lst g (aO xs)),some (qD (acc+r.1*S)),some (qD r.1),some (.tup (ai r.2))]) ?_ ?_⟩
  ·simp[mM,e0,e1,e2]
  ·refine ih.trans ?_;have:cQ (r::rs) ws xs=r.1*S+cQ rs ws xs:=by unfold cQ;rw[List.map_cons,List.sum_cons,hS]
   rw[this,Rat.add_assoc]
theorem EZ(Φ:aT)(dq:fS (Φ 202))(fh:d7 (Φ 203))(rS:ja (Φ 231)):za (mk Φ 3 6 nh):=by
 intro n rs f g ws xs i j I G;have z0:D.tup [.int 0,.int 1]=qD 0:=rfl;have hf:=I.vw;obtain⟨c4,c5,e⟩:=oj Φ dq fh rS f g ws xs n i j I.n2 G (some (bo n rs)) rs 0 0 none none (λr hr=>⟨I.b_ r hr,I.sm r hr⟩) (by constructor<;>decide) (by left);rw[Rat.zero_add]at e;have x1:bx Φ (.ix (.v 0) (.int 1)) [some (bo n rs),some (.lst f (aO ws)),some (.lst g (aO xs)),some (qD 0),none,none]=ok (.lst .fz (cC rs)):=by simp[bo]
 have hit:bR Φ (.seq (.ix (.v 0) (.int 1))) [some (bo n rs),some (.lst f (aO ws)),some (.lst g (aO xs)),some (qD 0),none,none]=ok (cC rs,[some (bo n rs),some (.lst f (aO ws)),some (.lst g (aO xs)),some (qD 0),none,none]):=by
  rw[uv x1];simp
 have hx:=dA (Φ:=Φ) (t:=.tp [4,5]) (b:=mM) hit e;simp[mk_eq,nh,z0,hx]
def lS(m:aw):Prop:=∀n rs,m [bo n rs]=ok (.tup [.int n,.lst .ow (cC rs)])
noncomputable def jv:ag:=[.ret (.tup [(.ix (.v 0) (.int 0)),(.bf .list1 [(.ix (.v 0) (.int 1))])])]
theorem zC(Φ:aT):lS (mk Φ 1 1 jv):=by
 intro n rs;simp[mk_eq,jv,bo]
def cB(f:Fl)(n:Nat)(rs:ah):D:=.tup [.int n,.lst f (cC rs)]
@[simp]theorem Sl(g:Fl->Fl)(f:Fl)(n:Nat)(rs:ah):aY g (cB f n rs)=cB (g f) n rs:=by simp[cB]
theorem iE(n:Nat)(rs:ah):cB .fz n rs=bo n rs:=rfl
@[simp]theorem Sy(p:Fl->Bool)(f:Fl)(n:Nat)(rs:ah):ba p (cB f n rs)=p f:=by simp[cB]
@[simp]theorem U3(f:Fl)(n:Nat)(rs:ah):wm (cB f n rs) (.int 0)=ok (.int n):=by simp[cB]
noncomputable def cj(g h:Int)(r:Row):Bool:=decide (g∈r.2)&&decide (h∈r.2)
def aD(rs:ah)(g h:Int):Rat:=(cn (rs.filter (cj g h))).sum
theorem uz(h:Int):∀ns:ae,inD (.int h) (ai ns)=decide (h∈ns)
 |[]=>rfl
 |x::xs=>by
  show(lj (.int x) (.int h)||inD (.int h) (ai xs))=_;rw[m5,uz h xs];by_cases e:h=x<;>simp[e,eq_comm]
theorem qw:∀ns:ae,(ai ns).all iB=true
 |[]=>rfl
 |x::xs=>by show(iB (.int x)&&(ai xs).all iB)=true;rw[qw xs];rfl
theorem ID(h:Int)(ns:ae):cK .AE (.int h) (.tup (ai ns))=ok (.bl (decide (h∈ns))):=by
 show(if iB (.int h)&&(ai ns).all iB then ok (D.bl (inD (.int h) (ai ns)))else none)=_;rw[qw,uz];rfl
noncomputable def GH:CE:=.comp 2 (.tp [0,1]) [1,2] .seq [(.ix (.v 0) (.int 1))] [(.and [(.cmp .AE (.v 2) (.v 1)),(.cmp .AE (.v 3) (.v 1))])] (.v 0)
def nj:ag:=[.asg (.nm 3) GH,.ret (.call 2 [(.bf .kr [(.v 3)]),(.ix (.v 0) (.int 0))])]
def sO(m:aw):Prop:=∀k n rs (g h:Int),Dr k n rs->m [.tup [.int (b9 (cn rs)),.lst .fz (qO (b9 (cn rs)) rs)],.int g,.int h]=ok (qD (aD rs g h))
theorem Fb(Φ:aT)(h2:jH (Φ 2)):sO (mk Φ 3 4 nj):=by
 intro k n rs g h I;obtain⟨b0,b1,b2⟩:=I.bot;have key:=xw (b:=b9 (cn rs)) (qs:=cn (rs.filter (cj g h))) b0 λq hq=>by
  obtain⟨r,hr,rfl⟩:=List.mem_map.mp hq;exact b2 _ (aaF ((List.mem_filter.mp hr).1))
 generalize b9 (cn rs)=b at *;have k1:∀a,bx Φ GH [some (.tup [.int b,.lst .fz (qO b rs)]),some (.int g),some (.int h),a]=ok (.lst .ow (ai ((cn (rs.filter (cj g h))).map (bV b)))):=λa=>by
  unfold GH;rw[cP (xs:=[.lst .fz (qO b rs)]) (items:=rs.map λr=>.tup [.int (bV b r.1),.tup (ai r.2)]) (ds:=(rs.filter (cj g h)).map λr=>.int (bV b r.1)) (by simp) (by rw[dW,Cm];rfl) (eN λr hr=>⟨[some (.int (bV b r.1)),some (.tup (ai r.2)),some (.int g),some (.int h)],by simp[bE],by
   by_cases hg:g∈r.2<;>by_cases hh:h∈r.2<;>simp[ID,cj,hg,hh],λ_=>by simp⟩) ?_]
  ·simp[ai,aP,cn]
  ·have:=abN (cj g h) rs;have:=I.len;rw[List.length_map];exact bY (by left)
 have k2:nc .kr [.lst .ow (ai ((cn (rs.filter (cj g h))).map (bV b)))]=ok (.int ((cn (rs.filter (cj g h))).map (bV b)).sum):=by
  show(match intsOf (ai ((cn (rs.filter (cj g h))).map (bV b)))with|some ns=>ok (D.int ns.sum)|none=>none)=_;unfold ai;rw[bS]
 have k3:=h2.1 ((cn (rs.filter (cj g h))).map (bV b)).sum b (by left) (by
  rw[Int.natAbs_natCast];exact aai b1 (aar (by decide) (by decide)))
 rw[key]at k3;have k4:∀f,nc .kr [.lst f (ai ((cn (rs.filter (cj g h))).map (bV b)))]=ok (.int ((cn (rs.filter (cj g h))).map (bV b)).sum):=λf=>k2;simp[mk_eq,nj,FY Φ GH _ rfl,k1,k4,k3];rfl
def jl(n:Nat)(rs:ah):az:=(List.range n).map λ(k:Nat)=>aD rs k k
theorem lF{rs:ah}{W:Nat}(hd:∀r∈rs,r.1.den∣W)(h0:0<W)(g h:Int):(aD rs g h).den∣W:=by
 have key:=xw (b:=W) (qs:=cn (rs.filter (cj g h))) h0 λq hq=>by
  obtain⟨r,hr,rfl⟩:=List.mem_map.mp hq;exact hd _ ((List.mem_filter.mp hr).1)
 unfold aD;rw[<- key];have:=hV (t:=((cn (rs.filter (cj g h))).map (bV W)).sum) (b:=(W:Int)) (by left);simpa using this
theorem dG(p:Row->Bool):∀(rs:ah),(∀r∈rs,0<r.1)->0<=(cn (rs.filter p)).sum/\(cn (rs.filter p)).sum<=(cn rs).sum
 |[],_=>by simp[cn,Rat.le_refl]
 |r::rs,h=>by
  obtain⟨a,b⟩:=dG p rs λx hx=>h x (aad _ hx);have hr:=h r aaf;have e:(cn (r::rs)).sum=r.1+(cn rs).sum:=rfl;rw[e];cases hp:p r with
  |true =>
   rw[List.filter_cons_of_pos hp];have e':(cn (r::rs.filter p)).sum=r.1+(cn (rs.filter p)).sum:=rfl;rw[e'];constructor<;>grind
  |false =>
   rw[List.filter_cons_of_neg (by simp[hp])];constructor<;>grind
theorem iU{k n:Nat}{rs:ah}(I:Dr k n rs)(g h:Int):0<=aD rs g h/\aD rs g h<=1:=by
 have:=dG (cj g h) rs I.pos;have e:(cn rs).sum=1:=I.one;rw[e]at this;exact this
theorem xG{q:Rat}{k:Nat}(h0:0<=q)(h1:q<=1)(hd:q.den<2 ^ k):Sm k q:=by
 refine⟨?_,hd⟩;have e:=fK q;have hp:=q.den_pos;have n0:0<=q.num:=Rat.num_nonneg.mpr h0;have:q.num<=q.den:=by
  have:=h1;rw[Rat.le_iff]at this;simpa using this
 left
theorem Bo{k n:Nat}{rs:ah}(I:Dr k n rs)(g h:Int):Sm 61 (aD rs g h):=by
 obtain⟨b0,b1,b2⟩:=I.bot;obtain⟨p0,p1⟩:=iU I g h;have:=lF (rs:=rs) (W:=b9 (cn rs)) (λr hr=>b2 _ (aaF hr)) b0 g h;exact xG p0 p1 (aao (abh b0 this) b1)
theorem nP{k n:Nat}{rs:ah}(I:Dr k n rs)(F:iL rs)(g h:Int):Sm 6 (aD rs g h):=by
 obtain⟨W,w0,w1,w2⟩:=F;obtain⟨p0,p1⟩:=iU I g h;have:=lF w2 w0 g h;exact xG p0 p1 (aao (abh w0 this) w1)
theorem mU{n:Nat}{rs:ah}{q:Rat}(h:q∈jl n rs):∃k:Nat,k<n/\q=aD rs k k:=by
 unfold jl at h;obtain⟨k,hk,rfl⟩:=List.mem_map.mp h;exact⟨k,List.mem_range.mp hk,rfl⟩
@[simp]theorem xJ(n:Nat)(rs:ah):(jl n rs).length=n:=by simp[jl]
theorem mQ{n k:Nat}(rs:ah)(h:k<n):(jl n rs)[k]?=some (aD rs k k):=by simp[jl,h]
noncomputable def HD(q:Rat):D:=if 0<q then qD (1 / q)else .bu
@[simp]theorem FQ(g:Fl->Fl)(q:Rat):aY g (HD q)=HD q:=by
 unfold HD;split
 ·simp
 ·rfl
@[simp]theorem Gf(g:Fl->Bool)(q:Rat):ba g (HD q)=false:=by
 unfold HD;split
 ·simp
 ·rfl
@[simp]theorem M0(g:Fl->Fl)(qs:az):aC g (qs.map HD)=qs.map HD:=dm g (λq=>FQ g q) qs
@[simp]theorem Nn(g:Fl->Bool)(qs:az):aR g (qs.map HD)=false:=cE g (λq=>Gf g q) qs
theorem T9:Sm 1 (1:Rat):=by constructor<;>decide
noncomputable def Ht(n:Nat)(h:Nat):az:=(List.range n).map λ(k:Nat)=>if k=h then 1 else 0
noncomputable def A4:ag:=[.ifs (.and [(.cmp .AE (.v 2) (.v 7)),(.cmp .AE (.v 4) (.v 7))]) [.asg (.nm 5) (.call 202 [(.v 5),(.v 6)])] []]
def EI:ag:=[.asg (.nm 5) (.tup [(.int 0),(.int 1)]),.fr (.tp [6,7]) (.seq (.ix (.v 0) (.int 1))) A4,.app 3 (.v 5)]
def EJ:ag:=[.asg (.nm 3) (.lst []),.fr (.nm 4) (.iz (.ix (.v 0) (.int 0))) EI,.app 1 (.v 3)]
def kZ:ag:=[.asg (.nm 1) (.lst []),.fr (.nm 2) (.iz (.ix (.v 0) (.int 0))) EJ,.ret (.v 1)]
theorem cZ(r:Row)(rs:ah)(g h:Int):aD (r::rs) g h=if cj g h r then r.1+aD rs g h else aD rs g h:=by
 unfold aD;cases e:cj g h r with
 |true=>rw[List.filter_cons_of_pos e];rfl
 |false=>rw[List.filter_cons_of_neg (by simp[e])];rfl
theorem rq(Φ:aT)(dq:fS (Φ 202))(g h:Int)(c0 c1 c3:av):∀(rs:ah) (acc:Rat) (i:Nat) (c6 c7:av),(∀r∈rs,Sm 6 r.1)->Sm (1+7*i) acc->i+rs.length<=12 ->
  ∃oW pU,cG (λd ρ=>bQ (.tp [6,7]) d ρ) (λρ=>bp Φ A4 ρ) (cC rs) [c0,c1,some (.int g),c3,some (.int h),some (qD acc),c6,c7]=ok (.nx,[c0,c1,some (.int g),c3,some (.int h),some (qD (acc+aD rs g h)),oW,pU])
 |[],acc,i,c6,c7,_,_,_=>⟨c6,c7,by simp[aD,cn,cC,dt,Rat.add_zero]⟩
 |r::rs,acc,i,c6,c7,hm,hs,hi=>by
  rw[List.length_cons]at hi;have s1:=hm r aaf;have e1:=dq acc r.1 (hs.mono (by left)) (s1.mono (by decide));have s3:=(hs.add s1).mono (l:=1+7*(i+1)) (by left);have s4:=hs.mono (l:=1+7*(i+1)) (by left);have hr:=λx hx=>hm x (aad r hx);have hc:∀(a:av),bx Φ (.and [(.cmp .AE (.v 2) (.v 7)),(.cmp .AE (.v 4) (.v 7))]) [c0,c1,some (.int g),c3,some (.int h),a,some (qD r.1),some (.tup (ai r.2))]=ok (.bl (cj g h r)):=λa=>by
   by_cases hg:g∈r.2<;>by_cases hh:h∈r.2<;>simp[ID,cj,hg,hh]
  rw[cZ];cases hb:cj g h r with
  |true =>
   obtain⟨oW,pU,ih⟩:=rq Φ dq g h c0 c1 c3 rs (acc+r.1) (i+1) (some (qD r.1)) (some (.tup (ai r.2))) hr s3 (by left);refine⟨oW,pU,bG (ρ1:=[c0,c1,some (.int g),c3,some (.int h),some (qD acc),some (qD r.1),some (.tup (ai r.2))]) (by simp[rD]) (ρ2:=[c0,c1,some (.int g),c3,some (.int h),some (qD (acc+r.1)),some (qD r.1),some (.tup (ai r.2))]) ?_ ?_⟩
   ·rw[A4,bO,tm,hc,hb];simp[e1]
   ·exact ih.trans (by simp[Rat.add_assoc])
  |false =>
   obtain⟨oW,pU,ih⟩:=rq Φ dq g h c0 c1 c3 rs acc (i+1) (some (qD r.1)) (some (.tup (ai r.2))) hr s4 (by left);refine⟨oW,pU,bG (ρ1:=[c0,c1,some (.int g),c3,some (.int h),some (qD acc),some (qD r.1),some (.tup (ai r.2))]) (by simp[rD]) (ρ2:=[c0,c1,some (.int g),c3,some (.int h),some (qD acc),some (qD r.1),some (.tup (ai r.2))]) ?_ ?_⟩
   ·rw[A4,bO,tm,hc,hb];simp
   ·exact ih.trans (by simp)
theorem x4(Φ:aT)(dq:fS (Φ 202)){n:Nat}{rs:ah}(I:Dr 6 n rs)(g:Int)(c1:av):∀(k j:Nat) (qs:az) (c4 c5 c6 c7:av),j+k<=12->qs.length=j ->
  ∃Ap pV oW pU,cG (λd ρ=>bQ (.nm 4) d ρ) (λρ=>bp Φ EI ρ) ((List.range' j k).map λ(i:Nat)=>D.int (i:Int)) [some (bo n rs),c1,some (.int g),some (.lst .ow (aO qs)),c4,c5,c6,c7] =
   ok (.nx,[some (bo n rs),c1,some (.int g),some (.lst .ow (aO (qs++(List.range' j k).map λ(i:Nat)=>aD rs g i))),Ap,pV,oW,pU])
 |0,j,qs,c4,c5,c6,c7,_,_=>⟨c4,c5,c6,c7,by simp[dt]⟩
 |k+1,j,qs,c4,c5,c6,c7,hj,hq=>by
  have z0:D.tup [.int 0,.int 1]=qD 0:=rfl;have hfew:=I.vw;obtain⟨a6,a7,el⟩:=rq Φ dq g j (some (bo n rs)) c1 (some (.lst .ow (aO qs))) rs 0 0 c6 c7 I.sm (by constructor<;>decide) (by left);rw[Rat.zero_add]at el;have x1:bx Φ (.ix (.v 0) (.int 1)) [some (bo n rs),c1,some (.int g),some (.lst .ow (aO qs)),some (.int j),some (qD 0),c6,c7]=ok (.lst .fz (cC rs)):=by simp[bo]
  have hit:bR Φ (.seq (.ix (.v 0) (.int 1))) [some (bo n rs),c1,some (.int g),some (.lst .ow (aO qs)),some (.int j),some (qD 0),c6,c7]=ok (cC rs,[some (bo n rs),c1,some (.int g),some (.lst .ow (aO qs)),some (.int j),some (qD 0),c6,c7]):=by
   rw[uv x1];simp
  have hf:=dA (Φ:=Φ) (t:=.tp [6,7]) (b:=A4) hit el;obtain⟨Ap,pV,oW,pU,ih⟩:=x4 Φ dq I g c1 k (j+1) (qs++[aD rs g j]) (some (.int j)) (some (qD (aD rs g j))) a6 a7 (by left) (by simp[hq]);rw[List.range'_succ,List.map_cons,List.map_cons];refine⟨Ap,pV,oW,pU,bG (ρ1:=[some (bo n rs),c1,some (.int g),some (.lst .ow (aO qs)),some (.int j),c5,c6,c7]) (by simp) (ρ2:=[some (bo n rs),c1,some (.int g),some (.lst .ow (aO (qs++[aD rs g j]))),some (.int j),some (qD (aD rs g j)),a6,a7]) ?_ ?_⟩
  ·have hc:qs.length<cL:=by show _<1000000;left
   simp[EI,z0,hf,hc]
  ·exact ih.trans (by simp)
def bM(n:Nat)(rs:ah)(f:Fl)(j k:Nat):aa:=(List.range' j k).map λ(g:Nat)=>.lst f (aO ((List.range' 0 n).map λ(h:Nat)=>aD rs g h))
theorem x5(Φ:aT)(dq:fS (Φ 202)){n:Nat}{rs:ah}(I:Dr 6 n rs):∀(k j:Nat) (ds:aa) (c2 c3 c4 c5 c6 c7:av),j+k<=12->ds.length=j ->
  ∃xa w_ Ap pV oW pU,cG (λd ρ=>bQ (.nm 2) d ρ) (λρ=>bp Φ EJ ρ) ((List.range' j k).map λ(i:Nat)=>D.int (i:Int)) [some (bo n rs),some (.lst .ow ds),c2,c3,c4,c5,c6,c7] =
   ok (.nx,[some (bo n rs),some (.lst .ow (ds++bM n rs .ow j k)),xa,w_,Ap,pV,oW,pU])
 |0,j,ds,c2,c3,c4,c5,c6,c7,_,_=>⟨c2,c3,c4,c5,c6,c7,by simp[dt,bM]⟩
 |k+1,j,ds,c2,c3,c4,c5,c6,c7,hj,hq=>by
  have hn:=I.n2;obtain⟨a4,a5,a6,a7,el⟩:=x4 Φ dq I j (some (.lst .ow ds)) n 0 [] c4 c5 c6 c7 (by left) rfl;have x0:∀r:aX,bx Φ (.ix (.v 0) (.int 0)) (some (bo n rs)::r)=ok (.int n):=λr=>by simp[bo]
  have hit:=zQ (Φ:=Φ) (a:=.ix (.v 0) (.int 0)) (ρ:=[some (bo n rs),some (.lst .ow ds),some (.int j),some (.lst .ow (aO [])),c4,c5,c6,c7]) (n:=n) (x0 _) (by left) (by left);rw[Int.toNat_natCast,List.range_eq_range']at hit;have hf:=dA (Φ:=Φ) (t:=.nm 4) (b:=EI) hit el;rw[List.nil_append]at hf;obtain⟨xa,w_,Ap,pV,oW,pU,ih⟩:=x5 Φ dq I k (j+1) (ds++[.lst .ow (aO ((List.range' 0 n).map λ(h:Nat)=>aD rs j h))]) (some (.int j)) none a4 a5 a6 a7 (by left) (by simp[hq]);have ep:bM n rs .ow j (k+1)=.lst .ow (aO ((List.range' 0 n).map λ(h:Nat)=>aD rs j h))::bM n rs .ow (j+1) k:=by unfold bM;rw[List.range'_succ,List.map_cons]
  rw[List.range'_succ,List.map_cons,ep];have hc:ds.length<cL:=by show _<1000000;left
  have q0:aO []=[]:=rfl;refine⟨xa,w_,Ap,pV,oW,pU,bG (ρ1:=[some (bo n rs),some (.lst .ow ds),some (.int j),c3,c4,c5,c6,c7]) (by simp) (ρ2:=[some (bo n rs),some (.lst .ow (ds++[.lst .ow (aO ((List.range' 0 n).map λ(h:Nat)=>aD rs j h))])),some (.int j),none,a4,a5,a6,a7]) ?_ ?_⟩
  ·rw[q0]at hf;simp[EJ,hf,hc]
  ·exact ih.trans (by simp)
def o6(m:aw):Prop:=∀n rs,Dr 6 n rs->m [bo n rs]=ok (.lst .ow (bM n rs .ow 0 n))
theorem Bv(Φ:aT)(dq:fS (Φ 202)):o6 (mk Φ 1 8 kZ):=by
 intro n rs I;have hn:=I.n2;obtain⟨a2,a3,a4,a5,a6,a7,el⟩:=x5 Φ dq I n 0 [] none none none none none none (by left) rfl;have x0:∀r:aX,bx Φ (.ix (.v 0) (.int 0)) (some (bo n rs)::r)=ok (.int n):=λr=>by simp[bo]
 have hit:=zQ (Φ:=Φ) (a:=.ix (.v 0) (.int 0)) (ρ:=[some (bo n rs),some (.lst .ow []),none,none,none,none,none,none]) (n:=n) (x0 _) (by left) (by left);rw[Int.toNat_natCast,List.range_eq_range']at hit;have hf:=dA (Φ:=Φ) (t:=.nm 2) (b:=EJ) hit el;rw[List.nil_append]at hf;simp[mk_eq,kZ,hf]
noncomputable def GC:CE:=.comp 1 (.nm 0) [1] .iz [(.ix (.v 0) (.int 0))] [] (.ix (.ix (.v 1) (.v 0)) (.v 0))
def ju:ag:=[.asg (.nm 1) (.call 213 [(.v 0)]),.ret GC]
def lR(m:aw):Prop:=∀n rs,Dr 6 n rs->m [bo n rs]=ok (.lst .ow (aO (jl n rs)))
theorem bL(g:Fl->Fl)(n:Nat)(rs:ah)(f:Fl)(j k:Nat):aC g (bM n rs f j k)=bM n rs (g f) j k:=by
 unfold bM;rw[aP,List.map_map];refine aat λx _=>?_;show aY g (.lst f (aO _))=_;simp
theorem kN(g:Fl->Bool)(n:Nat)(rs:ah)(f:Fl)(j k:Nat)(h:g f=false):aR g (bM n rs f j k)=false:=cE g (λx=>by simp[h]) (List.range' j k)
theorem BR{n:Nat}{rs:ah}{f:Fl}{k:Nat}(h:k<n):sG (bM n rs f 0 n) (k:Int)=ok (aY bB (.lst f (aO ((List.range' 0 n).map λ(h:Nat)=>aD rs k h)))):=by
 have:=at_of (ds:=bM n rs f 0 n) (i:=(k:Int)) (d:=.lst f (aO ((List.range' 0 n).map λ(h:Nat)=>aD rs k h))) (by left) (by
  rw[Int.toNat_natCast,bM,List.getElem?_map,List.getElem?_range' h];simp)
 exact this
theorem zA(Φ:aT)(Gj:o6 (Φ 213)):lR (mk Φ 1 2 ju):=by
 intro n rs I;have hn:=I.n2;have e1:=Gj n rs I;have m1:aY a_ (bo n rs)=bo n rs:=by simp[bo]
 have m2:aY bB (bo n rs)=bo n rs:=by simp[bo]
 have hd:bo n rs=.tup [.int n,.lst .fz (cC rs)]:=rfl;have x0:wm (bo n rs) (.int 0)=ok (.int n):=by rw[hd];simp
 have k1:bx Φ GC [some (bo n rs),some (.lst .ow (bM n rs .ow 0 n))]=ok (.lst .ow (aO (jl n rs))):=by
  unfold GC;rw[cP (xs:=[.int n]) (ds:=(List.range n).map λ(k:Nat)=>qD (aD rs k k)) (by simp[m2,x0]) (kH Φ (by left) (by left)) (bZ λk hk=>⟨[some (.int k),some (.lst .fz (bM n rs .fz 0 n))],by simp[bE,bL],by simp,?_⟩) (by simp;exact bY (by left))]
  ·simp[aO,jl,aP]
  ·rw[Int.toNat_natCast,List.mem_range]at hk;have a1:=BR (rs:=rs) (f:=.fz) hk;have a2:=vd (qs:=(List.range' 0 n).map λ(h:Nat)=>aD rs k h) (h:=(k:Int)) (by left) (by simp;left);have a3:b6 ((List.range' 0 n).map λ(h:Nat)=>aD rs k h) (k:Int)=aD rs k k:=by
    unfold b6;rw[Int.toNat_natCast,List.getD_eq_getElem?_getD,List.getElem?_map,List.getElem?_range' hk];simp
   rw[a3]at a2;simp[bL,a1,a2]
 have f1:i4 .ow=.ow:=rfl;have f2:=kN bI n rs .ow 0 n rfl;simp[mk_eq,ju,FY Φ GC _ rfl,m1,m2,e1,k1,bL,f1,f2]
theorem HL(f:Fl)(n:Nat)(rs:ah):dM 40 (cB f n rs)=true:=by
 unfold cB;rw[mS];simp only[List.all_cons,List.all_nil,gd,Bool.true_and,Bool.and_true];rw[x9];exact mT (O_ 36) rs
theorem HP(f g:Fl)(n:Nat)(rs:ah):cK .ne (cB f n rs) (cB g n rs)=ok (.bl false):=by
 rw[MD (HL f n rs) (HL g n rs)];have k2:lj (cB f n rs) (cB g n rs)=true:=by
  show(((n:Int)==(n:Int))&&(dg (cC rs) (cC rs)&&true))=true;rw[Gx];simp
 rw[k2];rfl
theorem gT(Φ:aT):∀(a b:ag) (ρ ρ':aX),bp Φ a ρ=ok (.nx,ρ')->bp Φ (a++b) ρ=bp Φ b ρ'
 |[],b,ρ,ρ',h=>by cases h;rfl
 |s::a,b,ρ,ρ',h=>by
  rw[bO]at h;rw[List.cons_append,bO];cases e:iC Φ s ρ with
  |none=>rw[e]at h;cases h
  |some r=>cases r with
   |error c=>rw[e]at h;cases h
   |ok r =>
    obtain⟨fo,ρ1⟩:=r;rw[e]at h;cases fo with
    |nx=>exact gT Φ a b ρ1 ρ' h
    |_=>cases h
@[simp]theorem NW(n x:Nat):(Ht n x).length=n:=by simp[Ht]
def zq(b:Nat)(rs:ah)(gs:ae):Int:=((rs.zip gs).map λp=>bV b p.1.1*p.2*p.2).sum
def xE(b gb:Nat)(rs:ah)(gs:ae):Rat:=Rat.divInt ((b:Int)*zq b rs gs - vJ b rs gs*vJ b rs gs) ((b:Int)*gb*((b:Int)*gb))
def bK(rs:ah)(ws xs:az):Rat:=xE (b9 (cn rs)) (b9 (vY ws xs)) rs (C7 rs (vY ws xs))
end DI
end
section
namespace DI
open PySem PySem.Spec PyProof.Rows L2
def Df(K:au)(x:Str)(st:Stmt):Prop:=∃f fd,AK K x x st f fd/\PySem.W.nsIn K mainGlobals x=some (some (.ref f))
variable {K:au}{st:Stmt}
theorem dmk{x:Str}{f:Addr}{oc:Value}{od an:Option Addr}{sl:Array (Option Value)}{kV dc pm cd ct:Value}(a:PySem.W.nsIn K mainGlobals x=some (some (.ref f)))(l:K.lookup f=some ⟨oc,od,.func (PySem.W.fnOf x x (fi st) (bD st) (aL st) .none kV dc pm an cd ct),sl⟩)(c:PySem.W.codeIn K cd x=true)(k:PySem.W.keepIn K (.ref f)=true):Df K x st:=⟨f,_,LF l c k,a⟩
noncomputable def SH(N P:aq)(sc:Scope):Bool:=decide (sc.kind=.function)&&(!sc.isCoroutine&&(!sc.isGenerator&&(decide N.Nodup&&(decide (N.take P.length=P)&&(P.all (λx=>decide (sc.names.lookup x=some .local\/sc.names.lookup x=some .cell))&&sc.names.all λy=>decide (y.2≠.free))))))
theorem Dc{N P:aq}{sc:Scope}(h:SH N P sc=true):fq N P sc:=by
 obtain⟨h1,h⟩:=aE h;obtain⟨h2,h⟩:=aE h;obtain⟨h3,h⟩:=aE h;obtain⟨h4,h⟩:=aE h;obtain⟨h5,h⟩:=aE h;obtain⟨h6,h7⟩:=aE h;exact⟨aab h1,gL h2,gL h3,aab h4,aab h5,λx hx=>aab (List.all_eq_true.mp h6 x hx),λy hy=>aab (List.all_eq_true.mp h7 y hy)⟩
def Rp(st:Stmt)(N ps:aq)(tb:List (Nat×Str))(bl:aq)(cs:List (Str×GK))(px:Px)(b:ag):Bool:=SH N ps (aL st)&&dP ⟨aL st,N,λn=>List.lookup n tb,bl,cs,px⟩ b (bD st)
theorem u1{α:Type}{P:List α->Prop}(h:∀a,P [a])(us:List α)(e:us.length=1):P us:=by obtain⟨a,rfl⟩:=Py e;exact h a
theorem u2{α:Type}{P:List α->Prop}(h:∀a b,P [a,b])(us:List α)(e:us.length=2):P us:=by obtain⟨a,b,rfl⟩:=Pw e;exact h a b
theorem u3{α:Type}{P:List α->Prop}(h:∀a b c,P [a,b,c])(us:List α)(e:us.length=3):P us:=by obtain⟨a,b,c,rfl⟩:=Pu e;exact h a b c
theorem u4{α:Type}{P:List α->Prop}(h:∀a b c d,P [a,b,c,d])(us:List α)(e:us.length=4):P us:=by obtain⟨a,b,c,d,rfl⟩:=UU e;exact h a b c d
theorem u5{α:Type}{P:List α->Prop}(h:∀a b c d e,P [a,b,c,d,e])(us:List α)(e:us.length=5):P us:=by
 match us,e with
 |[a,b,c,d,e],_=>exact h a b c d e
variable {P:aH}{base:Heap}{mg:Str->Option Value}
theorem Ent.u{w:World}{k k':Nat}{y:Str}{m:aw}(h:Ent P w K mg base k y m)(hk:k<=k':=by decide):Ent P w K mg base k' y m:=h.up hk
theorem en{w:World}{h:Heap}(X:K.In h)(G:h.Ns mainGlobals mg)⦃x:Str⦄⦃st:Stmt⦄⦃N ps bl:aq⦄⦃tb:List (Nat×Str)⦄⦃cs:List (Str×GK)⦄⦃px:Px⦄⦃b:ag⦄(k:Nat)(Φ:aT)(m:aw)(d:Df K x st)(hc:Rp st N ps tb bl cs px b=true)
  (hp:pZ px Φ/\Ei px Φ) (uD:cI (λy=>mg y=none) bl) (pO:cI (λp:Str×GK=>∃u,mg p.1=some u/\Ay K p.2 u) cs)
  (hf:cI (λp:Nat×Str=>Ent P w K mg base k p.2 (Φ p.1)) tb) (hm:∀ds r,m ds=ok r->ds.length=ps.length/\zE Φ N.length b ds=ok r) (hb:∀(kV doc pm:Value) (an:Option Addr) (gx ct:Value) (us:ao),us.length=ps.length->bindArgs (PySem.W.fnOf x x (fi st) (bD st) (aL st) .none kV doc pm an gx ct) ⟨us,[]⟩=pure (ps.zip us):=by first|exact λ_ _ _ _ _ _=>u1 λ_=>rfl|exact λ_ _ _ _ _ _=>u2 λ_ _=>rfl|exact λ_ _ _ _ _ _=>u3 λ_ _ _=>rfl|exact λ_ _ _ _ _ _=>u4 λ_ _ _ _=>rfl|exact λ_ _ _ _ _ _=>u5 λ_ _ _ _ _=>rfl):Ent P w K mg base (k+1) x m:=by
 obtain⟨f,fd,Fu,a⟩:=d;obtain⟨h1,h2⟩:=aE hc;exact ent Fu (abg X G a) (Fu.binds hb) (Dc h1) h2 hp.1 hp.2 (cI.mem uD) (cI.two (P:=λy i=>∃u,mg y=some u/\Ay K i u) pO) (cI.tab (P:=λg y=>Ent P w K mg base k y (Φ g)) hf) hm
noncomputable def xm(PT F:aT)(i:Nat)(m:aw):aT:=λn=>bif Nat.ble 1000 n then PT n else bif Nat.beq n i then m else F n
theorem XZ{α:Type}{Q:Nat->Prop}(p:Nat){k:Nat}{a b c:α}(h:(if p=k then a else b)=c)(h1:a=c->Q k)(h2:b=c->Q p):Q p:=by
 by_cases e:p=k
 ·subst e;rw[if_pos rfl]at h;exact h1 h
 ·rw[if_neg e]at h;exact h2 h
variable {F:Addr->Prop}{Z:Cx}{cs:aF}{Φ:aT}
theorem HZ{α:Type}{e:Expr}{p k:Nat}{a b c:α}(h:(if p=k then a else b)=c)(h1:a=c->PE Z e (tD Z F Φ (.dj k cs))/\L2.PT Z e (iw Z F Φ (.dj k cs)))(h2:b=c->PE Z e (tD Z F Φ (.dj p cs))/\L2.PT Z e (iw Z F Φ (.dj p cs))):PE Z e (tD Z F Φ (.dj p cs))/\L2.PT Z e (iw Z F Φ (.dj p cs)):=XZ (Q:=λp=>PE Z e (tD Z F Φ (.dj p cs))/\L2.PT Z e (iw Z F Φ (.dj p cs))) p h h1 h2
theorem XY{α:Type}{i p k:Nat}{a b c:α}(h:(if p=k then a else b)=c)(h1:a=c->PS Z st (pq Z F Φ (.mut k i cs)))(h2:b=c->PS Z st (pq Z F Φ (.mut p i cs))):PS Z st (pq Z F Φ (.mut p i cs)):=XZ (Q:=λp=>PS Z st (pq Z F Φ (.mut p i cs))) p h h1 h2
theorem vo{A:Prop}(h:∃_:aa,False):A:=h.elim λ_ z=>z.elim
theorem fA:True:=trivial
theorem cI.nn{K:au}{h:Heap}{mg:aU}(X:K.In h)(G:h.Ns mainGlobals mg):∀{l:aq},cI (λy=>PySem.W.nsIn K mainGlobals y=some none) l->cI (λy=>mg y=none) l
 |[],_=>trivial
 |_::_,z=>⟨PySem.W.mg_none_of X G z.1,cI.nn X G z.2⟩
theorem en7{P:aH}{w:World}{K:au}{h base:Heap}{mg:aU}{bl:aq}{cs:List (Str×GK)}{px:Px}{PT:aT}(X:K.In h)(G:h.Ns mainGlobals mg)(hp:∀F i m,pZ px (xm PT F i m)/\Ei px (xm PT F i m))(uD:cI (λy=>mg y=none) bl)(pO:cI (λp:Str×GK=>∃u,mg p.1=some u/\Ay K p.2 u) cs)
  ⦃x:Str⦄ ⦃st:Stmt⦄ (k:Nat) (Φ:aT) (d:Df K x st) (N:aq) (a:Nat) (tb:List (Nat×Str)) (b:ag)
  (hf:cI (λp:Nat×Str=>Ent P w K mg base k p.2 (Φ p.1)) tb) (hc:Rp st N (N.take a) tb bl cs px b=true:=by decide +kernel) (e:∃F i m,Φ=xm PT F i m:=by exact⟨_,_,_,rfl⟩) (ha:(N.take a).length=a:=by rfl) (hb:∀(kV doc pm:Value) (an:Option Addr) (gx ct:Value) (us:ao),us.length=a->bindArgs (PySem.W.fnOf x x (fi st) (bD st) (aL st) .none kV doc pm an gx ct) ⟨us,[]⟩=pure ((N.take a).zip us):=by first|exact λ_ _ _ _ _ _=>u1 λ_=>rfl|exact λ_ _ _ _ _ _=>u2 λ_ _=>rfl|exact λ_ _ _ _ _ _=>u3 λ_ _ _=>rfl|exact λ_ _ _ _ _ _=>u4 λ_ _ _ _=>rfl|exact λ_ _ _ _ _ _=>u5 λ_ _ _ _ _=>rfl):Ent P w K mg base (k+1) x (mk Φ a N.length b):=by
 obtain⟨F,i,m,e⟩:=e;exact en X G k Φ _ d hc (e▸hp F i m) uD pO hf (λds r q=>⟨(Ck ds r q).1.trans ha.symm,(Ck ds r q).2⟩) (λkV doc pm an gx ct us hu=>hb kV doc pm an gx ct us (hu.trans ha))
end DI
end
section
end
section
namespace DI
open PySem (Str)
noncomputable def GF:CE:=.comp 1 (.nm 0) [1,3] .iz [(.ix (.v 0) (.int 0))] [] (.call 19 [(.v 1),(.v 2),(.v 0)])
def EH:ag:=[.app 2 GF]
def js:ag:=[.ex (.call 17 [(.v 0)]),.asg (.nm 1) (.call 14 [(.ix (.v 0) (.int 1))]),.asg (.nm 2) (.lst []),.fr (.nm 3) (.iz (.ix (.v 0) (.int 0))) EH,.ret (.v 2)]
def lP(m:aw):Prop:=∀k n rs,Dr k n rs->m [bo n rs]=ok (.lst .ow (bM n rs .ow 0 n))
theorem xS(Φ:aT)(SF:sO (Φ 19)){d n:Nat}{rs:ah}(I:Dr d n rs):∀(k j:Nat) (ds:aa) (c3:av),j+k<=12->ds.length=j ->
  ∃w_,cG (λd ρ=>bQ (.nm 3) d ρ) (λρ=>bp Φ EH ρ) ((List.range' j k).map λ(i:Nat)=>D.int (i:Int)) [some (bo n rs),some (.tup [.int (b9 (cn rs)),.lst .ow (qO (b9 (cn rs)) rs)]),some (.lst .ow ds),c3] =
   ok (.nx,[some (bo n rs),some (.tup [.int (b9 (cn rs)),.lst .ow (qO (b9 (cn rs)) rs)]),some (.lst .ow (ds++bM n rs .ow j k)),w_])
 |0,j,ds,c3,_,_=>⟨c3,by simp[dt,bM]⟩
 |k+1,j,ds,c3,hj,hq=>by
  have hn:=I.n2;have m2:aY bB (bo n rs)=bo n rs:=by simp[bo]
  have hd:bo n rs=.tup [.int n,.lst .fz (cC rs)]:=rfl;have x0:wm (bo n rs) (.int 0)=ok (.int n):=by rw[hd];simp
  have k1:bx Φ GF [some (bo n rs),some (.tup [.int (b9 (cn rs)),.lst .ow (qO (b9 (cn rs)) rs)]),some (.lst .ow ds),some (.int j)]=ok (.lst .ow (aO ((List.range' 0 n).map λ(h:Nat)=>aD rs j h))):=by
   unfold GF;rw[cP (xs:=[.int n]) (ds:=(List.range n).map λ(h:Nat)=>qD (aD rs j h)) (by simp[m2,x0]) (kH Φ (by left) (by left)) (bZ λk' hk=>?_) (by simp;exact bY (by left))]
   ·simp[aO,aP,List.range_eq_range']
   ·have e:=SF d n rs j k' I;exact⟨[some (.int k'),some (.tup [.int (b9 (cn rs)),.lst .fz (qO (b9 (cn rs)) rs)]),some (.int j)],by simp[bE],by simp,by simp[e]⟩
  obtain⟨w_,ih⟩:=xS Φ SF I k (j+1) (ds++[.lst .ow (aO ((List.range' 0 n).map λ(h:Nat)=>aD rs j h))]) (some (.int j)) (by left) (by simp[hq]);have ep:bM n rs .ow j (k+1)=.lst .ow (aO ((List.range' 0 n).map λ(h:Nat)=>aD rs j h))::bM n rs .ow (j+1) k:=by unfold bM;rw[List.range'_succ,List.map_cons]
  rw[List.range'_succ,List.map_cons,ep];have hc:ds.length<cL:=by show _<1000000;left
  refine⟨w_,bG (ρ1:=[some (bo n rs),some (.tup [.int (b9 (cn rs)),.lst .ow (qO (b9 (cn rs)) rs)]),some (.lst .ow ds),some (.int j)]) (by simp) (ρ2:=[some (bo n rs),some (.tup [.int (b9 (cn rs)),.lst .ow (qO (b9 (cn rs)) rs)]),some (.lst .ow (ds++[.lst .ow (aO ((List.range' 0 n).map λ(h:Nat)=>aD rs j h))])),some (.int j)]) ?_ ?_⟩
  ·simp[EH,FY Φ GF _ rfl,k1,hc]
  ·exact ih.trans (by simp)
theorem zy(Φ:aT)(Wd:lO (Φ 14))(h17:o8 (Φ 17))(SF:sO (Φ 19)):lP (mk Φ 1 4 js):=by
 intro k n rs I;have hn:=I.n2;have e1:=h17 k n rs I;have e2:=Wd rs k I.MU;have m2:aY bB (bo n rs)=bo n rs:=by simp[bo]
 have m1:aY a_ (bo n rs)=bo n rs:=by simp[bo]
 have hd:bo n rs=.tup [.int n,.lst .fz (cC rs)]:=rfl;have x1:wm (bo n rs) (.int 1)=ok (.lst .fz (cC rs)):=by rw[hd];simp
 have x0:∀r:aX,bx Φ (.ix (.v 0) (.int 0)) (some (bo n rs)::r)=ok (.int n):=λr=>by simp[bo]
 obtain⟨a3,el⟩:=xS Φ SF I n 0 [] none (by left) rfl;have hit:=zQ (Φ:=Φ) (a:=.ix (.v 0) (.int 0)) (ρ:=[some (bo n rs),some (.tup [.int (b9 (cn rs)),.lst .ow (qO (b9 (cn rs)) rs)]),some (.lst .ow []),none]) (n:=n) (x0 _) (by left) (by left);rw[Int.toNat_natCast,List.range_eq_range']at hit;have hf:=dA (Φ:=Φ) (t:=.nm 3) (b:=EH) hit el;rw[List.nil_append]at hf;simp[mk_eq,js,m1,m2,x1,e1,e2,hf]
noncomputable def kj(p:Int×Int):D:=.tup [.int p.1,.int p.2]
def dC(ps:List (Int×Int)):aa:=ps.map kj
@[simp]theorem FP(g:Fl->Fl)(p:Int×Int):aY g (kj p)=kj p:=by unfold kj;simp
@[simp]theorem Ge(g:Fl->Bool)(p:Int×Int):ba g (kj p)=false:=by unfold kj;simp
@[simp]theorem zN(g:Fl->Fl)(ps:List (Int×Int)):aC g (dC ps)=dC ps:=dm g (FP g) ps
@[simp]theorem z7(g:Fl->Bool)(ps:List (Int×Int)):aR g (dC ps)=false:=cE g (Ge g) ps
@[simp]theorem NY(ps:List (Int×Int)):(dC ps).length=ps.length:=aba ..
noncomputable def W3(hs gs:ae):List (Int×Int):=gs.flatMap λg=>hs.map λh=>(g,h)
noncomputable def kY:ag:=[.ret (.ix (.ix (.v 0) (.ix (.v 1) (.int 0))) (.ix (.v 1) (.int 1)))]
def o5(m:aw):Prop:=∀n rs (g h:Nat),g<n->h<n->m [.lst .fz (bM n rs .fz 0 n),kj (g,h)]=ok (qD (aD rs g h))
theorem vX{n:Nat}{rs:ah}{g h:Nat}(hh:h<n):sG (aO ((List.range' 0 n).map λ(h:Nat)=>aD rs g h)) (h:Int)=ok (qD (aD rs g h)):=by
 have a2:=vd (qs:=(List.range' 0 n).map λ(h:Nat)=>aD rs g h) (h:=(h:Int)) (by left) (by simp;left);have a3:b6 ((List.range' 0 n).map λ(h:Nat)=>aD rs g h) (h:Int)=aD rs g h:=by
  unfold b6;rw[Int.toNat_natCast,List.getD_eq_getElem?_getD,List.getElem?_map,List.getElem?_range' hh];simp
 rw[a3]at a2;exact a2
@[simp]theorem U2(p:Int×Int):wm (kj p) (.int 0)=ok (.int p.1):=by unfold kj;simp
@[simp]theorem U1(p:Int×Int):wm (kj p) (.int 1)=ok (.int p.2):=by unfold kj;simp
theorem Bt(Φ:aT):o5 (mk Φ 2 2 kY):=by
 intro n rs g h hg hh;have a1:=BR (rs:=rs) (f:=.fz) hg;have a2:=vX (rs:=rs) (g:=g) hh;simp[mk_eq,kY,bL,a1,a2]
def ZY(rs:ah)(ws xs:az)(g h:Int):Rat:=(aD rs g h - aD rs g g*aD rs h h)*(b6 ws g*b6 xs g*(b6 ws h*b6 xs h))
def gQ(ws xs:az)(r:Row):Rat:=d8 r.2 λh=>b6 ws h*b6 xs h
noncomputable def tM(rs:ah)(ws xs:az):Rat:=(rs.map λr=>r.1*(gQ ws xs r*gQ ws xs r)).sum
theorem xA{b c:Nat}{P:az}(hc:∀q∈P,q.den∣c):∀(rs:ah),(∀r∈rs,r.1.den∣b)->(∀r∈rs,∀h∈r.2,0<=h/\h<(P.length:Int)) ->
  ((zq b rs (rs.map λr=>sumZ r.2 (P.map (bV c))):Int):Rat)=(rs.map λr=>r.1*((d8 r.2 λh=>b6 P h)*d8 r.2 λh=>b6 P h)).sum*((b:Rat)*((c:Rat)*(c:Rat)))
 |[],_,_=>by simp[zq,Rat.zero_mul]
 |r::rs,hb,hl=>by
  have ih:=xA hc rs (λs hs=>hb s (aad _ hs)) λs hs=>hl s (aad _ hs);have e:zq b (r::rs) ((r::rs).map λr=>sumZ r.2 (P.map (bV c)))=bV b r.1*sumZ r.2 (P.map (bV c))*sumZ r.2 (P.map (bV c))+zq b rs (rs.map λr=>sumZ r.2 (P.map (bV c))):=rfl;rw[e,Rat.intCast_add,Rat.intCast_mul,Rat.intCast_mul,km (hb r List.mem_cons_self),nJ hc r.2 (hl r List.mem_cons_self),ih,List.map_cons,List.sum_cons];grind
variable {ws xs:az}
theorem vN{k n j:Nat}{rs:ah}(I:Dr k n rs)(G:Gs j n ws xs):bK rs ws xs=tM rs ws xs - cQ rs ws xs*cQ rs ws xs:=by
 have hs:=G.MU I.n2;obtain⟨c0,_,c2⟩:=hs.lcm;obtain⟨b0,_,b2⟩:=I.bot;have hP:(vY ws xs).length=n:=by unfold vY;rw[List.length_map,List.length_zip,G.l1,G.l2,Nat.min_self]
 have hl:∀r∈rs,∀h∈r.2,0<=h/\h<((vY ws xs).length:Int):=λr hr h hh=>by rw[hP];exact(I.b_ r hr).2 h hh
 have hb:∀r∈rs,r.1.den∣b9 (cn rs):=λr hr=>b2 _ (aaF hr);have t:=xx (b:=b9 (cn rs)) c2 rs hb hl;have q:=xA (b:=b9 (cn rs)) c2 rs hb hl;have ea:∀r∈rs,(d8 r.2 λh=>b6 (vY ws xs) h)=gQ ws xs r:=λr hr=>nL λh hh=>G.at ((I.b_ r hr).2 h hh).1 ((I.b_ r hr).2 h hh).2;have e1:(rs.map λr=>r.1*d8 r.2 λh=>b6 (vY ws xs) h)=rs.map λr=>r.1*d8 r.2 λh=>b6 ws h*b6 xs h:=aat λr hr=>by rw[ea r hr];rfl
 have e2:(rs.map λr=>r.1*((d8 r.2 λh=>b6 (vY ws xs) h)*d8 r.2 λh=>b6 (vY ws xs) h))=rs.map λr=>r.1*(gQ ws xs r*gQ ws xs r):=aat λr hr=>by rw[ea r hr]
 rw[e1]at t;rw[e2]at q;unfold bK C7 xE;generalize vJ (b9 (cn rs)) rs _=T at *;generalize zq (b9 (cn rs)) rs _=Q at *;change ((T:Int):Rat)=cQ rs ws xs*_ at t;change ((Q:Int):Rat)=tM rs ws xs*_ at q;generalize cQ rs ws xs=m at *;generalize tM rs ws xs=s at *;generalize b9 (cn rs)=b at *;generalize b9 (vY ws xs)=c at *;rw[Rat.divInt_eq_div];simp only[Rat.intCast_sub,Rat.intCast_mul,Rat.intCast_natCast,t,q];have pz:(b:Rat)≠0:=λz=>by
  have:((b:Int):Rat)=0:=by rw[Rat.intCast_natCast];exact z
  rw[Rat.intCast_eq_zero_iff]at this;left
 have CW:(c:Rat)≠0:=λz=>by
  have:((c:Int):Rat)=0:=by rw[Rat.intCast_natCast];exact z
  rw[Rat.intCast_eq_zero_iff]at this;left
 generalize (b:Rat)=x at *;generalize (c:Rat)=y at *;grind
noncomputable def jU(rs:ah)(ws xs:az)(m:Rat):Rat:=(rs.map λr=>r.1*((gQ ws xs r - m)*(gQ ws xs r - m))).sum
theorem DF(ws xs:az)(m:Rat):∀rs:ah,jU rs ws xs m=tM rs ws xs - 2*m*cQ rs ws xs+m*m*(rs.map (·.1)).sum
 |[]=>by simp[jU,tM,cQ];grind
 |r::rs=>by
  have ih:=DF ws xs m rs;have e1:jU (r::rs) ws xs m=r.1*((gQ ws xs r - m)*(gQ ws xs r - m))+jU rs ws xs m:=by unfold jU;rw[List.map_cons,List.sum_cons]
  have e2:tM (r::rs) ws xs=r.1*(gQ ws xs r*gQ ws xs r)+tM rs ws xs:=by unfold tM;rw[List.map_cons,List.sum_cons]
  have e3:cQ (r::rs) ws xs=r.1*gQ ws xs r+cQ rs ws xs:=by unfold cQ gQ;rw[List.map_cons,List.sum_cons]
  rw[e1,e2,e3,ih,List.map_cons,List.sum_cons];grind
theorem jT{k n j:Nat}{rs:ah}(I:Dr k n rs)(G:Gs j n ws xs):jU rs ws xs (cQ rs ws xs)=bK rs ws xs:=by
 rw[vN I G,DF,I.one];grind
def Fm(M B:Nat)(q:Rat):Prop:=0<M/\∃z:Int,z.natAbs<=B/\q*(M:Rat)=(z:Rat)
section
variable {M N B C:Nat}{p q:Rat}
theorem rC{M:Nat}(h:0<M):(M:Rat)≠0:=λz=>by
 have:((M:Int):Rat)=0:=by rw[Rat.intCast_natCast];exact z
 rw[Rat.intCast_eq_zero_iff]at this;left
theorem Fm.divInt(h:Fm M B q):∃z:Int,z.natAbs<=B/\q=Rat.divInt z M:=by
 obtain⟨h0,z,hz,e⟩:=h;refine⟨z,hz,?_⟩;rw[Rat.divInt_eq_div,<- e,Rat.intCast_natCast];have:=rC h0;grind
theorem Fm.sm{k:Nat}(h:Fm M B q)(h1:M<2 ^ k)(h2:B<2 ^ k):Sm k q:=by
 have h0:=h.1;obtain⟨z,hz,rfl⟩:=h.divInt;exact lA (by left) (by left) (by simpa using h1)
theorem Fm.mono(h:Fm M B q)(hl:B<=C):Fm M C q:=⟨h.1,h.2.choose,aaB h.2.choose_spec.1 hl,h.2.choose_spec.2⟩
theorem Fm.add(h:Fm M B p)(h':Fm M C q):Fm M (B+C) (p+q):=by
 obtain⟨h0,z,hz,e⟩:=h;obtain⟨_,w,hw,e'⟩:=h';exact⟨h0,z+w,by left,by rw[Rat.intCast_add,<- e,<- e'];grind⟩
theorem Fm.sub(h:Fm M B p)(h':Fm M C q):Fm M (B+C) (p - q):=by
 obtain⟨h0,z,hz,e⟩:=h;obtain⟨_,w,hw,e'⟩:=h';exact⟨h0,z - w,by left,by rw[Rat.intCast_sub,<- e,<- e'];grind⟩
theorem Fm.mul(h:Fm M B p)(h':Fm N C q):Fm (M*N) (B*C) (p*q):=by
 obtain⟨h0,z,hz,e⟩:=h;obtain⟨h0',w,hw,e'⟩:=h';exact⟨abi h0 h0',z*w,by rw[Int.natAbs_mul];exact aaL hz hw,by rw[Rat.intCast_mul,<- e,<- e',Rat.natCast_mul];grind⟩
theorem Fm.lift(c:Nat)(hc:0<c)(h:Fm M B q):Fm (c*M) (c*B) q:=by
 obtain⟨h0,z,hz,e⟩:=h;exact⟨abi hc h0,c*z,by rw[Int.natAbs_mul,Int.natAbs_natCast];exact aaz _ hz,by rw[Rat.intCast_mul,<- e,Rat.natCast_mul,Rat.intCast_natCast];grind⟩
theorem Fm.zero(h:0<M):Fm M 0 0:=⟨h,0,by decide,by rw[Rat.zero_mul];rfl⟩
theorem Fm.sum{qs:az}(h0:0<M)(h:∀q∈qs,Fm M B q):Fm M (qs.length*B) qs.sum:=by
 induction qs with
 |nil=>simpa using Fm.zero h0
 |cons q qs ih =>
  rw[List.sum_cons,List.length_cons,Nat.succ_mul,Nat.add_comm];exact(h q aaf).add (ih λp hp=>h p (aad _ hp))
theorem wI(h0:0<M)(hd:q.den∣M)(hn:q.num.natAbs<=B*q.den):Fm M (B*M) q:=by
 obtain⟨c,rfl⟩:=hd;refine⟨h0,q.num*c,?_,?_⟩
 ·rw[Int.natAbs_mul,Int.natAbs_natCast,<- Nat.mul_assoc];exact aa1 _ hn
 ·rw[Rat.intCast_mul,BI,Rat.natCast_mul,Rat.intCast_natCast];grind
theorem LL(h:Sm 3 q):Fm 420 (7*420) q:=by
 have hp:=q.den_pos;have h1:=h.1;have h2:=h.2;refine wI (by decide) ?_ ?_
 ·have:q.den=1\/q.den=2\/q.den=3\/q.den=4\/q.den=5\/q.den=6\/q.den=7:=by left
  rcases this with e|e|e|e|e|e|e<;>rw[e]<;>decide
 ·have:7*1<=7*q.den:=aaz _ hp;left
end
variable {B M W:Nat}
theorem Ip{P:ae->Prop}{k n:Nat}{rs:ah}(I:Dp P k n rs)(h0:0<W)(hd:∀r∈rs,r.1.den∣W){r:Row}(hr:r∈rs):Fm W (1*W) r.1:=by
 refine wI h0 (hd r hr) ?_;have h:=dG (λs=>decide (s=r)) rs I.pos;have hp:=I.pos r hr;have key:∀l:ah,(∀s∈l,0<s.1)->r∈l->r.1<=(cn l).sum:=λl=>by
  induction l with
  |nil=>intro _ h;cases h
  |cons s l ih =>
   intro hp hm;have e:(cn (s::l)).sum=s.1+(cn l).sum:=rfl;rw[e];have h1:=hp s aaf;have h2:=(dG (λ_=>true) l λx hx=>hp x (aad _ hx)).1;have h3:l.filter (λ_=>true)=l:=by simp
   rw[h3]at h2;rcases List.mem_cons.mp hm with rfl|hm
   ·grind
   ·have:=ih (λx hx=>hp x (aad _ hx)) hm;grind
 have h1:r.1<=1:=by have:=key rs I.pos hr;have e:(cn rs).sum=1:=I.one;rw[e]at this;exact this
 have n0:=fC hp;have:r.1.num<=r.1.den:=by
  rw[Rat.le_iff]at h1;simpa using h1
 left
theorem Wm{n:Nat}{b_:ae}{f:Int->Rat}(h0:0<M)(hl:b_.length<=n)(h:∀x∈b_,Fm M B (f x)):Fm M (n*B) (d8 b_ f):=by
 have:=Fm.sum (qs:=b_.map f) h0 λq hq=>by
  obtain⟨x,hx,rfl⟩:=List.mem_map.mp hq;exact h x hx
 rw[List.length_map]at this;exact this.mono (aa1 _ hl)
noncomputable def gm3:Nat:=420*420
noncomputable def ji:ag:=[.asg (.nm 7) (.call 222 [(.call 231 [(.v 1),(.v 6),(.v 2)]),(.v 3)]),.asg (.nm 4) (.call 202 [(.v 4),(.call 203 [(.v 5),(.call 203 [(.v 7),(.v 7)])])])]
def jt:ag:=[.asg (.nm 3) (.call 232 [(.v 0),(.v 1),(.v 2)]),.asg (.nm 4) (.tup [(.int 0),(.int 1)]),.fr (.tp [5,6]) (.seq (.ix (.v 0) (.int 1))) ji,.ret (.v 4)]
structure LsB(W M Bm Bg dv:Nat):Prop where
 w1:W<64
 m1:M<2 ^ 200
 m2:M*M<2 ^ 200
 m3:W*(M*M)<2 ^ 200
 bm:Bm<2 ^ 200
 bg:Bg<2 ^ 200
 ds:Bg+Bm<=dv
 d1:dv<2 ^ 200
 d2:dv*dv<2 ^ 200
 d3:12*(64*(dv*dv))<2 ^ 200
noncomputable def fY:ae->List (Int×Int)
 |[]=>[]
 |g::gs=>gs.map (λh=>(g,h))++fY gs
theorem qy(g:Fl->Fl):∀(hs:ae) (j:Nat),aC g (br j (ai hs))=br j (ai hs)
 |[],_=>rfl
 |h::hs,j=>by
  show aY g (.tup [.int j,.int h])::aC g (br (j+1) (ai hs))=_;rw[qy g hs (j+1)];rfl
def We(rs:ah)(xs:az)(g h:Int):Rat:=(aD rs g g*aD rs h h - aD rs g h)*((b6 xs g / aD rs g g - b6 xs h / aD rs h h)*(b6 xs g / aD rs g g - b6 xs h / aD rs h h))
def ZH(rs:ah)(ws xs:az)(b_:ae):Rat:=((W3 b_ b_).map λp=>ZY rs ws xs p.1 p.2 / aD rs p.1 p.2).sum
def ggQ(rs:ah)(xs:az)(b_:ae):Rat:=((fY b_).map λp=>We rs xs p.1 p.2 / aD rs p.1 p.2).sum
def D4(m:aw):Prop:=∀k n rs r f g ws xs j i,Dr k n rs->r∈rs->Gs j n ws xs->(∀g h,Sm i (aD rs g h))->(∀g h:Nat,g<n->h<n->0<aD rs g h)->(4*i+1+4*j)*(r.2.length*r.2.length)<=3000->m [bo n rs,.lst f (aO ws),.tup (ai r.2),.lst g (aO xs)]=ok (qD (ZH rs ws xs r.2))
def D5(m:aw):Prop:=∀k n rs r g xs j i z,Dr k n rs->r∈rs->(∀r∈rs,r.2.length=z)->xs.length=n->(∀q∈xs,Sm j q)->j<=100->(∀g h,Sm i (aD rs g h))->(∀g h:Nat,g<n->h<n->0<aD rs g h)->(8*i+3+4*j)*(r.2.length*r.2.length)<=3000->m [bo n rs,.tup (ai r.2),.lst g (aO xs)]=ok (qD (ggQ rs xs r.2))
theorem tX:∀{hs:ae} {p:Int×Int},p∈fY hs->p.1∈hs/\p.2∈hs
 |[],_,h=>nomatch h
 |g::gs,p,h=>by
  rcases List.mem_append.mp h with h|h
  ·obtain⟨x,hx,rfl⟩:=List.mem_map.mp h;exact⟨aaf,aad _ hx⟩
  ·obtain⟨a,b⟩:=tX h;exact⟨aad _ a,aad _ b⟩
theorem tY:∀hs:ae,(fY hs).length<=hs.length*hs.length
 |[]=>by simp[fY]
 |g::gs=>by
  have:=tY gs;show(gs.map (λh=>(g,h))++fY gs).length<=_;rw[List.length_append,List.length_map,List.length_cons,Nat.succ_mul,Nat.mul_succ];left
def ML(m:aw):Prop:=∀p q,Sm 3000 p->Sm 3000 q->q≠0->m [qD p,qD q]=ok (qD (p / q))
def Fc(cs:aG):aa:=cs.map λc=>.tup (ai c)
@[simp]theorem MZ(g:Fl->Fl)(cs:aG):aC g (Fc cs)=Fc cs:=dm g (λc=>by simp) cs
@[simp]theorem Nm(g:Fl->Bool)(cs:aG):aR g (Fc cs)=false:=cE g (λc=>by simp) cs
@[simp]theorem OF(cs:aG):(Fc cs).length=cs.length:=aba ..
structure YX(n z:Nat)(cs:aG):Prop where
 nd:cs.Nodup
 Zi:cs.length<=10
 one:1<=cs.length
 b_:∀c∈cs,pf n c
 sz:∀c∈cs,c.length=z
 all:∀g h:Nat,g<n->h<n->∃c∈cs,(g:Int)∈c/\(h:Int)∈c
def wL(cs:aG)(ws:ae):ah:=(bU cs).map λc=>(Rat.divInt (ws.getD (cs.idxOf c) 0) ws.sum,c)
variable {cs:aG}
theorem pG{ws:ae}(hn:cs.Nodup)(hl:ws.length=cs.length):cs.map (λc=>ws.getD (cs.idxOf c) 0)=ws:=by
 refine abf (by simp[hl]) λi h1 h2=>?_;rw[List.getElem_map];have hi:i<cs.length:=by simpa using h1
 rw[hn.idxOf_getElem i hi];simp[h2]
theorem YX.dr{n z:Nat}(V:YX n z cs)(n1:1<=n)(n2:n<=12){ws:ae}(hl:ws.length=cs.length)(hw:∀w∈ws,1<=w/\w<=5):
  Dr 6 n (wL cs ws)/\iL (wL cs ws)/\(∀r∈wL cs ws,r.2.length=z)/\(∀g h:Nat,g<n->h<n->0<aD (wL cs ws) g h)/\1<=ws.sum/\ws.sum<=50:=by
 have hp:(bU cs).Perm cs:=aaR _ _;have hlen:(wL cs ws).length=cs.length:=by unfold wL;rw[List.length_map];exact hp.length_eq
 have Nu:=V.Zi;have h1:=V.one;have sb:∀l:ae,(∀w∈l,1<=w/\w<=5)->(l.length:Int)<=l.sum/\l.sum<=5*l.length:=λl=>by
  induction l with
  |nil=>intro _;exact⟨by decide,by decide⟩
  |cons w l ih =>
   intro h;obtain⟨a,b⟩:=ih λx hx=>h x (aad _ hx);have:=h w aaf;rw[List.sum_cons,List.length_cons];constructor<;>push_cast<;>left
 obtain⟨s1,s2⟩:=sb ws hw;have hW:1<=ws.sum/\ws.sum<=50:=by rw[hl]at s1 s2;left
 have val:∀c∈bU cs,1<=ws.getD (cs.idxOf c) 0/\ws.getD (cs.idxOf c) 0<=5:=λc hc=>by
  have hi:cs.idxOf c<ws.length:=by rw[hl];exact List.idxOf_lt_length_iff.mpr (hp.mem_iff.mp hc)
  have:ws.getD (cs.idxOf c) 0=ws[cs.idxOf c]:=by simp[hi]
  rw[this];exact hw _ (abe _)
 have uB:iL (wL cs ws):=⟨ws.sum.toNat,by left,by left,λr hr=>by
  unfold wL at hr;obtain⟨c,_,rfl⟩:=List.mem_map.mp hr;have d:=hV (t:=ws.getD (cs.idxOf c) 0) (b:=ws.sum) (by left)
  rwa [show ws.sum.natAbs=ws.sum.toNat by left]at d⟩
 have hpos:∀r∈wL cs ws,0<r.1:=λr hr=>by
  obtain⟨c,hc,rfl⟩:=List.mem_map.mp hr;exact jS (by have:=val c hc;left) (by left)
 refine⟨⟨n1,n2,by rw[hlen];left,.inr uB,by rw[hlen];left,λr hr=>?_,hpos,λr hr=>?_,?_,?_⟩,uB,λr hr=>?_,λg h hg hh=>?_,hW⟩
 ·obtain⟨c,hc,rfl⟩:=List.mem_map.mp hr;exact V.b_ c (hp.mem_iff.mp hc)
 ·obtain⟨c,hc,rfl⟩:=List.mem_map.mp hr;have:=val c hc;exact Bk (by left) (by show _<64;left) (by show _<64;left)
 ·have e:(wL cs ws).map (·.1)=(bU cs).map λc=>Rat.divInt (ws.getD (cs.idxOf c) 0) ws.sum:=by unfold wL;rw[List.map_map];rfl
  rw[e];have e2:((bU cs).map λc=>Rat.divInt (ws.getD (cs.idxOf c) 0) ws.sum).sum=(cs.map λc=>Rat.divInt (ws.getD (cs.idxOf c) 0) ws.sum).sum:=ud (hp.map _);have e3:(cs.map λc=>Rat.divInt (ws.getD (cs.idxOf c) 0) ws.sum)=(cs.map λc=>ws.getD (cs.idxOf c) 0).map λx=>Rat.divInt x ws.sum:=by rw[List.map_map];rfl
  rw[e2,e3,pG V.nd hl,mP _ (by left),Rat.divInt_eq_div];have z:((ws.sum:Int):Rat)≠0:=λz=>by rw[Rat.intCast_eq_zero_iff]at z;left
  grind
 ·have e:(wL cs ws).map (·.2)=bU cs:=by
   unfold wL;rw[List.map_map];exact(aat λ_ _=>rfl).trans (List.map_id _)
  rw[e];exact jK V.nd
 ·obtain⟨c,hc,rfl⟩:=List.mem_map.mp hr;exact V.sz c (hp.mem_iff.mp hc)
 ·obtain⟨c,hc,c1,c2⟩:=V.all g h hg hh;have hr:(Rat.divInt (ws.getD (cs.idxOf c) 0) ws.sum,c)∈wL cs ws:=by unfold wL;exact aaF (hp.mem_iff.mpr hc)
  have key:∀l:ah,(∀r∈l,0<r.1)->(∃r∈l,cj g h r=true)->0<aD l g h:=λl=>by
   induction l with
   |nil=>rintro _ ⟨r,hr,_⟩;cases hr
   |cons r l ih =>
    rintro hp ⟨s,hs,hb⟩;rw[cZ];have h0:=(dG (cj g h) l λx hx=>hp x (aad _ hx)).1;have h0:0<=aD l g h:=h0;have hr:=hp r aaf;cases e:cj g h r with
    |true=>simp only[if_true];grind
    |false =>
     simp only[Bool.false_eq_true,if_false];refine ih (λx hx=>hp x (aad _ hx)) ⟨s,?_,hb⟩;rcases List.mem_cons.mp hs with rfl|hs
     ·rw[e]at hb;cases hb
     ·exact hs
  exact key _ hpos ⟨_,hr,by simp[cj,c1,c2]⟩
structure K26(Φ:aT):Prop where
 dq:fS (Φ 202)
 fh:d7 (Φ 203)
 C5:sN (Φ 222)
 aa2:ML (Φ 240)
section
variable (Φ:aT)(K:K26 Φ){n:Nat}{rs:ah}{ws xs:az}(G:Gs 3 n ws xs)(hi:∀g h,Sm 6 (aD rs g h))(hp:∀g h:Nat,g<n->h<n->0<aD rs g h)(f3 f4 f5:Fl)(c0 c1 c2 c6 c7 c8 sZ sv:av)
include K G hi hp
end
section
variable {k n:Nat}{rs:ah}(I:Dr k n rs)(hp:∀g h:Nat,g<n->h<n->0<aD rs g h)
include I hp
end
def blQ(b_:ae)(xs:az):az:=(List.range xs.length).map λ(k:Nat)=>if (k:Int)∈b_ then b6 xs k else 7 / 2
def Hj(m:aw):Prop:=∀b_ xs,xs.length<=12->m [.tup (ai b_),.lst .fz (aO xs)]=ok (.lst .ow (aO (blQ b_ xs)))
noncomputable def RL:Nat:=(List.range' 1 63).foldl Nat.lcm 1
theorem Rk:∀a,a<64->0<a->a∣RL:=by decide +kernel
theorem LK{q:Rat}(hW:W<64)(h:Fm W (1*W) q)(h0:0<q):Fm RL (64*RL) (1 / q):=by
 obtain⟨w0,z,hz,e⟩:=h;have hw:(W:Rat)≠0:=rC w0;have hwp:(0:Rat)<(W:Rat):=by
  have:((0:Int):Rat)<((W:Int):Rat):=Rat.intCast_lt_intCast.mpr (by left);rw[Rat.intCast_natCast]at this;exact this
 have K2:(0:Int)<z:=by
  have h1:(0:Rat)<q*(W:Rat):=Rat.mul_pos h0 hwp;rw[e]at h1;have h2:((0:Int):Rat)<(z:Rat):=h1;exact Rat.intCast_lt_intCast.mp h2
 obtain⟨a,rfl⟩:∃a:Nat,z=a:=⟨z.natAbs,by left⟩
 rw[Int.natAbs_natCast]at hz;obtain⟨c,hc⟩:=Rk a (by left) (by left);have ha:(a:Rat)≠0:=rC (by left);refine⟨by decide +kernel,(W:Int)*c,?_,?_⟩
 ·rw[Int.natAbs_mul,Int.natAbs_natCast,Int.natAbs_natCast];refine aaL (by left) ?_;rw[hc];exact abb _ (by left)
 ·have hq:q≠0:=λz=>by rw[z]at h0;exact absurd h0 (by decide)
  rw[hc,Rat.natCast_mul,Rat.intCast_mul,Rat.intCast_natCast,Rat.intCast_natCast];rw[Rat.intCast_natCast]at e;grind
theorem Gn{k n:Nat}{rs:ah}(I:Dr k n rs)(h0:0<W)(hd:∀r∈rs,r.1.den∣W)(g h:Int):Fm W (1*W) (aD rs g h):=by
 refine wI h0 (lF hd h0 g h) ?_;obtain⟨a,b⟩:=iU I g h;have n0:0<=(aD rs g h).num:=Rat.num_nonneg.mpr a;have:(aD rs g h).num<=(aD rs g h).den:=by
  rw[Rat.le_iff]at b;simpa using b
 left
section
variable {k n A B W:Nat}{rs:ah}{ws xs:az}(I:Dr k n rs)(hA:0<A)(hx:∀h:Int,0<=h->h<n->Fm A B (b6 ws h*b6 xs h))
include I hA hx
theorem Io{r:Row}(hr:r∈rs):Fm A (12*B) (gQ ws xs r):=by
 have hl:=I.b_ r hr;have hn:=I.n2;refine Wm hA (by have:=hl.len;left) λh hh=>?_;obtain⟨a,b⟩:=hl.2 h hh;exact hx h a b
theorem Gm(hl:rs.length<=12)(h0:0<W)(hd:∀r∈rs,r.1.den∣W):Fm (W*A) (12*(W*(12*B))) (cQ rs ws xs):=by
 have:=Fm.sum (M:=W*A) (B:=W*(12*B)) (qs:=rs.map λr=>r.1*gQ ws xs r) (abi h0 hA) λq hq=>by
  obtain⟨r,hr,rfl⟩:=List.mem_map.mp hq;have:=(Ip I h0 hd hr).mul (Io I hA hx hr);rw[Nat.one_mul]at this;exact this
 rw[List.length_map]at this;exact this.mono (aa1 _ hl)
end
structure YT(W M Bm Bg dv:Nat):Prop where
 w1:W<64
 m1:M<2 ^ 600
 m2:M*M<2 ^ 600
 m3:W*(M*M)<2 ^ 600
 bm:Bm<2 ^ 600
 bg:Bg<2 ^ 600
 ds:Bg+Bm<=dv
 d1:dv<2 ^ 600
 d2:dv*dv<2 ^ 600
 d3:12*(64*(dv*dv))<2 ^ 600
theorem Z4{A:Nat}(w1:W<64)(hA:A<=2 ^ 120)(hB:B<=2 ^ 130):YT W (W*A) (12*(W*(12*B))) (W*(12*B)) (13*(64*(12*2 ^ 130))):=by
 have hW:W<=64:=by left
 have a1:W*A<=64*2 ^ 120:=aaL hW hA;have a2:W*(12*B)<=64*(12*2 ^ 130):=aaL hW (aaz _ hB);exact⟨w1,aao a1 (by decide +kernel),aao (aaL a1 a1) (by decide +kernel),aao (aaL hW (aaL a1 a1)) (by decide +kernel),aao (aaz _ a2) (by decide +kernel),aao a2 (by decide +kernel),by left,by decide +kernel,by decide +kernel,by decide +kernel⟩
theorem qm(Φ:aT)(dq:fS (Φ 202))(fh:d7 (Φ 203))(C5:sN (Φ 222))(rS:ja (Φ 231))(f g:Fl)(ws xs:az)(n:Nat){W M Bm Bg dv i0 j0:Nat}(L:YT W M Bm Bg dv)(hn:n<=12)(G:Hl i0 j0 n ws xs)(m:Rat)(sm:Fm M Bm m)(c0:av):∀(rs:ah) (acc:Rat) (i:Nat) (c5 c6 c7:av),
  (∀r∈rs,pf n r.2/\Fm W (1*W) r.1/\Fm M Bg (gQ ws xs r))->Fm (W*(M*M)) (i*(64*(dv*dv))) acc->i+rs.length<=12 ->
  ∃pV oW pU,cG (λd ρ=>bQ (.tp [5,6]) d ρ) (λρ=>bp Φ ji ρ) (cC rs) [c0,some (.lst f (aO ws)),some (.lst g (aO xs)),some (qD m),some (qD acc),c5,c6,c7]=ok (.nx,[c0,some (.lst f (aO ws)),some (.lst g (aO xs)),some (qD m),some (qD (acc+jU rs ws xs m)),pV,oW,pU])
 |[],acc,i,c5,c6,c7,_,_,_=>⟨c5,c6,c7,by simp[jU,cC,dt,Rat.add_zero]⟩
 |r::rs,acc,i,c5,c6,c7,hm,hs,hi=>by
  rw[List.length_cons]at hi;obtain⟨hl,s1,s2⟩:=hm r aaf;have e0:=λf g=>rS f g n r.2 ws xs i0 j0 hl hn G;change ∀f g,Φ 231 _=ok (qD (gQ ws xs r))at e0;have s3:Fm M dv (gQ ws xs r - m):=(s2.sub sm).mono L.ds;have s4:=s3.mul s3;have s5:Fm (W*(M*M)) (64*(dv*dv)) (r.1*((gQ ws xs r - m)*(gQ ws xs r - m))):=(s1.mul s4).mono (aa1 _ (by have:=L.w1;left));have up:∀{M B q},Fm M B q->M<2 ^ 600->B<2 ^ 600->Sm 4000 q:=λh a b=>(h.sm a b).mono (by decide);have hW:W<2 ^ 600:=aai L.w1 (aar (n:=2) (by decide) (show 6<=600 by decide));have e1:=C5 (gQ ws xs r) m (up s2 L.m1 L.bg) (up sm L.m1 L.bm);have e2:=fh _ _ (up s3 L.m1 L.d1) (up s3 L.m1 L.d1);have e3:=fh r.1 _ (up s1 hW (by rw[Nat.one_mul];exact hW)) (up s4 L.m2 L.d2);have sY:64*(dv*dv)<=12*(64*(dv*dv)):=abb _ (by decide);have fg:i*(64*(dv*dv))<2 ^ 600:=aao (aa1 _ (show i<=12 by left)) L.d3;have e4:=dq acc _ (up hs L.m3 fg) (up s5 L.m3 (aao sY L.d3));obtain⟨pV,oW,pU,ih⟩:=qm Φ dq fh C5 rS f g ws xs n L hn G m sm c0 rs (acc+r.1*((gQ ws xs r - m)*(gQ ws xs r - m))) (i+1) (some (qD r.1)) (some (.tup (ai r.2))) (some (qD (gQ ws xs r - m))) (λx hx=>hm x (aad _ hx)) (by rw[Nat.succ_mul];exact hs.add s5) (by left);refine⟨pV,oW,pU,bG (ρ1:=[c0,some (.lst f (aO ws)),some (.lst g (aO xs)),some (qD m),some (qD acc),some (qD r.1),some (.tup (ai r.2)),c7]) (by simp[rD]) (ρ2:=[c0,some (.lst f (aO ws)),some (.lst g (aO xs)),some (qD m),some (qD (acc+r.1*((gQ ws xs r - m)*(gQ ws xs r - m)))),some (qD r.1),some (.tup (ai r.2)),some (qD (gQ ws xs r - m))]) ?_ ?_⟩
  ·simp[ji,e0,e1,e2,e3,e4]
  ·refine ih.trans ?_;have:jU (r::rs) ws xs m=r.1*((gQ ws xs r - m)*(gQ ws xs r - m))+jU rs ws xs m:=by unfold jU;rw[List.map_cons,List.sum_cons]
   rw[this,Rat.add_assoc]
def lQ(m:aw):Prop:=∀n rs f g ws xs i j A B,Dr 6 n rs->iL rs->Hl i j n ws xs->0<A->A<=2 ^ 120->B<=2 ^ 130->(∀h:Int,0<=h->h<n->Fm A B (b6 ws h*b6 xs h))->m [bo n rs,.lst f (aO ws),.lst g (aO xs)]=ok (qD (jU rs ws xs (cQ rs ws xs)))
theorem JE(Φ:aT)(dq:fS (Φ 202))(fh:d7 (Φ 203))(C5:sN (Φ 222))(rS:ja (Φ 231))(Wa:za (Φ 232)):lQ (mk Φ 3 8 jt):=by
 intro n rs f g ws xs i j A B I Fi G SE hA hB hx;have z0:D.tup [.int 0,.int 1]=qD 0:=rfl;have hf:=I.vw;obtain⟨W,w0,w1,w2⟩:=Fi;have em:=λf g=>Wa n rs f g ws xs i j I G;have sm:=Gm I SE hx (by left) w0 w2;obtain⟨c5,c6,c7,e⟩:=qm Φ dq fh C5 rS f g ws xs n (Z4 w1 hA hB) I.n2 G (cQ rs ws xs) sm (some (bo n rs)) rs 0 0 none none none (λr hr=>⟨I.b_ r hr,Ip I w0 w2 hr,(Io I SE hx hr).lift W w0⟩) (by
  rw[Nat.zero_mul];exact Fm.zero (abi w0 (abi (abi w0 SE) (abi w0 SE)))) (by left)
 rw[Rat.zero_add]at e;have m1:aY a_ (bo n rs)=bo n rs:=by simp[bo]
 have m2:aY bB (bo n rs)=bo n rs:=by simp[bo]
 have x1:bx Φ (.ix (.v 0) (.int 1)) [some (bo n rs),some (.lst f (aO ws)),some (.lst g (aO xs)),some (qD (cQ rs ws xs)),some (qD 0),none,none,none]=ok (.lst .fz (cC rs)):=by simp[bo]
 have hit:bR Φ (.seq (.ix (.v 0) (.int 1))) [some (bo n rs),some (.lst f (aO ws)),some (.lst g (aO xs)),some (qD (cQ rs ws xs)),some (qD 0),none,none,none]=ok (cC rs,[some (bo n rs),some (.lst f (aO ws)),some (.lst g (aO xs)),some (qD (cQ rs ws xs)),some (qD 0),none,none,none]):=by
  rw[uv x1];simp
 have hx:=dA (Φ:=Φ) (t:=.tp [5,6]) (b:=ji) hit e;simp[mk_eq,jt,z0,m1,m2,em,hx]
theorem lQ.drawn{m:aw}(h:lQ m){n:Nat}{rs:ah}(f g:Fl)(I:Dr 6 n rs)(Fi:iL rs)(G:Gs 3 n ws xs):m [bo n rs,.lst f (aO ws),.lst g (aO xs)]=ok (qD (bK rs ws xs)):=by
 rw[<- jT I G];refine h n rs f g ws xs 3 3 gm3 (7*420*(7*420)) I Fi (G.two (by decide)) (by decide) (by decide +kernel) (by decide +kernel) λh a b=>?_;exact(LL (G.s1 _ (dJ (qs:=ws) a (by rw[G.l1];exact b)).2)).mul (LL (G.s2 _ (dJ (qs:=xs) a (by rw[G.l2];exact b)).2))
def jC(n:Nat)(rs:ah):az:=(jl n rs).map λq=>1 / q
theorem BB{n:Nat}{rs:ah}{k:Nat}(h:k<n):b6 (jC n rs) k=1 / aD rs k k:=by
 unfold b6 jC;rw[Int.toNat_natCast,List.getD_eq_getElem?_getD,List.getElem?_map,mQ rs h];rfl
theorem xO{n:Nat}{rs:ah}(I:Dr 6 n rs)(Fi:iL rs)(hp:∀g:Nat,g<n->0<aD rs g g):∀q∈jC n rs,Sm 6 q:=by
 intro q hq;obtain⟨p,oB,rfl⟩:=List.mem_map.mp hq;obtain⟨k,hk,rfl⟩:=mU oB;have:=hp k hk;have nz:aD rs k k≠0:=λz=>by rw[z]at this;exact absurd this (by decide)
 have:=T9.div (nP I Fi k k) nz;obtain⟨s1,s2⟩:=nP I Fi k k;have e:=Rat.inv_def (aD rs k k);have hn:=fC (hp k hk);have e2:(1:Rat) / aD rs k k=Rat.divInt (aD rs k k).den (aD rs k k).num:=by
  rw[Rat.div_def,Rat.one_mul,e]
 rw[e2];exact lA (by left) (by simpa using s2) s1
theorem lQ.JJ{m:aw}(h:lQ m){n:Nat}{rs:ah}(f g:Fl)(I:Dr 6 n rs)(Fi:iL rs)(hp:∀g:Nat,g<n->0<aD rs g g)(hl:xs.length=n)(hx:∀q∈xs,Sm 3 q):m [bo n rs,.lst f (aO (jC n rs)),.lst g (aO xs)]=ok (qD (bK rs (jC n rs) xs)):=by
 have l1:(jC n rs).length=n:=by unfold jC;simp
 have s1:=xO I Fi hp;have G:Gs 6 n (jC n rs) xs:=⟨l1,hl,s1,λq hq=>(hx q hq).mono (by decide),by decide⟩
 rw[<- jT I G];obtain⟨W,w0,w1,w2⟩:=id Fi;refine h n rs f g _ xs 6 6 (RL*420) (64*RL*(7*420)) I Fi (G.two (by decide)) (by decide +kernel) (by decide +kernel) (by decide +kernel) λh a b=>?_;obtain⟨k,rfl⟩:∃k:Nat,h=k:=⟨h.toNat,by left⟩
 rw[BB (by left)];exact(LK w1 (Gn I w0 w2 k k) (hp k (by left))).mul (LL (hx _ (dJ (qs:=xs) a (by rw[hl];exact b)).2))
structure K25(Φ:aT):Prop where
 h68:D4 (Φ 68)
 h69:D5 (Φ 69)
 dq:fS (Φ 202)
 fh:d7 (Φ 203)
 aa3:Hj (Φ 239)
open Classical in
theorem Gs.up{i j n:Nat}(G:Gs i n ws xs)(h:i<=j)(hj:j<=100):Gs j n ws xs:=⟨G.l1,G.l2,λq hq=>(G.s1 q hq).mono h,λq hq=>(G.s2 q hq).mono h,hj⟩
noncomputable def Mr:CE:=.comp 1 (.nm 0) [] .seq [(.call 233 [(.v 0)])] [(.cmp .eq (.ix (.v 0) (.int 0)) (.int 0))] (.v 0)
def Hb:ag:=[.ret (.cmp .eq (.bf .len [Mr]) (.int 0))]
def RI(m:aw):Prop:=∀n rs,Dr 6 n rs->m [bo n rs]=ok (.bl (decide ((jl n rs).filter (λq=>decide (q=0))=[])))
theorem Ui(Φ:aT)(Lw:lR (Φ 233)):RI (mk Φ 1 1 Hb):=by
 intro n rs I;have hn:=I.n2;have hl:=xJ n rs;have e1:=Lw n rs I;have m1:aY a_ (bo n rs)=bo n rs:=by simp[bo]
 have m2:aY bB (bo n rs)=bo n rs:=by simp[bo]
 have k1:bx Φ Mr [some (bo n rs)]=ok (.lst .ow (aO ((jl n rs).filter λq=>decide (q=0)))):=by
  unfold Mr;rw[cP (xs:=[.lst .ow (aO (jl n rs))]) (items:=aO (jl n rs)) (ds:=((jl n rs).filter λq=>decide (q=0)).map qD) (by simp[m1,m2,e1]) (by rw[dW,kF]) (eN λq hq=>⟨[some (qD q)],by simp[bE],?_,λ_=>by simp⟩) (by
   have:=List.length_filter_le (λq=>decide (q=0)) (jl n rs);simp only[List.length_map];exact bY (by left))]
  ·show ok (D.lst .ow (aC i4 (aO _)))=_;rw[kF]
  ·have e4:qD q=.tup [.int q.num,.int q.den]:=rfl;have e5:cK .eq (.int q.num) (.int 0)=ok (.bl (decide (q=0))):=by
    rw[mH rfl rfl];show ok (D.bl (q.num==0))=_;have:(q.num==0)=decide (q=0):=by
     rw[show(q.num==0)=decide (q.num=0) from rfl];exact decide_eq_decide.mpr Rat.num_eq_zero
    rw[this]
   rw[e4];simp[e5]
 have hz:cK .eq (.int (((jl n rs).filter λq=>decide (q=0)).length:Int)) (.int 0)=ok (.bl (decide ((jl n rs).filter (λq=>decide (q=0))=[]))):=by
  rw[mH rfl rfl];show ok (D.bl ((((jl n rs).filter λq=>decide (q=0)).length:Int)==0))=_;generalize (jl n rs).filter (λq=>decide (q=0))=l;cases l with
  |nil=>rfl
  |cons x l =>
   have:(((x::l).length:Int)==0)=false:=by rw[beq_eq_false_iff_ne,List.length_cons];left
   rw[this];rfl
 simp[mk_eq,Hb,m1,m2,k1,hz]
noncomputable def rZ:CE:=.comp 1 (.nm 0) [] .seq [(.call 233 [(.v 0)])] [] (.call 201 [(.ix (.v 0) (.int 1)),(.ix (.v 0) (.int 0))])
def sD:ag:=[.ret rZ]
def vg(m:aw):Prop:=∀n rs,Dr 6 n rs->(∀q∈jl n rs,0<q)->(∀q∈jl n rs,Sm 61 q)->m [bo n rs]=ok (.lst .ow (aO ((jl n rs).map λq=>1 / q)))
theorem Bu(Φ:aT)(oF:fm (Φ 201))(Lw:lR (Φ 233)):vg (mk Φ 1 1 sD):=by
 intro n rs I hp hs;have hn:=I.n2;have hl:=xJ n rs;have e1:=Lw n rs I;have m1:aY a_ (bo n rs)=bo n rs:=by simp[bo]
 have m2:aY bB (bo n rs)=bo n rs:=by simp[bo]
 have k1:bx Φ rZ [some (bo n rs)]=ok (.lst .ow (aO ((jl n rs).map λq=>1 / q))):=by
  unfold rZ;rw[cP (xs:=[.lst .ow (aO (jl n rs))]) (items:=aO (jl n rs)) (ds:=(jl n rs).map λq=>qD (1 / q)) (by simp[m1,m2,e1]) (by rw[dW,kF]) (bZ λq hq=>⟨[some (qD q)],by simp[bE],by simp,?_⟩) (by simp only[List.length_map];exact bY (by left))]
  ·have:((jl n rs).map λq=>qD (1 / q))=aO ((jl n rs).map λq=>1 / q):=by unfold aO;rw[List.map_map];rfl
   rw[this,kF]
  ·have e4:qD q=.tup [.int q.num,.int q.den]:=rfl;have zY:=fC (hp q hq);have e:=oF q.den q.num (by left) (aai (hs q hq).1 (aar (by decide) (by decide)));have ev:Rat.divInt q.den q.num=1 / q:=by
    rw[Rat.divInt_eq_div,Rat.intCast_natCast];have h1:=BI q;have h0:q≠0:=λz=>by rw[z]at zY;exact absurd zY (by decide)
    have h2:(q.den:Rat)≠0:=rC q.den_pos;rw[h1];grind
   rw[ev]at e;rw[e4];simp[e]
 simp[mk_eq,sD,FY Φ rZ _ rfl,k1]
end DI
end
section
namespace DI
open PySem PySem.Spec PyProof.Rows L2
variable {B C:Addr}{K:au}{P:aH}{base:Heap}{k':Nat}{mg:Str->Option Value}
theorem jz.up{w:World}{k:Nat}{y:Str}{mr:aa->Prop}(h:jz P w K mg base k C y mr)(hk:k<=k'):jz P w K mg base k' C y mr:=by
 obtain⟨f,fd,ps,h1,h2⟩:=h.ex;exact⟨f,fd,ps,h1.mono hk,h2⟩
theorem jz.u{w:World}{k:Nat}{y:Str}{mr:aa->Prop}(h:jz P w K mg base k C y mr)(hk:k<=k':=by decide):jz P w K mg base k' C y mr:=h.up hk
theorem zI{h:Heap}(X:K.In h)(q:PySem.W.excIn K C I0 "ValueError.__new__" = true)(m:PySem.W.mroIn K C (.ref B)=some true)(ne:C≠B):lU C B h:=by
 obtain⟨dd,nm,bs,bm,ns,qn,hd,sn,sub,ab,col,k0,k1,k2,k3,k5,ho,_,_,_⟩:=yF q;refine⟨_,_,_,_,_,_,_,_,_,_,_,_,_,_,_,_,_,X _ _ ho,?_⟩;unfold PySem.W.mroIn PySem.W.clsIn at m;rw[ho]at m;have m:some ((Value.ref C::bm).contains (.ref B))=some true:=m;have m:=aap m;rw[List.contains_cons,Bool.or_eq_true]at m;rcases m with m|m
 ·have:=beq_iff_eq.mp m;cases this;exact absurd rfl ne
 ·exact m
section
variable {P:aH}{w:World}{K:au}{h base:Heap}{mg:aU}(X:K.In h)(G:h.Ns mainGlobals mg){C:Addr}⦃x:Str⦄⦃st:Stmt⦄⦃N ps bl:aq⦄⦃tb:List (Nat×Str)⦄⦃cs:List (Str×GK)⦄⦃px:Px⦄
include X G
theorem Yy{y:Str}(O:pd y C mg base)⦃b:ag⦄(n k:Nat)(Φ:aT)(Ψ:Nat->aa->Prop)(mr:aa->Prop)(d:Df K x st)(hc:Rp st N ps tb bl cs px b=true)(Vj:ze (eM (aL st) y&&!(y==("__debug__" : Str))) n y b (bD st)=true)
  (hp:pZ px Φ/\Ei px Φ) (uD:cI (λy=>mg y=none) bl) (pO:cI (λp:Str×GK=>∃u,mg p.1=some u/\Ay K p.2 u) cs)
  (hf:cI (λp:Nat×Str=>Ent P w K mg base k p.2 (Φ p.1)) tb) (Qw:cI (λp:Nat×Str=>(∃ds,Ψ p.1 ds)->jz P w K mg base k C p.2 (Ψ p.1)) tb)
  (hm:∀ds,mr ds->ds.length=ps.length/\Er Φ Ψ n b (ds.map some++List.replicate (N.length - ds.length) none)) (hb:∀(kV doc pm:Value) (an:Option Addr) (gx ct:Value) (us:ao),us.length=ps.length->bindArgs (PySem.W.fnOf x x (fi st) (bD st) (aL st) .none kV doc pm an gx ct) ⟨us,[]⟩=pure (ps.zip us):=by first|exact λ_ _ _ _ _ _=>u1 λ_=>rfl|exact λ_ _ _ _ _ _=>u2 λ_ _=>rfl|exact λ_ _ _ _ _ _=>u3 λ_ _ _=>rfl|exact λ_ _ _ _ _ _=>u4 λ_ _ _ _=>rfl|exact λ_ _ _ _ _ _=>u5 λ_ _ _ _ _=>rfl):jz P w K mg base (k+1) C x mr:=by
 obtain⟨f,fd,Fu,a⟩:=d;obtain⟨h1,h2⟩:=aE hc;exact⟨f,fd,ps,Me Fu (Dc h1) h2 Vj hp.1 hp.2 (cI.mem uD) (cI.two (P:=λy i=>∃u,mg y=some u/\Ay K i u) pO) (cI.tab (P:=λg y=>Ent P w K mg base k y (Φ g)) hf) (cI.tab (P:=λg y=>(∃ds,Ψ g ds)->jz P w K mg base k C y (Ψ g)) Qw) O hm,abg X G a,Fu.kp,Fu.binds hb,λds q=>(hm ds q).1⟩
noncomputable def SU(y:Str):Str->Option Bool:=λx=>if x=y then some true else none
def Xx(sc:Scope)(N:aq)(share y ex kept:Str)(i j:Nat):Bool:=(eM sc share&&!(share==("__debug__" : Str)))&&((eM sc y&&!(y==("__debug__" : Str)))&&(eM sc "isinstance" && (decide (N[i]?=some ex)&&(decide (N[j]?=some kept)&&(decide (kept≠ex)&&(decide (sc.names.lookup ex=some .local)&&(decide (sc.names.lookup kept=some .local)&&(DG ex&&DG kept))))))))
end
def TT(Φ:aT)(Ψ:Nat->aa->Prop)(n j:Nat)(c:CS)(ρ:aX)(r:D):Prop:=r=.bl true/\j<ρ.length/\vj Φ Ψ n c (ρ.set j (some .bu))
variable {Φ:aT}
theorem Cp{n:Nat}{pre:ag}{T:aX->D->Prop}(h:∀ns:ae,ns.length<=63->∃fo,bp Φ pre (some (D.lst .sc (ns.map D.int))::List.replicate n none)=ok fo/\gq T (.bl true) fo):∀ds r,rF ds=ok r->ds.length=1/\∃fo,bp Φ pre (ds.map some++List.replicate (n+1 - ds.length) none)=ok fo/\gq T r fo:=by
 intro ds r e
 match ds,e with
 |[.lst .sc ds],e =>
  simp only[rF]at e;split at e
  ·rename_i ns AF;split at e
   ·rename_i hl;cases e;obtain rfl:=uf AF;exact⟨rfl,h ns hl⟩
   ·cases e
  ·cases e
section
variable {P:aH}{w:World}{K:au}{h base:Heap}{mg:aU}{C:Addr}⦃x:Str⦄⦃st:Stmt⦄⦃N ps bl:aq⦄⦃tb:List (Nat×Str)⦄⦃cs:List (Str×GK)⦄⦃px:Px⦄
end
def zr(K:au)(n:Nat)(m:aw):Sp:=λvs H Q _=>∃(ds:aa) (r:D),vs.length=n/\aI (bh K H) (nd K (λ_=>False) (λ_=>False) (λ_=>none) H) [] 0 vs ds/\m ds=ok r/\∀v H',aM H H'->(∃τt:Addr->Option bt,(∀p q,τt p=some q->H p=none)/\Rep (bh K H') (nd K (λp=>False\/H p=none) (λ_=>False) τt H') [] v r)->Q v H'
theorem FW(K:au)(H:Hp)(a:Addr)(ns:ae)(m:aw)(hm:m [.lst .sc (ns.map D.int)]=ok (.bl true))(hO:Hk H)(hS:dz K H a (ns.map V.int)):zr K 1 m [.ref a] H (λv _=>v=.bl true) λ_ _ _=>False:=by
 refine⟨_,.bl true,rfl,.cons (.lst ?_ (aI.ints ns)) .nil,hm,λv H' _ bW=>by obtain⟨τt,_,rp⟩:=bW;cases rp;rfl⟩;rcases hS with (h|h)|h
 ·rcases hO a with z|⟨o,xs,z⟩
  ·rw[h]at z;cases z
  ·rw[h]at z;cases z
 ·exact .inl h
 ·exact .inr h
theorem BQ{w:World}{x qual:Str}{st:Stmt}{f:Addr}{fd:FuncData}{ps:aq}{k:Nat}{N bl:aq}{cs:List (Str×GK)}{px:Px}{oK:Nat->Option Str}{m:aw}{pre:ag}{tp tr:aZ}{T:aX->D->Prop}
  (Fu:AK K x qual st f fd) (Sc:fq N ps (aL st)) (Qc:bD st=tp++tr) (wB:dP ⟨aL st,N,oK,bl,cs,px⟩ pre tp=true) (wy:pZ px Φ) (K9:Ei px Φ)
  (uD:∀y∈bl,mg y=none) (pO:∀y i,(y,i)∈cs->∃u,mg y=some u/\Ay K i u) (vv:∀g y,oK g=some y->Ent P w K mg base k y (Φ g))
  (hT:∀(X:Cx),j3 X ⟨aL st,N,oK,bl,cs,px⟩ k Φ->X.prog=P->X.w=w->X.K=K->X.mg=mg->X.base=base->X.stack=X.env::X.outer->X.env.frame=some X.env.locals->fG X tr (MQ X (λ_=>False) T))
  (hm:∀ds r,m ds=ok r->ds.length=ps.length/\∃fo,bp Φ pre (ds.map some++List.replicate (N.length - ds.length) none)=ok fo/\gq T r fo):f_ P w K mg base zc (k+1) f fd ps (zr K ps.length m):=by
 refine Fu.ok (N:=N) Sc (λvs H Q E ⟨_,_,h,_⟩=>h) λgx A outer s H vs Q E hr vq=>?_;obtain⟨ds,r,hl,rs,er,hq⟩:=vq;obtain⟨Sw,fo,Qy,hp⟩:=hm ds r er
 let X:=(i8 zc P w K mg base N qual (aL st) f gx A outer s H E).Ea
 have L:j3 X ⟨aL st,N,oK,bl,cs,px⟩ k Φ:=⟨⟨rfl,rfl,Sc.nd,rfl,hr,uD,λg y h=>⟨(vv g y h).ex⟩,pO,wy⟩,λ_=>rfl,PassesOwn.never,Sc.kind,K9⟩
 have hpl:ps.length<=N.length:=by have:=aaS List.length Sc.pre;rw[List.length_take]at this;left
 rw[Qc];exact⟨_,rg (F:=λ_=>False) L (hT X L rfl rfl rfl rfl rfl rfl rfl) pre tp wB,_,_,_,r,fo,tO (X:=X) rfl (by left) rs,Qy,hp,λv H' s' rr=>hq v H' s' rr⟩
theorem enM{w:World}⦃x:Str⦄⦃st:Stmt⦄⦃N ps bl:aq⦄⦃tb:List (Nat×Str)⦄⦃cs:List (Str×GK)⦄⦃px:Px⦄{f:Addr}{fd:FuncData}{share ex kept y xf:Str}(hO:pd share B mg base)(OS:lU C B base)(xc:XC K C)(ni:mg "isinstance" = none)(hy:mg y=some (.ref C))(vC:PySem.W.kitOne K (.ref C) (.ref C)=some true)
  {pre q1 q2:ag} {tp N1:aZ} {Ot:Stmt} {Ti:Str} {pc:Pos} {ke:Expr} {c:CE} {v te ie:Expr} {AA q0 np p1 p2 p3 hpos pos rp ip:Pos} {es:aF} {tc:CE} (i j i0 g t u k:Nat) (Φ:aT) (Ψ:Nat->aa->Prop) (m:aw) (Fu:AK K x x st f fd) (hsc:SH N ps (aL st)=true) (hn:Xx (aL st) N share y ex kept i j=true)
  (Qc:(bD st).drop t=.Try [.Assign [.Name xf AA] v q0] [.ExceptHandler (some (.Name share np)) (some ex) [.Assign [.Name kept p1] (.Name ex p2) p3] hpos] [] [] pos::.If te [.Return (some ie) rp] [] ip::tp/\(bT ⟨aL st,N,λn=>List.lookup n tb,bl,cs,px⟩ (.call g es) v&&(!dY v&&(hZ ⟨aL st,N,λn=>List.lookup n tb,bl,cs,px⟩ i0 (.Name xf AA)&&(bT ⟨aL st,N,λn=>List.lookup n tb,bl,cs,px⟩ tc te&&(dP ⟨aL st,N,λn=>List.lookup n tb,bl,cs,px⟩ q1 (tp.take u)&&(hZ ⟨aL st,N,λn=>List.lookup n tb,bl,cs,px⟩ i0 (.Name Ti pc)&&(iV Ti&&(bH ⟨aL st,N,λn=>List.lookup n tb,bl,cs,px⟩ [c] [ke]&&dP ⟨aL st,N,λn=>List.lookup n tb,bl,cs,px⟩ q2 N1))))))))=true/\F5 kept (SU y) ie=some true/\tp.drop u=Ot::N1/\oV (aL st) bl Ot=some (.Name Ti pc,[ke])) (zZ:dP ⟨aL st,N,λn=>List.lookup n tb,bl,cs,px⟩ pre ((bD st).take t)=true)
  (hp:pZ px Φ/\Ei px Φ) (uD:cI (λy=>mg y=none) bl) (pO:cI (λp:Str×GK=>∃u,mg p.1=some u/\Ay K p.2 u) cs)
  (hf:cI (λp:Nat×Str=>Ent P w K mg base k p.2 (Φ p.1)) tb) (Qw:cI (λp:Nat×Str=>(∃ds,Ψ p.1 ds)->jz P w K mg base k C p.2 (Ψ p.1)) tb)
  (hm:∀ds r,m ds=ok r->ds.length=ps.length/\∃fo,bp Φ pre (ds.map some++List.replicate (N.length - ds.length) none)=ok fo/\gq (T3 Φ Ψ i j i0 g es tc λρ r=>∃fo,bp Φ q1 ρ=ok fo/\gq (TC Φ i0 c q2) r fo) r fo):f_ P w K mg base zc (k+1) f fd ps (zr K ps.length m):=by
 obtain⟨s1,s2,s3,s4,s5⟩:=Qc;obtain⟨c1,s2⟩:=aE s2;obtain⟨c2,s2⟩:=aE s2;obtain⟨c3,s2⟩:=aE s2;obtain⟨c4,s2⟩:=aE s2;obtain⟨c5,s2⟩:=aE s2;obtain⟨c6,s2⟩:=aE s2;obtain⟨c7,s2⟩:=aE s2;obtain⟨c8,c9⟩:=aE s2;obtain⟨n1,hn⟩:=aE hn;obtain⟨n2,hn⟩:=aE hn;obtain⟨n3,hn⟩:=aE hn;obtain⟨n4,hn⟩:=aE hn;obtain⟨n5,hn⟩:=aE hn;obtain⟨n6,hn⟩:=aE hn;obtain⟨n7,hn⟩:=aE hn;obtain⟨n8,hn⟩:=aE hn;obtain⟨n9,Z3⟩:=aE hn;obtain⟨n2,XB⟩:=aE n2;obtain⟨n1,XD⟩:=aE n1;refine BQ (T:=T3 Φ Ψ i j i0 g es tc λρ r=>∃fo,bp Φ q1 ρ=ok fo/\gq (TC Φ i0 c q2) r fo) Fu (Dc hsc) ((List.take_append_drop t (bD st)).symm.trans (by rw[s1])) zZ hp.1 hp.2 (cI.mem uD) (cI.two (P:=λy i=>∃u,mg y=some u/\Ay K i u) pO) (cI.tab (P:=λg y=>Ent P w K mg base k y (Φ g)) hf) (λX L e1 e2 e3 e4 e5 e6 e7=>?_) hm;subst e1 e2 e3 e4 e5;have Z:RM X C (SU y):=⟨xc,L.gl n3,ni,λz b hz p=>by
  unfold SU at hz;split at hz
  ·rename_i e;subst e;cases hz;exact⟨.ref C,.ref C,rn (L.gl n2) hy rfl (gL XB),λu z=>z,vC⟩
  ·cases hz⟩
 have lx:X.env.scope.names.lookup ex=some .local:=by rw[L.sc];exact aab n7
 have lk:X.env.scope.names.lookup kept=some .local:=by rw[L.sc];exact aab n8
 have R4:fG X tp (MQ X (λ_=>False) λρ r=>∃fo,bp Φ q1 ρ=ok fo/\gq (TC Φ i0 c q2) r fo):=by
  have e:=(List.take_append_drop u tp).symm;rw[s4]at e;rw[e];exact fG.imp (rg (F:=λ_=>False) L (G0 L (λ_ z=>z) s5 c6 c7 c8 c9) q1 (tp.take u) c5) λE σ H ⟨R,τ,ρ,r,Si,⟨fo,h1,h2⟩,hq⟩=>⟨R,τ,ρ,r,fo,Si,h1,h2,hq⟩
 exact Kr (X:=X) (F:=λ_=>False) (Ψ:=Ψ) L e6 e7 hO OS (L.gl n1) (gL XD) (i:=i) (j:=j) (by rw[L.N];exact aab n4) (by rw[L.N];exact aab n5) (aab n6) lx lk n9 Z3 (cI.tab (P:=λg y=>(∃ds,Ψ g ds)->jz X.prog X.w X.K X.mg X.base k C y (Ψ g)) Qw) Z s3 c1 (gL c2) c3 c4 R4
end DI
end
section
namespace DI
open PySem (Str)
noncomputable def yL:CE:=.comp 1 (.nm 0) [3] .seq [(.dj 1020 [(.v 0),(.bin .add (.v 2) (.int 1))])] [] (.tup [(.v 1),(.v 0)])
def xy:ag:=[.mut 1013 1 [yL]]
def sC:ag:=[.asg (.nm 1) (.lst []),.fr (.tp [2,3]) (.uc 1001 [(.v 0)]) xy,.ret (.v 1)]
def xh(m:aw):Prop:=∀hs,hs.length<=12->m [.lst .fz (ai hs)]=ok (.lst .ow (dC (fY hs)))
theorem tV(Φ:aT)(yw:Φ 1013=Dh)(qr:Φ 1020=cutD true)(hs:ae)(hl:hs.length<=12):∀(gs:ae) (j:Nat) (acc:List (Int×Int)) (c2 c3:av),hs.drop j=gs->acc.length+12*gs.length<=200 ->
  ∃xa w_,cG (λd ρ=>bQ (.tp [2,3]) d ρ) (λρ=>bp Φ xy ρ) (br j (ai gs)) [some (.lst .fz (ai hs)),some (.lst .ow (dC acc)),c2,c3]=ok (.nx,[some (.lst .fz (ai hs)),some (.lst .ow (dC (acc++fY gs))),xa,w_])
 |[],j,acc,c2,c3,_,_=>⟨c2,c3,by simp[dt,fY,br]⟩
 |g::gs,j,acc,c2,c3,hd,h=>by
  rw[List.length_cons]at h;have hj:j<hs.length:=by
   have:=aaS List.length hd;rw[List.length_drop,List.length_cons]at this;left
  have Nk:gs.length<=12:=by
   have:=aaS List.length hd;rw[List.length_drop,List.length_cons]at this;left
  have Yg:hs.drop (j+1)=gs:=by
   rw[<- List.drop_drop,hd];rfl
  have e0:Φ 1020 [.lst .fz (ai hs),.int ((j:Int)+1)]=ok (.lst .ow (ai gs)):=by
   rw[qr];show(if 0<=((j:Int)+1)/\((j:Int)+1)<=((ai hs).length:Nat)then ok (D.lst .ow (aC bB ((ai hs).drop ((j:Int)+1).toNat)))else none)=_;rw[if_pos ⟨by left,by simp;left⟩,show((j:Int)+1).toNat=j+1 by left];have:(ai hs).drop (j+1)=ai gs:=by unfold ai;rw[<- List.map_drop,Yg]
   rw[this];simp
  have k1:bx Φ yL [some (.lst .fz (ai hs)),some (.lst .ow (dC acc)),some (.int j),some (.int g)]=ok (.lst .ow (dC (gs.map λh=>(g,h)))):=by
   unfold yL;rw[cP (xs:=[.lst .ow (ai gs)]) (items:=gs.map D.int) (ds:=gs.map λh=>kj (g,h)) (by simp[e0]) (by rw[dW,gi];rfl) (bZ λh hh=>⟨[some (.int h),some (.int g)],by simp[bE],by simp,by simp[kj]⟩) (by simp;exact bY (by left))];simp[dC,aP]
  have e1:Φ 1013 [.lst .ow (dC acc),.lst .ow (dC (gs.map λh=>(g,h)))]=ok (.lst .ow (dC (acc++gs.map λh=>(g,h)))):=by
   rw[yw];show(if aR anyF (dC (gs.map λh=>(g,h)))=false/\(dC acc).length+(dC (gs.map λh=>(g,h))).length<=cL then ok (D.lst .ow (dC acc++dC (gs.map λh=>(g,h))))else none)=_;rw[if_pos ⟨z7 _ _,by simp;exact bY (by left)⟩];unfold dC;rw[List.map_append]
  have hx:=AQ (Φ:=Φ) (p:=1013) (i:=1) (es:=[yL]) (ρ:=[some (.lst .fz (ai hs)),some (.lst .ow (dC acc)),some (.int j),some (.int g)]) (xs:=[.lst .ow (dC (gs.map λh=>(g,h)))]) (by simp[k1]) (by simp) rfl e1;obtain⟨xa,w_,ih⟩:=tV Φ yw qr hs hl gs (j+1) (acc++gs.map λh=>(g,h)) (some (.int j)) (some (.int g)) Yg (by simp;left);refine⟨xa,w_,bG (ρ1:=[some (.lst .fz (ai hs)),some (.lst .ow (dC acc)),some (.int j),some (.int g)]) (by simp) (ρ2:=[some (.lst .fz (ai hs)),some (.lst .ow (dC (acc++gs.map λh=>(g,h)))),some (.int j),some (.int g)]) ?_ ?_⟩
  ·rw[xy,bO,hx];simp
  ·exact ih.trans (by simp[fY])
variable {ρ:aX}
theorem yo(Φ:aT)(kP:Φ 1001=mj){ds:aa}(h:bx Φ (.v 0) ρ=ok (.lst .fz ds))(hf:aR bI ds=false):bR Φ (.uc 1001 [(.v 0)]) ρ=ok (aC a_ (br 0 ds),ρ):=by
 have hI:bR Φ (.uc 1001 [(.v 0)]) ρ=bd (bX Φ [(.v 0)] ρ) λxs=>bd (Φ 1001 xs) λd=>bd (kv d) λitems=>ok (items,if aR bI xs then hU (cU [(.v 0)]) ρ else ρ):=rfl;rw[hI];have:bX Φ [(.v 0)] ρ=ok [.lst .fz ds]:=by simp[h]
 rw[this,cH,kP];show bd (ok (D.lst .ow (br 0 ds))) _=_;rw[cH];show bd (ok (aC a_ (br 0 ds))) _=_;rw[cH];have:aR bI [D.lst .fz ds]=false:=by simp[hf,bI]
 rw[this];rfl
theorem JD(Φ:aT)(kP:Φ 1001=mj)(yw:Φ 1013=Dh)(qr:Φ 1020=cutD true):xh (mk Φ 1 4 sC):=by
 intro hs hl;obtain⟨c2,c3,el⟩:=tV Φ yw qr hs hl hs 0 [] none none rfl (by simp;left);have hit:=yo Φ kP (ρ:=[some (.lst .fz (ai hs)),some (.lst .ow []),none,none]) (ds:=ai hs) (by simp) (by simp);rw[qy]at hit;have hx:=dA (Φ:=Φ) (t:=.tp [2,3]) (b:=xy) hit el;rw[List.nil_append]at hx;simp[mk_eq,sC,hx]
theorem uQ(g:Fl->Fl):∀(ds:aa) (j:Nat),aC g (br j ds)=br j (aC g ds)
 |[],_=>rfl
 |d::ds,j=>by
  show aY g (.tup [.int j,d])::aC g (br (j+1) ds)=_;rw[uQ g ds (j+1)];rfl
def AD(n:Nat)(rs:ah)(g:Nat):D:=.lst .fz (aO ((List.range' 0 n).map λ(h:Nat)=>aD rs g h))
theorem t_(n:Nat)(rs:ah)(j k:Nat):bM n rs .fz j (k+1)=AD n rs j::bM n rs .fz (j+1) k:=by unfold bM AD;rw[List.range'_succ,List.map_cons]
noncomputable def lu:ag:=[.ifs (.cmp .eq (.ix (.ix (.v 2) (.v 1)) (.int 0)) (.int 0)) [.rs 6] []]
def jW:ag:=[.fr (.tp [1,2]) (.uc 1001 [(.v 0)]) lu]
def D7(m:aw):Prop:=∀n rs,n<=12->(∀g:Nat,g<n->0<aD rs g g)->m [.lst .fz (bM n rs .fz 0 n)]=ok .bu
theorem yI(Φ:aT){n:Nat}{rs:ah}{c0:av}{j:Nat}(hj:j<n):bx Φ (.ix (.ix (.v 2) (.v 1)) (.int 0)) [c0,some (.int j),some (AD n rs j)]=ok (.int (aD rs j j).num):=by
 have a2:=vX (rs:=rs) (g:=j) hj;simp[AD,a2]
theorem qz(Φ:aT){n:Nat}{rs:ah}(hp:∀g:Nat,g<n->0<aD rs g g)(c0:av):∀(k j:Nat) (c1 c2:av),j+k<=n->∃Aq xa,cG (λd ρ=>bQ (.tp [1,2]) d ρ) (λρ=>bp Φ lu ρ) (br j (bM n rs .fz j k)) [c0,c1,c2]=ok (.nx,[c0,Aq,xa])
 |0,j,c1,c2,_=>⟨c1,c2,by simp[dt,bM,br]⟩
 |k+1,j,c1,c2,h=>by
  obtain⟨Aq,xa,ih⟩:=qz Φ hp c0 k (j+1) (some (.int j)) (some (AD n rs j)) (by left);have Le:=fC (hp j (by left));have c:cK .eq (.int (aD rs j j).num) (.int 0)=ok (.bl false):=by
   rw[mH rfl rfl];show ok (D.bl ((aD rs j j).num==0))=_;rw[beq_eq_false_iff_ne.mpr (by left)]
  rw[t_];refine⟨Aq,xa,bG (ρ1:=[c0,some (.int j),some (AD n rs j)]) (by simp[AD]) (ρ2:=[c0,some (.int j),some (AD n rs j)]) ?_ ih⟩;have:=yI Φ (rs:=rs) (c0:=c0) (show j<n by left);simp only[lu,bO,tm,yM,this];simp[c]
theorem yJ(Φ:aT)(kP:Φ 1001=mj)(n:Nat)(rs:ah):bR Φ (.uc 1001 [(.v 0)]) [some (.lst .fz (bM n rs .fz 0 n)),none,none]=ok (br 0 (bM n rs .fz 0 n),[some (.lst .fz (bM n rs .fz 0 n)),none,none]):=by
 have hit:=yo Φ kP (ρ:=[some (.lst .fz (bM n rs .fz 0 n)),none,none]) (ds:=bM n rs .fz 0 n) (by simp[bL]) (kN bI n rs .fz 0 n rfl);rw[uQ,bL]at hit;exact hit
theorem JG(Φ:aT)(kP:Φ 1001=mj):D7 (mk Φ 1 3 jW):=by
 intro n rs hn hp;obtain⟨c1,c2,el⟩:=qz Φ hp (some (.lst .fz (bM n rs .fz 0 n))) n 0 none none (by left);have hx:=dA (Φ:=Φ) (t:=.tp [1,2]) (b:=lu) (yJ Φ kP n rs) el;simp[mk_eq,jW,hx]
def S8(ds:aa):Prop:=∃(k n:Nat) (rs:ah),Dr k n rs/\(∃g:Nat,g<n/\aD rs g g=0)/\ds=[.lst .fz (bM n rs .fz 0 n)]
theorem yK(Φ:aT)(Ψ:Nat->aa->Prop){n:Nat}{rs:ah}(hn:∀g h:Int,0<=aD rs g h)(c0:av):∀(k j:Nat) (c1 c2:av),j+k<=n->(∃g:Nat,j<=g/\g<j+k/\aD rs g g=0)->NI Φ Ψ 6 (.tp [1,2]) lu (br j (bM n rs .fz j k)) [c0,c1,c2]
 |0,j,c1,c2,_,h=>by obtain⟨g,h1,h2,_⟩:=h;left
 |k+1,j,c1,c2,hjk,hz=>by
  rw[t_];have e0:bQ (.tp [1,2]) (.tup [.int j,AD n rs j]) [c0,c1,c2]=ok [c0,some (.int j),some (AD n rs j)]:=by simp[AD]
  have ei:=yI Φ (rs:=rs) (c0:=c0) (show j<n by left);by_cases hq:aD rs j j=0
  ·refine .hd e0 (.hd (.XX ?_ (.hd .rs)));rw[hq]at ei;simp[-WB,ei]
  ·have zY:0<aD rs j j:=by have:=hn j j;grind
   have Le:=fC zY;have c:cK .eq (.int (aD rs j j).num) (.int 0)=ok (.bl false):=by
    rw[mH rfl rfl];show ok (D.bl ((aD rs j j).num==0))=_;rw[beq_eq_false_iff_ne.mpr (by left)]
   refine .tl e0 (ρ2:=[c0,some (.int j),some (AD n rs j)]) (by simp only[lu,bO,tm,yM,ei];simp[c]) (yK Φ Ψ hn c0 k (j+1) _ _ (by left) ?_);obtain⟨g,h1,h2,h3⟩:=hz;refine⟨g,?_,by left,h3⟩;by_cases hg:g=j
   ·subst hg;exact absurd h3 hq
   ·left
theorem Ww(Φ:aT)(Ψ:Nat->aa->Prop)(kP:Φ 1001=mj)(ds:aa)(h:S8 ds):ds.length=1/\Er Φ Ψ 6 jW (ds.map some++List.replicate (3 - ds.length) none):=by
 obtain⟨k,n,rs,I,⟨g,hg,hz⟩,rfl⟩:=h;exact⟨rfl,.hd (.fr (items:=br 0 (bM n rs .fz 0 n)) (ρ1:=[some (.lst .fz (bM n rs .fz 0 n)),none,none]) (yJ Φ kP n rs) (yK Φ Ψ (λg h=>(iU I g h).1) _ n 0 _ _ (by left) ⟨g,by left,by left,hz⟩) rfl)⟩
noncomputable def bA(n g h:Nat)(a b:Int):az:=((List.replicate n (0:Rat)).set g (a:Rat)).set h (b:Rat)
theorem yc{n:Nat}(hn:n<=12):cT .mul (.lst .ow [qD 0]) (.int n)=ok (.lst .ow (aO (List.replicate n 0))):=by
 show(if uw .ow=false/\[qD 0].length*(n:Int).toNat<=cL/\(n:Int)<=cL /\ -cL<=(n:Int)then ok (D.lst .ow (aC bB (List.replicate (n:Int).toNat [qD 0]).flatten))else none)=_;rw[if_pos ⟨rfl,by show 1*(n:Int).toNat<=1000000;left,by show(n:Int)<=1000000;left,by show -1000000<=(n:Int);left⟩,Int.toNat_natCast,List.flatten_replicate_singleton];have:List.replicate n (qD 0)=aO (List.replicate n 0):=by unfold aO;rw[List.map_replicate]
 rw[this];simp
noncomputable def yX:ag:=[.asg (.nm 4) (.bin .mul (.lst [(.tup [(.int 0),(.int 1)])]) (.v 0)),.setI 4 (.ix (.v 1) (.int 0)) (.tup [(.v 2),(.int 1)]),.setI 4 (.ix (.v 1) (.int 1)) (.tup [(.v 3),(.int 1)]),.ret (.v 4)]
def D3(m:aw):Prop:=∀(n g h:Nat) (a b:Int),n<=12->g<n->h<n->m [.int n,kj (g,h),.int a,.int b]=ok (.lst .ow (aO (bA n g h a b)))
theorem BH(qs:az)(i:Nat)(q:Rat):(aO qs).set i (qD q)=aO (qs.set i q):=by unfold aO;rw[List.map_set]
theorem OD(Φ:aT):D3 (mk Φ 4 5 yX):=by
 intro n g h a b hn hg hh;have z0:D.tup [.int 0,.int 1]=qD 0:=rfl;have m:=yc hn;have s1:=qN (Φ:=Φ) (i:=4) (j:=g) (k:=.ix (.v 1) (.int 0)) (e:=.tup [(.v 2),(.int 1)]) (ρ:=[some (.int n),some (kj (g,h)),some (.int a),some (.int b),some (.lst .ow (aO (List.replicate n 0)))]) (ρ':=[some (.int n),some (kj (g,h)),some (.int a),some (.int b),some (.lst .ow (aO (List.replicate n 0)))]) (d:=qD a) (z:=g) (ds:=aO (List.replicate n 0)) (by rw[<- nV];simp) (by simp) rfl (by simp;rw[rM (by left) (by left)];simp);have s2:=qN (Φ:=Φ) (i:=4) (j:=h) (k:=.ix (.v 1) (.int 1)) (e:=.tup [(.v 3),(.int 1)]) (ρ:=[some (.int n),some (kj (g,h)),some (.int a),some (.int b),some (.lst .ow (aO ((List.replicate n 0).set g (a:Rat))))]) (ρ':=[some (.int n),some (kj (g,h)),some (.int a),some (.int b),some (.lst .ow (aO ((List.replicate n 0).set g (a:Rat))))]) (d:=qD b) (z:=h) (ds:=aO ((List.replicate n 0).set g (a:Rat))) (by rw[<- nV];simp) (by simp) rfl (by simp;rw[rM (by left) (by left)];simp);rw[BH]at s1 s2;have s1:iC Φ (.setI 4 (.ix (.v 1) (.int 0)) (.tup [(.v 2),(.int 1)])) [some (.int n),some (kj (g,h)),some (.int a),some (.int b),some (.lst .ow (aO (List.replicate n 0)))]=ok (.nx,[some (.int n),some (kj (g,h)),some (.int a),some (.int b),some (.lst .ow (aO ((List.replicate n 0).set g (a:Rat))))]):=s1;have s2:iC Φ (.setI 4 (.ix (.v 1) (.int 1)) (.tup [(.v 3),(.int 1)])) [some (.int n),some (kj (g,h)),some (.int a),some (.int b),some (.lst .ow (aO ((List.replicate n 0).set g (a:Rat))))]=ok (.nx,[some (.int n),some (kj (g,h)),some (.int a),some (.int b),some (.lst .ow (aO (bA n g h a b)))]):=s2;simp[mk_eq,yX,z0,m,s1,s2]
def zB(rs:ah)(p:Int×Int):Bool:=decide (aD rs p.1 p.2=0)
def vz(n:Nat)(rs:ah):List (Int×Int):=(fY (l7 n)).filter (zB rs)
def eA(n g h:Nat):aa:=[.lst .ow (aO (bA n g h 1 1)),.lst .ow (aO (bA n g h 1 (-1))),.lst .ow (aO (bA n g h (-1) 1)),.lst .ow (aO (bA n g h (-1) (-1)))]
def ND(n:Nat):List (Int×Int)->D
 |[]=>.bu
 |p::_=>.lst .ow (eA n p.1.toNat p.2.toNat)
theorem qZ{n:Nat}{p:Int×Int}(h:p∈fY (l7 n)):∃a b:Nat,a<n/\b<n/\p=((a:Int),(b:Int)):=by
 obtain⟨h1,h2⟩:=tX h;unfold l7 at h1 h2;simp at h1 h2;obtain⟨a,ha,ea⟩:=h1;obtain⟨b,hb,eb⟩:=h2;exact⟨a,b,ha,hb,Prod.ext ea.symm eb.symm⟩
theorem Hs(n:Nat):(l7 n).length=n:=by unfold l7;simp
noncomputable def GJ:CE:=.comp 1 (.nm 0) [1] .seq [(.call 59 [(.dj 1041 [(.ix (.v 0) (.int 0))])])] [(.cmp .eq (.ix (.call 62 [(.v 1),(.v 0)]) (.int 0)) (.int 0))] (.v 0)
noncomputable def A5:ag:=[.app 3 (.call 70 [(.ix (.v 0) (.int 0)),(.ix (.v 2) (.int 0)),(.v 4),(.v 5)])]
def A6:ag:=[.fr (.nm 5) (.seq (.tup [(.int 1),(.neg (.int 1))])) A5]
def vb:ag:=[.asg (.nm 1) (.call 21 [(.v 0)]),.ex (.call 56 [(.v 1)]),.asg (.nm 2) GJ,.ifs (.cmp .eq (.v 2) (.lst [])) [.ret .bu] [],.asg (.nm 3) (.lst []),.fr (.nm 4) (.seq (.tup [(.int 1),(.neg (.int 1))])) A6,.ret (.v 3)]
def RH(m:aw):Prop:=∀k n rs,Dr k n rs->(∀g:Nat,g<n->0<aD rs g g)->m [bo n rs]=ok (ND n (vz n rs))
abbrev qf(n:Nat)(rs:ah)(c1:av)(ps:List (Int×Int))(ds:aa)(c4 c5:av):aX:=[some (bo n rs),c1,some (.lst .ow (dC ps)),some (.lst .ow ds),c4,c5]
section
variable (Φ:aT)(Ii:D3 (Φ 70)){n:Nat}{rs:ah}{ps:List (Int×Int)}{g h:Nat}(hn:n<=12)(hg:g<n)(hh:h<n)(c1:av)
include Ii hn hg hh
theorem yZ(ds:aa)(hl:ds.length<=4)(a b:Int):bp Φ A5 (qf n rs c1 (((g:Int),(h:Int))::ps) ds (some (.int a)) (some (.int b)))=ok (.nx,qf n rs c1 (((g:Int),(h:Int))::ps) (ds++[.lst .ow (aO (bA n g h a b))]) (some (.int a)) (some (.int b))):=by
 have e:=Ii n g h a b hn hg hh;have m2:aY bB (bo n rs)=bo n rs:=by simp[bo]
 have hd:bo n rs=.tup [.int n,.lst .fz (cC rs)]:=rfl;have x0:wm (bo n rs) (.int 0)=ok (.int n):=by rw[hd];simp
 have x1:sG (dC (((g:Int),(h:Int))::ps)) 0=ok (kj ((g:Int),(h:Int))):=by
  show sG (kj ((g:Int),(h:Int))::ps.map kj) 0=_;rw[WX];rfl
 have f1:i4 .ow=.ow:=rfl;have hc:ds.length<cL:=by show ds.length<1000000;left
 simp[A5,m2,x0,x1,e,f1,hc]
theorem y4(ds:aa)(hl:ds.length<=2)(a:Int)(c5:av):bp Φ A6 (qf n rs c1 (((g:Int),(h:Int))::ps) ds (some (.int a)) c5)=ok (.nx,qf n rs c1 (((g:Int),(h:Int))::ps) (ds++[.lst .ow (aO (bA n g h a 1)),.lst .ow (aO (bA n g h a (-1)))]) (some (.int a)) (some (.int (-1)))):=by
 have s1:=yZ Φ Ii (rs:=rs) (ps:=ps) hn hg hh c1 ds (by left) a 1;have s2:=yZ Φ Ii (rs:=rs) (ps:=ps) hn hg hh c1 (ds++[.lst .ow (aO (bA n g h a 1))]) (by simp;left) a (-1);simp only[List.append_assoc,List.cons_append,List.nil_append]at s2;have hit:bR Φ (.seq (.tup [(.int 1),(.neg (.int 1))])) (qf n rs c1 (((g:Int),(h:Int))::ps) ds (some (.int a)) c5)=ok ([.int 1,.int (-1)],qf n rs c1 (((g:Int),(h:Int))::ps) ds (some (.int a)) c5):=by
  rw[KQ (ds:=[.int 1,.int (-1)]) (by simp)];simp
 have el:cG (λd ρ=>bQ (.nm 5) d ρ) (λρ=>bp Φ A5 ρ) [.int 1,.int (-1)] (qf n rs c1 (((g:Int),(h:Int))::ps) ds (some (.int a)) c5)=ok (.nx,qf n rs c1 (((g:Int),(h:Int))::ps) (ds++[.lst .ow (aO (bA n g h a 1)),.lst .ow (aO (bA n g h a (-1)))]) (some (.int a)) (some (.int (-1)))):=by
  refine bG (ρ1:=qf n rs c1 (((g:Int),(h:Int))::ps) ds (some (.int a)) (some (.int 1))) (by simp) (ρ2:=qf n rs c1 (((g:Int),(h:Int))::ps) (ds++[.lst .ow (aO (bA n g h a 1))]) (some (.int a)) (some (.int 1))) (by exact s1) ?_;refine bG (ρ1:=qf n rs c1 (((g:Int),(h:Int))::ps) (ds++[.lst .ow (aO (bA n g h a 1))]) (some (.int a)) (some (.int (-1)))) (by simp) (ρ2:=qf n rs c1 (((g:Int),(h:Int))::ps) (ds++[.lst .ow (aO (bA n g h a 1)),.lst .ow (aO (bA n g h a (-1)))]) (some (.int a)) (some (.int (-1)))) (by exact s2) ?_;rw[dt]
 have hx:=dA (Φ:=Φ) (t:=.nm 5) (b:=A5) hit el;rw[A6,bO,hx];rfl
theorem Hc:iC Φ (.fr (.nm 4) (.seq (.tup [(.int 1),(.neg (.int 1))])) A6) (qf n rs c1 (((g:Int),(h:Int))::ps) [] none none)=ok (.nx,qf n rs c1 (((g:Int),(h:Int))::ps) (eA n g h) (some (.int (-1))) (some (.int (-1)))):=by
 have s1:=y4 Φ Ii (rs:=rs) (ps:=ps) hn hg hh c1 [] (by simp) 1 none;have s2:=y4 Φ Ii (rs:=rs) (ps:=ps) hn hg hh c1 [.lst .ow (aO (bA n g h 1 1)),.lst .ow (aO (bA n g h 1 (-1)))] (by simp) (-1) (some (.int (-1)));simp only[List.cons_append,List.nil_append]at s1 s2;have hit:bR Φ (.seq (.tup [(.int 1),(.neg (.int 1))])) (qf n rs c1 (((g:Int),(h:Int))::ps) [] none none)=ok ([.int 1,.int (-1)],qf n rs c1 (((g:Int),(h:Int))::ps) [] none none):=by
  rw[KQ (ds:=[.int 1,.int (-1)]) (by simp)];simp
 refine dA (Φ:=Φ) (t:=.nm 4) (b:=A6) hit ?_;refine bG (ρ1:=qf n rs c1 (((g:Int),(h:Int))::ps) [] (some (.int 1)) none) (by simp) (ρ2:=qf n rs c1 (((g:Int),(h:Int))::ps) [.lst .ow (aO (bA n g h 1 1)),.lst .ow (aO (bA n g h 1 (-1)))] (some (.int 1)) (some (.int (-1)))) (by exact s1) ?_;refine bG (ρ1:=qf n rs c1 (((g:Int),(h:Int))::ps) [.lst .ow (aO (bA n g h 1 1)),.lst .ow (aO (bA n g h 1 (-1)))] (some (.int (-1))) (some (.int (-1)))) (by simp) (ρ2:=qf n rs c1 (((g:Int),(h:Int))::ps) (eA n g h) (some (.int (-1))) (some (.int (-1)))) (by exact s2) ?_;rw[dt]
end
theorem G8(Φ:aT)(V2:xh (Φ 59))(V1:o5 (Φ 62))(C6:Φ 1041=M5){n:Nat}{rs:ah}(hn:n<=12)(c3 c4 c5:av):bx Φ GJ [some (bo n rs),some (.lst .ow (bM n rs .ow 0 n)),none,c3,c4,c5]=ok (.lst .ow (dC (vz n rs))):=by
 have e6:=V2 (l7 n) (by rw[Hs];exact hn);have m2:aY bB (bo n rs)=bo n rs:=by simp[bo]
 have hd:bo n rs=.tup [.int n,.lst .fz (cC rs)]:=rfl;have x0:wm (bo n rs) (.int 0)=ok (.int n):=by rw[hd];simp
 have e0:Φ 1041 [.int n]=ok (.lst .ow (ai (l7 n))):=by
  rw[C6];show(if (n:Int)<=cL /\ -cL<=(n:Int)then ok (D.lst .ow ((l7 n).map D.int))else none)=_;rw[if_pos ⟨by show(n:Int)<=1000000;left,by show -1000000<=(n:Int);left⟩];rfl
 have hlen:=tY (l7 n);rw[Hs]at hlen;have X9:n*n<=144:=aaL hn hn;have hfl:(vz n rs).length<=(fY (l7 n)).length:=abN ..;unfold GJ;rw[cP (xs:=[.lst .ow (dC (fY (l7 n)))]) (items:=(fY (l7 n)).map kj) (ds:=(vz n rs).map kj) (by simp[m2,x0,e0,e6]) (by rw[dW,zN];rfl) (eN (g:=kj) λp oB=>⟨[some (kj p),some (.lst .fz (bM n rs .fz 0 n))],by simp[bE,bL],?_,λ_=>by simp⟩) (by simp;exact bY (by left))]
 ·simp[dC,aP]
 ·obtain⟨a,b,ha,pz,rfl⟩:=qZ oB;have e':=V1 n rs a b ha pz;have c:cK .eq (.int (aD rs a b).num) (.int 0)=ok (.bl (zB rs ((a:Int),(b:Int)))):=by
   rw[mH rfl rfl];show ok (D.bl ((aD rs a b).num==0))=_;congr 2;unfold zB;by_cases z:aD rs a b=0
   ·rw[z];simp
   ·rw[decide_eq_false z];exact beq_eq_false_iff_ne.mpr λq=>z (Rat.num_eq_zero.mp q)
  simp[bL,e',c]
theorem B9(f:Fl)(ps:List (Int×Int)):dM 40 (.lst f (dC ps))=true:=by
 show(dC ps).all (dM 39)=true;unfold dC;rw[List.all_map];exact List.all_eq_true.mpr λ_ _=>rfl
theorem Uh(Φ:aT)(Wb:lP (Φ 21))(V3:D7 (Φ 56))(V2:xh (Φ 59))(V1:o5 (Φ 62))(Ii:D3 (Φ 70))(C6:Φ 1041=M5):RH (mk Φ 1 6 vb):=by
 intro k n rs I hp;have hn:=I.n2;have e1:=Wb k n rs I;have e2:=V3 n rs hn hp;have m2:aY bB (bo n rs)=bo n rs:=by simp[bo]
 have m1:aY a_ (bo n rs)=bo n rs:=by simp[bo]
 have f1:i4 .ow=.ow:=rfl;have f2:=kN bI n rs .ow 0 n rfl;have k1:=G8 Φ V2 V1 C6 (rs:=rs) hn none none none;have kk:=FY Φ GJ [some (bo n rs),some (.lst .ow (bM n rs .ow 0 n)),none,none,none,none] rfl;have mem:∀p∈vz n rs,∃a b:Nat,a<n/\b<n/\p=((a:Int),(b:Int)):=λp hp=>qZ (List.mem_filter.mp hp).1;cases hb:vz n rs with
 |nil =>
  rw[hb]at k1;have c:∀f,cK .eq (.lst f []) (.lst .ow [])=ok (.bl true):=λf=>rfl;simp[mk_eq,vb,m1,m2,e1,e2,bL,f1,f2,kk,k1,dC,c,bB,ND]
 |cons p ps =>
  obtain⟨a,b,ha,pz,rfl⟩:=mem p (by rw[hb];exact aaf);rw[hb]at k1;have hl:=Hc Φ Ii (rs:=rs) (ps:=ps) hn ha pz (some (.lst .ow (bM n rs .ow 0 n)));have c:∀f,cK .eq (.lst f (dC (((a:Int),(b:Int))::ps))) (.lst .ow [])=ok (.bl false):=λf=>by
   rw[mH (B9 _ _) rfl];rfl
  simp[mk_eq,vb,m1,m2,e1,e2,bL,f1,f2,kk,k1,c,bB,ND,hl]
def S7(ds:aa):Prop:=∃(k n:Nat) (rs:ah),Dr k n rs/\(∃g:Nat,g<n/\aD rs g g=0)/\ds=[bo n rs]
theorem Wv(Φ:aT)(Ψ:Nat->aa->Prop)(Wb:lP (Φ 21))(V3:∀ds,S8 ds->Ψ 56 ds)(ds:aa)(h:S7 ds):ds.length=1/\Er Φ Ψ 6 vb (ds.map some++List.replicate (6 - ds.length) none):=by
 obtain⟨k,n,rs,I,hz,rfl⟩:=h;have e1:=Wb k n rs I;have m1:aY a_ (bo n rs)=bo n rs:=by simp[bo]
 have m2:aY bB (bo n rs)=bo n rs:=by simp[bo]
 have f1:i4 .ow=.ow:=rfl;have f2:=kN bI n rs .ow 0 n rfl;refine⟨rfl,.tl (ρ':=[some (bo n rs),some (.lst .ow (bM n rs .ow 0 n)),none,none,none,none]) ?_ (.hd (.ex (xs:=[.lst .al (bM n rs .al 0 n)]) ?_ (V3 _ ⟨k,n,rs,I,hz,?_⟩)))⟩
 ·show iC Φ (.asg (.nm 1) (.call 21 [(.v 0)])) [some (bo n rs),none,none,none,none,none]=_;simp[m1,m2,e1,bL,f1,f2]
 ·simp[bL,bB]
 ·simp[bL,a_]
noncomputable def qb:ag:=[.asg (.nm 6) (.bin .mul (.lst [(.tup [(.int 0),(.int 1)])]) (.bf .len [(.v 0)])),.setI 6 (.v 1) (.tup [(.v 4),(.int 1)]),.setI 6 (.v 2) (.tup [(.v 5),(.int 1)]),.app 3 (.v 6)]
noncomputable def DU:CE:=.lst [(.tup [(.int 1),(.int 1)]),(.tup [(.int 1),(.neg (.int 1))]),(.tup [(.neg (.int 1)),(.int 1)]),(.tup [(.neg (.int 1)),(.neg (.int 1))])]
def ko:ag:=[.ifs (.cmp .eq (.ix (.ix (.ix (.v 0) (.v 1)) (.v 2)) (.int 0)) (.int 0)) [.asg (.nm 3) (.lst []),.fr (.tp [4,5]) (.seq DU) qb,.ret (.v 3)] []]
def nG:ag:=[.fr (.nm 2) (.kA (.bin .add (.v 1) (.int 1)) (.bf .len [(.v 0)])) ko]
def Au:ag:=[.fr (.nm 1) (.iz (.bf .len [(.v 0)])) nG,.ret .bu]
def RF(m:aw):Prop:=∀k n rs,Dr k n rs->m [.lst .fz (bM n rs .fz 0 n)]=ok (ND n (vz n rs))
abbrev gI(n:Nat)(rs:ah)(c1 c2 c3 c4 c5 c6:av):aX:=[some (.lst .fz (bM n rs .fz 0 n)),c1,c2,c3,c4,c5,c6]
section
variable (Φ:aT){n:Nat}{rs:ah}{g h:Nat}(hn:n<=12)(hg:g<n)(hh:h<n)
include hn hg hh
theorem kW(ds:aa)(hl:ds.length<=4)(a b:Int)(c6:av):bp Φ qb (gI n rs (some (.int g)) (some (.int h)) (some (.lst .ow ds)) (some (.int a)) (some (.int b)) c6)=ok (.nx,gI n rs (some (.int g)) (some (.int h)) (some (.lst .ow (ds++[.lst .ow (aO (bA n g h a b))]))) (some (.int a)) (some (.int b)) none):=by
 have z0:D.tup [.int 0,.int 1]=qD 0:=rfl;have m:=yc hn;have bl:nc .len [.lst .fz (bM n rs .fz 0 n)]=ok (.int n):=by show ok (D.int ((bM n rs .fz 0 n).length:Int))=_;simp[bM]
 have s1:=qN (Φ:=Φ) (i:=6) (j:=g) (k:=.v 1) (e:=.tup [(.v 4),(.int 1)]) (ρ:=gI n rs (some (.int g)) (some (.int h)) (some (.lst .ow ds)) (some (.int a)) (some (.int b)) (some (.lst .ow (aO (List.replicate n 0))))) (ρ':=gI n rs (some (.int g)) (some (.int h)) (some (.lst .ow ds)) (some (.int a)) (some (.int b)) (some (.lst .ow (aO (List.replicate n 0))))) (d:=qD a) (z:=g) (ds:=aO (List.replicate n 0)) (by rw[<- nV];simp) (by simp) rfl (by simp;rw[rM (by left) (by left)];simp);have s2:=qN (Φ:=Φ) (i:=6) (j:=h) (k:=.v 2) (e:=.tup [(.v 5),(.int 1)]) (ρ:=gI n rs (some (.int g)) (some (.int h)) (some (.lst .ow ds)) (some (.int a)) (some (.int b)) (some (.lst .ow (aO ((List.replicate n 0).set g (a:Rat)))))) (ρ':=gI n rs (some (.int g)) (some (.int h)) (some (.lst .ow ds)) (some (.int a)) (some (.int b)) (some (.lst .ow (aO ((List.replicate n 0).set g (a:Rat)))))) (d:=qD b) (z:=h) (ds:=aO ((List.replicate n 0).set g (a:Rat))) (by rw[<- nV];simp) (by simp) rfl (by simp;rw[rM (by left) (by left)];simp);rw[BH]at s1 s2;have s1:iC Φ (.setI 6 (.v 1) (.tup [(.v 4),(.int 1)])) (gI n rs (some (.int g)) (some (.int h)) (some (.lst .ow ds)) (some (.int a)) (some (.int b)) (some (.lst .ow (aO (List.replicate n 0)))))=ok (.nx,gI n rs (some (.int g)) (some (.int h)) (some (.lst .ow ds)) (some (.int a)) (some (.int b)) (some (.lst .ow (aO ((List.replicate n 0).set g (a:Rat)))))):=s1;have s2:iC Φ (.setI 6 (.v 2) (.tup [(.v 5),(.int 1)])) (gI n rs (some (.int g)) (some (.int h)) (some (.lst .ow ds)) (some (.int a)) (some (.int b)) (some (.lst .ow (aO ((List.replicate n 0).set g (a:Rat))))))=ok (.nx,gI n rs (some (.int g)) (some (.int h)) (some (.lst .ow ds)) (some (.int a)) (some (.int b)) (some (.lst .ow (aO (bA n g h a b))))):=s2;have hc:ds.length<cL:=by show ds.length<1000000;left
 have ow:ba dF (.lst .ow (aO (bA n g h a b)))=true:=by simp[dF]
 have bl':nc .len [.lst .fz (bM n rs .fz 0 n)]=ok (.int n):=bl;simp[qb,z0,bL,bl,m,s1,s2,ow,hc]
end
section
variable (Φ:aT){n:Nat}{rs:ah}{g h:Nat}(hn:n<=12)(hg:g<n)(hh:h<n)
include hn hg hh
theorem GN(c4 c5 c6:av):∃Ap pV oW,iC Φ (.fr (.tp [4,5]) (.seq DU) qb) (gI n rs (some (.int g)) (some (.int h)) (some (.lst .ow [])) c4 c5 c6)=ok (.nx,gI n rs (some (.int g)) (some (.int h)) (some (.lst .ow (eA n g h))) Ap pV oW):=by
 have s1:=kW Φ (rs:=rs) hn hg hh [] (by simp) 1 1 c6;have s2:=kW Φ (rs:=rs) hn hg hh [.lst .ow (aO (bA n g h 1 1))] (by simp) 1 (-1) none;have s3:=kW Φ (rs:=rs) hn hg hh [.lst .ow (aO (bA n g h 1 1)),.lst .ow (aO (bA n g h 1 (-1)))] (by simp) (-1) 1 none;have s4:=kW Φ (rs:=rs) hn hg hh [.lst .ow (aO (bA n g h 1 1)),.lst .ow (aO (bA n g h 1 (-1))),.lst .ow (aO (bA n g h (-1) 1))] (by simp) (-1) (-1) none;simp only[List.cons_append,List.nil_append]at s1 s2 s3 s4;have hit:bR Φ (.seq DU) (gI n rs (some (.int g)) (some (.int h)) (some (.lst .ow [])) c4 c5 c6)=ok ([.tup [.int 1,.int 1],.tup [.int 1,.int (-1)],.tup [.int (-1),.int 1],.tup [.int (-1),.int (-1)]],gI n rs (some (.int g)) (some (.int h)) (some (.lst .ow [])) c4 c5 c6):=by
  rw[uv (f:=.ow) (ds:=[.tup [.int 1,.int 1],.tup [.int 1,.int (-1)],.tup [.int (-1),.int 1],.tup [.int (-1),.int (-1)]]) (by simp[DU])];simp[bI]
 refine⟨some (.int (-1)),some (.int (-1)),none,dA (Φ:=Φ) (t:=.tp [4,5]) (b:=qb) hit ?_⟩;refine bG (ρ1:=gI n rs (some (.int g)) (some (.int h)) (some (.lst .ow [])) (some (.int 1)) (some (.int 1)) c6) (by simp) (by exact s1) ?_;refine bG (ρ1:=gI n rs (some (.int g)) (some (.int h)) (some (.lst .ow [.lst .ow (aO (bA n g h 1 1))])) (some (.int 1)) (some (.int (-1))) none) (by simp) (by exact s2) ?_;refine bG (ρ1:=gI n rs (some (.int g)) (some (.int h)) (some (.lst .ow [.lst .ow (aO (bA n g h 1 1)),.lst .ow (aO (bA n g h 1 (-1)))])) (some (.int (-1))) (some (.int 1)) none) (by simp) (by exact s3) ?_;refine bG (ρ1:=gI n rs (some (.int g)) (some (.int h)) (some (.lst .ow [.lst .ow (aO (bA n g h 1 1)),.lst .ow (aO (bA n g h 1 (-1))),.lst .ow (aO (bA n g h (-1) 1))])) (some (.int (-1))) (some (.int (-1))) none) (by simp) (by exact s4) ?_;rw[dt];rfl
theorem Dv(c3 c4 c5 c6:av):bx Φ (.ix (.ix (.ix (.v 0) (.v 1)) (.v 2)) (.int 0)) (gI n rs (some (.int g)) (some (.int h)) c3 c4 c5 c6)=ok (.int (aD rs g h).num):=by
 have a1:=BR (rs:=rs) (f:=.fz) hg;have a2:=vX (rs:=rs) (g:=g) hh;simp[bL,a1,a2]
theorem Rl(hz:aD rs g h≠0)(c3 c4 c5 c6:av):bp Φ ko (gI n rs (some (.int g)) (some (.int h)) c3 c4 c5 c6)=ok (.nx,gI n rs (some (.int g)) (some (.int h)) c3 c4 c5 c6):=by
 have ei:=Dv Φ (rs:=rs) hn hg hh c3 c4 c5 c6;have c:cK .eq (.int (aD rs g h).num) (.int 0)=ok (.bl false):=by
  rw[mH rfl rfl];show ok (D.bl ((aD rs g h).num==0))=_;rw[beq_eq_false_iff_ne.mpr λq=>hz (Rat.num_eq_zero.mp q)]
 simp only[ko,bO,tm,yM,ei];simp[c]
theorem Ms(hz:aD rs g h=0)(c3 c4 c5 c6:av):∃ρ',bp Φ ko (gI n rs (some (.int g)) (some (.int h)) c3 c4 c5 c6)=ok (.rt (.lst .ow (eA n g h)),ρ'):=by
 have ei:=Dv Φ (rs:=rs) hn hg hh c3 c4 c5 c6;rw[hz]at ei;obtain⟨d4,d5,d6,hf⟩:=GN Φ (rs:=rs) hn hg hh c4 c5 c6;have c:cK .eq (.int (0:Rat).num) (.int 0)=ok (.bl true):=rfl;have ow:ba dF (.lst .ow (eA n g h))=true:=by simp[dF]
 refine⟨(gI n rs (some (.int g)) (some (.int h)) (some (.lst .ow (eA n g h))) d4 d5 d6).set 3 none,?_⟩;have oD:bp Φ [.asg (.nm 3) (.lst []),.fr (.tp [4,5]) (.seq DU) qb,.ret (.v 3)] (gI n rs (some (.int g)) (some (.int h)) c3 c4 c5 c6)=ok (.rt (.lst .ow (eA n g h)),(gI n rs (some (.int g)) (some (.int h)) (some (.lst .ow (eA n g h))) d4 d5 d6).set 3 none):=by
  have a1:iC Φ (.asg (.nm 3) (.lst [])) (gI n rs (some (.int g)) (some (.int h)) c3 c4 c5 c6)=ok (.nx,gI n rs (some (.int g)) (some (.int h)) (some (.lst .ow [])) c4 c5 c6):=by simp
  simp[a1,hf,ow]
 simp only[ko,bO,tm,yM,ei,Ds,GY,c,EC,KP,oD];rfl
end
noncomputable def rI(j k:Nat):ae:=(List.range' j k).map λ(i:Nat)=>(i:Int)
theorem rb(j k:Nat):rI j (k+1)=(j:Int)::rI (j+1) k:=by unfold rI;rw[List.range'_succ,List.map_cons]
theorem Jd(n:Nat):l7 n=rI 0 n:=by
 unfold l7 rI;rw[Int.toNat_natCast,List.range_eq_range']
theorem PN{Φ:aT}{a b:CE}{j k n:Nat}(h1:bx Φ a ρ=ok (.int (j:Int)))(h2:bx Φ b ρ=ok (.int (n:Int)))(hk:j+k=n)(hn:n<=1000000):bR Φ (.kA a b) ρ=ok (ai (rI j k),ρ):=by
 show bd (bx Φ a ρ) _=_;rw[h1,cH,h2];show(if (n:Int)<=cL /\ -cL<=(n:Int)/\(j:Int)<=cL /\ -cL<=(j:Int)then ok ((List.range ((n:Int) - (j:Int)).toNat).map (λ(k:Nat)=>D.int ((j:Int)+(k:Int))),ρ)else none)=_;rw[if_pos ⟨by show(n:Int)<=1000000;left,by show -1000000<=(n:Int);left,by show(j:Int)<=1000000;left,by show -1000000<=(j:Int);left⟩,show((n:Int) - (j:Int)).toNat=k by left];congr 2;unfold ai rI;rw[List.map_map,List.range'_eq_map_range,List.map_map];apply aat;intro i _;simp
def Tc(n:Nat)(rs:ah)(c1:av)(x:O (Fo×aX)):Option (Int×Int)->Prop
 |none=>∃c2 c3 c4 c5 c6,x=ok (.nx,gI n rs c1 c2 c3 c4 c5 c6)
 |some p=>∃ρ',x=ok (.rt (.lst .ow (eA n p.1.toNat p.2.toNat)),ρ')
theorem Ir(Φ:aT){n:Nat}{rs:ah}{g:Nat}(hn:n<=12)(hg:g<n):∀(k j:Nat) (c2 c3 c4 c5 c6:av),j+k<=n->Tc n rs (some (.int g)) (cG (λd ρ=>bQ (.nm 2) d ρ) (λρ=>bp Φ ko ρ) (ai (rI j k)) (gI n rs (some (.int g)) c2 c3 c4 c5 c6)) (((rI j k).map λh=>((g:Int),h)).find? (zB rs))
 |0,j,c2,c3,c4,c5,c6,_=>⟨c2,c3,c4,c5,c6,rfl⟩
 |k+1,j,c2,c3,c4,c5,c6,h=>by
  rw[rb,List.map_cons];show Tc n rs (some (.int g)) (cG _ _ (.int j::ai (rI (j+1) k)) _) _;by_cases hz:aD rs g j=0
  ·have ez:zB rs ((g:Int),(j:Int))=true:=aaK hz;rw[List.find?_cons,ez];obtain⟨ρ',e⟩:=Ms Φ (rs:=rs) hn hg (show j<n by left) hz c3 c4 c5 c6;exact⟨ρ',Dd (ρ1:=gI n rs (some (.int g)) (some (.int j)) c3 c4 c5 c6) (by simp) (by exact e)⟩
  ·have ez:zB rs ((g:Int),(j:Int))=false:=aaI hz;rw[List.find?_cons,ez];have e:=Rl Φ (rs:=rs) hn hg (show j<n by left) hz c3 c4 c5 c6;have ih:=Ir Φ (rs:=rs) hn hg k (j+1) (some (.int j)) c3 c4 c5 c6 (by left);have ef:cG (λd ρ=>bQ (.nm 2) d ρ) (λρ=>bp Φ ko ρ) (.int j::ai (rI (j+1) k)) (gI n rs (some (.int g)) c2 c3 c4 c5 c6)=cG (λd ρ=>bQ (.nm 2) d ρ) (λρ=>bp Φ ko ρ) (ai (rI (j+1) k)) (gI n rs (some (.int g)) (some (.int j)) c3 c4 c5 c6):=bG (ρ1:=gI n rs (some (.int g)) (some (.int j)) c3 c4 c5 c6) (by simp) (by exact e) rfl;rw[ef];exact ih
theorem Du(Φ:aT){n:Nat}{rs:ah}(hn:n<=12):∀(k j:Nat) (c1 c2 c3 c4 c5 c6:av),j+k=n->∃Aq,Tc n rs Aq (cG (λd ρ=>bQ (.nm 1) d ρ) (λρ=>bp Φ nG ρ) (ai (rI j k)) (gI n rs c1 c2 c3 c4 c5 c6)) ((fY (rI j k)).find? (zB rs))
 |0,j,c1,c2,c3,c4,c5,c6,_=>⟨c1,c2,c3,c4,c5,c6,rfl⟩
 |k+1,j,c1,c2,c3,c4,c5,c6,h=>by
  have ei:=Ir Φ (rs:=rs) hn (show j<n by left) k (j+1) c2 c3 c4 c5 c6 (by left);have bl:nc .len [.lst .fz (bM n rs .fz 0 n)]=ok (.int n):=by show ok (D.int ((bM n rs .fz 0 n).length:Int))=_;simp[bM]
  have hit:=PN (Φ:=Φ) (a:=.bin .add (.v 1) (.int 1)) (b:=.bf .len [(.v 0)]) (ρ:=gI n rs (some (.int j)) c2 c3 c4 c5 c6) (j:=j+1) (k:=k) (n:=n) (by simp) (by simp[bL,bl]) (by left) (by left);have hx:=dA (Φ:=Φ) (t:=.nm 2) (b:=ko) hit rfl;rw[rb];show ∃Aq,Tc n rs Aq (cG _ _ (.int j::ai (rI (j+1) k)) _) (((rI (j+1) k).map (λh=>((j:Int),h))++fY (rI (j+1) k)).find? (zB rs));rw[List.find?_append];cases ef:((rI (j+1) k).map λh=>((j:Int),h)).find? (zB rs)with
  |some p =>
   rw[ef]at ei;obtain⟨ρ',e⟩:=ei;rw[e]at hx;refine⟨none,ρ',Dd (ρ1:=gI n rs (some (.int j)) c2 c3 c4 c5 c6) (by simp) ?_⟩;rw[nG,bO,hx];rfl
  |none =>
   rw[ef]at ei;obtain⟨d2,d3,d4,d5,d6,e⟩:=ei;rw[e]at hx;obtain⟨Aq,ih⟩:=Du Φ (rs:=rs) hn k (j+1) (some (.int j)) d2 d3 d4 d5 d6 (by left);refine⟨Aq,?_⟩;have eg:cG (λd ρ=>bQ (.nm 1) d ρ) (λρ=>bp Φ nG ρ) (.int j::ai (rI (j+1) k)) (gI n rs c1 c2 c3 c4 c5 c6)=cG (λd ρ=>bQ (.nm 1) d ρ) (λρ=>bp Φ nG ρ) (ai (rI (j+1) k)) (gI n rs (some (.int j)) d2 d3 d4 d5 d6):=bG (ρ1:=gI n rs (some (.int j)) c2 c3 c4 c5 c6) (by simp) (by rw[nG,bO,hx];rfl) rfl;rw[eg];exact ih
theorem G7(n:Nat)(rs:ah):ND n (vz n rs)=match(fY (l7 n)).find? (zB rs)with|none=>.bu|some p=>.lst .ow (eA n p.1.toNat p.2.toNat):=by
 have:(fY (l7 n)).find? (zB rs)=(vz n rs).head?:=by unfold vz;rw[List.head?_filter]
 rw[this];cases vz n rs<;>rfl
theorem Ug(Φ:aT):RF (mk Φ 1 7 Au):=by
 intro k n rs I;have hn:=I.n2;have bl:nc .len [.lst .fz (bM n rs .fz 0 n)]=ok (.int n):=by show ok (D.int ((bM n rs .fz 0 n).length:Int))=_;simp[bM]
 have hit:bR Φ (.iz (.bf .len [(.v 0)])) (gI n rs none none none none none none)=ok (ai (rI 0 n),gI n rs none none none none none none):=by
  rw[zQ (n:=n) (by simp[bL,bl]) (by left) (by left),Int.toNat_natCast];unfold ai rI;rw[List.map_map,List.range_eq_range'];rfl
 obtain⟨c1,el⟩:=Du Φ (rs:=rs) hn n 0 none none none none none none (by left);have hx:=dA (Φ:=Φ) (t:=.nm 1) (b:=nG) hit rfl;rw[G7,Jd];rw[mk_eq (show[D.lst .fz (bM n rs .fz 0 n)].length=1 from rfl)];show pR (bp Φ Au (gI n rs none none none none none none))=_;cases ef:(fY (rI 0 n)).find? (zB rs)with
 |some p =>
  rw[ef]at el;obtain⟨ρ',e⟩:=el;rw[e]at hx;rw[Au,bO,hx];rfl
 |none =>
  rw[ef]at el;obtain⟨d2,d3,d4,d5,d6,e⟩:=el;rw[e]at hx;rw[Au,bO,hx];rfl
noncomputable def AJ(c:Int)(l:List (Int×Int)):Int:=l.foldl (λc p=>5*c+3*p.1+p.2+1) c
def dH(N:Int)(l:List (Int×Int)):Int:=(N*(AJ (7*(l.length:Int)) l+11)).fmod 10007 |>.fmod 41 |> (· - 20)
def iM(ws:az)(hs:ae):List (Int×Int):=hs.map λh=>(h,(b6 ws h).num)
theorem IB:∀(l:List (Int×Int)) (c:Int) (B:Nat),(∀p∈l,0<=p.1/\p.1<12/\p.2.natAbs<=1)->c.natAbs<=B->35<=B->(AJ c l).natAbs<=B*6 ^ l.length
 |[],c,B,_,hc,_=>by simpa [AJ]using hc
 |p::l,c,B,hl,hc,hB=>by
  obtain⟨h1,h2,h3⟩:=hl p aaf;have:=IB l (5*c+3*p.1+p.2+1) (6*B) (λq hq=>hl q (aad _ hq)) (by left) (by left);show(AJ (5*c+3*p.1+p.2+1) l).natAbs<=_;rw[List.length_cons,Nat.pow_succ];refine aaB this (Nat.le_of_eq ?_);rw[Nat.mul_comm 6 B,Nat.mul_assoc,Nat.mul_comm 6]
noncomputable def GD:CE:=.comp 1 (.nm 0) [2] .seq [(.v 1)] [] (.ix (.ix (.v 1) (.v 0)) (.int 0))
noncomputable def EF:ag:=[.asg (.nm 4) (.bin .add (.bin .add (.bin .add (.bin .mul (.int 5) (.v 4)) (.bin .mul (.int 3) (.ix (.v 1) (.v 5)))) (.ix (.v 3) (.v 5))) (.int 1))]
def G_:ag:=[.asg (.nm 3) GD,.asg (.nm 4) (.bin .mul (.int 7) (.bf .len [(.v 1)])),.fr (.nm 5) (.iz (.bf .len [(.v 3)])) EF,.ret (.tup [(.bin .sub (.bin .mod (.bin .mod (.bin .mul (.v 0) (.bin .add (.v 4) (.int 11))) (.int 10007)) (.int 41)) (.int 20)),(.int 1)])]
def MK(m:aw):Prop:=∀N hs f ws,hs.length<=12->(∀h∈hs,0<=h/\h<12/\h<(ws.length:Int))->(∀q∈ws,q.num.natAbs<=1)->m [.int N,.tup (ai hs),.lst f (aO ws)]=ok (qD ((dH N (iM ws hs):Int):Rat))
theorem sF{hs:ae}{j:Nat}{h:Int}(e:hs[j]?=some h):sG (ai hs) (j:Int)=ok (.int h):=by
 rw[oY (d:=.int h) (by unfold ai;rw[List.getElem?_map,e];rfl)];rfl
abbrev MS(N:Int)(hs:ae)(f:Fl)(ws:az)(c:Int)(c5:av):aX:=[some (.int N),some (.tup (ai hs)),some (.lst f (aO ws)),some (.lst .ow (ai (hs.map λh=>(b6 ws h).num))),some (.int c),c5]
theorem xF(Φ:aT)(N:Int)(hs:ae)(f:Fl)(ws:az):∀(k j:Nat) (c:Int) (c5:av),j+k=hs.length->∃pV,cG (λd ρ=>bQ (.nm 5) d ρ) (λρ=>bp Φ EF ρ) (ai (rI j k)) (MS N hs f ws c c5)=ok (.nx,MS N hs f ws (AJ c (iM ws (hs.drop j))) pV)
 |0,j,c,c5,h=>⟨c5,by rw[List.drop_eq_nil_of_le (by left)];rfl⟩
 |k+1,j,c,c5,h=>by
  have hj:j<hs.length:=by left
  have e1:=sF (aan hj);have e2:=sF (hs:=hs.map λh=>(b6 ws h).num) (j:=j) (h:=(b6 ws hs[j]).num) (by rw[List.getElem?_map,List.getElem?_eq_getElem hj];rfl);obtain⟨pV,ih⟩:=xF Φ N hs f ws k (j+1) (5*c+3*hs[j]+(b6 ws hs[j]).num+1) (some (.int j)) (by left);rw[rb];refine⟨pV,?_⟩;have hd:hs.drop j=hs[j]::hs.drop (j+1):=List.drop_eq_getElem_cons hj;rw[hd];refine bG (ρ1:=MS N hs f ws c (some (.int j))) (by simp) (ρ2:=MS N hs f ws (5*c+3*hs[j]+(b6 ws hs[j]).num+1) (some (.int j))) ?_ (by exact ih);simp[EF,e1,e2]
theorem Ue(Φ:aT):MK (mk Φ 3 6 G_):=by
 intro N hs f ws hl hh hw;have k1:∀c3 c4 c5,bx Φ GD [some (.int N),some (.tup (ai hs)),some (.lst f (aO ws)),c3,c4,c5]=ok (.lst .ow (ai (hs.map λh=>(b6 ws h).num))):=λc3 c4 c5=>by
  unfold GD;rw[cP (xs:=[.tup (ai hs)]) (items:=hs.map D.int) (ds:=hs.map λh=>D.int (b6 ws h).num) (by simp) (by rw[yn,gi];rfl) (bZ λh hm=>⟨[some (.int h),some (.lst (a_ f) (aO ws))],by simp[bE],by simp,?_⟩) (by simp;exact bY (by left))]
  ·simp[ai,aP]
  ·have:=vd (qs:=ws) (h:=h) (hh h hm).1 (hh h hm).2.2;simp[this]
 have kk:=λc3 c4 c5=>FY Φ GD [some (.int N),some (.tup (ai hs)),some (.lst f (aO ws)),c3,c4,c5] rfl;obtain⟨c5,el⟩:=xF Φ N hs f ws hs.length 0 (7*(hs.length:Int)) none (by left);have b1:nc .len [.tup (ai hs)]=ok (.int hs.length):=by show ok (D.int ((ai hs).length:Int))=_;simp
 have b2:∀f,nc .len [.lst f (ai (hs.map λh=>(b6 ws h).num))]=ok (.int hs.length):=λf=>by show ok (D.int ((ai (hs.map λh=>(b6 ws h).num)).length:Int))=_;simp
 have hit:bR Φ (.iz (.bf .len [(.v 3)])) (MS N hs f ws (7*(hs.length:Int)) none)=ok (ai (rI 0 hs.length),MS N hs f ws (7*(hs.length:Int)) none):=by
  rw[zQ (n:=hs.length) (by simp[b2]) (by left) (by left),Int.toNat_natCast];unfold ai rI;rw[List.map_map,List.range_eq_range'];rfl
 have hx:=dA (Φ:=Φ) (t:=.nm 5) (b:=EF) hit el;have bd:=IB (iM ws hs) (7*(hs.length:Int)) 84 (λp hp=>by
  obtain⟨h,hm,rfl⟩:=List.mem_map.mp hp;obtain⟨a1,a2,a3⟩:=hh h hm;exact⟨a1,a2,hw _ (dJ (qs:=ws) (h:=h) a1 a3).2⟩) (by left) (by decide)
 have hlen:(iM ws hs).length=hs.length:=by unfold iM;simp
 have p6:6 ^ (iM ws hs).length<=6 ^ 12:=aar (by decide) (by left);have hb:(AJ (7*(hs.length:Int)) (iM ws hs)+11).natAbs<2 ^ 64:=by
  have:84*6 ^ (iM ws hs).length<=84*6 ^ 12:=aaz _ p6;have:84*6 ^ 12+11<2 ^ 64:=by decide
  left
 have mu:cT .mul (.int N) (.int (AJ (7*(hs.length:Int)) (iM ws hs)+11))=ok (.int (N*(AJ (7*(hs.length:Int)) (iM ws hs)+11))):=Ha hb;rw[List.drop_zero]at hx;have es:dH N (iM ws hs)=((N*(AJ (7*(hs.length:Int)) (iM ws hs)+11)).fmod 10007).fmod 41 - 20:=by unfold dH;rw[hlen]
 rw[<- nV,es];simp[mk_eq,G_,kk,k1,b1,hx,mu]
theorem nK(g:Int)(c:Rat):∀{l:ae},l.Nodup->d8 l (λk=>if k=g then c else 0)=if g∈l then c else 0
 |[],_=>by simp
 |k::l,hn=>by
  obtain⟨h1,h2⟩:=List.nodup_cons.mp hn;rw[fB,nK g c h2];by_cases e:k=g
  ·subst e;rw[if_pos rfl,if_neg h1,if_pos List.mem_cons_self,Rat.add_zero]
  ·rw[if_neg e,Rat.zero_add];by_cases m:g∈l
   ·rw[if_pos m,if_pos (List.mem_cons_of_mem _ m)]
   ·rw[if_neg m,if_neg λz=>(List.mem_cons.mp z).elim (λq=>e q.symm) m]
theorem vD(n g h:Nat)(a b:Int):(bA n g h a b).length=n:=by unfold bA;simp
theorem tq{n g h:Nat}(hg:g<n)(hh:h<n)(a b:Int){k:Int}(h0:0<=k):b6 (bA n g h a b) k=if (h:Int)=k then(b:Rat)else if (g:Int)=k then(a:Rat)else 0:=by
 have e1:=y6 (qs:=(List.replicate n (0:Rat)).set g (a:Rat)) (h:=(h:Int)) (k:=k) (q:=(b:Rat)) (by left) (by simp;left) h0;have e2:=y6 (qs:=List.replicate n (0:Rat)) (h:=(g:Int)) (k:=k) (q:=(a:Rat)) (by left) (by simp;left) h0;have e3:b6 (List.replicate n (0:Rat)) k=0:=by
  unfold b6;rw[List.getD_eq_getElem?_getD,List.getElem?_replicate];split<;>rfl
 rw[Int.toNat_natCast]at e1 e2;unfold bA;rw[e1,e2,e3]
noncomputable def PY(g:Int)(r:Row):Rat:=if g∈r.2 then 1 else 0
theorem Q4{n g h:Nat}{ws:az}(hg:g<n)(hh:h<n)(mX:g≠h)(a b:Int){r:Row}(hn:r.2.Nodup)(h0:∀k∈r.2,0<=k):gQ ws (bA n g h a b) r=(a:Rat)*(PY g r*b6 ws g)+(b:Rat)*(PY h r*b6 ws h):=by
 unfold gQ;rw[nL (g:=λk=>(if k=(g:Int)then b6 ws g*(a:Rat)else 0)+(if k=(h:Int)then b6 ws h*(b:Rat)else 0)) λk hk=>?_,Ba,nK _ _ hn,nK _ _ hn]
 ·unfold PY;split<;>split<;>grind
 ·rw[tq hg hh a b (h0 k hk)];by_cases e1:k=(h:Int)
  ·subst e1;rw[if_pos rfl,if_pos rfl,if_neg (by left),Rat.zero_add]
  ·rw[if_neg (Ne.symm e1),if_neg e1,Rat.add_zero];by_cases e2:k=(g:Int)
   ·subst e2;rw[if_pos rfl,if_pos rfl]
   ·rw[if_neg (Ne.symm e2),if_neg e2,Rat.mul_zero]
theorem ya{g h:Int}:∀{rs:ah},(∀r∈rs,0<r.1)->0<=aD rs g h/\(aD rs g h=0->∀r∈rs,cj g h r=false)
 |[],_=>⟨Rat.le_refl,λ_ _ z=>nomatch z⟩
 |r::rs,hp=>by
  obtain⟨i1,i2⟩:=ya (g:=g) (h:=h) (rs:=rs) λr' h'=>hp r' (aad _ h');have h0:=hp r aaf;rw[cZ];cases e:cj g h r with
  |true =>
   rw[if_pos rfl];exact⟨by grind,λz=>by grind⟩
  |false =>
   rw[if_neg Bool.false_ne_true];refine⟨i1,λz r' Vu=>?_⟩;rcases List.mem_cons.mp Vu with rfl|Vu
   ·exact e
   ·exact i2 z r' Vu
variable {b_ ws:ae}
theorem Oo{n g h:Nat}(hg:g<n)(hh:h<n)(a b b':Int)(h0:∀k∈b_,0<=k)(hm:(h:Int)∉b_):iM (bA n g h a b) b_=iM (bA n g h a b') b_:=by
 unfold iM;refine aat λk hk=>?_;have:(h:Int)≠k:=λe=>hm (e▸hk);rw[tq hg hh a b (h0 k hk),tq hg hh a b' (h0 k hk),if_neg this,if_neg this]
theorem Om{n g h:Nat}(hg:g<n)(hh:h<n)(a a' b:Int)(h0:∀k∈b_,0<=k)(hm:(g:Int)∉b_):iM (bA n g h a b) b_=iM (bA n g h a' b) b_:=by
 unfold iM;refine aat λk hk=>?_;have:(g:Int)≠k:=λe=>hm (e▸hk);rw[tq hg hh a b (h0 k hk),tq hg hh a' b (h0 k hk),if_neg this,if_neg this]
theorem zu{n g h:Nat}(hg:g<n)(hh:h<n)(N:Int){r:Row}(h0:∀k∈r.2,0<=k)(hb:cj g h r=false):dH N (iM (bA n g h 1 1) r.2) - dH N (iM (bA n g h 1 (-1)) r.2) - dH N (iM (bA n g h (-1) 1) r.2)+dH N (iM (bA n g h (-1) (-1)) r.2)=0:=by
 by_cases m:(h:Int)∈r.2
 ·have mg:(g:Int)∉r.2:=λz=>by unfold cj at hb;rw[decide_eq_true z,decide_eq_true m]at hb;cases hb
  rw[Om hg hh 1 (-1) 1 h0 mg,Om hg hh 1 (-1) (-1) h0 mg];left
 ·rw[Oo hg hh 1 1 (-1) h0 m,Oo hg hh (-1) 1 (-1) h0 m];left
noncomputable def jM(ws:ae):ah:=(List.range' 0 ws.length).map λ(k:Nat)=>(Rat.divInt (ws.getD k 0) ws.sum,[(k:Int)])
theorem A_:∀l:ae,(∀w∈l,1<=w/\w<=7)->(l.length:Int)<=l.sum/\l.sum<=7*l.length
 |[],_=>⟨by decide,by decide⟩
 |w::l,h=>by
  obtain⟨a,b⟩:=A_ l λx hx=>h x (aad _ hx);have:=h w aaf;rw[List.sum_cons,List.length_cons];constructor<;>push_cast<;>left
theorem tW:∀(k j:Nat),vi ((List.range' j k).map λ(i:Nat)=>[(i:Int)])
 |0,j=>List.Pairwise.nil
 |k+1,j=>by
  rw[List.range'_succ,List.map_cons];refine List.Pairwise.cons (λl hl=>?_) (tW k (j+1));obtain⟨i,hi,rfl⟩:=List.mem_map.mp hl;have:=(List.mem_range'_1.mp hi).1;unfold HT.lexLt;simp;rw[if_neg (by left)];left
theorem B8(h1:1<=ws.length)(h2:ws.length<=6)(hw:∀w∈ws,1<=w/\w<=7):Dr 6 ws.length (jM ws)/\iL (jM ws)/\1<=ws.sum/\ws.sum<=42:=by
 obtain⟨s1,s2⟩:=A_ ws hw;have hW:1<=ws.sum/\ws.sum<=42:=by left
 have hlen:(jM ws).length=ws.length:=by unfold jM;simp
 have val:∀k:Nat,k<ws.length->1<=ws.getD k 0/\ws.getD k 0<=7:=λk hk=>by
  have:ws.getD k 0=ws[k]:=by simp[hk]
  rw[this];exact hw _ (abe _)
 have mem:∀r∈jM ws,∃k:Nat,k<ws.length/\r=(Rat.divInt (ws.getD k 0) ws.sum,[(k:Int)]):=λr hr=>by
  obtain⟨k,hk,rfl⟩:=List.mem_map.mp hr;exact⟨k,by have:=(List.mem_range'_1.mp hk).2;left,rfl⟩
 have uB:iL (jM ws):=⟨ws.sum.toNat,by left,by left,λr hr=>by
  obtain⟨k,_,rfl⟩:=mem r hr;have d:=hV (t:=ws.getD k 0) (b:=ws.sum) (by left)
  rwa [show ws.sum.natAbs=ws.sum.toNat by left]at d⟩
 refine⟨⟨by left,by left,by rw[hlen];left,.inr uB,by rw[hlen];left,λr hr=>?_,λr hr=>?_,λr hr=>?_,?_,?_⟩,uB,hW⟩
 ·obtain⟨k,hk,rfl⟩:=mem r hr;exact⟨List.pairwise_singleton _ _,λh hh=>by rw[List.mem_singleton]at hh;left⟩
 ·obtain⟨k,hk,rfl⟩:=mem r hr;exact jS (by have:=val k hk;left) (by left)
 ·obtain⟨k,hk,rfl⟩:=mem r hr;have:=val k hk;exact Bk (by left) (by show _<64;left) (by show _<64;left)
 ·have e:(jM ws).map (·.1)=ws.map λx=>Rat.divInt x ws.sum:=by
   unfold jM;rw[List.map_map];refine abf (by simp) λk a b=>?_;have hb:k<ws.length:=by simpa using b
   simp[List.getElem?_eq_getElem hb]
  rw[e,mP _ (by left),Rat.divInt_eq_div];have z:((ws.sum:Int):Rat)≠0:=λz=>by rw[Rat.intCast_eq_zero_iff]at z;left
  grind
 ·have e:(jM ws).map (·.2)=(List.range' 0 ws.length).map λ(k:Nat)=>[(k:Int)]:=by unfold jM;rw[List.map_map];rfl
  rw[e];exact tW _ _
noncomputable def Af:CE:=.comp 1 (.nm 0) [2] .iz [(.v 3)] [] (.bin .add (.int 1) (.bin .mod (.bin .fdiv (.v 1) (.bin .add (.int 10) (.v 0))) (.int 7)))
noncomputable def qA:CE:=.comp 1 (.nm 0) [4] .iz [(.v 3)] [] (.tup [(.call 201 [(.ix (.v 1) (.v 0)),(.bf .kr [(.v 1)])]),(.tup [(.v 0)])])
def B0:ag:=[.asg (.nm 3) (.bin .add (.int 2) (.bin .mod (.bin .fdiv (.v 2) (.int 2)) (.int 5))),.asg (.nm 4) Af,.asg (.nm 1) (.tup [(.v 3),qA])]
def B1:ag:=[.asg (.nm 1) (.call 212 [(.v 0),(.int 0),(.int 5)]),.asg (.nm 2) (.call 200 [(.v 0),(.int 8)]),.ifs (.cmp .eq (.bin .mod (.v 2) (.int 2)) (.int 1)) B0 [],.asg (.nm 5) (.call 215 [(.v 1)]),.asg (.nm 6) .bu,.asg (.nm 7) .bu]
noncomputable def BP(N:Int)(n:Nat):ae:=(List.range n).map λ(k:Nat)=>1+(N.fdiv (10+(k:Int))).fmod 7
theorem BO(N:Int)(n:Nat):∀w∈BP N n,1<=w/\w<=7:=λw hw=>by
 obtain⟨k,_,rfl⟩:=List.mem_map.mp hw;have h1:=aaJ (N.fdiv (10+(k:Int))) (show(0:Int)<7 by decide);have h2:=aaV (N.fdiv (10+(k:Int))) (show(0:Int)<7 by decide);left
abbrev d9(ns:ae)(c1 c2 c3 c4:av)(m:aX):aX:=some (.lst .sc (ai ns))::c1::c2::c3::c4::m
theorem OU(Φ:aT)(ns:ae)(c1 c4:av)(N:Int){n:Nat}(hn:n<=6)(m:aX):bx Φ Af (d9 ns c1 (some (.int N)) (some (.int n)) c4 m)=ok (.lst .ow (ai (BP N n))):=by
 unfold Af;have hf:∀k:Nat,k<n->cT .fdiv (.int N) (.int (10+(k:Int)))=ok (.int (N.fdiv (10+(k:Int)))):=λk hk=>DX (by left) (aai (show(10+(k:Int)).natAbs<100 by left) (by decide));rw[cP (xs:=[.int n]) (items:=(List.range n).map λ(k:Nat)=>D.int (k:Int)) (ds:=(List.range n).map λ(k:Nat)=>D.int (1+(N.fdiv (10+(k:Int))).fmod 7)) (by simp) ?_ (bZ λk hk=>⟨[some (.int k),some (.int N)],by simp[bE],by simp,by have:=hf k (List.mem_range.mp hk);simp[this]⟩) (by simp;exact bY (by left))]
 ·simp[ai,BP,aP]
 ·rw[kH Φ (by left) (by left),Int.toNat_natCast]
theorem O4(Φ:aT)(oF:fm (Φ 201))(ns:ae)(c1 c2:av)(h1:1<=ws.length)(h2:ws.length<=6)(hw:∀w∈ws,1<=w/\w<=7)(m:aX):bx Φ qA (d9 ns c1 c2 (some (.int ws.length)) (some (.lst .ow (ai ws))) m)=ok (.lst .ow (cC (jM ws))):=by
 obtain⟨_,_,s1,s2⟩:=B8 h1 h2 hw;unfold qA;rw[cP (xs:=[.int ws.length]) (items:=(List.range ws.length).map λ(k:Nat)=>D.int (k:Int)) (ds:=(List.range ws.length).map λ(k:Nat)=>rD (Rat.divInt (ws.getD k 0) ws.sum,[(k:Int)])) (by simp) ?_ (bZ λk hk=>⟨[some (.int k),some (.lst .fz (ai ws))],by simp[bE],by simp,?_⟩) (by simp;exact bY (by left))]
 ·unfold cC jM;rw[List.range_eq_range',List.map_map,aP,List.map_map];congr 2
 ·rw[kH Φ (by left) (by left),Int.toNat_natCast]
 ·have hk:=List.mem_range.mp hk;have e1:=sF (hs:=ws) (j:=k) (h:=ws.getD k 0) (by rw[List.getElem?_eq_getElem hk];simp[hk]);have e2:=oF (ws.getD k 0) ws.sum (by left) (aai (show ws.sum.natAbs<64 by left) (aar (n:=2) (i:=6) (j:=9000) (by decide) (by decide)));simp[-List.getD_eq_getElem?_getD,e1,e2];rfl
theorem Pa(Φ:aT)(oF:fm (Φ 201))(ns:ae)(c1:av)(N:Int)(m:aX):∃ws:ae,1<=ws.length/\ws.length<=6/\(∀w∈ws,1<=w/\w<=7)/\bp Φ B0 (d9 ns c1 (some (.int N)) none none m)=ok (.nx,d9 ns (some (cB .ow ws.length (jM ws))) (some (.int N)) (some (.int ws.length)) (some (.lst .ow (ai ws))) m):=by
 have f1:=aaJ (N.fdiv 2) (show(0:Int)<5 by decide);have f2:=aaV (N.fdiv 2) (show(0:Int)<5 by decide);obtain⟨n,hn⟩:∃n:Nat,(n:Int)=2+(N.fdiv 2).fmod 5:=⟨(2+(N.fdiv 2).fmod 5).toNat,by left⟩
 have hl:(BP N n).length=n:=by unfold BP;simp
 have a1:=OU Φ ns c1 none N (n:=n) (by left) m;have k1:=FY Φ Af (d9 ns c1 (some (.int N)) (some (.int n)) none m) rfl;have a2:=O4 Φ oF ns c1 (some (.int N)) (ws:=BP N n) (by left) (by left) (BO N n) m;refine⟨BP N n,by left,by left,BO N n,?_⟩;rw[hl]at a2 ⊢;have s1:iC Φ (.asg (.nm 3) (.bin .add (.int 2) (.bin .mod (.bin .fdiv (.v 2) (.int 2)) (.int 5)))) (d9 ns c1 (some (.int N)) none none m)=ok (.nx,d9 ns c1 (some (.int N)) (some (.int n)) none m):=by
  simp[hn]
 have s2:iC Φ (.asg (.nm 4) Af) (d9 ns c1 (some (.int N)) (some (.int n)) none m)=ok (.nx,d9 ns c1 (some (.int N)) (some (.int n)) (some (.lst .ow (ai (BP N n)))) m):=by
  simp[k1,a1]
 have s3:iC Φ (.asg (.nm 1) (.tup [(.v 3),qA])) (d9 ns c1 (some (.int N)) (some (.int n)) (some (.lst .ow (ai (BP N n)))) m)=ok (.nx,d9 ns (some (cB .ow n (jM (BP N n)))) (some (.int N)) (some (.int n)) (some (.lst .ow (ai (BP N n)))) m):=by
  simp[a2,cB]
 rw[B0,bO,s1];show bp Φ [.asg (.nm 4) Af,.asg (.nm 1) (.tup [(.v 3),qA])] _=_;rw[bO,s2];show bp Φ [.asg (.nm 1) (.tup [(.v 3),qA])] _=_;rw[bO,s3];rfl
theorem Lj(Φ:aT)(kO:jY (Φ 200))(oF:fm (Φ 201))(Lz:lT (Φ 212))(Ly:lS (Φ 215))(ns:ae):∃(n:Nat) (rs:ah) (c3 c4:av),n<=6/\Dr 6 n rs/\iL rs /\
  bp Φ B1 (some (.lst .sc (ai ns))::List.replicate 17 none)=ok (.nx,d9 ns (some (cB .ow n rs)) (some (.int (bc ns 8))) c3 c4 ([some (cB .ow n rs),some .bu,some .bu]++List.replicate 10 none)):=by
 have c8:=kO ns 8 (by decide);obtain⟨n1,sU,hn1,I1,Fi1,d1⟩:=Lz ns 0 5 (by decide) (by decide) (by decide);have d1':Φ 212 [.lst .sc (ai ns),.int 0,.int 5]=ok (cB .ow n1 sU):=d1;have head:∃(n:Nat) (rs:ah) (c3 c4:av),n<=6/\Dr 6 n rs/\iL rs/\iC Φ (.ifs (.cmp .eq (.bin .mod (.v 2) (.int 2)) (.int 1)) B0 []) (d9 ns (some (cB .ow n1 sU)) (some (.int (bc ns 8))) none none (List.replicate 13 none))=ok (.nx,d9 ns (some (cB .ow n rs)) (some (.int (bc ns 8))) c3 c4 (List.replicate 13 none)):=by
  have bm:cT .mod (.int (bc ns 8)) (.int 2)=ok (.int ((bc ns 8).fmod 2)):=rfl;by_cases he:(bc ns 8).fmod 2=1
  ·have ce:cK .eq (.int ((bc ns 8).fmod 2)) (.int 1)=ok (.bl true):=by rw[he];rfl
   obtain⟨ws,w1,w2,w3,e⟩:=Pa Φ oF ns (some (cB .ow n1 sU)) (bc ns 8) (List.replicate 13 none);obtain⟨J,Fj,_⟩:=B8 w1 w2 w3;refine⟨ws.length,jM ws,_,_,w2,J,Fj,Eq.trans ?_ e⟩;simp[-List.reduceReplicate,bm,ce]
  ·have ce:cK .eq (.int ((bc ns 8).fmod 2)) (.int 1)=ok (.bl false):=by
    rw[mH (a:=.int ((bc ns 8).fmod 2)) (b:=.int 1) rfl rfl];show ok (D.bl ((bc ns 8).fmod 2==1))=_;rw[beq_eq_false_iff_ne.mpr he]
   refine⟨n1,sU,none,none,by left,I1,Fi1,?_⟩;simp[-List.reduceReplicate,bm,ce]
 obtain⟨n,rs,c3,c4,n6,I,Fi,e⟩:=head;refine⟨n,rs,c3,c4,n6,I,Fi,?_⟩;have e5:Φ 215 [bo n rs]=ok (cB .ow n rs):=Ly n rs;have s1:iC Φ (.asg (.nm 1) (.call 212 [(.v 0),(.int 0),(.int 5)])) (some (.lst .sc (ai ns))::List.replicate 17 none)=ok (.nx,d9 ns (some (cB .ow n1 sU)) none none none (List.replicate 13 none)):=by
  simp[d1',cB]
 have s2:iC Φ (.asg (.nm 2) (.call 200 [(.v 0),(.int 8)])) (d9 ns (some (cB .ow n1 sU)) none none none (List.replicate 13 none))=ok (.nx,d9 ns (some (cB .ow n1 sU)) (some (.int (bc ns 8))) none none (List.replicate 13 none)):=by
  simp[c8]
 have s3:bp Φ [.asg (.nm 5) (.call 215 [(.v 1)]),.asg (.nm 6) .bu,.asg (.nm 7) .bu] (d9 ns (some (cB .ow n rs)) (some (.int (bc ns 8))) c3 c4 (List.replicate 13 none))=ok (.nx,d9 ns (some (cB .ow n rs)) (some (.int (bc ns 8))) c3 c4 ([some (cB .ow n rs),some .bu,some .bu]++List.replicate 10 none)):=by
  simp[iE,e5]
 rw[B1,bO,s1];show bp Φ (.asg (.nm 2) (.call 200 [(.v 0),(.int 8)])::_) _=_;rw[bO,s2];show bp Φ (.ifs (.cmp .eq (.bin .mod (.v 2) (.int 2)) (.int 1)) B0 []::_) _=_;rw[bO,e];exact s3
noncomputable def A8:ag:=[.asg (.nm 17) (.call 241 [(.call 200 [(.v 0),(.int 9)]),(.v 16),(.v 14)]),.asg (.nm 12) (.call 202 [(.v 12),(.call 203 [(.v 13),(.call 203 [(.v 15),(.v 17)])])])]
def Og:ag:=[.asg (.nm 11) (.call 202 [(.v 11),(.call 203 [(.v 13),(.call 237 [(.v 1),(.call 207 [(.v 1)]),(.v 14)])])]),.fr (.tp [15,16]) (.seq (.ix (.v 1) (.int 1))) A8]
theorem EU(N:Int)(l:List (Int×Int)):Sm 6 ((dH N l:Int):Rat):=by
 have h1:=aaJ ((N*(AJ (7*(l.length:Int)) l+11)).fmod 10007) (show(0:Int)<41 by decide);have h2:=aaV ((N*(AJ (7*(l.length:Int)) l+11)).fmod 10007) (show(0:Int)<41 by decide);refine⟨?_,by rw[Rat.den_intCast];decide⟩;rw[Rat.num_intCast];show(((N*(AJ (7*(l.length:Int)) l+11)).fmod 10007).fmod 41 - 20).natAbs<64;left
abbrev vm(c5 c6 c7 c9 mI:av)(mL bl:Rat)(s:Int)(ws:az)(u_ sZ sv:av):aX:=[c5,c6,c7,none,c9,mI,some (qD mL),some (qD bl),some (qD s),some (.lst .fz (aO ws)),u_,sZ,sv]
theorem PZ(Φ:aT)(kO:jY (Φ 200))(dq:fS (Φ 202))(fh:d7 (Φ 203))(Gi:MK (Φ 241))(ns:ae)(c1 c2 c3 c4 c5 c6 c7 c9 mI:av)(mL:Rat){s:Int}(hs:s.natAbs<=1){ws:az}(hw:∀q∈ws,q.num.natAbs<=1):∀(l:ah) (b:Rat) (j:Nat) (u_ sZ sv:av),(∀r∈l,Sm 6 r.1/\r.2.length<=12/\∀h∈r.2,0<=h/\h<12/\h<(ws.length:Int))->Sm j b->j+14*l.length<=3000 ->
  ∃WU WT WS,cG (λd ρ=>bQ (.tp [15,16]) d ρ) (λρ=>bp Φ A8 ρ) (cC l) (d9 ns c1 c2 c3 c4 (vm c5 c6 c7 c9 mI mL b s ws u_ sZ sv))=ok (.nx,d9 ns c1 c2 c3 c4 (vm c5 c6 c7 c9 mI mL (b+(l.map λr=>(s:Rat)*(r.1*((dH (bc ns 9) (iM ws r.2):Int):Rat))).sum) s ws WU WT WS))/\Sm (j+14*l.length) (b+(l.map λr=>(s:Rat)*(r.1*((dH (bc ns 9) (iM ws r.2):Int):Rat))).sum)
 |[],b,j,u_,sZ,sv,_,hb,_=>⟨u_,sZ,sv,by rw[List.map_nil,List.sum_nil,Rat.add_zero];rfl,by rw[List.map_nil,List.sum_nil,Rat.add_zero];exact hb⟩
 |r::l,b,j,u_,sZ,sv,hl,hb,hj=>by
  rw[List.length_cons]at hj ⊢;obtain⟨r1,r2,r3⟩:=hl r aaf;have c9v:=kO ns 9 (by decide);have e1:=Gi (bc ns 9) r.2 .fz ws r2 r3 hw;have ss:=EU (bc ns 9) (iM ws r.2);have m1:=r1.mul ss;have e2:=fh r.1 _ (r1.mono (by decide)) (ss.mono (by decide));have sS:Sm 1 (s:Rat):=⟨by rw[Rat.num_intCast];left,by rw[Rat.den_intCast];decide⟩
  have e3:=fh (s:Rat) _ (sS.mono (by decide)) (m1.mono (by decide));have m2:=sS.mul m1;have e4:=dq b _ (hb.mono (by left)) (m2.mono (by decide));have m3:=(hb.add m2).mono (show _<=j+14 by left);obtain⟨Iz,Iy,Iw,ih,ihs⟩:=PZ Φ kO dq fh Gi ns c1 c2 c3 c4 c5 c6 c7 c9 mI mL hs hw l (b+(s:Rat)*(r.1*((dH (bc ns 9) (iM ws r.2):Int):Rat))) (j+14) (some (qD r.1)) (some (.tup (ai r.2))) (some (qD ((dH (bc ns 9) (iM ws r.2):Int):Rat))) (λr' h'=>hl r' (aad _ h')) m3 (by left);have es:b+(List.map (λr=>(s:Rat)*(r.1*((dH (bc ns 9) (iM ws r.2):Int):Rat))) (r::l)).sum=b+(s:Rat)*(r.1*((dH (bc ns 9) (iM ws r.2):Int):Rat))+(l.map λr=>(s:Rat)*(r.1*((dH (bc ns 9) (iM ws r.2):Int):Rat))).sum:=by
   rw[List.map_cons,List.sum_cons,Rat.add_assoc]
  refine⟨Iz,Iy,Iw,?_,?_⟩
  ·rw[es];refine bG (x:=rD r) (ρ1:=d9 ns c1 c2 c3 c4 (vm c5 c6 c7 c9 mI mL b s ws (some (qD r.1)) (some (.tup (ai r.2))) sv)) (by simp[rD]) ?_ (by exact ih);simp[A8,c9v,e1,e2,e3,e4]
  ·rw[es];exact ihs.mono (by left)
theorem DE(ws:az){n g h:Nat}(hg:g<n)(hh:h<n)(mX:g≠h)(a b:Int)(m:Rat):∀(rs:ah),(∀r∈rs,r.2.Nodup/\∀k∈r.2,0<=k) ->
  jU rs ws (bA n g h a b) m=(a:Rat)*a*(b6 ws g*b6 ws g*aD rs g g)+(b:Rat)*b*(b6 ws h*b6 ws h*aD rs h h)+2*((a:Rat)*b)*(b6 ws g*b6 ws h*aD rs g h) - 2*m*((a:Rat)*(b6 ws g*aD rs g g)+(b:Rat)*(b6 ws h*aD rs h h))+m*m*(rs.map (·.1)).sum
 |[],_=>by
  show(0:Rat)=(a:Rat)*a*(b6 ws g*b6 ws g*0)+(b:Rat)*b*(b6 ws h*b6 ws h*0)+2*((a:Rat)*b)*(b6 ws g*b6 ws h*0) - 2*m*((a:Rat)*(b6 ws g*0)+(b:Rat)*(b6 ws h*0))+m*m*0;grind
 |r::rs,hr=>by
  have ih:=DE ws hg hh mX a b m rs λr' h'=>hr r' (aad _ h');obtain⟨h1,h2⟩:=hr r aaf;have e1:=Q4 (ws:=ws) hg hh mX a b h1 h2;have d:jU (r::rs) ws (bA n g h a b) m=r.1*((gQ ws (bA n g h a b) r - m)*(gQ ws (bA n g h a b) r - m))+jU rs ws (bA n g h a b) m:=rfl;rw[d,e1,ih,cZ r rs g h,cZ r rs g g,cZ r rs h h,List.map_cons,List.sum_cons];generalize (a:Rat)=a;generalize (b:Rat)=b;unfold PY cj;by_cases m1:(g:Int)∈r.2<;>by_cases m2:(h:Int)∈r.2<;>simp only[m1,m2,if_true,if_false,decide_true,decide_false,Bool.and_true,Bool.and_false,Bool.and_self,Bool.false_eq_true]<;>grind
theorem yf(ws:az){n g h:Nat}(hg:g<n)(hh:h<n)(mX:g≠h)(a b:Int):∀(rs:ah),(∀r∈rs,r.2.Nodup/\∀k∈r.2,0<=k) ->
  cQ rs ws (bA n g h a b)=(a:Rat)*(b6 ws g*aD rs g g)+(b:Rat)*(b6 ws h*aD rs h h)
 |[],_=>by
  show(0:Rat)=(a:Rat)*(b6 ws g*0)+(b:Rat)*(b6 ws h*0);grind
 |r::rs,hr=>by
  have ih:=yf ws hg hh mX a b rs λr' h'=>hr r' (aad _ h');obtain⟨h1,h2⟩:=hr r aaf;have e1:=Q4 (ws:=ws) hg hh mX a b h1 h2;have d:cQ (r::rs) ws (bA n g h a b)=r.1*gQ ws (bA n g h a b) r+cQ rs ws (bA n g h a b):=rfl;rw[d,e1,ih,cZ r rs g g,cZ r rs h h];generalize (a:Rat)=a;generalize (b:Rat)=b;unfold PY cj;by_cases m1:(g:Int)∈r.2<;>by_cases m2:(h:Int)∈r.2<;>simp only[m1,m2,if_true,if_false,decide_true,decide_false,Bool.and_self,Bool.false_eq_true]<;>grind
theorem pf.nd{n:Nat}{l:ae}(h:pf n l):l.Nodup/\∀k∈l,0<=k:=⟨h.1.imp λz e=>by left,λk hk=>(h.2 k hk).1⟩
theorem gK{n g h:Nat}{rs:ah}(I:Dr 6 n rs)(Fi:iL rs)(hp:∀g:Nat,g<n->0<aD rs g g)(hg:g<n)(hh:h<n)(mX:g≠h)(hz:aD rs g h=0){a b:Int}(ha:a=1\/a = -1)(hb:b=1\/b = -1):
  bK rs (jC n rs) (bA n g h a b)=1 / aD rs g g+1 / aD rs h h - 2 - 2*((a:Rat)*b):=by
 have l1:(jC n rs).length=n:=by unfold jC;simp
 have sx:∀q∈bA n g h a b,Sm 6 q:=λq hq=>by
  have:q=0\/q=(a:Rat)\/q=(b:Rat):=by
   unfold bA at hq;rcases aa4 hq with hq|hq
   ·rcases aa4 hq with hq|hq
    ·exact .inl (List.eq_of_mem_replicate hq)
    ·exact .inr (.inl hq)
   ·exact .inr (.inr hq)
  rcases this with rfl|rfl|rfl
  ·exact⟨by decide,by decide⟩
  ·exact⟨by rw[Rat.num_intCast];show _<64;left,by rw[Rat.den_intCast];decide⟩
  ·exact⟨by rw[Rat.num_intCast];show _<64;left,by rw[Rat.den_intCast];decide⟩
 have G:Gs 6 n (jC n rs) (bA n g h a b):=⟨l1,vD n g h a b,xO I Fi hp,sx,by decide⟩
 have hn:∀r∈rs,r.2.Nodup/\∀k∈r.2,0<=k:=λr hr=>(I.b_ r hr).nd;rw[<- jT I G,DE _ hg hh mX a b _ rs hn,yf _ hg hh mX a b rs hn,hz,BB hg,BB hh,I.one];have n1:aD rs g g≠0:=λz=>by have:=hp g hg;rw[z]at this;exact absurd this (by decide)
 have n2:aD rs h h≠0:=λz=>by have:=hp h hh;rw[z]at this;exact absurd this (by decide)
 have i1:1 / aD rs g g*aD rs g g=1:=by grind
 have i2:1 / aD rs h h*aD rs h h=1:=by grind
 generalize 1 / aD rs g g=w at *;generalize 1 / aD rs h h=v at *;have c1:((1:Int):Rat)=1:=rfl;have c2:((-1:Int):Rat) = -1:=rfl;rcases ha with rfl|rfl<;>rcases hb with rfl|rfl<;>simp only[c1,c2]<;>grind
theorem vM{n g h:Nat}{rs:ah}(I:Dr 6 n rs)(Fi:iL rs)(hp:∀g:Nat,g<n->0<aD rs g g)(hg:g<n)(hh:h<n)(mX:g≠h)(hz:aD rs g h=0){a b:Int}(ha:a=1\/a = -1)(hb:b=1\/b = -1):Sm 21 (bK rs (jC n rs) (bA n g h a b)):=by
 rw[gK I Fi hp hg hh mX hz ha hb];have w:=xO I Fi hp (1 / aD rs g g) (by unfold jC;exact List.mem_map.mpr ⟨_,aaq (mQ rs hg),rfl⟩);have v:=xO I Fi hp (1 / aD rs h h) (by unfold jC;exact List.mem_map.mpr ⟨_,aaq (mQ rs hh),rfl⟩);have t:Sm 2 (2:Rat):=⟨by decide,by decide⟩
 have sa:Sm 1 (a:Rat):=⟨by rw[Rat.num_intCast];left,by rw[Rat.den_intCast];decide⟩
 have sb:Sm 1 (b:Rat):=⟨by rw[Rat.num_intCast];left,by rw[Rat.den_intCast];decide⟩
 have ab:=t.mul (sa.mul sb);exact(((w.add v).sub t).sub ab).mono (by decide)
theorem AR{n g h:Nat}{a b:Int}{q:Rat}(hq:q∈bA n g h a b):q=0\/q=(a:Rat)\/q=(b:Rat):=by
 unfold bA at hq;rcases aa4 hq with hq|hq
 ·rcases aa4 hq with hq|hq
  ·exact .inl (List.eq_of_mem_replicate hq)
  ·exact .inr (.inl hq)
 ·exact .inr (.inr hq)
structure Xa(Φ:aT):Prop where
 kO:jY (Φ 200)
 dq:fS (Φ 202)
 fh:d7 (Φ 203)
 Wc:vg (Φ 207)
 V9:lQ (Φ 237)
 Gi:MK (Φ 241)
def sT(ns:ae)(rs:ah)(s:Int)(ws:az):Rat:=(rs.map λr=>(s:Rat)*(r.1*((dH (bc ns 9) (iM ws r.2):Int):Rat))).sum
theorem qS(Φ:aT)(K:Xa Φ)(ns:ae){n g h:Nat}{rs:ah}(I:Dr 6 n rs)(Fi:iL rs)(hp:∀g:Nat,g<n->0<aD rs g g)(hg:g<n)(hh:h<n)(mX:g≠h)(hz:aD rs g h=0){a b s:Int}(ha:a=1\/a = -1)(hb:b=1\/b = -1)(hs:s=1\/s = -1){f:Fl}(hf:f=.ow\/f=.fz)(c2 c3 c4 c5 c6 c7 c9 mI Iz Iy Iw:av){mL bl:Rat}{j i:Nat}(ht:Sm j mL)(uD:Sm i bl)(hj:j<=1000)(hi:i<=1000):
  ∃u_ sZ sv,bp Φ Og (d9 ns (some (cB f n rs)) c2 c3 c4 (vm c5 c6 c7 c9 mI mL bl s (bA n g h a b) Iz Iy Iw))=ok (.nx,d9 ns (some (bo n rs)) c2 c3 c4 (vm c5 c6 c7 c9 mI (mL+(s:Rat)*bK rs (jC n rs) (bA n g h a b)) (bl+sT ns rs s (bA n g h a b)) s (bA n g h a b) u_ sZ sv))/\Sm (j+30) (mL+(s:Rat)*bK rs (jC n rs) (bA n g h a b))/\Sm (i+140) (bl+sT ns rs s (bA n g h a b)):=by
 have n2:=I.n2;have hfew:=I.vw;have hlen:rs.length<=10:=by left
 have e7:Φ 207 [bo n rs]=ok (.lst .ow (aO (jC n rs))):=K.Wc n rs I (λq hq=>by obtain⟨k,hk,rfl⟩:=mU hq;exact hp k hk) (λq hq=>by obtain⟨k,hk,rfl⟩:=mU hq;exact Bo I k k);have s3:∀q∈bA n g h a b,Sm 3 q:=λq hq=>by
  rcases AR hq with rfl|rfl|rfl
  ·exact⟨by decide,by decide⟩
  ·exact⟨by rw[Rat.num_intCast];show _<8;left,by rw[Rat.den_intCast];decide⟩
  ·exact⟨by rw[Rat.num_intCast];show _<8;left,by rw[Rat.den_intCast];decide⟩
 have n1:∀q∈bA n g h a b,q.num.natAbs<=1:=λq hq=>by
  rcases AR hq with rfl|rfl|rfl
  ·decide
  ·rw[Rat.num_intCast];left
  ·rw[Rat.num_intCast];left
 have YN:=K.V9.JJ .fz .fz I Fi hp (vD n g h a b) s3;have sp:=vM I Fi hp hg hh mX hz ha hb;have sS:Sm 1 (s:Rat):=⟨by rw[Rat.num_intCast];left,by rw[Rat.den_intCast];decide⟩
 have e3:=K.fh (s:Rat) _ (sS.mono (by decide)) (sp.mono (by decide));have m3:=sS.mul sp;have e2:=K.dq mL _ (ht.mono (by left)) (m3.mono (by decide));obtain⟨u_,sZ,sv,el,es⟩:=PZ Φ K.kO K.dq K.fh K.Gi ns (some (bo n rs)) c2 c3 c4 c5 c6 c7 c9 mI (mL+(s:Rat)*bK rs (jC n rs) (bA n g h a b)) (s:=s) (by left) n1 rs bl i Iz Iy Iw (λr hr=>⟨I.sm r hr,by have:=(I.b_ r hr).len;left,λk hk=>by have:=(I.b_ r hr).2 k hk;rw[vD];left⟩) uD (by left);have hit:bR Φ (.seq (.ix (.v 1) (.int 1))) (d9 ns (some (cB f n rs)) c2 c3 c4 (vm c5 c6 c7 c9 mI (mL+(s:Rat)*bK rs (jC n rs) (bA n g h a b)) bl s (bA n g h a b) Iz Iy Iw))=ok (cC rs,d9 ns (some (bo n rs)) c2 c3 c4 (vm c5 c6 c7 c9 mI (mL+(s:Rat)*bK rs (jC n rs) (bA n g h a b)) bl s (bA n g h a b) Iz Iy Iw)):=by
  rcases hf with rfl|rfl
  ·rw[uv (f:=.al) (ds:=cC rs) (by simp[cB])];simp[iN,iE]
  ·rw[uv (f:=.fz) (ds:=cC rs) (by simp[cB])];simp[cB,bo]
 have hx:=dA (Φ:=Φ) (t:=.tp [15,16]) (b:=A8) hit el;refine⟨u_,sZ,sv,?_,(ht.add m3).mono (by left),es.mono (by left)⟩;have s1:iC Φ (.asg (.nm 11) (.call 202 [(.v 11),(.call 203 [(.v 13),(.call 237 [(.v 1),(.call 207 [(.v 1)]),(.v 14)])])])) (d9 ns (some (cB f n rs)) c2 c3 c4 (vm c5 c6 c7 c9 mI mL bl s (bA n g h a b) Iz Iy Iw))=ok (.nx,d9 ns (some (cB f n rs)) c2 c3 c4 (vm c5 c6 c7 c9 mI (mL+(s:Rat)*bK rs (jC n rs) (bA n g h a b)) bl s (bA n g h a b) Iz Iy Iw)):=by
  have Ig:cB .fz n rs=bo n rs:=rfl;have m1:aY a_ (bo n rs)=bo n rs:=by simp[bo]
  have m2:aY bB (bo n rs)=bo n rs:=by simp[bo]
  rcases hf with rfl|rfl
  ·simp[iE,bB,a_,Ig,m1,m2,e7,YN,e3,e2]
  ·rw[Ig];simp[m1,m2,e7,YN,e3,e2]
 rw[Og,bO,s1];show bp Φ [.fr (.tp [15,16]) (.seq (.ix (.v 1) (.int 1))) A8] _=_;rw[bO,hx];rfl
theorem xK(ns:ae){n g h:Nat}(hg:g<n)(hh:h<n):∀(rs:ah),(∀r∈rs,(∀k∈r.2,0<=k)/\cj g h r=false)->sT ns rs 1 (bA n g h 1 1)+sT ns rs (-1) (bA n g h 1 (-1))+sT ns rs (-1) (bA n g h (-1) 1)+sT ns rs 1 (bA n g h (-1) (-1))=0
 |[],_=>by show(0:Rat)+0+0+0=0;grind
 |r::rs,hr=>by
  have ih:=xK ns hg hh rs λr' h'=>hr r' (aad _ h');obtain⟨h0,hb⟩:=hr r aaf;have f:=zu hg hh (bc ns 9) h0 hb;have f:((dH (bc ns 9) (iM (bA n g h 1 1) r.2):Int):Rat) - ((dH (bc ns 9) (iM (bA n g h 1 (-1)) r.2):Int):Rat) - ((dH (bc ns 9) (iM (bA n g h (-1) 1) r.2):Int):Rat)+((dH (bc ns 9) (iM (bA n g h (-1) (-1)) r.2):Int):Rat)=0:=by
   rw[<- Rat.intCast_sub,<- Rat.intCast_sub,<- Rat.intCast_add,f];rfl
  have d:∀(s:Int) ws,sT ns (r::rs) s ws=(s:Rat)*(r.1*((dH (bc ns 9) (iM ws r.2):Int):Rat))+sT ns rs s ws:=λs ws=>rfl;rw[d,d,d,d];have c1:((1:Int):Rat)=1:=rfl;have c2:((-1:Int):Rat) = -1:=rfl;rw[c1,c2];grind
theorem LJ(Φ:aT)(K:Xa Φ)(ns:ae){n g h:Nat}{rs:ah}(I:Dr 6 n rs)(Fi:iL rs)(hp:∀g:Nat,g<n->0<aD rs g g)(hg:g<n)(hh:h<n)(mX:g≠h)(hz:aD rs g h=0)(c2 c3 c4 c5 c6 c7 c9 mI:av):
  ∃u_ sZ sv,cG (λd ρ=>bQ (.tp [13,14]) d ρ) (λρ=>bp Φ Og ρ) [.tup [qD ((1:Int):Rat),.lst .fz (aO (bA n g h 1 1))],.tup [qD ((-1:Int):Rat),.lst .fz (aO (bA n g h 1 (-1)))],.tup [qD ((-1:Int):Rat),.lst .fz (aO (bA n g h (-1) 1))],.tup [qD ((1:Int):Rat),.lst .fz (aO (bA n g h (-1) (-1)))]] (d9 ns (some (cB .ow n rs)) c2 c3 c4 [c5,c6,c7,none,c9,mI,some (qD 0),some (qD 0),none,none,none,none,none])=ok (.nx,d9 ns (some (bo n rs)) c2 c3 c4 (vm c5 c6 c7 c9 mI (-8) 0 1 (bA n g h (-1) (-1)) u_ sZ sv)):=by
 have z1:Sm 1 (0:Rat):=⟨by decide,by decide⟩
 obtain⟨a1,b1,d1,e1,t1,l1⟩:=qS Φ K ns I Fi hp hg hh mX hz (a:=1) (b:=1) (s:=1) (.inl rfl) (.inl rfl) (.inl rfl) (f:=.ow) (.inl rfl) c2 c3 c4 c5 c6 c7 c9 mI none none none z1 z1 (by decide) (by decide);obtain⟨a2,b2,d2,e2,t2,l2⟩:=qS Φ K ns I Fi hp hg hh mX hz (a:=1) (b:=-1) (s:=-1) (.inl rfl) (.inr rfl) (.inr rfl) (f:=.fz) (.inr rfl) c2 c3 c4 c5 c6 c7 c9 mI a1 b1 d1 t1 l1 (by decide) (by decide);obtain⟨a3,b3,d3,e3,t3,l3⟩:=qS Φ K ns I Fi hp hg hh mX hz (a:=-1) (b:=1) (s:=-1) (.inr rfl) (.inl rfl) (.inr rfl) (f:=.fz) (.inr rfl) c2 c3 c4 c5 c6 c7 c9 mI a2 b2 d2 t2 l2 (by decide) (by decide);obtain⟨a4,b4,d4,e4,t4,l4⟩:=qS Φ K ns I Fi hp hg hh mX hz (a:=-1) (b:=-1) (s:=1) (.inr rfl) (.inr rfl) (.inl rfl) (f:=.fz) (.inr rfl) c2 c3 c4 c5 c6 c7 c9 mI a3 b3 d3 t3 l3 (by decide) (by decide);have mL:(0:Rat)+((1:Int):Rat)*bK rs (jC n rs) (bA n g h 1 1)+((-1:Int):Rat)*bK rs (jC n rs) (bA n g h 1 (-1))+((-1:Int):Rat)*bK rs (jC n rs) (bA n g h (-1) 1)+((1:Int):Rat)*bK rs (jC n rs) (bA n g h (-1) (-1)) = -8:=by
  rw[gK I Fi hp hg hh mX hz (.inl rfl) (.inl rfl),gK I Fi hp hg hh mX hz (.inl rfl) (.inr rfl),gK I Fi hp hg hh mX hz (.inr rfl) (.inl rfl),gK I Fi hp hg hh mX hz (.inr rfl) (.inr rfl)];have c1:((1:Int):Rat)=1:=rfl;have c2:((-1:Int):Rat) = -1:=rfl;rw[c1,c2];grind
 have blz:(0:Rat)+sT ns rs 1 (bA n g h 1 1)+sT ns rs (-1) (bA n g h 1 (-1))+sT ns rs (-1) (bA n g h (-1) 1)+sT ns rs 1 (bA n g h (-1) (-1))=0:=by
  have:=xK ns hg hh rs λr hr=>⟨(I.b_ r hr).nd.2,(ya I.pos).2 hz r hr⟩
  grind
 rw[mL,blz]at e4;refine⟨a4,b4,d4,?_⟩;refine bG (ρ1:=d9 ns (some (cB .ow n rs)) c2 c3 c4 (vm c5 c6 c7 c9 mI 0 0 1 (bA n g h 1 1) none none none)) (by simp) (by exact e1) ?_;refine bG (ρ1:=d9 ns (some (bo n rs)) c2 c3 c4 (vm c5 c6 c7 c9 mI (0+((1:Int):Rat)*bK rs (jC n rs) (bA n g h 1 1)) (0+sT ns rs 1 (bA n g h 1 1)) (-1) (bA n g h 1 (-1)) a1 b1 d1)) (by simp) (by exact e2) ?_;refine bG (ρ1:=d9 ns (some (bo n rs)) c2 c3 c4 (vm c5 c6 c7 c9 mI ((0+((1:Int):Rat)*bK rs (jC n rs) (bA n g h 1 1))+((-1:Int):Rat)*bK rs (jC n rs) (bA n g h 1 (-1))) ((0+sT ns rs 1 (bA n g h 1 1))+sT ns rs (-1) (bA n g h 1 (-1))) (-1) (bA n g h (-1) 1) a2 b2 d2)) (by simp) (by exact e3) ?_;refine bG (ρ1:=d9 ns (some (bo n rs)) c2 c3 c4 (vm c5 c6 c7 c9 mI (((0+((1:Int):Rat)*bK rs (jC n rs) (bA n g h 1 1))+((-1:Int):Rat)*bK rs (jC n rs) (bA n g h 1 (-1)))+((-1:Int):Rat)*bK rs (jC n rs) (bA n g h (-1) 1)) (((0+sT ns rs 1 (bA n g h 1 1))+sT ns rs (-1) (bA n g h 1 (-1)))+sT ns rs (-1) (bA n g h (-1) 1)) 1 (bA n g h (-1) (-1)) a3 b3 d3)) (by simp) (by exact e4) ?_;rw[dt]
noncomputable def mx:aa:=[qD ((1:Int):Rat),qD ((-1:Int):Rat),qD ((-1:Int):Rat),qD ((1:Int):Rat)]
def NC(n g h:Nat):aa:=[.lst .fz (aO (bA n g h 1 1)),.lst .fz (aO (bA n g h 1 (-1))),.lst .fz (aO (bA n g h (-1) 1)),.lst .fz (aO (bA n g h (-1) (-1)))]
theorem U9(Φ:aT)(uG:Φ 1000=vB)(ns:ae){n g h:Nat}(c1 c2 c3 c4 c5 c7 c9:av)(m:aX):bR Φ (.uc 1000 [(.v 10),(.v 6)]) (d9 ns c1 c2 c3 c4 (c5::some (.lst .ow (eA n g h))::c7::none::c9::some (.lst .ow mx)::m))=ok ([.tup [qD ((1:Int):Rat),.lst .fz (aO (bA n g h 1 1))],.tup [qD ((-1:Int):Rat),.lst .fz (aO (bA n g h 1 (-1)))],.tup [qD ((-1:Int):Rat),.lst .fz (aO (bA n g h (-1) 1))],.tup [qD ((1:Int):Rat),.lst .fz (aO (bA n g h (-1) (-1)))]],d9 ns c1 c2 c3 c4 (c5::some (.lst .fz (NC n g h))::c7::none::c9::some (.lst .fz mx)::m)):=by
 have hI:∀ρ,bR Φ (.uc 1000 [(.v 10),(.v 6)]) ρ=bd (bX Φ [(.v 10),(.v 6)] ρ) λxs=>bd (Φ 1000 xs) λd=>bd (kv d) λitems=>ok (items,if aR bI xs then hU (cU [(.v 10),(.v 6)]) ρ else ρ):=λ_=>rfl;rw[hI];have e:bX Φ [(.v 10),(.v 6)] (d9 ns c1 c2 c3 c4 (c5::some (.lst .ow (eA n g h))::c7::none::c9::some (.lst .ow mx)::m))=ok [.lst .al mx,.lst .al [.lst .al (aO (bA n g h 1 1)),.lst .al (aO (bA n g h 1 (-1))),.lst .al (aO (bA n g h (-1) 1)),.lst .al (aO (bA n g h (-1) (-1)))]]:=by
  simp[mx,eA,bB]
 rw[e,cH,uG];simp[vB,mx,NC,eA,kv,bI,a_,hU,cU,iN];refine ab9 λi=>?_;rw[List.getElem?_mapIdx];cases m[i]?<;>rfl
theorem BA:∀{hs:ae} {p:Int×Int},hs.Pairwise (· < ·)->p∈fY hs->p.1<p.2
 |[],p,_,h=>nomatch h
 |a::hs,p,hw,h=>by
  obtain⟨h1,h2⟩:=List.pairwise_cons.mp hw;have h:p∈hs.map (λb=>(a,b))++fY hs:=h;rcases List.mem_append.mp h with h|h
  ·obtain⟨b,hb,rfl⟩:=List.mem_map.mp h;exact h1 b hb
  ·exact BA h2 h
theorem NV(n:Nat):(l7 n).Pairwise (· < ·):=by
 unfold l7;rw[List.pairwise_map];exact List.Pairwise.imp (λh=>by left) List.pairwise_lt_range
noncomputable def r8:ag:=[.asg (.nm 9) (.call 209 [(.call 213 [(.v 1)])])]
noncomputable def r9:ag:=[.ifs (.or [(.cmp .ug (.v 7) .bu),(.cmp .ne (.v 5) (.v 1)),(.cmp .ne (.v 6) (.v 9))]) [.ret (.bl false)] []]
noncomputable def R6:ag:=[.ifs (.cmp .HW (.v 9) .bu) [.ret (.bl true)] []]
noncomputable def UA:ag:=[.asg (.nm 10) (.lst [(.tup [(.int 1),(.int 1)]),(.tup [(.neg (.int 1)),(.int 1)]),(.tup [(.neg (.int 1)),(.int 1)]),(.tup [(.int 1),(.int 1)])]),.asg (.nm 11) (.tup [(.int 0),(.int 1)]),.asg (.nm 12) (.tup [(.int 0),(.int 1)])]
def Uz:ag:=[.fr (.tp [13,14]) (.uc 1000 [(.v 10),(.v 6)]) Og]
def JP:ag:=r8++(r9++(R6++(UA++Uz)))
noncomputable def MW:ag:=[.ret (.and [(.cmp .eq (.v 11) (.tup [(.neg (.int 8)),(.int 1)])),(.cmp .eq (.v 12) (.tup [(.int 0),(.int 1)])),(.cmp .eq (.call 71 [(.v 5)]) (.v 9))])]
theorem sy(f a b c d:Fl)(A B C E:az):dM 40 (.lst f [.lst a (aO A),.lst b (aO B),.lst c (aO C),.lst d (aO E)])=true:=by
 rw[x9];simp only[List.all_cons,List.all_nil,Kh 37,Bool.and_self]
theorem Mi(f a b c d f' a' b' c' d':Fl)(A B C E:az):cK .eq (.lst f [.lst a (aO A),.lst b (aO B),.lst c (aO C),.lst d (aO E)]) (.lst f' [.lst a' (aO A),.lst b' (aO B),.lst c' (aO C),.lst d' (aO E)])=ok (.bl true):=by
 rw[mH (sy f a b c d A B C E) (sy f' a' b' c' d' A B C E)];show ok (D.bl (dg (aO A) (aO A)&&(dg (aO B) (aO B)&&(dg (aO C) (aO C)&&(dg (aO E) (aO E)&&true)))))=_;rw[gm,gm,gm,gm];simp
theorem Kq(f a b c d f' a' b' c' d':Fl)(A B C E:az):cK .ne (.lst f [.lst a (aO A),.lst b (aO B),.lst c (aO C),.lst d (aO E)]) (.lst f' [.lst a' (aO A),.lst b' (aO B),.lst c' (aO C),.lst d' (aO E)])=ok (.bl false):=by
 rw[MD (sy f a b c d A B C E) (sy f' a' b' c' d' A B C E)];show ok (D.bl (!(dg (aO A) (aO A)&&(dg (aO B) (aO B)&&(dg (aO C) (aO C)&&(dg (aO E) (aO E)&&true))))))=_;rw[gm,gm,gm,gm];simp
structure YU(Φ:aT):Prop where
 K:Xa Φ
 Yr:RH (Φ 71)
 QU:RF (Φ 209)
 Gj:o6 (Φ 213)
 uG:Φ 1000=vB
section
variable (Φ:aT)(J:YU Φ)(ns:ae){n:Nat}{rs:ah}(I:Dr 6 n rs)(Fi:iL rs)(hp:∀g:Nat,g<n->0<aD rs g g)(c2 c3 c4:av)
include J I Fi hp
theorem good0(hz:vz n rs=[]):∃fo,bp Φ JP (d9 ns (some (cB .ow n rs)) c2 c3 c4 [some (cB .ow n rs),some .bu,some .bu,none,none,none,none,none,none,none,none,none,none])=ok fo/\gq (TC Φ 6 (.int 0) MW) (.bl true) fo:=by
 have e1:=J.Gj n rs I;have e2:=J.QU 6 n rs I;have d0:=λa b=>HP a b n rs;rw[hz]at e2;have m1:aY a_ (bo n rs)=bo n rs:=by simp[bo]
 have m2:aY bB (bo n rs)=bo n rs:=by simp[bo]
 have g8:bp Φ r8 (d9 ns (some (cB .ow n rs)) c2 c3 c4 [some (cB .ow n rs),some .bu,some .bu,none,none,none,none,none,none,none,none,none,none])=ok (.nx,d9 ns (some (cB .ow n rs)) c2 c3 c4 [some (cB .ow n rs),some .bu,some .bu,none,some .bu,none,none,none,none,none,none,none,none]):=by
  simp[r8,iE,bB,a_,m1,m2,e1,e2,bL,ND]
 have g9:bp Φ r9 (d9 ns (some (cB .ow n rs)) c2 c3 c4 [some (cB .ow n rs),some .bu,some .bu,none,some .bu,none,none,none,none,none,none,none,none])=ok (.nx,d9 ns (some (cB .ow n rs)) c2 c3 c4 [some (cB .ow n rs),some .bu,some .bu,none,some .bu,none,none,none,none,none,none,none,none]):=by
  have z1:cK .ug .bu .bu=ok (.bl false):=rfl;have z2:cK .ne .bu .bu=ok (.bl false):=rfl;simp[r9,z1,z2,d0]
 refine⟨(.rt (.bl true),d9 ns (some (cB .ow n rs)) c2 c3 c4 [some (cB .ow n rs),some .bu,some .bu,none,some .bu,none,none,none,none,none,none,none,none]),?_,rfl⟩;rw[JP,gT Φ _ _ _ _ g8,gT Φ _ _ _ _ g9];have z3:cK .HW .bu .bu=ok (.bl true):=rfl;simp[R6,z3]
theorem Q2{g h:Nat}{ps:List (Int×Int)}(hg:g<n)(hh:h<n)(mX:g≠h)(hgz:aD rs g h=0)(hz:vz n rs=((g:Int),(h:Int))::ps):∃fo,bp Φ JP (d9 ns (some (cB .ow n rs)) c2 c3 c4 [some (cB .ow n rs),some (.lst .ow (eA n g h)),some .bu,none,none,none,none,none,none,none,none,none,none])=ok fo/\gq (TC Φ 6 (.int 0) MW) (.bl true) fo:=by
 have e1:=J.Gj n rs I;have e2:=J.QU 6 n rs I;have e3:=J.Yr 6 n rs I hp;have d0:=λa b=>HP a b n rs;have d1:=λf a b c d f' a' b' c' d'=>Kq f a b c d f' a' b' c' d' (bA n g h 1 1) (bA n g h 1 (-1)) (bA n g h (-1) 1) (bA n g h (-1) (-1));have d2:=λf a b c d f' a' b' c' d'=>Mi f a b c d f' a' b' c' d' (bA n g h 1 1) (bA n g h 1 (-1)) (bA n g h (-1) 1) (bA n g h (-1) (-1));rw[hz]at e2 e3;have e2:Φ 209 [.lst .fz (bM n rs .fz 0 n)]=ok (.lst .ow (eA n g h)):=e2;have e3:Φ 71 [bo n rs]=ok (.lst .ow (eA n g h)):=e3;have m1:aY a_ (bo n rs)=bo n rs:=by simp[bo]
 have m2:aY bB (bo n rs)=bo n rs:=by simp[bo]
 have nb:ba bI (.lst .ow (eA n g h))=false:=by simp[eA,bI]
 have g8:bp Φ r8 (d9 ns (some (cB .ow n rs)) c2 c3 c4 [some (cB .ow n rs),some (.lst .ow (eA n g h)),some .bu,none,none,none,none,none,none,none,none,none,none])=ok (.nx,d9 ns (some (cB .ow n rs)) c2 c3 c4 [some (cB .ow n rs),some (.lst .ow (eA n g h)),some .bu,none,some (.lst .ow (eA n g h)),none,none,none,none,none,none,none,none]):=by
  simp[r8,iE,bB,a_,m1,m2,e1,e2,bL,eA,bI]
 have g9:bp Φ r9 (d9 ns (some (cB .ow n rs)) c2 c3 c4 [some (cB .ow n rs),some (.lst .ow (eA n g h)),some .bu,none,some (.lst .ow (eA n g h)),none,none,none,none,none,none,none,none])=ok (.nx,d9 ns (some (cB .ow n rs)) c2 c3 c4 [some (cB .ow n rs),some (.lst .ow (eA n g h)),some .bu,none,some (.lst .ow (eA n g h)),none,none,none,none,none,none,none,none]):=by
  have z1:cK .ug .bu .bu=ok (.bl false):=rfl;simp[r9,z1,d0,d1,eA]
 have g10:bp Φ R6 (d9 ns (some (cB .ow n rs)) c2 c3 c4 [some (cB .ow n rs),some (.lst .ow (eA n g h)),some .bu,none,some (.lst .ow (eA n g h)),none,none,none,none,none,none,none,none])=ok (.nx,d9 ns (some (cB .ow n rs)) c2 c3 c4 [some (cB .ow n rs),some (.lst .ow (eA n g h)),some .bu,none,some (.lst .ow (eA n g h)),none,none,none,none,none,none,none,none]):=by
  have z1:∀f ds,cK .HW (.lst f ds) .bu=ok (.bl false):=λ_ _=>rfl;simp[R6,z1]
 have g11:bp Φ UA (d9 ns (some (cB .ow n rs)) c2 c3 c4 [some (cB .ow n rs),some (.lst .ow (eA n g h)),some .bu,none,some (.lst .ow (eA n g h)),none,none,none,none,none,none,none,none])=ok (.nx,d9 ns (some (cB .ow n rs)) c2 c3 c4 [some (cB .ow n rs),some (.lst .ow (eA n g h)),some .bu,none,some (.lst .ow (eA n g h)),some (.lst .ow mx),some (qD 0),some (qD 0),none,none,none,none,none]):=by
  have z0:D.tup [.int 0,.int 1]=qD 0:=rfl;have z1:D.tup [.int 1,.int 1]=qD ((1:Int):Rat):=rfl;have z2:D.tup [.int (-1),.int 1]=qD ((-1:Int):Rat):=rfl;simp[UA,z0,z1,z2,mx]
 have hit:=U9 Φ J.uG ns (n:=n) (g:=g) (h:=h) (some (cB .ow n rs)) c2 c3 c4 (some (cB .ow n rs)) (some .bu) (some (.lst .ow (eA n g h))) [some (qD 0),some (qD 0),none,none,none,none,none];obtain⟨u_,sZ,sv,el⟩:=LJ Φ J.K ns I Fi hp hg hh mX hgz c2 c3 c4 (some (cB .ow n rs)) (some (.lst .fz (NC n g h))) (some .bu) (some (.lst .ow (eA n g h))) (some (.lst .fz mx));have hx:=dA (Φ:=Φ) (t:=.tp [13,14]) (b:=Og) hit el;have g14:bp Φ Uz (d9 ns (some (cB .ow n rs)) c2 c3 c4 [some (cB .ow n rs),some (.lst .ow (eA n g h)),some .bu,none,some (.lst .ow (eA n g h)),some (.lst .ow mx),some (qD 0),some (qD 0),none,none,none,none,none])=ok (.nx,d9 ns (some (bo n rs)) c2 c3 c4 (vm (some (cB .ow n rs)) (some (.lst .fz (NC n g h))) (some .bu) (some (.lst .ow (eA n g h))) (some (.lst .fz mx)) (-8) 0 1 (bA n g h (-1) (-1)) u_ sZ sv)):=by
  rw[Uz,bO,hx];rfl
 refine⟨_,by rw[JP,gT Φ _ _ _ _ g8,gT Φ _ _ _ _ g9,gT Φ _ _ _ _ g10,gT Φ _ _ _ _ g11,g14],?_⟩;refine⟨0,NC n g h,aO (bA n g h 1 1),?_⟩;have hd:ba ux (cB .ow n rs)=false:=by simp[ux]
 have hb:ba ux (.lst .ow (eA n g h))=false:=by simp[ux,eA]
 have fr:qu (d9 ns (some (bo n rs)) c2 c3 c4 (vm (some (cB .ow n rs)) (some (.lst .fz (NC n g h))) (some .bu) (some (.lst .ow (eA n g h))) (some (.lst .fz mx)) (-8) 0 1 (bA n g h (-1) (-1)) u_ sZ sv))=[some (.lst .sc (ai ns)),none,fP c2,fP c3,fP c4,some (cB .ow n rs),none,some .bu,none,some (.lst .ow (eA n g h)),none,some (qD (-8)),some (qD 0),some (qD 1),none,fP u_,fP sZ,fP sv]:=by
  simp[qu,fP,ux,bo,hd,hb]
 refine⟨[some (.lst .sc (ai ns)),none,fP c2,fP c3,fP c4,some (cB .ow n rs),none,some .bu,none,some (.lst .ow (eA n g h)),none,some (qD (-8)),some (qD 0),some (qD 1),none,fP u_,fP sZ,fP sv],rfl,by decide,rfl,rfl,?_⟩
 ·rw[fr];have z0:D.tup [.int 0,.int 1]=qD 0:=rfl;have z8:D.tup [.int (-8),.int 1]=qD (-8):=rfl;have q0:∀q,cK .eq (qD q) (qD q)=ok (.bl true):=λq=>by rw[mH (x_ 39 q) (x_ 39 q),Dm,decide_eq_true rfl]
  have y1:∀ρ:aX,ρ[11]?=some (some (qD (-8)))->bx Φ (.cmp .eq (.v 11) (.tup [(.neg (.int 8)),(.int 1)])) ρ=ok (.bl true):=λρ h=>by simp[h,z8,q0]
  have y2:∀ρ:aX,ρ[12]?=some (some (qD 0))->bx Φ (.cmp .eq (.v 12) (.tup [(.int 0),(.int 1)])) ρ=ok (.bl true):=λρ h=>by simp[h,z0,q0]
  have y3:∀ρ:aX,ρ[5]?=some (some (cB .ow n rs))->ρ[9]?=some (some (.lst .ow (eA n g h)))->bx Φ (.cmp .eq (.call 71 [(.v 5)]) (.v 9)) ρ=ok (.bl true):=λρ h5 h9=>by
   simp[h5,h9,iE,e3,d2,eA]
  rw[MW,bO,NN,PH,Rh,Dt,Dt,Mq,y1 _ rfl,y2 _ rfl,y3 _ rfl rfl];rfl
end
theorem Pz(Φ:aT)(Ψ:Nat->aa->Prop)(J:YU Φ)(kO:jY (Φ 200))(oF:fm (Φ 201))(Lz:lT (Φ 212))(Ly:lS (Φ 215))(V_:RI (Φ 234))(hX:∀ds,S7 ds->Ψ 71 ds)(ns:ae):
  ∃fo,bp Φ B1 (some (D.lst .sc (ai ns))::List.replicate 17 none)=ok fo/\gq (T3 Φ Ψ 8 7 6 71 [(.v 5)] (.not (.call 234 [(.v 1)])) λρ r=>∃fo,bp Φ JP ρ=ok fo/\gq (TC Φ 6 (.int 0) MW) r fo) (.bl true) fo:=by
 obtain⟨n,rs,c3,c4,hn,I,Fi,e0⟩:=Lj Φ kO oF Lz Ly ns;refine⟨_,e0,?_⟩;have ev:=V_ n rs I;have m1:aY a_ (bo n rs)=bo n rs:=by simp[bo]
 by_cases hz:(jl n rs).filter (λq=>decide (q=0))=[]
 ·left;have hp:∀g:Nat,g<n->0<aD rs g g:=λg hg=>by
   have hq:aD rs g g∈jl n rs:=aaq (mQ rs hg);have h0:=(iU I g g).1;have:=List.filter_eq_nil_iff.mp hz _ hq;have h1:aD rs g g≠0:=λz=>this (aaK z);grind
  have e3:=J.Yr 6 n rs I hp;rw[decide_eq_true hz]at ev;cases hb:vz n rs with
  |nil =>
   rw[hb]at e3;refine⟨d9 ns (some (cB .ow n rs)) (some (.int (bc ns 8))) c3 c4 [some (cB .ow n rs),some .bu,some .bu,none,none,none,none,none,none,none,none,none,none],?_,?_,good0 Φ J ns I Fi hp _ c3 c4 hb⟩
   ·have e3:Φ 71 [bo n rs]=ok .bu:=e3;simp[iE,e3]
   ·show pE _=_;simp[iE,ev]
  |cons p ps =>
   have hm:p∈vz n rs:=by rw[hb];exact aaf
   obtain⟨Su,VG⟩:=List.mem_filter.mp hm;obtain⟨g,h,hg,hh,rfl⟩:=qZ Su;have fZ:=BA (NV n) Su;rw[hb]at e3;refine⟨d9 ns (some (cB .ow n rs)) (some (.int (bc ns 8))) c3 c4 [some (cB .ow n rs),some (.lst .ow (eA n g h)),some .bu,none,none,none,none,none,none,none,none,none,none],?_,?_,Q2 Φ J ns I Fi hp _ c3 c4 hg hh (by intro z;subst z;exact absurd fZ (Int.lt_irrefl _)) (aab VG) hb⟩
   ·have e3:Φ 71 [bo n rs]=ok (.lst .ow (eA n g h)):=e3;have nb:aR bI (eA n g h)=false:=by simp[eA,bI]
    have ow:ba bI (.lst .ow (eA n g h))=false:=by simp[bI,nb]
    simp[iE,e3,eA,bI,i4]
   ·show pE _=_;simp[iE,ev]
 ·right;rw[decide_eq_false hz]at ev;have hq:∃q∈jl n rs,q=0:=by
   cases hl:(jl n rs).filter (λq=>decide (q=0))with
   |nil=>exact absurd hl hz
   |cons q l =>
    have:=List.mem_filter.mp (show q∈(jl n rs).filter (λq=>decide (q=0)) by rw[hl];exact aaf);exact⟨q,this.1,aab this.2⟩
  obtain⟨q,hq,q0⟩:=hq;obtain⟨k,hk,rfl⟩:=mU hq;refine⟨[cB .al n rs],by simp,hX _ ⟨6,n,rs,I,⟨k,hk,q0⟩,by simp[iE,a_]⟩,?_,rfl⟩;show pE _=_;simp[iE,ev]
end DI
end
namespace PySem.W.Fast
def tw7675094208357049535:=0
def tw4213150404032413248:=0
def tw1962892249709089651:=0
def tw10529882809218110661:=0
def tw3132057546988210633:=0
def tw15213482776116866812:=0
def tw16285511642163566824:=0
def tw12100720625183266831:=0
def tw5750965075763775668:=0
def tw8823542697421106613:=0
def tw5951252212125932284:=0
def tw17300463053687014655:=0
def tw7356569067133020029:=0
def tw7856001863121684495:=0
def tw837180088553546423:=0
def tw11505898912067642488:=0
def tw9826187073876449889:=0
def tw8840078136674713748:=0
def tw10364760949428262567:=0
def tw12316949854600522691:=0
def tw8323580934511916757:=0
def tw2776769641170712604:=0
def tw8004166220097968617:=0
def tw3413454362469678779:=0
def tw12020577715716668788:=0
def tw4660975915008385406:=0
def tw17442165117684789638:=0
def tw15520250592196929663:=0
def tw2801881572343201506:=0
def tw18068539873418469926:=0
def tw1545683354240619335:=0
def tw9170423281004916324:=0
def tw6088277431905587004:=0
def tw3385264860838618684:=0
def tw486819447104077309:=0
def tw17708672016444624841:=0
def tw10050483185252934974:=0
def tw7449158589527468238:=0
def tw13305404959353263849:=0
def tw13795898837257663165:=0
def tw6808906155282216413:=0
def tw3579265406319371332:=0
def tw784003872011737819:=0
def tw15831466367037067043:=0
def tw11023241153865844367:=0
def tw294984575160511307:=0
def tw11948297132662284938:=0
def tw5400584477946233258:=0
def tw1981756736719063374:=0
def tw10634789252425032179:=0
def tw6066061019692215340:=0
def tw4432481634448875895:=0
def tw3922600270205278889:=0
def tw3518255218264644093:=0
def tw12414770136149485411:=0
def tw14572112992853173120:=0
def tw4117235621724282299:=0
def tw10978329470635336245:=0
def tw4195047943580809770:=0
def tw10065951494238787994:=0
def tw11048475982346625763:=0
def tw15869025894953628926:=0
def tw7473949495980475414:=0
def tw6062300917247655155:=0
def tw227820963664225397:=0
def tw12752263668504338781:=0
def tw4168790885487697469:=0
def tw1120184710404115582:=0
def tw9269319608206430903:=0
def tw6533105021306851172:=0
def tw9430424661843353663:=0
def tw8048337143191847678:=0
def tw1749028115447143719:=0
def tw12869805526020638953:=0
def tw15117908432234677717:=0
def tw2978341956670476204:=0
def tw3950458022033233036:=0
def tw5307723337084358152:=0
def tw6511104873413473453:=0
def tw6796107382740720701:=0
def tw232101607076765872:=0
def tw6801664447199753263:=0
def tw4594918304778044751:=0
def tw3033571331712366735:=0
def tw7649096564786880313:=0
def tw16224934623442203016:=0
def tw2193426923044414076:=0
def tw7509145010824697374:=0
def tw1550316744098250003:=0
def tw1079514134831115792:=0
def tw6503283882657014420:=0
def tw10335703067989811107:=0
def tw9534180225042291404:=0
def tw2772512462906139325:=0
def tw4455747765766846303:=0
def tw4361193836531053921:=0
def tw2901200970782268214:=0
def tw5711486741340515335:=0
def tw8006138506384526935:=0
def tw11357658221280012734:=0
def tw14220372073112370999:=0
def tw13058298626065821111:=0
def tw15460759805071663912:=0
def tw13690209468990240889:=0
def tw12986146679728367740:=0
def tw7692822633062963472:=0
def tw2827655093778149925:=0
def tw16059608440330802688:=0
def tw8419007130990202153:=0
def tw7219939078787719030:=0
def tw12621881282261563235:=0
def tw3754234320668485652:=0
def tw6182833688032761840:=0
def tw212536686917939910:=0
def tw17221870254865097697:=0
def tw13277726598879616099:=0
def tw8362140612053424465:=0
def tw8045806091312165157:=0
def tw10619292501071912483:=0
def tw17418698174424691132:=0
def tw934188128092482869:=0
def tw14668003071353272789:=0
def tw7607055576375896097:=0
def tw2461470999499686175:=0
def tw7346845412633378040:=0
def tw3130295559721536428:=0
def tw5328913724428042867:=0
end PySem.W.Fast
namespace Asm
open PySem PySem.Spec PyProof.Rows L2 DI
noncomputable def top(i:Nat):Stmt:=PySem.Challenge.pw_sharesample_k27_blind_worths.main.body.getD i (.Pass ⟨0,0,0,0⟩)
def px:Px:=⟨λn sc bl e=>if n=1020 then sj true sc bl e else if n=1022 then yU sc bl e else if n=1030 then si sc bl e else if n=1031 then m_ sc bl e else if n=1032 then wY sc bl e else if n=1035 then gw "sorted" sc bl e else if n=1040 then yS sc bl e else if n=1041 then yT sc bl e else none,λn sc bl e=>if n=1000 then i9 sc bl e else if n=1001 then gw "enumerate" sc bl e else if n=1100 then DR sc bl e else none,λn sc bl e=>if n=1013 then wW sc bl e else if n=1033 then m9 sc bl e else none⟩
noncomputable def PT:aT
 |1000=>vB
 |1001=>mj
 |1013=>Dh
 |1020=>(cutD true)
 |1022=>Nv
 |1030=>Dx
 |1031=>uT
 |1032=>DB
 |1033=>uS
 |1035=>oR
 |1040=>Pq
 |1041=>M5
 |1100=>oT
 |_=>λ_=>none
theorem pr(F:aT)(i:Nat)(m:aw):pZ px (xm PT F i m)/\Ei px (xm PT F i m):=⟨⟨(λX sc bl k L p e args he F cs hs=>HZ he (λhe=>My rfl L he hs) λhe=>HZ he (λhe=>Q3 rfl L he hs) λhe=>HZ he (λhe=>GP rfl L he hs) λhe=>HZ he (λhe=>GS rfl L he hs) λhe=>HZ he (λhe=>Mv rfl L he hs) λhe=>HZ he (λhe=>Dw rfl L he hs) λhe=>HZ he (λhe=>Pp rfl L he hs) λhe=>HZ he (λhe=>Pr rfl L he hs) λhe=>nomatch he),(λX sc bl k L p e args he F cs tg ht hs pins s σ H R τ ρ xs d items I Si cO ed ei Rr hR=>by
  dsimp only[px]at he;by_cases hp:p=1000
  ·subst hp;rw[if_pos rfl]at he;exact IT rfl L he ht hs I Si cO ed ei Rr hR
  rw[if_neg hp]at he;clear hp;by_cases hp:p=1001
  ·subst hp;rw[if_pos rfl]at he;exact GA rfl L he ht hs I Si cO ed ei Rr hR
  rw[if_neg hp]at he;clear hp;by_cases hp:p=1100
  ·subst hp;rw[if_pos rfl]at he;exact Dy rfl L he ht hs I Si cO ed ei Rr hR
  rw[if_neg hp]at he;clear hp;cases he)⟩,⟨(λX sc bl k L hN vv p st x pos args he i hi hl pe F cs hs=>XY he (λhe=>Mc rfl L hN vv he hi hl pe hs) λhe=>XY he (λhe=>GO rfl L hN vv he hi hl pe hs) λhe=>nomatch he)⟩⟩
noncomputable def xt(F:aT)(i a b:Nat)(c:ag):aT:=xm PT F i (mk F a b c)
noncomputable def BL:aq:=["abs","all","bool","enumerate","int","isinstance","len","list","range","set","sorted","sum","tuple","zip"]
noncomputable def CC:List (Str×GK):=[("MOST_HOUSES",GK.i 12)]
noncomputable def j6:aT:=xm PT PT 0 λ_=>none
noncomputable def lY:aT:=xt j6 201 2 4 (k8)
noncomputable def jf:aT:=xt lY 202 2 2 (yY 201)
noncomputable def eW:aT:=xt jf 213 1 8 (kZ)
noncomputable def eX:aT:=xt eW 233 1 2 (ju)
noncomputable def j7:aT:=xt eX 234 1 1 (Hb)
noncomputable def iq:aT:=xt j7 200 2 4 (eV)
noncomputable def gE:aT:=xt iq 215 1 1 (jv)
noncomputable def lX:aT:=xt gE 212 3 10 (jw)
noncomputable def lW:aT:=xt lX 209 1 7 (Au)
noncomputable def je:aT:=xt lW 203 2 2 (ng 201)
noncomputable def j4:aT:=xt je 207 1 1 (sD)
noncomputable def jg:aT:=xt j4 241 3 6 (G_)
noncomputable def j5:aT:=xt jg 231 3 5 (k7)
noncomputable def lV:aT:=xt j5 232 3 6 (nh)
noncomputable def il:aT:=xt lV 222 2 2 (sE 201)
noncomputable def b7:aT:=xt il 237 3 8 (jt)
noncomputable def ig:aT:=xt b7 56 1 3 (jW)
noncomputable def j8:aT:=xt ig 62 2 2 (kY)
noncomputable def iu:aT:=xt j8 0 1 1 (h_)
noncomputable def eF:aT:=xt iu 43 2 2 (dw)
noncomputable def gG:aT:=xt eF 1 2 3 (du)
noncomputable def pj:aT:=xt gG 3 1 1 (b8)
noncomputable def jd:aT:=xt pj 12 2 2 (k9)
noncomputable def eY:aT:=xt jd 44 1 3 (gp)
noncomputable def jc:aT:=xt eY 9 1 3 (cR)
noncomputable def fV:aT:=xt jc 10 2 2 (gn)
noncomputable def gA:aT:=xt fV 14 1 4 (jr)
noncomputable def j9:aT:=xt gA 15 1 2 (eI)
noncomputable def pk:aT:=xt j9 45 1 4 (ia)
noncomputable def ir:aT:=xt pk 11 2 2 (gS)
noncomputable def eZ:aT:=xt ir 16 1 1 (fj)
noncomputable def gH:aT:=xt eZ 17 1 1 (dI)
noncomputable def gF:aT:=xt gH 2 2 3 (cS)
noncomputable def gD:aT:=xt gF 19 3 4 (nj)
noncomputable def fW:aT:=xt gD 21 1 4 (js)
noncomputable def ic:aT:=xt fW 59 1 4 (sC)
noncomputable def di:aT:=xt ic 70 4 5 (yX)
noncomputable def qM:aT:=xt di 71 1 6 (vb)
def MM:Nat->aa->Prop
 |56=>S8
 |71=>S7
 |_=>λ_=>False
def zo:=E_ j6
def A9:=OE lY (f:=201) zo
def Oj:=Bv jf A9
def Oh:=zA eW Oj
def TX:=Ui eX Oh
def Jm:=JH j7
def T1:=zC iq
def T2:=zD gE ⟨rfl,rfl,rfl,rfl,rfl,rfl⟩ Jm zo
def T4:=Ug lX
def EM:=EY lW (f:=201) zo
def T5:=Bu je zo Oh
def TU:=Ue j4
def Oi:=Bw jg A9 EM
def TY:=EZ j5 A9 EM Oi
def TZ:=JF lV (f:=201) zo
def TV:=JE il A9 EM TZ Oi TY
def Zu:=JG b7 rfl
def Zs:=Bt ig
def t0:=vR j8
def Xo:=qY iu t0
def t1:=lB eF
def t3:=pL gG t0 t1
def ZC:=Bx pj t3 Xo
def Zw:=tU jd rfl rfl rfl
def t9:=mz eY t1
def ZE:=tT jc
def Xq:=zx fV t9 ZE rfl
def ZA:=pK gA Xq
def Zv:=vS j9 t0 ZC ZA Zw
def ZD:=By pk Xo
def Zz:=qX ir ZD Zv
def Zy:=mB eZ Zz
def t2:=pM gH t1
def Zx:=Fb gF t2
def Xp:=zy gD Xq Zy Zx
def Zt:=JD fW rfl rfl rfl
def Zr:=OD ic
def Zq:=Uh di Xp Zu Zt Zs Zr rfl
theorem zP:∀ns:ae,∃fo,bp qM B1 (some (D.lst .sc (ai ns))::List.replicate 17 none)=ok fo/\gq (T3 qM MM 8 7 6 71 [(.v 5)] (.not (.call 234 [(.v 1)])) λρ r=>∃fo,bp qM JP ρ=ok fo/\gq (TC qM 6 (.int 0) MW) r fo) (.bl true) fo:=Pz qM MM ⟨⟨Jm,A9,EM,T5,TV,TU⟩,Zq,T4,Oj,rfl⟩ Jm zo T2 T1 TX λ_ h=>h
theorem iO:ze (eM (aL (top 26)) "NoPair" && !(("NoPair" : Str)==("__debug__" : Str))) 6 "NoPair" (jW) (bD (top 26))=true:=by decide +kernel
theorem eO:Rp (top 26) ["pairs","house","line"] (List.take 1 ["pairs","house","line"]) [] BL CC px (jW)=true:=by decide +kernel
theorem mq:ze (eM (aL (top 30)) "NoPair" && !(("NoPair" : Str)==("__debug__" : Str))) 6 "NoPair" (vb) (bD (top 30))=true:=by decide +kernel
theorem iG:Rp (top 30) ["drawing","pairs","blind","told","one","other"] (List.take 1 ["drawing","pairs","blind","told","one","other"]) [(21,"pair_shares"),(56,"check_each_shared"),(59,"rising_pairs"),(62,"pair_share"),(70,"two_worths")] BL CC px (vb)=true:=by decide +kernel
abbrev iQ:Sx:=⟨aL (top 48),["_law_script","_law_drawing_here","_law_number","_law_many","_law_parts","_law_handed","_law_found","_law_kept","e","_law_due_here","_law_signs","_law_total","_law_blind","_law_sign","_law_worths","_law_chance","_law_lot","_law_seen_here"],λn=>List.lookup n [(71,"blind_worths"),(200,"_law_cell"),(201,"_law_frac"),(202,"_law_add"),(203,"_law_mul"),(207,"_law_right"),(209,"_law_due"),(212,"_law_drawing"),(213,"_law_pairs"),(215,"_law_copied"),(234,"_law_all_asked"),(237,"_law_spread"),(241,"_law_seen")],BL,CC,px⟩
theorem LG:SH ["_law_script","_law_drawing_here","_law_number","_law_many","_law_parts","_law_handed","_law_found","_law_kept","e","_law_due_here","_law_signs","_law_total","_law_blind","_law_sign","_law_worths","_law_chance","_law_lot","_law_seen_here"] ["_law_script"] (aL (top 48))=true:=by decide +kernel
theorem Kn:Xx (aL (top 48)) ["_law_script","_law_drawing_here","_law_number","_law_many","_law_parts","_law_handed","_law_found","_law_kept","e","_law_due_here","_law_signs","_law_total","_law_blind","_law_sign","_law_worths","_law_chance","_law_lot","_law_seen_here"] "ShareError" "NoPair" "e" "_law_kept" 8 7=true:=by decide +kernel
theorem Mz:dP iQ (B1) ((bD (top 48)).take 6)=true:=by decide +kernel
theorem MC:∃AA v q0 np p1 p2 p3 hpos pos te ie rp ip tp Ot N1 pc ke,(bD (top 48)).drop 6=.Try [.Assign [.Name "_law_found" AA] v q0] [.ExceptHandler (some (.Name "ShareError" np)) (some "e") [.Assign [.Name "_law_kept" p1] (.Name "e" p2) p3] hpos] [] [] pos::.If te [.Return (some ie) rp] [] ip::tp/\(bT iQ (.call 71 [(.v 5)]) v&&(!dY v&&(hZ iQ 6 (.Name "_law_found" AA)&&(bT iQ (.not (.call 234 [(.v 1)])) te&&(dP iQ JP (tp.take 7)&&(hZ iQ 6 (.Name "_law_found" pc)&&(iV "_law_found" && (bH iQ [(.int 0)] [ke]&&dP iQ MW N1))))))))=true/\F5 "_law_kept" (SU "NoPair") ie=some true/\tp.drop 7=Ot::N1/\oV (aL (top 48)) BL Ot=some (.Name "_law_found" pc,[ke]):=⟨_,_,_,_,_,_,_,_,_,_,_,_,_,_,_,_,_,_,rfl,by decide +kernel,by decide +kernel,rfl,rfl⟩
theorem all_mk{l:PySem.W.OpenLaw}{w:World}{K:au}{h:Heap}{mg:aU}{fa gB gC:Addr}{u0:Value}(X:K.In h)(G:h.Ns mainGlobals mg)(hfa:mg "law" = some (.ref fa))
  (a0:Df K "_law_frac" (top 33))
  (a1:Df K "_law_add" (top 34))
  (a2:Df K "_law_pairs" (top 38))
  (a3:Df K "_law_shares_of" (top 39))
  (a4:Df K "_law_all_asked" (top 40))
  (a5:Df K "_law_cell" (top 32))
  (a6:Df K "_law_copied" (top 45))
  (a7:Df K "_law_drawing" (top 37))
  (a8:Df K "_law_due" (top 47))
  (a9:Df K "_law_mul" (top 35))
  (a10:Df K "_law_right" (top 41))
  (a11:Df K "_law_seen" (top 46))
  (a12:Df K "_law_guess" (top 42))
  (a13:Df K "_law_mean" (top 43))
  (a14:Df K "_law_sub" (top 36))
  (a15:Df K "_law_spread" (top 44))
  (a16:Df K "check_each_shared" (top 26))
  (a17:Df K "pair_share" (top 28))
  (a18:Df K "is_whole" (top 6))
  (a19:Df K "are_houses" (top 14))
  (a20:Df K "common_divisor" (top 7))
  (a21:Df K "is_fraction" (top 9))
  (a22:Df K "is_row" (top 16))
  (a23:Df K "rows_rise" (top 17))
  (a24:Df K "common_bottom" (top 10))
  (a25:Df K "tops_over" (top 11))
  (a26:Df K "weighed_lots" (top 18))
  (a27:Df K "sums_to_one" (top 19))
  (a28:Df K "is_drawn" (top 20))
  (a29:Df K "is_lot" (top 15))
  (a30:Df K "is_drawing" (top 21))
  (a31:Df K "check_drawing" (top 22))
  (a32:Df K "fraction_of" (top 8))
  (a33:Df K "joint_share" (top 23))
  (a34:Df K "pair_shares" (top 24))
  (a35:Df K "rising_pairs" (top 27))
  (a36:Df K "two_worths" (top 29))
  (a37:Df K "blind_worths" (top 30))
  (a38:Df K "law" (top 48))
  (z:cI (λy=>PySem.W.nsIn K mainGlobals y=some none) BL)
  (q0:PySem.W.nsIn K mainGlobals "MOST_HOUSES" = some (some u0)) (r0:RelV (.int 12) u0)
  (eB:PySem.W.nsIn K mainGlobals "ShareError" = some (some (.ref gB))) (eC:PySem.W.nsIn K mainGlobals "NoPair" = some (some (.ref gC))) (xB:PySem.W.excIn K gB I0 "ValueError.__new__" = true) (xC:PySem.W.excIn K gC I0 "ValueError.__new__" = true) (mC:PySem.W.mroIn K gC (.ref gB)=some true) (nC:gC≠gB) (vC:PySem.W.kitOne K (.ref gC) (.ref gC)=some true)
  (w1:PySem.W.findIn K (.ref gC) "__getattribute__" = some (some (.builtin "BaseException.__getattribute__"))) (w2:PySem.W.findIn K (.ref gC) "__getattr__" = some none) (w3:PySem.W.findIn K (.ref gC) "__class__" = some (some (.builtin "object.__class__"))) (w4:PySem.W.mroIn K gC (.type "BaseException")=some true) (w5:PySem.W.mroIn K gC (.type "object")=some true) :
  ∃fd:FuncData,(∀(s:Shared) (v:Value),BindsTo s fd ⟨[v],[]⟩ [("_law_script",v)])/\∀base:Heap,K.In base->base.Ns mainGlobals mg->f_ l.prog w K mg base zc 40 fa fd ["_law_script"] (zr K 1 rF):=by
 obtain⟨f,fd,Fu,a⟩:=a38;have e:=hfa.symm.trans (abg X G a);cases e;obtain⟨oc,od,kV,dc,pm,an,cd,ct,sl,rfl,_,_⟩:=id Fu.ex;have Y:=cI.nn X G z;have x0:∃u,mg "MOST_HOUSES" = some u/\Ay K (GK.i 12) u:=⟨_,abg X G q0,r0⟩
 refine⟨PySem.W.fnOf "law" "law" (fi (top 48)) (bD (top 48)) (aL (top 48)) .none kV dc pm an cd ct,λs v=>.of_eq rfl,λbase KB GB=>?_⟩;have N:=@en7 l.prog w K h base mg BL CC px PT X G pr Y ⟨x0,fA⟩;have xc:XC K gC:=⟨w1,w2,w3,w4,w5,by
  unfold PySem.W.mroIn at w5;cases q:PySem.W.clsIn K gC with
  |none=>rw[q]at w5;cases w5
  |some _=>rfl⟩
 have O:pd "NoPair" gC mg base:=x6 KB GB eC xC;have OB:pd "ShareError" gB mg base:=x6 KB GB eB xB;have OS:lU gC gB base:=zI KB xC mC nC;have E0:=N 1 j6 a0 ["_law_top","_law_bottom","_law_one","_law_other"] 2 [] (k8) fA;have E1:=N 2 lY a1 ["_law_one","_law_other"] 2 [(201,"_law_frac")] (yY 201) ⟨E0.u,fA⟩;have E2:=N 3 jf a2 ["_law_drawing_here","_law_found","_law_house","_law_row","_law_other","_law_share","_law_chance","_law_lot"] 1 [(202,"_law_add")] (kZ) ⟨E1.u,fA⟩;have E3:=N 4 eW a3 ["_law_drawing_here","_law_pairs_here"] 1 [(213,"_law_pairs")] (ju) ⟨E2.u,fA⟩;have E4:=N 5 eX a4 ["_law_drawing_here"] 1 [(233,"_law_shares_of")] (Hb) ⟨E3.u,fA⟩;have E5:=N 6 j7 a5 ["_law_script","_law_k","_law_cell_here","_law_number"] 2 [] (eV) fA;have E6:=N 7 iq a6 ["_law_drawing_here"] 1 [] (jv) fA;have E7:=N 8 gE a7 ["_law_script","_law_at","_law_most","_law_number","_law_many","_law_lots","_law_k","_law_other","_law_lot","_law_whole"] 3 [(200,"_law_cell"),(201,"_law_frac")] (jw) ⟨E5.u,E0.u,fA⟩;have E8:=N 9 lX a8 ["_law_pairs_here","_law_i","_law_j","_law_found","_law_one","_law_two","_law_worths"] 1 [] (Au) fA;have E9:=N 10 lW a9 ["_law_one","_law_other"] 2 [(201,"_law_frac")] (ng 201) ⟨E0.u,fA⟩;have E10:=N 11 je a10 ["_law_drawing_here"] 1 [(201,"_law_frac"),(233,"_law_shares_of")] (sD) ⟨E0.u,E3.u,fA⟩;have E11:=N 12 j4 a11 ["_law_number","_law_lot","_law_worths","_law_seen_here","_law_code","_law_k"] 3 [] (G_) fA;have Y5:=N 13 jg a12 ["_law_weights","_law_lot","_law_worths","_law_found","_law_house"] 3 [(202,"_law_add"),(203,"_law_mul")] (k7) ⟨E1.u,E9.u,fA⟩;have E13:=N 14 j5 a13 ["_law_drawing_here","_law_weights","_law_worths","_law_found","_law_chance","_law_lot"] 3 [(202,"_law_add"),(203,"_law_mul"),(231,"_law_guess")] (nh) ⟨E1.u,E9.u,Y5.u,fA⟩;have E14:=N 15 lV a14 ["_law_one","_law_other"] 2 [(201,"_law_frac")] (sE 201) ⟨E0.u,fA⟩;have E15:=N 16 il a15 ["_law_drawing_here","_law_weights","_law_worths","_law_mean_here","_law_found","_law_chance","_law_lot","_law_gap"] 3 [(202,"_law_add"),(203,"_law_mul"),(222,"_law_sub"),(231,"_law_guess"),(232,"_law_mean")] (jt) ⟨E1.u,E9.u,E14.u,Y5.u,E13.u,fA⟩;have Y4:=N 17 b7 a16 ["pairs","house","line"] 1 [] (jW) fA eO;have X16:=Yy (P:=l.prog) (w:=w) X G O 6 17 b7 MM S8 a16 eO iO (pr _ _ _) Y ⟨x0,fA⟩ fA fA (Ww b7 MM rfl);have Y3:=N 18 ig a17 ["pairs","two"] 2 [] (kY) fA;have Xf:=N 19 j8 a18 ["thing"] 1 [] (h_) fA;have Y2:=N 20 iu a19 ["thing","many"] 2 [(0,"is_whole")] (dw) ⟨Xf.u,fA⟩;have Xe:=N 21 eF a20 ["one","other","rest"] 2 [] (du) fA;have E21:=N 22 gG a21 ["thing"] 1 [(0,"is_whole"),(1,"common_divisor")] (b8) ⟨Xf.u,Xe.u,fA⟩;have E22:=N 23 pj a22 ["thing","many"] 2 [(3,"is_fraction"),(43,"are_houses")] (k9) ⟨E21.u,Y2.u,fA⟩;have E23:=N 24 jd a23 ["rows","ahead","behind"] 1 [] (gp) fA;have E24:=N 25 eY a24 ["some","bottom","part"] 1 [(1,"common_divisor")] (cR) ⟨Xe.u,fA⟩;have E25:=N 26 jc a25 ["some","bottom"] 2 [] (gn) fA;have Y1:=N 27 fV a26 ["rows","chances","lots","bottom"] 1 [(9,"common_bottom"),(10,"tops_over")] (jr) ⟨E24.u,E25.u,fA⟩;have E27:=N 28 gA a27 ["rows","weighed"] 1 [(14,"weighed_lots")] (eI) ⟨Y1.u,fA⟩;have E28:=N 29 j9 a28 ["thing","many","rows","row"] 1 [(0,"is_whole"),(12,"is_row"),(15,"sums_to_one"),(44,"rows_rise")] (ia) ⟨Xf.u,E22.u,E27.u,E23.u,fA⟩;have E29:=N 30 pk a29 ["thing","many"] 2 [(43,"are_houses")] (gS) ⟨Y2.u,fA⟩;have E30:=N 31 ir a30 ["thing"] 1 [(11,"is_lot"),(45,"is_drawn")] (fj) ⟨E29.u,E28.u,fA⟩;have E31:=N 32 eZ a31 ["thing"] 1 [(16,"is_drawing")] (dI) ⟨E30.u,fA⟩;have E32:=N 33 gH a32 ["top","bottom","divisor"] 2 [(1,"common_divisor")] (cS) ⟨Xe.u,fA⟩;have E33:=N 34 gF a33 ["weighed","one","other","having"] 3 [(2,"fraction_of")] (nj) ⟨E32.u,fA⟩;have Y0:=N 35 gD a34 ["drawing","weighed","pairs","one"] 1 [(14,"weighed_lots"),(17,"check_drawing"),(19,"joint_share")] (js) ⟨Y1.u,E31.u,E33.u,fA⟩;have YZ:=N 36 fW a35 ["houses","pairs","place","one"] 1 [] (sC) fA;have YY:=N 37 ic a36 ["many","two","one","other","worths"] 4 [] (yX) fA;have E37:=N 38 di a37 ["drawing","pairs","blind","told","one","other"] 1 [(21,"pair_shares"),(56,"check_each_shared"),(59,"rising_pairs"),(62,"pair_share"),(70,"two_worths")] (vb) ⟨Y0.u,Y4.u,YZ.u,Y3.u,YY.u,fA⟩ iG;have X37:=Yy (P:=l.prog) (w:=w) X G O 6 38 di MM S7 a37 iG mq (pr _ _ _) Y ⟨x0,fA⟩ ⟨Y0.u,Y4.u,YZ.u,Y3.u,YY.u,fA⟩ ⟨vo,λ_=>X16.u,vo,vo,vo,fA⟩ (Wv di MM Xp λ_ h=>h);obtain⟨_,_,_,_,_,_,_,_,_,_,_,_,_,_,_,_,_,_,hT⟩:=MC;exact enM OB OS xc (Y.mem _ (by decide)) (abg X G eC) vC 8 7 6 71 6 7 39 qM MM rF Fu LG Kn hT Mz (pr _ _ _) Y ⟨x0,fA⟩ ⟨E37.u,E5.u,E0.u,E1.u,E9.u,E10.u,E8.u,E7.u,E2.u,E6.u,E4.u,E15.u,E11.u,fA⟩ ⟨λ_=>X37.u,vo,vo,vo,vo,vo,vo,vo,vo,vo,vo,vo,vo,fA⟩ (Cp λns _=>zP ns)
theorem walk{l:PySem.W.OpenLaw}{q:aH}{loose:aq}{XP:(aU)->Heap->Prop}{YP:World->Heap->Prop}{d:DefRec}{K:Params->au}(hn:l.most=some 63)(Ig:d.params.defaults=[])
  (hY:∀(w:World) (h:Heap),YP w h->(K w.params).In h)
  (F:∀(w:World) (mg:aU) (fa:Addr) (h:Heap),(K w.params).In h->h.Ns mainGlobals mg->mg d.name=some (.ref fa) ->
   ∃fd:FuncData,(∀(s:Shared) (u:Value),BindsTo s fd ⟨[u],[]⟩ [("_law_script",u)])/\∀base:Heap,(K w.params).In base->base.Ns mainGlobals mg->f_ l.prog w (K w.params) mg base zc 40 fa fd ["_law_script"] (zr (K w.params) 1 rF)) :
  PySem.W.WalkO q loose XP YP l.row.toRowW d [] (λf vs=>PySem.call f vs) :=
 L2.Et (n:=63) (k:=40) (x:="_law_script") (CX:=λ_=>zc) (sp:=λw=>zr (K w.params) 1 rF) hn (by decide) Ig ⟨rfl,by decide,by decide⟩ hY F (λw H a ns hl hO hS=>FW (K w.params) H a ns rF (FT hl) hO hS) λ_ _ _ _ _ z=>z
end Asm
end
open PySem PySem.W PyProof.Rows
set_option maxRecDepth 100000 in
set_option maxHeartbeats 0 in
theorem PySem.Challenge.cw_sharesample_k27_blind_worths_holds : PySem.Challenge.rw_sharesample_k27_blind_worths.Holds := by
 w_on;o_law;k_head;(case hw=>w_witness2)
 k_fill
 refine Asm.walk (l:=PySem.Challenge.rw_sharesample_k27_blind_worths) rfl rfl (fun w h Y=>PySem.W.kIn_of Y) ?F
 case F =>
  intro w mg fa h KX G hmg
  refine' Asm.all_mk KX G hmg ?a0 ?a1 ?a2 ?a3 ?a4 ?a5 ?a6 ?a7 ?a8 ?a9 ?a10 ?a11 ?a12 ?a13 ?a14 ?a15 ?a16 ?a17 ?a18 ?a19 ?a20 ?a21 ?a22 ?a23 ?a24 ?a25 ?a26 ?a27 ?a28 ?a29 ?a30 ?a31 ?a32 ?a33 ?a34 ?a35 ?a36 ?a37 ?a38 ?zz ?q0 ?r0 ?eB ?eC ?xB ?xC ?mC ?nC ?vC ?w1 ?w2 ?w3 ?w4 ?w5
  case a0 | a1 | a2 | a3 | a4 | a5 | a6 | a7 | a8 | a9 | a10 | a11 | a12 | a13 | a14 | a15 | a16 | a17 | a18 | a19 | a20 | a21 | a22 | a23 | a24 | a25 | a26 | a27 | a28 | a29 | a30 | a31 | a32 | a33 | a34 | a35 | a36 | a37 | a38 =>
   refine' DI.dmk ?x ?y ?z ?w
   case x | y | z | w=>k_is
  (case zz=>refine' ⟨?_,?_,?_,?_,?_,?_,?_,?_,?_,?_,?_,?_,?_,?_,trivial⟩ <;> show PySem.W.nsIn _ _ _ = some none <;> k_is)
  (case q0=>k_is);(case r0=>exact ⟨_,rfl⟩)
  (case eB=>k_is)
  (case eC=>k_is)
  (case xB=>k_exc)
  (case xC=>k_exc)
  (case mC=>k_is)
  (case nC=>decide)
  (case vC=>kit_is)
  (case w1=>k_is)
  (case w2=>k_is)
  (case w3=>k_is)
  (case w4=>k_is)
  (case w5=>k_is)
