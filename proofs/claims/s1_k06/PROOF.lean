import PyProof.Rows.All
import Wide.All
import OpenK.AllK
import Wide.FinOn
import Lean
import PyProof.EqAt
import PyProof.EqKinds
import PyProof.TupleCall
import PyProof.NeKinds
import KE.BitLaws
import PyProof.SumWalkG
import PyProof.ConsumeWalk
import PyProof.WalksMore
import KE.KSortedM
import PyProof.Rows.SetFrom
import PyProof.CompUse
import PyProof.ZipIter
import PyProof.SliceList
import PyProof.SliceMore
import PyProof.ListRange
import KE.KSortTup
import PyProof.DictRoadsH
import PyProof.DictKinds
import PyProof.DictIter
import PyProof.Rows.DictUnroll
import KE.KDictSum
import KE.KRevSl
import PyProof.ReprRoads
import PyProof.CallFns
import PyProof.NsDelKeeps
import PyProof.ExcBaseAll.ValueError
import PyProof.ExcAttrAll.ValueError
import PyProof.FitsInt
import PySem.Challenge.RW_sharesample_k06_what_is_a_drawing
set_option bootstrap.genMatcherCode false
set_option genSizeOf false
set_option genSizeOfSpec false
set_option Elab.async false
set_option linter.all false
set_option maxRecDepth 100000
local macro_rules | `(tactic| left) => `(tactic| first | assumption | exact Nat.zero_le _ | exact Int.natCast_nonneg _ | exact Int.ofNat_lt.mpr (by assumption) | exact Nat.le_of_lt (by assumption) | exact Nat.le_trans (by assumption) (by assumption) | exact Nat.lt_of_lt_of_le (by assumption) (by assumption) | lia | omega)
noncomputable section
abbrev aaa:=@PySem.wpAny_bind
abbrev aab:=@of_decide_eq_true
abbrev aac:=@Bool.false_ne_true
abbrev aad:=@PySem.wpAny_pure
abbrev aae:=@PySem.Heap.get?_push_of_some
abbrev aaf:=@PySem.Heap.lt_size
abbrev aag:=@List.mem_cons_of_mem
abbrev aah:=@List.mem_cons_self
abbrev aai:=@Nat.le_refl
abbrev aaj:=@Nat.lt_of_lt_of_le
abbrev aak:=@List.getElem?_eq_getElem
abbrev aal:=@Nat.ne_of_lt
abbrev aam:=@List.mem_append_right
abbrev aan:=@PySem.Heap.get?_push_size
abbrev aao:=@Option.some.inj
abbrev aap:=@List.mem_of_getElem?
abbrev aaq:=@decide_eq_true
abbrev aar:=@Nat.lt_of_le_of_lt
abbrev aas:=@Nat.le_trans
abbrev aat:=@List.mem_append_left
abbrev aau:=@PySem.wpAny_mono
abbrev aav:=@Nat.ne_of_gt
abbrev aaw:=@Nat.pow_le_pow_right
abbrev aax:=@Nat.lt_irrefl
abbrev aay:=@List.map_congr_left
abbrev aaA:=@PyProof.Rows.callWith_type1
abbrev aaB:=@PySem.wpAny_holding
abbrev aaC:=@Nat.lt_succ_of_lt
abbrev aaD:=@decide_eq_false
abbrev aaE:=@PySem.Heap.get?_update_other
abbrev aaF:=@PySem.wpAny_newObj_type
abbrev aaG:=@List.mergeSort_perm
abbrev aaI:=@PySem.wpAny_call_entry
abbrev aaL:=@Nat.zero_le
abbrev aaM:=@PySem.wpAny_truthy_bool
abbrev aaN:=@congrArg
abbrev aaO:=@PySem.F.slot_dict_keyiterator_next
abbrev aaP:=@List.length_filter_le
abbrev aaQ:=@if_pos
abbrev aaR:=@PySem.W.kia_one
abbrev aaV:=@PySem.wpAny_loadPart_at
abbrev aaW:=@PySem.wpAny_typeNameOfWhole_keyiter
abbrev aaX:=@PySem.wpAny_callSpecial?_slot
abbrev aaY:=@PySem.mem_of_lookup
abbrev aa0:=@List.getElem_mem
abbrev aa1:=@Nat.lt_succ_self
abbrev aa2:=@PySem.wpAny_Call_Name_kw
abbrev aa3:=@PySem.wpAny_passesOwn
abbrev aa4:=@PySem.Heap.get?_update_self
abbrev aa5:=@Array.getElem?_eq_getElem
abbrev aa6:=@PySem.sizeLine_eq
abbrev aa7:=@PySem.wpAny_field
abbrev aa8:=@beq_self_eq_true
abbrev aa9:=@PySem.wpAny_typeNameOf_keyiter
abbrev aa_:=@Int.mul_fdiv_cancel_left
abbrev aba:=@List.mem_map_of_mem
abbrev abb:=@PySem.W.mg_of
abbrev abc:=@PySem.codeAny_builtin
abbrev abd:=@List.length_map
abbrev abe:=@PySem.F.slot_zip_next
abbrev abf:=@PySem.Calls.Name_function_global
abbrev abg:=@List.cons.inj
abbrev abh:=@Nat.le_succ
abbrev abi:=@PySem.wpAny_execs_nil
abbrev abj:=@PySem.SeqAt.EqAt.same
abbrev abk:=@PySem.Calls.call_function_entry
abbrev abl:=@List.exists_mem_of_ne_nil
abbrev abm:=@PySem.SeqAt.EqAt.int_str
abbrev abn:=@PySem.SeqAt.EqAt.str_int
abbrev abo:=@PySem.SeqAt.EqAt.int_int
abbrev abp:=@PySem.AutoSeq1.sub_tuple_tuple
abbrev abq:=@PySem.F.args_tuple_add_2
abbrev abr:=@PySem.wpAny_getItem_list_slice
abbrev abt:=@Nat.lt_trans
abbrev abu:=@Ne.symm
abbrev abv:=@PySem.call_meets
abbrev abw:=@List.nodup_nil
abbrev abx:=@PySem.F.entry_tuple_add
abbrev aby:=@List.pairwise_mergeSort
abbrev abz:=@PySem.richCompare_meets_room
abbrev abA:=@PySem.F.slot_tuple_add
abbrev abB:=@PyProof.Rows.subscriptTail_builtinR
abbrev abC:=@PySem.Calls.callWith_builtin
abbrev abD:=@PySem.wpAny_nextOf_list_item
abbrev abE:=@Int.fmod_nonneg_of_pos
abbrev abF:=@PySem.wpAny_newList
abbrev abG:=@List.getElem_inj
abbrev abH:=@PySem.F.slot_tuple_lt
abbrev abI:=@Eq.symm
abbrev abJ:=@PySem.F.typeOf_object_class
abbrev abK:=@PySem.codeAny_mono
abbrev abL:=@PySem.SeqAt.EqAt.none_bool
abbrev abM:=@PySem.SeqAt.EqAt.bool_none
abbrev abN:=@PySem.SeqAt.EqAt.bool_bool
abbrev abO:=@PySem.Calls.evalArgs_plain
abbrev abP:=@PySem.codeAny_call_builtin
abbrev abQ:=@PySem.wpAny_updateSeq
abbrev abR:=@Int.mul_ne_zero
abbrev abS:=@Nat.div_le_self
abbrev abT:=@PySem.SeqAt.EqAt.none_int
abbrev abU:=@PySem.SeqAt.EqAt.none_str
abbrev abV:=@PySem.SeqAt.EqAt.bool_int
abbrev abW:=@PySem.SeqAt.EqAt.bool_str
abbrev abX:=@PySem.SeqAt.EqAt.int_none
abbrev abY:=@PySem.SeqAt.EqAt.int_bool
abbrev abZ:=@PySem.SeqAt.EqAt.str_none
abbrev ab0:=@PySem.SeqAt.EqAt.str_bool
abbrev ab1:=@Nat.add_le_add_left
abbrev ab3:=@Nat.mul_le_mul_left
abbrev ab4:=@PySem.Calls.spliced_cons
abbrev ab5:=@PySem.Heap.IsSliceOf.new
abbrev ab6:=@PySem.SeqAt.EqAt.str_str
abbrev ab7:=@PySem.Code.quiet_builtin
abbrev ab8:=@PySem.tupleKind_room_in1
abbrev ab9:=@Int.fmod_lt_of_pos
abbrev ab_:=@PySem.wpAny_standAt
abbrev aca:=@PySem.wpAny_attempt
abbrev acb:=@PySem.Calls.spliced_nil
abbrev acd:=@Nat.le_succ_of_le
abbrev ace:=@PySem.wpAny_dictEntries
abbrev acf:=@if_neg
abbrev acg:=@List.ext_getElem
abbrev ach:=@PySem.W.kat_cons
abbrev aci:=@PySem.W.Looks.ld
abbrev acj:=@PySem.W.kat_yes
abbrev ack:=@PySem.W.kat_one
abbrev aF:=List (List Int)
abbrev ae:=List Int
abbrev aN:=List Nat
abbrev aj:=List PySem.Str
abbrev ai:=List PySem.Value
abbrev av:=List PySem.Expr
abbrev bc:=List PySem.Addr
abbrev aS:=List PySem.Stmt
abbrev bt:=List Rat
abbrev aR:=Array PySem.Value
abbrev ao:=PySem.W.Frag
abbrev aA:=PySem.Value->PySem.Shared->Prop
abbrev ak:=List (PySem.Addr×PySem.Obj)
abbrev ah:=PySem.Addr->Prop
abbrev aV:=PySem.Str->Option PySem.Value
abbrev aE:=PySem.Program
abbrev aG:=PySem.Around
namespace L2
open PySem PySem.Spec PyProof.Rows
noncomputable abbrev Key:=Sum Int Str
def G8:Key->Value->Bool
 |.inl k,v=>Value.isInt k v
 |.inr x,v=>Value.isStrOf x v
def T_(w:World):Key->Int
 |.inl k=>hashInt k
 |.inr x=>hashStr w x
theorem cA:∀{k:Key} {v:Value},G8 k v=true->(∃i t,k=Sum.inl i/\v=Value.int i t)\/(∃x t,k=Sum.inr x/\v=Value.str x t)
 |.inl i,v,h=>by
  obtain⟨t,e⟩:=Value.isInt_shape (k:=i) (v:=v) h;exact .inl ⟨i,t,rfl,e⟩
 |.inr x,v,h=>by
  obtain⟨t,e⟩:=Value.isStrOf_shape (x:=x) (v:=v) h;exact .inr ⟨x,t,rfl,e⟩
theorem JQ(a b:Int):decide ((Sum.inl a:Key)=Sum.inl b)=(a==b):=by
 by_cases e:a=b
 ·subst e;simp
 ·have h:¬ (Sum.inl a:Key)=Sum.inl b:=λq=>e (Sum.inl.inj q);rw[decide_eq_false h];exact(beq_eq_false_iff_ne.mpr e).symm
theorem JN(a b:Str):decide ((Sum.inr a:Key)=Sum.inr b)=decide (a=b):=by
 by_cases e:a=b
 ·subst e;simp
 ·have h:¬ (Sum.inr a:Key)=Sum.inr b:=λq=>e (Sum.inr.inj q);rw[decide_eq_false h,decide_eq_false e]
theorem JP(a:Int)(b:Str):decide ((Sum.inl a:Key)=Sum.inr b)=false:=aaD (λq=>nomatch q)
theorem JO(a:Str)(b:Int):decide ((Sum.inr a:Key)=Sum.inl b)=false:=aaD (λq=>nomatch q)
def xx(prog:aE)(w:World):PySem.KeyKind prog w Key where
 is:=G8
 hash:=T_ w
 inj:=λv a b ha hb=>by
  rcases cA ha with ⟨i,t,rfl,rfl⟩|⟨x,t,rfl,rfl⟩
  ·rcases cA hb with ⟨j,u,rfl,e⟩|⟨y,u,rfl,e⟩
   ·injection e with e1 _;rw[e1]
   ·exact nomatch e
  ·rcases cA hb with ⟨j,u,rfl,e⟩|⟨y,u,rfl,e⟩
   ·exact nomatch e
   ·injection e with e1 _;rw[e1]
 byValue:=λk v h=>by
  rcases cA h with ⟨i,t,rfl,rfl⟩|⟨x,t,rfl,rfl⟩<;>rfl
 pyHash:=λhv h=>by
  rcases cA hv with ⟨i,t,rfl,rfl⟩|⟨x,t,rfl,rfl⟩
  ·exact wpAny_pyHash_int h
  ·exact wpAny_pyHash_str h
 eqBool:=λhu hv h=>by
  rcases cA hu with ⟨i,t,rfl,rfl⟩|⟨x,t,rfl,rfl⟩
  ·rcases cA hv with ⟨j,u,rfl,rfl⟩|⟨y,u,rfl,rfl⟩
   ·rw[JQ]at h;exact wpAny_eqBool_int h
   ·rw[JP]at h;exact abm i t y u _ _ _ _ h
  ·rcases cA hv with ⟨j,u,rfl,rfl⟩|⟨y,u,rfl,rfl⟩
   ·rw[JO]at h;exact abn x t j u _ _ _ _ h
   ·rw[JN]at h;exact wpAny_eqBool_str h
 «strs»:=λk x t v h=>by
  rcases cA h with ⟨i,u,rfl,e⟩|⟨y,u,rfl,e⟩
  ·exact nomatch e
  ·injection e with e1 _
   subst e1;cases v<;>rfl
end L2
namespace L2
open PySem PySem.Spec PyProof.Rows
inductive V where
 |bu|bl (b:Bool)|int (i:Int)|str (x:Str)|R8 (b:Array UInt8)|Mn (b:UInt64)|ref (a:Addr)|ty (n:String)
 deriving DecidableEq
abbrev af:=List V
noncomputable def RelV:V->Value->Prop
 |.bu,u=>u=Value.none
 |.bl b,u=>u=Value.bool b
 |.int i,u=>∃t,u=Value.int i t
 |.str x,u=>∃t,u=Value.str x t
 |.R8 b,u=>∃t,u=Value.bytes b t
 |.Mn b,u=>∃t,u=Value.float b t
 |.ref a,u=>u=Value.ref a
 |.ty n,u=>u=Value.type n
abbrev Vals:af->ai->Prop:=Paired RelV
theorem Vals.length{xs:af}{us:ai}(r:Vals xs us):xs.length=us.length:=Paired.length r
theorem Vals.get:∀{xs:af} {us:ai} {i:Nat} {x:V},Vals xs us->xs[i]?=some x->∃u,us[i]?=some u/\RelV x u
 |_,_,_,_,.nil,e=>by simp at e
 |_,_,0,_,.cons r _,e=>by simp at e;subst e;exact⟨_,rfl,r⟩
 |_,_,i+1,x,.cons _ t,e=>by
  obtain⟨u,h1,h2⟩:=Vals.get (i:=i) (x:=x) t (by simpa using e);exact⟨u,by simpa using h1,h2⟩
theorem Vals.set{x:V}{u:Value}(r:RelV x u):∀{xs:af} {us:ai} (i:Nat),Vals xs us->Vals (xs.set i x) (us.set i u)
 |_,_,_,.nil=>.nil
 |_,_,0,.cons _ t=>.cons r t
 |_,_,i+1,.cons q t=>.cons q (Vals.set r i t)
theorem Vals.append:∀{xs ys:af} {us ws:ai},Vals xs us->Vals ys ws->Vals (xs++ys) (us++ws)
 |_,_,_,_,.nil,s=>s
 |_,_,_,_,.cons r t,s=>.cons r (Vals.append t s)
theorem Vals.take:∀{xs:af} {us:ai} (n:Nat),Vals xs us->Vals (xs.take n) (us.take n)
 |_,_,0,_=>.nil
 |_,_,_+1,.nil=>.nil
 |_,_,n+1,.cons r t=>.cons r (Vals.take n t)
theorem Vals.drop:∀{xs:af} {us:ai} (n:Nat),Vals xs us->Vals (xs.drop n) (us.drop n)
 |_,_,0,r=>r
 |_,_,_+1,.nil=>.nil
 |_,_,n+1,.cons _ t=>Vals.drop n t
def oV:Option V->Option Value->Prop
 |some v,some u=>RelV v u
 |none,none=>True
 |_,_=>False
def KV{κ:Type}:List (κ×V)->List (κ×Value)->Prop:=Paired λ(p:κ×V) (q:κ×Value)=>p.1=q.1/\RelV p.2 q.2
def kV:Key->V
 |.inl i=>.int i
 |.inr x=>.str x
inductive HO where
 |lst (xs:af)
 |tup (xs:af)
 |dK (me:List (Key×V))|dT (me:List (List Key×V))
 |set (S:Int->Bool) (n:Nat)
 |ins (C dx:Addr) (fs:List (Str×V))
 |own (x:Addr)
 |xd (fs:List (Str×V))
 |met (f x:Addr)
 |jZ (lo hi:Int)
 |gF (o:Obj) (u:HO)
 |Eb (ps:aR)
 |ext (φ:Heap->Prop)
noncomputable abbrev Hp:=Addr->Option HO
noncomputable def upd(H:Hp)(a:Addr)(o:HO):Hp:=λb=>if b=a then some o else H b
variable {H:Hp}
theorem aZ{a:Addr}{o:HO}:upd H a o a=some o:=by unfold upd;rw[if_pos rfl]
theorem ba{a b:Addr}{o:HO}(h:b≠a):upd H a o b=H b:=by unfold upd;rw[if_neg h]
theorem cj{a b:Addr}{o:HO}(h:H a=some o)(h':H b=none):a≠b:=by
 intro e;subst e;rw[h]at h';cases h'
section
variable (P:aE)(w:World)
def cK(H:Hp)(h:Heap)(a:Addr):HO->Prop
 |.lst xs=>xs.length<=sizeLine/\∃(aI:ai) (n:Nat),Vals xs aI/\h.get? a=some { cls:=.type "list",data:=.seq aI.toArray n }
 |.tup xs=>xs.length<=sizeLine/\∃aI:ai,Vals xs aI/\IsTup h a aI.toArray
 |.dK me=>me.length<=sizeLine/\(a==sysModules)=false/\∃vs,KV me vs/\h.DictOf (xx P w) a vs
 |.dT me=>me.length<=sizeLine/\(a==sysModules)=false/\∃xs:List (List Key×Addr×Value),
   Paired (λ(p:List Key×V) (q:List Key×Addr×Value)=>p.1=q.1/\H q.2.1=some (.tup (p.1.map kV))/\RelV p.2 q.2.2) me xs /\
   ∃o es ep,h.get? a=some o/\o.ExactDict/\o.data=.dict es ep/\es.toList=xs.map (entryOfKey (tupleKind (xx P w)))/\(xs.map (·.1)).Nodup
 |.set S n=>h.SetOf (intKind P w) a S n
 |.ins C dx fs=>H dx=some (.own a)/\fs.length<=1000/\dx≠a/\h.get? a=some (PySem.W.instObj C dx) /\
   ∃mA,h.Ns1 dx mA/\(∀f,oV (fs.lookup f) (mA f))/\PySem.Within mA (fs.map (·.1))
 |.own _=>∃o,h.get? a=some o
 |.xd fs=>∃mA,h.Ns1 a mA/\∀f,oV (fs.lookup f) (mA f)
 |.jZ lo hi=>∃t u v,h.get? a=some { cls:=.type "range",data:=.fields #[.int lo t,.int hi u,.int 1 v] }
 |.gF o u=>h.get? a=some o/\cK H h a u
 |.Eb ps=>h.get? a=some { cls:=.none,data:=.fields ps }
 |.met f x=>h.get? a=some (PySem.W.methodObj (.ref f) (.ref x))
 |.ext φ=>φ h/\(∃o,h.get? a=some o)/\∀h1 h2:Heap,φ h1->(∀o,h1.get? a=some o->h2.get? a=some o)->φ h2
def jm(H:Hp)(h:Heap):Prop:=∀a o,H a=some o->cK P w H h a o
end
section
variable {P:aE}{w:World}{H H':Hp}{h h':Heap}{a:Addr}{o:HO}
theorem cK.lt(x:cK P w H h a o):a<h.objs.size:=by
 cases o with
 |lst xs=>obtain⟨_,_,_,_,e⟩:=x;exact aaf e
 |tup xs=>obtain⟨_,_,_,p⟩:=x;exact p.lt
 |dK me=>obtain⟨_,_,_,_,o,_,_,e,_⟩:=x;exact aaf e
 |dT me=>obtain⟨_,_,_,_,o,_,_,e,_⟩:=x;exact aaf e
 |set S n=>obtain⟨o,_,_,_,e,_⟩:=x;exact aaf e
 |ins C dx fs=>obtain⟨_,_,_,e,_⟩:=x;exact aaf e
 |own y=>obtain⟨_,e⟩:=x;exact aaf e
 |xd fs=>obtain⟨_,⟨_,_,_,e,_⟩,_⟩:=x;exact aaf e
 |jZ lo hi=>obtain⟨_,_,_,e⟩:=x;exact aaf e
 |gF ob u=>obtain⟨e,_⟩:=x;exact aaf e
 |Eb ps=>exact aaf (show h.get? a=some _ from x)
 |met f y=>exact aaf (show h.get? a=some _ from x)
 |ext φ=>obtain⟨_,⟨_,e⟩,_⟩:=x;exact aaf e
theorem Paired.N8{α β:Type}{F G:α->β->Prop}:∀{l₁:List α} {l₂:List β},Paired F l₁ l₂->(∀a b,F a b->G a b)->Paired G l₁ l₂
 |_,_,.nil,_=>.nil
 |_,_,.cons r t,f=>.cons (f _ _ r) (Paired.N8 t f)
theorem cK.iM(x:cK P w H h a o)(k:∀b u,(b=a\/H b=some (.own a))->h.get? b=some u->h'.get? b=some u)
  (ho:∀b,H b=some (.own a)->H' b=some (.own a)) (ht:∀b xs,H b=some (.tup xs)->H' b=some (.tup xs)):cK P w H' h' a o:=by
 induction o with
 |lst xs=>obtain⟨z,aI,n,r,e⟩:=x;exact⟨z,aI,n,r,k _ _ (.inl rfl) e⟩
 |tup xs=>obtain⟨z,aI,r,ob,e,c⟩:=x;exact⟨z,aI,r,ob,k _ _ (.inl rfl) e,c⟩
 |dK me=>obtain⟨z,y,vs,r,ob,es,ep,e,c⟩:=x;exact⟨z,y,vs,r,ob,es,ep,k _ _ (.inl rfl) e,c⟩
 |dT me =>
  obtain⟨z,y,xs,r,ob,es,ep,e,c⟩:=x;exact⟨z,y,xs,Paired.N8 r λp q z=>⟨z.1,ht _ _ z.2.1,z.2.2⟩,ob,es,ep,k _ _ (.inl rfl) e,c⟩
 |set S n=>obtain⟨ob,es,ep,t,e,c⟩:=x;exact⟨ob,es,ep,t,k _ _ (.inl rfl) e,c⟩
 |ins C dx fs =>
  obtain⟨d,z,ne,e,mA,⟨od,es,ep,e2,c⟩,r⟩:=x;exact⟨ho _ d,z,ne,k _ _ (.inl rfl) e,mA,⟨od,es,ep,k _ _ (.inr d) e2,c⟩,r⟩
 |own y=>obtain⟨ob,e⟩:=x;exact⟨ob,k _ _ (.inl rfl) e⟩
 |xd fs=>obtain⟨mA,⟨od,es,ep,e,c⟩,r⟩:=x;exact⟨mA,⟨od,es,ep,k _ _ (.inl rfl) e,c⟩,r⟩
 |jZ lo hi=>obtain⟨t,u,v,e⟩:=x;exact⟨t,u,v,k _ _ (.inl rfl) e⟩
 |gF ob u ih=>obtain⟨e,q⟩:=x;exact⟨k _ _ (.inl rfl) e,ih q⟩
 |Eb ps =>
  have e:h.get? a=some { cls:=.none,data:=.fields ps }:=x;show h'.get? a=some { cls:=.none,data:=.fields ps };exact k a _ (.inl rfl) e
 |met f y =>
  have e:h.get? a=some (PySem.W.methodObj (.ref f) (.ref y)):=x;show h'.get? a=some (PySem.W.methodObj (.ref f) (.ref y));exact k a _ (.inl rfl) e
 |ext φ=>obtain⟨p,⟨o,e⟩,st⟩:=x;exact⟨st _ _ p λo q=>k _ _ (.inl rfl) q,⟨o,k _ _ (.inl rfl) e⟩,st⟩
theorem jm.lt(x:jm P w H h)(e:H a=some o):a<h.objs.size:=(x a o e).lt
theorem jm.fresh(x:jm P w H h)(e:h.objs.size<=a):H a=none:=by
 cases q:H a with
 |none=>rfl
 |some u=>exact absurd (aaj (x.lt q) e) (aax _)
theorem jm.kept(x:jm P w H h)(k:∀b u,h.get? b=some u->h'.get? b=some u):jm P w H h':=λa o e =>
 (x a o e).iM (λb u _ q=>k b u q) (λ_ q=>q) λ_ _ q=>q
theorem jm.laid(x:jm P w H h)(k:∀b u,h.get? b=some u->h'.get? b=some u)(hp:h.objs.size<=a)(new:cK P w (upd H a o) h' a o):jm P w (upd H a o) h':=λb u e=>by
 have hn:=x.fresh hp;by_cases hb:b=a
 ·subst hb;rw[aZ]at e;cases e;exact new
 ·rw[ba hb]at e;exact(x b u e).iM (λc v _ q=>k c v q) (λc q=>by rw[ba (cj q hn)];exact q) λc xs q=>by rw[ba (cj q hn)];exact q
end
def Rd(H:Hp)(a:Addr)(u:HO):Prop:=H a=some u\/∃o,H a=some (.gF o u)
variable {h:Heap}
theorem Rd.ok{P:aE}{w:World}{a:Addr}{u:HO}(r:Rd H a u)(x:jm P w H h):cK P w H h a u:=by
 rcases r with r|⟨o,r⟩
 ·exact x a u r
 ·obtain⟨_,q⟩:=x a _ r;exact q
noncomputable def Sh:Option HO->Prop
 |some (.lst _)=>True
 |some (.dK _)=>True
 |some (.dT _)=>True
 |some (.set _ _)=>True
 |some (.ins _ _ _)=>True
 |some (.ext _)=>True
 |_=>False
section
variable {P:aE}{w:World}{H:Hp}{h h':Heap}{x e:Addr}{o':HO}
theorem jm.write(ok:jm P w H h)(mu:Sh (H x))(he:e=x\/H e=some (.own x))(k:∀b u,b≠e->h.get? b=some u->h'.get? b=some u)(Mf:∃u,h'.get? e=some u)
  (new:cK P w (upd H x o') h' x o'):jm P w (upd H x o') h':=λb u q=>by
 have NW:∀c y,H c=some (.own y)->c≠x:=λc y r z=>by subst z;rw[r]at mu;exact mu
 have TX:∀c xs,H c=some (.tup xs)->c≠x:=λc xs r z=>by subst z;rw[r]at mu;exact mu
 by_cases hb:b=x
 ·subst hb;rw[aZ]at q;cases q;exact new
 ·rw[ba hb]at q;by_cases Kj:b=e
  ·have q':H b=some (.own x):=by
    rcases he with z|z
    ·exact absurd (Kj.trans z) hb
    ·rw[Kj];exact z
   rw[q]at q';cases q';obtain⟨v,hv⟩:=Mf;exact⟨v,by rw[Kj];exact hv⟩
  ·refine(ok b u q).iM (λc v hc r=>k c v ?_ r) (λc r=>by rw[ba (NW c b r)];exact r) λc xs r=>by rw[ba (TX c xs r)];exact r
   rcases hc with rfl|hc
   ·exact Kj
   ·rintro rfl;rcases he with z|z
    ·exact NW c b hc z
    ·rw[hc]at z;cases z;exact hb rfl
end
structure Un(fs ex:bc)(H H':Hp)(h h':Heap):Prop where
 keep:∀b o,h.get? b=some o->H b=none->b∉fs->b∉ex->h'.get? b=some o
 slot:∀b o,h.get? b=some o->H b=none->b∈fs->b∉ex->∃sl,h'.get? b=some { o with slots:=sl }
 free:∀b o,h.get? b=some o->H b=none->b∉ex->H' b=none
 there:∀b o,h.get? b=some o->b∉ex->∃o',h'.get? b=some o'
 lV:∀b xs,H b=some (.tup xs)->H' b=some (.tup xs)
 k_:∀b o u,H b=some (.gF o u)->H' b=some (.gF o u)
 lX:∀b ps,H b=some (.Eb ps)->∃more,H' b=some (.Eb (ps++more))
section
variable {fs fs' ex VJ:bc}{H H1 H2:Hp}{h h1 h2 h':Heap}{a x e:Addr}{o:HO}
theorem Un.any(u:Un fs ex H H1 h h1){b:Addr}{ob:Obj}(q:h.get? b=some ob)(n:H b=none)(hx:b∉ex):∃sl,h1.get? b=some { ob with slots:=sl }:=by
 by_cases hb:b∈fs
 ·exact u.slot b ob q n hb hx
 ·exact⟨ob.slots,u.keep b ob q n hb hx⟩
theorem Un.kept(k:∀b u,h.get? b=some u->h'.get? b=some u):Un fs ex H H h h' :=
 ⟨λb ob q _ _ _=>k b ob q,λb ob q _ _ _=>⟨ob.slots,k b ob q⟩,λ_ _ _ n _=>n,λb ob q _=>⟨ob,k b ob q⟩,λ_ _ q=>q,λ_ _ _ q=>q,λ_ ps q=>⟨#[],by rw[q];simp⟩⟩
theorem Un.refl:Un fs ex H H h h:=Un.kept λ_ _ q=>q
theorem Un.laid(k:∀b u,h.get? b=some u->h'.get? b=some u)(hp:h.objs.size<=a)(hn:H a=none):Un fs ex H (upd H a o) h h' where
 keep:=λb u q _ _ _=>k b u q
 slot:=λb u q _ _ _=>⟨u.slots,k b u q⟩
 free:=λb u q n _=>by rw[ba (Nat.ne_of_lt (Nat.lt_of_lt_of_le (Heap.lt_size q) hp))];exact n
 there:=λb u q _=>⟨u,k b u q⟩
 lV:=λb xs q=>by rw[ba (cj q hn)];exact q
 k_:=λb u xs q=>by rw[ba (cj q hn)];exact q
 lX:=λb ps q=>⟨#[],by rw[ba (cj q hn),q];simp⟩
theorem Un.write(mu:Sh (H x))(he:e=x\/H e=some (.own x))(k:∀b u,b≠e->h.get? b=some u->h'.get? b=some u)(Mf:∃u,h'.get? e=some u):Un fs ex H (upd H x o) h h':=by
 have hx:∀b,H b=none->b≠x:=λb n z=>by subst z;rw[n]at mu;exact mu
 have hb:∀b,H b=none->b≠e:=λb n z=>by
  subst z;rcases he with r|r
  ·exact hx b n r
  ·rw[n]at r;cases r
 have hm:∀b u,H b=some u->¬ Sh (some u)->b≠x:=λb u q nm z=>by subst z;rw[q]at mu;exact nm mu
 refine⟨λb u q n _ _=>k b u (hb b n) q,λb u q n _ _=>⟨u.slots,k b u (hb b n) q⟩,λb u q n _=>by rw[ba (hx b n)];exact n,λb u q _=>?_,
  λb xs q=>by rw[ba (hm b _ q λz=>z)];exact q,λb u xs q=>by rw[ba (hm b _ q λz=>z)];exact q,λb ps q=>⟨#[],by rw[ba (hm b _ q λz=>z),q];simp⟩⟩
 by_cases Kj:b=e
 ·subst Kj;exact Mf
 ·exact⟨u,k b u Kj q⟩
end
noncomputable def QZ(h:Heap)(H:Hp):bc:=(List.range h.objs.size).filter λa=>(H a).isSome
def rK(h:Heap)(H:Hp):Heap:=PySem.W.hideAll h (QZ h H)
theorem zt(h:Heap)(H:Hp):(rK h H).objs.size=h.objs.size:=PySem.W.hideAll_size _ _
variable {o:Obj}
theorem Ca{b:Addr}(e:h.get? b=some o)(n:H b=none):(rK h H).get? b=some o :=
 PySem.W.hideAll_get _ e λhm=>by
  have q:(H b).isSome=true:=(List.mem_filter.mp hm).2;rw[n]at q;simp at q
theorem EY{b:Addr}(e:(rK h H).get? b=some o):h.get? b=some o/\H b=none:=by
 have e':h.get? b=some o:=PySem.W.of_hideAll (QZ h H) e;refine⟨e',?_⟩;cases q:H b with
 |none=>rfl
 |some x =>
  have hm:b∈QZ h H:=List.mem_filter.mpr ⟨List.mem_range.mpr (aaf e'),by simp[q]⟩;have z:(rK h H).get? b=none:=PySem.W.hideAll_none (QZ h H) hm;rw[z]at e;cases e
noncomputable def Gv(g h:Heap)(L:Addr):ak:=(List.range h.objs.size).filterMap λa=>if a=L\/(g.get? a).isSome=true then none else(h.get? a).map λo=>(a,o)
def rest(g h:Heap)(L d:Addr):ak:=(Gv g h L).filter λp=>decide (p.1≠d)
end L2
namespace L2
open PySem PySem.Spec PyProof.Rows
structure Mod(K:ao)(mg:aV)(base:Heap):Prop where
 T9:K.In base
 glob:base.Ns mainGlobals mg
 blt:∃mb,base.Ns builtinsNs mb/\∀x:Str,x ≠ "__name__" -> mb x=bootBuiltins x
 nolimit:base.NoLimit
structure Cx where
 prog:aE
 w:World
 K:ao
 mg:aV
 base:Heap
 A:aG
 N:aj
 s₀:Shared
 H₀:Hp
 env:Env
 outer:List Env
 stack:List Env
 ex:bc
 fn:Str->Bool
 calm:Bool
 pn:ak
 xe:aA
noncomputable def la(l:List Env):bc:=l.filterMap (·.frame)
abbrev Cx.fs(X:Cx):bc:=la X.outer
def HA(sc:Scope)(x:Str):Prop:=sc.names.lookup x=some .local\/sc.names.lookup x=some .cell\/sc.names.lookup x=some .free
def Loc(sc:Scope)(x:Str):Prop:=sc.names.lookup x=some .local\/sc.names.lookup x=some .cell
noncomputable def Look(env:Env)(h:Heap)(m:aV)(x:Str)(u:Value):Prop :=
 (env.kindOf x=some .local/\m x=some u)\/((env.kindOf x=some .cell\/env.kindOf x=some .free)/\∃c,env.cells.lookup x=some c/\h.IsCell c (some u))
structure Cx.Ok(X:Cx):Prop where
 mod:Mod X.K X.mg X.base
 kind:X.env.scope.kind=.function
 glob:X.env.globals=mainGlobals
 blt:X.env.builtins=builtinsNs
 above:X.s₀.heap.objs.size<=X.env.locals
 inj:∀x y c,X.env.cells.lookup x=some c->X.env.cells.lookup y=some c->x=y
 has:∀x,(X.env.kindOf x=some .cell\/X.env.kindOf x=some .free)->∃c,X.env.cells.lookup x=some c
 Hu:∀x c,X.fn x=true->X.env.cells.lookup x=some c->X.s₀.heap.objs.size<=c
 hd:X.calm=true->X.A.handled=none
 frames:X.A.frames=some X.stack
 Ik:X.stack=X.outer\/(X.stack=X.env::X.outer/\X.env.frame=some X.env.locals)
 Qi:∀b∈X.ex,b≠X.env.locals/\∀x c,X.env.cells.lookup x=some c->c≠b
 bs:∀b o,X.base.get? b=some o->X.s₀.heap.get? b=some o/\X.H₀ b=none
 De:X.base.objs.size<=X.s₀.heap.objs.size
 tU:∀b o,X.base.get? b=some o->b∉X.ex
 v_:∀b∈X.ex,b∉X.fs
 jK:X.s₀.heap.FunFrames X.base X.outer
 z8:∀b∈X.fs,X.H₀ b=none
structure Inv(X:Cx)(pins:ak)(σ:List (Option V))(H:Hp)(s:Shared):Prop where
 ok:X.Ok
 os:s.os=X.s₀.os
 bare:AllBare s.gens
 base:Un X.fs X.ex X.H₀ H X.s₀.heap s.heap
 loc:∃m,s.heap.Ns X.env.locals m/\∀(i:Nat) (x:Str) (v:V),X.N[i]?=some x->σ[i]?=some (some v)->HA X.env.scope x->∃u,RelV v u/\Look X.env s.heap m x u
 cell:∀x c,X.env.cells.lookup x=some c->∃v,s.heap.IsCell c v
 free:H X.env.locals=none
 fN:∀x c,X.env.cells.lookup x=some c->H c=none
 pin:∀p∈X.pn++pins,s.heap.get? p.1=some p.2/\H p.1=none/\p.1≠X.env.locals/\p.1∉X.fs/\∀v,p.2.data≠.cell v
 cC:jm X.prog X.w H s.heap
 len:σ.length=X.N.length
variable {A:aG}{E:Value->Shared->Prop}{Q:Unit->Shared->Prop}{ch:bc}{t':Nat}
section
variable {X:Cx}{pins:ak}{σ:List (Option V)}{H H':Hp}{s:Shared}{h':Heap}
theorem Cx.Ok.TY(ok:X.Ok){b:Addr}{o:Obj}(e:X.base.get? b=some o):b∉X.fs:=λhb=>by
 have:=(ok.jK.mem hb).1;rw[e]at this;cases this
theorem Inv.bs(I:Inv X pins σ H s):∀b o,X.base.get? b=some o->s.heap.get? b=some o/\H b=none:=λb o e =>
 ⟨I.base.keep b o (I.ok.bs b o e).1 (I.ok.bs b o e).2 (I.ok.TY e) (I.ok.tU b o e),I.base.free b o (I.ok.bs b o e).1 (I.ok.bs b o e).2 (I.ok.tU b o e)⟩
theorem Inv.bk(I:Inv X pins σ H s):∀b o,X.base.get? b=some o->s.heap.get? b=some o:=λb o e=>(I.bs b o e).1
theorem Inv.mod(I:Inv X pins σ H s):Mod X.K X.mg X.base:=I.ok.mod
theorem Inv.xH(I:Inv X pins σ H s):X.K.In s.heap:=I.ok.mod.T9.keeps I.bk
theorem Inv.lt(I:Inv X pins σ H s):X.env.locals<s.heap.objs.size:=let ⟨_,hn,_⟩:=I.loc;hn.lt
theorem Inv.sz(I:Inv X pins σ H s):X.s₀.heap.objs.size<=s.heap.objs.size:=aas I.ok.above (Nat.le_of_lt I.lt)
theorem Inv.Jz(I:Inv X pins σ H s){a:Addr}(h:s.heap.objs.size<=a):a∉X.fs:=λhb=>by
 obtain⟨_,o,ho,_⟩:=I.ok.jK.mem hb;exact absurd (aaj (aaf ho) (aas I.sz h)) (aax _)
theorem Inv.Gg(I:Inv X pins σ H s):∀x c,X.env.cells.lookup x=some c->c≠X.env.locals:=λx c e z=>by
 obtain⟨v,o,ho,hd⟩:=I.cell x c e;obtain⟨m,⟨o',es,ep,fq,hU,_⟩,_⟩:=I.loc;rw[z,fq]at ho;cases ho;rw[hU]at hd;cases hd
theorem Inv.jK(I:Inv X pins σ H s):s.heap.FunFrames X.base X.outer:=by
 have all:∀(l:List Env),(∀b∈la l,b∈X.fs)->X.s₀.heap.FunFrames X.base l->s.heap.FunFrames X.base l:=by
  intro l;induction l with
  |nil=>intro _ _;trivial
  |cons env r ih =>
   intro hs hl;obtain⟨hk,⟨L,o,hf,hn,ho,hd⟩,hr⟩:=hl;have hL:L∈X.fs:=hs L (by unfold la;rw[List.filterMap_cons,hf];exact aah);obtain⟨sl,e⟩:=I.base.slot L o ho (I.ok.z8 L hL) hL λz=>I.ok.v_ L z hL;exact⟨hk,⟨L,_,hf,hn,e,hd⟩,ih (λb hb=>hs b (by unfold la;rw[List.filterMap_cons,hf];exact aag _ hb)) hr⟩
 exact all X.outer (λ_ hb=>hb) I.ok.jK
theorem Inv.stack(I:Inv X pins σ H s):s.heap.FunFrames X.base X.stack:=by
 rcases I.ok.Ik with e|⟨e,hf⟩
 ·rw[e];exact I.jK
 ·rw[e];obtain⟨m,hn,_⟩:=I.loc;refine .cons (by rw[I.ok.kind];decide) hf hn ?_ I.jK;exact Heap.get?_none_of_le (aas I.ok.De I.ok.above)
theorem Inv.jI(I:Inv X pins σ H s):∀b∈la X.stack,b∈X.env.locals::X.fs:=λb hb=>by
 rcases I.ok.Ik with e|⟨e,hf⟩
 ·rw[e]at hb;exact aag _ hb
 ·rw[e]at hb;unfold la at hb;rw[List.filterMap_cons,hf]at hb;exact hb
theorem Inv.j9(I:Inv X pins σ H s):∀b∈la X.stack,H b=none:=λb hb=>by
 rcases List.mem_cons.mp (I.jI b hb)with e|hb
 ·rw[e];exact I.free
 ·obtain⟨_,o,ho,_⟩:=I.ok.jK.mem hb;exact I.base.free b o ho (I.ok.z8 b hb) λz=>I.ok.v_ b z hb
theorem Inv.step{g':Array GenState}{d':Drawn}(I:Inv X pins σ H s)
  (DM:∀b∈ch,(b∈X.ex\/X.s₀.heap.objs.size<=b)/\b≠X.env.locals/\(∀x c,X.env.cells.lookup x=some c->c≠b)/\∀p∈X.pn++pins,p.1≠b)
  (keep:∀b o,b≠X.env.locals->b∉X.fs->b∉ch->s.heap.get? b=some o->H b=none->h'.get? b=some o)
  (slot:∀b o,b≠X.env.locals->b∈X.fs->b∉ch->s.heap.get? b=some o->H b=none->∃sl,h'.get? b=some { o with slots:=sl }) (free:∀b o,b∉ch->s.heap.get? b=some o->H b=none->H' b=none)
  (there:∀b o,b∉ch->s.heap.get? b=some o->∃o',h'.get? b=some o')
  (lV:∀b xs,H b=some (.tup xs)->H' b=some (.tup xs)) (k_:∀b o u,H b=some (.gF o u)->H' b=some (.gF o u)) (lX:∀b ps,H b=some (.Eb ps)->∃more,H' b=some (.Eb (ps++more)))
  (ns:∀m,s.heap.Ns X.env.locals m->h'.Ns X.env.locals m) (cC:jm X.prog X.w H' h') (hg:AllBare g') :
  Inv X pins σ H' { s with heap:=h',gens:=g',drawn:=d',toks:=t' }:=by
 have WQ:∀b o,X.s₀.heap.get? b=some o->b≠X.env.locals:=λb o e=>aal (aaj (aaf e) I.ok.above);have G4:∀b o,X.s₀.heap.get? b=some o->b∉X.ex->b∉ch:=λb o e hx hb=>by
  rcases(DM b hb).1 with z|z
  ·exact hx z
  ·exact absurd (aaj (aaf e) z) (aax _)
 have cellK:∀x c,X.env.cells.lookup x=some c->∀v,s.heap.IsCell c v->h'.IsCell c v:=λx c e v bF=>by
  obtain⟨o,ho,hd⟩:=bF;have N3:c∉ch:=λz=>(DM c z).2.2.1 x c e rfl;by_cases hc:c∈X.fs
  ·obtain⟨sl,q⟩:=slot c o (I.Gg x c e) hc N3 ho (I.fN x c e);exact⟨_,q,hd⟩
  ·exact⟨o,keep c o (I.Gg x c e) hc N3 ho (I.fN x c e),hd⟩
 refine⟨I.ok,I.os,hg,⟨λb o e n hb hx=>?_,λb o e n hb hx=>?_,λb o e n hx=>?_,λb o e hx=>?_,λb xs e=>lV b xs (I.base.lV b xs e),λb o xs e=>k_ b o xs (I.base.k_ b o xs e),λb ps e=>?_⟩,?_,λx c e=>?_,?_,λx c e=>?_,λp hp=>?_,cC,I.len⟩
 ·exact keep b o (WQ b o e) hb (G4 b o e hx) (I.base.keep b o e n hb hx) (I.base.free b o e n hx)
 ·obtain⟨sl,e1⟩:=I.base.slot b o e n hb hx;obtain⟨Tb,e2⟩:=slot b _ (WQ b o e) hb (G4 b o e hx) e1 (I.base.free b o e n hx);exact⟨Tb,e2⟩
 ·obtain⟨o',e1⟩:=I.base.there b o e hx;exact free b o' (G4 b o e hx) e1 (I.base.free b o e n hx)
 ·obtain⟨o',e1⟩:=I.base.there b o e hx;exact there b o' (G4 b o e hx) e1
 ·obtain⟨m1,e1⟩:=I.base.lX b ps e;obtain⟨m2,e2⟩:=lX b _ e1;exact⟨m1++m2,by rw[e2,Array.append_assoc]⟩
 ·obtain⟨m,hn,hl⟩:=I.loc;refine⟨m,ns m hn,λi x v e1 e2 e3=>?_⟩;obtain⟨u,r,l⟩:=hl i x v e1 e2 e3;refine⟨u,r,?_⟩;rcases l with l|⟨k,c,e,z⟩
  ·exact .inl l
  ·exact .inr ⟨k,c,e,cellK x c e _ z⟩
 ·obtain⟨v,z⟩:=I.cell x c e;exact⟨v,cellK x c e v z⟩
 ·obtain⟨m,⟨o,_,_,ho,_⟩,_⟩:=I.loc;exact free _ o (λz=>(DM _ z).2.1 rfl) ho I.free
 ·obtain⟨v,o,ho,hd⟩:=I.cell x c e;exact free c o (λz=>(DM c z).2.2.1 x c e rfl) ho (I.fN x c e)
 ·obtain⟨e,n,ne,nf,d⟩:=I.pin p hp;have N3:p.1∉ch:=λz=>(DM p.1 z).2.2.2 p hp rfl;exact⟨keep p.1 p.2 ne nf N3 e n,free p.1 p.2 N3 e n,ne,nf,d⟩
theorem Inv.un(I:Inv X pins σ H s)(u:Un X.fs [] H H' s.heap h')(cC:jm X.prog X.w H' h'):Inv X pins σ H' { s with heap:=h',toks:=t' }:=by
 obtain⟨m,⟨o,es,ep,ho,r⟩,_⟩:=id I.loc;obtain⟨sl,hL⟩:=u.any ho I.free (by simp);exact I.step (g':=s.gens) (d':=s.drawn) (ch:=[]) (λ_ z=>nomatch z) (λb o _ hb _ e n=>u.keep b o e n hb (by simp)) (λb o _ hb _ e n=>u.slot b o e n hb (by simp)) (λb o _ e n=>u.free b o e n (by simp)) (λb o _ e=>u.there b o e (by simp)) u.lV u.k_ u.lX (λm' hm=>by
  obtain⟨o',Qk,yc,fq,r'⟩:=hm;rw[ho]at fq;cases fq;exact⟨_,Qk,yc,hL,r'⟩) cC I.bare
theorem Inv.call{g':Array GenState}{d':Drawn}(I:Inv X pins σ H s)(u:Un (la X.stack) ch H H' s.heap h')(cC:jm X.prog X.w H' h')(hg:AllBare g')
  (DM:∀b∈ch,(b∈X.ex\/X.s₀.heap.objs.size<=b)/\b≠X.env.locals/\(∀x c,X.env.cells.lookup x=some c->c≠b)/\∀p∈X.pn++pins,p.1≠b) :
  Inv X pins σ H' { s with heap:=h',gens:=g',drawn:=d',toks:=t' }:=by
 obtain⟨m,⟨o,es,ep,ho,r⟩,_⟩:=id I.loc;obtain⟨sl,hL⟩:=u.any ho I.free λz=>(DM _ z).2.1 rfl;exact I.step (ch:=ch) DM (λb o hL hb hc e n=>u.keep b o e n (λz=>(List.mem_cons.mp (I.jI b z)).elim hL hb) hc) (λb o _ _ hc e n=>u.any e n hc) (λb o hc e n=>u.free b o e n hc) (λb o hc e=>u.there b o e hc) u.lV u.k_ u.lX (λm' hm=>by
  obtain⟨o',Qk,yc,fq,r'⟩:=hm;rw[ho]at fq;cases fq;exact⟨_,Qk,yc,hL,r'⟩) cC hg
theorem Inv.turned{it:Addr}(I:Inv X pins σ H s)(k:∀b o,b≠it->s.heap.get? b=some o->h'.get? b=some o)(hn:H it=none)(hL:it≠X.env.locals)
  (h1:it∈X.ex\/X.s₀.heap.objs.size<=it) (h2:∀x c,X.env.cells.lookup x=some c->c≠it) (h3:∀p∈X.pn++pins,p.1≠it):Inv X pins σ H { s with heap:=h',toks:=t' }:=by
 have G3:∀b u,H b=some u->b≠it:=λb u e z=>by rw[z,hn]at e;cases e
 refine I.step (g':=s.gens) (d':=s.drawn) (ch:=[it]) (λb hb=>?_) (λb o _ _ hc e _=>k b o (λz=>hc (by simp[z])) e) (λb o _ _ hc e _=>⟨o.slots,k b o (λz=>hc (by simp[z])) e⟩) (λ_ _ _ _ n=>n)
  (λb o hc e=>⟨o,k b o (λz=>hc (by simp[z])) e⟩) (λ_ _ e=>e) (λ_ _ _ e=>e) (λb ps e=>⟨#[],by rw[e];simp⟩) (λm hm=>?_) (λb u e=>?_) I.bare
 ·have e:b=it:=by simpa using hb
  subst e;exact⟨h1,hL,h2,h3⟩
 ·obtain⟨o,es,ep,ho,r⟩:=hm;exact⟨o,es,ep,k _ o (abu hL) ho,r⟩
 ·refine(I.cC b u e).iM (λc v hc q=>k c v ?_ q) (λ_ q=>q) λ_ _ q=>q;rcases hc with z|z
  ·rw[z];exact G3 b u e
  ·exact G3 c _ z
theorem Inv.tok(I:Inv X pins σ H s)(t:Nat):Inv X pins σ H { s with toks:=t }:=I.un (h':=s.heap) (t':=t) Un.refl I.cC
theorem Inv.kept{t':Nat}(I:Inv X pins σ H s)(k:∀b u,s.heap.get? b=some u->h'.get? b=some u):Inv X pins σ H { s with heap:=h',toks:=t' }:=I.un (Un.kept k) (I.cC.kept k)
theorem Inv.laid{a:Addr}{o:HO}{t':Nat}(I:Inv X pins σ H s)(k:∀b u,s.heap.get? b=some u->h'.get? b=some u)(hp:s.heap.objs.size<=a)(new:cK X.prog X.w (upd H a o) h' a o):
  Inv X pins σ (upd H a o) { s with heap:=h',toks:=t' }:=I.un (Un.laid k hp (I.cC.fresh hp)) (I.cC.laid k hp new)
theorem Inv.write{x e:Addr}{o:HO}{t':Nat}(I:Inv X pins σ H s)(mu:Sh (H x))(he:e=x\/H e=some (.own x))(k:∀b u,b≠e->s.heap.get? b=some u->h'.get? b=some u)(Mf:∃u,h'.get? e=some u)
  (new:cK X.prog X.w (upd H x o) h' x o):Inv X pins σ (upd H x o) { s with heap:=h',toks:=t' }:=I.un (Un.write mu he k Mf) (I.cC.write mu he k Mf new)
theorem Inv.jg{Bb:ak}(I:Inv X pins σ H s)(h:∀p∈Bb,s.heap.get? p.1=some p.2/\H p.1=none/\p.1≠X.env.locals/\p.1∉X.fs/\∀v,p.2.data≠.cell v):Inv X Bb σ H s :=
 ⟨I.ok,I.os,I.bare,I.base,I.loc,I.cell,I.free,I.fN,λp hp=>(List.mem_append.mp hp).elim (λz=>I.pin p (aat _ z)) (h p),I.cC,I.len⟩
theorem tV{N:aj}(hN:N.Nodup){i j:Nat}{x:Str}(a:N[i]?=some x)(b:N[j]?=some x):i=j:=by
 obtain⟨h1,e1⟩:=List.getElem?_eq_some_iff.mp a;obtain⟨h2,e2⟩:=List.getElem?_eq_some_iff.mp b;exact(abG hN).mp (e1.trans e2.symm)
theorem yN{M:Model}{i:Nat}{x:Str}{v:V}{u:Value}(I:Inv X pins σ H s)(hN:X.N.Nodup)(hi:X.N[i]?=some x)(hx:Loc X.env.scope x)(r:RelV v u)
  (h:∀s',Inv X pins (σ.set i (some v)) H s'->(∃a,Heap.SameBut a s.heap s'.heap/\(a=X.env.locals\/X.env.cells.lookup x=some a))->Q () s') (hf:X.fn x=true\/X.env.scope.names.lookup x=some .local:=by first|exact .inl rfl|exact .inr rfl|assumption):wpAny M A (storeName X.env x u) Q E s:=by
 obtain⟨m,hn,hl⟩:=id I.loc;have Cb:(X.env.scope.kind==.class||(X.env.scope.kind==.module&&X.env.locals != X.env.globals))=false:=by rw[I.ok.kind];rfl
 have Pc:i<σ.length:=by rw[I.len];exact(List.getElem?_eq_some_iff.mp hi).1
 have Gg:=I.Gg;have tracked:∀{a:Addr} {h':Heap},(∃o,s.heap.get? a=some o/\H a=none)->Heap.SameBut a s.heap h'->jm X.prog X.w H h':=λ{a h'} ha hs b ob e=>by
  obtain⟨_,_,Hf⟩:=ha;refine(I.cC b ob e).iM (λc w' hc q=>(hs.2 c ?_).trans q) (λ_ q=>q) λ_ _ q=>q;rintro rfl;rcases hc with rfl|hc
  ·rw[Hf]at e;cases e
  ·rw[Hf]at hc;cases hc
 rcases hx with hk|hk
 ·refine wpAny_storeName_local hk hn (λh' uR hs=>?_) Cb;obtain⟨oL,_,_,O5,_⟩:=id hn;refine h _ ⟨I.ok,I.os,I.bare,⟨λb o e n hb hx=>?_,λb o e n hb hx=>?_,I.base.free,λb o e hx=>?_,I.base.lV,I.base.k_,I.base.lX⟩,⟨_,uR,λj y v' e1 e2 e3=>?_⟩,λy c e=>?_,I.free,I.fN,λp hp=>?_,tracked ⟨oL,O5,I.free⟩ hs,by simpa using I.len⟩ ⟨_,hs,.inl rfl⟩
  ·exact(hs.2 b (aal (aaj (aaf e) I.ok.above))).trans (I.base.keep b o e n hb hx)
  ·obtain⟨sl,e1⟩:=I.base.slot b o e n hb hx;exact⟨sl,(hs.2 b (aal (aaj (aaf e) I.ok.above))).trans e1⟩
  ·obtain⟨o',e1⟩:=I.base.there b o e hx;exact⟨o',(hs.2 b (aal (aaj (aaf e) I.ok.above))).trans e1⟩
  ·by_cases hj:j=i
   ·subst hj;rw[hi]at e1;cases e1;rw[List.getElem?_set_self Pc]at e2;cases e2;exact⟨u,r,.inl ⟨hk,by simp⟩⟩
   ·rw[List.getElem?_set_ne (Ne.symm hj)]at e2;obtain⟨u',r',q⟩:=hl j y v' e1 e2 e3;refine⟨u',r',?_⟩;rcases q with ⟨k,e⟩|⟨k,c,e,z⟩
    ·refine .inl ⟨k,?_⟩;have:y≠x:=λe=>hj (tV hN e1 (e▸hi));simp[this,e]
    ·exact .inr ⟨k,c,e,z.sameBut hs (Gg y c e)⟩
  ·obtain⟨w',z⟩:=I.cell y c e;exact⟨w',z.sameBut hs (Gg y c e)⟩
  ·obtain⟨e,n,ne,nf,d⟩:=I.pin p hp;exact⟨(hs.2 p.1 ne).trans e,n,ne,nf,d⟩
 ·have xQ:X.fn x=true:=by
   rcases hf with z|z
   ·exact z
   ·rw[z]at hk;cases hk
  obtain⟨c,hc⟩:=I.ok.has x (.inl hk);obtain⟨w',z⟩:=I.cell x c hc;refine wpAny_storeName_cell I.ok.kind hk hc z (λh' xT hs=>?_);obtain⟨oc,Xi,UW⟩:=id z;refine h { s with heap:=h' } ⟨I.ok,I.os,I.bare,⟨λb o e n hb hx=>?_,λb o e n hb hx=>?_,I.base.free,λb o e hx=>?_,I.base.lV,I.base.k_,I.base.lX⟩,⟨m,hn.sameBut hs (abu (Gg x c hc)),λj y v' e1 e2 e3=>?_⟩,λy c' e=>?_,I.free,I.fN,λp hp=>?_,tracked ⟨oc,Xi,I.fN x c hc⟩ hs,by simpa using I.len⟩ ⟨c,hs,.inr hc⟩
  ·exact(hs.2 b (aal (aaj (aaf e) (I.ok.Hu x c xQ hc)))).trans (I.base.keep b o e n hb hx)
  ·obtain⟨sl,e1⟩:=I.base.slot b o e n hb hx;exact⟨sl,(hs.2 b (aal (aaj (aaf e) (I.ok.Hu x c xQ hc)))).trans e1⟩
  ·obtain⟨o',e1⟩:=I.base.there b o e hx;exact⟨o',(hs.2 b (aal (aaj (aaf e) (I.ok.Hu x c xQ hc)))).trans e1⟩
  ·by_cases hj:j=i
   ·subst hj;rw[hi]at e1;cases e1;rw[List.getElem?_set_self Pc]at e2;cases e2;exact⟨u,r,.inr ⟨.inl hk,c,hc,xT⟩⟩
   ·rw[List.getElem?_set_ne (Ne.symm hj)]at e2;obtain⟨u',r',q⟩:=hl j y v' e1 e2 e3;refine⟨u',r',?_⟩;rcases q with q|⟨k,c',e,z'⟩
    ·exact .inl q
    ·refine .inr ⟨k,c',e,z'.sameBut hs ?_⟩;rintro rfl;exact hj (tV hN e1 (I.ok.inj _ _ _ e hc▸hi))
  ·by_cases Xt:c'=c
   ·subst Xt;exact⟨_,xT⟩
   ·obtain⟨w2,z2⟩:=I.cell y c' e;exact⟨w2,z2.sameBut hs Xt⟩
  ·obtain⟨e,n,ne,nf,d⟩:=I.pin p hp;refine⟨(hs.2 p.1 ?_).trans e,n,ne,nf,d⟩;intro q;rw[q,Xi]at e;have q':oc=p.2:=aao e;exact d w' (by rw[<- q'];exact UW)
theorem gw{M:Model}{i:Nat}{x:Str}{v:V}{u:Value}(I:Inv X pins σ H s)(hN:X.N.Nodup)(hi:X.N[i]?=some x)(hx:Loc X.env.scope x)(r:RelV v u)
  (h:∀s',Inv X pins (σ.set i (some v)) H s'->Q () s') (hf:X.fn x=true\/X.env.scope.names.lookup x=some .local:=by first|exact .inl rfl|exact .inr rfl|assumption):wpAny M A (storeName X.env x u) Q E s :=
 yN I hN hi hx r (λs' I' _=>h s' I') hf
theorem Inv.yn{s':Shared}(I:Inv X pins σ H s)(ho:s'.os=s.os)(u:Un (la X.stack) ch H H' s.heap s'.heap)(cC:jm X.prog X.w H' s'.heap)(hg:AllBare s'.gens)
  (DM:∀b∈ch,(b∈X.ex\/X.s₀.heap.objs.size<=b)/\b≠X.env.locals/\(∀x c,X.env.cells.lookup x=some c->c≠b)/\∀p∈X.pn++pins,p.1≠b):Inv X pins σ H' s':=by
 obtain⟨h',g',d',t',o'⟩:=s';have e:o'=s.os:=ho;subst e;exact I.call (g':=g') (t':=t') (d':=d') u cC hg DM
end
noncomputable abbrev XK:=Value->Option Addr->Hp->Prop
noncomputable abbrev St:=List (Option V)
noncomputable abbrev VK:=V->Hp->Prop
noncomputable abbrev TE:=St->Hp->VK->Prop
noncomputable abbrev TT:=St->Hp->(Bool->Hp->Prop)->Prop
noncomputable abbrev TA:=St->Hp->(af->Hp->Prop)->Prop
structure Ends where
 nx:St->Hp->Prop
 rt:VK
 bk:St->Hp->Prop:=λ_ _=>False
 ct:St->Hp->Prop:=λ_ _=>False
noncomputable abbrev TS:=Ends->St->Hp->Prop
def EP(X:Cx)(pins:ak)(σ:St)(Q:VK)(u:Value)(s':Shared):Prop:=∃v H',Inv X pins σ H' s'/\RelV v u/\Q v H'
def TP(X:Cx)(pins:ak)(σ:St)(Q:Bool->Hp->Prop)(b:Bool)(s':Shared):Prop:=∃H',Inv X pins σ H' s'/\Q b H'
def AP(X:Cx)(pins:ak)(σ:St)(Q:af->Hp->Prop)(us:ai)(s':Shared):Prop:=∃vs H',Inv X pins σ H' s'/\Vals vs us/\Q vs H'
def SP(X:Cx)(pins:ak)(D:Ends)(f:Flow)(s':Shared):Prop :=
 match f with
 |.next=>∃σ' H',Inv X pins σ' H' s'/\D.nx σ' H'
 |.brk=>∃σ' H',Inv X pins σ' H' s'/\D.bk σ' H'
 |.cont=>∃σ' H',Inv X pins σ' H' s'/\D.ct σ' H'
 |.ret u=>∃v σ' H',Inv X pins σ' H' s'/\RelV v u/\D.rt v H'
noncomputable def PE(X:Cx)(e:Expr)(t:TE):Prop :=
 ∀(pins:ak) (s:Shared) (σ:St) (H:Hp) (Q:VK),Inv X pins σ H s->t σ H Q->wpAny (model X.prog X.w) X.A (eval e X.env) (EP X pins σ Q) X.xe s
noncomputable def PT(X:Cx)(e:Expr)(t:TT):Prop :=
 ∀(pins:ak) (s:Shared) (σ:St) (H:Hp) (Q:Bool->Hp->Prop),Inv X pins σ H s->t σ H Q->wpAny (model X.prog X.w) X.A (isTrue e X.env (eval e X.env)) (TP X pins σ Q) X.xe s
noncomputable def PW(X:Cx)(e:Expr)(t:TT):Prop :=
 ∀(whole:Sem Value) (pins:ak) (s:Shared) (σ:St) (H:Hp) (Q:Bool->Hp->Prop),Inv X pins σ H s->t σ H Q->wpAny (model X.prog X.w) X.A (isTrue e X.env whole) (TP X pins σ Q) X.xe s
theorem PW.pt{X:Cx}{e:Expr}{t:TT}(h:PW X e t):PT X e t:=h _
noncomputable def PA(X:Cx)(es:av)(t:TA):Prop :=
 ∀(pos:Pos) (pins:ak) (s:Shared) (σ:St) (H:Hp) (Q:af->Hp->Prop),Inv X pins σ H s->t σ H Q->wpAny (model X.prog X.w) X.A (spliced (backTo pos (starEach es X.env))) (AP X pins σ Q) X.xe s
noncomputable def PS(X:Cx)(st:Stmt)(t:TS):Prop :=
 ∀(pins:ak) (s:Shared) (σ:St) (H:Hp) (D:Ends),Inv X pins σ H s->t D σ H->wpAny (model X.prog X.w) X.A (exec st X.env) (SP X pins D) X.xe s
noncomputable def ig(X:Cx)(st:aS)(t:TS):Prop :=
 ∀(pins:ak) (s:Shared) (σ:St) (H:Hp) (D:Ends),Inv X pins σ H s->t D σ H->wpAny (model X.prog X.w) X.A (execs st X.env) (SP X pins D) X.xe s
theorem cN{α:Type}{t:Sem α}{Q Q':α->Shared->Prop}{M:Model}{s:Shared}(h:wpAny M A t Q E s)(hQ:∀a s,Q a s->Q' a s):wpAny M A t Q' E s:=aau h hQ λ_ _ x=>x
end L2
namespace L2
open PySem PySem.Spec PyProof.Rows
variable {E Q:Value->Shared->Prop}{H:Hp}{pos:Pos}{σ:L2.St}
section
variable {X:Cx}
theorem bin{a b:Expr}{ta tb:TE}(ha:PE X a ta)(hb:PE X b tb){pins:ak}{s:Shared}{R:V->V->Hp->Prop}(I:Inv X pins σ H s)(h:ta σ H λx H1=>tb σ H1 λy H2=>R x y H2)
  {α:Type} {Q:α->Shared->Prop} {f:Value->Value->Sem α}
  (hf:∀v u s2 x y H2,Inv X pins σ H2 s2->RelV x v->RelV y u->R x y H2->wpAny (model X.prog X.w) X.A (f v u) Q X.xe s2) :
  wpAny (model X.prog X.w) X.A (eval a X.env) (λv s₁=>wpAny (model X.prog X.w) X.A (eval b X.env) (λu s₂=>wpAny (model X.prog X.w) X.A (f v u) Q X.xe s₂) X.xe s₁) X.xe s:=by
 refine cN (ha pins s σ H _ I h) λv s1 bF=>?_;obtain⟨x,H1,I1,r1,q1⟩:=bF;refine cN (hb pins s1 σ H1 _ I1 q1) λu s2 bF=>?_;obtain⟨y,H2,I2,r2,q2⟩:=bF;exact hf v u s2 x y H2 I2 r1 r2 q2
noncomputable def vg(i:Nat):TE:=λσ H Q=>∃v,σ[i]?=some (some v)/\Q v H
noncomputable def tC(v:V):TE:=λ_ H Q=>Q v H
theorem nK{i:Nat}{x:Str}(hN:X.N[i]?=some x)(hv:HA X.env.scope x)(hd:(x==("__debug__" : Str))=false:=by decide)(vW:(x==("__classdict__" : Str))=false:=by decide):PE X (.Name x pos) (vg i):=by
 intro pins s σ H Q I h;obtain⟨v,e,h⟩:=h;obtain⟨m,hn,hl⟩:=I.loc;obtain⟨u,r,l⟩:=hl i x v hN e hv;have fin:EP X pins σ Q u s:=⟨v,H,I,r,h⟩
 rcases l with ⟨hk,hm⟩|⟨hk,c,hc,hcell⟩
 ·exact wpAny_Name (wpAny_loadName_local I.ok.kind hk hn hm fin) hd
 ·rcases hk with hk|hk
  ·exact wpAny_Name (wpAny_loadName_cell I.ok.kind hk hc hcell fin) hd
  ·exact wpAny_Name (wpAny_loadName_free I.ok.kind hk hc hcell fin vW) hd
theorem Jh{i j pos}:PE X (.Constant (.int i) j pos) (tC (.int i)):=λ_ _ _ H _ I h=>wpAny_Constant_int ⟨.int i,H,I.tok _,⟨_,rfl⟩,h⟩
theorem NM{b j pos}:PE X (.Constant (.bool b) j pos) (tC (.bl b)):=λ_ _ _ H _ I h=>Constant_bool ⟨.bl b,H,I,rfl,h⟩
theorem vy{j pos}:PE X (.Constant .none j pos) (tC .bu):=λ_ _ _ H _ I h=>Constant_none ⟨.bu,H,I,rfl,h⟩
theorem Bh{x j pos}:PE X (.Constant (.str x) j pos) (tC (.str x)):=λ_ _ _ H _ I h=>Calls.Constant_str ⟨.str x,H,I.tok _,⟨_,rfl⟩,h⟩
def Gl(X:Cx)(x:Str):Prop:=X.env.kindOf x=some .globalImplicit
theorem rC{pins:ak}{s:Shared}{x:Str}{u:Value}(I:Inv X pins σ H s)(hg:Gl X x)(hm:X.mg x=some u)(h:Q u s)
  (hd:(x==("__debug__" : Str))=false:=by decide):wpAny (model X.prog X.w) X.A (eval (.Name x pos) X.env) Q E s :=
 abf I.ok.kind hg (Calls.loadGlobal_global (by rw[I.ok.glob];exact I.mod.glob.keeps I.bk) hm h) hd
theorem gj{pins:ak}{s:Shared}{x:Str}{u:Value}(I:Inv X pins σ H s)(hg:Gl X x)(hm:X.mg x=none)(hv:bootBuiltins x=some u)(h:Q u s)
  (hn:x ≠ "__name__":=by decide) (hd:(x==("__debug__" : Str))=false:=by decide):wpAny (model X.prog X.w) X.A (eval (.Name x pos) X.env) Q E s:=by
 obtain⟨mb,h1,h2⟩:=I.mod.blt;exact abf I.ok.kind hg (Calls.loadGlobal_builtin (by rw[I.ok.glob];exact I.mod.glob.keeps I.bk) hm (by rw[I.ok.blt];exact h1.keeps I.bk) ((h2 x hn).trans hv) h) hd
theorem xl{x:Str}{v:V}{u:Value}(hg:Gl X x)(hm:X.mg x=some u)(r:RelV v u)(hd:(x==("__debug__" : Str))=false:=by decide):PE X (.Name x pos) (tC v) :=
 λ_ _ _ H _ I h=>rC I hg hm ⟨v,H,I,r,h⟩ hd
theorem xo{x:Str}{v:V}{u:Value}(hg:Gl X x)(hm:X.mg x=none)(hv:bootBuiltins x=some u)(r:RelV v u)(hn:x ≠ "__name__":=by decide)(hd:(x==("__debug__" : Str))=false:=by decide):PE X (.Name x pos) (tC v) :=
 λ_ _ _ H _ I h=>gj I hg hm hv ⟨v,H,I,r,h⟩ hn hd
variable {a b:Expr}{ta tb:TE}{pos:Pos}
noncomputable def PC(X:Cx)(op:CmpOp)(a b:Expr)(t:TE):Prop :=
 ∀(pins:ak) (s:Shared) (σ:St) (H:Hp) (Q:VK),Inv X pins σ H s->t σ H Q ->
  wpAny (model X.prog X.w) X.A (eval a X.env) (λv s₁=>wpAny (model X.prog X.w) X.A (eval b X.env) (λu s₂=>wpAny (model X.prog X.w) X.A (compareOp op v u) (EP X pins σ Q) X.xe s₂) X.xe s₁) X.xe s
theorem Bv(b:Expr){op:CmpOp}(h:op≠.In)(h2:op≠.NotIn):behindInMarks op b=false:=by
 have e1:(op==CmpOp.In)=false:=by cases op<;>first|rfl|exact absurd rfl h
 have e2:(op==CmpOp.NotIn)=false:=by cases op<;>first|rfl|exact absurd rfl h2
 cases b<;>simp[behindInMarks,e1,e2]
noncomputable def SK(ta:TE):TE:=λσ H Q=>ta σ H λx H1=>Q (.bl (decide (x=.bu))) H1
theorem RelV.Bt{x:V}{v:Value}(r:RelV x v):(v==Value.none)=decide (x=.bu):=by
 cases x with
 |bu=>cases r;rfl
 |bl _=>cases r;rfl
 |int _=>obtain⟨t,rfl⟩:=r;rfl
 |str _=>obtain⟨t,rfl⟩:=r;rfl
 |R8 _=>obtain⟨t,rfl⟩:=r;rfl
 |Mn _=>obtain⟨t,rfl⟩:=r;rfl
 |ref _=>cases r;rfl
 |ty _=>cases r;rfl
theorem Ji{j pos'}(ha:PE X a ta):PC X .Is a (.Constant .none j pos') (SK ta):=by
 intro pins s σ H Q I h;refine cN (ha pins s σ H _ I h) λv s1 bF=>?_;obtain⟨x,H1,I1,r1,q1⟩:=bF;exact Constant_none (is_none_gen ⟨.bl _,H1,I1,by rw[r1.Bt];rfl,q1⟩)
noncomputable def tB(t:TE):TT:=λσ H Q=>t σ H λx H1=>∃c,x=.bl c/\Q c H1
theorem I_{op:CmpOp}{t:TE}(h:PC X op a b t)(h1:behindInMarks op b=false:=by first|exact Bv _ (by decide) (by decide)|rfl):PT X (.Compare a [op] [b] pos) (tB t):=by
 intro pins s σ H Q I hw;refine wpAny_isTrue_Compare1 (cN (h pins s σ H _ I hw) λv s1 h1=>cN h1 λu s2 h2=>cN h2 λc s3 bF=>?_) h1;obtain⟨x,H1,I1,r1,q1⟩:=bF;obtain⟨d,rfl,q⟩:=q1;cases r1;exact aaM ⟨H1,I1,q⟩
theorem IZ{e:Expr}{t:TE}(h:PE X e t)(he:∀whole,isTrue e X.env whole=(do let v <- whole;standAt e.pos;holding [v] (truthy v)):=by intro _;rfl):PT X e (tB t):=by
 intro pins s σ H Q I hw;refine isTrue_plain (cN (h pins s σ H _ I hw) λv s1 bF=>?_) (he _);obtain⟨x,H1,I1,r1,q1⟩:=bF;obtain⟨d,rfl,q⟩:=q1;cases r1;exact aaM ⟨H1,I1,q⟩
variable {tA Q1:TT}{rest:av}
noncomputable def M3(t u:TT):TT:=λσ H Q=>t σ H λc H1=>if c=true then u σ H1 Q else Q false H1
noncomputable def WA(t u:TT):TT:=λσ H Q=>t σ H λc H1=>if c=true then Q true H1 else u σ H1 Q
noncomputable def SG(t:TT):TT:=λσ H Q=>t σ H λc H1=>Q (!c) H1
theorem EG(ha:PT X a tA):PW X (.BoolOp .And [a] pos) tA:=by
 intro wh pins s σ H Q I h;refine isTrue_and (cN (ha pins s σ H Q I h) λc s1 e=>?_);cases c with
 |true=>exact isTrue_and_nil e
 |false=>exact e
theorem IW(ha:PT X a tA):PW X (.BoolOp .Or [a] pos) tA:=by
 intro wh pins s σ H Q I h;refine isTrue_or (cN (ha pins s σ H Q I h) λc s1 e=>?_);cases c with
 |false=>exact isTrue_or_nil e
 |true=>exact e
theorem IY(ha:PT X a tA)(hb:PW X (.BoolOp .And (b::rest) pos) Q1):PW X (.BoolOp .And (a::b::rest) pos) (M3 tA Q1):=by
 intro wh pins s σ H Q I h;refine isTrue_and (cN (ha pins s σ H _ I h) λc s1 ⟨H1,I1,q1⟩=>?_);cases c with
 |true=>exact hb wh pins s1 σ H1 Q I1 q1
 |false=>exact⟨H1,I1,q1⟩
theorem ND(ha:PT X a tA)(hb:PW X (.BoolOp .Or (b::rest) pos) Q1):PW X (.BoolOp .Or (a::b::rest) pos) (WA tA Q1):=by
 intro wh pins s σ H Q I h;refine isTrue_or (cN (ha pins s σ H _ I h) λc s1 ⟨H1,I1,q1⟩=>?_);cases c with
 |true=>exact⟨H1,I1,q1⟩
 |false=>exact hb wh pins s1 σ H1 Q I1 q1
theorem I0(ha:PT X a tA):PT X (.UnaryOp .Not a pos) (SG tA):=by
 intro pins s σ H Q I h;exact isTrue_not (ha pins s σ H (λc H1=>Q (!c) H1) I h)
noncomputable def GO(ta tb:TE):TE:=λσ H Q=>ta σ H λx H1=>∃c,x=.bl c/\if c=true then tb σ H1 Q else Q (.bl false) H1
noncomputable def MU(ta tb:TE):TE:=λσ H Q=>ta σ H λx H1=>∃c,x=.bl c/\if c=true then Q (.bl true) H1 else tb σ H1 Q
noncomputable def MV(ta:TE):TE:=λσ H Q=>ta σ H λx H1=>∃c,x=.bl c/\Q (.bl (!c)) H1
theorem vx{op}{t:TE}(h:PE X a t):PE X (.BoolOp op [a] pos) t:=λpins s σ H Q I hw=>BoolOp_one (h pins s σ H Q I hw)
theorem vA(ha:PE X a ta)(hb:PE X (.BoolOp .And (b::rest) pos) tb):PE X (.BoolOp .And (a::b::rest) pos) (GO ta tb):=by
 intro pins s σ H Q I h;refine BoolOp_and (cN (ha pins s σ H _ I h) λv s1 bF=>?_);obtain⟨x,H1,I1,r1,q1⟩:=bF;obtain⟨c,rfl,q1⟩:=q1;cases r1;refine aaM ?_;cases c with
 |true=>exact hb pins s1 σ H1 Q I1 q1
 |false=>exact⟨.bl false,H1,I1,rfl,q1⟩
theorem NJ(ha:PE X a ta)(hb:PE X (.BoolOp .Or (b::rest) pos) tb):PE X (.BoolOp .Or (a::b::rest) pos) (MU ta tb):=by
 intro pins s σ H Q I h;refine BoolOp_or (cN (ha pins s σ H _ I h) λv s1 bF=>?_);obtain⟨x,H1,I1,r1,q1⟩:=bF;obtain⟨c,rfl,q1⟩:=q1;cases r1;refine aaM ?_;cases c with
 |false=>exact hb pins s1 σ H1 Q I1 q1
 |true=>exact⟨.bl true,H1,I1,rfl,q1⟩
theorem Bj(ha:PE X a ta):PE X (.UnaryOp .Not a pos) (MV ta):=by
 intro pins s σ H Q I h;refine UnaryOp_ (cN (ha pins s σ H _ I h) λv s1 bF=>?_);obtain⟨x,H1,I1,r1,q1⟩:=bF;obtain⟨c,rfl,q1⟩:=q1;cases r1;exact not_of (aaM ⟨.bl (!c),H1,I1,rfl,q1⟩)
noncomputable def Yw(t:TT)(ta tb:TE):TE:=λσ H Q=>t σ H λc H1=>if c=true then ta σ H1 Q else tb σ H1 Q
theorem NK{c:Expr}(hc:PT X c tA)(ha:PE X a ta)(hb:PE X b tb):PE X (.IfExp c a b pos) (Yw tA ta tb):=by
 intro pins s σ H Q I h;refine wpAny_IfExp (cN (hc pins s σ H _ I h) λd s1 ⟨H1,I1,q1⟩=>?_);cases d with
 |true=>exact ha pins s1 σ H1 Q I1 q1
 |false=>exact hb pins s1 σ H1 Q I1 q1
end
end L2
namespace L2
open PySem PySem.Spec PyProof.Rows
def dE(K:ao)(H:Hp)(a:Addr)(xs:af):Prop :=
 Rd H a (.lst xs) \/
  ∃(o:Obj) (aI:aR) (n:Nat),K.lookup a=some o/\o.cls=.type "list" /\ o.dict=none/\o.data=.seq aI n/\aI.size<=sizeLine/\Vals xs aI.toList
def aW(K:ao)(H:Hp)(a:Addr)(xs:af):Prop :=
 Rd H a (.tup xs) \/
  ∃(o:Obj) (aI:aR) (n:Nat),K.lookup a=some o/\o.cls=.type "tuple" /\ o.data=.seq aI n/\aI.size<=sizeLine/\Vals xs aI.toList
noncomputable def Wc:Value->Option V
 |.none=>some .bu
 |.bool b=>some (.bl b)
 |.int i _=>some (.int i)
 |.str x _=>some (.str x)
 |.bytes b _=>some (.R8 b)
 |.float b _=>some (.Mn b)
 |.ref a=>some (.ref a)
 |.type n=>some (.ty n)
 |_=>none
theorem RelV.abs{x:V}{u:Value}(r:RelV x u):Wc u=some x:=by
 cases x with
 |bu=>cases r;rfl
 |bl _=>cases r;rfl
 |int _=>obtain⟨t,rfl⟩:=r;rfl
 |str _=>obtain⟨t,rfl⟩:=r;rfl
 |R8 _=>obtain⟨t,rfl⟩:=r;rfl
 |Mn _=>obtain⟨t,rfl⟩:=r;rfl
 |ref _=>cases r;rfl
 |ty _=>cases r;rfl
theorem RelV.inj{x y:V}{u:Value}(r:RelV x u)(q:RelV y u):x=y:=aao (r.abs.symm.trans q.abs)
theorem Vals.inj:∀{xs ys:af} {us:ai},Vals xs us->Vals ys us->xs=ys
 |_,_,_,.nil,.nil=>rfl
 |_,_,_,.cons r t,.cons r' t'=>by rw[r.inj r',Vals.inj t t']
variable {K:ao}
section
variable {X:Cx}{pins:ak}{σ:St}{H:Hp}{s:Shared}{a:Addr}{xs ys:af}
theorem dE.of(h:H a=some (.lst xs)):dE K H a xs:=.inl (.inl h)
theorem aW.of(h:H a=some (.tup xs)):aW K H a xs:=.inl (.inl h)
theorem Inv.list(I:Inv X pins σ H s)(h:dE X.K H a xs):∃aI:ai,Vals xs aI/\PlainL s.heap a aI.toArray/\xs.length<=sizeLine:=by
 rcases h with h|⟨o,aI,n,hk,hc,hd,hs,hz,r⟩
 ·obtain⟨z,aI,n,r,e⟩:=h.ok I.cC;exact⟨aI,r,⟨_,n,e,rfl,rfl,rfl⟩,z⟩
 ·refine⟨aI.toList,r,⟨o,n,I.xH a o hk,hc,hd,by simpa using hs⟩,?_⟩;have e:=r.length;simp only[Array.length_toList]at e;left
theorem Inv.tuple(I:Inv X pins σ H s)(h:aW X.K H a xs):∃aI:ai,Vals xs aI/\IsTup s.heap a aI.toArray/\xs.length<=sizeLine:=by
 rcases h with h|⟨o,aI,n,hk,hc,hs,hz,r⟩
 ·obtain⟨z,aI,r,p⟩:=h.ok I.cC;exact⟨aI,r,p,z⟩
 ·refine⟨aI.toList,r,⟨o,I.xH a o hk,hc,n,by simpa using hs⟩,?_⟩;have e:=r.length;simp only[Array.length_toList]at e;left
theorem Inv.ki(I:Inv X pins σ H s)(h:dE X.K H a xs)(h':dE X.K H a ys):xs=ys:=by
 obtain⟨aI,r,⟨o,n,e,_,_,d⟩,_⟩:=I.list h;obtain⟨its',r',⟨o',n',e',_,_,d'⟩,_⟩:=I.list h';rw[e]at e';cases e';rw[d]at d';injection d' with d1 _;have:aI=its':=by simpa using congrArg Array.toList d1
 subst this;exact r.inj r'
theorem Inv.pW(I:Inv X pins σ H s)(h:aW X.K H a xs)(h':aW X.K H a ys):xs=ys:=by
 obtain⟨aI,r,⟨o,e,_,n,d⟩,_⟩:=I.tuple h;obtain⟨its',r',⟨o',e',_,n',d'⟩,_⟩:=I.tuple h';rw[e]at e';cases e';rw[d]at d';injection d' with d1 _;have:aI=its':=by simpa using congrArg Array.toList d1
 subst this;exact r.inj r'
end
noncomputable abbrev Cx.m7(X:Cx)(E:aA):Cx:={ X with xe:=E }
abbrev Cx.xw(X:Cx):Cx:=X.m7 λ_ _=>False
theorem Cx.Ok.m7{X:Cx}(ok:X.Ok)(E:aA):(X.m7 E).Ok :=
 ⟨ok.mod,ok.kind,ok.glob,ok.blt,ok.above,ok.inj,ok.has,ok.Hu,ok.hd,ok.frames,ok.Ik,ok.Qi,ok.bs,ok.De,ok.tU,ok.v_,ok.jK,ok.z8⟩
variable {E:Value->Shared->Prop}{X:Cx}
theorem Cx.Ok.gX(ok:(X.m7 E).Ok):X.Ok :=
 ⟨ok.mod,ok.kind,ok.glob,ok.blt,ok.above,ok.inj,ok.has,ok.Hu,ok.hd,ok.frames,ok.Ik,ok.Qi,ok.bs,ok.De,ok.tU,ok.v_,ok.jK,ok.z8⟩
section
variable {X:Cx}{pins:ak}{σ:St}{H:Hp}{s:Shared}{E:aA}
theorem Inv.m7(I:Inv X pins σ H s)(E:aA):Inv (X.m7 E) pins σ H s:=⟨I.ok.m7 E,I.os,I.bare,I.base,I.loc,I.cell,I.free,I.fN,I.pin,I.cC,I.len⟩
theorem Inv.gX(I:Inv (X.m7 E) pins σ H s):Inv X pins σ H s:=⟨I.ok.gX,I.os,I.bare,I.base,I.loc,I.cell,I.free,I.fN,I.pin,I.cC,I.len⟩
theorem SP.gX{D:Ends}{f:Flow}{s':Shared}(h:SP (X.m7 E) pins D f s'):SP X pins D f s':=by
 cases f with
 |next=>obtain⟨σ',H',I,q⟩:=h;exact⟨σ',H',I.gX,q⟩
 |brk=>obtain⟨σ',H',I,q⟩:=h;exact⟨σ',H',I.gX,q⟩
 |cont=>obtain⟨σ',H',I,q⟩:=h;exact⟨σ',H',I.gX,q⟩
 |ret u=>obtain⟨v,σ',H',I,r,q⟩:=h;exact⟨v,σ',H',I.gX,r,q⟩
theorem ig.xw{st:aS}{t:TS}(h:ig X.xw st t):ig X st t:=λpins s σ H D I hw =>
 aau (h pins s σ H D (I.m7 _) hw) (λ_ _ q=>q.gX) λ_ _ z=>False.elim z
end
variable {H:Hp}{σ:L2.St}
section
variable {X:Cx}{st:Stmt}{rest:aS}{t u:TS}{e:Expr}{te:TE}{pos:Pos}
noncomputable def GL:TS:=λD σ H=>D.nx σ H
noncomputable def SA(t u:TS):TS:=λD σ H=>t { D with nx:=u D } σ H
theorem w8:ig X [] GL:=λ_ _ σ H _ I h=>abi ⟨σ,H,I,h⟩
theorem gx(h1:PS X st t)(h2:ig X rest u):ig X (st::rest) (SA t u):=by
 intro pins s σ H D I h;refine wpAny_execs_cons (cN (h1 pins s σ H { D with nx:=u D } I h) λf s1 q=>?_);cases f with
 |next =>
  obtain⟨σ',H',I',q⟩:=q;exact h2 pins s1 σ' H' D I' q
 |ret v=>exact q
 |brk=>exact q
 |cont=>exact q
theorem jf(h1:PS X st t):ig X [st] t:=by
 intro pins s σ H D I h;refine wpAny_execs_cons (cN (h1 pins s σ H D I h) λf s1 q=>?_);cases f with
 |next=>exact abi q
 |ret v=>exact q
 |brk=>exact q
 |cont=>exact q
noncomputable def Ic:TS:=λD σ H=>D.bk σ H
noncomputable def MY:TS:=λD σ H=>D.ct σ H
theorem Rh:PS X (.Pass pos) GL:=λ_ _ σ H _ I h=>wpAny_Pass ⟨σ,H,I,h⟩
theorem NG:PS X (.Break pos) Ic:=λ_ _ σ H _ I h=>wpAny_Break ⟨σ,H,I,h⟩
theorem GW:PS X (.Continue pos) MY:=λ_ _ σ H _ I h=>wpAny_Continue ⟨σ,H,I,h⟩
theorem Inv.quiet{pins:ak}{s:Shared}(I:Inv X pins σ H s):interactive X.env=false:=by simp[interactive,I.ok.kind]
noncomputable def MX(te:TE):TS:=λD σ H=>te σ H λ_ H1=>D.nx σ H1
theorem qV(he:PE X e te)(hs:swapsWith e none pos.line X.env=pure false:=by rfl):PS X (.Expr e pos) (MX te):=by
 intro pins s σ H D I h;exact wpAny_Expr_any (cN (he pins s σ H _ I h) λv s1 ⟨x,H1,I1,r1,q1⟩=>⟨σ,H1,I1,q1⟩) I.quiet hs
noncomputable def SE(te:TE):TS:=λD σ H=>te σ H D.rt
theorem qU(he:PE X e te):PS X (.Return (some e) pos) (SE te):=by
 intro pins s σ H D I h;exact wpAny_Return_some (cN (he pins s σ H _ I h) λv s1 ⟨x,H1,I1,r1,q1⟩=>⟨x,σ,H1,I1,r1,q1⟩)
noncomputable def MS:TS:=λD _ H=>D.rt .bu H
theorem Rg:PS X (.Return none pos) MS:=λ_ _ σ H _ I h=>wpAny_Return_none ⟨.bu,σ,H,I,rfl,h⟩
noncomputable def SM(c:TT)(t u:TS):TS:=λD σ H=>c σ H λb H1=>if b=true then t D σ H1 else u D σ H1
theorem w9{c:Expr}{a b:aS}{tc:TT}(hc:PT X c tc)(ha:ig X a t)(hb:ig X b u):PS X (.If c a b pos) (SM tc t u):=by
 intro pins s σ H D I h;refine wpAny_If (cN (hc pins s σ H _ I h) λd s1 ⟨H1,I1,q1⟩=>?_);cases d with
 |true=>exact ha pins s1 σ H1 D I1 q1
 |false=>exact hb pins s1 σ H1 D I1 q1
noncomputable def Ib:TS:=λ_ _ _=>False
end
noncomputable abbrev TG:=V->St->Hp->(St->Hp->Prop)->Prop
noncomputable abbrev Gy:=af->St->Hp->(St->Hp->Prop)->Prop
def PG(X:Cx)(target:Expr)(t:TG):Prop :=
 ∀(pins:ak) (s:Shared) (σ:St) (H:Hp) (v:V) (u:Value) (Q:St->Hp->Prop),Inv X pins σ H s->RelV v u->t v σ H Q ->
  wpAny (model X.prog X.w) X.A (assign target X.env u) (λ_ s'=>∃σ' H',Inv X pins σ' H' s'/\Q σ' H') X.xe s
def Mw(X:Cx)(ts:av)(t:Gy):Prop :=
 ∀(pins:ak) (s:Shared) (σ:St) (H:Hp) (vs:af) (us:ai) (Q:St->Hp->Prop),Inv X pins σ H s->Vals vs us->t vs σ H Q ->
  wpAny (model X.prog X.w) X.A (assignInOrder ((assignEach ts X.env).map (·.2)) us) (λ_ s'=>∃σ' H',Inv X pins σ' H' s'/\Q σ' H') X.xe s
noncomputable abbrev LI:=V->V->V->Hp->(Hp->Prop)->Prop
def QQ(X:Cx)(t:LI):Prop :=
 ∀(pins:ak) (s:Shared) (σ:St) (H:Hp) (o i v:V) (ov iv u:Value) (Q:Hp->Prop),Inv X pins σ H s->RelV o ov->RelV i iv->RelV v u->t o i v H Q ->
  wpAny (model X.prog X.w) X.A (setItem ov iv u) (λ_ s'=>∃H',Inv X pins σ H' s'/\Q H') X.xe s
noncomputable abbrev Sf:=V->V->Hp->VK->Prop
def Wg(X:Cx)(op:Operator)(t:Sf):Prop :=
 ∀(pins:ak) (s:Shared) (σ:St) (H:Hp) (x y:V) (v u:Value) (Q:VK),Inv X pins σ H s->RelV x v->RelV y u->t x y H Q ->
  wpAny (model X.prog X.w) X.A (inplaceOp op v u) (EP X pins σ Q) X.xe s
variable {es:av}{pos':Pos}{te:TE}{tg:Expr}
section
variable {X:Cx}{pos:Pos}
noncomputable def oi(i:Nat):TG:=λv σ H Q=>Q (σ.set i (some v)) H
theorem qX{i:Nat}{x:Str}(hN:X.N.Nodup)(hi:X.N[i]?=some x)(hx:Loc X.env.scope x)(hf:X.fn x=true\/X.env.scope.names.lookup x=some .local:=by first|exact .inl rfl|exact .inr rfl|assumption):PG X (.Name x pos) (oi i):=by
 intro pins s σ H v u Q I r h;exact wpAny_assign_Name (gw I hN hi hx r (λs' I'=>⟨_,H,I',h⟩) hf)
noncomputable def Kz:Gy:=λvs σ H Q=>vs=[]/\Q σ H
noncomputable def Cs(t:TG)(u:Gy):Gy:=λvs σ H Q=>∃v r,vs=v::r/\t v σ H λσ' H'=>u r σ' H' Q
theorem xi:Mw X [] Kz:=by
 intro pins s σ H vs us Q I r h;obtain⟨e,h⟩:=h;subst e;cases r;exact assignInOrder_nil ⟨σ,H,I,h⟩
theorem tR{e:Expr}{t:TG}{u:Gy}(h1:PG X e t)(h2:Mw X es u)
  (hs:(assignEach (e::es) X.env).map (·.2)=assign e X.env::(assignEach es X.env).map (·.2):=by rfl):Mw X (e::es) (Cs t u):=by
 intro pins s σ H vs us Q I r h;obtain⟨v,vr,e1,h⟩:=h;subst e1;cases r with
 |cons r rr =>
  rw[hs];refine assignInOrder_cons (cN (h1 pins s σ H _ _ _ I r h) λ_ s1 bF=>?_);obtain⟨σ1,H1,I1,q1⟩:=bF;exact h2 pins s1 σ1 H1 _ _ Q I1 rr q1
def Vz(K:ao)(n:Nat)(t:Gy):TG:=λv σ H Q=>∃a xs,v=.ref a/\aW K H a xs/\xs.length=n/\t xs σ H Q
theorem vt{k:Nat}{t:Gy}{n:Nat}(hc:X.calm=true)(h:Mw X es t)
  (hn:(assignEach es X.env).length=n:=by rfl) (mF:(assignEach es X.env).findIdx? (·.1)=none:=by rfl):PG X (.Tuple es k pos) (Vz X.K n t):=by
 intro pins s σ H v u Q I r hw;obtain⟨a,xs,e1,hq,hl,hw⟩:=hw;subst e1;cases r;obtain⟨aI,rv,ht,hz⟩:=I.tuple hq;refine assign_Tuple_tuple (I.ok.hd hc) ht (by simp[hn,<- hl,rv.length]) mF λh' hx=>?_;have I1:Inv X pins σ H { s with heap:=h' }:=I.kept (t':=s.toks) λb o e=>hx b o (aal (aaf e)) e;exact h pins _ σ H xs _ Q I1 (by simpa using rv) hw
noncomputable def VA(to ti:TE)(t:LI):TG:=λv σ H Q=>to σ H λo H1=>ti σ H1 λi H2=>t o i v H2 λH3=>Q σ H3
theorem Jd{o i:Expr}{to ti:TE}{t:LI}(ho:PE X o to)(hi:PE X i ti)(hs:QQ X t)
  (ha:∀v,assign (.Subscript o i pos) X.env v=(do
   let ov <- holding [v] (eval o X.env)
   let iv <- holding [v,ov] (eval i X.env)
   standAt pos
   holding [v,ov,iv] (setItem ov iv v)
   release [v,ov,iv] []):=by intro _;rfl):PG X (.Subscript o i pos) (VA to ti t):=by
 intro pins s σ H v u Q I r h;rw[ha];refine aaa (aaB (cN (ho pins s σ H _ I h) λov s1 bF=>?_));obtain⟨x,H1,I1,r1,q1⟩:=bF;refine aaa (aaB (cN (hi pins s1 σ H1 _ I1 q1) λiv s2 bF=>?_));obtain⟨y,H2,I2,r2,q2⟩:=bF;refine aaa (ab_ (aaa (aaB (cN (hs pins s2 σ H2 x y v ov iv u _ I2 r1 r2 r q2) λ_ s3 bF=>?_))));obtain⟨H3,I3,q3⟩:=bF;exact wpAny_release ⟨σ,H3,I3,q3⟩
noncomputable def M1(te:TE)(g:TG):TS:=λD σ H=>te σ H λx H1=>g x σ H1 D.nx
theorem qW{e:Expr}{g:TG}(he:PE X e te)(hg:PG X tg g)(hs:swapsWithSole [tg] e pos.line X.env=pure false:=by rfl)(hw:swappedStores [tg] e X.env=pure none:=by rfl)
  (h1:(assignEach [tg] X.env).map (·.2)=[assign tg X.env]:=by rfl):PS X (.Assign [tg] e pos) (M1 te g):=by
 intro pins s σ H D I h;refine wpAny_Assign_stores (cN (he pins s σ H _ I h) λv s1 bF=>?_) hs hw;obtain⟨x,H1,I1,r1,q1⟩:=bF;rw[h1];exact cN (hg pins s1 σ H1 x v _ I1 r1 q1) λ_ s2 q=>q
theorem vq{i:Nat}{x:Str}{e:Expr}(hN:X.N.Nodup)(hi:X.N[i]?=some x)(hx:Loc X.env.scope x)(he:PE X e te)(hs:swapsWith e (some (.Name x pos')) pos.line X.env=pure false:=by rfl)(hf:X.fn x=true\/X.env.scope.names.lookup x=some .local:=by first|exact .inl rfl|exact .inr rfl|assumption):
  PS X (.Assign [.Name x pos'] e pos) (M1 te (oi i)):=by
 intro pins s σ H D I h;refine wpAny_Assign_Name (cN (he pins s σ H _ I h) λv s1 bF=>?_) hs;obtain⟨y,H1,I1,r1,q1⟩:=bF;exact gw I1 hN hi hx r1 (λs2 I2=>⟨_,H1,I2,q1⟩) hf
noncomputable def SF(i j:Nat)(ta:TA):TS:=λD σ H=>ta σ H λvs H1=>∃v w,vs=[v,w]/\D.nx ((σ.set i (some v)).set j (some w)) H1
theorem Ja{i j:Nat}{x y:Str}{a b:Expr}{ta:TA}{px py pt:Pos}{kt k2 LS}(hc:X.calm=true)(hN:X.N.Nodup)(hi:X.N[i]?=some x)(hj:X.N[j]?=some y)(jy:i≠j)
  (hx:X.env.scope.names.lookup x=some .local) (hy:X.env.scope.names.lookup y=some .local) (ha:PA X [a,b] ta)
  (hw:swappedStores [.Tuple [.Name x px,.Name y py] kt pt] (.Tuple [a,b] k2 LS) X.env=pure (some [x,y]))
  (hs:swapsWithSole [.Tuple [.Name x px,.Name y py] kt pt] (.Tuple [a,b] k2 LS) pos.line X.env=pure false:=by rfl) :
  PS X (.Assign [.Tuple [.Name x px,.Name y py] kt pt] (.Tuple [a,b] k2 LS) pos) (SF i j ta):=by
 intro pins s σ H D I h;rw[exec_Assign_arm];refine aaa (ab_ ?_);rw[hs];refine aaa (aad ?_);rw[if_neg (by decide)];refine aaa (Tuple_ (cN (ha _ pins s σ H _ I h) λus s1 bF=>?_));obtain⟨vs,H1,I1,r1,q1⟩:=bF;obtain⟨v,w,e1,q1⟩:=q1;subst e1;obtain⟨u1,u2,rfl,rv,lE⟩:∃u1 u2,us=[u1,u2]/\RelV v u1/\RelV w u2:=by
  cases r1 with
  |cons p q =>
   cases q with
   |cons p' q' =>
    cases q';exact⟨_,_,rfl,p,p'⟩
 refine aaF ?_ (by show 2<=sizeLine;decide);have I2:Inv X pins σ H1 { s1 with heap:=s1.heap.push { cls:=.type "tuple",data:=.seq [u1,u2].toArray } }:=I1.kept (t':=s1.toks) λb o e=>aae _ e;rw[hw];refine aaa (aad ?_);show wpAny (model X.prog X.w) X.A (do rule "assign.swapped-stores";let items <- unpackItems (.ref s1.heap.objs.size) 2 none;assignInOrder [λv=>bindName X.env y v,λv=>bindName X.env x v] items.reverse;pure Flow.next) _ _ _;refine aaa (wpAny_rule (aaa (unpackItems_tuple (items:=#[u1,u2]) (I.ok.hd hc) (IsTup.new s1.heap _) λh' z4=>?_)));have I3:=I2.kept (h':=h') (t':=s1.toks) λb o e=>z4 b o (aal (aaf e)) e;show wpAny _ _ (assignInOrder [λv=>bindName X.env y v,λv=>bindName X.env x v] [u2,u1] >>= λ_=>pure Flow.next) _ _ _;refine aaa (assignInOrder_cons (wpAny_bindName (gw I3 hN hj (.inl hy) lE (λs2 I4=>?_) (.inr hy))));refine assignInOrder_cons (wpAny_bindName (gw I4 hN hi (.inl hx) rv (λs3 I5=>assignInOrder_nil (aad ?_)) (.inr hx)));rw[List.set_comm _ _ (Ne.symm jy)]at I5;exact⟨_,H1,I5,q1⟩
noncomputable def SQ(i:Nat)(te:TE)(ti:Sf):TS:=λD σ H=>∃x,σ[i]?=some (some x)/\te σ H λy H1=>ti x y H1 λz H2=>D.nx (σ.set i (some z)) H2
theorem TC{i:Nat}{x:Str}{e:Expr}{op:Operator}{ti:Sf}(hN:X.N.Nodup)(hi:X.N[i]?=some x)(hx:Loc X.env.scope x)(he:PE X e te)(ho:Wg X op ti)(hf:X.fn x=true\/X.env.scope.names.lookup x=some .local:=by first|exact .inl rfl|exact .inr rfl|assumption):
  PS X (.AugAssign (.Name x pos') op e pos) (SQ i te ti):=by
 intro pins s σ H D I h;obtain⟨v,e1,h⟩:=h;obtain⟨m,hn,hl⟩:=I.loc;have QV:HA X.env.scope x:=by rcases hx with k|k;exact .inl k;exact .inr (.inl k)
 obtain⟨u,r,l⟩:=hl i x v hi e1 QV;refine wpAny_AugAssign_Name ?_;have go:wpAny (model X.prog X.w) X.A (eval e X.env) (λw s₂=>wpAny (model X.prog X.w) X.A (inplaceOp op u w) (λr s₃=>wpAny (model X.prog X.w) X.A (storeName X.env x r) (λ_=>SP X pins D .next) X.xe s₃) X.xe s₂) X.xe s:=by
  refine cN (he pins s σ H _ I h) λw s1 bF=>?_;obtain⟨y,H1,I1,r1,q1⟩:=bF;refine cN (ho pins s1 σ H1 v y u w _ I1 r r1 q1) λz s2 bF=>?_;obtain⟨zv,H2,I2,r2,q2⟩:=bF;exact gw I2 hN hi hx r2 (λs3 I3=>⟨_,H2,I3,q2⟩) hf
 rcases l with ⟨hk,hm⟩|⟨hk,c,hc,hcell⟩
 ·exact wpAny_loadName_local I.ok.kind hk hn hm go
 ·rcases hk with hk|hk
  ·exact wpAny_loadName_cell I.ok.kind hk hc hcell go
  ·rcases hx with k|k
   ·have:X.env.scope.names.lookup x=some .free:=hk;rw[k]at this;cases this
   ·have:X.env.scope.names.lookup x=some .free:=hk;rw[k]at this;cases this
noncomputable def W9(f:Int->Int->Int):Sf:=λx y H Q=>∃i j,x=.int i/\y=.int j/\Q (.int (f i j)) H
theorem Ur:Wg X .Add (W9 λi j=>i+j):=by
 intro pins s σ H x y v u Q I r1 r2 h;obtain⟨i,j,e1,e2,q⟩:=h;subst e1;subst e2;obtain⟨t,rfl⟩:=r1;obtain⟨t',rfl⟩:=r2;exact iadd_int ⟨.int _,H,I.tok _,⟨_,rfl⟩,q⟩
theorem Uq:Wg X .Sub (W9 λi j=>i - j):=by
 intro pins s σ H x y v u Q I r1 r2 h;obtain⟨i,j,e1,e2,q⟩:=h;subst e1;subst e2;obtain⟨t,rfl⟩:=r1;obtain⟨t',rfl⟩:=r2;exact isub_int ⟨.int _,H,I.tok _,⟨_,rfl⟩,q⟩
end
section
variable {X:Cx}{pos:Pos}
noncomputable def H_(c:TT)(tb:TS):TS:=λD σ H=>∃W:Nat->St->Hp->Prop,(∃m,W m σ H)/\∀m σ H,W m σ H ->
 c σ H λb H1=>if b=true then ∃N:St->Hp->Prop,(∀σ' H',N σ' H'->∃m',m'<m/\W m' σ' H')/\tb { D with nx:=N,ct:=N,bk:=D.nx } σ H1 else D.nx σ H1
theorem A6{c:Expr}{body:aS}{tc:TT}{tb:TS}(hp:PassesOwn (model X.prog X.w) X.A X.env X.xe)(hc:PT X c tc)(hb:ig X body tb):PS X (.While c body [] pos) (H_ tc tb):=by
 intro pins s σ H D I h;obtain⟨W,⟨m0,w0⟩,turn⟩:=h;refine wpAny_While (codeAny_whileLoop (λn s'=>∃σ' H',Inv X pins σ' H' s'/\W n σ' H') ?_ m0 ⟨σ,H,I,w0⟩);rintro n s1 ⟨σ1,H1,I1,w1⟩;refine aa3 hp (cN (hc pins s1 σ1 H1 _ I1 (turn n σ1 H1 w1)) λb s2 ⟨H2,I2,q2⟩=>?_);cases b with
 |true =>
  obtain⟨N,hN,q2⟩:=q2;rw[if_pos rfl];refine aa3 hp (cN (hb pins s2 σ1 H2 _ I2 q2) λf s3 q3=>?_);cases f with
  |next =>
   obtain⟨σ3,H3,I3,n3⟩:=q3;obtain⟨m',hm,w3⟩:=hN σ3 H3 n3;exact⟨m',hm,σ3,H3,I3,w3⟩
  |cont =>
   obtain⟨σ3,H3,I3,n3⟩:=q3;obtain⟨m',hm,w3⟩:=hN σ3 H3 n3;exact⟨m',hm,σ3,H3,I3,w3⟩
  |brk=>exact q3
  |ret v=>exact q3
 |false =>
  rw[if_neg Bool.false_ne_true];exact abi ⟨σ1,H2,I2,q2⟩
end
structure It where
 go:Nat->Hp->Prop
 uN:Nat->Hp->V->Hp->Prop
 stop:Nat->Hp->Prop
noncomputable def oY(X:Cx)(pins:ak)(H:Hp)(b:Addr):Prop :=
 H b=none/\b≠X.env.locals/\b∉X.fs/\(b∈X.ex\/X.s₀.heap.objs.size<=b)/\(∀x c,X.env.cells.lookup x=some c->c≠b)/\∀p∈X.pn++pins,p.1≠b
theorem Inv.Cu{pins:ak}{H':Hp}{s:Shared}{b:Addr}(I:Inv X pins σ H s)(hb:s.heap.objs.size<=b)(hn:H' b=none):oY X pins H' b:=by
 refine⟨hn,aav (aaj I.lt hb),I.Jz hb,.inr (aas I.sz hb),λx c e z=>?_,λp hp z=>?_⟩
 ·obtain⟨v,q⟩:=I.cell x c e;exact absurd (aaj q.lt (by rw[z];exact hb)) (aax _)
 ·exact absurd (aaj (aaf (I.pin p hp).1) (by rw[z];exact hb)) (aax _)
structure Turn(P:aE)(w:World)(K:ao)(tg:Expr)(J:It)(fp:bc)(it:Addr)(tn:Nat->Heap->Prop):Prop where
 mem:it∈fp
 obj:∀i h,tn i h->∀b∈fp,∃o,h.get? b=some o/\∀v,o.data≠.cell v
 keep:∀i h h',tn i h->(∀b∈fp,∀o,h.get? b=some o->h'.get? b=some o)->tn i h'
 item:∀(X:Cx),X.prog=P->X.w=w->X.K=K->X.calm=true->∀(i:Nat) (pins:ak) (s:Shared) (σ:St) (H:Hp) (E:aA),Inv X pins σ H s->(∀b∈fp,oY X pins H b)->tn i s.heap->J.go i H ->
  wpAny (model P w) X.A (pyNext (.ref it)) (λr s1=>∃u,r=some u /\
   wpAny (model P w) X.A (letOwnedTupleGo tg (.ref it) u) (λ_ s2=>∃x H',Inv X pins σ H' s2/\RelV x u/\J.uN i H x H'/\tn (i+1) s2.heap/\∀b∈fp,H' b=none) E s1) E s
 done:∀(X:Cx),X.prog=P->X.w=w->X.K=K->X.calm=true->∀(i:Nat) (pins:ak) (s:Shared) (σ:St) (H:Hp) (E:aA),Inv X pins σ H s->(∀b∈fp,oY X pins H b)->tn i s.heap->J.stop i H ->
  wpAny (model P w) X.A (pyNext (.ref it)) (λr s1=>r=none/\Inv X pins σ H s1) E s
 self:∀(A:aG) (i:Nat) (s:Shared) (Q:aA) (E:aA),tn i s.heap->Q (.ref it) s->wpAny (model P w) A (pyIter (.ref it)) Q E s
noncomputable abbrev TI:=St->Hp->(It->Hp->Prop)->Prop
def Aa(X:Cx)(pins:ak)(σ:St)(tg:Expr)(R:It->Hp->Prop)(Ug:Value)(s2:Shared):Prop :=
 ∃(it:Addr) (fp:bc) (tn:Nat->Heap->Prop) (J:It) (H':Hp),Ug=.ref it/\Inv X pins σ H' s2/\Turn X.prog X.w X.K tg J fp it tn/\tn 0 s2.heap/\(∀b∈fp,oY X pins H' b)/\R J H'
def PI(X:Cx)(tg iter:Expr)(wi:TI):Prop :=
 ∀(pins:ak) (s:Shared) (σ:St) (H:Hp) (R:It->Hp->Prop),Inv X pins σ H s->wi σ H R ->
  wpAny (model X.prog X.w) X.A (eval iter X.env) (λv s1=>wpAny (model X.prog X.w) X.A (pyIter v) (Aa X pins σ tg R) X.xe s1) X.xe s
theorem xY{M:Model}{A:aG}{s:Shared}{it:Addr}{u:Value}{o:Obj}{n:String}{vs:aR}{Q:Unit->Shared->Prop}(ho:s.heap.get? it=some o)(hc:o.cls=.type n)(hd:o.data=.fields vs)
    (hn:["enumerate","zip","dict_itemiterator","dict_reverseitemiterator","odict_iterator","itertools.zip_longest","itertools.pairwise"].contains n=false) (hQ:Q () s):wpAny M A (letOwnedTupleGo tg (.ref it) u) Q E s:=by
  unfold letOwnedTupleGo;cases tg<;>first
    |exact aad hQ
    | (cases u<;>first
        |exact aad hQ
        | (refine aaa (wpAny_load ho ?_)
           rw[hc,hd];show wpAny M A (if (["enumerate","zip","dict_itemiterator","dict_reverseitemiterator","odict_iterator","itertools.zip_longest","itertools.pairwise"].contains n&&vs[0]?==some (rawInt _))=true then _ else _) Q E s;rw[if_neg (by intro h;rw[hn,Bool.false_and]at h;cases h)];exact aad hQ))
def My(K:ao)(a:Addr):It :=
 ⟨λi H=>∃xs x,dE K H a xs/\xs[i]?=some x,λi H x H'=>H'=H/\∀xs,dE K H a xs->xs[i]?=some x,λi H=>∃xs,dE K H a xs/\xs.length<=i⟩
def Mx(K:ao)(a:Addr):It :=
 ⟨λi H=>∃xs x,aW K H a xs/\xs[i]?=some x,λi H x H'=>H'=H/\∀xs,aW K H a xs->xs[i]?=some x,λi H=>∃xs,aW K H a xs/\xs.length<=i⟩
noncomputable def zW(lo:Int)(n:Nat):It:=⟨λi _=>i<n,λi H x H'=>H'=H/\x=.int (lo+i),λi _=>n<=i⟩
variable {P:aE}{w:World}
theorem yH(a it:Addr):Turn P w K tg (My K a) [it] it (λi h=>h.IsListIter it a i) where
 mem:=by simp
 obj:=λi h st b hb=>by
  have e:b=it:=by simpa using hb
  subst e;obtain⟨o,e,c,d⟩:=st;exact⟨o,e,λv z=>by rw[d]at z;cases z⟩
 keep:=λi h h' st k=>st.at λo e=>k it (by simp) o e
 item:=by
  intro X hP hw hK hc i pins s σ H E I hf st hg;subst hP hw hK;obtain⟨xs,x,hq,hx⟩:=hg;obtain⟨aI,rv,p,hz⟩:=I.list hq;obtain⟨u,hu,ru⟩:=rv.get hx;obtain⟨f0,f1,f2,f3,f4,f5⟩:=hf it (by simp);refine wpAny_pyNext_list_item st p.isList (x:=u) (by simpa using hu) λh' l6 sb=>?_;have I1:Inv X pins σ H { s with heap:=h' }:=I.turned (t':=s.toks) (λb o hb e=>(sb.2 b hb).trans e) f0 f1 f3 f4 f5;obtain⟨o,e,c,d⟩:=id l6;exact⟨u,rfl,xY (s:={ s with heap:=h' }) e c d (by decide) ⟨x,H,I1,ru,⟨rfl,λys hy=>by rw[I.ki hy hq];exact hx⟩,l6,λb hb=>(hf b hb).1⟩⟩
 done:=by
  intro X hP hw hK hc i pins s σ H E I hf st hg;subst hP hw hK;obtain⟨xs,hq,hx⟩:=hg;obtain⟨aI,rv,p,hz⟩:=I.list hq;obtain⟨f0,f1,f2,f3,f4,f5⟩:=hf it (by simp);have hl:=rv.length;exact wpAny_pyNext_list_end (I.ok.hd hc) st p.isList (by simp;left) λh' eb=>⟨rfl,I.turned (t':=s.toks) (λb o hb e=>eb b o hb e) f0 f1 f3 f4 f5⟩
 self:=λ_ _ _ _ _ st h=>wpAny_pyIter_listiter st h
theorem u_(a it:Addr):Turn P w K tg (Mx K a) [it] it (λi h=>h.IsTupleIter it a i) where
 mem:=by simp
 obj:=λi h st b hb=>by
  have e:b=it:=by simpa using hb
  subst e;obtain⟨o,e,c,d⟩:=st;exact⟨o,e,λv z=>by rw[d]at z;cases z⟩
 keep:=λi h h' st k=>st.at λo e=>k it (by simp) o e
 item:=by
  intro X hP hw hK hc i pins s σ H E I hf st hg;subst hP hw hK;obtain⟨xs,x,hq,hx⟩:=hg;obtain⟨aI,rv,p,hz⟩:=I.tuple hq;obtain⟨u,hu,ru⟩:=rv.get hx;obtain⟨f0,f1,f2,f3,f4,f5⟩:=hf it (by simp);refine wpAny_pyNext_tuple_item st (show s.heap.IsTuple a aI.toArray from p) (x:=u) (by simpa using hu) λh' l6 sb=>?_;have I1:Inv X pins σ H { s with heap:=h' }:=I.turned (t':=s.toks) (λb o hb e=>(sb.2 b hb).trans e) f0 f1 f3 f4 f5;obtain⟨o,e,c,d⟩:=id l6;exact⟨u,rfl,xY (s:={ s with heap:=h' }) e c d (by decide) ⟨x,H,I1,ru,⟨rfl,λys hy=>by rw[I.pW hy hq];exact hx⟩,l6,λb hb=>(hf b hb).1⟩⟩
 done:=by
  intro X hP hw hK hc i pins s σ H E I hf st hg;subst hP hw hK;obtain⟨xs,hq,hx⟩:=hg;obtain⟨aI,rv,p,hz⟩:=I.tuple hq;obtain⟨f0,f1,f2,f3,f4,f5⟩:=hf it (by simp);have hl:=rv.length;exact wpAny_pyNext_tuple_end (I.ok.hd hc) st (show s.heap.IsTuple a aI.toArray from p) (by simp;left) λh' eb=>⟨rfl,I.turned (t':=s.toks) (λb o hb e=>eb b o hb e) f0 f1 f3 f4 f5⟩
 self:=λ_ _ _ _ _ st h=>wpAny_pyIter_tupleiter st h
theorem vc(it:Addr)(lo:Int)(n:Nat):Turn P w K tg (zW lo n) [it] it (λi h=>IsRangeIter h it (lo+(i:Nat)*1) ((n:Int) - (i:Nat)) 1) where
 mem:=by simp
 obj:=λi h st b hb=>by
  have e:b=it:=by simpa using hb
  subst e;exact⟨_,st,λv z=>by
   have z':Data.fields _=Data.cell v:=z;cases z'⟩
 keep:=λi h h' st k=>k it (by simp) _ st
 item:=by
  intro X hP hw hK hc i pins s σ H E I hf st hg;subst hP hw hK;obtain⟨f0,f1,f2,f3,f4,f5⟩:=hf it (by simp);have W:=Walks.range (prog:=X.prog) (w:=X.w) (I.ok.hd hc) it lo 1 n;refine W.item i s _ _ hg st λv h' tk hv l6 kk=>?_;obtain⟨t,rfl⟩:=hv;have I1:Inv X pins σ H { s with heap:=h',toks:=tk }:=I.turned (λb o hb e=>kk b o (by simpa using hb) e) f0 f1 f3 f4 f5;refine⟨_,rfl,xY (s:={ s with heap:=h',toks:=tk }) (n:="range_iterator") l6 rfl rfl (by decide) ⟨.int (lo+i),H,I1,⟨t,?_⟩,⟨rfl,rfl⟩,l6,λb hb=>(hf b hb).1⟩⟩;rw[Int.mul_one]
 done:=by
  intro X hP hw hK hc i pins s σ H E I hf st hg;subst hP hw hK;obtain⟨f0,f1,f2,f3,f4,f5⟩:=hf it (by simp);exact wpAny_pyNext_range_end (I.ok.hd hc) st (by have:n<=i:=hg;left) λh' eb=>⟨rfl,I.turned (t':=s.toks) (λb o hb e=>eb b o hb e) f0 f1 f3 f4 f5⟩
 self:=λ_ _ _ _ _ st h=>wpAny_pyIter_rangeiter st h
end L2
namespace L2
open PySem PySem.Spec PyProof.Rows
variable {H:Hp}{fp:bc}{h:Heap}{lo:Int}{pos:Pos}{ta:TA}{σ:L2.St}
section
variable {X:Cx}{tg:Expr}
def OJ(K:ao)(tl:TE):TI:=λσ H R=>tl σ H λx H1=>∃a,x=.ref a/\(∃xs,dE K H1 a xs)/\R (My K a) H1
def Uw(K:ao)(tl:TE):TI:=λσ H R=>tl σ H λx H1=>∃a,x=.ref a/\(∃xs,aW K H1 a xs)/\R (Mx K a) H1
theorem xh{l:Expr}{tl:TE}(hl:PE X l tl):PI X tg l (OJ X.K tl):=by
 intro pins s σ H R I h;refine cN (hl pins s σ H _ I h) λv s1 bF=>?_;obtain⟨x,H1,I1,r1,q1⟩:=bF;obtain⟨a,e,⟨xs,hq⟩,q⟩:=q1;subst e;cases r1;obtain⟨aI,rv,p,hz⟩:=I1.list hq;refine wpAny_pyIter_list p.isList ?_;refine⟨s1.heap.objs.size,[s1.heap.objs.size],_,_,H1,rfl,I1.kept (t':=s1.toks) λb o e=>aae _ e,yH a _,⟨_,aan _ rfl,rfl,rfl⟩,λb hb=>?_,q⟩;have e:b=s1.heap.objs.size:=by simpa using hb
 subst e;exact I1.Cu (aai _) (I1.cC.fresh (aai _))
theorem Bd{l:Expr}{tl:TE}(hl:PE X l tl):PI X tg l (Uw X.K tl):=by
 intro pins s σ H R I h;refine cN (hl pins s σ H _ I h) λv s1 bF=>?_;obtain⟨x,H1,I1,r1,q1⟩:=bF;obtain⟨a,e,⟨xs,hq⟩,q⟩:=q1;subst e;cases r1;obtain⟨aI,rv,p,hz⟩:=I1.tuple hq;refine wpAny_pyIter_tuple (show s1.heap.IsTuple a aI.toArray from p) ?_;refine⟨s1.heap.objs.size,[s1.heap.objs.size],_,_,H1,rfl,I1.kept (t':=s1.toks) λb o e=>aae _ e,u_ a _,⟨_,aan _ rfl,rfl,rfl⟩,λb hb=>?_,q⟩;have e:b=s1.heap.objs.size:=by simpa using hb
 subst e;exact I1.Cu (aai _) (I1.cC.fresh (aai _))
theorem tM{pins:ak}{s:Shared}{R:It->Hp->Prop}{E:aA}{hi:Int}{t u v:Tok}{tk:Nat}(I:Inv X pins σ H s)(h1:-(2 ^ 62)<=lo)(h2:lo<2 ^ 62)(h3:-(2 ^ 62)<=hi)(h4:hi<2 ^ 62)
  (q:R (zW lo (hi - lo).toNat) H):wpAny (model X.prog X.w) X.A (pyIter (.ref s.heap.objs.size)) (Aa X pins σ tg R) E { s with heap:=s.heap.push { cls:=.type "range",data:=.fields #[.int lo t,.int hi u,.int 1 v] },toks:=tk }:=by
 refine wpAny_pyIter_range (IsRange.new ..) (small_one h1 h2 h3 h4) ?_;have I1:Inv X pins σ H { s with heap:=s.heap.push { cls:=.type "range",data:=.fields #[.int lo t,.int hi u,.int 1 v] },toks:=tk }:=I.kept λb o e=>aae _ e;refine⟨(s.heap.push { cls:=.type "range",data:=.fields #[.int lo t,.int hi u,.int 1 v] }).objs.size,[(s.heap.push { cls:=.type "range",data:=.fields #[.int lo t,.int hi u,.int 1 v] }).objs.size],_,_,H,rfl,
  I1.kept (t':=tk) λb o e=>aae _ e,vc _ lo (hi - lo).toNat,?_,λb hb=>?_,q⟩
 ·have e1:lo+((0:Nat):Int)*1=lo:=by simp
  have e2:(((hi - lo).toNat:Nat):Int) - ((0:Nat):Int)=Builtin.Range.rangeSize lo hi 1:=by rw[rangeSize_one];split<;>left
  show IsRangeIter _ _ (lo+((0:Nat):Int)*1) ((((hi - lo).toNat:Nat):Int) - ((0:Nat):Int)) 1;rw[e1,e2];exact aan _ rfl
 ·have e:b=(s.heap.push { cls:=.type "range",data:=.fields #[.int lo t,.int hi u,.int 1 v] }).objs.size:=by simpa using hb
  subst e;exact I1.Cu (aai _) (I1.cC.fresh (aai _))
def OI(ta:TA):TI:=λσ H R=>ta σ H λvs H1=>∃j:Int,vs=[.int j] /\ -(2 ^ 62)<=j/\j<2 ^ 62/\R (zW 0 j.toNat) H1
def OH(ta:TA):TI:=λσ H R=>ta σ H λvs H1=>∃i j:Int,vs=[.int i,.int j]/\(-(2 ^ 62)<=i/\i<2 ^ 62 /\ -(2 ^ 62)<=j/\j<2 ^ 62)/\R (zW i (j - i).toNat) H1
theorem qf{a:Expr}{p:Pos}(hg:Gl X "range")(hm:X.mg "range" = none)(ha:PA X [a] ta)(hs:starEach [a] X.env=[(false,eval a X.env)]:=by rfl):PI X tg (.Call (.Name "range" p) [a] [] pos) (OI ta):=by
 intro pins s σ H R I h;refine Call_ (gj I hg hm boot_range (aaA (cN (ha pos pins s σ H _ I h) λus s1 bF=>?_) hs rfl));obtain⟨vs,H1,I1,r1,q1⟩:=bF;obtain⟨j,e,q1,q2,q⟩:=q1;subst e;cases r1 with
 |cons r rr =>
  cases rr;obtain⟨t,rfl⟩:=r;exact call_range_1 (tM I1 (by left) (by left) q1 q2 (by simpa using q))
theorem qe{a b:Expr}{p:Pos}(hg:Gl X "range")(hm:X.mg "range" = none)(ha:PA X [a,b] ta)(hs:starEach [a,b] X.env=[(false,eval a X.env),(false,eval b X.env)]:=by rfl)(L9:starEach [b] X.env=[(false,eval b X.env)]:=by rfl):
  PI X tg (.Call (.Name "range" p) [a,b] [] pos) (OH ta):=by
 intro pins s σ H R I h;refine Call_ (gj I hg hm boot_range (aaA (cN (ha pos pins s σ H _ I h) λus s1 bF=>?_) (by rw[hs,L9]) (by rw[L9];rfl)));obtain⟨vs,H1,I1,r1,q1⟩:=bF;obtain⟨i,j,e,⟨q1,q2,q3,q4⟩,q⟩:=q1;subst e;cases r1 with
 |cons r rr =>
  cases rr with
  |cons r' rr =>
   cases rr;obtain⟨t,rfl⟩:=r;obtain⟨t',rfl⟩:=r';exact call_range_2 (tM I1 q1 q2 q3 q4 q)
noncomputable def SN(wi:TI)(g:TG)(tb:TS):TS:=λD σ H=>wi σ H λJ H1=>∃W:Nat->Nat->St->Hp->Prop,(∃m,W 0 m σ H1)/\∀i m σ H,W i m σ H ->
 (J.stop i H/\D.nx σ H)\/(J.go i H/\∃N:St->Hp->Prop,(∀σ' H',N σ' H'->∃m',m'<m/\W (i+1) m' σ' H')/\∀x H',J.uN i H x H'->g x σ H' λσ2 H2=>tb { D with nx:=N,ct:=N,bk:=D.nx } σ2 H2)
noncomputable def iO(fp:bc)(h:Heap):ak:=fp.filterMap λb=>(h.get? b).map λo=>(b,o)
theorem g9{b:Addr}{o:Obj}(hb:b∈fp)(e:h.get? b=some o):(b,o)∈iO fp h:=List.mem_filterMap.mpr ⟨b,hb,by rw[e];rfl⟩
theorem qg{p:Addr×Obj}(hp:p∈iO fp h):p.1∈fp/\h.get? p.1=some p.2:=by
 obtain⟨b,hb,e⟩:=List.mem_filterMap.mp hp;cases q:h.get? b with
 |none=>rw[q]at e;cases e
 |some o =>
  rw[q]at e;have e':(b,o)=p:=aao e;subst e';exact⟨hb,q⟩
theorem Inv.pinned{pins:ak}{s:Shared}(I:Inv X pins σ H s)(hf:∀b∈fp,oY X pins H b)(ho:∀b∈fp,∃o,s.heap.get? b=some o/\∀v,o.data≠.cell v):Inv X (pins++iO fp s.heap) σ H s :=
 I.jg λp hp=>(List.mem_append.mp hp).elim (λz=>I.pin p (aam _ z)) λz=>by
  obtain⟨hb,e⟩:=qg z;obtain⟨f0,f1,f2,_⟩:=hf p.1 hb;obtain⟨o,e',d⟩:=ho p.1 hb;rw[e]at e';cases e';exact⟨e,f0,f1,f2,d⟩
theorem Inv.j6{pins pl:ak}{s:Shared}(I:Inv X (pins++pl) σ H s):Inv X pins σ H s:=I.jg λp hp=>I.pin p (aam _ (aat _ hp))
theorem nI{iter:Expr}{body:aS}{wi:TI}{g:TG}{tb:TS}(hp:PassesOwn (model X.prog X.w) X.A X.env X.xe)(hc:X.calm=true)(hi:PI X tg iter wi)(hg:PG X tg g)(hb:ig X body tb)
  (hs:∀x,foldedSetIterable iter X.env x=pure x:=by intro _;rfl):PS X (.For tg iter body [] pos) (SN wi g tb):=by
 intro pins s σ H D I h;refine wpAny_For (cN (hi pins s σ H _ I h) λv s1 h1=>cN h1 λUg s2 h2=>?_) hs;obtain⟨it,fp,tn,J,H2,e,I2,T,M6,f2,W,⟨m0,w0⟩,turn⟩:=h2;subst e;have Il:∀{H':Hp},(∀b∈fp,H' b=none)->∀b∈fp,oY X pins H' b:=λhn b hb=>⟨hn b hb,(f2 b hb).2⟩
 refine codeAny_forLoop_any (λn s'=>∃i σ' H',Inv X pins σ' H' s'/\tn i s'.heap/\(∀b∈fp,H' b=none)/\W i n σ' H') ?_ m0 ⟨0,σ,H2,I2,M6,λb hb=>(f2 b hb).1,w0⟩;rintro n s3 ⟨i,σ3,H3,I3,st3,fr3,w3⟩;rcases turn i n σ3 H3 w3 with ⟨stop,qn⟩|⟨go,N,hN,step⟩
 ·refine aa3 hp (cN (T.done X rfl rfl rfl hc i pins s3 σ3 H3 X.xe I3 (Il fr3) st3 stop) λr s4 bF=>?_);obtain⟨hr,I4⟩:=bF;subst hr;exact abi ⟨σ3,H3,I4,qn⟩
 ·refine aa3 hp (cN (T.item X rfl rfl rfl hc i pins s3 σ3 H3 X.xe I3 (Il fr3) st3 go) λr s4 bF=>?_);obtain⟨u,hr,h4⟩:=bF;subst hr;refine aa3 hp (cN h4 λ_ s5 bF=>?_);obtain⟨x,H5,I5,r5,y5,Io,VD⟩:=bF;have Wl:=I5.pinned (Il VD) (T.obj _ _ Io);refine aa3 hp (cN (hg _ s5 σ3 H5 x u _ Wl r5 (step x H5 y5)) λ_ s6 bF=>?_);obtain⟨σ6,H6,I6,q6⟩:=bF;refine aa3 hp (cN (hb _ s6 σ6 H6 _ I6 q6) λf s7 q7=>?_);have again:∀{σ7:St} {H7:Hp},Inv X (pins++iO fp s5.heap) σ7 H7 s7->N σ7 H7->∃m,m<n/\∃i σ' H',Inv X pins σ' H' s7/\tn i s7.heap/\(∀b∈fp,H' b=none)/\W i m σ' H':=λ{σ7 H7} I7 n7=>by
   obtain⟨m',hm,w7⟩:=hN σ7 H7 n7;refine⟨m',hm,i+1,σ7,H7,I7.j6,T.keep _ _ _ Io λb hb o e=>(I7.pin (b,o) (aam _ (aam _ (g9 hb e)))).1,λb hb=>?_,w7⟩;obtain⟨o,e,d⟩:=T.obj _ _ Io b hb;exact(I7.pin (b,o) (aam _ (aam _ (g9 hb e)))).2.1
  cases f with
  |next=>obtain⟨σ7,H7,I7,n7⟩:=q7;exact again I7 n7
  |cont=>obtain⟨σ7,H7,I7,n7⟩:=q7;exact again I7 n7
  |brk=>obtain⟨σ7,H7,I7,q7⟩:=q7;exact⟨σ7,H7,I7.j6,q7⟩
  |ret v=>obtain⟨x7,σ7,H7,I7,r7,q7⟩:=q7;exact⟨x7,σ7,H7,I7.j6,r7,q7⟩
end
variable {K:ao}{xs:af}
theorem Cv{a:Addr}{g:TG}{tb:TS}{D:Ends}(Pv:Nat->St->Hp->Prop)(h0:Pv 0 σ H)(hl:∀i σ H,i<=xs.length->Pv i σ H->dE K H a xs)
  (hs:∀i x σ H,xs[i]?=some x->Pv i σ H->g x σ H λσ2 H2=>tb { D with nx:=Pv (i+1),ct:=Pv (i+1),bk:=D.nx } σ2 H2) (hd:∀σ H,Pv xs.length σ H->D.nx σ H) :
  ∃W:Nat->Nat->St->Hp->Prop,(∃m,W 0 m σ H)/\∀i m σ H,W i m σ H ->
   ((My K a).stop i H/\D.nx σ H)\/((My K a).go i H/\∃N:St->Hp->Prop,(∀σ' H',N σ' H'->∃m',m'<m/\W (i+1) m' σ' H')/\∀x H',(My K a).uN i H x H'->g x σ H' λσ2 H2=>tb { D with nx:=N,ct:=N,bk:=D.nx } σ2 H2):=by
 refine⟨λi m σ H=>m=xs.length - i/\i<=xs.length/\Pv i σ H,⟨xs.length,by simp,aaL _,h0⟩,?_⟩;rintro i m σ H ⟨rfl,hi,p⟩;have q:=hl i σ H hi p;by_cases iB:i<xs.length
 ·refine .inr ⟨⟨xs,xs[i],q,by simp[iB]⟩,Pv (i+1),λσ' H' p'=>⟨xs.length - (i+1),by left,rfl,iB,p'⟩,λx H' y=>?_⟩;obtain⟨e,y⟩:=y;subst e;exact hs i x σ _ (y xs q) p
 ·have e:i=xs.length:=by left
  subst e;exact .inl ⟨⟨xs,q,aai _⟩,hd σ H p⟩
theorem FT{a:Addr}{g:TG}{tb:TS}{D:Ends}(Pv:Nat->St->Hp->Prop)(h0:Pv 0 σ H)(hl:∀i σ H,i<=xs.length->Pv i σ H->aW K H a xs)
  (hs:∀i x σ H,xs[i]?=some x->Pv i σ H->g x σ H λσ2 H2=>tb { D with nx:=Pv (i+1),ct:=Pv (i+1),bk:=D.nx } σ2 H2) (hd:∀σ H,Pv xs.length σ H->D.nx σ H) :
  ∃W:Nat->Nat->St->Hp->Prop,(∃m,W 0 m σ H)/\∀i m σ H,W i m σ H ->
   ((Mx K a).stop i H/\D.nx σ H)\/((Mx K a).go i H/\∃N:St->Hp->Prop,(∀σ' H',N σ' H'->∃m',m'<m/\W (i+1) m' σ' H')/\∀x H',(Mx K a).uN i H x H'->g x σ H' λσ2 H2=>tb { D with nx:=N,ct:=N,bk:=D.nx } σ2 H2):=by
 refine⟨λi m σ H=>m=xs.length - i/\i<=xs.length/\Pv i σ H,⟨xs.length,by simp,aaL _,h0⟩,?_⟩;rintro i m σ H ⟨rfl,hi,p⟩;have q:=hl i σ H hi p;by_cases iB:i<xs.length
 ·refine .inr ⟨⟨xs,xs[i],q,by simp[iB]⟩,Pv (i+1),λσ' H' p'=>⟨xs.length - (i+1),by left,rfl,iB,p'⟩,λx H' y=>?_⟩;obtain⟨e,y⟩:=y;subst e;exact hs i x σ _ (y xs q) p
 ·have e:i=xs.length:=by left
  subst e;exact .inl ⟨⟨xs,q,aai _⟩,hd σ H p⟩
theorem zE{n:Nat}{g:TG}{tb:TS}{D:Ends}(Pv:Nat->St->Hp->Prop)(h0:Pv 0 σ H)
  (hs:∀i σ H,i<n->Pv i σ H->g (.int (lo+i)) σ H λσ2 H2=>tb { D with nx:=Pv (i+1),ct:=Pv (i+1),bk:=D.nx } σ2 H2) (hd:∀σ H,Pv n σ H->D.nx σ H) :
  ∃W:Nat->Nat->St->Hp->Prop,(∃m,W 0 m σ H)/\∀i m σ H,W i m σ H ->
   ((zW lo n).stop i H/\D.nx σ H)\/((zW lo n).go i H/\∃N:St->Hp->Prop,(∀σ' H',N σ' H'->∃m',m'<m/\W (i+1) m' σ' H')/\∀x H',(zW lo n).uN i H x H'->g x σ H' λσ2 H2=>tb { D with nx:=N,ct:=N,bk:=D.nx } σ2 H2):=by
 refine⟨λi m σ H=>m=n - i/\i<=n/\Pv i σ H,⟨n,by simp,aaL _,h0⟩,?_⟩;rintro i m σ H ⟨rfl,hi,p⟩;by_cases iB:i<n
 ·refine .inr ⟨iB,Pv (i+1),λσ' H' p'=>⟨n - (i+1),by left,rfl,iB,p'⟩,λx H' y=>?_⟩;obtain⟨e,y⟩:=y;subst e y;exact hs i σ _ iB p
 ·have e:i=n:=by left
  subst e;exact .inl ⟨aai _,hd σ H p⟩
end L2
namespace L2
open PySem PySem.Spec PyProof.Rows
noncomputable abbrev R2:=V->V->Hp->VK->Prop
def js(X:Cx)(f:Value->Value->Sem Value)(r:R2):Prop :=
 ∀(pins:ak) (s:Shared) (σ:St) (H:Hp) (x y:V) (v u:Value) (Q:VK),Inv X pins σ H s->RelV x v->RelV y u->r x y H Q ->
  wpAny (model X.prog X.w) X.A (f v u) (EP X pins σ Q) X.xe s
def Wd(X:Cx)(f:Value->Sem Value)(r:V->Hp->VK->Prop):Prop :=
 ∀(pins:ak) (s:Shared) (σ:St) (H:Hp) (x:V) (v:Value) (Q:VK),Inv X pins σ H s->RelV x v->r x H Q ->
  wpAny (model X.prog X.w) X.A (f v) (EP X pins σ Q) X.xe s
def e_(X:Cx)(f:Value)(r:af->Hp->VK->Prop):Prop :=
 ∀(pins:ak) (s:Shared) (σ:St) (H:Hp) (xs:af) (us:ai) (Q:VK),Inv X pins σ H s->Vals xs us->r xs H Q ->
  wpAny (model X.prog X.w) X.A (call f us) (EP X pins σ Q) X.xe s
noncomputable def DG(r:R2)(ta tb:TE):TE:=λσ H Q=>ta σ H λx H1=>tb σ H1 λy H2=>r x y H2 Q
noncomputable def Ys(r:V->Hp->VK->Prop)(ta:TE):TE:=λσ H Q=>ta σ H λx H1=>r x H1 Q
noncomputable def rI(C:Int->Int->Prop)(g:Int->Int->V):R2:=λx y H Q=>∃i j,x=.int i/\y=.int j/\C i j/\Q (g i j) H
noncomputable def A4(g:Int->Int->V):R2:=λx y H Q=>∃i j,x=.int i/\y=.int j/\Q (g i j) H
noncomputable def rU(g:Int->V):V->Hp->VK->Prop:=λx H Q=>∃i,x=.int i/\Q (g i) H
variable {H:Hp}{σ:L2.St}
section
variable {X:Cx}{a b c:Expr}{ta tb tc:TE}{pos:Pos}
theorem LF(ha:PE X a ta)(hb:PE X b tb){pins:ak}{s:Shared}{R:V->V->Hp->Prop}(I:Inv X pins σ H s)
  (h:ta σ H λx H1=>tb σ H1 λy H2=>R x y H2) {Q:aA} {f:Value->Value->Sem Value}
  (hf:∀v u s2 x y H2,Inv X pins σ H2 s2->RelV x v->RelV y u->R x y H2->wpAny (model X.prog X.w) X.A (f v u) Q X.xe s2) :
  wpAny (model X.prog X.w) X.A (eval a X.env) (λv s₁=>wpAny (model X.prog X.w) X.A (eval b X.env) (λu s₂=>wpAny (model X.prog X.w) X.A (f v u) Q X.xe s₂) X.xe s₁) X.xe s:=by
 refine cN (ha pins s σ H _ I h) λv s1 bF=>?_;obtain⟨x,H1,I1,r1,q1⟩:=bF;refine cN (hb pins s1 σ H1 _ I1 q1) λu s2 bF=>?_;obtain⟨y,H2,I2,r2,q2⟩:=bF;exact hf v u s2 x y H2 I2 r1 r2 q2
theorem GX{op:Operator}{r:R2}(ho:js X (binaryOp op) r)(ha:PE X a ta)(hb:PE X b tb):PE X (.BinOp a op b pos) (DG r ta tb):=by
 intro pins s σ H Q I h;exact wpAny_BinOp (LF ha hb I h λv u s2 x y H2 I2 rx ry q=>ho pins s2 σ H2 x y v u Q I2 rx ry q)
theorem NI{op:UnaryOp}{r:V->Hp->VK->Prop}(ho:Wd X (unaryOp op) r)(ha:PE X a ta):PE X (.UnaryOp op a pos) (Ys r ta):=by
 intro pins s σ H Q I h;exact UnaryOp_ (cN (ha pins s σ H _ I h) λv s1 ⟨x,H1,I1,r1,q1⟩=>ho pins s1 σ H1 x v Q I1 r1 q1)
theorem G0{f:Value->Value->Sem Value}{C:Int->Int->Prop}{g:Int->Int->Int}
  (rule:∀(i j:Int) (t u:Tok) (s:Shared) (Q:aA) (E:aA),C i j->Q (.int (g i j) s.toks) { s with toks:=s.toks+1 }->wpAny (model X.prog X.w) X.A (f (.int i t) (.int j u)) Q E s) :
  js X f (rI C λi j=>.int (g i j)):=by
 intro pins s σ H x y v u Q I rx ry h;obtain⟨i,j,rfl,rfl,hc,q⟩:=h;obtain⟨t,rfl⟩:=rx;obtain⟨t',rfl⟩:=ry;exact rule i j t t' s _ _ hc ⟨.int (g i j),H,I.tok _,⟨_,rfl⟩,q⟩
theorem TM{f:Value->Value->Sem Value}{g:Int->Int->Int}
  (rule:∀(i j:Int) (t u:Tok) (s:Shared) (Q:aA) (E:aA),Q (.int (g i j) s.toks) { s with toks:=s.toks+1 }->wpAny (model X.prog X.w) X.A (f (.int i t) (.int j u)) Q E s) :
  js X f (A4 λi j=>.int (g i j)):=by
 intro pins s σ H x y v u Q I rx ry h;obtain⟨i,j,rfl,rfl,q⟩:=h;obtain⟨t,rfl⟩:=rx;obtain⟨t',rfl⟩:=ry;exact rule i j t t' s _ _ ⟨.int (g i j),H,I.tok _,⟨_,rfl⟩,q⟩
theorem EX{f:Value->Value->Sem Value}{g:Int->Int->Bool}
  (rule:∀(i j:Int) (t u:Tok) (s:Shared) (Q:aA) (E:aA),Q (.bool (g i j)) s->wpAny (model X.prog X.w) X.A (f (.int i t) (.int j u)) Q E s) :
  js X f (A4 λi j=>.bl (g i j)):=by
 intro pins s σ H x y v u Q I rx ry h;obtain⟨i,j,rfl,rfl,q⟩:=h;obtain⟨t,rfl⟩:=rx;obtain⟨t',rfl⟩:=ry;exact rule i j t t' s _ _ ⟨.bl (g i j),H,I,rfl,q⟩
theorem uZ(k:Nat):(0:Int)<=2 ^ k:=by
 rw[two_pow_cast];exact Int.natCast_nonneg _
theorem Jt:js X (binaryOp .Add) (A4 λi j=>.int (i+j)):=TM λ_ _ _ _ _ _ _ q=>add_int q
theorem EU:js X (binaryOp .Mod) (rI (λ_ j=>j≠0) λi j=>.int (i.fmod j)):=G0 λ_ _ _ _ _ _ _ hc q=>mod_int' hc q
theorem Jp:js X (binaryOp .RShift) (rI (λ_ j=>0<=j) λi j=>.int (i / 2 ^ j.toNat)):=G0 λi j _ _ _ _ _ hc q =>
 rshift_int hc (by rw[Int.fdiv_eq_ediv_of_nonneg i (uZ _)];exact q)
theorem Yj{f:Value->Sem Value}{g:Int->Int}
  (rule:∀(i:Int) (t:Tok) (s:Shared) (Q:aA) (E:aA),Q (.int (g i) s.toks) { s with toks:=s.toks+1 }->wpAny (model X.prog X.w) X.A (f (.int i t)) Q E s) :
  Wd X f (rU λi=>.int (g i)):=by
 intro pins s σ H x v Q I rx h;obtain⟨i,rfl,q⟩:=h;obtain⟨t,rfl⟩:=rx;exact rule i t s _ _ ⟨.int (g i),H,I.tok _,⟨_,rfl⟩,q⟩
theorem HW:Wd X (unaryOp .USub) (rU λi=>.int (-i)):=Yj λ_ _ _ _ _ q=>neg_int q
end
variable {us:ai}
section
variable {X:Cx}{a b c:Expr}{ta tb tc:TE}{pos:Pos}
theorem Cw{pins:ak}{s:Shared}{Q:VK}{k k':Bool}(I:Inv X pins σ H s)(q:Q (.bl k) H)(e:k=k'):EP X pins σ Q (.bool k') s:=by
 subst e;exact⟨.bl k,H,I,rfl,q⟩
theorem NQ:js X (compareOp .Lt) (A4 λi j=>.bl (decide (i<j))):=EX λ_ _ _ _ _ _ _ q=>lt_int q
theorem NR:js X (compareOp .LtE) (A4 λi j=>.bl (decide (i<=j))):=EX λ_ _ _ _ _ _ _ q=>le_int q
theorem NS:js X (compareOp .Gt) (A4 λi j=>.bl (decide (j<i))):=EX λ_ _ _ _ _ _ _ q=>gt_int q
theorem NT:js X (compareOp .GtE) (A4 λi j=>.bl (decide (j<=i))):=EX λ_ _ _ _ _ _ _ q=>ge_int q
theorem TK:js X (compareOp .Is) (λx y H Q=>y=.bu/\Q (.bl (decide (x=.bu))) H):=by
 intro pins s σ H x y v u Q I rx ry h;obtain⟨rfl,q⟩:=h;cases ry;refine is_none_gen (Cw I q ?_);cases x<;>first
  | (cases rx;rfl)
  | (obtain⟨t,rfl⟩:=rx;rfl)
theorem ES:js X (compareOp .IsNot) (λx y H Q=>y=.bu/\Q (.bl (!decide (x=.bu))) H):=by
 intro pins s σ H x y v u Q I rx ry h;obtain⟨rfl,q⟩:=h;cases ry;refine isnot_none_gen (Cw I q ?_);cases x<;>first
  | (cases rx;rfl)
  | (obtain⟨t,rfl⟩:=rx;rfl)
theorem js.or{f:Value->Value->Sem Value}{r r':R2}(h:js X f r)(h':js X f r'):js X f (λx y H Q=>r x y H Q\/r' x y H Q):=by
 intro pins s σ H x y v u Q I rx ry q;rcases q with q|q
 ·exact h pins s σ H x y v u Q I rx ry q
 ·exact h' pins s σ H x y v u Q I rx ry q
theorem qZ(b:Expr){op:CmpOp}(h:op≠.In:=by decide)(h2:op≠.NotIn:=by decide):behindInMarks op b=false:=by
 have e1:(op==CmpOp.In)=false:=by cases op<;>first|rfl|exact absurd rfl h
 have e2:(op==CmpOp.NotIn)=false:=by cases op<;>first|rfl|exact absurd rfl h2
 cases b<;>simp[behindInMarks,e1,e2]
theorem mB{op:CmpOp}{r:R2}(ho:js X (compareOp op) r)(ha:PE X a ta)(hb:PE X b tb)(hm:behindInMarks op b=false):PE X (.Compare a [op] [b] pos) (DG r ta tb):=by
 intro pins s σ H Q I h;exact wpAny_Compare1 (LF ha hb I h λv u s2 x y H2 I2 rx ry q=>ho pins s2 σ H2 x y v u Q I2 rx ry q) hm
noncomputable def GJ(t:TE):TT:=λσ H Q=>t σ H λx H'=>∃k,x=.bl k/\Q k H'
theorem mz{op:CmpOp}{r:R2}(ho:js X (compareOp op) r)(ha:PE X a ta)(hb:PE X b tb)(hm:behindInMarks op b=false):PT X (.Compare a [op] [b] pos) (GJ (DG r ta tb)):=by
 intro pins s σ H Q I h;refine wpAny_isTrue_Compare1 (cN (ha pins s σ H _ I h) λv s1 ⟨x,H1,I1,r1,q1⟩=>cN (hb pins s1 σ H1 _ I1 q1) λu s2 ⟨y,H2,I2,r2,q2⟩ =>
  cN (ho pins s2 σ H2 x y v u _ I2 r1 r2 q2) λc s3 ⟨z,H3,I3,r3,k,e,q3⟩=>?_) hm
 subst e;cases r3;exact aaM ⟨H3,I3,q3⟩
theorem rB:(sizeLine:Nat)<2 ^ 63:=by rw[sizeLine_eq];decide
theorem vals1{x:V}(r:Vals [x] us):∃u,us=[u]/\RelV x u:=by
 cases r with
 |cons r1 r2=>cases r2;exact⟨_,rfl,r1⟩
theorem vals2{x y:V}(r:Vals [x,y] us):∃u w',us=[u,w']/\RelV x u/\RelV y w':=by
 cases r with
 |cons r1 r2 =>
  cases r2 with
  |cons r3 r4=>cases r4;exact⟨_,_,rfl,r1,r3⟩
theorem Dd:e_ X (.builtin "abs") (λxs H Q=>∃i,xs=[.int i]/\Q (.int (if i<0 then -i else i)) H):=by
 intro pins s σ H xs us Q I r h;obtain⟨i,rfl,q⟩:=h;obtain⟨u,rfl,t,rfl⟩:=vals1 r;exact call_abs_int λu tk=>⟨.int (if i<0 then -i else i),H,I.tok _,⟨_,rfl⟩,q⟩
theorem Mr(hc:X.calm=true):e_ X (.builtin "max") (λxs H Q=>∃i j,xs=[.int i,.int j]/\Q (.int (if j>i then j else i)) H):=by
 intro pins s σ H xs us Q I r h;obtain⟨i,j,rfl,q⟩:=h;obtain⟨u,w',rfl,⟨t,rfl⟩,⟨t',rfl⟩⟩:=vals2 r;refine max_two_ints (I.ok.hd hc) λh' tk k=>⟨_,H,I.kept k,?_,q⟩
 by_cases hj:j>i
 ·rw[if_pos hj,if_pos hj];exact⟨_,rfl⟩
 ·rw[if_neg hj,if_neg hj];exact⟨_,rfl⟩
theorem Mq(hc:X.calm=true):e_ X (.builtin "min") (λxs H Q=>∃i j,xs=[.int i,.int j]/\Q (.int (if j<i then j else i)) H):=by
 intro pins s σ H xs us Q I r h;obtain⟨i,j,rfl,q⟩:=h;obtain⟨u,w',rfl,⟨t,rfl⟩,⟨t',rfl⟩⟩:=vals2 r;refine min_two_ints (I.ok.hd hc) λh' tk k=>⟨_,H,I.kept k,?_,q⟩
 by_cases hj:j<i
 ·rw[if_pos hj,if_pos hj];exact⟨_,rfl⟩
 ·rw[if_neg hj,if_neg hj];exact⟨_,rfl⟩
theorem zS:e_ X (.type "int") (λxs H Q=>(∃i,xs=[.int i]/\Q (.int i) H)\/∃k,xs=[.bl k]/\Q (.int (if k then 1 else 0)) H):=by
 intro pins s σ H xs us Q I r h;rcases h with ⟨i,rfl,q⟩|⟨k,rfl,q⟩
 ·obtain⟨u,rfl,t,rfl⟩:=vals1 r;exact call_int_int ⟨.int i,H,I,⟨_,rfl⟩,q⟩
 ·obtain⟨u,rfl,r1⟩:=vals1 r;cases r1;exact call_int_bool ⟨.int (if k then 1 else 0),H,I.tok _,⟨_,rfl⟩,q⟩
end
end L2
namespace L2
open PySem PySem.Spec PyProof.Rows
structure aaZ(h:Heap)(x dx C:Addr)(mA:aV):Prop where
 obj:h.get? x=some (PySem.W.instObj C dx)
 ns:h.Ns1 dx mA
 ne:dx≠x
section
variable {prog:aE}{w:World}{A:aG}{E:aA}{s:Shared}{K:ao}{x dx C f:Addr}{mA:aV}{name:Str}{v:Value}
end
theorem oV.some_of{v:V}{o:Option Value}(r:oV (some v) o):∃u,o=some u/\RelV v u:=by
 cases o with
 |none=>exact(show False from r).elim
 |some u=>exact⟨u,rfl,r⟩
theorem oV.none_of{o:Option Value}(r:oV none o):o=none:=by
 cases o with
 |none=>rfl
 |some u=>exact(show False from r).elim
section
variable {P:aE}{w:World}{H H':Hp}{h h':Heap}{a C dx:Addr}{fs fs':List (Str×V)}
end
structure QS(K:ao)(C:Addr):Prop where
 pg:PySem.W.plainGet K C Str.empty=true
 hd:PySem.W.hasDictIn K C=true
 po:PySem.W.plainOver K C=true
 sa:PySem.W.findIn K (.ref C) "__setattr__" = some (some (.builtin "object.__setattr__"))
structure Con(K:ao)(C:Addr)(f:Str)(v:V)(u:Value):Prop where
 at_:PySem.W.findIn K (.ref C) f=some (some u)
 rel:RelV v u
 get:PySem.W.specialIn K u "__get__" = some none
 cp:PySem.W.copiedNames.contains f=false
structure Meth(K:ao)(C:Addr)(m:Str)(f:Addr):Prop where
 at_:PySem.W.findIn K (.ref C) m=some (some (.ref f))
 fn:PySem.W.isFn K (.ref f)=true
 kp:PySem.W.keepIn K (.ref f)=true
section
variable {X:Cx}{pins:ak}{σ:St}{H:Hp}{s:Shared}{a C dx:Addr}{fs:List (Str×V)}{f:Str}{v:V}{A:aG}{E:aA}
end
section
variable {X:Cx}{o e value:Expr}{f:Str}{pos pos' Yq:Pos}{ta tv:TE}
end
section
variable {X:Cx}{pins:ak}{σ:St}{H:Hp}{s:Shared}{A:aG}{E:aA}{Q:aA}{c:Value}{b:Bool}
inductive oS(K:ao)(H:Hp):V->Value->Prop where
 |bu:oS K H .bu (.type "NoneType")
 |bl (x:Bool):oS K H (.bl x) (.type "bool")
 |int (i:Int):oS K H (.int i) (.type "int")
 |str (x:Str):oS K H (.str x) (.type "str")
 |Mn (x:UInt64):oS K H (.Mn x) (.type "float")
 |lst {a:Addr} {xs:af} (e:H a=some (.lst xs)):oS K H (.ref a) (.type "list")
 |gF {a:Addr} {o:Obj} {xs:af} (e:H a=some (.gF o (.lst xs))):oS K H (.ref a) (.type "list")
 |tup {a:Addr} {xs:af} (e:H a=some (.tup xs)):oS K H (.ref a) (.type "tuple")
 |dK {a:Addr} {me:List (Key×V)} (e:H a=some (.dK me)):oS K H (.ref a) (.type "dict")
 |dT {a:Addr} {me:List (List Key×V)} (e:H a=some (.dT me)):oS K H (.ref a) (.type "dict")
 |ins {a C dx:Addr} {fs:List (Str×V)} (e:H a=some (.ins C dx fs)) (cl:QS K C) (ha:PySem.W.findIn K (.ref C) "__class__" = some (some (.builtin "object.__class__")))
   (hn:PySem.W.specialIn K (.builtin "object.__class__") "__get__" = some (some (.builtin "getset_descriptor.__get__"))) (htk:PySem.W.takesIn K (.builtin "object.__class__")=some true)
   (hm:PySem.W.mroIn K C (.type "object")=some true):oS K H (.ref a) (.ref C)
end
end L2
namespace L2
open PySem PySem.Spec PyProof.Rows
structure fY(k:Nat)(A:aG):Prop where
 hd:A.handled=none
 dp:A.depth+3*k+5<recursionLimit
 un:A.units+16*k+200<cLine
 gd:A.guards=some []
variable {A:aG}
theorem fY.mono{j k:Nat}(r:fY k A)(h:j<=k):fY j A:=⟨r.hd,by have:=r.dp;left,by have:=r.un;left,r.gd⟩
theorem fY.deeper{k:Nat}{A:aG}(r:fY (k+1) A)(env:Env):fY k (A.deeper env) :=
 ⟨r.hd,by have:=r.dp;show A.depth+1+3*k+5<_;left,by have:=r.un;show A.units+3+16*k+200<_;left,r.gd⟩
theorem fY.depth{k:Nat}{A:aG}(r:fY k A):A.depth<recursionLimit:=by have:=r.dp;left
theorem fY.units{k:Nat}{A:aG}(r:fY k A):A.units+64<cLine:=by have:=r.un;left
noncomputable def MW:TA:=λ_ H Q=>Q [] H
noncomputable def GN(ta:TE)(tr:TA):TA:=λσ H Q=>ta σ H λx H1=>tr σ H1 λxs H2=>Q (x::xs) H2
section
variable {X:Cx}{e:Expr}{es:av}{te:TE}{t:TA}{pos:Pos}
theorem fI:PA X [] MW:=λ_ _ _ _ H Q I h=>acb ⟨[],H,I,.nil,h⟩
theorem cV(ha:PE X e te)(hr:PA X es t)(hs:starEach (e::es) X.env=(false,eval e X.env)::starEach es X.env:=by rfl):PA X (e::es) (GN te t):=by
 intro pos pins s σ H Q I h;rw[hs];show wpAny _ _ (spliced ((false,eval e X.env)::backTo pos (starEach es X.env))) _ _ s;refine ab4 (cN (ha pins s σ H _ I h) λu s1 bF=>?_);obtain⟨x,H1,I1,r1,q1⟩:=bF;exact cN (hr pos pins s1 σ H1 _ I1 q1) λus s2 ⟨xs,H2,I2,r2,q2⟩=>⟨x::xs,H2,I2,.cons r1 r2,q2⟩
def Sz(t:TA):TE:=λσ H Q=>t σ H λxs H1=>xs.length<=sizeLine/\∀p,H1 p=none->Q (.ref p) (upd H1 p (.tup xs))
def SH(t:TA):TE:=λσ H Q=>t σ H λxs H1=>xs.length<=sizeLine/\∀p,H1 p=none->Q (.ref p) (upd H1 p (.lst xs))
theorem Jf{x1}(h:PA X es t):PE X (.Tuple es x1 pos) (Sz t):=by
 intro pins s σ H Q I hq;refine wpAny_Tuple_spliced (cN (h pos pins s σ H _ I hq) λus s1 ⟨xs,H1,I1,r,z,q⟩=>⟨by rw[<- r.length];exact z,?_⟩);have hf:H1 s1.heap.objs.size=none:=I1.cC.fresh (aai _);refine⟨.ref s1.heap.objs.size,upd H1 s1.heap.objs.size (.tup xs),I1.laid (t':=s1.toks) (λb u e=>aae _ e) (aai _) ?_,rfl,q _ hf⟩;exact⟨z,us,r,⟨_,aan _ rfl,rfl,_,rfl⟩⟩
theorem Bk(h:PA X es t):PE X (.List es pos) (SH t):=by
 intro pins s σ H Q I hq;refine wpAny_List_spliced (cN (h pos pins s σ H _ I hq) λus s1 ⟨xs,H1,I1,r,z,q⟩=>⟨by rw[<- r.length];exact z,?_⟩);have hf:H1 s1.heap.objs.size=none:=I1.cC.fresh (aai _);refine⟨.ref s1.heap.objs.size,upd H1 s1.heap.objs.size (.lst xs),I1.laid (t':=s1.toks) (λb u e=>aae _ e) (aai _) ?_,rfl,q _ hf⟩;exact⟨z,us,0,r,aan _ rfl⟩
end
noncomputable abbrev Sp:=af->Hp->VK->XK->Prop
noncomputable abbrev yB:=List Env->Hp->Shared->XK->aA
structure GA(P:aE)(w:World)(K:ao)(mg:aV)(base:Heap)(A:aG)(outer:List Env)(s:Shared)(H:Hp):Prop where
 frames:A.frames=some outer
 mod:Mod K mg base
 bs:∀b o,base.get? b=some o->s.heap.get? b=some o/\H b=none
 De:base.objs.size<=s.heap.objs.size
 jK:s.heap.FunFrames base outer
 z8:∀b∈la outer,H b=none
 cC:jm P w H s.heap
 bare:AllBare s.gens
def CE(outer:List Env)(P:aE)(w:World)(H:Hp)(s:Shared)(Q:VK)(u:Value)(s':Shared):Prop :=
 ∃v H',s'.os=s.os/\AllBare s'.gens/\Un (la outer) [] H H' s.heap s'.heap/\jm P w H' s'.heap/\RelV v u/\Q v H'
noncomputable def CR(CX:yB)(outer:List Env)(P:aE)(w:World)(H:Hp)(s:Shared)(Q:VK)(E:XK)(r:Result)(s':Shared):Prop :=
 match r with
 |.ok (.ret u)=>CE outer P w H s Q u s'
 |.ok _=>False
 |.error e=>CX outer H s E e s'
structure gQ(P:aE)(w:World)(K:ao)(mg:aV)(base:Heap)(CX:yB)(k:Nat)(f:Addr)(fd:FuncData)(ps:aj)(sp:Sp):Prop where
 len:∀vs H Q E,sp vs H Q E->vs.length=ps.length
 run:∀(A:aG) (outer:List Env) (s:Shared) (H:Hp) (args:Args) (us:ai) (vs:af) (Q:VK) (E:XK),fY k A->GA P w K mg base A outer s H->BindsTo s fd args (ps.zip us)->Vals vs us->sp vs H Q E ->
  codeAny (model P w) A (.call (.ref f) args) (CR CX outer P w H s Q E) s
theorem gQ.mono{P:aE}{w:World}{K:ao}{mg:aV}{base:Heap}{CX:yB}{j k:Nat}{f:Addr}{fd:FuncData}{ps:aj}{sp:Sp}(F:gQ P w K mg base CX j f fd ps sp)(h:j<=k):
  gQ P w K mg base CX k f fd ps sp:=⟨F.len,λA outer s H args us vs Q E hr=>F.run A outer s H args us vs Q E (hr.mono h)⟩
variable {Q:VK}
section
variable {X:Cx}{pins:ak}{σ:St}{H:Hp}{s s':Shared}
theorem Inv.VO(I:Inv X pins σ H s):GA X.prog X.w X.K X.mg X.base X.A X.stack s H :=
 ⟨I.ok.frames,I.ok.mod,I.bs,aas I.ok.De I.sz,I.stack,I.j9,I.cC,I.bare⟩
theorem Inv.after{u:Value}(I:Inv X pins σ H s)(h:CE X.stack X.prog X.w H s Q u s'):EP X pins σ Q u s':=by
 obtain⟨v,H',os,bare,un,cC,r,q⟩:=h;obtain⟨hh,g,d,t,TH⟩:=s';obtain rfl:TH=s.os:=os;exact⟨v,H',I.call (h':=hh) (g':=g) (d':=d) (t':=t) (ch:=[]) un cC bare (λb z=>absurd z (by simp)),r,q⟩
end
noncomputable def MZ(sp:Sp)(fQ:af)(E:XK)(t:TA):TE:=λσ H Q=>t σ H λvs H1=>sp (vs++fQ) H1 Q E
noncomputable def Binds(K:ao)(fd:FuncData)(ps:aj)(ds:ai):Prop :=
 ∀(s:Shared) (us:ai),K.In s.heap->(us++ds).length=ps.length->BindsTo s fd ⟨us,[]⟩ (ps.zip (us++ds))
variable {K:ao}{ps:aj}
theorem Binds.all{fd:FuncData}(h:∀us:ai,us.length=ps.length->bindArgs fd ⟨us,[]⟩=pure (ps.zip us)):Binds K fd ps []:=λs us _ hl=>by
 rw[List.append_nil]at hl ⊢;exact .of_eq (h us hl)
def Passes(CX:yB)(X:Cx)(E:XK):Prop:=∀(pins:ak) (σ:St) (H:Hp) (s:Shared) (e:Value) (s':Shared),Inv X pins σ H s->CX X.stack H s E e s'->X.xe e s'
variable {H:Hp}{us:ai}{vs:af}
section
variable {X:Cx}{CX:yB}{k:Nat}{f C:Addr}{fd:FuncData}{ps:aj}{sp:Sp}{fQ:af}{ds:ai}{E:XK}{x m:Str}{p pos apos:Pos}{e o:Expr}{es:av}{ta:TE}{t:TA}
theorem IQ{pins:ak}{σ:St}{s:Shared}(F:gQ X.prog X.w X.K X.mg X.base CX k f fd ps sp)(hr:fY k X.A)(hb:Binds X.K fd ps ds)(hd:Vals fQ ds)(hx:Passes CX X E)
  (I:Inv X pins σ H s) (r:Vals vs us) (h:sp (vs++fQ) H Q E):wpAny (model X.prog X.w) X.A (call (.ref f) us) (EP X pins σ Q) X.xe s:=by
 have r2:Vals (vs++fQ) (us++ds):=r.append hd;have hl:(us++ds).length=ps.length:=by rw[<- r2.length];exact F.len _ _ _ _ h
 refine wpAny_call (abK (F.run X.A X.stack s H ⟨us,[]⟩ (us++ds) (vs++fQ) Q E hr I.VO (hb s us I.xH hl) r2 h) λr s' hq=>?_);cases r with
 |error e=>exact hx pins σ H s e s' I hq
 |ok fl =>
  cases fl with
  |ret u=>exact I.after hq
  |next=>exact False.elim hq
  |brk=>exact False.elim hq
  |cont=>exact False.elim hq
theorem xn(F:gQ X.prog X.w X.K X.mg X.base CX k f fd ps sp)(hr:fY k X.A)(hg:Gl X x)(hm:X.mg x=some (.ref f))(hk:PySem.W.keepIn X.K (.ref f)=true)(hb:Binds X.K fd ps ds)(hd:Vals fQ ds)(hx:Passes CX X E)
  (ha:PA X (e::es) t) (Po:(x==("__debug__" : Str))=false:=by decide) (he:starEach (e::es) X.env=(false,eval e X.env)::starEach es X.env:=by rfl) (hpl:(backTo pos (starEach es X.env)).any (·.1)=false:=by rfl) :
  PE X (.Call (.Name x p) (e::es) [] pos) (MZ sp fQ E t):=by
 intro pins s σ H Q I h;refine aa2 (rC I hg hm ?_ Po);refine PySem.W.callWith_K (h₀:=X.base) I.ok.mod.T9 hk (cN (ha pos pins s σ H _ I h) λus s1 ⟨vs,H1,I1,r,q⟩=>⟨I1.xH,?_⟩) he hpl;exact IQ F hr hb hd hx I1 r q
structure Mk(K:ao)(C f:Addr):Prop where
 makes:PySem.W.makesIn K C=true
 init:PySem.W.findIn K (.ref C) "__init__" = some (some (.ref f))
 fn:PySem.W.isFn K (.ref f)=true
 kp:PySem.W.keepIn K (.ref C)=true
end
section
variable {X:Cx}{CX:yB}{k:Nat}{f C:Addr}{fd:FuncData}{ps ks:aj}{sp:Sp}{E:XK}{x m:Str}{p pos apos Zc:Pos}{e o:Expr}{es:av}{kws:List Keyword}{te ta:TE}{t tk:TA}{nm:Option Str}
structure Wj(K:ao)(fd:FuncData)(ps ks:aj)(g:ai->ai->ai)(gV:af->af->af):Prop where
 to:∀(s:Shared) (us ws:ai),K.In s.heap->(g us ws).length=ps.length->BindsTo s fd ⟨us,ks.zip ws⟩ (ps.zip (g us ws))
 rel:∀{vs:af} {us:ai} {zs:af} {ws:ai},Vals vs us->Vals zs ws->Vals (gV vs zs) (g us ws)
variable {g:ai->ai->ai}{gV:af->af->af}
end
structure gf(N P:aj)(sc:Scope):Prop where
 kind:sc.kind=.function
 co:sc.isCoroutine=false
 gen:sc.isGenerator=false
 nd:N.Nodup
 pre:N.take P.length=P
 par:∀x∈P,sc.names.lookup x=some .local\/sc.names.lookup x=some .cell
 JA:∀y∈sc.names,y.2≠.free
theorem qB{kindOf:Str->Option NameKind}{x:Str}:∀{binds:List (Str×Value)} {m:aV},(∀v,(x,v)∉binds)->bindL kindOf binds m x=m x
 |[],_,_=>rfl
 | (n,v)::r,m,h=>by
  unfold bindL;rw[qB λw hw=>h w (List.mem_cons_of_mem _ hw)];split
  ·have:x≠n:=by rintro rfl;exact h v aah
   simp[this]
  ·rfl
theorem qE{kindOf:Str->Option NameKind}{x:Str}:∀{binds:List (Str×Value)} {m:aV},(∀v,(x,v)∉binds)->bindC kindOf binds m x=m x
 |[],_,_=>rfl
 | (n,v)::r,m,h=>by
  unfold bindC;rw[qE λw hw=>h w (List.mem_cons_of_mem _ hw)];split
  ·rfl
  ·have:x≠n:=by rintro rfl;exact h v aah
   simp[this]
theorem qC{kindOf:Str->Option NameKind}{x:Str}{v:Value}:∀{P:aj} {vs:ai} {i:Nat} {m:aV},P.Nodup->P[i]?=some x->vs[i]?=some v->kindOf x=some .local ->
  bindL kindOf (P.zip vs) m x=some v
 |[],_,_,_,_,h,_,_=>by simp at h
 |_::_,[],_,_,_,_,h,_=>by simp at h
 |p::P,w::vs,0,m,nd,h1,h2,hk=>by
  simp at h1 h2;subst h1;subst h2;show bindL kindOf ((p,w)::P.zip vs) m p=_;unfold bindL;rw[qB λv hv=>(List.nodup_cons.mp nd).1 (List.of_mem_zip hv).1,if_pos hk];simp
 |p::P,w::vs,i+1,m,nd,h1,h2,hk=>by
  show bindL kindOf ((p,w)::P.zip vs) m x=_;unfold bindL;exact qC (i:=i) (List.nodup_cons.mp nd).2 (by simpa using h1) (by simpa using h2) hk
theorem qF{kindOf:Str->Option NameKind}{x:Str}{v:Value}:∀{P:aj} {vs:ai} {i:Nat} {m:aV},P.Nodup->P[i]?=some x->vs[i]?=some v->kindOf x≠some .local ->
  bindC kindOf (P.zip vs) m x=some v
 |[],_,_,_,_,h,_,_=>by simp at h
 |_::_,[],_,_,_,_,h,_=>by simp at h
 |p::P,w::vs,0,m,nd,h1,h2,hk=>by
  simp at h1 h2;subst h1;subst h2;show bindC kindOf ((p,w)::P.zip vs) m p=_;unfold bindC;rw[qE λv hv=>(List.nodup_cons.mp nd).1 (List.of_mem_zip hv).1,if_neg hk];simp
 |p::P,w::vs,i+1,m,nd,h1,h2,hk=>by
  show bindC kindOf ((p,w)::P.zip vs) m x=_;unfold bindC;exact qF (i:=i) (List.nodup_cons.mp nd).2 (by simpa using h1) (by simpa using h2) hk
noncomputable def start(N:aj)(vs:af):St:=vs.map some++List.replicate (N.length - vs.length) none
noncomputable def iY(CX:yB)(P:aE)(w:World)(K:ao)(mg:aV)(base:Heap)(N:aj)(qual:Str)(scope:Scope)(f:Addr)(cd:Value)(A:aG)(outer:List Env)(s:Shared)(H:Hp)(E:XK):Cx where
 prog:=P
 w:=w
 K:=K
 mg:=mg
 base:=base
 A:=A.deeper (envOfC qual scope s.heap.objs.size f cd)
 N:=N
 s₀:=s
 H₀:=H
 env:=envOfC qual scope s.heap.objs.size f cd
 outer:=outer
 stack:=envOfC qual scope s.heap.objs.size f cd::outer
 ex:=[]
 calm:=true
 fn:=λ_=>true
 pn:=[]
 xe:=λe s'=>wpAny (model P w) (A.deeper (envOfC qual scope s.heap.objs.size f cd)) (leaving (envOfC qual scope s.heap.objs.size f cd) e) (λ_ Te=>CX outer H s E e Te) (λe' Te=>CX outer H s E e' Te) s'
theorem uD{sc:Scope}{n:Nat}{x:Str}(h:sc.names.lookup x=some .cell):∃c,(cellsFrom n sc.names []).lookup x=some c:=by
 have q:=PySem.W.cellsFrom_some sc.names n [] (.inl h);exact Option.isSome_iff_exists.mp q
variable {P:aE}{base:Heap}{mg:Str->Option Value}{qual:Str}{scope:Scope}{w:World}
theorem zk{CX:yB}{N:aj}{f:Addr}{cd:Value}{outer:List Env}{s s1:Shared}{E:XK}  
  (S:gf N ps scope) (hd:A.handled=none) (e0:GA P w K mg base A outer s H) (hl:vs.length=ps.length) (r:Vals vs us)
  (x:InCallC s s.heap.objs.size (bindL (envOfC qual scope s.heap.objs.size f cd).kindOf (ps.zip us) λ_=>none) (cellsFrom (s.heap.objs.size+1) scope.names []) (bindC (envOfC qual scope s.heap.objs.size f cd).kindOf (ps.zip us) λ_=>none) s1) :
  Inv (iY CX P w K mg base N qual scope f cd A outer s H E) [] (start N vs) H s1:=by
 have hpl:ps.length<=N.length:=by have:=aaN List.length S.pre;rw[List.length_take]at this;left
 obtain⟨h1,tk,rfl,hk⟩:=x.done;have NY:∀b:Addr,b∉(iY CX P w K mg base N qual scope f cd A outer s H E).ex:=λb z=>absurd (show b∈([]:bc) from z) (by simp);refine⟨⟨e0.mod,S.kind,rfl,rfl,aai _,λy z c h1 h2=>?_,λy hy=>?_,λy c _ h=>?_,λ_=>hd,Around.frames_deeper e0.frames,.inr ⟨rfl,rfl⟩,λb z=>absurd z (NY b),e0.bs,e0.De,λb _ _=>NY b,λb z=>absurd z (NY b),e0.jK,e0.z8⟩,
  rfl,e0.bare,Un.kept hk,⟨_,x.toInCall.ns,λi y v h1 h2 h3=>?_⟩,λy c h=>⟨_,x.cell y c h⟩,e0.cC.fresh (aai _),λy c h=>?_,λp hp=>absurd (show p∈([]:ak) from hp) (by simp),e0.cC.kept hk,?_⟩
 ·exact name_of_addr x.apart (aaY h1) (aaY h2)
 ·have hy:scope.names.lookup y=some .cell\/scope.names.lookup y=some .free:=hy;rcases hy with hy|hy
  ·exact uD hy
  ·exact absurd rfl (S.JA _ (aaY hy))
 ·exact Nat.le_of_lt (x.above y c (aaY h))
 ·have hi:i<vs.length:=by
   unfold start at h2;by_cases hi:i<vs.length
   ·exact hi
   ·rw[List.getElem?_append_right (by simpa using hi)]at h2;rw[List.getElem?_replicate]at h2;split at h2<;>cases h2
  have ha:vs[i]?=some v:=by
   unfold start at h2;rw[List.getElem?_append_left (by simpa using hi),List.getElem?_map]at h2;cases e:vs[i]? with
   |none=>rw[e]at h2;cases h2
   |some a=>rw[e]at h2;cases h2;rfl
  obtain⟨u,hu,rv⟩:=r.get ha;have hp:ps[i]?=some y:=by
   rw[<- S.pre,List.getElem?_take_of_lt (by left)];exact h1
  have WR:ps.Nodup:=by rw[<- S.pre];exact S.nd.sublist (List.take_sublist _ _)
  refine⟨u,rv,?_⟩;rcases S.par y (aap hp)with k|k
  ·exact .inl ⟨k,qC WR hp hu k⟩
  ·obtain⟨c,e⟩:=uD (n:=s.heap.objs.size+1) k;refine .inr ⟨.inl k,c,e,?_⟩;have q:=x.cell y c e;rw[qF WR hp hu (by show scope.names.lookup y≠_;rw[k];decide)]at q;exact q
 ·exact e0.cC.fresh (Nat.le_of_lt (x.above y c (aaY h)))
 ·unfold start;show _=N.length;rw[List.length_append,List.length_map,List.length_replicate];left
theorem Hk{CX:yB}{k:Nat}{f:Addr}{name:Str}{params:Arguments}{body:aS}{dV kV doc pm fX ct oc:Value}{an od:Option Addr}
  {Bl:Array (Option Value)} {N:aj} {sp:Sp} (lk:K.lookup f=some ⟨oc,od,.func (PySem.W.fnOf name qual params body scope dV kV doc pm an fX ct),Bl⟩) (vW:PySem.W.codeIn K fX qual=true) (S:gf N ps scope)
  (len:∀vs H Q E,sp vs H Q E->vs.length=ps.length)
  (ud:∀(A:aG) (outer:List Env) (s:Shared) (H:Hp) (vs:af) (Q:VK) (E:XK),fY k (A.deeper (envOfC qual scope s.heap.objs.size f fX))->sp vs H Q E ->
   ∃t,ig (iY CX P w K mg base N qual scope f fX A outer s H E) body t/\t { nx:=λ_ H'=>Q .bu H',rt:=Q } (start N vs) H) :
  gQ P w K mg base CX (k+1) f (PySem.W.fnOf name qual params body scope dV kV doc pm an fX ct) ps sp:=by
 refine⟨len,λA outer s H args us vs Q E hr e0 hb r uP=>?_⟩;have hl:=len _ _ _ _ uP;have KX:K.In s.heap:=e0.mod.T9.keeps λb o e=>(e0.bs b o e).1;have lim:s.heap.NoLimit:=e0.mod.nolimit.keeps λb o e=>(e0.bs b o e).1;have Pa:∀y∈ps.zip us,scope.names.lookup y.1=some .local\/(scope.names.lookup y.1=some .cell/\((cellsFrom (s.heap.objs.size+1) scope.names []).lookup y.1).isSome=true):=λ⟨n,v⟩ hy=>by
  rcases S.par n (List.of_mem_zip hy).1 with q|q
  ·exact .inl q
  ·exact .inr ⟨q,PySem.W.cellsFrom_some _ _ _ (.inl q)⟩
 refine codeAny_call_function hr.depth (KX _ _ lk) rfl S.co S.gen rfl (PySem.W.codeRec_of KX vW) (hb _ _ _ _ ?_);refine wpAny_newFunctionEnv_cells S.kind Pa λenv he s1 x=>?_;subst he;refine⟨lim.keeps x.toInCall.keep,codeAny_func ?_⟩;obtain⟨t,ht,hq⟩:=ud A outer s H vs Q E (hr.deeper _) uP;have I:Inv (iY CX P w K mg base N qual scope f fX A outer s H E) [] (start N vs) H s1:=zk S hr.hd e0 hl r x;refine aau (ht [] s1 (start N vs) H _ I hq) (λfl s' hs=>?_) λe s' hs=>hs;have fin:∀{σ':St} {H':Hp} {v:V} {u:Value},Inv (iY CX P w K mg base N qual scope f fX A outer s H E) [] σ' H' s'->RelV v u->Q v H'->CE outer P w H s Q u s' :=
  λ{σ' H' v u} J rv q=>⟨v,H',J.os,J.bare,J.base,J.cC,rv,q⟩
 cases fl with
 |ret u =>
  obtain⟨v,σ',H',J,rv,q⟩:=hs;exact fin J rv q
 |next =>
  obtain⟨σ',H',J,q⟩:=hs;exact fin (v:=V.bu) (u:=Value.none) J rfl q
 |brk =>
  obtain⟨_,_,_,q⟩:=hs;exact False.elim q
 |cont =>
  obtain⟨_,_,_,q⟩:=hs;exact False.elim q
end L2
namespace L2
open PySem PySem.Spec PyProof.Rows
section
variable {X:Cx}{x:Str}{p pos:Pos}{e:Expr}{es:av}{t:TA}{id T:String}{r:af->Hp->VK->Prop}
noncomputable def M0(r:af->Hp->VK->Prop)(t:TA):TE:=λσ H Q=>t σ H λvs H1=>r vs H1 Q
theorem dG(hc:e_ X (.builtin id) r)(hg:Gl X x)(hm:X.mg x=none)(hv:bootBuiltins x=some (.builtin id))(ha:PA X (e::es) t)(hn:x ≠ "__name__":=by decide)(Po:(x==("__debug__" : Str))=false:=by decide)
  (he:starEach (e::es) X.env=(false,eval e X.env)::starEach es X.env:=by rfl) (hpl:(backTo pos (starEach es X.env)).any (·.1)=false:=by rfl):PE X (.Call (.Name x p) (e::es) [] pos) (M0 r t):=by
 intro pins s σ H Q I h;refine aa2 (gj I hg hm hv ?_ hn Po);exact PyProof.Rows.callWith_builtin1 (cN (ha pos pins s σ H _ I h) λus s1 ⟨vs,H1,I1,r1,q1⟩=>hc pins s1 σ H1 vs us Q I1 r1 q1) he hpl
theorem kU(hc:e_ X (.type T) r)(hg:Gl X x)(hm:X.mg x=none)(hv:bootBuiltins x=some (.type T))(ha:PA X (e::es) t)(hn:x ≠ "__name__":=by decide)(Po:(x==("__debug__" : Str))=false:=by decide)
  (he:starEach (e::es) X.env=(false,eval e X.env)::starEach es X.env:=by rfl) (hpl:(backTo pos (starEach es X.env)).any (·.1)=false:=by rfl):PE X (.Call (.Name x p) (e::es) [] pos) (M0 r t):=by
 intro pins s σ H Q I h;refine aa2 (gj I hg hm hv ?_ hn Po);exact aaA (cN (ha pos pins s σ H _ I h) λus s1 ⟨vs,H1,I1,r1,q1⟩=>hc pins s1 σ H1 vs us Q I1 r1 q1) he hpl
end
end L2
namespace HT
open PySem PyProof.Rows
noncomputable def lexLt:ae->ae->Bool
 |[],[]=>false
 |[],_::_=>true
 |_::_,[]=>false
 |x::xs,y::ys=>if x=y then lexLt xs ys else decide (x<y)
theorem df(x y:Int)(xs ys:ae):lexLt (x::xs) (y::ys)=if x=y then lexLt xs ys else decide (x<y):=rfl
theorem jx:lexLt [] []=false:=rfl
theorem nS(y:Int)(ys:ae):lexLt [] (y::ys)=true:=rfl
theorem de(x:Int)(xs:ae):lexLt (x::xs) []=false:=rfl
theorem oD(A:aG)(s:Shared)(a:Int)(t:Tok)(c:Int)(u:Tok):∃e,SeqAt.EqAt A s (.int a t) (.int c u) e/\(e=true ↔ a=c) :=
 ⟨(a==c),abo a t c u,by simp⟩
theorem A1(A:aG)(s:Shared)(a:Int)(t:Tok)(c:Int)(u:Tok)(prog:aE)(w:World)(E:aA)(Q:aA)(h:Q (.bool (decide (a<c))) s):
  wpAny (model prog w) A (richCompare .Lt (.int a t) (.int c u)) Q E s :=
 (PyProof.Rows.lt_int h:wpAny (model prog w) A (compareOp .Lt (.int a t) (.int c u)) Q E s)
section
open PySem.SeqAt
open PySem.AutoSeq1 (wpAny_loadPart')
open PySem.MeetsSeq PySem.MeetsSeq2 PySem.MeetsSeq3
theorem jv(l b:Addr)(items cx:aR)(n n2:Nat)(dd rZ:Option Addr)(sl p7:Array (Option Value))(ns ms:ae)(hi:IntsAre items.toList ns)(hj:IntsAre cx.toList ms):
  Meets (Builtin.«tuple.__lt__» ⟨[.ref l,.ref b],[]⟩)
   (λ_ R s=>s.heap.get? l=some { cls:=.type "tuple",dict:=dd,data:=.seq items n,slots:=sl }/\s.heap.get? b=some { cls:=.type "tuple",dict:=rZ,data:=.seq cx n2,slots:=p7 } /\
    R (.ok (.ret (.bool (lexLt ns ms)))) s) :=
 .of_wp λprog w A R s h=>by
  obtain⟨hp,g,d,tk,os⟩:=s;obtain⟨hl,hb,h⟩:=h;have f2:=abp;have z1:items.size=ns.length:=by rw[<- hi.length];simp
  have z2:cx.size=ms.length:=by rw[<- hj.length];simp
  wp_walk using wpAny_loadPart' hl,wpAny_loadPart' hb,wpAny_forIn_list _ (λrest b s'=>b.1=none/\s'=⟨hp,g,d,tk,os⟩/\∃(vs ws:ai) (g5 o6:ae),rest=vs.zip ws /\
   IntsAre vs g5/\IntsAre ws o6/\g5.length+cx.size=o6.length+items.size/\R (.ok (.ret (.bool (lexLt g5 o6)))) ⟨hp,g,d,tk,os⟩) _
  case turn =>
   rintro ⟨y,x⟩ rest b s' ⟨qj,rfl,vs,ws,g5,o6,hz,B2,z5,hlen,hR⟩;cases B2 with
   |nil=>rw[List.zip_nil_left]at hz;cases hz
   |cons a t hvi' =>
    cases z5 with
    |nil=>rw[List.zip_nil_right]at hz;cases hz
    |cons c u hwi' =>
     rw[List.zip_cons_cons]at hz;injection hz with OK t_
     injection OK with hy hx
     subst hy hx;rw[df]at hR;simp only[List.length_cons]at hlen;obtain⟨e,he,ua⟩:=oD A.in1 ⟨hp,g,d,tk,os⟩ a t c u;refine aaa (he prog w _ _ ?_);cases e with
     |true =>
      rw[if_pos (ua.mp rfl)]at hR
      wp_walk
      exact⟨rfl,rfl,_,_,_,_,t_,hvi',hwi',by left,hR⟩
     |false =>
      rw[if_neg (λq=>absurd (ua.mpr q) Bool.false_ne_true)]at hR;have OW:=A1 A.in1 ⟨hp,g,d,tk,os⟩ a t c u prog w
      wp_walk using OW
      exact⟨_,rfl,by simpa using hR⟩
  case fin =>
   rintro ⟨b1,b2⟩ s' ⟨qj,rfl,vs,ws,g5,o6,hz,B2,z5,hlen,hR⟩;simp only at qj;subst qj;have hv:lexLt g5 o6=decide (items.size<cx.size):=by
    cases B2 with
    |nil =>
     cases z5 with
     |nil =>
      simp only[List.length_nil]at hlen;rw[jx];exact(aaD (by left)).symm
     |cons c u hw =>
      simp only[List.length_nil,List.length_cons]at hlen;rw[nS];exact(aaq (by left)).symm
    |cons a t hv =>
     cases z5 with
     |nil =>
      simp only[List.length_nil,List.length_cons]at hlen;rw[de];exact(aaD (by left)).symm
     |cons c u hw =>
      rw[List.zip_cons_cons]at hz;cases hz
   rw[hv]at hR
   wp_walk
   exact⟨_,rfl,by simpa [Builtin.Tuple.tupleCompareSizes]using hR⟩
  case h =>
   exact⟨rfl,rfl,items.toList,cx.toList,ns,ms,rfl,hi,hj,by left,h⟩
end
variable {Q:Value->Shared->Prop}
section
variable {prog:aE}{w:World}{A:aG}{E:aA}{s:Shared}
theorem nQ{l b:Addr}{items cx:aR}{ns ms:ae}(hl:IsTup s.heap l items)(hb:IsTup s.heap b cx)(hi:IntsAre items.toList ns)(hj:IntsAre cx.toList ms)
  (hu:A.units<cLine) (h:Q (.bool (lexLt ns ms)) s):wpAny (model prog w) A (compareOp .Lt (.ref l) (.ref b)) Q E s:=by
 obtain⟨⟨cls,dd,data,sl⟩,ho,hc,n,hd⟩:=id hl;obtain⟨⟨C0,rZ,data2,p7⟩,o9,sL,n2,hd2⟩:=id hb;simp only at hc hd sL hd2;subst hc hd sL hd2;exact abz (op:=.Lt) ⟨_,ho,rfl⟩ ⟨_,o9,rfl⟩ abH PySem.F.entry_tuple_lt (PySem.F.args_tuple_lt_2 _ _) (jv l b items cx n n2 dd rZ sl p7 ns ms hi hj)
  ⟨ho,o9,show Value.bool (lexLt ns ms)≠Value.notImplemented/\Q (.bool (lexLt ns ms)) s from⟨(λx=>nomatch x),h⟩⟩ hu
theorem Gk{t b:Addr}{vs ws:ai}(ht:IsTup s.heap t vs.toArray)(hb:IsTup s.heap b ws.toArray)(hv:vs≠[])
  (h1:ws=[]->Q (.ref t) s) (h2:ws≠[]->Q (.ref s.heap.objs.size) { s with heap:=s.heap.push { cls:=.type "tuple",data:=.seq (vs++ws).toArray } })
  (hsz:vs.length+ws.length<=sizeLine):wpAny (model prog w) A (binaryOp .Add (.ref t) (.ref b)) Q E s:=by
 obtain⟨⟨cls,dd,data,sl⟩,ho,hc,n,hd⟩:=id ht;obtain⟨⟨C0,rZ,data2,p7⟩,o9,sL,n2,hd2⟩:=id hb;simp only at hc hd sL hd2;subst hc hd sL hd2;have e:vs.toArray++ws.toArray=(vs++ws).toArray:=by simp
 by_cases hw:ws=[]
 ·exact concat_meets ⟨_,ho,rfl⟩ ⟨_,o9,rfl⟩ noFill_tuple_add seq_tuple_add abA abx (abq _ _)
   (tuple_addW1 t b vs.toArray ws.toArray n n2 dd rZ sl p7 (by simpa using hv) (by simp[hw])) ⟨ho,o9,h1 hw⟩
 ·refine concat_meets ⟨_,ho,rfl⟩ ⟨_,o9,rfl⟩ noFill_tuple_add seq_tuple_add abA abx (abq _ _)
   (tuple_addW2 t b vs.toArray ws.toArray n n2 dd rZ sl p7 (by simpa using hv) (by simpa using hw) (by rw[List.size_toArray,List.size_toArray];exact hsz)) ⟨ho,o9,?_⟩
  rw[e];exact h2 hw
noncomputable def vp(n d:Nat):Option Int->Nat
 |none=>d
 |some v=>if v<0 then(v+(n:Int)).toNat else min v.toNat n
theorem vk{v:Value}{o:Option Int}{Q:Option Int->Shared->Prop}(p:IsPart v o)(h:Q o s):wpAny (model prog w) A (Builtin.Slice.slicePartIndex v) Q E s:=by
 cases p with
 |none=>exact slicePart_none h
 |int i t=>exact slicePart_int h
end
end HT
namespace L2
open PySem PySem.Spec PyProof.Rows
noncomputable abbrev TO:=St->Hp->(Option Int->Hp->Prop)->Prop
noncomputable def PO(X:Cx)(e:Option Expr)(t:TO):Prop :=
 ∀(pins:ak) (s:Shared) (σ:St) (H:Hp) (Q:Option Int->Hp->Prop),Inv X pins σ H s->t σ H Q ->
  wpAny (model X.prog X.w) X.A (evalPart e X.env) (λu s'=>∃o H',Inv X pins σ H' s'/\IsPart u o/\Q o H') X.xe s
noncomputable def Ef:TO:=λ_ H Q=>Q none H
noncomputable def MT(t:TE):TO:=λσ H Q=>t σ H λx H1=>∃i,x=.int i/\Q (some i) H1
theorem intsAre_of{ns:ae}:∀{us:ai},Vals (ns.map V.int) us->IntsAre us ns:=by
 induction ns with
 |nil=>intro us r;rw[List.map_nil]at r;cases r;exact .nil
 |cons n ns ih =>
  intro us r;rw[List.map_cons]at r;cases r with
  |cons r1 r2 =>
   obtain⟨t,e⟩:=r1;subst e;exact .cons n t (ih r2)
section
variable {X:Cx}{e:Expr}{te:TE}{lo hi:Option Expr}{tl th:TO}{pos p2:Pos}
theorem xg:PO X none Ef:=by
 intro pins s σ H Q I h;rw[evalPart_none];exact aad ⟨none,H,I,.none,h⟩
theorem xf(h:PE X e te):PO X (some e) (MT te):=by
 intro pins s σ H Q I hw;rw[evalPart_some];refine cN (h pins s σ H _ I hw) λu s1 bF=>?_;obtain⟨x,H1,I1,r1,q1⟩:=bF;obtain⟨i,rfl,q⟩:=q1;obtain⟨t,rfl⟩:=r1;exact⟨some i,H1,I1,.int i t,q⟩
def We(X:Cx)(r:V->Option Int->Option Int->Hp->VK->Prop):Prop :=
 ∀(pins:ak) (s:Shared) (σ:St) (H:Hp) (x:V) (v vl vu:Value) (lo hi:Option Int) (sl:Addr) (Q:VK),Inv X pins σ H s->RelV x v->s.heap.IsSliceOf sl vl vu .none->IsPart vl lo->IsPart vu hi->r x lo hi H Q ->
  ∃T id,typeLookup (.type T) "__getitem__" = pure (some (.builtin id))/\s.TypeIs v T/\wpAny (model X.prog X.w) X.A (getItem v (.ref sl)) (EP X pins σ Q) X.xe s
noncomputable def Yt(r:V->Option Int->Option Int->Hp->VK->Prop)(te:TE)(tl th:TO):TE:=λσ H Q=>te σ H λx H1=>tl σ H1 λl H2=>th σ H2 λu H3=>r x l u H3 Q
theorem Bi{r:V->Option Int->Option Int->Hp->VK->Prop}(hr:We X r)(he:PE X e te)(hl:PO X lo tl)(hu:PO X hi th):PE X (.Subscript e (.Slice lo hi none p2) pos) (Yt r te tl th):=by
 intro pins s σ H Q I h;refine Subscript_ (cN (he pins s σ H _ I h) λv s1 bF=>?_);obtain⟨x,H1,I1,r1,q1⟩:=bF;refine wpAny_Slice (cN (hl pins s1 σ H1 _ I1 q1) λvl s2 ⟨l,H2,I2,pl,q2⟩=>cN (hu pins s2 σ H2 _ I2 q2) λvu s3 bF=>?_);obtain⟨u,H3,I3,pu,q3⟩:=bF;rw[evalPart_none];refine aad ?_;have I4:Inv X pins σ H3 { s3 with heap:=s3.heap.push { cls:=.type "slice",data:=.fields #[vl,vu,.none] } }:=I3.kept (t':=s3.toks) λb ob q=>aae _ q;obtain⟨T,id,hT,ht,hg⟩:=hr pins { s3 with heap:=s3.heap.push { cls:=.type "slice",data:=.fields #[vl,vu,.none] } } σ H3 x v vl vu l u s3.heap.objs.size Q I4 r1 (ab5 ..) pl pu q3;show wpAny (model X.prog X.w) X.A (subscriptTail e (.Slice lo hi none p2) v (.ref s3.heap.objs.size)) (EP X pins σ Q) X.xe { s3 with heap:=s3.heap.push { cls:=.type "slice",data:=.fields #[vl,vu,.none] } };exact tail_any (ops:=[.ref s3.heap.objs.size,v]) ht hT hg (by with_unfolding_all rfl)
def Gd(xs:af)(lo hi:Option Int):af:=(xs.drop (HT.vp xs.length 0 lo)).take (HT.vp xs.length xs.length hi - HT.vp xs.length 0 lo)
theorem uy(xs:af)(lo hi:Option Int):(Gd xs lo hi).length<=xs.length:=by
 unfold Gd;rw[List.length_take,List.length_drop];left
def Nw(K:ao):R2:=λx y H Q=>∃a b xs ys,x=.ref a/\y=.ref b/\aW K H a xs/\aW K H b ys/\xs≠[]/\xs.length+ys.length<=sizeLine /\
 (ys=[]->Q (.ref a) H)/\(ys≠[]->∀p,H p=none->Q (.ref p) (upd H p (.tup (xs++ys))))
theorem Vals.ra{xs:af}{us:ai}(r:Vals xs us):us=[] ↔ xs=[]:=by
 cases r with
 |nil=>simp
 |cons _ _=>simp
theorem EV:js X (binaryOp .Add) (Nw X.K):=by
 intro pins s σ H x y v u Q I rx ry h;obtain⟨a,b,xs,ys,rfl,rfl,ha,hb,hx,hz,q1,q2⟩:=h;cases rx;cases ry;obtain⟨aI,r1,p1,_⟩:=I.tuple ha;obtain⟨rF,r2,p2,_⟩:=I.tuple hb;refine HT.Gk p1 p2 (λz=>hx (r1.ra.mp z)) (λz=>⟨.ref a,H,I,rfl,q1 (r2.ra.mp z)⟩) (λz=>?_) (by rw[<- r1.length,<- r2.length];exact hz);refine⟨.ref s.heap.objs.size,_,I.laid (t':=s.toks) (o:=.tup (xs++ys)) (λb ob q=>aae _ q) (aai _) ?_,rfl,q2 (λw=>z (r2.ra.mpr w)) _ (I.cC.fresh (aai _))⟩;exact⟨by rw[List.length_append];exact hz,_,r1.append r2,IsTup.new _ _⟩
end
end L2
namespace L2
open PySem PySem.Spec PyProof.Rows
noncomputable def kZ(n:Nat)(i:Int):Option Nat:=if 0<=i then(if i<n then some i.toNat else none)else if -(n:Int)<=i then some (i+n).toNat else none
def Mt{α:Type}(xs:List α)(i:Int):Option α:=(kZ xs.length i).bind λj=>xs[j]?
theorem xI{n:Nat}{i:Int}{j:Nat}(h:kZ n i=some j):seqIndex? i n=some j/\j<n /\ -(n:Int)<=i/\i<n:=by
 unfold kZ at h;by_cases h0:0<=i
 ·rw[if_pos h0]at h;by_cases h1:i<n
  ·rw[if_pos h1]at h;have e:i.toNat=j:=aao h;exact⟨by rw[seqIndex_of h0 h1,e],by left,by left,h1⟩
  ·rw[if_neg h1]at h;cases h
 ·rw[if_neg h0]at h;by_cases h1:-(n:Int)<=i
  ·rw[if_pos h1]at h;have e:(i+n).toNat=j:=aao h;exact⟨by rw[seqIndex_neg (by left) h1,e],by left,h1,by left⟩
  ·rw[if_neg h1]at h;cases h
theorem yt{α:Type}{xs:List α}{i:Int}{v:α}(h:Mt xs i=some v):∃j,seqIndex? i xs.length=some j/\xs[j]?=some v/\j<xs.length /\ -(xs.length:Int)<=i/\i<xs.length:=by
 unfold Mt at h;cases e:kZ xs.length i with
 |none=>rw[e]at h;cases h
 |some j =>
  rw[e]at h;obtain⟨h1,h2,h3,h4⟩:=xI e;exact⟨j,h1,h,h2,h3,h4⟩
def mY(b:Expr):Prop:=∀o i,subscripted b false o i=operate [o,i] (getItem o i)
def HD(X:Cx)(r:R2):Prop :=
 ∀(value slice:Expr) (pins:ak) (s:Shared) (σ:St) (H:Hp) (x y:V) (v u:Value) (Q:VK),Inv X pins σ H s->RelV x v->RelV y u->r x y H Q ->
  subscripted slice false v u=operate [v,u] (getItem v u)->wpAny (model X.prog X.w) X.A (subscriptTail value slice v u) (EP X pins σ Q) X.xe s
def Wh(X:Cx)(id:String)(r:V->af->Hp->VK->Prop):Prop :=
 ∀(pins:ak) (s:Shared) (σ:St) (H:Hp) (x:V) (xs:af) (v:Value) (us:ai) (Q:VK),Inv X pins σ H s->RelV x v->Vals xs us->r x xs H Q ->
  wpAny (model X.prog X.w) X.A (call (.builtin id) (v::us)) (EP X pins σ Q) X.xe s
variable {H:Hp}{σ:L2.St}
section
variable {X:Cx}{a b:Expr}{ta tb:TE}{pos:Pos}
theorem HD.or{r r':R2}(h:HD X r)(h':HD X r'):HD X (λx y H Q=>r x y H Q\/r' x y H Q):=by
 intro value slice pins s σ H x y v u Q I rx ry q hs;rcases q with q|q
 ·exact h value slice pins s σ H x y v u Q I rx ry q hs
 ·exact h' value slice pins s σ H x y v u Q I rx ry q hs
theorem GY{r:R2}(hr:HD X r)(ha:PE X a ta)(hb:PE X b tb)(hs:mY b):PE X (.Subscript a b pos) (DG r ta tb):=by
 intro pins s σ H Q I h;exact Subscript_ (LF ha hb I h λv u s2 x y H2 I2 rx ry q=>hr a b pins s2 σ H2 x y v u Q I2 rx ry q (hs _ _))
def Tr(K:ao):R2:=λx y H Q=>∃p xs i v,x=.ref p/\y=.int i/\dE K H p xs/\Mt xs i=some v/\Q v H
def Tq(K:ao):R2:=λx y H Q=>∃p xs i v,x=.ref p/\y=.int i/\aW K H p xs/\Mt xs i=some v/\Q v H
theorem Fq:HD X (Tr X.K):=by
 intro value slice pins s σ H x y v u Q I rx ry h hs;obtain⟨p,xs,i,z,rfl,rfl,hq,he,q⟩:=h;cases rx;obtain⟨t,rfl⟩:=ry;obtain⟨aI,r,pl,hz⟩:=I.list hq;obtain⟨j,h1,h2,h3,h4,h5⟩:=yt he;obtain⟨w,ew,lE⟩:=r.get h2;have hl:=r.length;have hn:=rB;have fin:EP X pins σ Q w s:=⟨z,H,I,lE,q⟩
 by_cases h0:0<=i
 ·have hj:i.toNat=j:=by
   rw[seqIndex_of h0 h5]at h1;exact aao h1
  exact item_listR pl.isList h0 (by left) (by rw[hj];simpa using ew) fin hs
 ·have hj:(i+(aI.toArray.size:Int)).toNat=j:=by
   rw[seqIndex_neg (by left) h4]at h1;rw[List.size_toArray,<- hl];exact aao h1
  exact abB (x:=w) pl.isList.typeIs slot_list_getitem.lookup
   (wpAny_getItem_list_neg (Q:=λr s'=>r=w/\EP X pins σ Q r s') pl.isList (by left) (by rw[List.size_toArray]<;>omega) (by left) (by rw[hj];simpa using ew) ⟨rfl,fin⟩) hs
theorem JR:HD X (Tq X.K):=by
 intro value slice pins s σ H x y v u Q I rx ry h hs;obtain⟨p,xs,i,z,rfl,rfl,hq,he,q⟩:=h;cases rx;obtain⟨t,rfl⟩:=ry;obtain⟨aI,r,pl,hz⟩:=I.tuple hq;obtain⟨j,h1,h2,h3,h4,h5⟩:=yt he;obtain⟨w,ew,lE⟩:=r.get h2;have hl:=r.length;have hn:=rB;have fin:EP X pins σ Q w s:=⟨z,H,I,lE,q⟩
 exact abB (x:=w) pl.typeIs slot_tuple_getitem.lookup
  (getItem_tuple (j:=j) (Q:=λr s'=>r=w/\EP X pins σ Q r s') pl (by left) (by left) (by rw[List.size_toArray,<- hl];exact h1) (by simpa using ew) ⟨rfl,fin⟩) hs
theorem vH(aI:ai)(n j:Nat)(u:Value):Obj.mapSeq (·.setIfInBounds j u) { cls:=.type "list",data:=.seq aI.toArray n }={ cls:=.type "list",data:=.seq (aI.set j u).toArray n }:=by
 simp[Obj.mapSeq]
theorem Inv.lst{pins:ak}{σ:St}{H:Hp}{s:Shared}{p:Addr}{xs:af}(I:Inv X pins σ H s)(h:H p=some (.lst xs)):
  ∃(aI:ai) (n:Nat),Vals xs aI/\s.heap.get? p=some { cls:=.type "list",data:=.seq aI.toArray n }/\xs.length<=sizeLine:=by
 obtain⟨z,aI,n,r,e⟩:=I.cC p _ h;exact⟨aI,n,r,e,z⟩
theorem Inv.JI{pins:ak}{s:Shared}{p:Addr}{xs ys:af}{aI its':ai}{n n':Nat}{f:Obj->Obj}(I:Inv X pins σ H s)(h:H p=some (.lst xs))
  (ho:s.heap.get? p=some { cls:=.type "list",data:=.seq aI.toArray n }) (hf:f { cls:=.type "list",data:=.seq aI.toArray n }={ cls:=.type "list",data:=.seq its'.toArray n' }) (r:Vals ys its') (hz:ys.length<=sizeLine) (t:Nat) :
  Inv X pins σ (upd H p (.lst ys)) { s with heap:=s.heap.update p f,toks:=t }:=by
 have e:(s.heap.update p f).get? p=some { cls:=.type "list",data:=.seq its'.toArray n' }:=by
  rw[Heap.get?_update_self f ho (by rw[hf]<;>rfl),hf]
 refine I.write (x:=p) (e:=p) (by rw[h];trivial) (.inl rfl) (λb u hb q=>(aaE _ _ (abu hb)).trans q) ⟨_,e⟩ ?_;exact⟨hz,its',n',r,e⟩
def Nq:V->V->V->Hp->(Hp->Prop)->Prop:=λo i v H Q=>∃p xs k j,o=.ref p/\i=.int k/\H p=some (.lst xs)/\kZ xs.length k=some j/\Q (upd H p (.lst (xs.set j v)))
theorem set_list:QQ X Nq:=by
 intro pins s σ H o i v ov iv u Q I ro ri rv h;obtain⟨p,xs,k,j,rfl,rfl,hp,hj,q⟩:=h;cases ro;obtain⟨t,rfl⟩:=ri;obtain⟨aI,n,r,ho,hz⟩:=I.lst hp;obtain⟨h1,h2,h3,h4⟩:=xI hj;have hl:=r.length;have hn:=rB;have I':Inv X pins σ (upd H p (.lst (xs.set j v))) { s with heap:=s.heap.update p (Obj.mapSeq (·.setIfInBounds j u)) } :=
  I.JI hp ho (vH aI n j u) (r.set rv j) (by rw[List.length_set];exact hz) s.toks
 by_cases h0:0<=k
 ·have hk:k.toNat=j:=by
   rw[seqIndex_of h0 h4]at h1;exact aao h1
  exact PySem.W.ki_setAt ho h0 (by left) (by rw[List.size_toArray,<- hl];exact h4) (by rw[hk];exact⟨_,I',q⟩)
 ·have hk:(k+(aI.toArray.size:Int)).toNat=j:=by
   rw[seqIndex_neg (by left) h3]at h1;rw[List.size_toArray,<- hl];exact aao h1
  exact PySem.W.ki_setBack ho (by left) (by rw[List.size_toArray,<- hl];exact h3) (by left) (by rw[hk];exact⟨_,I',q⟩)
theorem qM(lo hi:Option Int)(n:Nat):(sliceBounds lo hi none n).1=((HT.vp n 0 lo:Nat):Int)/\(sliceBounds lo hi none n).2.1=((HT.vp n n hi:Nat):Int)/\(sliceBounds lo hi none n).2.2=1:=by
 refine⟨?_,?_,rfl⟩
 ·cases lo with
  |none=>simp[sliceBounds,HT.vp]
  |some i =>
   simp only[sliceBounds,HT.vp,Option.getD_none,show(1:Int)>0 by decide,if_true];by_cases h:i<0
   ·simp only[h,if_true]<;>left
   ·simp only[h,if_false]<;>left
 ·cases hi with
  |none=>simp[sliceBounds,HT.vp]
  |some i =>
   simp only[sliceBounds,HT.vp,Option.getD_none,show(1:Int)>0 by decide,if_true];by_cases h:i<0
   ·simp only[h,if_true]<;>left
   ·simp only[h,if_false]<;>left
theorem pq(aI:ai)(lo hi:Option Int):slicePick aI.toArray lo hi none=((aI.drop (HT.vp aI.length 0 lo)).take (HT.vp aI.length aI.length hi - HT.vp aI.length 0 lo)).toArray:=by
 obtain⟨h1,h2,h3⟩:=qM lo hi aI.toArray.size;unfold slicePick;rw[h1,h2,h3];simp only[sliceRange_one,pick_run,List.size_toArray]<;>rfl
def Tn(K:ao):V->Option Int->Option Int->Hp->VK->Prop:=λx lo hi H Q=>∃a xs,x=.ref a/\dE K H a xs/\∀p,H p=none->Q (.ref p) (upd H p (.lst (Gd xs lo hi)))
theorem wX:We X (Tn X.K):=by
 intro pins s σ H x v vl vu lo hi sl Q I rx hs pl pu h;obtain⟨a,xs,rfl,hx,q⟩:=h;cases rx;obtain⟨aI,r,ht,hz⟩:=I.list hx;have hlen:=r.length;refine⟨"list",_,slot_list_getitem.lookup,ht.isList.typeIs,?_⟩;refine abr ht.isList hs pl pu .none (by simp) ?_ (by rw[List.size_toArray]<;>omega);rw[pq,<- hlen];refine⟨.ref s.heap.objs.size,_,I.laid (t':=s.toks) (o:=.lst (Gd xs lo hi)) (λb ob q=>aae _ q) (aai _) ?_,rfl,q _ (I.cC.fresh (aai _))⟩;exact⟨aas (uy xs lo hi) hz,_,0,(r.drop (HT.vp xs.length 0 lo)).take (HT.vp xs.length xs.length hi - HT.vp xs.length 0 lo),aan _ rfl⟩
noncomputable def iV:V->Bool
 |.bu=>true
 |.bl _=>true
 |.int _=>true
 |.str _=>true
 |_=>false
noncomputable def FZ:V->V->Bool
 |.bu,.bu=>true
 |.bl a,.bl b=>a==b
 |.bl a,.int b=>(if a then 1 else 0)==b
 |.int a,.bl b=>a==(if b then 1 else 0)
 |.int a,.int b=>a==b
 |.str a,.str b=>a==b
 |_,_=>false
theorem Li{A:aG}{s:Shared}{y x:V}{u v:Value}(ry:RelV y u)(rx:RelV x v)(fy:iV y=true)(fx:iV x=true):SeqAt.EqAt A s u v (FZ y x):=by
 cases y with
 |bu =>
  cases ry;cases x with
  |bu=>cases rx;exact abj _
  |bl b=>cases rx;exact abL b
  |int b=>obtain⟨t,rfl⟩:=rx;exact abT b t
  |str b=>obtain⟨t,rfl⟩:=rx;exact abU b t
  |_=>exact absurd (show false=true from fx) aac
 |bl a =>
  cases ry;cases x with
  |bu=>cases rx;exact abM a
  |bl b=>cases rx;exact abN a b
  |int b=>obtain⟨t,rfl⟩:=rx;exact abV a b t
  |str b=>obtain⟨t,rfl⟩:=rx;exact abW a b t
  |_=>exact absurd (show false=true from fx) aac
 |int a =>
  obtain⟨t',rfl⟩:=ry;cases x with
  |bu=>cases rx;exact abX a t'
  |bl b=>cases rx;exact abY a t' b
  |int b=>obtain⟨t,rfl⟩:=rx;exact abo a t' b t
  |str b=>obtain⟨t,rfl⟩:=rx;exact abm a t' b t
  |_=>exact absurd (show false=true from fx) aac
 |str a =>
  obtain⟨t',rfl⟩:=ry;cases x with
  |bu=>cases rx;exact abZ a t'
  |bl b=>cases rx;exact ab0 a t' b
  |int b=>obtain⟨t,rfl⟩:=rx;exact abn a t' b t
  |str b=>obtain⟨t,rfl⟩:=rx;exact ab6 a t' b t
  |_=>exact absurd (show false=true from fx) aac
 |_=>exact absurd (show false=true from fy) aac
def wc(x:V)(u:Value):Bool:=match u with
 |.none=>FZ .bu x
 |.bool b=>FZ (.bl b) x
 |.int i _=>FZ (.int i) x
 |.str z _=>FZ (.str z) x
 |_=>false
theorem CB{x y:V}{u:Value}(r:RelV y u)(f:iV y=true):wc x u=FZ y x:=by
 cases y with
 |bu=>cases r;rfl
 |bl b=>cases r;rfl
 |int i=>obtain⟨t,rfl⟩:=r;rfl
 |str z=>obtain⟨t,rfl⟩:=r;rfl
 |_=>exact absurd (show false=true from f) aac
theorem kF{x:V}:∀{xs:af} {us:ai},Vals xs us->xs.all iV=true->us.any (wc x)=xs.any λy=>FZ y x
 |_,_,.nil,_=>rfl
 |y::xs,u::us,.cons r t,f=>by
  rw[List.all_cons,Bool.and_eq_true]at f;rw[List.any_cons,List.any_cons,CB r f.1,kF t f.2]
theorem iQ{A:aG}{s:Shared}{x:V}{v:Value}(rx:RelV x v)(fx:iV x=true):∀{xs:af} {us:ai},Vals xs us->xs.all iV=true->∀u∈us,SeqAt.EqAt A s u v (wc x u)
 |_,_,.nil,_=>λu hu=>by cases hu
 |y::xs,u::us,.cons r t,f=>λu' hu=>by
  rw[List.all_cons,Bool.and_eq_true]at f;rcases List.mem_cons.mp hu with rfl|hu
  ·rw[CB r f.1];exact Li r rx f.1 fx
  ·exact iQ rx fx t f.2 u' hu
def Ry(x:V)(xs:af):Bool:=xs.any λy=>FZ y x
def Tt(K:ao)(neg:Bool):R2:=λx y H Q=>∃p xs,y=.ref p/\(dE K H p xs\/aW K H p xs)/\iV x=true/\xs.all iV=true/\Q (.bl (if neg then !Ry x xs else Ry x xs)) H
theorem y6:js X (compareOp .In) (Tt X.K false):=by
 intro pins s σ H x y v u Q I rx ry h;obtain⟨p,xs,rfl,hq,fx,fs,q⟩:=h;cases ry;rcases hq with hq|hq
 ·obtain⟨aI,r,pl,hz⟩:=I.list hq;refine SeqAt.in_listAt (wc x) pl.isList (λw hw=>iQ rx fx r fs w (by simpa using hw)) ⟨.bl _,H,I,rfl,?_⟩;rw[show aI.toArray.any (wc x)=aI.any (wc x) by simp,kF r fs];exact q
 ·obtain⟨aI,r,pl,hz⟩:=I.tuple hq;refine SeqAt.in_tupleAt (wc x) pl (λw hw=>iQ rx fx r fs w (by simpa using hw)) ⟨.bl _,H,I,rfl,?_⟩;rw[show aI.toArray.any (wc x)=aI.any (wc x) by simp,kF r fs];exact q
theorem ET:js X (compareOp .NotIn) (Tt X.K true):=by
 intro pins s σ H x y v u Q I rx ry h;obtain⟨p,xs,rfl,hq,fx,fs,q⟩:=h;cases ry;rcases hq with hq|hq
 ·obtain⟨aI,r,pl,hz⟩:=I.list hq;refine SeqAt.notIn_listAt (wc x) pl.isList (λw hw=>iQ rx fx r fs w (by simpa using hw)) ⟨.bl _,H,I,rfl,?_⟩;rw[show aI.toArray.any (wc x)=aI.any (wc x) by simp,kF r fs];exact q
 ·obtain⟨aI,r,pl,hz⟩:=I.tuple hq;refine SeqAt.notIn_tupleAt (wc x) pl (λw hw=>iQ rx fx r fs w (by simpa using hw)) ⟨.bl _,H,I,rfl,?_⟩;rw[show aI.toArray.any (wc x)=aI.any (wc x) by simp,kF r fs];exact q
theorem sv:e_ X (.builtin "len") (λxs H Q=>∃p ys,xs=[.ref p]/\(dE X.K H p ys\/aW X.K H p ys)/\Q (.int ys.length) H):=by
 intro pins s σ H xs us Q I r h;obtain⟨p,ys,rfl,hq,q⟩:=h;obtain⟨u,rfl,rx⟩:=vals1 r;cases rx;have hn:=rB;rcases hq with hq|hq
 ·obtain⟨aI,r',pl,hz⟩:=I.list hq;have hlen:=r'.length;exact Calls.call_len_list pl.isList (by simp only[List.size_toArray]<;>omega) ⟨.int ys.length,H,I.tok _,⟨s.toks+1,by rw[List.size_toArray,hlen]⟩,q⟩
 ·obtain⟨aI,r',pl,hz⟩:=I.tuple hq;have hlen:=r'.length;exact len_tuple pl (by simp only[List.size_toArray]<;>omega) ⟨.int ys.length,H,I.tok _,⟨s.toks+1,by rw[List.size_toArray,hlen]⟩,q⟩
theorem su:e_ X (.type "list") (λxs H Q=>∃p ys,xs=[.ref p]/\(dE X.K H p ys\/aW X.K H p ys)/\∀l,H l=none->Q (.ref l) (upd H l (.lst ys))):=by
 intro pins s σ H xs us Q I r h;obtain⟨p,ys,rfl,hq,q⟩:=h;obtain⟨u,rfl,rx⟩:=vals1 r;cases rx;have fin:∀(aI:ai),Vals ys aI->ys.length<=sizeLine->∀(h':Heap) (c':Nat),(∀b o',s.heap.get? b=some o'->h'.get? b=some o') ->
   h'.get? s.heap.objs.size=some { cls:=.type "list",dict:=none,data:=.seq aI.toArray c',slots:=#[] }->EP X pins σ Q (.ref s.heap.objs.size) { s with heap:=h' }:=λaI r' hz h' c' kp e =>
  ⟨.ref s.heap.objs.size,_,I.laid (t':=s.toks) kp (aai _) (show cK X.prog X.w _ h' _ (.lst ys) from⟨hz,aI,c',r',e⟩),rfl,q _ (I.cC.fresh (aai _))⟩
 rcases hq with hq|hq
 ·obtain⟨aI,r',pl,hz⟩:=I.list hq;have hlen:=r'.length;obtain⟨o,ho,hc,n,hd⟩:=pl.isList;exact call_list_seq p (.inl rfl) ho hc hd (λh' c' kp e=>fin aI r' hz h' c' kp e) (by simp only[List.size_toArray]<;>omega)
 ·obtain⟨aI,r',pl,hz⟩:=I.tuple hq;have hlen:=r'.length;obtain⟨o,ho,hc,n,hd⟩:=pl;exact call_list_seq p (.inr rfl) ho hc hd (λh' c' kp e=>fin aI r' hz h' c' kp e) (by simp only[List.size_toArray]<;>omega)
theorem pM:e_ X (.type "tuple") (λxs H Q=>∃p ys,xs=[.ref p]/\((dE X.K H p ys/\∀l,H l=none->Q (.ref l) (upd H l (.tup ys)))\/(aW X.K H p ys/\Q (.ref p) H))):=by
 intro pins s σ H xs us Q I r h;obtain⟨p,ys,rfl,h⟩:=h;obtain⟨u,rfl,rx⟩:=vals1 r;cases rx;rcases h with ⟨hq,q⟩|⟨hq,q⟩
 ·obtain⟨aI,r',pl,hz⟩:=I.list hq;have hlen:=r'.length;refine call_tuple_list pl.isList (λh' kp=>?_) (by simp only[List.size_toArray]<;>omega);have I1:Inv X pins σ H { s with heap:=h' }:=I.kept (t':=s.toks) kp;have I2:Inv X pins σ (upd H h'.objs.size (.tup ys)) { s with heap:=h'.push { cls:=.type "tuple",data:=.seq aI.toArray } } :=
   I1.laid (t':=s.toks) (λb o e=>aae _ e) (aai _) (show cK X.prog X.w _ _ _ (.tup ys) from⟨hz,aI,r',IsTup.new _ _⟩)
  exact⟨.ref h'.objs.size,_,I2,rfl,q _ (I1.cC.fresh (aai _))⟩
 ·obtain⟨aI,r',pl,hz⟩:=I.tuple hq;exact call_tuple_same pl ⟨.ref p,H,I,rfl,q⟩
def Sw(K:ao)(T:String)(x:V)(H:Hp):Prop:=match x with
 |.str _=>T = "str"
 |.int _=>T = "int"
 |.ref p=>(T = "list" /\ ∃xs,dE K H p xs)\/(T = "tuple" /\ ∃o,K.lookup p=some o/\o.cls=.type "tuple" /\ o.dict=none) \/
   (T = "dict" /\ ((∃me,H p=some (.dK me))\/∃me,H p=some (.dT me)))\/(T = "set" /\ ∃S n,H p=some (.set S n))
 |_=>False
theorem Am{pins:ak}{s:Shared}{T:String}{x:V}{v:Value}(I:Inv X pins σ H s)(r:RelV x v)(ty:Sw X.K T x H):
  s.TypeIs v T/\∀a,v=.ref a->∃ob,s.heap.get? a=some ob/\ob.dict=none:=by
 cases x with
 |str z =>
  obtain⟨t,rfl⟩:=r;cases (show T = "str" from ty);exact⟨typeIs_str s z t,λ_ e=>nomatch e⟩
 |int i =>
  obtain⟨t,rfl⟩:=r;cases (show T = "int" from ty);exact⟨typeIs_int s i t,λ_ e=>nomatch e⟩
 |ref p =>
  cases r;rcases ty with ⟨rfl,xs,hq⟩|⟨rfl,o,hk,hc,hd⟩|⟨rfl,hk⟩|⟨rfl,S,n,hk⟩
  ·obtain⟨aI,_,pl,_⟩:=I.list hq;refine⟨pl.isList.typeIs,λa e=>?_⟩;cases e;obtain⟨o,n,e,c,hd,_⟩:=pl;exact⟨o,e,hd⟩
  ·refine⟨⟨o,I.xH p o hk,hc⟩,λa e=>?_⟩;cases e;exact⟨o,I.xH _ o hk,hd⟩
  ·have z:∃o,s.heap.get? p=some o/\o.ExactDict:=by
    rcases hk with ⟨me,hk⟩|⟨me,hk⟩
    ·obtain⟨_,_,_,_,o,_,_,e,ex,_⟩:=I.cC p _ hk;exact⟨o,e,ex⟩
    ·obtain⟨_,_,_,_,o,_,_,e,ex,_⟩:=I.cC p _ hk;exact⟨o,e,ex⟩
   obtain⟨o,e,ex⟩:=z;refine⟨⟨o,e,ex.1⟩,λa e2=>?_⟩;cases e2;exact⟨o,e,ex.2.1⟩
  ·obtain⟨o,_,_,_,e,ex,_⟩:=I.cC p _ hk;refine⟨⟨o,e,ex.1⟩,λa e2=>?_⟩;cases e2;exact⟨o,e,ex.2.1⟩
 |_=>exact False.elim ty
def SO(K:ao)(T:String)(r:V->af->Hp->VK->Prop)(to:TE):TE:=λσ H Q=>to σ H λx H1=>Sw K T x H1/\r x [] H1 Q
def Yx(K:ao)(T:String)(r:V->af->Hp->VK->Prop)(to:TE)(t:TA):TE:=λσ H Q=>to σ H λx H1=>Sw K T x H1/\t σ H1 λxs H2=>r x xs H2 Q
variable {o e:Expr}{es:av}{to:TE}{t:TA}{name:Str}{apos cpos:Pos}{T id:String}{r:V->af->Hp->VK->Prop}
theorem TF(pa:PlainAttrs T)(slot:Slot T name id)(UI:typeOf (.builtin id)=pure (.type "method_descriptor"))(hm:Wh X id r)(ho:PE X o to)
  (uf:attributeBase o name X.env (eval o X.env)=eval o X.env:=by rfl) (hline:(apos.endLine==cpos.line)=true:=by rfl):PE X (.Call (.Attribute o name apos) [] [] cpos) (SO X.K T r to):=by
 intro pins s σ H Q I h;refine wpAny_Call_method0_late uf hline (cN (ho pins s σ H _ I h) λv s1 bF=>?_);obtain⟨x,H1,I1,r1,ty,q1⟩:=bF;obtain⟨h1,h2⟩:=Am I1 r1 ty;exact⟨T,id,pa,slot,UI,h1,h2,abC rfl (PySem.evalArgs_none (hm pins s1 σ H1 x [] v [] Q I1 r1 .nil q1))⟩
theorem NL(pa:PlainAttrs T)(slot:Slot T name id)(UI:typeOf (.builtin id)=pure (.type "method_descriptor"))(hm:Wh X id r)(ho:PE X o to)(ha:PA X (e::es) t)
  (uf:attributeBase o name X.env (eval o X.env)=eval o X.env:=by rfl)
  (hfew:((backTo cpos (starEach (e::es) X.env)).all (λx=>!x.1)&&(backToKw cpos (keywordEach [] X.env)).all (λx=>x.1.isSome)
   && decide ((e::es).length+([]:List Keyword).length+(if ([]:List Keyword).isEmpty then 0 else 1)<30))=true:=by rfl)
  (hline:(apos.endLine==cpos.line)=true:=by rfl) (hs:starEach (e::es) X.env=(false,eval e X.env)::starEach es X.env:=by rfl) (J_:(backTo cpos (starEach es X.env)).any (·.1)=false:=by rfl) :
  PE X (.Call (.Attribute o name apos) (e::es) [] cpos) (Yx X.K T r to t):=by
 intro pins s σ H Q I h;refine wpAny_Call_method_late uf hfew hline rfl (cN (ho pins s σ H _ I h) λv s1 bF=>?_);obtain⟨x,H1,I1,r1,ty,q1⟩:=bF;obtain⟨h1,h2⟩:=Am I1 r1 ty;refine⟨T,id,pa,slot,UI,h1,h2,?_⟩;have hA:=ha cpos pins s1 σ H1 _ I1 q1;rw[hs]at hA ⊢;refine abC (by show(false||(backTo cpos (starEach es X.env)).any (·.1))=false;rw[J_]<;>rfl) (abO ?_);exact cN hA λus s2 ⟨vs,H2,I2,r2,q2⟩=>hm pins s2 σ H2 x vs v us Q I2 r1 r2 q2
/- xs.append(e),list.index on a module's tuple .. are Wh facts of 06m -/
end
end L2
namespace L2
open PySem PySem.Spec PyProof.Rows
def Wi(X:Cx)(id:String)(r:V->af->Hp->VK->Prop):Prop :=
 ∀(pins:ak) (s:Shared) (σ:St) (H:Hp) (x:V) (xs:af) (v:Value) (us:ai) (Q:VK),Inv X pins σ H s->RelV x v->Vals xs us->r x xs H Q ->
  wpAny (model X.prog X.w) X.A (call (.builtin id) (v::us)) (EP X pins σ Q) X.xe s
theorem Vals.one:∀{x:V} {us:ai},Vals [x] us->∃u,us=[u]/\RelV x u
 |_,_,.cons r .nil=>⟨_,rfl,r⟩
theorem Vals.zero:∀{us:ai},Vals [] us->us=[]
 |_,.nil=>rfl
theorem Vals.dropLast{xs:af}{us:ai}(h:Vals xs us):Vals xs.dropLast us.dropLast:=by
 induction h with
 |nil=>exact .nil
 |cons r t ih =>
  cases t with
  |nil=>exact .nil
  |cons q t'=>exact .cons r ih
theorem Vals.eraseIdx:∀{xs:af} {us:ai} (i:Nat),Vals xs us->Vals (xs.eraseIdx i) (us.eraseIdx i)
 |_,_,_,.nil=>.nil
 |_,_,0,.cons _ t=>t
 |_,_,i+1,.cons r t=>.cons r (Vals.eraseIdx i t)
theorem Vals.reverse{xs:af}{us:ai}(h:Vals xs us):Vals xs.reverse us.reverse:=by
 induction h with
 |nil=>exact .nil
 |cons r t ih=>rw[List.reverse_cons,List.reverse_cons];exact Vals.append ih (.cons r .nil)
theorem Vals.rep{xs:af}{us:ai}(h:Vals xs us):∀k:Nat,Vals (List.replicate k xs).flatten (List.replicate k us).flatten
 |0=>.nil
 |k+1=>by
  rw[List.replicate_succ,List.replicate_succ,List.flatten_cons,List.flatten_cons];exact Vals.append h (Vals.rep h k)
theorem wb{α:Type}(l:List α):l.eraseIdx (l.length - 1)=l.dropLast:=by
 induction l with
 |nil=>rfl
 |cons a r ih =>
  cases r with
  |nil=>rfl
  |cons b r =>
   have e:(a::b::r).length - 1=((b::r).length - 1)+1:=by
    have h1:(a::b::r).length=r.length+2:=rfl;have h2:(b::r).length=r.length+1:=rfl;left
   rw[e,List.eraseIdx_cons_succ,ih]
   all_goals rfl
theorem qh{α:Type}:∀(l:List α) (i:Nat),(l.eraseIdx i).length<=l.length
 |[],_=>aai _
 |_::_,0=>abh _
 |_::r,i+1=>Nat.succ_le_succ (qh r i)
theorem foldl_rep(aI:ai):∀(k:Nat) (acc:ai),
  List.foldl (λx1 x2=>x1++x2) acc.toArray (List.replicate k aI.toArray)=(acc++(List.replicate k aI).flatten).toArray
 |0,acc=>by simp
 |k+1,acc=>by
  have e:acc.toArray++aI.toArray=(acc++aI).toArray:=by simp
  have e2:(acc++aI)++(List.replicate k aI).flatten=acc++(List.replicate (k+1) aI).flatten:=by
   rw[List.replicate_succ,List.flatten_cons,List.append_assoc]
  rw[<- e2,<- foldl_rep aI k (acc++aI),<- e,List.replicate_succ,List.foldl_cons]
variable {aI:ai}{t':Nat}
section
variable {X:Cx}{pins:ak}{σ:St}{H:Hp}{s:Shared}{l b:Addr}{xs ys zs:af}
theorem Inv.kh{its':ai}{n:Nat}{f:aR->aR}(I:Inv X pins σ H s)(hH:H l=some (.lst xs))
  (e:s.heap.get? l=some { cls:=.type "list",data:=.seq aI.toArray n }) (hf:f aI.toArray=its'.toArray) (hv:Vals ys its') (hz:ys.length<=sizeLine) :
  Inv X pins σ (upd H l (.lst ys)) { s with heap:=s.heap.update l (Obj.mapSeq f),toks:=t' }:=by
 have q:=PySem.IsL.update e f;rw[hf]at q;refine I.write (x:=l) (e:=l) (by rw[hH];exact trivial) (.inl rfl) (λb' u hb hu=>(aaE s.heap (Obj.mapSeq f) (abu hb)).trans hu) ⟨_,q⟩ ?_;exact⟨hz,its',_,hv,q⟩
theorem Inv.Fh(I:Inv X pins σ H s)(hv:Vals ys aI)(hz:ys.length<=sizeLine):
  Inv X pins σ (upd H s.heap.objs.size (.lst ys)) { s with heap:=s.heap.push { cls:=.type "list",data:=.seq aI.toArray },toks:=t' } :=
 I.laid (λ_ _ q=>aae _ q) (aai _) ⟨hz,aI,0,hv,aan _ rfl⟩
theorem Inv.fresh(I:Inv X pins σ H s):H s.heap.objs.size=none:=I.cC.fresh (aai _)
theorem Inv.y_(I:Inv X pins σ H s)(hH:H l=some (.lst xs)):xs.length<=sizeLine/\∃(aI:ai) (n:Nat),Vals xs aI/\xs.length=aI.length/\s.heap.get? l=some { cls:=.type "list",data:=.seq aI.toArray n }:=by
 obtain⟨z,aI,n,r,e⟩:=I.cC l _ hH;exact⟨z,aI,n,r,r.length,e⟩
theorem Bs{n:Nat}(h:n<=sizeLine):Builtin.List.listTooLong n=false:=by
 unfold Builtin.List.listTooLong;exact aaD (by left)
end
section
variable {X:Cx}
def EF:V->af->Hp->VK->Prop:=λx vs H Q=>∃l xs y,x=.ref l/\vs=[y]/\H l=some (.lst xs)/\xs.length<sizeLine/\Q .bu (upd H l (.lst (xs++[y])))
theorem y7:Wi X "list.append" EF:=by
 intro pins s σ H x vs v us Q I rx rv h;obtain⟨l,xs,y,rfl,rfl,hH,hz,q⟩:=h;cases rx;obtain⟨u,rfl,ru⟩:=rv.one;obtain⟨z,aI,n,r,hl,e⟩:=I.y_ hH;refine abv F.slot_list_append ⟨_,e,rfl⟩ F.entry_list_append (F.args_list_append_2 _ _) (PySem.list_append l aI.toArray n u (by rw[List.size_toArray];left)) ⟨e,?_⟩;refine⟨.bu,_,I.kh (its':=aI++[u]) hH e (by simp) (r.append (.cons ru .nil)) ?_,rfl,q⟩;rw[List.length_append,List.length_singleton];left
def Tp:V->af->Hp->VK->Prop:=λx vs H Q=>∃l xs y,x=.ref l/\vs=[]/\H l=some (.lst xs)/\xs[xs.length - 1]?=some y/\Q y (upd H l (.lst xs.dropLast))
theorem T6:Wi X "list.pop" Tp:=by
 intro pins s σ H x vs v us Q I rx rv h;obtain⟨l,xs,y,rfl,rfl,hH,hy,q⟩:=h;cases rx;have Zq:=rv.zero;subst Zq;obtain⟨z,aI,n,r,hl,e⟩:=I.y_ hH;obtain⟨u,hu,ru⟩:=r.get hy;have Zk:aI.toArray[aI.toArray.size - 1]?=some u:=by
  show aI.toArray[aI.length - 1]?=some u;rw[<- Array.getElem?_toList,<- hl];exact hu
 refine abv F.slot_list_pop ⟨_,e,rfl⟩ F.entry_list_pop (F.args_list_pop_1 _) (MeetsSeq.list_pop_last l aI.toArray n u Zk (by rw[List.size_toArray];left)) ⟨e,?_⟩;refine⟨y,_,I.kh (its':=aI.dropLast) hH e ?_ r.dropLast ?_,ru,q⟩
 ·show aI.toArray.eraseIdxIfInBounds (aI.toArray.size - 1)=aI.dropLast.toArray;rw[List.size_toArray,List.eraseIdxIfInBounds_toArray,wb]
 ·rw[List.length_dropLast];left
def IT:V->af->Hp->VK->Prop:=λx vs H Q=>∃l xs i k y,x=.ref l/\vs=[.int i]/\H l=some (.lst xs) /\ -(2 ^ 63)<=i/\i<2 ^ 63/\seqIndex? i xs.length=some k/\xs[k]?=some y/\Q y (upd H l (.lst (xs.eraseIdx k)))
theorem N5:Wi X "list.pop" IT:=by
 intro pins s σ H x vs v us Q I rx rv h;obtain⟨l,xs,i,k,y,rfl,rfl,hH,h1,h2,hk,hy,q⟩:=h;cases rx;obtain⟨u,rfl,ru⟩:=rv.one;obtain⟨t,rfl⟩:=ru;obtain⟨z,aI,n,r,hl,e⟩:=I.y_ hH;obtain⟨w,hw,lE⟩:=r.get hy;refine abv F.slot_list_pop ⟨_,e,rfl⟩ F.entry_list_pop (F.args_list_pop_2 _ _)
  (MeetsSeq.list_pop_at l aI.toArray n i t k w (fitsIndex_both h1 h2) (by rw[List.size_toArray,<- hl];exact hk) (by rw[<- Array.getElem?_toList];exact hw) (by rw[List.size_toArray];left)) ⟨e,?_⟩
 refine⟨y,_,I.kh (its':=aI.eraseIdx k) hH e ?_ (r.eraseIdx k) ?_,lE,q⟩
 ·show aI.toArray.eraseIdxIfInBounds k=(aI.eraseIdx k).toArray;rw[List.eraseIdxIfInBounds_toArray]
 ·have:=qh xs k;left
def Tu:R2:=λx y H Q=>∃l b xs zs,x=.ref l/\y=.ref b/\H l=some (.lst xs)/\H b=some (.lst zs)/\xs.length+zs.length<=sizeLine/\∀p,H p=none->Q (.ref p) (upd H p (.lst (xs++zs)))
theorem Js:js X (binaryOp .Add) Tu:=by
 intro pins s σ H x y v u Q I rx ry h;obtain⟨l,b,xs,zs,rfl,rfl,hH,hB,hz,q⟩:=h;cases rx;cases ry;obtain⟨z,aI,n,r,hl,e⟩:=I.y_ hH;obtain⟨z2,rF,n2,r2,z7,e2⟩:=I.y_ hB;refine PySem.P.add_list e e2 ?_ (by rw[List.size_toArray,List.size_toArray];left);have ea:aI.toArray++rF.toArray=(aI++rF).toArray:=by simp
 rw[ea];exact⟨.ref _,_,I.Fh (t':=s.toks) (r.append r2) (by rw[List.length_append];left),rfl,q _ I.fresh⟩
def To:R2:=λx y H Q=>∃l k xs,x=.ref l/\y=.int k/\H l=some (.lst xs) /\ -(2 ^ 63)<=k/\k<2 ^ 63/\xs.length*k.toNat<=sizeLine /\
 ∀p,H p=none->Q (.ref p) (upd H p (.lst (List.replicate k.toNat xs).flatten))
theorem len_rep{α:Type}(xs:List α)(k:Nat):(List.replicate k xs).flatten.length=k*xs.length:=by
 induction k with
 |zero=>simp
 |succ k ih=>rw[List.replicate_succ,List.flatten_cons,List.length_append,ih,Nat.succ_mul,Nat.add_comm]
theorem TJ:js X (binaryOp .Mult) To:=by
 intro pins s σ H x y v u Q I rx ry h;obtain⟨l,k,xs,rfl,rfl,hH,h1,h2,hz,q⟩:=h;cases rx;obtain⟨t,rfl⟩:=ry;obtain⟨z,aI,n,r,hl,e⟩:=I.y_ hH;have hlen:aI.toArray.size*k.toNat<=sizeLine:=by rw[List.size_toArray,<- hl];exact hz
 have n_:¬ aI.toArray.size*k.toNat>(2 ^ 63 - 1) / 8:=by
  have:(sizeLine:Nat)<=(2 ^ 63 - 1) / 8:=by decide
  left
 have U_:¬ (!Builtin.List.listFitsIndex k)=true:=by
  rw[fitsIndex_both h1 h2];exact aac
 have O9:¬ Builtin.List.listTooLong (aI.toArray.size*k.toNat)=true:=by
  rw[Bs hlen];exact aac
 have Kc:List.foldl (λx1 x2=>x1++x2) #[] (List.replicate (if aI.toArray.isEmpty=true then 0 else k.toNat) aI.toArray)=(List.replicate k.toNat aI).flatten.toArray:=by
  have f0:∀m:Nat,List.foldl (λx1 x2=>x1++x2) #[] (List.replicate m aI.toArray)=(List.replicate m aI).flatten.toArray:=λm=>by
   have:=foldl_rep aI m [];rw[List.nil_append]at this;exact this
  rw[f0];cases aI with
  |nil=>simp
  |cons a r'=>rw[if_neg (by simp)]
 refine wpAny_binaryOp_repeat_ref (T:="list") (U:="int") (by decide) ⟨_,e,rfl⟩ (λs'=>typeIs_int s' k t) noFill_list_mul F.fills_int_mul F.slot_int_rmul repeat_list F.slot_int_index.lookup
  (abv F.slot_int_rmul (typeIs_int s k t) F.entry_int_rmul (F.args_int_rmul_2 _ _) (int___rmul___int_list k t l aI.toArray n)
   ⟨e,rfl,⟨_,e,rfl⟩,abv F.slot_list_mul ⟨_,e,rfl⟩ F.entry_list_mul (F.args_list_mul_2 _ _) (AutoListH.list___mul___list_int_3 l aI.toArray n k t U_ n_ O9) ⟨e,?_⟩⟩)
 rw[Kc];exact⟨.ref _,_,I.Fh (t':=s.toks) (r.rep k.toNat) (by rw[len_rep,Nat.mul_comm];exact hz),rfl,q _ I.fresh⟩
end
section
variable {prog:aE}{w:World}{A:aG}{E:aA}{s:Shared}
set_option maxRecDepth 100000 in
end
section
variable {X:Cx}
end
end L2
namespace Att
open PySem PySem.W PySem.Calls PyProof.Rows
variable {h:Heap}
theorem mf{P:Params}:∀(ns:ae) (vs:ai),WellAll P h vs (ns.map WData.int)->IntsAre vs ns:=by
 intro ns;induction ns with
 |nil =>
  intro vs w;rw[List.map_nil]at w;cases w;exact .nil
 |cons n ns ih =>
  intro vs w;rw[List.map_cons]at w;cases w with
  |cons a b =>
   cases a;exact .cons _ _ (ih _ b)
theorem yS{l:OpenLaw}{n:Nat}(hn:l.most=some n){P:Params}{args:List WData}{vals:ai}
  (FG:l.row.toRowW.claim.pre args=true) (UD:WellAll P h vals args) :
  ∃a vs ns,vals=[Value.ref a]/\args=[WData.list (ns.map WData.int)]/\h.get? a=some { cls:=.type "list",data:=.seq vs.toArray }/\IntsAre vs ns/\ns.length<=n:=by
 have FE:WShape.hasAll [] args [.list .int]=true:=(pre_splitW FG).1;have hc:l.pre.holds [] { args:=args }=true:=(pre_splitW FG).2;obtain⟨d,r,rfl,h1,h2⟩:=hasAllW_cons FE;obtain rfl:=hasAllW_nil h2;obtain⟨xs,rfl,h3⟩:=hasW_list h1;obtain⟨ns,rfl⟩:=items_int h3;have hlen:ns.length<=n:=by
  unfold OpenLaw.pre at hc;have h4:(WTm.not (.lt (.lit (.int (n:Int))) (.len (.arg 0)))).holds [] { args:=[.list (ns.map .int)] }=true:=by
   have h4:=(holds_andW hc).1;rw[hn]at h4;exact h4
  have h5:=condW_of h4 (w_not (w_lt w_lit (w_len_list (w_arg rfl))));rw[List.length_map]at h5;refine Nat.le_of_not_lt λq=>?_;have q':(n:Int)<((ns.length:Nat):Int):=by left
  first
   | (rw[decide_eq_true q']at h5;exact absurd h5 (by decide))
   | (simp at h5;left)
 cases UD with
 |cons w1 w2 =>
  cases w2;cases w1 with
  |list ho FO=>exact⟨_,_,ns,rfl,rfl,ho,mf ns _ FO,hlen⟩
theorem yZ(l:OpenLaw)(args:List WData):l.row.toRowW.claim.post args (.bool true) args=true :=
 postW_of (r:=l.row.toRowW) (X:=(true==true))
  (show WShape.has [] (.bool true) .bool=true by first|rfl|decide|simp[WShape.has,WShape.arms,WShape.armsAll])
  (show(WTm.eq .res (.lit (.bool true))).value [] { args:=args,res:=some (.bool true),after:=args }=some (.bool (true==true)) from w_eq_bool (w_res rfl) w_lit) rfl
theorem uH{l:OpenLaw}{n:Nat}{q:aE}{loose:aj}{XP:(aV)->Heap->Prop}{YP:World->Heap->Prop}{d:DefRec}
  (hn:l.most=some n) (Pk:d.params.defaults=[])
  (call:∀(w:World) (s₀ s₁:Shared) (mg mb:aV) (fa:Addr) (o:Obj) (pm cd doc:Value) (a:Addr) (vs:ai) (ns:ae),
   Ground q loose [] XP w s₀ mg mb s₁.heap->YP w s₁.heap ->
   s₁.heap.get? fa=some o->o.data=.func (docDef d.name d.params d.body d.scope pm cd doc)->s₁.heap.CodeRec cd d.name->mg d.name=some (.ref fa) ->
   s₁.heap.get? a=some { cls:=.type "list",data:=.seq vs.toArray }->IntsAre vs ns->ns.length<=n->s₁.gens = #[] ->
   codeAny (model l.prog w) callerA (.call (.ref fa) ⟨[.ref a],[]⟩) (λr s'=>r=.ok (.ret (.bool true))/\OldK s₁.heap s'.heap/\s'.os=s₁.os/\AllBare s'.gens) s₁) :
  WalkO q loose XP YP l.row.toRowW d [] (λf vs=>PySem.call f vs):=by
 intro w s₀ s₁ mg mb G Y fa o pm cd doc dV kV ho hd vW hD hmg hg args vals as FG ZL hrd UD hlo;obtain rfl:dV=.none:=Dflts.none hD Pk;obtain rfl:kV=.none:=Dflts.noKw hD;obtain⟨a,vs,ns,rfl,rfl,Kb,hints,hlen⟩:=yS hn FG UD;refine enter_call (abK (call w s₀ s₁ mg mb fa o pm cd doc a vs ns G Y ho (fd_plain hd) vW hmg Kb hints hlen hg) λr s' hq=>?_);obtain⟨rfl,h2,h3,h4⟩:=hq;exact⟨.inl ⟨.bool true,.bool true,[],rfl,λ_=>rfl,.bool true,yZ l _,λ_=>⟨List.Pairwise.nil,λ_ hm=>(nomatch hm)⟩⟩,h2,h3,h4⟩
section
variable {prog:aE}{w:World}{A:aG}{E:aA}{s:Shared}{K:Frag}
noncomputable def ledger(h:Heap)(L d:Addr):ak:=(List.range h.objs.size).filterMap λa=>if a=L\/a=d then none else(h.get? a).map λo=>(a,o)
end
end Att
namespace L2
open PySem PySem.Spec PyProof.Rows
theorem kN:∀{vs:ai} {ns:ae},IntsAre vs ns->Vals (ns.map V.int) vs
 |_,_,.nil=>.nil
 |_,_,.cons n t h=>.cons ⟨t,rfl⟩ (kN h)
def Gz(H:Hp):Prop:=∀b,H b=none\/∃o xs,H b=some (.gF o (.lst xs))
theorem BN{P:aE}{w:World}{K:ao}{mg mb:aV}{CX:yB}{k:Nat}{fa a:Addr}{fd:FuncData}{x:Str}{sp:Sp}{s₁:Shared}{vs:ai}{ns:ae}
  (KX:K.In s₁.heap) (z6:s₁.heap.Ns mainGlobals mg) (hb:s₁.heap.Ns builtinsNs mb) (Z0:∀x:Str,x ≠ "__name__" -> mb x=bootBuiltins x) (U2:s₁.heap.NoLimit) (hg:s₁.gens = #[])
  (ha:s₁.heap.get? a=some { cls:=.type "list",data:=.seq vs.toArray }) (hi:IntsAre vs ns) (hl:ns.length<=sizeLine) (hr:fY k callerA)
  (F:∀base:Heap,K.In base->base.Ns mainGlobals mg->gQ P w K mg base CX k fa fd [x] sp) (Pw:∀(s:Shared) (u:Value),BindsTo s fd ⟨[u],[]⟩ [(x,u)])
  (uP:∀H:Hp,Gz H->dE K H a (ns.map V.int)->sp [.ref a] H (λv _=>v=.bl true) λ_ _ _=>False)
  (Vn:∀H e s',CX [] H s₁ (λ_ _ _=>False) e s'->False) :
  codeAny (model P w) callerA (.call (.ref fa) ⟨[.ref a],[]⟩) (λr s'=>r=.ok (.ret (.bool true))/\OldK s₁.heap s'.heap/\s'.os=s₁.os/\AllBare s'.gens) s₁:=by
 have rv:=kN hi;have T7:=hi.length;have core:∀H:Hp,Gz H->dE K H a (ns.map V.int)->jm P w H s₁.heap->(∀b,H b≠none->b=a)->(H a≠none->K.lookup a=none) ->
   codeAny (model P w) callerA (.call (.ref fa) ⟨[.ref a],[]⟩) (λr s'=>r=.ok (.ret (.bool true))/\OldK s₁.heap s'.heap/\s'.os=s₁.os/\AllBare s'.gens) s₁:=by
  intro H hO hS cC hA hK;have yp:∀{b:Addr} {o:Obj},s₁.heap.get? b=some o->H b=none->(rK s₁.heap H).get? b=some o:=λe n=>Ca e n;have NY:∀{b:Addr} {o:Obj} {es:Array DictEntry} {ep:Nat},s₁.heap.get? b=some o->o.data=.dict es ep->H b=none:=λ{b o es ep} e d=>by
   cases q:H b with
   |none=>rfl
   |some u =>
    have e':b=a:=hA b (by rw[q];simp);subst e';rw[ha]at e;cases e;have d':Data.seq vs.toArray _=Data.dict es ep:=d;cases d'
  have Ro:∀{b:Addr} {m:aV},s₁.heap.Ns b m->(rK s₁.heap H).Ns b m:=λ{b m} ⟨o,es,ep,e,d,r⟩=>⟨o,es,ep,yp e (NY e d),d,r⟩
  have Xy:K.In (rK s₁.heap H):=λb o e=>yp (KX b o e) (by
   cases q:H b with
   |none=>rfl
   |some u =>
    have e':b=a:=hA b (by rw[q];simp);subst e';rw[hK (by rw[q];simp)]at e;cases e)
  have hM:Mod K mg (rK s₁.heap H):=⟨Xy,Ro z6,⟨mb,Ro hb,Z0⟩,let ⟨mc,h1,h2⟩:=U2;⟨mc,Ro h1,h2⟩⟩
  have e0:GA P w K mg (rK s₁.heap H) callerA [] s₁ H:=⟨rfl,hM,λb o e=>EY e,Nat.le_of_eq (zt _ _),trivial,λb hb=>absurd (show b∈([]:bc) from hb) (by simp),cC,.of_eq hg⟩
  refine abK ((F _ Xy (Ro z6)).run callerA [] s₁ H ⟨[.ref a],[]⟩ [.ref a] [.ref a] _ _ hr e0 (Pw s₁ (.ref a)) (.cons rfl .nil) (uP H hO hS)) λr s' h=>?_;cases r with
  |error e=>exact(Vn H e s' h).elim
  |ok fl =>
   cases fl with
   |next=>exact False.elim h
   |brk=>exact False.elim h
   |cont=>exact False.elim h
   |ret u =>
    obtain⟨v,H',os,bare,un,UU,r',q⟩:=h;have q':v=.bl true:=q;subst q';obtain rfl:u=Value.bool true:=r';refine⟨rfl,OldK.of_keep λb o e=>?_,os,bare⟩;cases q:H b with
    |none=>exact un.keep b o e q (by intro z;exact absurd (show b∈([]:bc) from z) (by simp)) (by simp)
    |some u =>
     rcases hO b with z|⟨ob,xs,z⟩
     ·rw[q]at z;cases z
     ·have z2:=un.k_ b ob _ z;obtain⟨e1,_⟩:=cC b _ z;obtain⟨e2,_⟩:=UU b _ z2;rw[e]at e1;cases e1;exact e2
 cases hk:K.lookup a with
 |some o =>
  have e:=KX a o hk;rw[ha]at e;cases e;refine core (λ_=>none) (λ_=>.inl rfl) (.inr ⟨_,vs.toArray,_,hk,rfl,rfl,rfl,by rw[List.size_toArray,T7];exact hl,by simpa using rv⟩) (λb u z=>by have z':(none:Option HO)=some u:=z;cases z') (λb z=>absurd rfl z) λz=>absurd rfl z
 |none =>
  refine core (λb=>if b=a then some (.gF { cls:=.type "list",data:=.seq vs.toArray } (.lst (ns.map V.int)))else none) (λb=>?_) (.inl (.inr ⟨{ cls:=.type "list",data:=.seq vs.toArray },aaQ rfl⟩)) (λb u z=>?_) (λb z=>?_) λ_=>hk
  ·by_cases hb:b=a
   ·exact .inr ⟨_,_,aaQ hb⟩
   ·exact .inl (acf hb)
  ·by_cases hb:b=a
   ·have z':=(aaQ hb).symm.trans z;cases z';subst hb;exact⟨ha,by rw[List.length_map];exact hl,vs,_,rv,ha⟩
   ·have z':=(acf hb).symm.trans z;cases z'
  ·by_cases hb:b=a
   ·exact hb
   ·exact absurd (acf hb) z
end L2
namespace L2
open PySem PySem.Spec PyProof.Rows
theorem D4{l:PySem.W.OpenLaw}{n k:Nat}{q:aE}{loose:aj}{XP:(aV)->Heap->Prop}{YP:World->Heap->Prop}{d:DefRec}{K:Params->ao}{CX:World->yB}{sp:World->Sp}{x:Str}
  (hn:l.most=some n) (zp:n<=sizeLine) (Pk:d.params.defaults=[]) (hr:fY k callerA)
  (hY:∀(w:World) (h:Heap),YP w h->(K w.params).In h)
  (F:∀(w:World) (mg:aV) (fa:Addr) (h:Heap),(K w.params).In h->h.Ns mainGlobals mg->mg d.name=some (.ref fa) ->
   ∃fd:FuncData,(∀(s:Shared) (u:Value),BindsTo s fd ⟨[u],[]⟩ [(x,u)]) /\
    ∀base:Heap,(K w.params).In base->base.Ns mainGlobals mg->gQ l.prog w (K w.params) mg base (CX w) k fa fd [x] (sp w))
  (uP:∀(w:World) (H:Hp) (a:Addr) (ns:ae),ns.length<=n->Gz H->dE (K w.params) H a (ns.map V.int)->sp w [.ref a] H (λv _=>v=.bl true) λ_ _ _=>False)
  (Vn:∀(w:World) (H:Hp) (s:Shared) (e:Value) (s':Shared),CX w [] H s (λ_ _ _=>False) e s'->False) :
  PySem.W.WalkO q loose XP YP l.row.toRowW d [] (λf vs=>PySem.call f vs):=by
 refine Att.uH hn Pk λw s₀ s₁ mg mb fa o pm cd doc a vs ns G Y ho hd vW hmg Kb hints hlen hg=>?_;have KX:=hY w _ Y;obtain⟨fd,hb,hF⟩:=F w mg fa _ KX G.T.g hmg;exact BN KX G.T.g G.T.b G.T.builtins G.T.nolimit hg Kb hints (aas hlen zp) hr hF hb (λH hO hS=>uP w H a ns hlen hO hS) λH e s'=>Vn w H s₁ e s'
end L2
namespace L2
open PySem PySem.Spec PyProof.Rows
noncomputable def eN(s:Stmt):Arguments:=match s with
 |.FunctionDef _ a _ _ _ _ _ _ _ _=>a
 |_=>{ posonlyargs:=[],args:=[],vararg:=none,kwonlyargs:=[],kw_defaults:=[],kwarg:=none,defaults:=[] }
noncomputable def bG(s:Stmt):aS:=match s with
 |.FunctionDef _ _ b _ _ _ _ _ _ _=>b
 |_=>[]
noncomputable def aQ(s:Stmt):Scope:=match s with
 |.FunctionDef _ _ _ _ _ _ sc _ _ _=>sc
 |_=>{ kind:=.function,names:=[],isGenerator:=false,isCoroutine:=false }
noncomputable abbrev zX:yB:=λ_ _ _ _ _ _=>False
noncomputable abbrev E0:XK:=λ_ _ _=>False
theorem NO{X:Cx}:Passes zX X E0:=λ_ _ _ _ _ _ _ h=>h.elim
structure DD(K:ao)(x qual:Str)(st:Stmt)(f:Addr)(fd:FuncData):Prop where
 ex:∃(oc:Value) (od:Option Addr) (kV doc pm:Value) (an:Option Addr) (fX ct:Value) (Bl:Array (Option Value)),
  fd=PySem.W.fnOf x qual (eN st) (bG st) (aQ st) .none kV doc pm an fX ct/\K.lookup f=some ⟨oc,od,.func fd,Bl⟩/\PySem.W.codeIn K fX qual=true
 kp:PySem.W.keepIn K (.ref f)=true
variable {ps:aj}{qual:Str}{st:Stmt}
section
variable {P:aE}{w:World}{K:ao}{mg:aV}{base:Heap}
theorem DD.ok{x:Str}{f:Addr}{fd:FuncData}{N:aj}{k:Nat}{sp:Sp}(F:DD K x qual st f fd)(S:gf N ps (aQ st))(len:∀vs H Q E,sp vs H Q E->vs.length=ps.length)
  (ud:∀(fX:Value) (A:aG) (outer:List Env) (s:Shared) (H:Hp) (vs:af) (Q:VK) (E:XK),fY k (A.deeper (envOfC qual (aQ st) s.heap.objs.size f fX))->sp vs H Q E ->
   ∃t,ig (iY zX P w K mg base N qual (aQ st) f fX A outer s H E).xw (bG st) t/\t { nx:=λ_ H'=>Q .bu H',rt:=Q } (start N vs) H):gQ P w K mg base zX (k+1) f fd ps sp:=by
 obtain⟨oc,od,kV,doc,pm,an,fX,ct,Bl,rfl,lk,vW⟩:=F.ex;refine Hk lk vW S len λA outer s H vs Q E hr uP=>?_;obtain⟨t,h,q⟩:=ud fX A outer s H vs Q E hr uP;exact⟨t,h.xw,q⟩
theorem DD.binds{x:Str}{f:Addr}{fd:FuncData}(F:DD K x qual st f fd)
  (h:∀(kV doc pm:Value) (an:Option Addr) (fX ct:Value) (us:ai),us.length=ps.length->bindArgs (PySem.W.fnOf x qual (eN st) (bG st) (aQ st) .none kV doc pm an fX ct) ⟨us,[]⟩=pure (ps.zip us)):Binds K fd ps []:=by
 obtain⟨oc,od,kV,doc,pm,an,fX,ct,Bl,rfl,lk,vW⟩:=F.ex;exact .all (h kV doc pm an fX ct)
theorem KD{x:Str}{f:Addr}{oc:Value}{od an:Option Addr}{Bl:Array (Option Value)}{kV doc pm fX ct:Value}(l:K.lookup f=some ⟨oc,od,.func (PySem.W.fnOf x qual (eN st) (bG st) (aQ st) .none kV doc pm an fX ct),Bl⟩)
  (c:PySem.W.codeIn K fX qual=true) (k:PySem.W.keepIn K (.ref f)=true):DD K x qual st f (PySem.W.fnOf x qual (eN st) (bG st) (aQ st) .none kV doc pm an fX ct):=⟨⟨oc,od,kV,doc,pm,an,fX,ct,Bl,rfl,l,c⟩,k⟩
end
theorem B4{A:aG}{k:Nat}(hr:fY k A):A.units+1<cLine:=aar (ab1 (by decide:1<=64) _) hr.units
section
variable {X:Cx}
end
theorem JV{A B:Prop}(h:B):if false=true then A else B:=by
 rw[if_neg Bool.false_ne_true];exact h
theorem JU{A B:Prop}(h:A):if true=true then A else B:=by
 rw[if_pos rfl];exact h
def aK(H H':Hp):Prop:=∀b o,H b=some o->H' b=some o
theorem aK.refl(H:Hp):aK H H:=λ_ _ h=>h
variable {H H':Hp}
theorem aK.trans{H1 H2:Hp}(a:aK H H1)(b:aK H1 H2):aK H H2:=λc o h=>b c o (a c o h)
theorem aK.free(e:aK H H'){l:Addr}(h:H' l=Option.none):H l=Option.none:=by
 cases q:H l with
 |none=>rfl
 |some o =>
  rw[e l o q]at h;cases h
theorem aK.seq{K:ao}{a:Addr}{xs:af}(e:aK H H')(h:dE K H a xs):dE K H' a xs:=by
 rcases h with (h|⟨o,h⟩)|h
 ·exact .inl (.inl (e _ _ h))
 ·exact .inl (.inr ⟨o,e _ _ h⟩)
 ·exact .inr h
end L2
set_option autoImplicit false
set_option linter.all false
set_option Elab.async false
set_option maxRecDepth 100000
set_option maxHeartbeats 4000000
section
namespace DI
open PySem (Str Expr Stmt Scope NameKind)
inductive Fl where|ow|fz|al|sc
 deriving DecidableEq
inductive D where
 |bu|bl (b:Bool)|int (i:Int)|str (s:Str)
 |tup (ds:List D)
 |lst (f:Fl) (ds:List D)
 |cy (f:Fl) (ks:aF) (vs:List D)
abbrev aU:=Option D
abbrev aa:=List D
mutual
noncomputable def aw(g:Fl->Fl):D->D
 |.tup ds=>.tup (au g ds)
 |.lst f ds=>.lst (g f) (au g ds)
 |.cy f ks vs=>.cy (g f) ks (au g vs)
 |.bu=>.bu
 |.bl b=>.bl b
 |.int i=>.int i
 |.str s=>.str s
noncomputable def au(g:Fl->Fl):aa->aa
 |[]=>[]
 |d::ds=>aw g d::au g ds
end
theorem aM(g:Fl->Fl):∀ds:aa,au g ds=ds.map (aw g)
 |[]=>rfl
 |d::ds=>by rw[au,aM g ds];rfl
noncomputable def aO:Fl->Fl|.ow=>.al|f=>f
noncomputable def d8:Fl->Fl|.fz=>.al|f=>f
noncomputable def aL:Fl->Fl|.sc=>.sc|_=>.fz
noncomputable def fK:Fl->Bool|.sc=>true|_=>false
mutual
noncomputable def aY(p:Fl->Bool):D->Bool
 |.tup ds=>aP p ds
 |.lst f ds=>p f||aP p ds
 |.cy f ks vs=>p f||aP p vs
 |_=>false
noncomputable def aP(p:Fl->Bool):aa->Bool
 |[]=>false
 |d::ds=>aY p d||aP p ds
end
noncomputable def bN:Fl->Bool|.al=>true|_=>false
noncomputable def dW:Fl->Bool|.ow=>true|_=>false
noncomputable def anyF:Fl->Bool:=λ_=>true
mutual
noncomputable def ia:D->D->Bool
 |.bu,.bu=>true
 |.bl a,.bl b=>a==b
 |.bl a,.int b=>(if a then 1 else 0)==b
 |.int a,.bl b=>a==(if b then 1 else 0)
 |.int a,.int b=>a==b
 |.str a,.str b=>a==b
 |.tup a,.tup b=>fO a b
 |.lst _ a,.lst _ b=>fO a b
 |_,_=>false
noncomputable def fO:aa->aa->Bool
 |[],[]=>true
 |a::as,b::bs=>ia a b&&fO as bs
 |_,_=>false
end
noncomputable def dX:Nat->D->Bool
 |_,.bu=>true
 |_,.bl _=>true
 |_,.int _=>true
 |_,.str _=>true
 |n+1,.tup ds=>ds.all (dX n)
 |n+1,.lst _ ds=>ds.all (dX n)
 |_,_=>false
noncomputable abbrev O(α:Type):=Option (Except Nat α)
abbrev aH:=aa->O D
noncomputable def ok{α:Type}(a:α):O α:=some (.ok a)
noncomputable def bd{α β:Type}(x:O α)(f:α->O β):O β:=match x with
 |some (.ok a)=>f a
 |some (.error c)=>some (.error c)
 |none=>none
@[simp]theorem Rt{α:Type}{a:α}:((none:O α)=ok a)=False:=by simp[ok]
@[simp]theorem TR{α:Type}{a b:α}:(ok a=ok b)=(a=b):=by simp[ok]
@[simp]theorem VM{α:Type}{a:α}{c:Nat}:((some (.error c):O α)=ok a)=False:=by simp[ok]
@[simp]theorem Hc{α:Type}{p:Prop}[Decidable p]{a b:α}:((if p then ok a else none)=ok b)=(p/\a=b):=by
 by_cases h:p<;>simp[h]
@[simp]theorem Uu{α:Type}{p:Prop}[Decidable p]{a b:α}:((if p then none else ok a)=ok b)=(¬ p/\a=b):=by
 by_cases h:p<;>simp[h]
theorem nk{α:Type}{a:α}{P:Prop}(h:(none:Option α)=some a):P:=nomatch h
theorem aB{α β:Type}{x:O α}{f:α->O β}{b:β}(h:bd x f=ok b):∃a,x=ok a/\f a=ok b:=by
 unfold bd at h
 match x,h with
 |some (.ok a),h=>exact⟨a,rfl,h⟩
 |some (.error c),h=>cases h
 |none,h=>cases h
inductive GC where|add|sub|mul|fdiv|mod|pow|shl|shr|band
 deriving DecidableEq
inductive Ab where|eq|ne|lt|le|gt|ge|pF|Hb
 deriving DecidableEq
inductive Ty where|int|bool|str|list|tuple
 deriving DecidableEq
inductive Bf where|len|abs|vP|list1|tuple1|lZ|all1|gY
 deriving DecidableEq
inductive Tg where|nm(i:Nat)|tp(is:aN)
 deriving DecidableEq
inductive IK where|jZ|l9|seq|bU(p:Nat)
 deriving DecidableEq
inductive GK where|i(z:Int)
 deriving DecidableEq
inductive CE where
 |bu|bl (b:Bool)|int (i:Int)|str (s:Str)|glo (x:Str) (i:Int)
 |v (i:Nat)
 |bin (op:GC) (a b:CE)
 |neg (a:CE)|not (a:CE)|and (es:List CE)|or (es:List CE)
 |cmp (op:Ab) (a b:CE)
 |o8 (a:CE) (t:Ty)
 |call (f:Nat) (es:List CE)
 |bf (f:Bf) (es:List CE)
 |ix (a b:CE)
 |kh (a:CE)
 |tup (es:List CE)|lst (es:List CE)
 |bU (p:Nat) (es:List CE)
 |comp (n:Nat) (t:Tg) (caps:aN) (ik:IK) (es bH:List CE) (elt:CE)
abbrev az:=List CE
inductive CI where|jZ(a:CE)|l9(a b:CE)|seq(a:CE)|Je(p:Nat)(es:az)
inductive CS where
 |asg (t:Tg) (e:CE)|par (i j:Nat) (a b:CE)|ret (e:CE)|rs (c:Nat)|ex (e:CE)
 |mut (p i:Nat) (es:az)|lsn (i:Nat) (es:az)|unp (is:aN) (e:CE)|app (i:Nat) (e:CE)|setI (i:Nat) (k e:CE)
 |ifs (c:CE) (a b:List CS)
 |GF (c:CE) (b:List CS)
 |fr (t:Tg) (it:CI) (b:List CS)
abbrev aq:=List CS
noncomputable abbrev a_:=List (aU)
noncomputable abbrev bh:=Nat->aH
noncomputable def big:Nat:=2 ^ 9000
def iA(i j:Int):Bool:=decide (i.natAbs<2 ^ 64)||decide (j.natAbs<2 ^ 64)||(decide (i.natAbs<big)&&decide (j.natAbs<big))
def qx(j:Int):Bool:=decide (j≠0)&&decide (j.natAbs<big)
noncomputable def jw(i j:Int):Bool:=decide (0<=j)&&decide (j<=1000000)&&decide (i.natAbs<2 ^ 64)
noncomputable def eE:Nat:=1000000
theorem lI{α:Type}{c:Prop}[inst:Decidable c]{v d:α}(h:(if c then ok v else none)=ok d):c/\v=d:=by
 cases inst with
 |isTrue hc=>exact⟨hc,Except.ok.inj (aao h)⟩
 |isFalse hc=>cases h
def bZ:GC->D->D->O D
 |.add,.int i,.int j=>ok (.int (i+j))
 |.add,.lst f a,.lst g b=>if fK f=false/\fK g=false/\a.length+b.length<=eE then ok (.lst .ow (au aO (a++b)))else none
 |.add,.tup a,.tup b=>if a.length+b.length<=eE then ok (.tup (au aO (a++b)))else none
 |.sub,.int i,.int j=>ok (.int (i - j))
 |.mul,.int i,.int j=>if iA i j then ok (.int (i*j))else none
 |.fdiv,.int i,.int j=>if qx j then ok (.int (i.fdiv j))else none
 |.mod,.int i,.int j=>if j≠0 then ok (.int (i.fmod j))else none
 |.pow,.int i,.int j=>if jw i j then ok (.int (i ^ j.toNat))else none
 |.shl,.int i,.int j=>if jw i j then ok (.int (i*2 ^ j.toNat))else none
 |.shr,.int i,.int j=>if 0<=j then ok (.int (i / 2 ^ j.toNat))else none
 |.band,.int i,.int j=>if j=1 then ok (.int (i % 2))else none
 |_,_,_=>none
def inD(x:D):aa->Bool
 |[]=>false
 |y::ys=>ia y x||inD x ys
noncomputable def gG:D->Bool
 |.bu=>true|.bl _=>true|.int _=>true|.str _=>true|_=>false
noncomputable def JT:D->Option (aa)
 |.tup ds=>some ds
 |.lst _ ds=>some ds
 |_=>none
def ej:Ab->D->D->O D
 |.eq,a,b=>if dX 40 a&&dX 40 b then ok (.bl (ia a b))else none
 |.ne,a,b=>if dX 40 a&&dX 40 b then ok (.bl (!ia a b))else none
 |.lt,.int i,.int j=>ok (.bl (decide (i<j)))
 |.le,.int i,.int j=>ok (.bl (decide (i<=j)))
 |.gt,.int i,.int j=>ok (.bl (decide (j<i)))
 |.ge,.int i,.int j=>ok (.bl (decide (j<=i)))
 |.pF,a,.bu=>ok (.bl (match a with|.bu=>false|_=>true))
 |.Hb,a,b=>match JT b with
  |some ds=>if gG a&&ds.all gG then ok (.bl (inD a ds))else none
  |none=>none
 |_,_,_=>none
noncomputable def cL:Ty->D->Bool
 |.int,.int _=>true|.int,.bl _=>true
 |.bool,.bl _=>true
 |.str,.str _=>true
 |.list,.lst _ _=>true
 |.tuple,.tup _=>true
 |_,_=>false
noncomputable def kZ(n:Nat)(i:Int):Option Nat:=if 0<=i then(if i<n then some i.toNat else none)else if -(n:Int)<=i then some (i+n).toNat else none
def mn(ds:aa)(i:Int):O D:=match(kZ ds.length i).bind λj=>ds[j]? with
 |some d=>ok (aw aO d)
 |none=>none
def kI:D->D->O D
 |.tup ds,.int i=>mn ds i
 |.lst _ ds,.int i=>mn ds i
 |_,_=>none
noncomputable def intsOf:aa->Option (ae)
 |[]=>some []
 |.int i::ds=>(intsOf ds).map (i :: ·)
 |_::_=>none
noncomputable def i6:aa->Option (List Bool)
 |[]=>some []
 |.bl i::ds=>(i6 ds).map (i :: ·)
 |_::_=>none
theorem dt:∀{ds:aa} {ns:ae},intsOf ds=some ns->ds=ns.map D.int
 |[],ns,h=>by simp[intsOf]at h;subst h;rfl
 |d::ds,ns,h=>by
  cases d<;>simp[intsOf]at h;obtain⟨ms,h1,rfl⟩:=h;rw[dt h1];rfl
theorem uG:∀{ds:aa} {bs:List Bool},i6 ds=some bs->ds=bs.map D.bl
 |[],bs,h=>by simp[i6]at h;subst h;rfl
 |d::ds,bs,h=>by
  cases d<;>simp[i6]at h;obtain⟨ms,h1,rfl⟩:=h;rw[uG h1];rfl
theorem bw:∀ns:ae,intsOf (ns.map D.int)=some ns
 |[]=>rfl
 |n::ns=>by simp[intsOf,bw ns]
theorem ll:∀bs:List Bool,i6 (bs.map D.bl)=some bs
 |[]=>rfl
 |b::bs=>by simp[i6,ll bs]
noncomputable def sortI(ns:ae):ae:=ns.mergeSort (λa b=>decide (a<=b))
def tf(ds:aa):O D:=match intsOf ds with
 |some ns=>if ns.length<64 then ok (.lst .ow ((sortI ns).map D.int))else none
 |none=>none
def mU:Bf->aH
 |.len,xs=>match xs with
  |[.tup ds]=>ok (.int ds.length)
  |[.lst _ ds]=>ok (.int ds.length)
  |_=>none
 |.abs,xs=>match xs with
  |[.int i]=>ok (.int (if i<0 then -i else i))
  |_=>none
 |.vP,xs=>match xs with
  |[.bl b]=>ok (.int (if b then 1 else 0))
  |_=>none
 |.list1,xs=>match xs with
  |[.lst _ ds]=>ok (.lst .ow (au aO ds))
  |[.tup ds]=>ok (.lst .ow (au aO ds))
  |_=>none
 |.tuple1,xs=>match xs with
  |[.lst _ ds]=>ok (.tup (au aO ds))
  |_=>none
 |.lZ,xs=>match xs with
  |[.lst _ ds]=>(match intsOf ds with
   |some ns=>ok (.int ns.sum)
   |none=>none)
  |_=>none
 |.all1,xs=>match xs with
  |[.lst _ ds]=>(match i6 ds with
   |some bs=>ok (.bl (bs.all id))
   |none=>none)
  |_=>none
 |.gY,xs=>match xs with
  |[.tup ds]=>tf ds
  |_=>none
noncomputable def oI(ns:ae):ae:=ns.foldl (λ(m:ae) (k:Int)=>if m.any (· == k)then m else m++[k]) []
def xA:D->O D
 |.tup ds=>(match intsOf ds with
  |some ns=>if ns.length<4000 then ok (.int (oI ns).length)else none
  |none=>none)
 |_=>none
noncomputable def iG:D->O Bool
 |.bl b=>ok b
 |_=>none
noncomputable def intD:D->O Int
 |.int i=>ok i
 |_=>none
noncomputable def vB:Option (aU)->Option (aa)
 |some (some (.lst .ow ds))=>some ds
 |_=>none
theorem xq{o:Option (aU)}{ds:aa}(h:vB o=some ds):o=some (some (.lst .ow ds)):=by
 unfold vB at h;split at h<;>cases h;rfl
theorem Fz{d:D}{i:Int}(h:intD d=ok i):d=.int i:=by
 cases d<;>simp[intD]at h;rw[h]
noncomputable def vD:D->O D
 |.int i=>ok (.int (-i))
 |_=>none
def eT:aN->aa->a_->O a_
 |[],[],ρ=>ok ρ
 |i::is,d::ds,ρ=>if i<ρ.length then eT is ds (ρ.set i (some d))else none
 |_,_,_=>none
def cY:Tg->D->a_->O a_
 |.nm i,d,ρ=>if i<ρ.length then ok (ρ.set i (some d))else none
 |.tp is,.tup ds,ρ=>if aP dW ds then none else eT is ds ρ
 |_,_,_=>none
def pw:D->O (aa)
 |.lst _ ds=>ok (au aL ds)
 |_=>none
def dU(Φ:bh):IK->aa->O (aa)
 |.bU p,xs=>bd (Φ p xs) pw
 |.jZ,[.int n]=>if n<=eE /\ -eE<=n then ok ((List.range n.toNat).map λ(k:Nat)=>D.int (k:Int))else none
 |.l9,[.int m,.int n]=>if n<=eE /\ -eE<=n/\m<=eE /\ -eE<=m then ok ((List.range (n - m).toNat).map λ(k:Nat)=>D.int (m+(k:Int)))else none
 |.seq,[.tup ds]=>ok (au aL ds)
 |.seq,[.lst _ ds]=>ok (au aL ds)
 |_,_=>none
def iD(bind:D->O a_)(test:a_->O Bool)(el:a_->O D):aa->O (aa)
 |[]=>ok []
 |x::xs=>bd (bind x) λρ=>bd (test ρ) λb=>if b then bd (el ρ) λy=>bd (iD bind test el xs) λys=>ok (y::ys)else iD bind test el xs
def bE(n:Nat)(caps:aN)(ρ:a_):a_:=List.replicate n none++caps.map λi=>(ρ[i]?.getD none).map (aw aL)
def wW(o:Option (aU)):O D:=match o with
 |some (some d)=>ok (aw aO d)
 |_=>none
theorem AJ{o:Option (aU)}{d:D}(h:wW o=ok d):∃d',o=some (some d')/\d=aw aO d':=by
 cases o with
 |none=>cases h
 |some z=>cases z with
  |none=>cases h
  |some z=>cases h;exact⟨z,rfl,rfl⟩
mutual
noncomputable def bp(Φ:bh):CE->a_->O D
 |.bu,_=>ok .bu
 |.bl b,_=>ok (.bl b)
 |.int i,_=>ok (.int i)
 |.str s,_=>ok (.str s)
 |.glo _ i,_=>ok (.int i)
 |.v i,ρ=>wW ρ[i]?
 |.bin op a b,ρ=>bd (bp Φ a ρ) λx=>bd (bp Φ b ρ) λy=>bZ op x y
 |.neg a,ρ=>bd (bp Φ a ρ) vD
 |.not a,ρ=>bd (bd (bp Φ a ρ) iG) λb=>ok (.bl (!b))
 |.and es,ρ=>qu Φ es ρ
 |.or es,ρ=>zG Φ es ρ
 |.cmp op a b,ρ=>bd (bp Φ a ρ) λx=>bd (bp Φ b ρ) λy=>ej op x y
 |.o8 a t,ρ=>bd (bp Φ a ρ) λx=>ok (.bl (cL t x))
 |.call f es,ρ=>bd (bK Φ es ρ) λxs=>bd (Φ f (au aL xs)) λr=>ok (aw d8 r)
 |.bf f es,ρ=>bd (bK Φ es ρ) λxs=>mU f xs
 |.ix a b,ρ=>bd (bp Φ a ρ) λx=>bd (bp Φ b ρ) λy=>kI x y
 |.kh a,ρ=>bd (bp Φ a ρ) λx=>xA x
 |.bU p es,ρ=>bd (bK Φ es ρ) λxs=>Φ p xs
 |.tup es,ρ=>bd (bK Φ es ρ) λxs=>ok (.tup xs)
 |.lst es,ρ=>bd (bK Φ es ρ) λxs=>ok (.lst .ow xs)
 |.comp n t caps ik es bH elt,ρ=>bd (bK Φ es ρ) λxs=>bd (dU Φ ik xs) λitems =>
   bd (iD (λd=>cY t d (bE n caps ρ)) (λρ'=>iC Φ bH ρ') (λρ'=>bp Φ elt ρ') items) λds=>if ds.length<=eE then ok (.lst .ow (au d8 ds))else none
noncomputable def bK(Φ:bh):az->a_->O (aa)
 |[],_=>ok []
 |e::es,ρ=>bd (bp Φ e ρ) λx=>bd (bK Φ es ρ) λxs=>ok (x::xs)
noncomputable def iC(Φ:bh):az->a_->O Bool
 |[],_=>ok true
 |e::es,ρ=>bd (bd (bp Φ e ρ) iG) λb=>if b then iC Φ es ρ else ok false
noncomputable def qu(Φ:bh):az->a_->O D
 |[],_=>none
 |e::es,ρ=>bd (bd (bp Φ e ρ) iG) λc=>match es with
  |[]=>ok (.bl c)
  |_::_=>if c then qu Φ es ρ else ok (.bl false)
noncomputable def zG(Φ:bh):az->a_->O D
 |[],_=>none
 |e::es,ρ=>bd (bd (bp Φ e ρ) iG) λc=>match es with
  |[]=>ok (.bl c)
  |_::_=>if c then ok (.bl true)else zG Φ es ρ
end
def wa(Φ:bh)(e:CE)(ρ:a_):O Bool:=bd (bp Φ e ρ) iG
inductive Fo where|nx|rt(d:D)
noncomputable def dh{α β:Type}(n:Nat)(step:α->O (α ⊕ β))(a:α):O β:=match n with
 |0=>none
 |n+1=>bd (step a) λr=>match r with
  |.inl a'=>dh n step a'
  |.inr b=>ok b
open Classical in
noncomputable def fC{α β:Type}(step:α->O (α ⊕ β))(a:α):O β :=
 if h:∃n,dh n step a≠none then dh (Classical.choose h) step a else none
theorem iT{α β:Type}(step:α->O (α ⊕ β)):∀(n m:Nat) (a:α),n<=m->dh n step a≠none->dh m step a=dh n step a
 |0,_,_,_,h=>absurd rfl h
 |n+1,0,_,hl,_=>by left
 |n+1,m+1,a,hl,h=>by
  unfold dh at h ⊢
  match hs:step a with
  |none=>rw[hs]at h;exact absurd rfl h
  |some (.error c)=>rfl
  |some (.ok (.inr b))=>rfl
  |some (.ok (.inl a')) =>
   rw[hs]at h;exact iT step n m a' (by left) h
theorem kM{α β:Type}{step:α->O (α ⊕ β)}{a:α}{n:Nat}{r:Except Nat β}(h:dh n step a=some r):fC step a=some r:=by
 have hx:∃n,dh n step a≠none:=⟨n,by rw[h];simp⟩
 unfold fC;rw[dif_pos hx];have hc:=Classical.choose_spec hx;rcases Nat.le_total n (Classical.choose hx)with hl|hl
 ·rw[iT step _ _ a hl (by rw[h];simp),h]
 ·rw[<- iT step _ _ a hl hc,h]
theorem kW{α β:Type}{step:α->O (α ⊕ β)}{a:α}{r:Except Nat β}(h:fC step a=some r):∃n,dh n step a=some r:=by
 unfold fC at h;split at h
 ·exact⟨_,h⟩
 ·cases h
theorem m8{α β:Type}{step:α->O (α ⊕ β)}{a a':α}(h:step a=ok (.inl a')):fC step a=fC step a':=by
 match hr:fC step a' with
 |some r =>
  obtain⟨n,hn⟩:=kW hr;refine kM (n:=n+1) ?_;unfold dh;rw[h];exact hn
 |none =>
  match hq:fC step a with
  |none=>rfl
  |some r =>
   obtain⟨n,hn⟩:=kW hq
   match n,hn with
   |n+1,hn =>
    unfold dh at hn;rw[h]at hn;rw[kM (n:=n) hn]at hr;cases hr
theorem gR{α β:Type}{step:α->O (α ⊕ β)}{a:α}{b:β}(h:step a=ok (.inr b)):fC step a=ok b :=
 kM (n:=1) (by unfold dh;rw[h];rfl)
mutual
noncomputable def iJ:CE->aN
 |.v i=>[i]
 |.bin _ a b=>iJ a++iJ b
 |.neg a=>iJ a
 |.not a=>iJ a
 |.and es=>cO es
 |.or es=>cO es
 |.cmp _ a b=>iJ a++iJ b
 |.o8 a _=>iJ a
 |.call _ es=>cO es
 |.bf _ es=>cO es
 |.ix a b=>iJ a++iJ b
 |.kh a=>iJ a
 |.tup es=>cO es
 |.lst es=>cO es
 |.bU _ es=>cO es
 |.comp _ _ caps _ es _ _=>caps++cO es
 |_=>[]
noncomputable def cO:az->aN
 |[]=>[]
 |e::es=>iJ e++cO es
end
def gF(is:aN)(ρ:a_):a_:=ρ.mapIdx λi d=>if i∈is then d.map (aw aL)else d
def keep(e:CE)(d:D)(ρ:a_):D×a_:=if aY bN d then(aw aL d,gF (iJ e) ρ)else(d,ρ)
def iK(Φ:bh)(e:CE)(ρ:a_):O (D×a_):=match e with
 |.v i=>match ρ[i]? with
  |some (some d)=>if aY dW d then ok (d,ρ.set i none)else ok (d,ρ)
  |_=>none
 |_=>bd (bp Φ e ρ) λd=>ok (keep e d ρ)
def fg(Φ:bh)(it:CI)(ρ:a_):O (aa×a_):=match it with
 |.Je p es=>bd (bK Φ es ρ) λxs=>bd (Φ p xs) λd=>bd (pw d) λitems=>ok (items,if aP bN xs then gF (cO es) ρ else ρ)
 |.jZ a=>bd (bp Φ a ρ) λx=>match x with
  |.int n=>if n<=eE /\ -eE<=n then ok ((List.range n.toNat).map λ(k:Nat)=>D.int (k:Int),ρ)else none
  |_=>none
 |.l9 a b=>bd (bp Φ a ρ) λx=>bd (bp Φ b ρ) λy=>match x,y with
  |.int m,.int n=>if n<=eE /\ -eE<=n/\m<=eE /\ -eE<=m then ok ((List.range (n - m).toNat).map λ(k:Nat)=>D.int (m+(k:Int)),ρ)else none
  |_,_=>none
 |.seq a=>bd (bp Φ a ρ) λx=>match x with
  |.tup ds=>ok (au aL ds,if aY bN x then gF (iJ a) ρ else ρ)
  |.lst f ds=>ok (au aL ds,if aY bN x then gF (iJ a) ρ else ρ)
  |_=>none
def nU(es:az)(xs:aa)(ρ:a_):aa×a_:=if aP bN xs then(au aL xs,gF (cO es) ρ)else(xs,ρ)
noncomputable def vF(Φ:bh)(p i:Nat)(r:aa×a_):O (Fo×a_):=match r.2[i]? with
 |some (some d)=>bd (Φ p (d::r.1)) λd'=>ok (.nx,r.2.set i (some d'))
 |_=>none
def HV(is:aN)(d:D)(ρ:a_):O a_:=match d with
 |.tup ds=>eT is ds ρ
 |_=>none
def fW(bind:D->a_->O a_)(body:a_->O (Fo×a_)):aa->a_->O (Fo×a_)
 |[],ρ=>ok (.nx,ρ)
 |d::ds,ρ=>bd (bind d ρ) λρ1=>bd (body ρ1) λr=>match r with
  | (.nx,ρ2)=>fW bind body ds ρ2
  | (.rt d,ρ2)=>ok (.rt d,ρ2)
mutual
noncomputable def hZ(Φ:bh):CS->a_->O (Fo×a_)
 |.asg t e,ρ=>bd (iK Φ e ρ) λr=>bd (cY t r.1 r.2) λρ'=>ok (.nx,ρ')
 |.par i j a b,ρ=>bd (bp Φ a ρ) λx=>bd (bp Φ b ρ) λy=>if aY anyF x=false/\aY anyF y=false/\i<ρ.length/\j<ρ.length then ok (.nx,(ρ.set i (some x)).set j (some y))else none
 |.ret e,ρ=>bd (iK Φ e ρ) λr=>ok (.rt r.1,r.2)
 |.rs c,_=>some (.error c)
 |.ex e,ρ=>bd (bp Φ e ρ) λ_=>ok (.nx,ρ)
 |.mut p i es,ρ=>bd (bK Φ es ρ) λxs=>vF Φ p i (nU es xs ρ)
 |.unp is e,ρ=>bd (iK Φ e ρ) λr=>bd (HV is r.1 r.2) λρ'=>ok (.nx,ρ')
 |.lsn i es,ρ=>bd (bK Φ es ρ) λxs=>if i<ρ.length then ok (.nx,(gF (cO es) ρ).set i (some (.lst .ow (au aL xs))))else none
 |.app i e,ρ=>bd (iK Φ e ρ) λr=>match vB r.2[i]? with
  |some ds=>if ds.length<eE then ok (.nx,r.2.set i (some (.lst .ow (ds++[r.1]))))else none
  |none=>none
 |.setI i k e,ρ=>bd (iK Φ e ρ) λr=>bd (bd (bp Φ k r.2) intD) λz=>match vB r.2[i]? with
  |some ds=>match kZ ds.length z with
   |some j=>ok (.nx,r.2.set i (some (.lst .ow (ds.set j r.1))))
   |none=>none
  |none=>none
 |.ifs c a b,ρ=>bd (wa Φ c ρ) λk=>if k then bJ Φ a ρ else bJ Φ b ρ
 |.GF c b,ρ=>fC (λρ=>bd (wa Φ c ρ) λk=>if k then bd (bJ Φ b ρ) λr=>match r with
   | (.nx,ρ')=>ok (.inl ρ')
   | (.rt d,ρ')=>ok (.inr (.rt d,ρ'))
  else ok (.inr (.nx,ρ))) ρ
 |.fr t it b,ρ=>bd (fg Φ it ρ) λr=>fW (λd ρ=>cY t d ρ) (λρ=>bJ Φ b ρ) r.1 r.2
noncomputable def bJ(Φ:bh):aq->a_->O (Fo×a_)
 |[],ρ=>ok (.nx,ρ)
 |s::ss,ρ=>bd (hZ Φ s ρ) λr=>match r with
  | (.nx,ρ')=>bJ Φ ss ρ'
  |r=>ok r
end
noncomputable def qP(Φ:bh)(n:Nat)(b:aq)(ds:aa):O D:=bd (bJ Φ b (ds.map some++List.replicate (n - ds.length) none)) λr=>match r.1 with
 |.nx=>ok .bu
 |.rt d=>ok d
noncomputable def D0:aH
 |[.lst _ a,.lst _ b]=>ok (.lst .ow (List.zipWith (λx y=>.tup [x,y]) a b))
 |_=>none
end DI
end
section
namespace DI
open PySem PySem.Spec PyProof.Rows L2
noncomputable abbrev bo:=aN
noncomputable abbrev St:=L2.St
noncomputable abbrev kJ:=Addr->af->Prop
inductive Nd where|l(xs:af)|d(cs:aF)(as:bc)(xs:af)(ep:Nat)
abbrev fc:=bo->Addr->Nd->Fl->Prop
structure eZ(T:kJ)(as:bc)(cs:aF):Prop where
 len:as.length=cs.length
 tup:∀(j:Nat) (a:Addr) (c:ae),as[j]?=some a->cs[j]?=some c->T a (c.map V.int)
variable {T T':kJ}{as ch fp:bc}
theorem eZ.imp{cs:aF}(h:eZ T as cs)(hT:∀p xs,T p xs->T' p xs):eZ T' as cs:=⟨h.len,λj a c h1 h2=>hT _ _ (h.tup j a c h1 h2)⟩
mutual
inductive Rep(T:kJ)(N:fc):bo->V->D->Prop where
 |bu {q:bo}:Rep T N q .bu .bu
 |bl {q:bo} (b:Bool):Rep T N q (.bl b) (.bl b)
 |int {q:bo} (i:Int):Rep T N q (.int i) (.int i)
 |str {q:bo} (s:Str):Rep T N q (.str s) (.str s)
 |tup {q:bo} {p:Addr} {xs:af} {ds:aa} (h:T p xs) (r:aC T N q 0 xs ds):Rep T N q (.ref p) (.tup ds)
 |lst {q:bo} {p:Addr} {xs:af} {f:Fl} {ds:aa} (h:N q p (.l xs) f) (r:aC T N q 0 xs ds):Rep T N q (.ref p) (.lst f ds)
 |cy {q:bo} {p:Addr} {cs:aF} {as:bc} {xs:af} {ep:Nat} {f:Fl} {ds:aa} (h:N q p (.d cs as xs ep) f) (k:eZ T as cs) (r:aC T N q 0 xs ds):Rep T N q (.ref p) (.cy f cs ds)
inductive aC(T:kJ)(N:fc):bo->Nat->af->aa->Prop where
 |nil {q:bo} {n:Nat}:aC T N q n [] []
 |cons {q:bo} {n:Nat} {v:V} {d:D} {vs:af} {ds:aa} (h:Rep T N (n::q) v d) (t:aC T N q (n+1) vs ds):aC T N q n (v::vs) (d::ds)
end
variable {ds ds' items:aa}
theorem Rep.yD{N:fc}{q:bo}{v:V}(h:Rep T N q v (.tup ds)):∃p xs,v=.ref p/\T p xs/\aC T N q 0 xs ds:=by
 cases h with
 |tup a b=>exact⟨_,_,rfl,a,b⟩
theorem Rep.sO{N:fc}{q:bo}{v:V}{f:Fl}(h:Rep T N q v (.lst f ds)):∃p xs,v=.ref p/\N q p (.l xs) f/\aC T N q 0 xs ds:=by
 cases h with
 |lst a b=>exact⟨_,_,rfl,a,b⟩
mutual
theorem rL:∀d:D,aY (λ_=>false) d=false
 |.bu=>rfl
 |.bl _=>rfl
 |.int _=>rfl
 |.str _=>rfl
 |.tup ds=>gE ds
 |.lst _ ds=>gE ds
 |.cy _ _ ds=>gE ds
theorem gE:∀ds:aa,aP (λ_=>false) ds=false
 |[]=>rfl
 |d::ds=>by show(aY _ d||aP _ ds)=false;rw[rL d,gE ds];rfl
end
theorem z3{a b:Bool}(h:(a||b)=false):a=false/\b=false:=by cases a<;>cases b<;>first|exact⟨rfl,rfl⟩|cases h
variable {k' q':bo}{vs xs xs':af}
section
variable {T T':kJ}{N N':fc}{g:Fl->Fl}{P:Fl->Bool}{C:bo->bo->Prop}{I:Nat->Nat->Prop}
mutual
theorem Rep.gen(hT:∀p xs,T p xs->T' p xs)(h0:I 0 0)(hI:∀n n',I n n'->I (n+1) (n'+1))(hC:∀k k' n n',C k k'->I n n'->C (n::k) (n'::k'))(hN:∀k k' p xs f,C k k'->P f=false->N k p xs f->N' k' p xs (g f)):
  ∀{k:bo} {v:V} {d:D},Rep T N k v d->∀{k':bo},C k k'->aY P d=false->Rep T' N' k' v (aw g d)
 |_,_,_,.bu,_,_,_=>.bu
 |_,_,_,.bl b,_,_,_=>.bl b
 |_,_,_,.int i,_,_,_=>.int i
 |_,_,_,.str s,_,_,_=>.str s
 |_,_,_,.tup h r,_,c,e=>.tup (hT _ _ h) (aC.gen hT h0 hI hC hN r c h0 e)
 |_,_,_,.lst h r,_,c,e=>.lst (hN _ _ _ _ _ c (z3 e).1 h) (aC.gen hT h0 hI hC hN r c h0 (z3 e).2)
 |_,_,_,.cy h k r,_,c,e=>.cy (hN _ _ _ _ _ c (z3 e).1 h) (k.imp hT) (aC.gen hT h0 hI hC hN r c h0 (z3 e).2)
theorem aC.gen(hT:∀p xs,T p xs->T' p xs)(h0:I 0 0)(hI:∀n n',I n n'->I (n+1) (n'+1))(hC:∀k k' n n',C k k'->I n n'->C (n::k) (n'::k'))(hN:∀k k' p xs f,C k k'->P f=false->N k p xs f->N' k' p xs (g f)):
  ∀{k:bo} {n:Nat} {vs:af} {ds:aa},aC T N k n vs ds->∀{k':bo} {n':Nat},C k k'->I n n'->aP P ds=false->aC T' N' k' n' vs (au g ds)
 |_,_,_,_,.nil,_,_,_,_,_=>.nil
 |_,_,_,_,.cons h t,_,_,c,i,e=>.cons (Rep.gen hT h0 hI hC hN h (hC _ _ _ _ c i) (z3 e).1) (aC.gen hT h0 hI hC hN t c (hI _ _ i) (z3 e).2)
end
theorem Rep.map{q:bo}(hT:∀p xs,T p xs->T' p xs)(hN:∀c p xs f,N (c++q) p xs f->N' (c++q') p xs (g f)){k:bo}{v:V}{d:D}(h:Rep T N k v d)(c:bo)(e:k=c++q):Rep T' N' (c++q') v (aw g d) :=
 Rep.gen (P:=λ_=>false) (C:=λk k'=>∃c,k=c++q/\k'=c++q') (I:=λn n'=>n=n') hT rfl (λ_ _ e=>by rw[e]) (λ_ _ n _ ⟨c,e1,e2⟩ e=>⟨n::c,by rw[e1];rfl,by rw[e2,<- e];rfl⟩) (λ_ _ p xs f ⟨c,e1,e2⟩ _ h=>by subst e1;subst e2;exact hN c p xs f h) h ⟨c,e,rfl⟩ (rL d)
theorem aC.map{q:bo}(hT:∀p xs,T p xs->T' p xs)(hN:∀c p xs f,N (c++q) p xs f->N' (c++q') p xs (g f)){k:bo}{n:Nat}(h:aC T N k n vs ds)(c:bo)(e:k=c++q):aC T' N' (c++q') n vs (au g ds) :=
 aC.gen (P:=λ_=>false) (C:=λk k'=>∃c,k=c++q/\k'=c++q') (I:=λn n'=>n=n') hT rfl (λ_ _ e=>by rw[e]) (λ_ _ n _ ⟨c,e1,e2⟩ e=>⟨n::c,by rw[e1];rfl,by rw[e2,<- e];rfl⟩) (λ_ _ p xs f ⟨c,e1,e2⟩ _ h=>by subst e1;subst e2;exact hN c p xs f h) h ⟨c,e,rfl⟩ rfl (gE ds)
theorem Rep.g_(hT:∀p xs,T p xs->T' p xs)(hN:∀k k' p xs f,N k p xs f->N' k' p xs (g f)){k:bo}{v:V}{d:D}(h:Rep T N k v d)(k':bo):Rep T' N' k' v (aw g d) :=
 Rep.gen (P:=λ_=>false) (C:=λ_ _=>True) (I:=λ_ _=>True) hT trivial (λ_ _ e=>e) (λ_ _ _ _ e _=>e) (λk k' p xs f _ _ h=>hN k k' p xs f h) h trivial (rL d)
theorem aC.g_(hT:∀p xs,T p xs->T' p xs)(hN:∀k k' p xs f,N k p xs f->N' k' p xs (g f)){k:bo}{n:Nat}(h:aC T N k n vs ds)(k':bo)(n':Nat):aC T' N' k' n' vs (au g ds) :=
 aC.gen (P:=λ_=>false) (C:=λ_ _=>True) (I:=λ_ _=>True) hT trivial (λ_ _ e=>e) (λ_ _ _ _ e _=>e) (λk k' p xs f _ _ h=>hN k k' p xs f h) h trivial trivial (gE ds)
end
mutual
theorem eJ:∀d:D,aw id d=d
 |.bu=>rfl
 |.bl _=>rfl
 |.int _=>rfl
 |.str _=>rfl
 |.tup ds=>by rw[aw,d4 ds]
 |.lst f ds=>by rw[aw,d4 ds];rfl
 |.cy f ks vs=>by rw[aw,d4 vs];rfl
theorem d4:∀ds:aa,au id ds=ds
 |[]=>rfl
 |d::ds=>by rw[au,eJ d,d4 ds]
end
section
variable {T T':kJ}{N N':fc}
theorem Rep.imp{q:bo}(hT:∀p xs,T p xs->T' p xs)(hN:∀c p xs f,N (c++q) p xs f->N' (c++q') p xs f){v:V}{d:D}(h:Rep T N q v d):Rep T' N' q' v d:=by
 have:=Rep.map (g:=id) hT hN h [] rfl;rw[eJ]at this;exact this
theorem aC.imp{q:bo}{n:Nat}(hT:∀p xs,T p xs->T' p xs)(hN:∀c p xs f,N (c++q) p xs f->N' (c++q') p xs f)(h:aC T N q n vs ds):aC T' N' q' n vs ds:=by
 have:=aC.map (g:=id) hT hN h [] rfl;rw[d4]at this;exact this
theorem aC.length:∀{k:bo} {n:Nat} {vs:af} {ds:aa},aC T N k n vs ds->vs.length=ds.length
 |_,_,_,_,.nil=>rfl
 |_,_,_,_,.cons _ t=>by simp[aC.length t]
theorem aC.get:∀{k:bo} {n j:Nat} {vs:af} {ds:aa} {d:D},aC T N k n vs ds->ds[j]?=some d->∃v,vs[j]?=some v/\Rep T N ((n+j)::k) v d
 |_,_,_,_,_,_,.nil,e=>by simp at e
 |_,_,0,_,_,_,.cons h t,e=>by simp at e;subst e;exact⟨_,rfl,h⟩
 |_,n,j+1,_,_,_,.cons h t,e=>by
  obtain⟨v,h1,h2⟩:=aC.get (j:=j) t (by simpa using e);refine⟨v,by simpa using h1,?_⟩;have:n+1+j=n+(j+1):=by left
  rw[<- this];exact h2
theorem aC.vZ:∀{k:bo} {n j:Nat} {vs:af} {ds:aa} {v:V},aC T N k n vs ds->vs[j]?=some v->∃d,ds[j]?=some d/\Rep T N ((n+j)::k) v d
 |_,_,_,_,_,_,.nil,e=>by simp at e
 |_,_,0,_,_,_,.cons h t,e=>by simp at e;subst e;exact⟨_,rfl,h⟩
 |_,n,j+1,_,_,_,.cons h t,e=>by
  obtain⟨v,h1,h2⟩:=aC.vZ (j:=j) t (by simpa using e);refine⟨v,by simpa using h1,?_⟩;have:n+1+j=n+(j+1):=by left
  rw[<- this];exact h2
theorem aC.mW{k:bo}(hN:∀k k' p xs f,N k p xs f->N k' p xs f):∀{n m l:Nat} {vs ws:af} {ds es:aa},aC T N k n vs ds->aC T N k m ws es->aC T N k l (vs++ws) (ds++es)
 |_,_,_,_,_,_,_,.nil,t=>by
  have:=aC.g_ (T':=T) (N':=N) (g:=id) (λ_ _ h=>h) hN t;rw[d4]at this;exact this _ _
 |_,_,_,_,_,_,_,.cons h t,u=>.cons (by
  have:=Rep.g_ (T':=T) (N':=N) (g:=id) (λ_ _ h=>h) hN h;rw[eJ]at this;exact this _) (aC.mW hN t u)
end
def KL(K:ao)(a:Addr)(xs:af):Prop :=
 ∃(o:Obj) (aI:aR) (n:Nat),K.lookup a=some o/\o.cls=.type "list" /\ o.dict=none/\o.data=.seq aI n/\aI.size<=sizeLine/\Vals xs aI.toList
def DO(p:Addr)(cs:aF)(as:bc)(xs:af)(ep:Nat)(h:Heap):Prop :=
 ∃(zs:List (ae×Addr×Value)) (o:Obj) (es:Array DictEntry),zs.map (·.1)=cs/\zs.map (·.2.1)=as/\Vals xs (zs.map (·.2.2))/\h.get? p=some o/\o.ExactDict/\o.data=.dict es ep /\
  es.toList=zs.map (λz=>⟨reduceHash (Builtin.Tuple.tupleHashOf (z.1.map hashInt)),.ref z.2.1,z.2.2⟩)/\cs.Nodup/\cs.length<=sizeLine/\(p==sysModules)=false
noncomputable abbrev fi(H:Hp)(p:Addr)(n:Nd):Prop:=match n with
 |.l xs=>H p=some (.lst xs)
 |.d cs as xs ep=>H p=some (.ext (DO p cs as xs ep))
variable {H H' H1 H2:Hp}
theorem fi.ne{p:Addr}{n:Nd}(h:fi H p n):H p≠none:=by
 cases n with
 |l xs=>intro z;rw[show H p=some (.lst xs) from h]at z;cases z
 |d cs as xs ep=>intro z;rw[show H p=some (.ext (DO p cs as xs ep)) from h]at z;cases z
theorem fi.at{p:Addr}{n:Nd}(e:∀o,H p=some o->H' p=some o)(h:fi H p n):fi H' p n:=by
 cases n with
 |l xs=>exact e _ h
 |d cs as xs ep=>exact e _ h
theorem fi.same{p:Addr}{n:Nd}(e:aK H H')(h:fi H p n):fi H' p n:=h.at (e p)
theorem fi.some{H:Hp}{p:Addr}{n:Nd}(h:fi H p n):∃o,H p=some o/\(∀xs,o≠.tup xs)/\(∀a u,o≠.gF a u):=by
 cases n with
 |l xs=>exact⟨_,h,λ_ z=>(nomatch z),λ_ _ z=>(nomatch z)⟩
 |d cs as xs ep=>exact⟨_,h,λ_ z=>(nomatch z),λ_ _ z=>(nomatch z)⟩
def nd(K:ao)(R A:ah)(τ:Addr->Option bo)(H:Hp):fc:=λq p n f=>match f with
 |.ow=>fi H p n/\τ p=some q
 |.fz=>fi H p n/\R p
 |.al=>fi H p n/\A p
 |.sc=>match n with
  |.l xs=>(∃o,H p=some (.gF o (.lst xs)))\/KL K p xs
  |.d _ _ _ _=>False
variable {A F G R R' R1:Addr->Prop}{K:ao}{τ τ' τt:Addr->Option bo}
theorem nd.GR{q:bo}{p:Addr}{n:Nd}(h:nd K R A τ H q p n .sc):∃xs,n=.l xs/\((∃o,H p=some (.gF o (.lst xs)))\/KL K p xs):=by
 cases n with
 |l xs=>exact⟨xs,rfl,h⟩
 |d _ _ _ _=>exact h.elim
theorem nd.sq{q:bo}{p:Addr}{f:Fl}(h:nd K R A τ H q p (.l xs) f):dE K H p xs:=by
 cases f with
 |ow=>exact dE.of h.1
 |fz=>exact dE.of h.1
 |al=>exact dE.of h.1
 |sc=>exact h.elim (λh=>.inl (.inr h)) .inr
theorem nd.lst{K:ao}{R A:ah}{τ:Addr->Option bo}{H:Hp}{q:bo}{p:Addr}{xs:af}{f:Fl}(h:nd K R A τ H q p (.l xs) f)(hf:fK f=false):H p=some (.lst xs):=by
 cases f with
 |ow=>exact h.1
 |fz=>exact h.1
 |al=>exact h.1
 |sc=>cases hf
variable {ep k1 k2 n1 t':Nat}
theorem nd.dat{q:bo}{p:Addr}{cs:aF}{f:Fl}(h:nd K R A τ H q p (.d cs as xs ep) f):H p=some (.ext (DO p cs as xs ep)):=by
 cases f with
 |ow=>exact h.1
 |fz=>exact h.1
 |al=>exact h.1
 |sc=>exact h.elim
theorem Rd.same{a:Addr}{u:HO}(e:aK H H')(h:Rd H a u):Rd H' a u:=h.elim (λh=>.inl (e _ _ h)) λ⟨o,h⟩=>.inr ⟨o,e _ _ h⟩
theorem aW.same{K:ao}{H H':Hp}{a:Addr}{xs:af}(e:aK H H')(h:aW K H a xs):aW K H' a xs:=h.elim (λh=>.inl (Rd.same e h)) .inr
theorem nd.same{K:ao}{R A:ah}{τ:Addr->Option bo}{H H':Hp}{q:bo}{p:Addr}{n:Nd}{f:Fl}(e:aK H H')(h:nd K R A τ H q p n f):nd K R A τ H' q p n f:=by
 cases f with
 |ow=>exact⟨h.1.same e,h.2⟩
 |fz=>exact⟨h.1.same e,h.2⟩
 |al=>exact⟨h.1.same e,h.2⟩
 |sc=>cases n with
  |l xs=>exact h.elim (λ⟨o,h⟩=>.inl ⟨o,e _ _ h⟩) .inr
  |d _ _ _ _=>exact h.elim
theorem Rd.there{a:Addr}{u:HO}(h:Rd H a u):H a≠none:=by
 rcases h with h|⟨o,h⟩<;>(rw[h];simp)
theorem aK.ne(e:aK H H'){a:Addr}(h:H a≠none):H' a≠none:=by
 cases q:H a with
 |none=>exact absurd q h
 |some o=>rw[e a o q];simp
structure SI(X:Cx)(F R:ah)(τ:Addr->Option bo)(ρ:a_)(σ:St)(H:Hp):Prop where
 len:ρ.length=σ.length
 rep:∀(i:Nat) (d:D),ρ[i]?=some (some d)->∃v,σ[i]?=some (some v)/\Rep (aW X.K H) (nd X.K R (λ_=>False) τ H) [i] v d
 rt:∀p,R p->τ p=none
 rh:∀p,R p->H p≠none
 rf:∀p,R p->F p\/X.H₀ p=none
 th:∀p q,τ p=some q->H p≠none
 t0:∀p q,τ p=some q->X.H₀ p=none
 same:aK X.H₀ H
variable {X:Cx}{ρ:a_}{σ:L2.St}
theorem SI.go(S:SI X F R τ ρ σ H)(e:aK H H'):SI X F R τ ρ σ H' :=
 ⟨S.len,λi d h=>let ⟨v,h1,h2⟩:=S.rep i d h;⟨v,h1,h2.imp (λ_ _ h=>aW.same e h) λ_ _ _ _ h=>nd.same e h⟩,S.rt,λp h=>aK.ne e (S.rh p h),S.rf,λp q h=>aK.ne e (S.th p q h),S.t0,S.same.trans e⟩
def jD(G:ah)(τ:Addr->Option bo)(fv:aN)(p:Addr):Prop:=G p/\∀c i,τ p=some (c++[i])->i∈fv
variable {caps fv fv' is:aN}
theorem jD.mono{p:Addr}(h:jD G τ fv p)(hs:∀i∈fv,i∈fv'):jD G τ fv' p:=⟨h.1,λc i e=>hs i (h.2 c i e)⟩
def gP(X:Cx)(F:ah)(p:Addr):Prop:=F p\/X.H₀ p=none
def b_(K:ao)(G R:ah)(τ:Addr->Option bo)(fv:aN)(H H':Hp)(v:V)(d:D):Prop :=
 ∃τt:Addr->Option bo,(∀p q,τt p=some q->H p=none)/\Rep (aW K H') (nd K R (jD G τ fv) τt H') [] v d
def cF(K:ao)(G R:ah)(τ:Addr->Option bo)(fv:aN)(H H':Hp)(vs:af)(ds:aa):Prop :=
 ∃τt:Addr->Option bo,(∀p q,τt p=some q->H p=none)/\aC (aW K H') (nd K R (jD G τ fv) τt H') [] 0 vs ds
section
variable {K:ao}{G R:ah}{τ:Addr->Option bo}{fv fv':aN}{H H1 H2:Hp}{v:V}{d:D}{vs:af}{ds:aa}
theorem b_.go(h:b_ K G R τ fv H H1 v d)(e:aK H1 H2):b_ K G R τ fv H H2 v d :=
 let ⟨τt,h1,h2⟩:=h;⟨τt,h1,h2.imp (λ_ _ h=>aW.same e h) λ_ _ _ _ h=>nd.same e h⟩
theorem nd.mono{A':Addr->Prop}{τ:Addr->Option bo}{q:bo}{p:Addr}{xs:Nd}{f:Fl}(h:nd K R A τ H q p xs f)(hR:R p->R' p)(hA:A p->A' p)(ht:τ p=some q->τ' p=some q'):nd K R' A' τ' H q' p xs f:=by
 cases f with
 |ow=>exact⟨h.1,ht h.2⟩
 |fz=>exact⟨h.1,hR h.2⟩
 |al=>exact⟨h.1,hA h.2⟩
 |sc=>exact h
theorem b_.mono(h:b_ K G R τ fv H H1 v d)(hs:∀i∈fv,i∈fv'):b_ K G R τ fv' H H1 v d :=
 let ⟨τt,h1,h2⟩:=h;⟨τt,h1,h2.imp (λ_ _ h=>h) λ_ _ _ _ h=>h.mono id (λh=>h.mono hs) id⟩
theorem cF.mono(h:cF K G R τ fv H H1 vs ds)(hs:∀i∈fv,i∈fv'):cF K G R τ fv' H H1 vs ds :=
 let ⟨τt,h1,h2⟩:=h;⟨τt,h1,h2.imp (λ_ _ h=>h) λ_ _ _ _ h=>h.mono id (λh=>h.mono hs) id⟩
theorem b_.old{H0:Hp}(h:b_ K G R τ fv H H1 v d)(e:aK H0 H):b_ K G R τ fv H0 H1 v d :=
 let ⟨τt,h1,h2⟩:=h;⟨τt,λp q z=>e.free (h1 p q z),h2⟩
theorem b_.int{i:Int}:b_ K G R τ fv H H1 (.int i) (.int i):=⟨λ_=>none,λ_ _ h=>by simp at h,.int i⟩
theorem b_.bl{b:Bool}:b_ K G R τ fv H H1 (.bl b) (.bl b):=⟨λ_=>none,λ_ _ h=>by simp at h,.bl b⟩
theorem b_.str{s:Str}:b_ K G R τ fv H H1 (.str s) (.str s):=⟨λ_=>none,λ_ _ h=>by simp at h,.str s⟩
theorem b_.bu:b_ K G R τ fv H H1 .bu .bu:=⟨λ_=>none,λ_ _ h=>by simp at h,.bu⟩
theorem b_.isInt{i:Int}(h:b_ K G R τ fv H H1 v (.int i)):v=.int i:=by obtain⟨_,_,h⟩:=h;cases h;rfl
theorem b_.zi{i:Bool}(h:b_ K G R τ fv H H1 v (.bl i)):v=.bl i:=by obtain⟨_,_,h⟩:=h;cases h;rfl
def qN:bo->bo
 |[]=>[]
 |[n]=>[n+1]
 |a::b::r=>a::qN (b::r)
theorem tm(c:bo)(n:Nat):qN (c++[n])=c++[n+1]:=by
 induction c with
 |nil=>rfl
 |cons a c ih =>
  cases c with
  |nil=>rfl
  |cons b c=>show a::qN (b::c++[n])=_;rw[ih];rfl
theorem aC.shift{T:kJ}{N N':fc}(hN:∀c n p xs f,N (c++[n]) p xs f->N' (c++[n+1]) p xs f):∀{n:Nat} {vs:af} {ds:aa},aC T N [] n vs ds->aC T N' [] (n+1) vs ds
 |_,_,_,.nil=>.nil
 |n,_,_,.cons h t=>.cons (h.imp (q:=[n]) (q':=[n+1]) (λ_ _ h=>h) λc p xs f h=>hN c n p xs f h) (aC.shift hN t)
theorem cF.nil:cF K G R τ fv H H1 [] []:=⟨λ_=>none,λ_ _ h=>by simp at h,.nil⟩
open Classical in
theorem cF.cons(e1:aK H H1)(e2:aK H1 H2)(h:b_ K G R τ fv H H1 v d)(t:cF K G R τ fv H1 H2 vs ds):cF K G R τ fv H H2 (v::vs) (d::ds):=by
 obtain⟨τ1,f1,h1⟩:=h;obtain⟨τ2,f2,h2⟩:=t;refine⟨λp=>if H1 p=none then(τ2 p).map qN else(τ1 p).map (· ++ [0]),λp q hq=>?_,.cons (h1.imp (q':=[0]) (λ_ _ h=>aW.same e2 h) λc p xs f h=>?_) (aC.shift (λc n p xs f h=>?_) h2)⟩
 ·by_cases hp:H1 p=none
  ·exact e1.free hp
  ·simp only[hp,if_false]at hq;cases q1:τ1 p with
   |none=>rw[q1]at hq;simp at hq
   |some k=>exact f1 p k q1
 ·have h':nd K R (jD G τ fv) τ1 H2 (c++[]) p xs f:=nd.same e2 h;cases f with
  |ow =>
   have hp:H1 p≠none:=h.1.ne;refine⟨h'.1,?_⟩;simp only[hp,if_false];rw[h.2];simp
  |fz=>exact h'
  |al=>exact h'
  |sc=>exact h'
 ·cases f with
  |ow =>
   have hp:H1 p=none:=f2 p _ h.2;refine⟨h.1,?_⟩;simp only[hp,if_true];rw[h.2];simp[tm]
  |fz=>exact h
  |al=>exact h
  |sc=>exact h
end
def tD(X:Cx)(F:ah)(Φ:bh)(c:CE):TE:=λσ H Q=>∃R τ ρ d,SI X F R τ ρ σ H/\bp Φ c ρ=ok d/\∀v H',aK H H'->b_ X.K (gP X F) R τ (iJ c) H H' v d->Q v H'
def pZ(X:Cx)(F:ah)(Φ:bh)(cs:az):TA:=λσ H Q=>∃R τ ρ ds,SI X F R τ ρ σ H/\bK Φ cs ρ=ok ds/\∀vs H',aK H H'->cF X.K (gP X F) R τ (cO cs) H H' vs ds->Q vs H'
def fZ(X:Cx)(F:ah)(Φ:bh)(c:CE):TT:=λσ H Q=>∃R τ ρ b,SI X F R τ ρ σ H/\wa Φ c ρ=ok b/\∀H',aK H H'->Q b H'
theorem PE.imp{e:Expr}{t t':TE}(h:PE X e t)(hi:∀σ H Q,t' σ H Q->t σ H Q):PE X e t':=λpins s σ H Q I hw=>h pins s σ H Q I (hi σ H Q hw)
theorem PT.imp{e:Expr}{t t':TT}(h:PT X e t)(hi:∀σ H Q,t' σ H Q->t σ H Q):PT X e t':=λpins s σ H Q I hw=>h pins s σ H Q I (hi σ H Q hw)
theorem PW.imp{e:Expr}{t t':TT}(h:PW X e t)(hi:∀σ H Q,t' σ H Q->t σ H Q):PW X e t':=λwh pins s σ H Q I hw=>h wh pins s σ H Q I (hi σ H Q hw)
theorem PA.imp{es:av}{t t':TA}(h:PA X es t)(hi:∀σ H Q,t' σ H Q->t σ H Q):PA X es t':=λpos pins s σ H Q I hw=>h pos pins s σ H Q I (hi σ H Q hw)
variable {st:Stmt}
theorem PS.imp{t t':TS}(h:PS X st t)(hi:∀D σ H,t' D σ H->t D σ H):PS X st t':=λpins s σ H D I hw=>h pins s σ H D I (hi D σ H hw)
theorem ig.imp{st:aS}{t t':TS}(h:ig X st t)(hi:∀D σ H,t' D σ H->t D σ H):ig X st t':=λpins s σ H D I hw=>h pins s σ H D I (hi D σ H hw)
theorem oA:∀(as bs:aa),fO as bs=true ↔ as.length=bs.length/\∀(j:Nat) (a b:D),as[j]?=some a->bs[j]?=some b->ia a b=true
 |[],[]=>by simp[fO]
 |[],b::bs=>by simp[fO]
 |a::as,[]=>by simp[fO]
 |a::as,b::bs=>by
  rw[fO,Bool.and_eq_true,oA as bs];constructor
  ·rintro ⟨h1,h2,h3⟩;refine⟨by simp[h2],λj x y hx hy=>?_⟩;cases j with
   |zero=>simp at hx hy;subst hx hy;exact h1
   |succ j=>exact h3 j x y (by simpa using hx) (by simpa using hy)
  ·rintro ⟨h2,h3⟩;exact⟨h3 0 a b rfl rfl,by simpa using h2,λj x y hx hy=>h3 (j+1) x y (by simpa using hx) (by simpa using hy)⟩
def Qt(as bs:aa)(j:Nat):Bool:=match as[j]?,bs[j]? with
 |some a,some b=>ia a b
 |_,_=>false
theorem jO(as bs:aa):((List.range (min as.length bs.length)).all (Qt as bs)&&as.length==bs.length)=fO as bs:=by
 rw[Bool.eq_iff_iff,oA,Bool.and_eq_true,List.all_eq_true,beq_iff_eq];constructor
 ·rintro ⟨h1,h2⟩;refine⟨h2,λj a b ha hb=>?_⟩;have hj:j<as.length:=by
   by_cases h:j<as.length
   ·exact h
   ·rw[List.getElem?_eq_none (by left)]at ha;cases ha
  have:=h1 j (by rw[List.mem_range];left);unfold Qt at this;rw[ha,hb]at this;exact this
 ·rintro ⟨h2,h1⟩;refine⟨λj hj=>?_,h2⟩;rw[List.mem_range]at hj;unfold Qt;have ha:as[j]?=some as[j]:=aak (by left);have hb:bs[j]?=some bs[j]:=aak (by left);rw[ha,hb];exact h1 j _ _ ha hb
section
variable {X:Cx}{pins:ak}{σ:St}{H:Hp}{s:Shared}{N N':fc}
theorem dO{n:Nat}(h:dX n (.tup ds)=true):∃m,n=m+1/\∀d∈ds,dX m d=true:=by
 cases n with
 |zero=>cases h
 |succ m=>exact⟨m,rfl,List.all_eq_true.mp h⟩
theorem dP{n:Nat}{f:Fl}(h:dX n (.lst f ds)=true):∃m,n=m+1/\∀d∈ds,dX m d=true:=by
 cases n with
 |zero=>cases h
 |succ m=>exact⟨m,rfl,List.all_eq_true.mp h⟩
theorem xE(I:Inv X pins σ H s){p:Addr}{ys:af}(h:dE X.K H p xs)(h':aW X.K H p ys):False:=by
 obtain⟨aI,_,pl,_⟩:=I.list h;obtain⟨its',_,pt,_⟩:=I.tuple h';exact SeqAt.ne_of_list_tuple pl.isList pt rfl
theorem AL(I:Inv X pins σ H s)(hN:∀q p xs f,N q p (.l xs) f->dE X.K H p xs)(zD:∀q p xs f,N' q p (.l xs) f->dE X.K H p xs):
  ∀(n:Nat) {k k':bo} {v:V} {d d':D},Rep (aW X.K H) N k v d->Rep (aW X.K H) N' k' v d'->dX n d=true->dX n d'=true->ia d d'=true:=by
 intro n;induction n with
 |zero =>
  intro k k' v d d' h h' ho fq;cases h with
  |bu=>cases h';rfl
  |bl b=>cases h';exact aa8 b
  |int i=>cases h';exact aa8 i
  |str t=>cases h';exact aa8 t
  |tup _ _=>obtain⟨m,hm,_⟩:=dO ho;left
  |lst _ _=>obtain⟨m,hm,_⟩:=dP ho;left
  |cy _ _=>cases ho
 |succ n ih =>
  have sub:∀{q q':bo} {xs:af} {ds ds':aa},aC (aW X.K H) N q 0 xs ds->aC (aW X.K H) N' q' 0 xs ds'->(∀d∈ds,dX n d=true)->(∀d∈ds',dX n d=true)->fO ds ds'=true:=by
   intro q q' xs ds ds' r r' ho fq;rw[oA];refine⟨by rw[<- r.length,<- r'.length],λj a b ha hb=>?_⟩;obtain⟨v1,h1,r1⟩:=r.get ha;obtain⟨v2,h2,r2⟩:=r'.get hb;rw[h1]at h2;cases h2;exact ih r1 r2 (ho a (aap ha)) (fq b (aap hb))
  intro k k' v d d' h h' ho fq;cases h with
  |bu=>cases h';rfl
  |bl b=>cases h';exact aa8 b
  |int i=>cases h';exact aa8 i
  |str t=>cases h';exact aa8 t
  |tup h r =>
   obtain⟨m,hm,ho⟩:=dO ho;obtain rfl:n=m:=by left
   cases h' with
   |tup h' r' =>
    obtain⟨m,hm,fq⟩:=dO fq;obtain rfl:n=m:=by left
    obtain rfl:=I.pW h h';exact sub r r' ho fq
   |lst h' r'=>exact(xE I (zD _ _ _ _ h') h).elim
   |cy _ _=>cases fq
  |lst h r =>
   obtain⟨m,hm,ho⟩:=dP ho;obtain rfl:n=m:=by left
   cases h' with
   |tup h' r'=>exact(xE I (hN _ _ _ _ h) h').elim
   |lst h' r' =>
    obtain⟨m,hm,fq⟩:=dP fq;obtain rfl:n=m:=by left
    obtain rfl:=I.ki (hN _ _ _ _ h) (zD _ _ _ _ h');exact sub r r' ho fq
   |cy _ _=>cases fq
  |cy _ _=>cases ho
structure Alike(A:aG)(s:Shared)(u u':Value)(b:Bool):Prop where
 eq:SeqAt.EqAt A s u u' b
 rc:SeqAt.RcAt A s u u' b
 ne:SeqAt.RcNeAt A s u u' (!b)
theorem alike(I:Inv X pins σ H s)(hN:∀q p xs f,N q p (.l xs) f->dE X.K H p xs)(zD:∀q p xs f,N' q p (.l xs) f->dE X.K H p xs):
  ∀(n:Nat) (A:aG) {k k':bo} {v v':V} {u u':Value} {d d':D},Rep (aW X.K H) N k v d->Rep (aW X.K H) N' k' v' d'->dX n d=true->dX n d'=true->RelV v u->RelV v' u'->A.units+n<cLine ->
   Alike A s u u' (ia d d'):=by
 intro n;induction n with
 |zero =>
  intro A k k' v v' u u' d d' h h' ho fq r r' hu;cases h with
  |tup _ _=>obtain⟨m,hm,_⟩:=dO ho;left
  |lst _ _=>obtain⟨m,hm,_⟩:=dP ho;left
  |cy _ _=>cases ho
  |bu =>
   cases r;cases h' with
   |tup _ _=>obtain⟨m,hm,_⟩:=dO fq;left
   |lst _ _=>obtain⟨m,hm,_⟩:=dP fq;left
   |cy _ _=>cases fq
   |bu=>cases r';exact⟨abj _,SeqAt.RcAt.none_none,SeqAt.RcNeAt.none_none⟩
   |bl b=>cases r';exact⟨abL b,SeqAt.RcAt.none_bool b,SeqAt.RcNeAt.none_bool b⟩
   |int b=>obtain⟨t,rfl⟩:=r';exact⟨abT b t,SeqAt.RcAt.none_int b t,SeqAt.RcNeAt.none_int b t⟩
   |str b=>obtain⟨t,rfl⟩:=r';exact⟨abU b t,SeqAt.RcAt.none_str b t,SeqAt.RcNeAt.none_str b t⟩
  |bl a =>
   cases r;cases h' with
   |tup _ _=>obtain⟨m,hm,_⟩:=dO fq;left
   |lst _ _=>obtain⟨m,hm,_⟩:=dP fq;left
   |cy _ _=>cases fq
   |bu=>cases r';exact⟨abM a,SeqAt.RcAt.bool_none a,SeqAt.RcNeAt.bool_none a⟩
   |bl b=>cases r';exact⟨abN a b,SeqAt.RcAt.bool_bool a b,SeqAt.RcNeAt.bool_bool a b⟩
   |int b=>obtain⟨t,rfl⟩:=r';exact⟨abV a b t,SeqAt.RcAt.bool_int a b t,SeqAt.RcNeAt.bool_int a b t⟩
   |str b=>obtain⟨t,rfl⟩:=r';exact⟨abW a b t,SeqAt.RcAt.bool_str a b t,SeqAt.RcNeAt.bool_str a b t⟩
  |int a =>
   obtain⟨t',rfl⟩:=r;cases h' with
   |tup _ _=>obtain⟨m,hm,_⟩:=dO fq;left
   |lst _ _=>obtain⟨m,hm,_⟩:=dP fq;left
   |cy _ _=>cases fq
   |bu=>cases r';exact⟨abX a t',SeqAt.RcAt.int_none a t',SeqAt.RcNeAt.int_none a t'⟩
   |bl b=>cases r';exact⟨abY a t' b,SeqAt.RcAt.int_bool a t' b,SeqAt.RcNeAt.int_bool a t' b⟩
   |int b=>obtain⟨t,rfl⟩:=r';exact⟨abo a t' b t,SeqAt.RcAt.int_int a t' b t,SeqAt.RcNeAt.int_int a t' b t⟩
   |str b=>obtain⟨t,rfl⟩:=r';exact⟨abm a t' b t,SeqAt.RcAt.int_str a t' b t,SeqAt.RcNeAt.int_str a t' b t⟩
  |str a =>
   obtain⟨t',rfl⟩:=r;cases h' with
   |tup _ _=>obtain⟨m,hm,_⟩:=dO fq;left
   |lst _ _=>obtain⟨m,hm,_⟩:=dP fq;left
   |cy _ _=>cases fq
   |bu=>cases r';exact⟨abZ a t',SeqAt.RcAt.str_none a t',SeqAt.RcNeAt.str_none a t'⟩
   |bl b=>cases r';exact⟨ab0 a t' b,SeqAt.RcAt.str_bool a t' b,SeqAt.RcNeAt.str_bool a t' b⟩
   |int b=>obtain⟨t,rfl⟩:=r';exact⟨abn a t' b t,SeqAt.RcAt.str_int a t' b t,SeqAt.RcNeAt.str_int a t' b t⟩
   |str b=>obtain⟨t,rfl⟩:=r';exact⟨ab6 a t' b t,SeqAt.RcAt.str_str a t' b t,SeqAt.RcNeAt.str_str a t' b t⟩
 |succ n ih =>
  intro A k k' v v' u u' d d' h h' ho fq r r' hu;have d3:A.units<cLine:=by left
  have UH:A.in1.units+n<cLine:=by show A.units+1+n<cLine;left
  have sub:∀{q q':bo} {xs xs':af} {ds ds':aa} {aI its':ai},aC (aW X.K H) N q 0 xs ds->aC (aW X.K H) N' q' 0 xs' ds'->(∀d∈ds,dX n d=true)->(∀d∈ds',dX n d=true)->Vals xs aI->Vals xs' its' ->
    ∀(j:Nat) (h1:j<aI.toArray.size) (h2:j<its'.toArray.size),SeqAt.EqAt A.in1 s aI.toArray[j] its'.toArray[j] (Qt ds ds' j):=by
   intro q q' xs xs' ds ds' aI its' rs iw hd hU rv zZ j h1 h2;have l1:ds.length=aI.length:=by rw[<- rs.length,rv.length]
   have l2:ds'.length=its'.length:=by rw[<- iw.length,zZ.length]
   simp only[List.size_toArray]at h1 h2;have ea:ds[j]?=some ds[j]:=aak (by left);have eb:ds'[j]?=some ds'[j]:=aak (by left);obtain⟨w1,g1,p1⟩:=rs.get ea;obtain⟨w2,g2,p2⟩:=iw.get eb;obtain⟨u1,k1,z1⟩:=rv.get g1;obtain⟨u2,k2,z2⟩:=zZ.get g2;have:=(ih A.in1 p1 p2 (hd _ (aa0 _)) (hU _ (aa0 _)) z1 z2 UH).eq;unfold Qt;rw[ea,eb];rw[List.getElem?_eq_getElem h1]at k1;rw[List.getElem?_eq_getElem h2]at k2;cases k1;cases k2;simpa using this
  cases h with
  |bu =>
   cases r;cases h' with
   |cy _ _=>cases fq
   |bu=>cases r';exact⟨abj _,SeqAt.RcAt.none_none,SeqAt.RcNeAt.none_none⟩
   |bl b=>cases r';exact⟨abL b,SeqAt.RcAt.none_bool b,SeqAt.RcNeAt.none_bool b⟩
   |int b=>obtain⟨t,rfl⟩:=r';exact⟨abT b t,SeqAt.RcAt.none_int b t,SeqAt.RcNeAt.none_int b t⟩
   |str b=>obtain⟨t,rfl⟩:=r';exact⟨abU b t,SeqAt.RcAt.none_str b t,SeqAt.RcNeAt.none_str b t⟩
   |tup h' rr=>cases r';obtain⟨aI,_,pt,_⟩:=I.tuple h';exact⟨SeqAt.EqAt.none_tuple pt d3,SeqAt.RcAt.none_tuple pt d3,SeqAt.RcNeAt.none_tuple pt d3⟩
   |lst h' rr=>cases r';obtain⟨aI,_,pt,_⟩:=I.list (zD _ _ _ _ h');exact⟨SeqAt.EqAt.none_list pt.isList d3,SeqAt.RcAt.none_list pt.isList d3,SeqAt.RcNeAt.none_list pt.isList d3⟩
  |bl a =>
   cases r;cases h' with
   |cy _ _=>cases fq
   |bu=>cases r';exact⟨abM a,SeqAt.RcAt.bool_none a,SeqAt.RcNeAt.bool_none a⟩
   |bl b=>cases r';exact⟨abN a b,SeqAt.RcAt.bool_bool a b,SeqAt.RcNeAt.bool_bool a b⟩
   |int b=>obtain⟨t,rfl⟩:=r';exact⟨abV a b t,SeqAt.RcAt.bool_int a b t,SeqAt.RcNeAt.bool_int a b t⟩
   |str b=>obtain⟨t,rfl⟩:=r';exact⟨abW a b t,SeqAt.RcAt.bool_str a b t,SeqAt.RcNeAt.bool_str a b t⟩
   |tup h' rr=>cases r';obtain⟨aI,_,pt,_⟩:=I.tuple h';exact⟨SeqAt.EqAt.bool_tuple a pt d3,SeqAt.RcAt.bool_tuple a pt d3,SeqAt.RcNeAt.bool_tuple a pt d3⟩
   |lst h' rr=>cases r';obtain⟨aI,_,pt,_⟩:=I.list (zD _ _ _ _ h');exact⟨SeqAt.EqAt.bool_list a pt.isList d3,SeqAt.RcAt.bool_list a pt.isList d3,SeqAt.RcNeAt.bool_list a pt.isList d3⟩
  |int a =>
   obtain⟨t',rfl⟩:=r;cases h' with
   |cy _ _=>cases fq
   |bu=>cases r';exact⟨abX a t',SeqAt.RcAt.int_none a t',SeqAt.RcNeAt.int_none a t'⟩
   |bl b=>cases r';exact⟨abY a t' b,SeqAt.RcAt.int_bool a t' b,SeqAt.RcNeAt.int_bool a t' b⟩
   |int b=>obtain⟨t,rfl⟩:=r';exact⟨abo a t' b t,SeqAt.RcAt.int_int a t' b t,SeqAt.RcNeAt.int_int a t' b t⟩
   |str b=>obtain⟨t,rfl⟩:=r';exact⟨abm a t' b t,SeqAt.RcAt.int_str a t' b t,SeqAt.RcNeAt.int_str a t' b t⟩
   |tup h' rr=>cases r';obtain⟨aI,_,pt,_⟩:=I.tuple h';exact⟨SeqAt.EqAt.int_tuple a t' pt d3,SeqAt.RcAt.int_tuple a t' pt d3,SeqAt.RcNeAt.int_tuple a t' pt d3⟩
   |lst h' rr=>cases r';obtain⟨aI,_,pt,_⟩:=I.list (zD _ _ _ _ h');exact⟨SeqAt.EqAt.int_list a t' pt.isList d3,SeqAt.RcAt.int_list a t' pt.isList d3,SeqAt.RcNeAt.int_list a t' pt.isList d3⟩
  |str a =>
   obtain⟨t',rfl⟩:=r;cases h' with
   |cy _ _=>cases fq
   |bu=>cases r';exact⟨abZ a t',SeqAt.RcAt.str_none a t',SeqAt.RcNeAt.str_none a t'⟩
   |bl b=>cases r';exact⟨ab0 a t' b,SeqAt.RcAt.str_bool a t' b,SeqAt.RcNeAt.str_bool a t' b⟩
   |int b=>obtain⟨t,rfl⟩:=r';exact⟨abn a t' b t,SeqAt.RcAt.str_int a t' b t,SeqAt.RcNeAt.str_int a t' b t⟩
   |str b=>obtain⟨t,rfl⟩:=r';exact⟨ab6 a t' b t,SeqAt.RcAt.str_str a t' b t,SeqAt.RcNeAt.str_str a t' b t⟩
   |tup h' rr=>cases r';obtain⟨aI,_,pt,_⟩:=I.tuple h';exact⟨SeqAt.EqAt.str_tuple a t' pt d3,SeqAt.RcAt.str_tuple a t' pt d3,SeqAt.RcNeAt.str_tuple a t' pt d3⟩
   |lst h' rr=>cases r';obtain⟨aI,_,pt,_⟩:=I.list (zD _ _ _ _ h');exact⟨SeqAt.EqAt.str_list a t' pt.isList d3,SeqAt.RcAt.str_list a t' pt.isList d3,SeqAt.RcNeAt.str_list a t' pt.isList d3⟩
  | @tup _ p xs ds h rs =>
   cases r;obtain⟨aI,rv,pt,_⟩:=I.tuple h;have pt:s.heap.IsTuple p aI.toArray:=pt;cases h' with
   |cy _ _=>cases fq
   |bu=>cases r';exact⟨SeqAt.EqAt.tuple_none pt d3,SeqAt.RcAt.tuple_none pt d3,SeqAt.RcNeAt.tuple_none pt d3⟩
   |bl b=>cases r';exact⟨SeqAt.EqAt.tuple_bool b pt d3,SeqAt.RcAt.tuple_bool b pt d3,SeqAt.RcNeAt.tuple_bool b pt d3⟩
   |int b=>obtain⟨t,rfl⟩:=r';exact⟨SeqAt.EqAt.tuple_int b t pt d3,SeqAt.RcAt.tuple_int b t pt d3,SeqAt.RcNeAt.tuple_int b t pt d3⟩
   |str b=>obtain⟨t,rfl⟩:=r';exact⟨SeqAt.EqAt.tuple_str b t pt d3,SeqAt.RcAt.tuple_str b t pt d3,SeqAt.RcNeAt.tuple_str b t pt d3⟩
   |lst h' rr=>cases r';obtain⟨its',_,pl,_⟩:=I.list (zD _ _ _ _ h');exact⟨SeqAt.EqAt.tuple_list pt pl.isList d3,SeqAt.RcAt.tuple_list pt pl.isList d3,SeqAt.RcNeAt.tuple_list pt pl.isList d3⟩
   | @tup _ p' xs' ds' h' iw =>
    cases r';obtain⟨m,hm,Mc⟩:=dO ho;obtain rfl:n=m:=by left
    obtain⟨m,hm,o9⟩:=dO fq;obtain rfl:n=m:=by left
    obtain⟨its',zZ,Rf,_⟩:=I.tuple h';have Rf:s.heap.IsTuple p' its'.toArray:=Rf;have key:=sub rs iw Mc o9 rv zZ;have l1:ds.length=aI.toArray.size:=by rw[List.size_toArray,<- rs.length,rv.length]
    have l2:ds'.length=its'.toArray.size:=by rw[List.size_toArray,<- iw.length,zZ.length]
    have rc:SeqAt.RcAt A s (.ref p) (.ref p') (ia (.tup ds) (.tup ds')):=by
     have:=SeqAt.RcAt.tuples pt Rf d3 key;rw[<- l1,<- l2,jO]at this;exact this
    refine⟨?_,rc,?_⟩
    ·by_cases hp:p=p'
     ·subst hp;rw[AL I hN zD (n+1) (Rep.tup h rs) (Rep.tup h' iw) ho fq];exact abj _
     ·exact SeqAt.EqAt.of_refs hp rc
    ·have:=SeqAt.RcNeAt.tuples pt Rf d3 key;rw[<- l1,<- l2,jO]at this;exact this
  | @lst _ p xs f ds h rs =>
   cases r;obtain⟨aI,rv,pl,_⟩:=I.list (hN _ _ _ _ h);have pl:=pl.isList;cases h' with
   |cy _ _=>cases fq
   |bu=>cases r';exact⟨SeqAt.EqAt.list_none pl d3,SeqAt.RcAt.list_none pl d3,SeqAt.RcNeAt.list_none pl d3⟩
   |bl b=>cases r';exact⟨SeqAt.EqAt.list_bool b pl d3,SeqAt.RcAt.list_bool b pl d3,SeqAt.RcNeAt.list_bool b pl d3⟩
   |int b=>obtain⟨t,rfl⟩:=r';exact⟨SeqAt.EqAt.list_int b t pl d3,SeqAt.RcAt.list_int b t pl d3,SeqAt.RcNeAt.list_int b t pl d3⟩
   |str b=>obtain⟨t,rfl⟩:=r';exact⟨SeqAt.EqAt.list_str b t pl d3,SeqAt.RcAt.list_str b t pl d3,SeqAt.RcNeAt.list_str b t pl d3⟩
   |tup h' rr=>cases r';obtain⟨its',_,pt,_⟩:=I.tuple h';exact⟨SeqAt.EqAt.list_tuple pl pt d3,SeqAt.RcAt.list_tuple pl pt d3,SeqAt.RcNeAt.list_tuple pl pt d3⟩
   | @lst _ p' xs' f' ds' h' iw =>
    cases r';obtain⟨m,hm,Mc⟩:=dP ho;obtain rfl:n=m:=by left
    obtain⟨m,hm,o9⟩:=dP fq;obtain rfl:n=m:=by left
    obtain⟨its',zZ,DH,_⟩:=I.list (zD _ _ _ _ h');have DH:=DH.isList;have key:=sub rs iw Mc o9 rv zZ;have l1:ds.length=aI.toArray.size:=by rw[List.size_toArray,<- rs.length,rv.length]
    have l2:ds'.length=its'.toArray.size:=by rw[List.size_toArray,<- iw.length,zZ.length]
    have two:SeqAt.RcAt A s (.ref p) (.ref p') (ia (.lst f ds) (.lst f' ds'))/\SeqAt.RcNeAt A s (.ref p) (.ref p') (!ia (.lst f ds) (.lst f' ds')):=by
     show SeqAt.RcAt A s (.ref p) (.ref p') (fO ds ds')/\SeqAt.RcNeAt A s (.ref p) (.ref p') (!fO ds ds');rw[<- jO];by_cases hl:ds.length=ds'.length
     ·have e1:(ds.length==ds'.length)=true:=by simp[hl]
      rw[e1,Bool.and_true,<- hl,Nat.min_self];have hz:aI.toArray.size=its'.toArray.size:=by rw[<- l1,<- l2,hl]
      refine⟨?_,?_⟩
      ·have:=SeqAt.RcAt.lists pl DH hz d3 key;rw[<- l1]at this;exact this
      ·have:=SeqAt.RcNeAt.lists pl DH hz d3 key;rw[<- l1]at this;exact this
     ·have e1:(ds.length==ds'.length)=false:=by simp[hl]
      rw[e1,Bool.and_false];have hz:(aI.toArray.size != its'.toArray.size)=true:=by rw[<- l1,<- l2];simp[hl]
      exact⟨SeqAt.RcAt.lists_lengths pl DH hz d3,SeqAt.RcNeAt.lists_lengths pl DH hz d3⟩
    refine⟨?_,two.1,two.2⟩;by_cases hp:p=p'
    ·subst hp;rw[AL I hN zD (n+1) (Rep.lst h rs) (Rep.lst h' iw) ho fq];exact abj _
    ·exact SeqAt.EqAt.of_refs hp two.1
  |cy _ _=>cases ho
end
structure Px where
 pe:Nat->Scope->aj->Expr->Option (av)
 pi:Nat->Scope->aj->Expr->Option (av)
 pm:Nat->Scope->aj->Stmt->Option (Expr×av)
structure Sx where
 sc:Scope
 N:aj
 fn:Nat->Option Str
 bl:aj
 cs:List (Str×GK)
 px:Px
noncomputable def NU:GC->Operator
 |.add=>.Add|.sub=>.Sub|.mul=>.Mult|.fdiv=>.FloorDiv|.mod=>.Mod|.pow=>.Pow|.shl=>.LShift|.shr=>.RShift|.band=>.BitAnd
noncomputable def TN:Ab->CmpOp
 |.eq=>.Eq|.ne=>.NotEq|.lt=>.Lt|.le=>.LtE|.gt=>.Gt|.ge=>.GtE|.pF=>.IsNot|.Hb=>.In
noncomputable def tyName:Ty->String
 |.int=>"int" |.bool=>"bool" |.str=>"str" |.list=>"list" |.tuple=>"tuple"
noncomputable def sy:Bf->String
 |.len=>"len" |.abs=>"abs" |.vP=>"int" |.list1=>"list" |.tuple1=>"tuple" |.lZ=>"sum" |.all1=>"all" |.gY=>"sorted"
noncomputable def HL(sc:Scope)(x:Str):Bool:=decide (sc.names.lookup x=some .local)||decide (sc.names.lookup x=some .cell)||decide (sc.names.lookup x=some .free)
noncomputable def iI(sc:Scope)(x:Str):Bool:=decide (sc.names.lookup x=some .globalImplicit)
noncomputable def ma(x:Str):Bool:=!(x==("__debug__" : Str))&&!(x==("__classdict__" : Str))&&decide (x≠("__name__" : Str))
noncomputable def iP:Expr->Bool
 |.Set _ _ _=>false
 |_=>true
noncomputable def tL(sc outer:Scope):Scope :=
 { sc with names:=sc.names.map λ(n,k)=>if (k==.free&&outer.kind==.function&&outer.names.lookup n==some .cell)then(n,.cell)else(n,k) }
noncomputable def cw:Expr->aj
 |.Name x _=>[x]
 |.Tuple es _ _=>es.filterMap λe=>match e with|.Name x _=>some x|_=>none
 |_=>[]
noncomputable def gk(S:Sx)(caps:aN):aj:=caps.filterMap λi=>S.N[i]?
def Sx.inner(S:Sx)(target:Expr)(caps:aN)(sc:Scope):Sx:=⟨tL sc S.sc,cw target++gk S caps,S.fn,S.bl,S.cs,S.px⟩
noncomputable def hJ:Expr->Bool
 |.Tuple _ _ _=>true
 |_=>false
noncomputable def isNm(e:Expr):Bool:=decide (e.ctorIdx=23)
theorem mE{e:Expr}(h:isNm e=true):∃x p,e=.Name x p:=Expr.Name.elim (motive_1:=λe=>∃x p,e=.Name x p) e (aab h) λx p=>⟨x,p,rfl⟩
noncomputable def Y4:Expr->Bool
 |.Name ..=>true
 |.Call ..=>true
 |.BinOp ..=>true
 |.Subscript ..=>true
 |.Compare ..=>true
 |.Dict ..=>true
 |_=>false
noncomputable def Rj:Expr->Bool
 |.Call ..=>true
 |.Name ..=>true
 |_=>false
theorem aD{a b:Bool}(h:(a&&b)=true):a=true/\b=true:=by
 cases a<;>cases b<;>first|exact⟨rfl,rfl⟩|cases h
noncomputable def br{α:Type}(o:Option α)(f:α->Bool):Bool:=match o with
 |some a=>f a
 |none=>false
theorem bj{α:Type}{o:Option α}{f:α->Bool}(h:br o f=true):∃a,o=some a/\f a=true:=by
 cases o with
 |some a=>exact⟨a,rfl,h⟩
 |none=>cases h
theorem dI{α:Type}{c:Prop}[Decidable c]{f:c->Option α}{x:α}(h:(if h:c then f h else none)=some x):∃k:c,f k=some x:=by
 by_cases k:c
 ·rw[dif_pos k]at h;exact⟨k,h⟩
 ·rw[dif_neg k]at h;cases h
theorem bT{α β:Type}{o:Option α}{f:α->Option β}{b:β}(h:o.bind f=some b):∃a,o=some a/\f a=some b:=Option.bind_eq_some_iff.mp h
theorem gT{α:Type}{c:Prop}[Decidable c]{o:Option α}{b:α}(h:(if c then o else none)=some b):c/\o=some b:=by
 by_cases k:c
 ·rw[if_pos k]at h;exact⟨k,h⟩
 ·rw[if_neg k]at h;cases h
noncomputable def vC(e:Expr):Option Const:=if h:e.ctorIdx=19 then Expr.Constant.elim (motive_1:=λ_=>Option Const) e h (λc _ _=>some c)else none
theorem wO{e:Expr}{c:Const}(h:vC e=some c):∃j p,e=.Constant c j p:=by
 obtain⟨k,h⟩:=dI h;exact Expr.Constant.elim (motive_1:=λe=>∀k:e.ctorIdx=19,Expr.Constant.elim (motive_1:=λ_=>Option Const) e k (λc _ _=>some c)=some c->∃j p,e=.Constant c j p) e k (λ_ _ _ _ h=>by cases h;exact⟨_,_,rfl⟩) k h
noncomputable def BV:Const->Bool
 |.none=>true
 |_=>false
theorem zf{c:Const}(h:BV c=true):c=.none:=by cases c<;>first|rfl|cases h
noncomputable def Ha(b:Bool):Const->Bool
 |.bool c=>decide (b=c)
 |_=>false
theorem BX{b:Bool}{c:Const}(h:Ha b c=true):c=.bool b:=by cases c<;>first | (cases h;done)|rw[of_decide_eq_true h]
noncomputable def BW(b:Int):Const->Bool
 |.int c=>decide (b=c)
 |_=>false
theorem zg{b:Int}{c:Const}(h:BW b c=true):c=.int b:=by cases c<;>first | (cases h;done)|rw[of_decide_eq_true h]
noncomputable def BU(b:Str):Const->Bool
 |.str c=>decide (b=c)
 |_=>false
theorem ze{b:Str}{c:Const}(h:BU b c=true):c=.str b:=by cases c<;>first | (cases h;done)|rw[of_decide_eq_true h]
noncomputable def HQ(e:Expr):Option Str:=if h:e.ctorIdx=23 then Expr.Name.elim (motive_1:=λ_=>Option Str) e h (λx _=>some x)else none
theorem jH{e:Expr}{x:Str}(h:HQ e=some x):∃p,e=.Name x p:=by
 obtain⟨k,h⟩:=dI h;exact Expr.Name.elim (motive_1:=λe=>∀k:e.ctorIdx=23,Expr.Name.elim (motive_1:=λ_=>Option Str) e k (λx _=>some x)=some x->∃p,e=.Name x p) e k (λ_ _ _ h=>by cases h;exact⟨_,rfl⟩) k h
noncomputable def MM(e:Expr):Option (Expr×Operator×Expr):=if h:e.ctorIdx=2 then Expr.BinOp.elim (motive_1:=λ_=>Option (Expr×Operator×Expr)) e h (λl o r _=>some (l,o,r))else none
theorem D9{e l r:Expr}{o:Operator}(h:MM e=some (l,o,r)):∃p,e=.BinOp l o r p:=by
 obtain⟨k,h⟩:=dI h;exact Expr.BinOp.elim (motive_1:=λe=>∀k:e.ctorIdx=2,Expr.BinOp.elim (motive_1:=λ_=>Option (Expr×Operator×Expr)) e k (λl o r _=>some (l,o,r))=some (l,o,r)->∃p,e=.BinOp l o r p) e k (λ_ _ _ _ _ h=>by cases h;exact⟨_,rfl⟩) k h
noncomputable def Sq(e:Expr):Option (UnaryOp×Expr):=if h:e.ctorIdx=3 then Expr.UnaryOp.elim (motive_1:=λ_=>Option (UnaryOp×Expr)) e h (λo e _=>some (o,e))else none
theorem Ah{e x:Expr}{o:UnaryOp}(h:Sq e=some (o,x)):∃p,e=.UnaryOp o x p:=by
 obtain⟨k,h⟩:=dI h;exact Expr.UnaryOp.elim (motive_1:=λe=>∀k:e.ctorIdx=3,Expr.UnaryOp.elim (motive_1:=λ_=>Option (UnaryOp×Expr)) e k (λo e _=>some (o,e))=some (o,x)->∃p,e=.UnaryOp o x p) e k (λ_ _ _ _ h=>by cases h;exact⟨_,rfl⟩) k h
noncomputable def vBool(e:Expr):Option (BoolOp×av):=if h:e.ctorIdx=0 then Expr.BoolOp.elim (motive_1:=λ_=>Option (BoolOp×av)) e h (λo vs _=>some (o,vs))else none
theorem sR{e:Expr}{o:BoolOp}{vs:av}(h:vBool e=some (o,vs)):∃p,e=.BoolOp o vs p:=by
 obtain⟨k,h⟩:=dI h;exact Expr.BoolOp.elim (motive_1:=λe=>∀k:e.ctorIdx=0,Expr.BoolOp.elim (motive_1:=λ_=>Option (BoolOp×av)) e k (λo vs _=>some (o,vs))=some (o,vs)->∃p,e=.BoolOp o vs p) e k (λ_ _ _ _ h=>by cases h;exact⟨_,rfl⟩) k h
noncomputable def Yi(e:Expr):Option (Expr×Expr×Expr):=if h:e.ctorIdx=5 then Expr.IfExp.elim (motive_1:=λ_=>Option (Expr×Expr×Expr)) e h (λt x y _=>some (t,x,y))else none
theorem Sr{e t x y:Expr}(h:Yi e=some (t,x,y)):∃p,e=.IfExp t x y p:=by
 obtain⟨k,h⟩:=dI h;exact Expr.IfExp.elim (motive_1:=λe=>∀k:e.ctorIdx=5,Expr.IfExp.elim (motive_1:=λ_=>Option (Expr×Expr×Expr)) e k (λt x y _=>some (t,x,y))=some (t,x,y)->∃p,e=.IfExp t x y p) e k (λ_ _ _ _ _ h=>by cases h;exact⟨_,rfl⟩) k h
noncomputable def one{α:Type}:List α->Option α
 |[]=>none
 |x::xs=>match xs with
  |[]=>some x
  |_::_=>none
theorem bI{α:Type}{l:List α}{x:α}(h:one l=some x):l=[x]:=by
 cases l with
 |nil=>cases h
 |cons y ys=>cases ys with
  |nil=>cases h;rfl
  |cons _ _=>cases h
def two{α:Type}:List α->Option (α×α)
 |[]=>none
 |x::xs=>(one xs).map λy=>(x,y)
theorem fD{α:Type}{l:List α}{x y:α}(h:two l=some (x,y)):l=[x,y]:=by
 cases l with
 |nil=>cases h
 |cons z zs=>cases zs with
  |nil=>cases h
  |cons w ws=>cases ws with
   |nil=>cases h;rfl
   |cons _ _=>cases h
noncomputable def Sv{α:Type}:List α->Option (α×List α)
 |[]=>none
 |x::xs=>some (x,xs)
theorem uY{α:Type}{l xs:List α}{x:α}(h:Sv l=some (x,xs)):l=x::xs:=by
 cases l with
 |nil=>cases h
 |cons y ys=>cases h;rfl
noncomputable def yF(e:Expr):Option (Expr×List CmpOp×av):=if h:e.ctorIdx=15 then Expr.Compare.elim (motive_1:=λ_=>Option (Expr×List CmpOp×av)) e h (λl os rs _=>some (l,os,rs))else none
theorem mq{e l:Expr}{os:List CmpOp}{rs:av}(h:yF e=some (l,os,rs)):∃p,e=.Compare l os rs p:=by
 obtain⟨k,h⟩:=dI h;exact Expr.Compare.elim (motive_1:=λe=>∀k:e.ctorIdx=15,Expr.Compare.elim (motive_1:=λ_=>Option (Expr×List CmpOp×av)) e k (λl os rs _=>some (l,os,rs))=some (l,os,rs)->∃p,e=.Compare l os rs p) e k (λ_ _ _ _ _ h=>by cases h;exact⟨_,rfl⟩) k h
noncomputable def Ak(e:Expr):Option (Expr×av×List Keyword):=if h:e.ctorIdx=16 then Expr.Call.elim (motive_1:=λ_=>Option (Expr×av×List Keyword)) e h (λf as ks _=>some (f,as,ks))else none
theorem yG{e f:Expr}{as:av}{ks:List Keyword}(h:Ak e=some (f,as,ks)):∃p,e=.Call f as ks p:=by
 obtain⟨k,h⟩:=dI h;exact Expr.Call.elim (motive_1:=λe=>∀k:e.ctorIdx=16,Expr.Call.elim (motive_1:=λ_=>Option (Expr×av×List Keyword)) e k (λf as ks _=>some (f,as,ks))=some (f,as,ks)->∃p,e=.Call f as ks p) e k (λ_ _ _ _ _ h=>by cases h;exact⟨_,rfl⟩) k h
def eR(e:Expr):Option (Str×av):=(Ak e).bind λz=>if z.2.2.isEmpty=true then(HQ z.1).bind λx=>some (x,z.2.1)else none
theorem N0{α:Type}{l:List α}(h:l.isEmpty=true):l=[]:=List.isEmpty_iff.mp h
theorem b6{e:Expr}{x:Str}{as:av}(h:eR e=some (x,as)):∃p pos,e=.Call (.Name x p) as [] pos:=by
 obtain⟨⟨f,QK,ks⟩,hv,h⟩:=bT h;obtain⟨hc,h⟩:=gT h;obtain⟨y,hn,h⟩:=bT h;cases h;obtain⟨pos,rfl⟩:=yG hv;obtain⟨p,rfl⟩:=jH hn;obtain rfl:=N0 hc;exact⟨p,pos,rfl⟩
noncomputable def sQ(e:Expr):Option (Expr×Expr):=if h:e.ctorIdx=21 then Expr.Subscript.elim (motive_1:=λ_=>Option (Expr×Expr)) e h (λa b _=>some (a,b))else none
theorem gU{e a b:Expr}(h:sQ e=some (a,b)):∃p,e=.Subscript a b p:=by
 obtain⟨k,h⟩:=dI h;exact Expr.Subscript.elim (motive_1:=λe=>∀k:e.ctorIdx=21,Expr.Subscript.elim (motive_1:=λ_=>Option (Expr×Expr)) e k (λa b _=>some (a,b))=some (a,b)->∃p,e=.Subscript a b p) e k (λ_ _ _ _ h=>by cases h;exact⟨_,rfl⟩) k h
noncomputable def yE(e:Expr):Option (av):=if h:e.ctorIdx=25 then Expr.Tuple.elim (motive_1:=λ_=>Option (av)) e h (λes _ _=>some es)else none
theorem jb{e:Expr}{es:av}(h:yE e=some es):∃n p,e=.Tuple es n p:=by
 obtain⟨k,h⟩:=dI h;exact Expr.Tuple.elim (motive_1:=λe=>∀k:e.ctorIdx=25,Expr.Tuple.elim (motive_1:=λ_=>Option (av)) e k (λes _ _=>some es)=some es->∃n p,e=.Tuple es n p) e k (λ_ _ _ _ h=>by cases h;exact⟨_,_,rfl⟩) k h
noncomputable def MK(e:Expr):Option (av):=if h:e.ctorIdx=24 then Expr.List.elim (motive_1:=λ_=>Option (av)) e h (λes _=>some es)else none
theorem wN{e:Expr}{es:av}(h:MK e=some es):∃p,e=.List es p:=by
 obtain⟨k,h⟩:=dI h;exact Expr.List.elim (motive_1:=λe=>∀k:e.ctorIdx=24,Expr.List.elim (motive_1:=λ_=>Option (av)) e k (λes _=>some es)=some es->∃p,e=.List es p) e k (λ_ _ _ h=>by cases h;exact⟨_,rfl⟩) k h
noncomputable def GH(e:Expr):Option (Expr×List Comprehension×Scope):=if h:e.ctorIdx=8 then Expr.ListComp.elim (motive_1:=λ_=>Option (Expr×List Comprehension×Scope)) e h (λe gs sc _=>some (e,gs,sc))else none
theorem Aj{e x:Expr}{gs:List Comprehension}{sc:Scope}(h:GH e=some (x,gs,sc)):∃p,e=.ListComp x gs sc p:=by
 obtain⟨k,h⟩:=dI h;exact Expr.ListComp.elim (motive_1:=λe=>∀k:e.ctorIdx=8,Expr.ListComp.elim (motive_1:=λ_=>Option (Expr×List Comprehension×Scope)) e k (λe gs sc _=>some (e,gs,sc))=some (x,gs,sc)->∃p,e=.ListComp x gs sc p) e k (λ_ _ _ _ _ h=>by cases h;exact⟨_,rfl⟩) k h
theorem fm{a:Bool}(h:(!a)=true):a=false:=by cases a<;>first|rfl|cases h
def sk(S:Sx)(n:Nat)(t:Tg)(caps:aN)(target:Expr)(sc:Scope):Bool :=
 decide (sc.kind=.function)&&sc.names.all (λ(x,k)=>decide (k≠.cell)&&(decide (k≠.local)||decide (sc.names.lookup x=some .local))&&(decide (k≠.free)||decide (S.sc.names.lookup x=some .cell)||decide (S.sc.names.lookup x=some .free))) &&
 decide (n=(cw target).length)&&(cw target).all (λx=>decide (sc.names.lookup x=some .local))&&decide (cw target++gk S caps).Nodup &&
 caps.all (λi=>match S.N[i]? with|some x=>decide (sc.names.lookup x=some .free)|none=>false) &&
 (match t with
  |.nm i=>decide (i=0)&&isNm target
  |.tp is=>br (yE target) λes=>decide (is=List.range es.length)&&es.all isNm)
mutual
noncomputable def bV(S:Sx):CE->Expr->Bool
 |.bU p es,e0=>Y4 e0&&br (S.px.pe p S.sc S.bl e0) λxs=>bM S es xs
 |.bu,e0=>br (vC e0) λc=>BV c
 |.bl b,e0=>br (vC e0) λc=>Ha b c
 |.int i,e0=>br (vC e0) λc=>BW i c
 |.str s,e0=>br (vC e0) λc=>BU s c
 |.v i,e0=>br (HQ e0) λx=>decide (S.N[i]?=some x)&&HL S.sc x&&ma x
 |.glo x i,e0=>br (HQ e0) λy=>decide (y=x)&&iI S.sc x&&decide ((x,GK.i i)∈S.cs)&&!(x==("__debug__" : Str))
 |.bin op a b,e0=>br (MM e0) λz=>decide (z.2.1=NU op)&&bV S a z.1&&bV S b z.2.2
 |.neg a,e0=>br (Sq e0) λz=>decide (z.1=.USub)&&bV S a z.2
 |.not a,e0=>br (Sq e0) λz=>decide (z.1=.Not)&&bV S a z.2
 |.and es,e0=>br (vBool e0) λz=>decide (z.1=.And)&&bM S es z.2
 |.or es,e0=>br (vBool e0) λz=>decide (z.1=.Or)&&bM S es z.2
 |.cmp op a b,e0=>br (yF e0) λz=>decide (z.2.1=[TN op])&&bV S a z.1&&br (one z.2.2) λr=>bV S b r&&iP r
 |.o8 a t,e0=>br (eR e0) λz=>decide (z.1=("isinstance" : Str))&&iI S.sc z.1&&decide (z.1∈S.bl)&&br (two z.2) λy=>bV S a y.1&&br (HQ y.2) λx=>decide (x=(tyName t:Str))&&iI S.sc x&&decide (x∈S.bl)
 |.call f es,e0=>br (eR e0) λz=>decide (S.fn f=some z.1)&&iI S.sc z.1&&ma z.1&&br (Sv z.2) λy=>bM S es (y.1::y.2)
 |.bf f es,e0=>br (eR e0) λz=>decide (z.1=(sy f:Str))&&iI S.sc z.1&&decide (z.1∈S.bl)&&br (Sv z.2) λy=>bM S es (y.1::y.2)
 |.kh a,e0=>br (eR e0) λz=>decide (z.1=("len" : Str))&&iI S.sc z.1&&decide (z.1∈S.bl)&&br (one z.2) λy=>br (eR y) λw=>decide (w.1=("set" : Str))&&iI S.sc w.1&&decide (w.1∈S.bl)&&br (one w.2) λu=>bV S a u
 |.ix a b,e0=>br (sQ e0) λz=>bV S a z.1&&bV S b z.2
 |.tup es,e0=>br (yE e0) λxs=>bM S es xs&&decide (es.length<=1000)
 |.lst es,e0=>br (MK e0) λxs=>bM S es xs&&decide (es.length<=1000)
 |.comp n t caps ik es bH elt,e0=>br (GH e0) λz=>br (one z.2.1) λg=>decide (g.is_async=0)&&sk S n t caps g.target z.2.2&&iP g.iter&&decide (bH.length<=1)&&bM (S.inner g.target caps z.2.2) bH g.ifs&&bV (S.inner g.target caps z.2.2) elt z.1 &&
     (match ik with
      |.jZ=>br (eR g.iter) λw=>decide (w.1=("range" : Str))&&iI S.sc w.1&&decide (w.1∈S.bl)&&br (one w.2) λy=>bM S es [y]
      |.l9=>br (eR g.iter) λw=>decide (w.1=("range" : Str))&&iI S.sc w.1&&decide (w.1∈S.bl)&&br (two w.2) λy=>bM S es [y.1,y.2]
      |.seq=>bM S es [g.iter]
      |.bU p=>Rj g.iter&&(decide (1100<=p)||hJ g.target)&&br (S.px.pi p S.sc S.bl g.iter) λxs=>bM S es xs)
noncomputable def bM(S:Sx):az->av->Bool
 |[],es=>match es with
  |[]=>true
  |_::_=>false
 |c::cs,es=>match es with
  |[]=>false
  |e::es=>bV S c e&&bM S cs es
end
def Ek(K:ao)(n:Nat)(m:aH):Sp:=λvs H Q _=>∃(F:ah) (ds:aa) (r:D),vs.length=n/\aC (aW K H) (nd K F (λ_=>False) (λ_=>none) H) [] 0 vs ds/\m ds=ok r /\
 ∀v H',aK H H'->(∃τt:Addr->Option bo,(∀p q,τt p=some q->H p=none)/\Rep (aW K H') (nd K (λp=>F p\/H p=none) (λ_=>False) τt H') [] v r)->Q v H'
structure LO(X:Cx)(k:Nat)(x:Str)(m:aH):Prop where
 ex:∃(f:Addr) (fd:FuncData) (ps:aj),gQ X.prog X.w X.K X.mg X.base zX k f fd ps (Ek X.K ps.length m)/\X.mg x=some (.ref f)/\PySem.W.keepIn X.K (.ref f)=true/\Binds X.K fd ps []/\∀ds r,m ds=ok r->ds.length=ps.length
noncomputable def kinds:List String:=["NoneType","bool","int","str","list","tuple","dict"]
def OD:Ty->String->Bool
 |.int,s=>s == "int" ||s == "bool"
 |t,s=>s==tyName t
theorem aK.upd{H:Hp}{p:Addr}{o:HO}(h:H p=none):aK H (upd H p o):=λb u e=>by
 rw[ba (by rintro rfl;rw[h]at e;cases e)];exact e
theorem By{i j:Int}(h:iA i j=true):IntMulOk i j:=by
 unfold iA at h;simp only[Bool.or_eq_true,Bool.and_eq_true,decide_eq_true_eq]at h;rcases h with (h|h)|⟨h1,h2⟩
 ·exact .of_left (intBits_le h)
 ·exact .of_right (intBits_le h)
 ·have b1:Builtin.Int.intBits i<=9000:=intBits_le h1;have b2:Builtin.Int.intBits j<=9000:=intBits_le h2;unfold IntMulOk;have hb:Builtin.Int.intTooBig ((Builtin.Int.intBits i:Int)+(Builtin.Int.intBits j:Int))=false:=by
   unfold Builtin.Int.intTooBig;have:(bitsLine:Int)=134217728:=by decide
   exact aaD (by left)
  rw[hb];simp
section
variable {K:ao}{R:ah}{τ τt:Addr->Option bo}{fv:aN}{H H':Hp}
theorem EW:js X (binaryOp .Add) (λx y H Q=>∃a b xs ys,x=.ref a/\y=.ref b/\aW X.K H a xs/\aW X.K H b ys/\xs.length+ys.length<=sizeLine/\(xs=[]->Q (.ref b) H)/\(ys=[]->Q (.ref a) H)/\∀p,H p=none->Q (.ref p) (upd H p (.tup (xs++ys)))):=by
 intro pins s σ H x y v u Q I rx ry h;obtain⟨a,b,xs,ys,rfl,rfl,ha,hb,hz,q0,q1,q2⟩:=h;cases rx;cases ry;by_cases hx:xs=[]
 ·subst hx;obtain⟨aI,r1,p1,_⟩:=I.tuple ha;obtain⟨rF,r2,p2,_⟩:=I.tuple hb;cases r1;obtain⟨⟨cls,dd,data,sl⟩,ho,hc,n,hd⟩:=id p1;obtain⟨⟨C0,rZ,data2,p7⟩,o9,sL,n2,hd2⟩:=id p2;simp only at hc hd sL hd2;subst hc hd sL hd2;exact concat_meets ⟨_,ho,rfl⟩ ⟨_,o9,rfl⟩ noFill_tuple_add seq_tuple_add abA abx (abq _ _)
   (tuple_addW0 a b [].toArray rF.toArray n n2 dd rZ sl p7 rfl) ⟨ho,o9,⟨.ref b,H,I,rfl,q0 rfl⟩⟩
 ·exact EV pins s σ H (.ref a) (.ref b) _ _ Q I rfl rfl ⟨a,b,xs,ys,rfl,rfl,ha,hb,hx,hz,q1,λ_=>q2⟩
theorem nd.oq(k k':bo)(p:Addr)(xs:Nd)(f:Fl)(h:nd K R A (λ_=>none) H k p xs f):nd K R A (λ_=>none) H k' p xs f:=by
 cases f with
 |ow=>exact nomatch h.2
 |fz=>exact h
 |al=>exact h
 |sc=>exact h
theorem N1(Si:SI X F R τ ρ σ H)(fr:∀p q,τt p=some q->H p=none)(k k':bo)(p:Addr)(xs:Nd)(f:Fl)(h:nd K R (jD (gP X F) τ fv) τt H' k p xs f):
  nd K R (jD (gP X F) τ fv) (λ_=>none) H' k' p xs (aO f):=by
 cases f with
 |ow=>exact⟨h.1,.inr (Si.same.free (fr p _ h.2)),λc i e=>absurd (fr p _ h.2) (Si.th p _ e)⟩
 |fz=>exact h
 |al=>exact h
 |sc=>exact h
theorem aC.fT{k:bo}{n:Nat}(h:aC (aW K H') (nd K R (jD (gP X F) τ fv) τt H') k n xs ds)(Si:SI X F R τ ρ σ H)(fr:∀p q,τt p=some q->H p=none){n':Nat}:
  aC (aW K H') (nd K R (jD (gP X F) τ fv) (λ_=>none) H') k' n' xs (au aO ds):=aC.g_ (λ_ _ h=>h) (N1 Si fr) h _ _
theorem Rep.fT{k:bo}{v:V}{d:D}(h:Rep (aW K H') (nd K R (jD (gP X F) τ fv) τt H') k v d)(Si:SI X F R τ ρ σ H)(fr:∀p q,τt p=some q->H p=none):
  Rep (aW K H') (nd K R (jD (gP X F) τ fv) (λ_=>none) H') k' v (aw aO d):=Rep.g_ (λ_ _ h=>h) (N1 Si fr) h _
theorem aC.rep{A:ah}{xs:af}{ds:aa}(h:aC (aW K H) (nd K R A (λ_=>none) H) [] 0 xs (au aO ds)):∀n:Nat,aC (aW K H) (nd K R A (λ_=>none) H) [] 0 (List.replicate n xs).flatten (au aO (List.replicate n ds).flatten)
 |0=>.nil
 |n+1=>by
  rw[List.replicate_succ,List.replicate_succ,List.flatten_cons,List.flatten_cons,aM,List.map_append,<- aM,<- aM];exact aC.mW nd.oq h (aC.rep h n)
theorem b_.rb{p:Addr}(hp:H p=none)(e:aK H H')(hl:H' p=some (.lst xs))(r:aC (aW K H') (nd K R (jD G τ fv) (λ_=>none) H') [] 0 xs ds):b_ K G R τ fv H H' (.ref p) (.lst .ow ds):=by
 refine⟨λq=>if q=p then some []else none,λq k hq=>?_,.lst ⟨hl,by simp⟩ (r.imp (λ_ _ h=>h) λc q xs f h=>?_)⟩
 ·by_cases vT:q=p
  ·subst vT;exact hp
  ·simp[vT]at hq
 ·cases f with
  |ow=>exact nomatch h.2
  |fz=>exact h
  |al=>exact h
  |sc=>exact h
end
theorem Fm(K:ao):∀t:Ty,∀s∈kinds,PySem.W.kitOne K (.type s) (.type (tyName t))=some (OD t s):=by
 intro t s hs;simp only[kinds,List.mem_cons,List.not_mem_nil,or_false]at hs;cases t<;>rcases hs with rfl|rfl|rfl|rfl|rfl|rfl|rfl<;>rfl
structure PX(X:Cx)(sc:Scope)(bl:aj)(k:Nat):Prop where
 sc:X.env.scope=sc
 calm:X.calm=true
 room:fY k X.A
 bl:∀x∈bl,X.mg x=none
theorem PX.gl{sc:Scope}{bl:aj}{k:Nat}(L:PX X sc bl k){x:Str}(h:iI sc x=true):Gl X x:=by
 unfold Gl;show X.env.scope.names.lookup x=some .globalImplicit;rw[L.sc];exact aab h
def lT(X:Cx)(F:ah)(Φ:bh):az->av->Prop
 |[],[]=>True
 |c::cs,a::as=>PE X a (tD X F Φ c)/\(∀es,starEach (a::es) X.env=(false,eval a X.env)::starEach es X.env)/\mY a/\lT X F Φ cs as
 |_,_=>False
structure qG(K:ao)(H2:Hp)(vs:af)(xs:aa)(H':Hp):Prop where
 n0:∃R0:ah,aC (aW K H2) (nd K R0 (λ_=>False) (λ_=>none) H2) [] 0 vs (au aL xs)/\∀p o,R0 p->H2 p=some o->H' p=some o
 tp:∀a ys,aW K H2 a ys->aW K H' a ys
structure Mu(K:ao)(J:It)(H2:Hp)(vs:af)(xs items:aa):Prop where
 go:∀i H' R',qG K H2 vs xs H'->aC (aW K H') (nd K R' (λ_=>False) (λ_=>none) H') [] 0 vs (au aL xs)->i<items.length->J.go i H'
 uN:∀i H' R' x jG,qG K H2 vs xs H'->aC (aW K H') (nd K R' (λ_=>False) (λ_=>none) H') [] 0 vs (au aL xs)->i<items.length->J.uN i H' x jG->aK H' jG/\∃d,items[i]?=some d/\Rep (aW K jG) (nd K R' (λ_=>False) (λ_=>none) jG) [] x d
 stop:∀i H' R',qG K H2 vs xs H'->aC (aW K H') (nd K R' (λ_=>False) (λ_=>none) H') [] 0 vs (au aL xs)->items.length<=i->J.stop i H'
structure pO(px:Px)(Φ:bh):Prop where
 e:∀(X:Cx) (sc:Scope) (bl:aj) (k:Nat),PX X sc bl k->∀(p:Nat) (e:Expr) (args:av),px.pe p sc bl e=some args->∀(F:ah) (cs:az),lT X F Φ cs args->PE X e (tD X F Φ (.bU p cs))/\PT X e (fZ X F Φ (.bU p cs))
 i:∀(X:Cx) (sc:Scope) (bl:aj) (k:Nat),PX X sc bl k->∀(p:Nat) (e:Expr) (args:av),px.pi p sc bl e=some args->∀(F:ah) (cs:az) (tg:Expr),(decide (1100<=p)||hJ tg)=true->lT X F Φ cs args ->
  ∀(pins:ak) (s:Shared) (σ:St) (H:Hp) (R:ah) (τ:Addr->Option bo) (ρ:a_) (xs:aa) (d:D) (items:aa),Inv X pins σ H s->SI X F R τ ρ σ H->bK Φ cs ρ=ok xs->Φ p xs=ok d->pw d=ok items->∀Rr:It->Hp->Prop,
   (∀J H2 vs,aK H H2->cF X.K (gP X F) R τ (cO cs) H H2 vs xs->Mu X.K J H2 vs xs items->Rr J H2) ->
   wpAny (model X.prog X.w) X.A (eval e X.env) (λv s1=>wpAny (model X.prog X.w) X.A (pyIter v) (Aa X pins σ tg Rr) X.xe s1) X.xe s
def yA(K:ao):GK->Value->Prop
 |.i i,u=>RelV (.int i) u
structure Lk(X:Cx)(S:Sx)(k:Nat)(Φ:bh):Prop where
 sc:X.env.scope=S.sc
 N:X.N=S.N
 nd:X.N.Nodup
 calm:X.calm=true
 room:fY k X.A
 bl:∀x∈S.bl,X.mg x=none
 fn:∀f x,S.fn f=some x->LO X k x (Φ f)
 cs:∀x i,(x,i)∈S.cs->∃u,X.mg x=some u/\yA X.K i u
 pr:pO S.px Φ
variable {S:Sx}{Φ:bh}
theorem Lk.pX{k:Nat}(L:Lk X S k Φ):PX X S.sc S.bl k:=⟨L.sc,L.calm,L.room,L.bl⟩
variable {Q:VK}{zj p' p1 p2 pos pos':Pos}
section
variable {X:Cx}{S:Sx}{k:Nat}{F:ah}{Φ:bh}
theorem Lk.gl(L:Lk X S k Φ){x:Str}(h:iI S.sc x=true):Gl X x:=by
 unfold Gl;show X.env.scope.names.lookup x=some .globalImplicit;rw[L.sc];exact aab h
theorem Lk.QV(L:Lk X S k Φ){x:Str}(h:HL S.sc x=true):HA X.env.scope x:=by
 unfold HA;rw[L.sc];unfold HL at h;rw[Bool.or_eq_true,Bool.or_eq_true]at h;rcases h with (h|h)|h
 ·exact .inl (aab h)
 ·exact .inr (.inl (aab h))
 ·exact .inr (.inr (aab h))
theorem tD.intro{c:CE}{d:D}(Si:SI X F R τ ρ σ H)(e:bp Φ c ρ=ok d)(h:∀v H',aK H H'->b_ X.K (gP X F) R τ (iJ c) H H' v d->Q v H'):tD X F Φ c σ H Q:=⟨R,τ,ρ,d,Si,e,h⟩
theorem Tc(L:Lk X S k Φ){i:Nat}{x:Str}(h:bV S (.v i) (.Name x pos)=true):PE X (.Name x pos) (tD X F Φ (.v i)):=by
 replace h:=aD h;replace h:=And.intro (aD h.1) h.2;obtain⟨⟨h1,h2⟩,h3⟩:=h;unfold ma at h3;simp only[Bool.and_eq_true,Bool.not_eq_true']at h3;refine PE.imp (nK (i:=i) (by rw[L.N];exact aab h1) (L.QV h2) h3.1.1 h3.1.2) λσ H Q hq=>?_;obtain⟨R,τ,ρ,d,Si,ev,hq⟩:=hq;obtain⟨d',hd,rfl⟩:=AJ ev
 ·obtain⟨v,hv,hr⟩:=Si.rep i d' hd;refine⟨v,hv,hq v H (aK.refl H) ⟨λ_=>none,λ_ _ h=>by simp at h,?_⟩⟩;refine Rep.map (q:=[i]) (q':=[]) (λ_ _ h=>h) (λc p xs f h=>?_) hr [] rfl;cases f with
  |ow =>
   refine⟨h.1,.inr (Si.t0 p _ h.2),λc' j e=>?_⟩;rw[h.2]at e;have e':=aao e;have:=aaN List.getLast? e';simp at this;show _∈[i];simp[this]
  |fz=>exact h
  |al=>exact h.2.elim
  |sc=>exact h
theorem ic{op:GC}{x y d:D}(O1:op≠.add/\op≠.mul)(h:bZ op x y=ok d):∃i j,x=.int i/\y=.int j:=by
 cases x with
 |int i=>cases y with
  |int j=>exact⟨i,j,rfl,rfl⟩
  |_=>cases op<;>first|exact nk h | (simp at O1;done)
 |_=>cases op<;>first|exact nk h | (simp at O1;done)
theorem IF(L:Lk X S k Φ){op:GC}{a b:CE}{l r:Expr}(ha:PE X l (tD X F Φ a))(hb:PE X r (tD X F Φ b)):PE X (.BinOp l (NU op) r pos) (tD X F Φ (.bin op a b)):=by
 have two:∀{σ:St} {H:Hp} {Q:VK} {r2:R2},(∃R τ ρ d,SI X F R τ ρ σ H/\bp Φ (.bin op a b) ρ=ok d/\(∀v H',aK H H'->b_ X.K (gP X F) R τ (iJ (.bin op a b)) H H' v d->Q v H') /\
   ∀x y v u H',bZ op x y=ok d->aK H H'->b_ X.K (gP X F) R τ (iJ (.bin op a b)) H H' v x->b_ X.K (gP X F) R τ (iJ (.bin op a b)) H H' u y->r2 v u H' Q)->DG r2 (tD X F Φ a) (tD X F Φ b) σ H Q:=by
  rintro σ H Q r2 ⟨R,τ,ρ,d,Si,ev,hq,hr⟩;obtain⟨x,ex,ev⟩:=aB ev;obtain⟨y,ey,ev⟩:=aB ev;refine tD.intro Si ex λv H1 e1 r1=>tD.intro (Si.go e1) ey λu H2 e2 r2=>?_;exact hr x y v u H2 ev (e1.trans e2) ((r1.go e2).mono λi hi=>aat _ hi) ((r2.old e1).mono λi hi=>aam _ hi)
 have t6:∀{C:Int->Int->Prop} {g:Int->Int->Int},js X (binaryOp (NU op)) (rI C λi j=>.int (g i j))->(∀x y d,bZ op x y=ok d->∃i j,x=.int i/\y=.int j/\C i j/\d=.int (g i j)) ->
   PE X (.BinOp l (NU op) r pos) (tD X F Φ (.bin op a b)):=by
  intro C g ho hd;refine PE.imp (GX ho ha hb) λσ H Q hq=>?_;obtain⟨R,τ,ρ,d,Si,ev,hq⟩:=hq;refine two ⟨R,τ,ρ,d,Si,ev,hq,λx y v u H' eb e rv ru=>?_⟩;obtain⟨i,j,rfl,rfl,c,rfl⟩:=hd x y d eb;exact⟨i,j,rv.isInt,ru.isInt,c,hq _ H' e .int⟩
 cases op with
 |sub =>
  refine t6 (C:=λ_ _=>True) (g:=λi j=>i - j) (G0 λ_ _ _ _ _ _ _ _ q=>sub_int q) λx y d h=>?_;obtain⟨i,j,rfl,rfl⟩:=ic (by simp) h;cases h;exact⟨_,_,rfl,rfl,trivial,rfl⟩
 |mod =>
  refine t6 (C:=λ_ j=>j≠0) (g:=λi j=>i.fmod j) EU λx y d h=>?_;obtain⟨i,j,rfl,rfl⟩:=ic (by simp) h;obtain⟨h1,h⟩:=lI h;subst h;exact⟨_,_,rfl,rfl,h1,rfl⟩
 |fdiv =>
  refine t6 (C:=λ_ j=>qx j=true) (g:=λi j=>i.fdiv j) (G0 λi j _ _ _ _ _ hc q=>?_) λx y d h=>?_
  ·unfold qx at hc;rw[Bool.and_eq_true]at hc;have h1:j≠0:=aab hc.1;have h2:j.natAbs<big:=aab hc.2;exact floordiv_int h1 q (.inl (PyProof.noPylong_of_log2 ((Nat.log2_lt (by left)).mpr h2)))
  ·obtain⟨i,j,rfl,rfl⟩:=ic (by simp) h;obtain⟨h1,h⟩:=lI h;subst h;exact⟨_,_,rfl,rfl,h1,rfl⟩
 |pow =>
  refine t6 (C:=λi j=>jw i j=true) (g:=λi j=>i ^ j.toNat) (G0 λi j _ _ _ _ _ hc q=>?_) λx y d h=>?_
  ·unfold jw at hc;simp only[Bool.and_eq_true,decide_eq_true_eq]at hc;exact pow_int_small hc.1.1 hc.1.2 hc.2 q
  ·obtain⟨i,j,rfl,rfl⟩:=ic (by simp) h;obtain⟨h1,h⟩:=lI h;subst h;exact⟨_,_,rfl,rfl,h1,rfl⟩
 |shl =>
  refine t6 (C:=λi j=>jw i j=true) (g:=λi j=>i*2 ^ j.toNat) (G0 λi j _ _ _ _ _ hc q=>?_) λx y d h=>?_
  ·unfold jw at hc;simp only[Bool.and_eq_true,decide_eq_true_eq]at hc;exact lshift_int_small hc.1.1 hc.1.2 hc.2 q
  ·obtain⟨i,j,rfl,rfl⟩:=ic (by simp) h;obtain⟨h1,h⟩:=lI h;subst h;exact⟨_,_,rfl,rfl,h1,rfl⟩
 |shr =>
  refine t6 (C:=λ_ j=>0<=j) (g:=λi j=>i / 2 ^ j.toNat) Jp λx y d h=>?_;obtain⟨i,j,rfl,rfl⟩:=ic (by simp) h;obtain⟨h1,h⟩:=lI h;subst h;exact⟨_,_,rfl,rfl,h1,rfl⟩
 |band =>
  refine t6 (C:=λ_ j=>j=1) (g:=λi _=>i % 2) (G0 λi j _ _ _ _ _ hc q=>by subst hc;exact and_int (by rw[bitAnd_m1];exact q)) λx y d h=>?_;obtain⟨i,j,rfl,rfl⟩:=ic (by simp) h;obtain⟨h1,h⟩:=lI h;subst h;exact⟨_,_,rfl,rfl,h1,rfl⟩
 |mul =>
  have hi:js X (binaryOp .Mult) (rI (λi j=>iA i j=true) λi j=>.int (i*j)):=G0 λi j _ _ _ _ _ hc q=>mul_int q (By hc);exact t6 (C:=λi j=>iA i j=true) (g:=λi j=>i*j) hi λx y d h=>by
   obtain⟨i,j,rfl,rfl⟩:∃i j,x=.int i/\y=.int j:=by cases x<;>first | (cases h;done) | (cases y<;>first|exact⟨_,_,rfl,rfl⟩ | (cases h;done))
   obtain⟨h1,h⟩:=lI h;subst h;exact⟨_,_,rfl,rfl,h1,rfl⟩
 |add =>
  refine PE.imp (GX ((Jt.or Js).or EW) ha hb) λσ H Q hq=>?_;obtain⟨R,τ,ρ,d,Si,ev,hq⟩:=hq;refine two ⟨R,τ,ρ,d,Si,ev,hq,λx y v u H' eb e rv ru=>?_⟩;have hz:sizeLine=16777216:=aa6;have n_:eE=1000000:=rfl;cases x with
  |int i =>
   cases y with
   |int j =>
    cases eb;exact .inl (.inl ⟨i,j,rv.isInt,ru.isInt,hq _ H' e .int⟩)
   |_=>cases eb
  |lst f a =>
   cases y with
   |lst g b =>
    obtain⟨hc,eb⟩:=lI eb
    ·subst eb;obtain⟨τt,fr,rp⟩:=rv;obtain⟨Sl,Mm,Ti⟩:=ru;obtain⟨p,xs,rfl,hn,rs⟩:=rp.sO;cases Ti with
     | @lst _ p2 HH _ _ zp Ez =>
      refine .inl (.inr ⟨p,p2,xs,HH,rfl,rfl,hn.lst hc.1,zp.lst hc.2.1,by rw[rs.length,Ez.length];left,λp' uQ=>?_⟩);have es:aK H' (upd H' p' (.lst (xs++HH))):=aK.upd uQ;refine hq _ _ (e.trans es) (b_.rb (e.free uQ) (e.trans es) (aZ) ?_);rw[aM,List.map_append,<- aM,<- aM];exact(aC.mW nd.oq (n:=0) (m:=0) (rs.fT Si fr) (Ez.fT Si Mm)).imp (λ_ _ h=>aW.same es h) λ_ _ _ _ h=>nd.same es h
   |_=>cases eb
  |tup a =>
   cases y with
   |tup b =>
    obtain⟨hc,eb⟩:=lI eb;subst eb;obtain⟨τt,fr,rp⟩:=rv;obtain⟨Sl,Mm,Ti⟩:=ru;cases rp with
    | @tup _ p xs _ hn rs =>
     cases Ti with
     | @tup _ p2 HH _ zp Ez =>
      have hl:=rs.length;have z7:=Ez.length;refine .inr ⟨p,p2,xs,HH,rfl,rfl,hn,zp,by rw[hl,z7];left,λz=>?_,λz=>?_,λp' uQ=>?_⟩
      ·subst z;cases rs;exact hq _ H' e ⟨λ_=>none,λ_ _ h=>by simp at h,.tup zp (Ez.fT Si Mm)⟩
      ·subst z;cases Ez;refine hq _ H' e ⟨λ_=>none,λ_ _ h=>by simp at h,.tup hn ?_⟩;rw[List.append_nil];exact rs.fT Si fr
      ·have es:aK H' (upd H' p' (.tup (xs++HH))):=aK.upd uQ;refine hq _ _ (e.trans es) ⟨λ_=>none,λ_ _ h=>by simp at h,.tup (aW.of aZ) ?_⟩;rw[aM,List.map_append,<- aM,<- aM];exact(aC.mW nd.oq (n:=0) (m:=0) (rs.fT Si fr) (Ez.fT Si Mm)).imp (λ_ _ h=>aW.same es h) λ_ _ _ _ h=>nd.same es h
   |_=>cases eb
  |_=>cases y<;>cases eb
end
section
variable {T T':kJ}{N N':fc}{P:Fl->Bool}
theorem Rep.without(hT:∀p xs,T p xs->T' p xs)(hN:∀k k' p xs f,P f=false->N k p xs f->N' k' p xs f){k:bo}{v:V}{d:D}(h:Rep T N k v d)(e:aY P d=false)(k':bo):Rep T' N' k' v d:=by
 have:=Rep.gen (g:=id) (P:=P) (N':=N') (C:=λ_ _=>True) (I:=λ_ _=>True) hT trivial (λ_ _ e=>e) (λ_ _ _ _ e _=>e) (λk k' p xs f _ e h=>hN k k' p xs f e h) h (k':=k') trivial e;rw[eJ]at this;exact this
theorem aC.without(hT:∀p xs,T p xs->T' p xs)(hN:∀k k' p xs f,P f=false->N k p xs f->N' k' p xs f){k:bo}{n:Nat}(h:aC T N k n vs ds)(e:aP P ds=false)(k':bo)(n':Nat):aC T' N' k' n' vs ds:=by
 have:=aC.gen (g:=id) (P:=P) (N':=N') (C:=λ_ _=>True) (I:=λ_ _=>True) hT trivial (λ_ _ e=>e) (λ_ _ _ _ e _=>e) (λk k' p xs f _ e h=>hN k k' p xs f e h) h (k':=k') (n':=n') trivial trivial e;rw[d4]at this;exact this
theorem Rep.j4(hT:∀p xs,T p xs->T' p xs)(hN:∀k p xs f,P f=false->N k p xs f->N' k p xs f){k:bo}{v:V}{d:D}(h:Rep T N k v d)(e:aY P d=false):Rep T' N' k v d:=by
 have:=Rep.gen (g:=id) (P:=P) (N':=N') (C:=λa b=>a=b) (I:=λa b=>a=b) hT rfl (λ_ _ e=>by rw[e]) (λ_ _ _ _ a b=>by rw[a,b]) (λk k' p xs f c e h=>by subst c;exact hN k p xs f e h) h rfl e;rw[eJ]at this;exact this
theorem aC.j4(hT:∀p xs,T p xs->T' p xs)(hN:∀k p xs f,P f=false->N k p xs f->N' k p xs f){k:bo}{n:Nat}(h:aC T N k n vs ds)(e:aP P ds=false):aC T' N' k n vs ds:=by
 have:=aC.gen (g:=id) (P:=P) (N':=N') (C:=λa b=>a=b) (I:=λa b=>a=b) hT rfl (λ_ _ e=>by rw[e]) (λ_ _ _ _ a b=>by rw[a,b]) (λk k' p xs f c e h=>by subst c;exact hN k p xs f e h) h rfl rfl e;rw[d4]at this;exact this
end
theorem Rep.rz{k:bo}{v:V}{d:D}(h:Rep (aW K H) (nd K R (λ_=>False) (λ_=>none) H) k v d):Rep (aW K H) (nd K R (λ_=>False) (λ_=>none) H) k' v d:=by
 have:=Rep.g_ (g:=id) (λ_ _ h=>h) nd.oq h k';rw[eJ]at this;exact this
def gO(X:Cx)(R:ah)(τ:Addr->Option bo)(H:Hp)(v:V)(d:D):Prop :=
 ∃τt:Addr->Option bo,(∀p q,τt p=some q->τ p=none/\¬ R p/\X.H₀ p=none/\H p≠none)/\Rep (aW X.K H) (nd X.K R (λ_=>False) τt H) [] v d
section
variable {X:Cx}{F R:ah}{τ:Addr->Option bo}{ρ:a_}{σ:St}{H H':Hp}
noncomputable def ve(i:Nat)(τt τ:Addr->Option bo):Addr->Option bo:=λp=>match τt p with|some q=>some (q++[i])|none=>τ p
theorem SI.Nf{i:Nat}{v:V}{d:D}(Si:SI X F R τ ρ σ H)(ht:∀p q,τt p=some q->τ p=none/\¬ R p/\X.H₀ p=none/\H p≠none)(rp:Rep (aW X.K H) (nd X.K R (λ_=>False) τt H) [] v d)(hi:i<ρ.length):SI X F R (ve i τt τ) (ρ.set i (some d)) (σ.set i (some v)) H:=by
 refine⟨by simp[Si.len],λj d' hj=>?_,λp hp=>?_,Si.rh,Si.rf,λp q hq=>?_,λp q hq=>?_,Si.same⟩
 ·by_cases jy:j=i
  ·subst jy;rw[List.getElem?_set_self hi]at hj;cases hj;refine⟨v,List.getElem?_set_self (by rw[<- Si.len];exact hi),rp.imp (q':=[j]) (λ_ _ h=>h) λc p xs f h=>?_⟩;cases f with
   |ow=>rw[List.append_nil]at h;exact⟨h.1,by simp only[ve,h.2]⟩
   |fz=>exact h
   |al=>exact h
   |sc=>exact h
  ·rw[List.getElem?_set_ne (Ne.symm jy)]at hj;obtain⟨w,hw,lE⟩:=Si.rep j d' hj;refine⟨w,by rw[List.getElem?_set_ne (Ne.symm jy)];exact hw,lE.imp (λ_ _ h=>h) λc p xs f h=>?_⟩;cases f with
   |ow =>
    refine⟨h.1,?_⟩;cases q:τt p with
    |none=>simp only[ve,q];exact h.2
    |some k=>have:=(ht p k q).1;rw[h.2]at this;cases this
   |fz=>exact h
   |al=>exact h
   |sc=>exact h
 ·cases q:τt p with
  |none=>simp only[ve,q];exact Si.rt p hp
  |some k=>exact absurd hp (ht p k q).2.1
 ·cases z:τt p with
  |none=>simp only[ve,z]at hq;exact Si.th p q hq
  |some k=>exact(ht p k z).2.2.2
 ·cases z:τt p with
  |none=>simp only[ve,z]at hq;exact Si.t0 p q hq
  |some k=>exact(ht p k z).2.2.1
theorem SI.set{i:Nat}{v:V}{d:D}(Si:SI X F R τ ρ σ H)(r:gO X R τ H v d)(hi:i<ρ.length):∃τ',SI X F R τ' (ρ.set i (some d)) (σ.set i (some v)) H:=by
 obtain⟨τt,ht,rp⟩:=r;exact⟨_,Si.Nf ht rp hi⟩
theorem zu{k:bo}{v:V}{d:D}(h:Rep (aW X.K H) (nd X.K R (λ_=>False) τ H) k v d)(ho:aY dW d=false):gO X R τ H v d :=
 ⟨λ_=>none,λ_ _ h=>by simp at h,Rep.without (P:=dW) (λ_ _ h=>h) (λk k' p xs f hf h=>by
  cases f with
  |ow=>cases hf
  |fz=>exact h
  |al=>exact h.2.elim
  |sc=>exact h) h ho _⟩
open Classical in
theorem SI.move{i:Nat}{d:D}(Si:SI X F R τ ρ σ H)(hd:ρ[i]?=some (some d)):∃v τ',σ[i]?=some (some v)/\SI X F R τ' (ρ.set i none) σ H/\gO X R τ' H v d:=by
 obtain⟨v,hv,rp⟩:=Si.rep i d hd;refine⟨v,λp=>match τ p with|some q=>if q.getLast?=some i then none else some q|none=>none,hv,⟨by simp[Si.len],λj d' hj=>?_,λp hp=>?_,Si.rh,Si.rf,λp q hq=>?_,λp q hq=>?_,Si.same⟩,
  λp=>match τ p with|some q=>if q.getLast?=some i then(if H p=none then none else some q.dropLast)else none|none=>none,λp q hq=>?_,rp.imp (q:=[i]) (q':=[]) (λ_ _ h=>h) λc p xs f h=>?_⟩
 ·by_cases jy:j=i
  ·subst jy;rw[List.getElem?_set]at hj;simp at hj
  ·rw[List.getElem?_set_ne (Ne.symm jy)]at hj;obtain⟨w,hw,lE⟩:=Si.rep j d' hj;refine⟨w,hw,lE.imp (q:=[j]) (q':=[j]) (λ_ _ h=>h) λc p xs f h=>?_⟩;cases f with
   |ow =>
    refine⟨h.1,?_⟩;simp only[h.2];rw[if_neg (by simp;exact jy)]
   |fz=>exact h
   |al=>exact h
   |sc=>exact h
 ·simp only[Si.rt p hp]
 ·cases z:τ p with
  |none=>simp only[z]at hq;cases hq
  |some k=>exact Si.th p k z
 ·cases z:τ p with
  |none=>simp only[z]at hq;cases hq
  |some k=>exact Si.t0 p k z
 ·cases z:τ p with
  |none=>simp only[z]at hq;cases hq
  |some k =>
   simp only[z]at hq ⊢;by_cases hl:k.getLast?=some i
   ·rw[if_pos hl];exact⟨rfl,(λhR=>by have:=Si.rt p hR;rw[z]at this;cases this),Si.t0 p k z,Si.th p k z⟩
   ·rw[if_neg hl]at hq;cases hq
 ·cases f with
  |ow =>
   refine⟨h.1,?_⟩;have hn:H p≠none:=h.1.ne;simp only[h.2];rw[if_pos (by simp),if_neg hn];simp
  |fz=>exact h
  |al=>exact h.2.elim
  |sc=>exact h
theorem x6(is:aN)(ρ:a_)(j:Nat)(d:D)(h:(gF is ρ)[j]?=some (some d)):∃d',ρ[j]?=some (some d')/\d=(if j∈is then aw aL d' else d'):=by
 unfold gF at h;rw[List.getElem?_mapIdx]at h;cases q:ρ[j]? with
 |none=>rw[q]at h;exact nk h
 |some o =>
  rw[q]at h;cases o with
  |none=>simp at h
  |some d' =>
   refine⟨d',rfl,?_⟩;by_cases hj:j∈is
   ·simp[hj]at h ⊢;exact h.symm
   ·simp[hj]at h ⊢;exact h.symm
open Classical in
theorem x8(Si:SI X F R τ ρ σ H)(es:aK H H'):
  ∃R' τ',(∀p,R p->R' p)/\SI X F R' τ' (gF fv ρ) σ H'/\∀τt:Addr->Option bo,(∀p q,τt p=some q->H p=none)->∀(k k':bo) (p:Addr) (xs:Nd) (f:Fl),nd X.K R (jD (gP X F) τ fv) τt H' k p xs f->nd X.K R' (λ_=>False) (λ_=>none) H' k' p xs (aL f):=by
 have fb:=Si.go es;have fresh:∀p,H p=none->jD (gP X F) τ fv p:=λp hp=>⟨.inr (Si.same.free hp),λc i e=>absurd hp (Si.th p _ e)⟩
 refine⟨λp=>R p\/(H' p≠none/\jD (gP X F) τ fv p),λp=>if jD (gP X F) τ fv p then none else τ p,λp h=>.inl h,⟨by simp[gF,Si.len],λj d' hj=>?_,λp hp=>?_,λp hp=>?_,λp hp=>?_,λp q hq=>?_,λp q hq=>?_,fb.same⟩,λτt fr k k' p xs f h=>?_⟩
 ·obtain⟨d0,h0,e0⟩:=x6 _ _ _ _ hj;obtain⟨w,hw,lE⟩:=fb.rep j d0 h0;refine⟨w,hw,?_⟩;by_cases RH:j∈fv
  ·rw[if_pos RH]at e0;subst e0;refine Rep.map (q:=[j]) (q':=[j]) (λ_ _ h=>h) (λc p xs f h=>?_) lE [] rfl;cases f with
   |ow =>
    refine⟨h.1,.inr ⟨h.1.ne,.inr (Si.t0 p _ h.2),λc' i' e'=>?_⟩⟩;rw[h.2]at e';have:=aaN List.getLast? (aao e');simp at this;subst this;exact RH
   |fz=>exact⟨h.1,.inl h.2⟩
   |al=>exact h.2.elim
   |sc=>exact h
  ·rw[if_neg RH]at e0;subst e0;refine lE.imp (q:=[j]) (q':=[j]) (λ_ _ h=>h) λc p xs f h=>?_;cases f with
   |ow =>
    refine⟨h.1,?_⟩;show(if jD (gP X F) τ fv p then none else τ p)=some (c++[j]);rw[if_neg (λz=>RH (z.2 c j h.2))];exact h.2
   |fz=>exact⟨h.1,.inl h.2⟩
   |al=>exact h.2.elim
   |sc=>exact h
 ·rcases hp with hp|hp
  ·simp only[Si.rt p hp];split<;>rfl
  ·rw[if_pos hp.2]
 ·rcases hp with hp|hp
  ·exact fb.rh p hp
  ·exact hp.1
 ·rcases hp with hp|hp
  ·exact Si.rf p hp
  ·exact hp.2.1
 ·split at hq
  ·cases hq
  ·exact fb.th p q hq
 ·split at hq
  ·cases hq
  ·exact Si.t0 p q hq
 ·cases f with
  |ow=>exact⟨h.1,.inr ⟨h.1.ne,fresh p (fr p _ h.2)⟩⟩
  |fz=>exact⟨h.1,.inl h.2⟩
  |al=>exact⟨h.1,.inr ⟨h.1.ne,h.2⟩⟩
  |sc=>exact h
theorem rQ{v:V}{d:D}(Si:SI X F R τ ρ σ H)(es:aK H H')(r:b_ X.K (gP X F) R τ fv H H' v d):
  ∃R' τ',(∀p,R p->R' p)/\SI X F R' τ' (gF fv ρ) σ H'/\Rep (aW X.K H') (nd X.K R' (λ_=>False) (λ_=>none) H') [] v (aw aL d):=by
 obtain⟨τt,fr,rp⟩:=r;obtain⟨R',τ',h1,h2,h3⟩:=x8 (fv:=fv) Si es;exact⟨R',τ',h1,h2,Rep.g_ (λ_ _ h=>h) (h3 τt fr) rp _⟩
theorem oo(Si:SI X F R τ ρ σ H)(es:aK H H')(r:cF X.K (gP X F) R τ fv H H' vs ds):
  ∃R' τ',(∀p,R p->R' p)/\SI X F R' τ' (gF fv ρ) σ H'/\aC (aW X.K H') (nd X.K R' (λ_=>False) (λ_=>none) H') [] 0 vs (au aL ds):=by
 obtain⟨τt,fr,rp⟩:=r;obtain⟨R',τ',h1,h2,h3⟩:=x8 (fv:=fv) Si es;exact⟨R',τ',h1,h2,aC.g_ (λ_ _ h=>h) (h3 τt fr) rp _ _⟩
theorem mx{v:V}{d:D}(h:Rep (aW X.K H) (nd X.K R (λ_=>False) (λ_=>none) H) [] v d):gO X R τ' H v d:=⟨λ_=>none,λ_ _ h=>by simp at h,h⟩
open Classical in
theorem G9{e:CE}{v:V}{d:D}(Si:SI X F R τ ρ σ H)(es:aK H H')(r:b_ X.K (gP X F) R τ (iJ e) H H' v d):
  ∃R' τ',(∀p,R p->R' p)/\SI X F R' τ' (keep e d ρ).2 σ H'/\gO X R' τ' H' v (keep e d ρ).1:=by
 unfold keep;by_cases ha:aY bN d=true
 ·rw[if_pos ha];obtain⟨R',τ',h1,h2,h3⟩:=rQ Si es r;exact⟨R',τ',h1,h2,mx h3⟩
 ·obtain⟨τt,fr,rp⟩:=r;rw[if_neg ha];refine⟨R,τ,λ_ h=>h,Si.go es,λp=>if H' p=none then none else τt p,λp q hq=>?_,?_⟩
  ·dsimp only at hq;split at hq
   ·cases hq
   ·rename_i hn;have hf:=fr p q hq;refine⟨?_,λhR=>Si.rh p hR hf,Si.same.free hf,hn⟩;cases z:τ p with
    |none=>rfl
    |some k=>exact absurd hf (Si.th p k z)
  ·have RM:aY bN d=false:=by simpa using ha
   have st:∀{k:bo} {v:V} {d:D},Rep (aW X.K H') (nd X.K R (jD (gP X F) τ (iJ e)) τt H') k v d->aY bN d=false->Rep (aW X.K H') (nd X.K R (λ_=>False) (λp=>if H' p=none then none else τt p) H') k v d:=by
    intro k v d h ha;exact Rep.j4 (P:=bN) (λ_ _ h=>h) (λk p xs f hf h=>by
     cases f with
     |ow=>exact⟨h.1,by show(if H' p=none then none else τt p)=_;rw[if_neg (h.1.ne)];exact h.2⟩
     |fz=>exact h
     |al=>cases hf
     |sc=>exact h) h ha
   exact st rp RM
open Classical in
def tK(X:Cx)(F:ah)(Φ:bh)(c:CE):TE:=λσ H Q=>∃R τ ρ r,SI X F R τ ρ σ H/\iK Φ c ρ=ok r/\∀v H' R' τ',aK H H'->(∀p,R p->R' p)->SI X F R' τ' r.2 σ H'->gO X R' τ' H' v r.1->Q v H'
end
theorem jQ{env:Env}:∀(names:List (Str×NameKind)) (acc:List (Str×Addr)),(∀x,(x,NameKind.free)∈names->∃c,env.cells.lookup x=some c) ->
  ∃cl,(forIn names acc (λ(y:Str×NameKind) (cs:List (Str×Addr))=>do
    let (name,kind):=y
    let mut cs:=cs
    if kind==.free then cs:=(name,<- cellOf env name)::cs
    pure (ForInStep.yield cs)):Sem (List (Str×Addr)))=pure cl /\
   (∀x c,cl.lookup x=some c->acc.lookup x=some c\/(env.cells.lookup x=some c/\(x,NameKind.free)∈names))/\(∀x,((x,NameKind.free)∈names\/(∃c,acc.lookup x=some c))->∃c,cl.lookup x=some c)
 |[],acc,_=>⟨acc,rfl,λx c h=>.inl h,λx h=>h.elim (λh=>nomatch h) id⟩
 | (n,kd)::names,acc,h=>by
  by_cases hk:kd=.free
  ·subst hk;obtain⟨c,hc⟩:=h n aah;obtain⟨cl,e,h1,h2⟩:=jQ names ((n,c)::acc) (λx hx=>h x (aag _ hx));refine⟨cl,?_,λx c' hx=>?_,λx hx=>?_⟩
   ·rw[List.forIn_cons];have e0:cellOf env n=pure c:=by unfold cellOf;rw[hc]
    simp only[beq_self_eq_true,if_true,e0,pure_bind];exact e
   ·rcases h1 x c' hx with z|z
    ·by_cases OL:x=n
     ·subst OL;simp at z;subst z;exact .inr ⟨hc,aah⟩
     ·rw[List.lookup_cons]at z;have:(x==n)=false:=by simpa using OL
      rw[this]at z;exact .inl z
    ·exact .inr ⟨z.1,aag _ z.2⟩
   ·refine h2 x ?_;rcases hx with hx|⟨c',hx⟩
    ·rcases List.mem_cons.mp hx with z|z
     ·cases z;exact .inr ⟨c,by simp⟩
     ·exact .inl z
    ·by_cases OL:x=n
     ·subst OL;exact .inr ⟨c,by simp⟩
     ·refine .inr ⟨c',?_⟩;rw[List.lookup_cons];have:(x==n)=false:=by simpa using OL
      rw[this];exact hx
  ·obtain⟨cl,e,h1,h2⟩:=jQ names acc (λx hx=>h x (aag _ hx));have hb:(kd==NameKind.free)=false:=by simpa using hk
   refine⟨cl,?_,λx c' hx=>(h1 x c' hx).imp id λz=>⟨z.1,aag _ z.2⟩,λx hx=>h2 x ?_⟩
   ·rw[List.forIn_cons];simp only[hb,Bool.false_eq_true,if_false,pure_bind];exact e
   ·rcases hx with hx|hx
    ·rcases List.mem_cons.mp hx with z|z
     ·cases z;exact absurd rfl hk
     ·exact .inl z
    ·exact .inr hx
variable {env:Env}
theorem wo{sc:Scope}(h:∀x,(x,NameKind.free)∈sc.names->∃c,env.cells.lookup x=some c):
  ∃cl,closureFor sc env=pure cl/\(∀x c,cl.lookup x=some c->env.cells.lookup x=some c)/\(∀x,(x,NameKind.free)∈sc.names->∃c,cl.lookup x=some c):=by
 obtain⟨cl,e,h1,h2⟩:=jQ (env:=env) sc.names [] h;refine⟨cl,?_,λx c hx=>(h1 x c hx).elim (λz=>by simp at z) (·.1),λx hx=>h2 x (.inl hx)⟩;unfold closureFor;simp only[bind_pure];exact e
variable {P prog:aE}{e1 e2 jr iter o target tg value:Expr}{w:World}
theorem r9{A:aG}{R:Result->Shared->Prop}{s:Shared}{elt:Expr}{ifs:av}{scope:Scope}{it acc:Value}(I:Nat->Shared->Prop)
  (turn:∀n s,I n s->wpAny (model prog w) A (pyNext it) (λr s₁=>match r with
   |none=>R (.ok .next) s₁
   |some v=>wpAny (model prog w) A (letOwnedTupleGo target it v) (λ_ s₁=>wpAny (model prog w) A (assign target env v) (λ_ s₂ =>
     wpAny (model prog w) A (forIn ifs true λc r=>if r=true then do let ok <- isTrue c env (eval c env);pure (ForInStep.yield ok)else pure (ForInStep.yield r)) (λok s₃ =>
      if ok=true then wpAny (model prog w) A (eval elt env) (λx s₄ =>
       wpAny (model prog w) A (call (.builtin "list.append") [acc,x]) (λ_ s₅=>∃m,m<n/\I m s₅) (λ_ _=>False) s₄) (λ_ _=>False) s₃
      else ∃m,m<n/\I m s₃) (λ_ _=>False) s₂) (λ_ _=>False) s₁) (λ_ _=>False) s₁) (λ_ _=>False) s)
  (n:Nat) (h:I n s) :
  codeAny (model prog w) A (.compLoop (.ListComp elt [⟨target,iter,ifs,0⟩] scope pos) 0 it acc env) R s:=by
 refine codeAny_loop rfl I (λn s hI=>?_) n h;show wpAny _ A ((compTurn (.ListComp elt [⟨target,iter,ifs,0⟩] scope pos) 0 it acc env).onRaise (λx=>do noteFrame x env;theTreesLotGoes x)) _ _ s;refine wpAny_noted ?_;rw[compTurn_list];refine aaa (ab_ (aaa (aau (turn n s hI) (λr s₁ h₁=>?_) λ_ _ h'=>h'.elim)));cases r with
 |none=>exact aad h₁
 |some v =>
  refine aaa (aau h₁ (λ_ s₂ h₂=>?_) λ_ _ h'=>h'.elim);refine aaa (aau h₂ (λ_ s₂ h₂=>aaa (aau h₂ (λok s₃ h₃=>?_) λ_ _ h'=>h'.elim)) λ_ _ h'=>h'.elim);cases ok with
  |false=>exact aad ⟨rfl,h₃⟩
  |true =>
   exact aaa (aaa (aau h₃ (λx s₄ h₄=>aaa (aau h₄ (λ_ s₅ h₅=>aad (aad ⟨rfl,h₅⟩)) λ_ _ h'=>h'.elim)) λ_ _ h'=>h'.elim))
noncomputable def eF(X:Cx)(N':aj)(scope:Scope)(cl:List (Str×Addr))(C:Addr)(s₀:Shared)(H₀:Hp)(fp:bc):Cx :=
 { X with N:=N',s₀:=s₀,H₀:=H₀,env:=compEnvC scope cl C X.env,outer:=X.stack,stack:=X.stack,ex:=fp,fn:=λ_=>false,pn:=[],xe:=λ_ _=>False }
theorem fJ{env:Env}:∀{names:List (Str×NameKind)} {x:Str} {kd:NameKind},(names.map λ(n,k)=>if (k==NameKind.free&&env.scope.kind==.function&&env.kindOf n==some .cell)then(n,NameKind.cell)else(n,k)).lookup x=some kd ->
  names.lookup x=some kd\/(kd=.cell/\names.lookup x=some .free)
 |[],_,_,h=>by simp at h
 | (n,k)::r,x,kd,h=>by
  rw[List.map_cons]at h;cases hx:x==n with
  |true =>
   by_cases hc:(k==NameKind.free&&env.scope.kind==.function&&env.kindOf n==some .cell)=true
   ·simp only[hc,if_true,List.lookup_cons,hx]at h;cases h;simp only[Bool.and_eq_true,beq_iff_eq]at hc;refine .inr ⟨rfl,?_⟩;rw[List.lookup_cons,hx,hc.1.1]
   ·have xT:(k==NameKind.free&&env.scope.kind==.function&&env.kindOf n==some .cell)=false:=by simpa using hc
    simp only[xT,Bool.false_eq_true,if_false,List.lookup_cons,hx]at h;cases h;exact .inl (by rw[List.lookup_cons,hx])
  |false =>
   have:List.lookup x (r.map λ(n,k)=>if (k==NameKind.free&&env.scope.kind==.function&&env.kindOf n==some .cell)then(n,NameKind.cell)else(n,k))=some kd:=by
    by_cases hc:(k==NameKind.free&&env.scope.kind==.function&&env.kindOf n==some .cell)=true
    ·simp only[hc,if_true,List.lookup_cons,hx]at h;exact h
    ·have xT:(k==NameKind.free&&env.scope.kind==.function&&env.kindOf n==some .cell)=false:=by simpa using hc
     simp only[xT,Bool.false_eq_true,if_false,List.lookup_cons,hx]at h;exact h
   rw[List.lookup_cons,hx];exact fJ this
theorem dD{env:Env}:∀{names:List (Str×NameKind)} {x:Str},names.lookup x=some .free ->
  (names.map λ(n,k)=>if (k==NameKind.free&&env.scope.kind==.function&&env.kindOf n==some .cell)then(n,NameKind.cell)else(n,k)).lookup x=some .free \/
  (names.map λ(n,k)=>if (k==NameKind.free&&env.scope.kind==.function&&env.kindOf n==some .cell)then(n,NameKind.cell)else(n,k)).lookup x=some .cell
 |[],_,h=>by simp at h
 | (n,k)::r,x,h=>by
  rw[List.map_cons];cases hx:x==n with
  |true =>
   rw[List.lookup_cons,hx]at h;cases h;by_cases hc:(NameKind.free==NameKind.free&&env.scope.kind==.function&&env.kindOf n==some .cell)=true
   ·simp only[hc,if_true,List.lookup_cons,hx];exact .inr trivial
   ·have xT:(NameKind.free==NameKind.free&&env.scope.kind==.function&&env.kindOf n==some .cell)=false:=by simpa using hc
    simp only[xT,Bool.false_eq_true,if_false,List.lookup_cons,hx];exact .inl trivial
  |false =>
   rw[List.lookup_cons,hx]at h;by_cases hc:(k==NameKind.free&&env.scope.kind==.function&&env.kindOf n==some .cell)=true
   ·simp only[hc,if_true,List.lookup_cons,hx];exact dD h
   ·have xT:(k==NameKind.free&&env.scope.kind==.function&&env.kindOf n==some .cell)=false:=by simpa using hc
    simp only[xT,Bool.false_eq_true,if_false,List.lookup_cons,hx];exact dD h
theorem dZ{names:List (Str×NameKind)}{x:Str}{kd:NameKind}(h:names.lookup x=some kd):(x,kd)∈names:=aaY h
structure jY(S:Sx)(n:Nat)(t:Tg)(caps:aN)(target:Expr)(sc:Scope):Prop where
 kind:sc.kind=.function
 Bu:∀y∈sc.names,y.2≠.cell
 loc:∀y∈sc.names,y.2=.local->sc.names.lookup y.1=some .local
 free:∀x,(x,NameKind.free)∈sc.names->S.sc.names.lookup x=some .cell\/S.sc.names.lookup x=some .free
 n:n=(cw target).length
 tl:∀x∈cw target,sc.names.lookup x=some .local
 nd:(cw target++gk S caps).Nodup
 eE:∀i∈caps,∃x,S.N[i]?=some x/\sc.names.lookup x=some .free
 tg:(∃x p,t=.nm 0/\target=.Name x p)\/(∃es k p,t=.tp (List.range es.length)/\target=.Tuple es k p/\es.all isNm=true)
theorem qy{n:Nat}{t:Tg}{sc:Scope}(h:sk S n t caps target sc=true):jY S n t caps target sc:=by
 unfold sk at h;simp only[Bool.and_eq_true,decide_eq_true_eq,List.all_eq_true,Bool.or_eq_true]at h;obtain⟨⟨⟨⟨⟨⟨h1,h2⟩,h3⟩,h4⟩,h5⟩,h6⟩,h7⟩:=h;refine⟨h1,λy hy=>(h2 y hy).1.1,λy hy hk=>?_,λx hx=>?_,h3,h4,h5,λi hi=>?_,?_⟩
 ·rcases(h2 y hy).1.2 with z|z
  ·exact absurd hk z
  ·exact z
 ·rcases(h2 _ hx).2 with (z|z)|z
  ·exact absurd rfl z
  ·exact .inl z
  ·exact .inr z
 ·have:=h6 i hi;split at this
  ·rename_i x e;exact⟨x,e,aab this⟩
  ·cases this
 ·cases t with
  |nm i =>
   obtain⟨g1,g2⟩:=aD h7;obtain rfl:i=0:=aab g1;obtain⟨x,p,rfl⟩:=mE g2;exact .inl ⟨x,p,rfl,rfl⟩
  |tp is =>
   obtain⟨es,hv,g⟩:=bj h7;obtain⟨k,p,rfl⟩:=jb hv;obtain⟨g1,g2⟩:=aD g;obtain rfl:is=_:=aab g1;exact .inr ⟨es,k,p,rfl,rfl,g2⟩
theorem uE{S:Sx}:∀{caps:aN},(∀i∈caps,∃x,S.N[i]?=some x)->(gk S caps).length=caps.length/\∀(j i:Nat),caps[j]?=some i->(gk S caps)[j]?=S.N[i]?
 |[],_=>⟨rfl,λj i h=>by simp at h⟩
 |i::caps,h=>by
  obtain⟨x,hx⟩:=h i aah;obtain⟨h1,h2⟩:=uE (caps:=caps) λj hj=>h j (aag _ hj);have e:gk S (i::caps)=x::gk S caps:=by unfold gk;rw[List.filterMap_cons,hx]
  rw[e];refine⟨by simp[h1],λj k hj=>?_⟩;cases j with
  |zero=>simp at hj;subst hj;simp[hx]
  |succ j=>simp at hj ⊢;exact h2 j k hj
variable {base h h' h₁:Heap}
section
variable {X:Cx}{S:Sx}{k:Nat}{Φ:bh}{pins:ak}{σ:St}{H2:Hp}{s₂:Shared}
noncomputable def pv(n:Nat)(caps:aN)(σ:St):St:=List.replicate n none++caps.map λi=>σ[i]?.getD none
noncomputable def ff(aI:ai)(n:Nat):Obj:={ cls:=.type "list",data:=.seq aI.toArray n }
theorem Gf{n:Nat}{t:Tg}{sc:Scope}{cl:List (Str×Addr)}(L:Lk X S k Φ)(co:jY S n t caps target sc)(I2:Inv X pins σ H2 s₂)
  (mh:∀x c,cl.lookup x=some c->X.env.cells.lookup x=some c) (vV:∀x,(x,NameKind.free)∈sc.names->∃c,cl.lookup x=some c) (FL:∀b∈fp,oY X pins H2 b) (Kf:∀b∈fp,b<s₂.heap.objs.size) :
  (eF X (cw target++gk S caps) sc cl (s₂.heap.objs.size+1) s₂ H2 fp).Ok:=by
 have UJ:=I2.jI;refine⟨I2.ok.mod,co.kind,I2.ok.glob,I2.ok.blt,abh _,λx y c h1 h2=>I2.ok.inj x y c (mh x c h1) (mh y c h2),λx hx=>?_,(λ_ _ z=>by cases z),I2.ok.hd,I2.ok.frames,.inl rfl,λb hb=>⟨?_,λx c e=>(FL b hb).2.2.2.2.1 x c (mh x c e)⟩,I2.bs,aas I2.ok.De I2.sz,λb o e hb=>?_,λb hb z=>?_,I2.stack,I2.j9⟩
 ·have z4:(relabel sc X.env).names.lookup x=some .cell\/(relabel sc X.env).names.lookup x=some .free:=hx;rcases z4 with z4|z4
  ·rcases fJ z4 with z|z
   ·exact absurd rfl (co.Bu _ (dZ z))
   ·exact vV x (dZ z.2)
  ·rcases fJ z4 with z|z
   ·exact vV x (dZ z)
   ·cases z.1
 ·exact aal (aaC (Kf b hb))
 ·rcases(FL b hb).2.2.2.1 with z|z
  ·exact I2.ok.tU b o e z
  ·exact absurd (aaj (aaf e) (aas I2.ok.De z)) (aax _)
 ·rcases List.mem_cons.mp (UJ b z)with w|w
  ·exact(FL b hb).2.1 w
  ·exact(FL b hb).2.2.1 w
theorem BZ{n:Nat}{t:Tg}{sc:Scope}{cl:List (Str×Addr)}{tk:Nat}(L:Lk X S k Φ)(co:jY S n t caps target sc)(I2:Inv X pins σ H2 s₂)
  (mh:∀x c,cl.lookup x=some c->X.env.cells.lookup x=some c) (vV:∀x,(x,NameKind.free)∈sc.names->∃c,cl.lookup x=some c) (FL:∀b∈fp,oY X pins H2 b) (Kf:∀b∈fp,b<s₂.heap.objs.size)
  (z6:h₁.Ns (s₂.heap.objs.size+1) λ_=>none) (old:∀b o,s₂.heap.get? b=some o->h₁.get? b=some o) (hV:h₁.get? s₂.heap.objs.size=some (ff [] 0)) :
  Inv (eF X (cw target++gk S caps) sc cl (s₂.heap.objs.size+1) s₂ H2 fp) [(s₂.heap.objs.size,ff [] 0)] (pv n caps σ) H2 { s₂ with heap:=h₁,toks:=tk }:=by
 have n_:∀i∈caps,∃x,S.N[i]?=some x:=λi hi=>let ⟨x,e,_⟩:=co.eE i hi;⟨x,e⟩;obtain⟨cl1,cl2⟩:=uE n_;refine⟨Gf L co I2 mh vV FL Kf,rfl,I2.bare,Un.kept old,⟨_,z6,λi x v e1 e2 e3=>?_⟩,λx c e=>?_,I2.cC.fresh (abh _),λx c e=>I2.fN x c (mh x c e),λp hp=>?_,I2.cC.kept old,?_⟩
 ·unfold pv at e2;have hi:n<=i:=by
   by_cases hi:i<n
   ·rw[List.getElem?_append_left (by simpa using hi),List.getElem?_replicate,if_pos hi]at e2;cases e2
   ·left
  have RZ:(cw target++gk S caps)[i]?=some x:=e1;rw[List.getElem?_append_right (by rw[<- co.n];exact hi),<- co.n]at RZ;rw[List.getElem?_append_right (by simpa using hi),List.length_replicate,List.getElem?_map]at e2;cases hc:caps[i - n]? with
  |none=>rw[hc]at e2;cases e2
  |some ci =>
   rw[hc]at e2;rw[cl2 _ _ hc]at RZ;obtain⟨x',VJ,Me⟩:=co.eE ci (aap hc);rw[VJ]at RZ;cases RZ;have e2':σ[ci]?=some (some v):=by
    have Lq:σ[ci]?.getD none=some v:=aao e2;cases q:σ[ci]? with
    |none=>rw[q]at Lq;cases Lq
    |some o=>rw[q]at Lq;simp at Lq;rw[Lq]
   have UE:HA X.env.scope x:=by
    unfold HA;rw[L.sc];rcases co.free x (dZ Me)with z|z
    ·exact .inr (.inl z)
    ·exact .inr (.inr z)
   obtain⟨m,hn,hl⟩:=I2.loc;obtain⟨u,r,lk⟩:=hl ci x v (by rw[L.N];exact VJ) e2' UE;refine⟨u,r,.inr ⟨?_,?_⟩⟩
   ·rcases dD (env:=X.env) Me with z|z
    ·exact .inr z
    ·exact .inl z
   ·have ZU:∃c,X.env.cells.lookup x=some c/\s₂.heap.IsCell c (some u):=by
     rcases lk with ⟨z,_⟩|⟨_,z⟩
     ·have z':X.env.scope.names.lookup x=some .local:=z;rw[L.sc]at z';rcases co.free x (dZ Me)with w|w<;>(rw[w]at z';cases z')
     ·exact z
    obtain⟨c,ec,o,ho,hd⟩:=ZU;obtain⟨c',XJ⟩:=vV x (dZ Me);have:=mh x c' XJ;rw[ec]at this;cases this;exact⟨c,XJ,o,old _ _ ho,hd⟩
 ·obtain⟨v,o,ho,hd⟩:=I2.cell x c (mh x c e);exact⟨v,o,old _ _ ho,hd⟩
 ·have uQ:p=(s₂.heap.objs.size,ff [] 0):=by simpa [eF]using hp
  subst uQ;refine⟨hV,I2.cC.fresh (aai _),aal (aa1 _),λz=>?_,λv z=>by cases z⟩;rcases List.mem_cons.mp (I2.jI _ z)with w|w
  ·exact absurd w (aav I2.lt)
  ·exact I2.Jz (aai _) w
 ·show(pv n caps σ).length=(cw target++gk S caps).length;unfold pv;rw[List.length_append,List.length_append,List.length_replicate,List.length_map,cl1,co.n]
end
theorem aC.snoc{T:kJ}{N:fc}{k:bo}:∀{n:Nat} {vs:af} {ds:aa} {v:V} {d:D},aC T N k n vs ds->Rep T N ((n+ds.length)::k) v d->aC T N k n (vs++[v]) (ds++[d])
 |n,_,_,_,_,.nil,h=>.cons h .nil
 |n,_,_,_,_,.cons (ds:=ds) h t,r=>.cons h (aC.snoc t (by
  have e:n+(ds.length+1)=n+1+ds.length:=by left
  rw[List.length_cons,e]at r;exact r))
open Classical in
theorem cF.snoc{K:ao}{G R:ah}{τ:Addr->Option bo}{fv:aN}{H H1 H2:Hp}{v:V}{d:D}{vs:af}{ds:aa}(e1:aK H H1)(e2:aK H1 H2)(h:cF K G R τ fv H H1 vs ds)(t:b_ K G R τ fv H1 H2 v d):
  cF K G R τ fv H H2 (vs++[v]) (ds++[d]):=by
 obtain⟨τ1,f1,h1⟩:=h;obtain⟨τ2,f2,h2⟩:=t;refine⟨λp=>if H1 p=none then(τ2 p).map (· ++ [ds.length])else τ1 p,λp q hq=>?_,aC.snoc (h1.imp (q:=[]) (q':=[]) (λ_ _ h=>aW.same e2 h) λc p xs f h=>?_) ((Nat.zero_add ds.length).symm▸h2.imp (q:=[]) (q':=[ds.length]) (λ_ _ h=>h) λc p xs f h=>?_)⟩
 ·dsimp only at hq;by_cases hp:H1 p=none
  ·exact e1.free hp
  ·rw[if_neg hp]at hq;exact f1 p q hq
 ·have h':=nd.same e2 h;cases f with
  |ow =>
   refine⟨h'.1,?_⟩;show(if H1 p=none then(τ2 p).map (· ++ [ds.length])else τ1 p)=_;rw[if_neg (h.1.ne)];exact h.2
  |fz=>exact h'
  |al=>exact h'
  |sc=>exact h'
 ·cases f with
  |ow =>
   refine⟨h.1,?_⟩;show(if H1 p=none then(τ2 p).map (· ++ [ds.length])else τ1 p)=_;rw[if_pos (f2 p _ h.2),h.2];simp
  |fz=>exact h
  |al=>exact h
  |sc=>exact h
structure Yl(K:ao)(J:It)(R:ah)(H1:Hp)(items:aa):Prop where
 go:∀i H',aK H1 H'->i<items.length->J.go i H'
 uN:∀i H' x jG,aK H1 H'->i<items.length->J.uN i H' x jG->aK H' jG/\∃d,items[i]?=some d/\Rep (aW K jG) (nd K R (λ_=>False) (λ_=>none) jG) [] x d
 stop:∀i H',aK H1 H'->items.length<=i->J.stop i H'
variable {C i1 i2 l1 l2:Addr}{s₂:Shared}
section
variable {X:Cx}{S:Sx}{k:Nat}{F:ah}{Φ:bh}
def ka(X:Cx)(F:ah)(τ:Addr->Option bo)(fv:aN)(H2:Hp)(p:Addr):Prop:=H2 p≠none/\jD (gP X F) τ fv p
theorem vo(Si:SI X F R τ ρ σ H)(fr:∀p q,τt p=some q->H p=none)(hs:∀i∈fv,i∈fv')(kp kq:bo)(p:Addr)(xs:Nd)(f:Fl)
  (h:nd X.K R (jD (gP X F) τ fv) τt H2 kp p xs f):nd X.K (ka X F τ fv' H2) (λ_=>False) (λ_=>none) H2 kq p xs (aL f):=by
 cases f with
 |ow=>exact⟨h.1,h.1.ne,.inr (Si.same.free (fr p _ h.2)),λc i e=>absurd (fr p _ h.2) (Si.th p _ e)⟩
 |fz=>exact⟨h.1,h.1.ne,Si.rf p h.2,λc i e=>by rw[Si.rt p h.2]at e;cases e⟩
 |al=>exact⟨h.1,h.1.ne,h.2.mono hs⟩
 |sc=>exact h
theorem D2{a:Addr}{q:bo}(hl:dE X.K H1 a xs)(rs:aC (aW X.K H1) (nd X.K R (λ_=>False) (λ_=>none) H1) q 0 xs items):Yl X.K (My X.K a) R H1 items where
 go:=λi H' e hi=>⟨xs,xs[i]'(by rw[rs.length];exact hi),e.seq hl,aak _⟩
 uN:=λi H' x jG e hi y=>by
  obtain⟨rfl,y⟩:=y;obtain⟨d,hd,rd⟩:=rs.vZ (y xs (e.seq hl));refine⟨aK.refl _,d,hd,?_⟩;have:=Rep.g_ (g:=id) (λ_ _ h=>h) nd.oq rd [];rw[eJ]at this;exact this.imp (λ_ _ h=>aW.same e h) λ_ _ _ _ h=>nd.same e h
 stop:=λi H' e hi=>⟨xs,e.seq hl,by rw[rs.length];exact hi⟩
theorem HG{a:Addr}{q:bo}(hl:aW X.K H1 a xs)(rs:aC (aW X.K H1) (nd X.K R (λ_=>False) (λ_=>none) H1) q 0 xs items):Yl X.K (Mx X.K a) R H1 items where
 go:=λi H' e hi=>⟨xs,xs[i]'(by rw[rs.length];exact hi),aW.same e hl,aak _⟩
 uN:=λi H' x jG e hi y=>by
  obtain⟨rfl,y⟩:=y;obtain⟨d,hd,rd⟩:=rs.vZ (y xs (aW.same e hl));refine⟨aK.refl _,d,hd,?_⟩;have:=Rep.g_ (g:=id) (λ_ _ h=>h) nd.oq rd [];rw[eJ]at this;exact this.imp (λ_ _ h=>aW.same e h) λ_ _ _ _ h=>nd.same e h
 stop:=λi H' e hi=>⟨xs,aW.same e hl,by rw[rs.length];exact hi⟩
theorem Ad{lo:Int}{n:Nat}:Yl X.K (zW lo n) R H1 ((List.range n).map λ(k:Nat)=>D.int (lo+(k:Int))) where
 go:=λi H' e hi=>by simpa [zW]using hi
 uN:=λi H' x jG e hi y=>by
  obtain⟨rfl,rfl⟩:=y;have iL:i<n:=by simpa using hi
  exact⟨aK.refl _,.int (lo+i),by rw[List.getElem?_map,List.getElem?_range iL];rfl,.int _⟩
 stop:=λi H' e hi=>by simpa [zW]using hi
theorem AK{n:Nat}{t:Tg}{sc:Scope}{cl:List (Str×Addr)}(Si:SI X F R τ ρ σ H2)(hs:∀i∈caps,i∈fv):
  SI (eF X (cw target++gk S caps) sc cl C s₂ H2 fp) (jD (gP X F) τ fv) (ka X F τ fv H2) (λ_=>none) (bE n caps ρ) (pv n caps σ) H2:=by
 refine⟨by simp[bE,pv],λi d hi=>?_,λ_ _=>rfl,λp h=>h.1,λp h=>.inl h.2,λ_ _ h=>by simp at h,λ_ _ h=>by simp at h,aK.refl _⟩;unfold bE at hi;have hn:n<=i:=by
  by_cases hn:i<n
  ·rw[List.getElem?_append_left (by simpa using hn),List.getElem?_replicate,if_pos hn]at hi;cases hi
  ·left
 rw[List.getElem?_append_right (by simpa using hn),List.length_replicate,List.getElem?_map]at hi;cases hc:caps[i - n]? with
 |none=>rw[hc]at hi;exact nk hi
 |some ci =>
  rw[hc]at hi;have iL:(ρ[ci]?.getD none).map (aw aL)=some d:=aao hi;have hr:∃d0,ρ[ci]?=some (some d0)/\aw aL d0=d:=by
   cases q:ρ[ci]? with
   |none=>rw[q]at iL;cases iL
   |some o =>
    cases o with
    |none=>rw[q]at iL;cases iL
    |some d0=>rw[q]at iL;exact⟨d0,rfl,aao iL⟩
  obtain⟨d0,h0,rfl⟩:=hr;obtain⟨v,hv,rv⟩:=Si.rep ci d0 h0;refine⟨v,?_,Rep.g_ (λ_ _ h=>h) (λkp kq p xs f h=>?_) ((rv.imp (q:=[ci]) (q':=[ci]) (N':=λq p xs f=>nd X.K R (λ_=>False) τ H2 q p xs f/\(f=.ow->∃c,q=c++[ci])) (λ_ _ h=>h) λc p xs f h=>⟨h,λ_=>⟨c,rfl⟩⟩)) [i]⟩
  ·unfold pv;rw[List.getElem?_append_right (by simpa using hn),List.length_replicate,List.getElem?_map,hc];simp[hv]
  ·obtain⟨h,hq⟩:=h;cases f with
   |ow =>
    obtain⟨c,rfl⟩:=hq rfl;refine⟨h.1,h.1.ne,.inr (Si.t0 p _ h.2),λc' i' e=>?_⟩;rw[h.2]at e;have:=aaN List.getLast? (aao e);simp at this;subst this;exact hs _ (aap hc)
   |fz=>exact⟨h.1,h.1.ne,Si.rf p h.2,λc i e=>by rw[Si.rt p h.2]at e;cases e⟩
   |al=>exact h.2.elim
   |sc=>exact h
theorem Bx:∀{es:av},es.all isNm=true->∃xs:List (Str×Pos),es=xs.map λx=>Expr.Name x.1 x.2
 |[],_=>⟨[],rfl⟩
 |e::es,h=>by
  rw[List.all_cons,Bool.and_eq_true]at h;obtain⟨xs,rfl⟩:=Bx h.2;obtain⟨x,p,rfl⟩:=mE h.1;exact⟨(x,p)::xs,rfl⟩
theorem vh(xs:List (Str×Pos)):(xs.map λx=>Expr.Name x.1 x.2).filterMap (λe=>match e with|.Name x _=>some x|_=>none)=xs.map (·.1):=by
 induction xs with
 |nil=>rfl
 |cons x xs ih=>simp[ih]
def Cr(i:Nat):Nat->Gy
 |0=>Kz
 |n+1=>Cs (oi i) (Cr (i+1) n)
theorem xj{X:Cx}(hN:X.N.Nodup):∀(xs:List (Str×Pos)) (i:Nat),(∀(j:Nat) x,xs[j]?=some x->X.N[i+j]?=some x.1/\X.env.scope.names.lookup x.1=some .local) ->
  Mw X (xs.map λx=>Expr.Name x.1 x.2) (Cr i xs.length)/\(assignEach (xs.map λx=>Expr.Name x.1 x.2) X.env).length=xs.length/\(assignEach (xs.map λx=>Expr.Name x.1 x.2) X.env).findIdx? (·.1)=none
 |[],_,_=>⟨xi,rfl,rfl⟩
 |x::xs,i,h=>by
  obtain⟨h1,h2,h3⟩:=xj hN xs (i+1) λj y hy=>by
   have:=h (j+1) y (by simpa using hy)
   rwa [show i+(j+1)=i+1+j by left]at this
  obtain⟨g1,g2⟩:=h 0 x rfl;refine⟨tR (qX hN g1 (.inl g2) (.inr g2)) h1 rfl,?_,?_⟩
  ·show(_::assignEach _ X.env).length=_;rw[List.length_cons,h2];rfl
  ·show(((false,assign (.Name x.1 x.2) X.env)::assignEach (xs.map λx=>Expr.Name x.1 x.2) X.env)).findIdx? (·.1)=none;rw[List.findIdx?_cons];simp[h3]
end
section
variable {X:Cx}{F R:ah}{τ:Addr->Option bo}{ρ:a_}{σ σ':St}{H:Hp}
theorem SI.Ng{i:Nat}{v:V}{d:D}(Si:SI X F R τ ρ σ H)(rp:Rep (aW X.K H) (nd X.K R (λ_=>False) (λ_=>none) H) [] v d)(hi:i<ρ.length):SI X F R τ (ρ.set i (some d)) (σ.set i (some v)) H:=by
 refine⟨by simp[Si.len],λj d' hj=>?_,Si.rt,Si.rh,Si.rf,Si.th,Si.t0,Si.same⟩;by_cases jy:j=i
 ·subst jy;rw[List.getElem?_set_self hi]at hj;cases hj;refine⟨v,List.getElem?_set_self (by rw[<- Si.len];exact hi),rp.imp (q':=[j]) (λ_ _ h=>h) λc p xs f h=>?_⟩;cases f with
  |ow=>exact nomatch h.2
  |fz=>exact h
  |al=>exact h
  |sc=>exact h
 ·rw[List.getElem?_set_ne (Ne.symm jy)]at hj;obtain⟨w,hw,lE⟩:=Si.rep j d' hj;exact⟨w,by rw[List.getElem?_set_ne (Ne.symm jy)];exact hw,lE⟩
theorem SI.sig(Si:SI X F R τ ρ σ H)(hl:σ'.length=σ.length)(h:∀(i:Nat) d,ρ[i]?=some (some d)->σ'[i]?=σ[i]?):SI X F R τ ρ σ' H :=
 ⟨by rw[hl];exact Si.len,λi d hi=>let ⟨v,hv,r⟩:=Si.rep i d hi;⟨v,by rw[h i d hi];exact hv,r⟩,Si.rt,Si.rh,Si.rf,Si.th,Si.t0,Si.same⟩
theorem nB{Q:St->Hp->Prop}(σ0:St)(hi:Nat):∀{m i:Nat} {vs:af} {ds:aa} {kp:bo} {q:Nat} {σ:St} {ρ ρ':a_},i+m=hi->aC (aW X.K H) (nd X.K R (λ_=>False) (λ_=>none) H) kp q vs ds->SI X F R τ ρ σ H->eT (List.range' i m) ds ρ=ok ρ' ->
  σ.length=σ0.length->(∀j,hi<=j->σ[j]?=σ0[j]?)->(∀σ',σ'.length=σ0.length->(∀j,hi<=j->σ'[j]?=σ0[j]?)->SI X F R τ ρ' σ' H->Q σ' H)->Cr i m vs σ H Q
 |0,_,_,_,_,_,σ,_,_,_,.nil,Si,e,h1,h2,hq=>by
  cases e;exact⟨rfl,hq σ h1 h2 Si⟩
 |0,_,_,_,_,_,_,_,_,_,.cons _ _,_,e,_,_,_=>by cases e
 |m+1,_,_,_,_,_,_,_,_,_,.nil,_,e,_,_,_=>by cases e
 |m+1,i,_,_,_,_,σ,ρ,_,him,.cons (v:=v) (d:=d) h t,Si,e,h1,h2,hq=>by
  change (if _ then _ else _)=_ at e;split at e
  ·rename_i iL;have fb:=Si.Ng (i:=i) (Rep.rz h) iL;refine⟨_,_,rfl,nB σ0 hi (by left) t fb e (by simpa using h1) (λj hj=>?_) hq⟩;rw[List.getElem?_set_ne (by left)];exact h2 j hj
  ·cases e
end
section
variable {X:Cx}{S:Sx}{k:Nat}{F:ah}{Φ:bh}
theorem HY{n:Nat}{t:Tg}{sc:Scope}{cl:List (Str×Addr)}(Pt:X.calm=true)(co:jY S n t caps target sc):
  ∃g,PG (eF X (cw target++gk S caps) sc cl C s₂ H2 fp) target g/\∀(F' R':ah) (x:V) (d:D) (σ':St) (jG:Hp) (Q:St->Hp->Prop) (ρb ρ1:a_),
   SI (eF X (cw target++gk S caps) sc cl C s₂ H2 fp) F' R' (λ_=>none) ρb σ' jG->Rep (aW X.K jG) (nd X.K R' (λ_=>False) (λ_=>none) jG) [] x d->aY dW d=false->cY t d ρb=ok ρ1 ->
   (∀σ2,σ2.length=σ'.length->(∀j,n<=j->σ2[j]?=σ'[j]?)->SI (eF X (cw target++gk S caps) sc cl C s₂ H2 fp) F' R' (λ_=>none) ρ1 σ2 jG->Q σ2 jG)->g x σ' jG Q:=by
 have Ke:∀x∈cw target,(relabel sc X.env).names.lookup x=some .local:=λx hx=>lookup_relabel_local (co.tl x hx);rcases co.tg with ⟨x,p,rfl,rfl⟩|⟨es,kk,p,rfl,rfl,kn⟩
 ·have hn:n=1:=co.n;subst hn;refine⟨oi 0,qX co.nd rfl (.inl (Ke x (List.mem_singleton.mpr rfl:x∈[x]))) (.inr (Ke x (List.mem_singleton.mpr rfl:x∈[x]))),λF' R' v d σ' jG Q ρb ρ1 Si rp _ e hq=>?_⟩;simp only[cY]at e;split at e
  ·rename_i hi;cases e;refine hq _ (by simp) (λj hj=>?_) (Si.Ng rp hi);rw[List.getElem?_set_ne (by left)]
  ·cases e
 ·obtain⟨xs,rfl⟩:=Bx kn;have hN:cw (.Tuple (xs.map λx=>Expr.Name x.1 x.2) kk p)=xs.map (·.1):=vh xs;have hn:n=xs.length:=by rw[co.n,hN,List.length_map]
  have:=xj (X:=eF X (cw (.Tuple (xs.map λx=>Expr.Name x.1 x.2) kk p)++gk S caps) sc cl C s₂ H2 fp) co.nd xs 0 (λj y hy=>by
   refine⟨?_,Ke y.1 (by rw[hN];exact List.mem_map.mpr ⟨y,aap hy,rfl⟩)⟩;show(cw (.Tuple (xs.map λx=>Expr.Name x.1 x.2) kk p)++gk S caps)[0+j]?=_;have hj:j<xs.length:=by
    by_cases hj:j<xs.length
    ·exact hj
    ·rw[List.getElem?_eq_none (by left)]at hy;cases hy
   rw[hN,Nat.zero_add,List.getElem?_append_left (by simpa using hj),List.getElem?_map,hy];rfl)
  obtain⟨h1,h2,h3⟩:=this;refine⟨_,vt Pt h1 h2 h3,λF' R' v d σ' jG Q ρb ρ1 Si rp ho e hq=>?_⟩;cases d<;>try (simp[cY]at e;done)
  rename_i ds;simp only[cY]at e;split at e
  ·cases e
  ·cases rp with
   | @tup _ a ys _ hp rs =>
    rw[List.length_map]at e;have e':eT (List.range' 0 xs.length) ds ρb=ok ρ1:=by rw[<- List.range_eq_range'];exact e
    refine⟨a,ys,rfl,hp,?_,nB (X:=eF X (cw (.Tuple (xs.map λx=>Expr.Name x.1 x.2) kk p)++gk S caps) sc cl C s₂ H2 fp) σ' n (by left) rs Si e' rfl (λ_ _=>rfl) hq⟩;rw[rs.length];have:∀(is:aN) (ds:aa) (ρ ρ':a_),eT is ds ρ=ok ρ'->ds.length=is.length:=by
     intro is;induction is with
     |nil=>intro ds ρ ρ' e;cases ds with|nil=>rfl|cons _ _=>cases e
     |cons i is ih=>intro ds ρ ρ' e;cases ds with
      |nil=>cases e
      |cons d ds =>
       change (if _ then _ else _)=_ at e;split at e
       ·simp[ih ds _ _ e]
       ·cases e
    rw[this _ _ _ _ e',List.length_range']
theorem WJ:∀f:Fl,dW (aL f)=false:=by intro f;cases f<;>rfl
mutual
theorem E_:∀d:D,aY dW (aw aL d)=false
 |.bu=>by simp[aw,aY]
 |.bl _=>by simp[aw,aY]
 |.int _=>by simp[aw,aY]
 |.str _=>by simp[aw,aY]
 |.tup ds=>by simp[aw,aY,gz ds]
 |.lst f ds=>by simp[aw,aY,gz ds,WJ]
 |.cy f ks vs=>by simp[aw,aY,gz vs,WJ]
theorem gz:∀ds:aa,aP dW (au aL ds)=false
 |[]=>by simp[au,aP]
 |d::ds=>by simp[au,aP,E_ d,gz ds]
end
theorem xP{a:Addr}{o:HO}(x:jm P w H h)(hn:H a=none)(new:cK P w (upd H a o) h a o):jm P w (upd H a o) h:=λb u e=>by
 by_cases hb:b=a
 ·subst hb;rw[aZ]at e;cases e;exact new
 ·rw[ba hb]at e;exact(x b u e).iM (λc v _ q=>q) (λc q=>by rw[ba (cj q hn)];exact q) λc xs q=>by rw[ba (cj q hn)];exact q
structure CAt(X X':Cx)(F' R':ah)(n:Nat)(base:a_)(σ0:St)(fp:bc)(tn:Nat->Heap->Prop)(H2:Hp)(D:Addr)(items:List DI.D)(bind:DI.D->O a_)(test:a_->O Bool)(el:a_->O DI.D)(all:List DI.D)(m:Nat)(s':Shared):Prop where
 ex:∃(i:Nat) (vs:af) (aI:ai) (nn:Nat) (σ':St) (H':Hp) (dn rest:List DI.D),m=items.length - i/\i<=items.length/\Inv X' [(D,ff aI nn)] σ' H' s'/\tn i s'.heap/\(∀b∈fp,H' b=none)/\Vals vs aI/\aK H2 H' /\
  SI X' F' R' (λ_=>none) base σ' H'/\cF X.K (gP X' F') R' (λ_=>none) [] H2 H' vs dn/\iD bind test el (items.drop i)=ok rest/\dn++rest=all
end
theorem cF.go(h:cF K G R τ fv H H1 vs ds)(e:aK H1 H2):cF K G R τ fv H H2 vs ds :=
 let ⟨τt,h1,h2⟩:=h;⟨τt,h1,h2.imp (λ_ _ h=>aW.same e h) λ_ _ _ _ h=>nd.same e h⟩
theorem nN:∀{ds:aa} {d:D},aP dW ds=false->d∈ds->aY dW d=false
 |[],_,_,h=>nomatch h
 |e::ds,d,h,hm=>by
  rw[aP,Bool.or_eq_false_iff]at h;rcases List.mem_cons.mp hm with rfl|z
  ·exact h.1
  ·exact nN h.2 z
theorem yR{d:D}(h:pw d=ok items):∀d∈items,aY dW d=false:=by
 unfold pw at h;split at h
 ·cases h;exact λd hd=>nN (gz _) hd
 ·cases h
theorem vN{ik:IK}{xs:aa}(h:dU Φ ik xs=ok items):∀d∈items,aY dW d=false:=by
 cases ik with
 |bU p=>obtain⟨d,_,h⟩:=aB h;exact yR h
 |jZ =>
  cases xs with
  |nil=>cases h
  |cons x t=>cases x<;>first | (cases h;done) | (cases t with
   |cons _ _=>cases h
   |nil =>
    obtain⟨_,h⟩:=lI h;subst h;intro d hd;obtain⟨k,_,rfl⟩:=List.mem_map.mp hd;rfl)
 |l9 =>
  cases xs with
  |nil=>cases h
  |cons x t=>cases x<;>first | (cases h;done) | (cases t with
   |nil=>cases h
   |cons y u=>cases y<;>first | (cases h;done) | (cases u with
    |cons _ _=>cases h
    |nil =>
     obtain⟨_,h⟩:=lI h;subst h;intro d hd;obtain⟨k,_,rfl⟩:=List.mem_map.mp hd;rfl))
 |seq =>
  cases xs with
  |nil=>cases h
  |cons x t=>cases x<;>first | (cases h;done) | (cases t with
   |cons _ _=>cases h
   |nil=>cases h;exact λd hd=>nN (gz _) hd)
theorem vQ{n:Nat}{i:Nat}{d:D}(h:(bE n caps ρ)[i]?=some (some d)):n<=i:=by
 unfold bE at h;by_cases hn:i<n
 ·rw[List.getElem?_append_left (by simpa using hn),List.getElem?_replicate,if_pos hn]at h;cases h
 ·left
variable {c' elt:CE}{bH cs es:az}
section
variable {X:Cx}{S:Sx}{k:Nat}{F:ah}{Φ:bh}
theorem BI{n:Nat}{t:Tg}{sc:Scope}{cl:List (Str×Addr)}(L:Lk X S k Φ)(co:jY S n t caps target sc):
  Lk (eF X (cw target++gk S caps) sc cl C s₂ H2 fp) (S.inner target caps sc) k Φ:=by
 refine⟨?_,rfl,co.nd,L.calm,L.room,L.bl,λf x h=>⟨(L.fn f x h).ex⟩,L.cs,L.pr⟩;show relabel sc X.env=tL sc S.sc;rw[<- L.sc];rfl
theorem uB(L:Lk X S k Φ){n:Nat}{t:Tg}{ik:IK}{ifs:av}{sc:Scope}(co:jY S n t caps target sc)(z6:iP iter=true)
    (hE:∀(X':Cx) (F':ah),Lk X' (S.inner target caps sc) k Φ->PE X' jr (tD X' F' Φ elt))
    (hC:(bH=[]/\ifs=[])\/∃c e,bH=[c]/\ifs=[e]/\∀(X':Cx) (F':ah),Lk X' (S.inner target caps sc) k Φ->PT X' e (fZ X' F' Φ c))
    (hI:∀(pins:ak) (s:Shared) (σ:St) (H:Hp) (R:ah) (τ:Addr->Option bo) (ρ:a_) (xs items:aa),Inv X pins σ H s->SI X F R τ ρ σ H->bK Φ es ρ=ok xs->dU Φ ik xs=ok items->∀Rr:It->Hp->Prop,
      (∀J H2,aK H H2->Yl X.K J (ka X F τ (caps++cO es) H2) H2 items->Rr J H2)->wpAny (model X.prog X.w) X.A (eval iter X.env) (λv s1=>wpAny (model X.prog X.w) X.A (pyIter v) (Aa X pins σ target Rr) X.xe s1) X.xe s)
    {use:Option (Value->Sem Unit)} {Post:aA} {pins:ak} {s:Shared} {d:D} {VE:Pos} (I:Inv X pins σ H s) (Si:SI X F R τ ρ σ H) (ev:bp Φ (.comp n t caps ik es bH elt) ρ=ok d)
    (O0:∀(acc C:Addr) (H1:Hp) (s1:Shared) (m:aV),s1.heap.Ns C m->(C≠X.env.locals/\X.s₀.heap.objs.size<=C/\(∀x c,X.env.cells.lookup x=some c->c≠C)/\(∀p∈X.pn++pins,p.1≠C)/\H1 C=none)->(∀h',Heap.SameBut C s1.heap h'->Inv X pins σ H1 { s1 with heap:=h' })->aK H H1 ->
      b_ X.K (gP X F) R τ (iJ (.comp n t caps ik es bH elt)) H H1 (.ref acc) d->compPost (model X.prog X.w) X.A X.xe use Post (.ref acc) C (.ok .next) s1) :
    wpAny (model X.prog X.w) X.A (comprehension (.ListComp jr [⟨target,iter,ifs,0⟩] sc pos) sc X.env VE (newList []) false (eval iter X.env) use) Post X.xe s:=by
  obtain⟨xs,b7,ev⟩:=aB ev;obtain⟨items,mK,ev⟩:=aB ev;obtain⟨ds,Lj,ev⟩:=aB ev;simp only[Hc]at ev;obtain⟨n_,rfl⟩:=ev;have O8:=vN mK;obtain⟨cl,Pq,mh,vV⟩:=wo (env:=X.env) (sc:=sc) (λx hx=>I.ok.has x (by
    show X.env.scope.names.lookup x=some .cell\/X.env.scope.names.lookup x=some .free;rw[L.sc];exact co.free x hx))
  have lM:∀x,foldedSetIterable iter X.env x=pure x:=by intro x;cases iter<;>first|rfl | (cases z6;done)
  refine wpAny_comprehension_free (use:=use) rfl lM Pq co.kind co.loc (aau (hI pins s σ H R τ ρ xs items I Si b7 mK (λJ H2=>aK H H2/\Yl X.K J (ka X F τ (caps++cO es) H2) H2 items) (λJ H2 e y=>⟨e,y⟩)) (λxv s₁ h₁=>aau h₁ (λUg s₂ h₂=>?_) λ_ _ e=>e) λ_ _ e=>e);obtain⟨it,fp,tn,J,H2,rfl,I2,T,M6,f2,e2,yl⟩:=h₂;have wC:=Si.go e2;have Kf:∀b∈fp,b<s₂.heap.objs.size:=λb hb=>let ⟨o,ho,_⟩:=T.obj 0 _ M6 b hb;aaf ho;refine aaF (wpAny_newFunctionEnv co.Bu (by intro y hy;simp at hy) (λh₁ rJ nZ=>?_) co.kind);dsimp only at rJ nZ ⊢;generalize Vl:s₂.heap.push { cls:=.type "list",dict:=none,data:=.seq ([]:ai).toArray }=G2 at rJ nZ ⊢;have Xz:G2.objs.size=s₂.heap.objs.size+1:=by rw[<- Vl,Heap.size_push]
  have RN:s₂.heap.objs.size≠s₂.heap.objs.size+1:=aal (aa1 _);rw[Xz]at rJ nZ;have old:∀b o,s₂.heap.get? b=some o->h₁.get? b=some o:=λb o e=>nZ.extBut b o (aal (aaC (aaf e))) (aae _ (Vl▸aae _ e));have hV:h₁.get? s₂.heap.objs.size=some (ff [] 0):=nZ.extBut _ _ RN (aae _ (Vl▸aan _ rfl))
  let X':=eF X (cw target++gk S caps) sc cl (s₂.heap.objs.size+1) s₂ H2 fp
  let F':=jD (gP X F) τ (caps++cO es)
  let R':=ka X F τ (caps++cO es) H2
  have L':Lk X' (S.inner target caps sc) k Φ:=BI L co;have I4:=λtk=>BZ (h₁:=h₁) (tk:=tk) L co I2 mh vV f2 Kf (by simpa using rJ) old hV;have S4:SI X' F' R' (λ_=>none) (bE n caps ρ) (pv n caps σ) H2:=AK (t:=t) wC (λi hi=>by simp[hi]);obtain⟨g,hg,vU⟩:=HY (X:=X) (S:=S) (cl:=cl) (fp:=fp) (s₂:=s₂) (H2:=H2) (C:=s₂.heap.objs.size+1) L.calm co;have Vm:s₂.heap.objs.size∉X'.fs:=λz=>by
    rcases List.mem_cons.mp (I2.jI _ z)with w|w
    · exact absurd w (aav I2.lt)
    · exact I2.Jz (aai _) w
  have Kh:∀x c,cl.lookup x=some c->c≠s₂.heap.objs.size:=λx c e=>by
    obtain⟨v,q⟩:=I2.cell x c (mh x c e);exact aal q.lt
  have FK:∀b∈fp,b≠X'.env.locals/\b∉X'.fs/\(b∈X'.ex\/X'.s₀.heap.objs.size<=b)/\(∀x c,X'.env.cells.lookup x=some c->c≠b):=λb hb =>
    ⟨aal (aaC (Kf b hb)),λz=>by
      rcases List.mem_cons.mp (I2.jI b z)with w|w
      · exact(f2 b hb).2.1 w
      · exact(f2 b hb).2.2.1 w,.inl hb,λx c e=>(f2 b hb).2.2.2.2.1 x c (mh x c e)⟩
  have Pg:∀b∈fp,b≠s₂.heap.objs.size:=λb hb=>aal (Kf b hb);have fin:∀(vs:af) (aI:ai) (nn:Nat) (σ':St) (H':Hp) (s1:Shared),Inv X' [(s₂.heap.objs.size,ff aI nn)] σ' H' s1->Vals vs aI->aK H2 H'->cF X.K (gP X' F') R' (λ_=>none) [] H2 H' vs ds ->
      compPost (model X.prog X.w) X.A X.xe use Post (.ref s₂.heap.objs.size) (s₂.heap.objs.size+1) (.ok .next) s1:=by
    intro vs aI nn σ' H' s1 I1 rv sm Ey;obtain⟨m,hn,_⟩:=I1.loc;obtain⟨pD,nD,_,_,_⟩:=I1.pin (s₂.heap.objs.size,ff aI nn) (aam _ aah);have bs:=I1.base;have G4:∀b o,s₂.heap.get? b=some o->b≠s₂.heap.objs.size+1:=λb o e=>aal (aaC (aaf e));have Y7:∀b o,s₂.heap.get? b=some o->b≠s₂.heap.objs.size:=λb o e=>aal (aaf e);have Su:∀b u,H' b=some u->upd H' s₂.heap.objs.size (.lst vs) b=some u:=λb u e=>by rw[ba (cj e nD)];exact e
    have hlen:vs.length<=sizeLine:=by
      obtain⟨_,_,rr⟩:=Ey;have hz:sizeLine=16777216:=aa6;have hc:eE=1000000:=rfl;rw[rr.length];left
    have IX:∀h',Heap.SameBut (s₂.heap.objs.size+1) s1.heap h'->Inv X pins σ (upd H' s₂.heap.objs.size (.lst vs)) { s1 with heap:=h' }:=λh' B5=>by
      have un:Un (la X.stack) fp H2 (upd H' s₂.heap.objs.size (.lst vs)) s₂.heap h' :=
        ⟨λb o e n hb hx=>B5.extBut b o (G4 b o e) (bs.keep b o e n hb hx),
         λb o e n hb hx=>let ⟨sl,q⟩:=bs.slot b o e n hb hx;⟨sl,B5.extBut b _ (G4 b o e) q⟩,
         λb o e n hx=>by rw[ba (Y7 b o e)];exact bs.free b o e n hx,
         λb o e hx=>let ⟨o',q⟩:=bs.there b o e hx;⟨o',B5.extBut b _ (G4 b o e) q⟩,
         λb xs e=>Su b _ (bs.lV b xs e),λb o u e=>Su b _ (bs.k_ b o u e),λb ps e=>let ⟨more,q⟩:=bs.lX b ps e;⟨more,Su b _ q⟩⟩
      have UT:jm X.prog X.w H' h':=λa o e=>(I1.cC a o e).iM (λb u hb q=>B5.extBut b u (by
        rintro rfl;have hf:H' (s₂.heap.objs.size+1)=none:=I1.free;rcases hb with z|z
        · rw[<- z,hf]at e;cases e
        · rw[hf]at z;cases z) q) (λ_ q=>q) λ_ _ q=>q
      have US:jm X.prog X.w (upd H' s₂.heap.objs.size (.lst vs)) h':=xP UT nD ⟨hlen,aI,nn,rv,B5.extBut _ _ RN pD⟩;exact I2.yn (ch:=fp) I1.os un US I1.bare λb hb=>⟨(f2 b hb).2.2.2.1,(f2 b hb).2.1,(f2 b hb).2.2.2.2.1,(f2 b hb).2.2.2.2.2⟩
    have eS:aK H' (upd H' s₂.heap.objs.size (.lst vs)):=aK.upd nD;obtain⟨τt,fr,rs⟩:=Ey;have T3:s₂.heap.objs.size+1≠s₂.heap.objs.size:=Nat.succ_ne_self _;refine O0 s₂.heap.objs.size (s₂.heap.objs.size+1) _ s1 m hn ⟨aav (aaC I2.lt),acd I2.sz,λx c e=>?_,λp hp=>?_,?_⟩ IX ((e2.trans sm).trans eS) ⟨λq=>if q=s₂.heap.objs.size then some []else τt q,λq z hz=>?_,.lst ⟨aZ,by simp⟩ (aC.map (q:=[]) (q':=[]) (λ_ _ h=>aW.same eS h) (λc p ys f h=>?_) rs [] rfl)⟩
    · obtain⟨v,z⟩:=I2.cell x c e
      exact aal (aaC z.lt)
    · exact aal (aaC (aaf (I2.pin p hp).1))
    · rw[ba T3];exact I1.free
    · by_cases vT:q=s₂.heap.objs.size
      · rw[vT];exact e2.free (sm.free nD)
      · simp only[vT,if_false]at hz;exact e2.free (fr q z hz)
    · have h':=nd.same eS h
      have Wb:∀p,gP X' F' p->jD (gP X F) τ (caps++cO es) p:=λp hp=>hp.elim id λz=>⟨.inr (wC.same.free z),λc i e=>absurd z (wC.th p _ e)⟩
      cases f with
      |ow =>
        have vT:p≠s₂.heap.objs.size:=by
          intro z;subst z;exact h.1.ne nD
        refine⟨h'.1,?_⟩;show(if p=s₂.heap.objs.size then some []else τt p)=_;rw[if_neg vT];exact h'.2
      |fz=>exact⟨h'.1,h'.2.2⟩
      |al=>exact⟨h'.1,Wb p h'.2.1⟩
      |sc=>exact h'
  have Yp:∀(P:ak) (ρ1:a_) (b:Bool) (σ2:St) (H5:Hp) (s6:Shared),iC Φ bH ρ1=ok b->Inv X' P σ2 H5 s6->SI X' F' R' (λ_=>none) ρ1 σ2 H5 ->
      wpAny (model X.prog X.w) X.A (forIn ifs true λc r=>if r=true then do let ok <- isTrue c X'.env (eval c X'.env);pure (ForInStep.yield ok)else pure (ForInStep.yield r)) (λTQ s7=>TQ=b/\∃H7,Inv X' P σ2 H7 s7/\aK H5 H7) (λ_ _=>False) s6:=by
    intro P ρ1 b σ2 H5 s6 eb I6 S6;rcases hC with ⟨rfl,rfl⟩|⟨c,e,rfl,rfl,hPT⟩
    · rw[iC]at eb;cases eb
      exact wpAny_tests_nil ⟨rfl,H5,I6,aK.refl _⟩
    · rw[iC]at eb
      obtain⟨b',eb',eb⟩:=aB eb;have hb:b'=b:=by
        cases b' with
        |true=>rw[if_pos rfl,iC]at eb;cases eb;rfl
        |false=>rw[if_neg (by simp)]at eb;cases eb;rfl
      subst hb;refine wpAny_tests_one (aau (hPT X' F' L' P s6 σ2 H5 (λX4 H7=>X4=b'/\aK H5 H7) I6 ⟨R',_,ρ1,b',S6,eb',λH7 e7=>⟨rfl,e7⟩⟩) (λX4 s7 ⟨H7,I7,hb,e7⟩=>⟨hb,H7,I7,e7⟩) λ_ _ e=>e)
  have loop:∀tk,codeAny (model X.prog X.w) X.A (.compLoop (.ListComp jr [⟨target,iter,ifs,0⟩] sc pos) 0 (.ref it) (.ref s₂.heap.objs.size) X'.env)
      (compPost (model X.prog X.w) X.A X.xe use Post (.ref s₂.heap.objs.size) (s₂.heap.objs.size+1)) { s₂ with heap:=h₁,toks:=tk }:=by
    intro tk;refine r9 (CAt X X' F' R' n (bE n caps ρ) (pv n caps σ) fp tn H2 s₂.heap.objs.size items (λd=>cY t d (bE n caps ρ)) (λρ'=>iC Φ bH ρ') (λρ'=>bp Φ elt ρ') ds) ?_ items.length
      ⟨0,[],[],0,pv n caps σ,H2,[],ds,rfl,aaL _,I4 tk,T.keep _ _ _ M6 (λb _ o e=>old b o e),λb hb=>(f2 b hb).1,.nil,aK.refl _,S4,.nil,by rw[List.drop_zero];exact Lj,rfl⟩
    rintro m s' ⟨i,vs,aI,nn,σ',H',dn,rest,hm,hi,I',l6,fr',rv,sm,fb,Ey,fP,eall⟩;have KG:∀b∈fp,oY X' [(s₂.heap.objs.size,ff aI nn)] H' b:=λb hb=>⟨fr' b hb,(FK b hb).1,(FK b hb).2.1,(FK b hb).2.2.1,(FK b hb).2.2.2,λp hp=>by
      have uQ:p=(s₂.heap.objs.size,ff aI nn):=by simpa [X',eF]using hp
      rw[uQ];exact(Pg b hb).symm⟩
    by_cases iB:i<items.length
    · refine aau (T.item X' rfl rfl rfl L.calm i _ s' σ' H' (λ_ _=>False) I' KG l6 (yl.go i H' sm iB)) (λr s1 h4=>?_) λ_ _ e=>e
      obtain⟨u,hr,h4⟩:=h4;subst hr;refine aau h4 (λ_ s5 h5=>?_) λ_ _ e=>e;obtain⟨x,H5,I5,r5,y5,Io,VD⟩:=h5;obtain⟨e5,dd,hd,rd⟩:=yl.uN i H' x H5 sm iB y5;have Wl:=I5.pinned (fp:=fp) (λb hb=>⟨VD b hb,(KG b hb).2⟩) (T.obj _ _ Io);have uc:items.drop i=dd::items.drop (i+1):=by
        rw[List.drop_eq_getElem_cons iB];rw[List.getElem?_eq_getElem iB]at hd;cases hd;rfl
      rw[uc,iD]at fP;obtain⟨ρ1,eb,fP⟩:=aB fP;obtain⟨bb,et,fP⟩:=aB fP;refine aau (hg _ s5 σ' H5 x u (λσ2 H6=>H6=H5/\σ2.length=σ'.length/\(∀j,n<=j->σ2[j]?=σ'[j]?)/\SI X' F' R' (λ_=>none) ρ1 σ2 H5) Wl r5
        (vU F' R' x dd σ' H5 _ (bE n caps ρ) ρ1 (fb.go e5) rd (O8 dd (aap hd)) eb λσ2 g1 g2 g3=>⟨rfl,g1,g2,g3⟩)) (λ_ s6 h6=>?_) λ_ _ e=>e
      obtain⟨σ2,H6,I6,rfl,g1,g2,S6⟩:=h6;refine aau (Yp _ ρ1 bb σ2 H6 s6 et I6 S6) (λTQ s7 h7=>?_) λ_ _ e=>e;obtain⟨rfl,H7,I7,e7⟩:=h7;have Sy:∀{P:ak} {σ3:St} {H8:Hp} {s8:Shared},Inv X' (P++iO fp s5.heap) σ3 H8 s8->tn (i+1) s8.heap/\∀b∈fp,H8 b=none:=λ{P σ3 H8 s8} I8 =>
        ⟨T.keep _ _ _ Io λb hb o e=>(I8.pin (b,o) (aam _ (aam _ (g9 hb e)))).1,λb hb=>by
          obtain⟨o,e,_⟩:=T.obj _ _ Io b hb;exact(I8.pin (b,o) (aam _ (aam _ (g9 hb e)))).2.1⟩
      have Hy:∀{H8:Hp},aK H7 H8->SI X' F' R' (λ_=>none) (bE n caps ρ) σ2 H8:=λ{H8} e8=>(fb.go ((e5.trans e7).trans e8)).sig g1 λj d hj=>g2 j (vQ hj);cases TQ with
      |false =>
        rw[if_neg (by simp)]at fP ⊢;exact⟨items.length - (i+1),by left,i+1,vs,aI,nn,σ2,H7,dn,rest,rfl,iB,I7.j6,(Sy I7).1,(Sy I7).2,rv,(sm.trans e5).trans e7,Hy (aK.refl _),Ey.go (e5.trans e7),fP,eall⟩
      |true =>
        rw[if_pos rfl]at fP ⊢;obtain⟨y,ey,fP⟩:=aB fP;obtain⟨ys,jN,fP⟩:=aB fP;cases fP;refine aau (hE X' F' L' _ s7 σ2 H7 (λv H8=>aK H7 H8/\b_ X.K (gP X' F') R' (λ_=>none) [] H7 H8 v y) I7 ⟨R',_,ρ1,y,S6.go e7,ey,λv H8 e8 r8=>⟨e8,?_⟩⟩) (λu8 s8 h8=>?_) λ_ _ e=>e
        · obtain⟨τt,fr,rr⟩:=r8
          exact⟨τt,fr,rr.imp (q:=[]) (q':=[]) (λ_ _ h=>h) λc p ys f h=>h.mono id (λh=>⟨h.1,λ_ _ e=>by cases e⟩) id⟩
        · obtain⟨v8,H8,I8,YS,e8,r8⟩:=h8
          obtain⟨pD,nD,_,_,_⟩:=I8.pin (s₂.heap.objs.size,ff aI nn) (aam _ (aat _ aah));have hlen:aI.length<=1000000:=by
            obtain⟨_,_,rr⟩:=Ey;have h1:dn.length<=ds.length:=by rw[<- eall,List.length_append];left
            have hc:eE=1000000:=rfl;rw[<- rv.length,rr.length];left
          have hz:sizeLine=16777216:=aa6;refine abv PySem.F.slot_list_append ⟨_,pD,rfl⟩ PySem.F.entry_list_append (PySem.F.args_list_append_2 _ _) (PySem.list_append s₂.heap.objs.size aI.toArray nn u8 (by rw[List.size_toArray];left)) ⟨pD,?_⟩;have q:=PySem.IsL.update pD (λx=>x.push u8);have OY:aI.toArray.push u8=(aI++[u8]).toArray:=by simp
          rw[OY]at q;obtain⟨Ru,q'⟩:∃Ru,(s8.heap.update s₂.heap.objs.size (Obj.mapSeq λx=>x.push u8)).get? s₂.heap.objs.size=some (ff (aI++[u8]) Ru):=⟨_,q⟩
          have I8d:Inv X' (iO fp s5.heap) σ2 H8 s8:=I8.jg λp hp=>I8.pin p (aam _ (aam _ hp));have X9:Inv X' (iO fp s5.heap) σ2 H8 { s8 with heap:=s8.heap.update s₂.heap.objs.size (Obj.mapSeq λx=>x.push u8),toks:=s8.toks } :=
            I8d.turned (it:=s₂.heap.objs.size) (λb o hb e=>(aaE s8.heap (Obj.mapSeq λx=>x.push u8) (abu hb)).trans e) nD RN (.inr (aai _)) Kh λp hp=>by
              have uQ:p∈iO fp s5.heap:=by simpa [X',eF]using hp
              exact Pg p.1 (qg uQ).1
          have kp:=Sy (P:=[]) (by rw[List.nil_append];exact X9);refine⟨items.length - (i+1),by left,i+1,vs++[v8],aI++[u8],Ru,σ2,H8,dn++[y],ys,rfl,iB,X9.jg (λp hp=>?_),kp.1,kp.2,rv.append (.cons YS .nil),((sm.trans e5).trans e7).trans e8,Hy e8,cF.snoc ((sm.trans e5).trans e7) e8 (Ey.go (e5.trans e7)) r8,jN,by rw[List.append_assoc];exact eall⟩;have uQ:p=(s₂.heap.objs.size,ff (aI++[u8]) Ru):=by simpa using hp
          rw[uQ];exact⟨q',nD,RN,Vm,λv z=>by cases z⟩
    · refine aau (T.done X' rfl rfl rfl L.calm i _ s' σ' H' (λ_ _=>False) I' KG l6 (yl.stop i H' sm (by left))) (λr s1 h1=>?_) λ_ _ e=>e
      obtain⟨hr,I1⟩:=h1;subst hr;have UZ:items.drop i=[]:=List.drop_eq_nil_of_le (by left);rw[UZ,iD]at fP;cases fP;rw[List.append_nil]at eall;subst eall;exact fin vs aI nn σ' H' s1 I1 rv sm Ey
  have key:=λtk=>codeAny_compStart_list (loop tk) (T.self X.A 0 _ _ _ (T.keep _ _ _ M6 λb _ o e=>old b o e) (loop tk));rw[Xz];exact key _
theorem Es(L:Lk X S k Φ){n:Nat}{t:Tg}{ik:IK}{ifs:av}{sc:Scope}(co:jY S n t caps target sc)(z6:iP iter=true)
  (hE:∀(X':Cx) (F':ah),Lk X' (S.inner target caps sc) k Φ->PE X' jr (tD X' F' Φ elt))
  (hC:(bH=[]/\ifs=[])\/∃c e,bH=[c]/\ifs=[e]/\∀(X':Cx) (F':ah),Lk X' (S.inner target caps sc) k Φ->PT X' e (fZ X' F' Φ c))
  (hI:∀(pins:ak) (s:Shared) (σ:St) (H:Hp) (R:ah) (τ:Addr->Option bo) (ρ:a_) (xs items:aa),Inv X pins σ H s->SI X F R τ ρ σ H->bK Φ es ρ=ok xs->dU Φ ik xs=ok items->∀Rr:It->Hp->Prop,
   (∀J H2,aK H H2->Yl X.K J (ka X F τ (caps++cO es) H2) H2 items->Rr J H2)->wpAny (model X.prog X.w) X.A (eval iter X.env) (λv s1=>wpAny (model X.prog X.w) X.A (pyIter v) (Aa X pins σ target Rr) X.xe s1) X.xe s) :
  PE X (.ListComp jr [⟨target,iter,ifs,0⟩] sc pos) (tD X F Φ (.comp n t caps ik es bH elt)):=by
 intro pins s σ H Q I hq;obtain⟨R,τ,ρ,d,Si,ev,hq⟩:=hq;rw[eval_ListComp];refine uB L co z6 hE hC hI (use:=none) (Post:=EP X pins σ Q) I Si ev λacc C H1 s1 m hn _ IX sm rt=>?_;exact⟨m,hn,λh' B5=>⟨.ref acc,H1,IX h' B5,rfl,hq _ _ sm rt⟩⟩
end
section
variable {X:Cx}{pins:ak}{s:Shared}{σ:L2.St}{H:Hp}
theorem t5{A:aG}{E:aA}{l:Addr}{items:aR}{Q:aA}{s:Shared}(hl:s.heap.IsList l items)
  (h:∀s₂:Shared,s₂={ s with heap:=s.heap.push { cls:=.type "list_iterator",data:=.fields #[.ref l,.int 0 0] } }->s₂.heap.IsListIter s.heap.objs.size l 0/\s₂.heap.IsList l items->(∀b∈[s.heap.objs.size,l],b<s₂.heap.objs.size)->l≠s.heap.objs.size->Q (.ref s.heap.objs.size) s₂) :
  wpAny (model prog w) A (pyIter (.ref l)) Q E s:=by
 have iB:l<s.heap.objs.size:=by obtain⟨_,e,_⟩:=hl;exact aaf e
 refine wpAny_pyIter_list hl (h _ rfl ⟨⟨_,aan _ rfl,rfl,rfl⟩,hl.push _⟩ (λb hb=>?_) (aal iB));have hz:(s.heap.push { cls:=.type "list_iterator",data:=.fields #[.ref l,.int 0 0] }).objs.size=s.heap.objs.size+1:=Heap.size_push ..;have qj:b=s.heap.objs.size\/b=l:=by simpa using hb
 show b<_;rw[hz];rcases qj with e|e
 ·rw[e];exact aa1 _
 ·rw[e];exact aaC iB
theorem t4{o₀:Obj}{s:Shared}(hk:∀b o,b∉[s.heap.objs.size]->(s.heap.push o₀).get? b=some o->h'.get? b=some o):∀b o,s.heap.get? b=some o->h'.get? b=some o:=λb o e =>
 hk b o (λhm=>absurd ((by simpa using hm:b=s.heap.objs.size)▸aaf e) (aax _)) (aae _ e)
theorem cR{a:Addr}{aI:aR}(p:PlainL h a aI):h.IsList a aI:=let ⟨o,n,h1,h2,_,h4⟩:=p;⟨o,h1,h2,n,h4⟩
theorem lG(val:Nat->Int)(ns:ae)(hv:∀i,val i=ns.getD i 0):∀k,k<=ns.length->preSum val k=(ns.take k).sum
 |0,_=>by simp[preSum]
 |k+1,h=>by
  have hk:k<ns.length:=by left
  rw[preSum,lG val ns hv k (by left),hv k,List.take_add_one,List.sum_append];simp[List.getD,hk]
theorem zQ(hc:X.calm=true):e_ X (.builtin "sum") (λxs H Q=>∃(p:Addr) (ns:ae),xs=[.ref p]/\dE X.K H p (ns.map V.int)/\Q (.int ns.sum) H):=by
 intro pins s σ H xs us Q I r h;obtain⟨p,ns,rfl,hq,q⟩:=h;obtain⟨u,rfl,ru⟩:=r.one;cases ru;obtain⟨aI,rv,pl,hz⟩:=I.list hq;have hlen:aI.length=ns.length:=by have:=rv.length;simpa using this.symm
 refine call_sum_walkG (t5 (cR pl) λs₂ e st FL U3=>?_);subst e;refine⟨_,_,_,_,_,_,λi=>ns.getD i 0,rfl,Walks.list (A:=X.A.in1) (I.ok.hd hc) _ p U3 aI.toArray,st,FL,λi v hP=>?_,λh' tk t' hk=>?_⟩
 ·have hv:aI[i]?=some v:=by simpa using hP
  have hi:i<aI.length:=by
   by_cases z:i<aI.length
   ·exact z
   ·rw[List.getElem?_eq_none (by left)]at hv;cases hv
  have hn:(ns.map V.int)[i]?=some (.int (ns.getD i 0)):=by
   rw[List.getElem?_map,List.getElem?_eq_getElem (by left)];simp[List.getD,show i<ns.length by left]
  obtain⟨u,hu,ru⟩:=rv.get hn;rw[hv]at hu;cases hu;exact ru
 ·refine⟨.int ns.sum,H,I.kept (t':=tk) (t4 hk),⟨t',?_⟩,q⟩;have hz:preSum (λi=>ns.getD i 0) aI.toArray.size=ns.sum:=by
   rw[List.size_toArray,hlen,lG _ ns (λ_=>rfl) _ (Nat.le_refl _),List.take_length]
  rw[hz]
theorem range_all{α:Type}(l:List α)(f:α->Bool)(tr:Nat->Bool)(h:∀i a,l[i]?=some a->tr i=f a):(List.range l.length).all tr=l.all f:=by
 rw[Bool.eq_iff_iff,List.all_eq_true,List.all_eq_true];constructor
 ·intro z a ha;obtain⟨i,hi,e⟩:=List.mem_iff_getElem.mp ha;have:=z i (List.mem_range.mpr hi);rw[h i a (by rw[List.getElem?_eq_getElem hi,e])]at this;exact this
 ·intro z i hi;have hi:=List.mem_range.mp hi;rw[h i l[i] (List.getElem?_eq_getElem hi)];exact z _ (aa0 hi)
theorem zT(hc:X.calm=true):e_ X (.builtin "all") (λxs H Q=>∃(p:Addr) (bs:List Bool),xs=[.ref p]/\dE X.K H p (bs.map V.bl)/\Q (.bl (bs.all id)) H):=by
 intro pins s σ H xs us Q I r h;obtain⟨p,bs,rfl,hq,q⟩:=h;obtain⟨u,rfl,ru⟩:=r.one;cases ru;obtain⟨aI,rv,pl,hz⟩:=I.list hq;have hlen:aI.length=bs.length:=by have:=rv.length;simpa using this.symm
 refine call_all_walk (t5 (cR pl) λs₂ e st FL U3=>?_);subst e;refine⟨_,_,_,_,_,_,λi=>bs.getD i false,rfl,Walks.list (A:=X.A.in1) (I.ok.hd hc) _ p U3 aI.toArray,st,λi v s' Q' E' hP hQ=>?_,λh' tk hk=>?_⟩
 ·have hv:aI[i]?=some v:=by simpa using hP
  have hi:i<aI.length:=by
   by_cases z:i<aI.length
   ·exact z
   ·rw[List.getElem?_eq_none (by left)]at hv;cases hv
  have hn:(bs.map V.bl)[i]?=some (.bl (bs.getD i false)):=by
   rw[List.getElem?_map,List.getElem?_eq_getElem (by left)];simp[List.getD,show i<bs.length by left]
  obtain⟨u,hu,ru⟩:=rv.get hn;rw[hv]at hu;cases hu;cases ru;exact aaM hQ
 ·refine⟨.bl (bs.all id),H,I.kept (t':=tk) (t4 hk),?_,q⟩;show Value.bool _=Value.bool _;rw[List.size_toArray,hlen,range_all bs id _ λi a e=>by simp[List.getD,e]]
end
variable {ms ns:ae}
section
variable {prog:aE}{w:World}{A:aG}{E:aA}{s:Shared}
theorem oM{l:Addr}{vs:ai}{Q:ai->Shared->Prop}{o:Obj}{n:Nat}(ho:s.heap.get? l=some o)(hc:o.cls=.type "tuple")(hd:o.data=.seq vs.toArray n)
  (h:Q vs { s with heap:=(s.heap.push (seqObj "list" #[] 0)).update s.heap.objs.size (Obj.mapSeq (· ++ vs.toArray)) }) (hsz:vs.length<=sizeLine):wpAny (model prog w) A (collect (.ref l)) Q E s:=by
 unfold collect;refine aaa (wpAny_runValue (abc entry_proto_collect' ?_));show wpAny _ _ (newList [] >>= λz=>again (.builtin "list.__iadd__" ⟨[z,.ref l],[]⟩)) _ _ s;refine aaa (abF (aad ⟨ab7 _ (by decide +kernel),abc entry_list_iadd' ?_⟩));have z1:(s.heap.push (seqObj "list" #[] 0)).get? l=some o:=aae _ ho;have z2:(s.heap.push (seqObj "list" #[] 0)).get? s.heap.objs.size=some (seqObj "list" #[] 0):=aan _ rfl;show wpAny _ _ (Builtin.List.listExtendWith (.ref s.heap.objs.size) (.ref l) (.ref s.heap.objs.size)) _ _ ({ s with heap:=s.heap.push (seqObj "list" #[] 0) }:Shared);unfold Builtin.List.listExtendWith;refine aaa (wpAny_typeOf (T:="tuple") ⟨o,z1,hc⟩ ?_);rw[aaQ (by rw[show(Value.type "tuple" == Value.type "tuple")=true from rfl,Bool.or_true])];refine aaa (listItems_at z1 hd (aaa (listItems_at z2 rfl ?_)));rw[if_neg (by simp)];refine aaa (listUpdate_at z2 rfl ?_ (aaL _) (by
  show(#[]++vs.toArray).size<=sizeLine+1;rw[Array.size_append,List.size_toArray];exact acd (by simpa using hsz)))
 refine aad ?_;show wpAny (model prog w) A (load s.heap.objs.size >>= λo=>match o.data with
   |.seq xs _=>pure xs.toList
   |_=>unsupported "internal:collect") Q E ({ s with heap:=(s.heap.push (seqObj "list" #[] 0)).update s.heap.objs.size (Obj.mapSeq (· ++ vs.toArray)) }:Shared)
 refine aaa (wpAny_load (get?_update_seq z2 _) ?_);show wpAny _ _ (pure ((#[]:aR)++vs.toArray).toList) Q E _;rw[show((#[]:aR)++vs.toArray).toList=vs by simp];exact aad h
theorem pk{l:Addr}{vs:ai}{Q:aA}{o:Obj}{n:Nat}(ho:s.heap.get? l=some o)(hc:o.cls=.type "tuple")(hd:o.data=.seq vs.toArray n)(hI:IntsAre vs ns)(qm:vs.length<64)
  (h:∀(out:aR) (g5:ae),IntsAre out.toList g5->g5.Perm ns->g5.Pairwise (· <= ·)->Q (.ref (s.heap.objs.size+1)) { s with heap:=sortedAll s.heap vs out }):wpAny (model prog w) A (call (.builtin "sorted") [.ref l]) Q E s:=by
 refine abk kind_sorted plain_sorted entry_sorted (args_sorted1 _) ?_;unfold Builtin.«sorted»;have hz:vs.length<=sizeLine:=by rw[sizeLine_eq];left
 refine aaa (m:=checkCount "sorted" 1 1 _) (aad (aaa (oM ho hc hd (aaa (abF ?_)) hz)));have e1:((s.heap.push (seqObj "list" #[] 0)).update s.heap.objs.size (Obj.mapSeq (· ++ vs.toArray))).objs.size=s.heap.objs.size+1:=by rw[Heap.size_update,size_push']
 have e2:(((s.heap.push (seqObj "list" #[] 0)).update s.heap.objs.size (Obj.mapSeq (· ++ vs.toArray))).push (seqObj "list" vs.toArray 0)).get? (s.heap.objs.size+1)=some (seqObj "list" vs.toArray 0):=by
  rw[<- e1];exact aan _ rfl
 show wpAny _ _ _ _ _ ({ s with heap:=((s.heap.push (seqObj "list" #[] 0)).update s.heap.objs.size (Obj.mapSeq (· ++ vs.toArray))).push (seqObj "list" vs.toArray 0) }:Shared);rw[e1];refine aaa (aaB (aaI slot_list_sort ⟨_,e2,rfl⟩ entry_list_sort (list_sort_tree e2 hI qm λout g5 a1 a2 a3=>⟨_,rfl,aad ⟨_,rfl,h out g5 a1 a2 a3⟩⟩) (args_list_sort _)))
end
theorem sortI_perm(ns:ae):(sortI ns).Perm ns:=aaG ..
theorem AH(ns:ae):(sortI ns).Pairwise (· <= ·):=by
 have:=aby (le:=λa b:Int=>decide (a<=b)) (by intro a b c;simp;left) (by intro a b;simp;left) ns;unfold sortI;simpa using this
theorem cM:∀{vs:ai} {ns:ae},Vals (ns.map V.int) vs->IntsAre vs ns
 |_,[],h=>by cases h;exact .nil
 |_,n::ns,h=>by
  cases h with
  |cons r t=>obtain⟨tk,rfl⟩:=r;exact .cons n tk (cM t)
theorem so:e_ X (.builtin "sorted") (λxs H Q=>∃(p:Addr) (ns:ae),xs=[.ref p]/\(dE X.K H p (ns.map V.int)\/aW X.K H p (ns.map V.int))/\ns.length<64/\∀l,H l=none->Q (.ref l) (upd H l (.lst ((sortI ns).map V.int)))):=by
 intro pins s σ H xs us Q I r h;obtain⟨p,ns,rfl,hq,qm,q⟩:=h;obtain⟨u,rfl,ru⟩:=r.one;cases ru;have fin:∀(vs:ai) (out:aR) (g5:ae),IntsAre out.toList g5->g5.Perm ns->g5.Pairwise (· <= ·)->EP X pins σ Q (.ref (s.heap.objs.size+1)) { s with heap:=sortedAll s.heap vs out }:=by
  intro vs out g5 h1 h2 h3;obtain rfl:g5=sortI ns:=PySem.W.ksm_same (h2.trans (sortI_perm ns).symm) h3 (AH ns);obtain⟨e,he⟩:=sortedAll_at s.heap vs out;have hn:H (s.heap.objs.size+1)=none:=I.cC.fresh (abh _);refine⟨.ref (s.heap.objs.size+1),upd H (s.heap.objs.size+1) (.lst ((sortI ns).map V.int)),I.laid (t':=s.toks) (λb u z=>sortedAll_old z) (abh _) ⟨?_,out.toList,e,kN h1,by simpa using he⟩,rfl,q _ hn⟩;rw[List.length_map,(sortI_perm ns).length_eq,sizeLine_eq];left
 rcases hq with hq|hq
 ·obtain⟨aI,rv,pl,hz⟩:=I.list hq;have hl:aI.length<64:=by rw[<- rv.length];simpa using qm
  exact sorted_ints (cR pl) (cM rv) hl λout g5 h1 h2 h3=>fin aI out g5 h1 h2 h3
 ·obtain⟨aI,rv,⟨o,ho,hc,n,hd⟩,hz⟩:=I.tuple hq;have hl:aI.length<64:=by rw[<- rv.length];simpa using qm
  exact pk ho hc hd (cM rv) hl λout g5 h1 h2 h3=>fin aI out g5 h1 h2 h3
theorem Ao:isSubtype (.type "tuple") (.type "set")=pure false:=by rw[isSubtype_type];kernel_rfl
theorem sT:isSubtype (.type "tuple") (.type "frozenset")=pure false:=by rw[isSubtype_type];kernel_rfl
noncomputable abbrev l7(led:Bool):Obj:={ cls:=.type "set",dict:=none,data:=.set #[] 0 (.fresh 0 0 led) }
noncomputable abbrev dist(ns:ae):ae:=firstMet (λi=>ns.getD i 0) ns.length
section
variable {prog:aE}{w:World}{A:aG}{E:aA}{s:Shared}
theorem vn{l:Addr}{aI:ai}{Q:aA}(hh:A.handled=none)(hl:s.heap.IsTuple l aI.toArray)(hi:IntsAre aI ns)(hb:aI.length+1<scanBound)
  (h:∀(h':Heap) (tk:Nat),h'.SetOf (intKind prog w) s.heap.objs.size (λk=>(dist ns).any (· == k)) (dist ns).length->(∀b o,b<s.heap.objs.size->s.heap.get? b=some o->h'.get? b=some o)->Q (.ref s.heap.objs.size) { s with heap:=h',toks:=tk }) :
  wpAny (model prog w) A (call (.type "set") [.ref l]) Q E s:=by
 have UY:aI.length=ns.length:=hi.length;obtain⟨c,tl,k1⟩:=F.called_set.mro;have k2:=F.called_set.made;have k3:=F.called_set.sub;have k4:=F.called_set.notType;have k5:=F.called_set.canCreate;have k6:=F.typeCall_set_1 (.ref l);refine wpAny_call (codeAny_of_tree (show wpAny _ _ (callAny (.type "set") _) _ _ _ from aad ⟨ab7 _ (by decide +kernel),abc F.entry_type_call ?_⟩));rw[Around.under_plain (weight_type_call_type "set" [.ref l] []) rfl]
 repeat (any_goals (first|assumption|wp_step))
 refine abK (code_set_new_1 (.ref l) (E:=E) (Q₁:=λz s₁=>∃led:Bool,z=.ref s.heap.objs.size/\s₁={ s with heap:=s.heap.push (l7 led) }) λled=>⟨led,rfl,rfl⟩) λr s₁ hr=>?_;cases r with
 |error e=>exact hr
 |ok fl =>
  cases fl with
  |next=>exact hr.elim
  |brk=>exact hr.elim
  |cont=>exact hr.elim
  |ret z =>
   obtain⟨led,rfl,rfl⟩:=hr;have g1:(s.heap.push (l7 led)).get? s.heap.objs.size=some (l7 led):=aan _ rfl;have g2:Shared.TypeIs { s with heap:=s.heap.push (l7 led) } (.ref s.heap.objs.size) "set":=⟨_,g1,rfl⟩
   have g3:=F.called_set.init.lookup;have g4:=F.called_set.init.bind (.ref s.heap.objs.size)
   repeat (any_goals (first|assumption|wp_step))
   refine abK (abP (R:=wants (λr s₂=>r=.none/\∃h' tk,s₂={ s with heap:=h',toks:=tk }/\h'.SetOf (intKind prog w) s.heap.objs.size (λk=>(dist ns).any (· == k)) (dist ns).length/\∀b o,b<s.heap.objs.size->s.heap.get? b=some o->h'.get? b=some o) E) F.called_set.init.plain F.entry_set_init (check_set_init_1 g2 ?_)) λr₂ s₂ t8=>?_
   ·obtain⟨ot,Xh,Xs,nt,Xn⟩:=hl;obtain⟨oc,od,odt,Bl⟩:=ot;simp only at Xs Xn;subst Xs;subst Xn;have u1:(s.heap.push (l7 led)).get? l=some { cls:=.type "tuple",dict:=od,data:=.seq aI.toArray nt,slots:=Bl }:=aae _ Xh;have u2:=Ao;have u3:=sT;have u4:(Value.type "tuple" == Value.type "dict")=false:=by decide
    have u5:(s.heap.push (l7 led)).IsTuple l aI.toArray:=⟨_,u1,rfl,nt,rfl⟩
    unfold Builtin.«set.__init__» noKeywords Builtin.Frozenset.updateFrom;generalize hPI:pyIter=PI
    wp_walk
    subst hPI;refine wpAny_pyIter_tuple u5 (aaa (wpAny_runValue ?_));have u6:l<s.heap.objs.size:=aaf Xh;have u7:A.in1.in1.in1.handled=none:=by simp[hh]
    have hz:(s.heap.push (l7 led)).objs.size=s.heap.objs.size+1:=Heap.size_push ..;have u8:l≠(s.heap.push (l7 led)).objs.size:=by rw[hz];exact aal (aaC u6)
    have u9:s.heap.objs.size∉[(s.heap.push (l7 led)).objs.size,l]:=by
     rw[hz];intro m;simp at m;exact absurd m (aav u6)
    have v1:∀(i:Nat) (v:Value),aI.toArray[i]?=some v->∃t,v=.int ((λi=>ns.getD i 0) i) t:=λi v hv=>hi.int_at i v (by simpa using hv);refine codeAny_set_update_loopS ((Walks.tuple u7 _ l u8 aI.toArray).toS) s.heap.objs.size u9 (λi=>ns.getD i 0) v1 (by rw[List.size_toArray];exact hb) (aI.toArray.size - 0) 0 _ (by left) (aaL _) ⟨⟨_,aan _ rfl,rfl,rfl⟩,u5.push _⟩ ?hS0 ?hR
    case hS0 =>
     have y1:((s.heap.push (l7 led)).push { cls:=.type "tuple_iterator",data:=.fields #[.ref l,.int 0 0] }).get? s.heap.objs.size=some (l7 led):=aae _ g1;exact SetOf_congr ((setObjOf_fresh (knd:=intKind prog w) led).setOf y1 (by unfold scanBound;left)) (λ_=>rfl) rfl
    case hR =>
     intro s' hm zC;obtain⟨h',g',d',Yr,TH⟩:=s';cases (show g'=s.gens from hm.gens);cases (show d'=s.drawn from hm.drawn);cases (show TH=s.os from hm.os);have zC:h'.SetOf (intKind prog w) s.heap.objs.size (λk=>(dist ns).any (· == k)) (dist ns).length:=by
      have e:aI.toArray.size=ns.length:=by rw[List.size_toArray,UY]
      rw[e]at zC;exact zC
     refine aad (show wpAny _ _ (ret Value.none) _ _ _ from aad ⟨rfl,h',Yr,rfl,zC,λb o hb e=>hm.heap b o (λm=>?_) (aae _ (aae _ e))⟩);rcases List.mem_cons.mp m with m|m
     ·exact aal hb m
     ·have m:b=(s.heap.push (l7 led)).objs.size:=by simpa using m
      rw[hz]at m;exact aal (aaC hb) m
   ·cases r₂ with
    |error e=>exact t8
    |ok Qf =>
     cases Qf with
     |ret r =>
      obtain⟨rfl,h',tk,rfl,zC,RF⟩:=t8
      repeat (any_goals (first|assumption|wp_step))
      exact h _ _ zC RF
     |next=>exact t8.elim
     |brk=>exact t8.elim
     |cont=>exact t8.elim
end
theorem CP(ns:ae):dist ns=oI ns:=by
 unfold dist firstMet oI;have e:(List.range ns.length).map (λi=>ns.getD i 0)=ns:=by
  refine acg (by simp) λi h1 h2=>?_;simp at h1;simp[h1]
 rw[e];rfl
def YV(K:ao):af->Hp->VK->Prop:=λxs H Q=>∃(p:Addr) (ns:ae),xs=[.ref p]/\aW K H p (ns.map V.int)/\ns.length<4000/\Q (.int (oI ns).length) H
theorem boot_set:bootBuiltins ("set" : Str)=some (.type "set"):=by decide +kernel
theorem EM{e:Expr}{t:TA}{p:Pos}(hc:X.calm=true)(U8:Gl X ("len" : Str))(ZJ:X.mg ("len" : Str)=none)(ZP:Gl X ("set" : Str))(ZI:X.mg ("set" : Str)=none)(ha:PA X [e] t)
  (mF:∀es,starEach (e::es) X.env=(false,eval e X.env)::starEach es X.env):PE X (.Call (.Name ("len" : Str) p) [.Call (.Name ("set" : Str) p') [e] [] pos'] [] pos) (M0 (YV X.K) t):=by
 intro pins s σ H Q I h;refine aa2 (gj I U8 ZJ PySem.boot_len ?_ (by decide) (by decide));refine PyProof.Rows.callWith_builtin1 ?_ rfl rfl;show wpAny _ _ (spliced ((false,eval (.Call (.Name ("set" : Str) p') [e] [] pos') X.env)::[])) _ _ s;refine ab4 ?_;refine aa2 (gj I ZP ZI boot_set ?_ (by decide) (by decide));refine aaA (cN (ha pos' pins s σ H _ I h) λus s1 bF=>?_) (mF _) rfl;obtain⟨vs,H1,I1,r1,q1⟩:=bF;obtain⟨a,ns,rfl,hq,hl,q⟩:=q1;obtain⟨u,rfl,ru⟩:=r1.one;cases ru;obtain⟨aI,rv,it,hz⟩:=I1.tuple hq;have hle:aI.length=ns.length:=by rw[<- rv.length];simp
 refine vn (I1.ok.hd hc) it (cM rv) (by unfold scanBound;left) λh' tk hS kp=>acb ?_;rw[CP]at hS;obtain⟨o,es,ep,tb,g1,g2,g3,_,_,g6,g7,g8⟩:=hS;refine call_len_set g1 g2 g3 g7 (by unfold scanBound at g6;omega) ?_;exact⟨.int (oI ns).length,H1,I1.kept (t':=tk+1+1) λb u z=>kp b u (aaf z) z,⟨_,by rw[g8]⟩,q⟩
variable {N':fc}{args elts:av}
section
variable {X:Cx}{S:Sx}{k:Nat}{F:ah}{Φ:bh}
theorem Lk.Wy(L:Lk X S k Φ):X.A.units+40<cLine:=by have:=L.room.units;left
def Q9(K:ao)(neg:Bool):R2:=λv u H Q=>∃(d d':D) (N N':fc) (k k':bo),Rep (aW K H) N k v d/\Rep (aW K H) N' k' u d'/\(∀q p xs f,N q p (.l xs) f->dE K H p xs)/\(∀q p xs f,N' q p (.l xs) f->dE K H p xs)/\dX 40 d=true/\dX 40 d'=true /\
 Q (.bl (if neg then !ia d d' else ia d d')) H
theorem Jr(hu:X.A.units+40<cLine):js X (compareOp .Eq) (Q9 X.K false):=by
 intro pins s σ H x y v u Q I rx ry h;obtain⟨d,d',N,N',k,k',r1,r2,n1,n2,o1,o2,q⟩:=h;exact(alike I n1 n2 40 X.A r1 r2 o1 o2 rx ry hu).rc X.prog X.w X.xe _ ⟨.bl _,H,I,rfl,q⟩
theorem Jq(hu:X.A.units+40<cLine):js X (compareOp .NotEq) (Q9 X.K true):=by
 intro pins s σ H x y v u Q I rx ry h;obtain⟨d,d',N,N',k,k',r1,r2,n1,n2,o1,o2,q⟩:=h;exact(alike I n1 n2 40 X.A r1 r2 o1 o2 rx ry hu).ne X.prog X.w X.xe _ ⟨.bl _,H,I,rfl,q⟩
theorem A0{N:fc}{k:bo}{v v':V}{d d':D}(h:Rep T N k v d)(h':Rep T' N' k' v' d')(f:gG d=true)(f':gG d'=true):iV v=true/\FZ v v'=ia d d':=by
 cases h<;>first | (cases f;done) | (cases h'<;>first | (cases f';done)|exact⟨rfl,rfl⟩)
theorem qd{N:fc}{k:bo}{v:V}{d:D}(h:Rep T N k v d)(f:gG d=true):iV v=true:=by
 cases h<;>first | (cases f;done)|rfl
theorem qS{T T':kJ}{N N':fc}{k':bo}{v:V}{d:D}(hv:Rep T' N' k' v d)(f:gG d=true):∀{k:bo} {n:Nat} {xs:af} {ds:aa},aC T N k n xs ds->ds.all gG=true->xs.all iV=true/\Ry v xs=inD d ds
 |_,_,_,_,.nil,_=>⟨rfl,rfl⟩
 |_,_,_,_,.cons h t,fs=>by
  rw[List.all_cons,Bool.and_eq_true]at fs;obtain⟨h1,h2⟩:=qS hv f t fs.2;obtain⟨g1,g2⟩:=A0 h hv fs.1 f;refine⟨by rw[List.all_cons,g1,h1];rfl,?_⟩;unfold Ry at h2 ⊢;rw[List.any_cons,g2,h2];rfl
def IU(K:ao)(op:Ab):R2:=match op with
 |.eq=>Q9 K false
 |.ne=>Q9 K true
 |.lt=>A4 λi j=>.bl (decide (i<j))
 |.le=>A4 λi j=>.bl (decide (i<=j))
 |.gt=>A4 λi j=>.bl (decide (j<i))
 |.ge=>A4 λi j=>.bl (decide (j<=i))
 |.pF=>λx y H Q=>y=.bu/\Q (.bl (!decide (x=.bu))) H
 |.Hb=>Tt K false
theorem Bp(L:Lk X S k Φ)(op:Ab):js X (compareOp (TN op)) (IU X.K op):=by
 cases op with
 |eq=>exact Jr L.Wy
 |ne=>exact Jq L.Wy
 |lt=>exact NQ
 |le=>exact NR
 |gt=>exact NS
 |ge=>exact NT
 |pF=>exact ES
 |Hb=>exact y6
theorem q_{op:CmpOp}{r:Expr}(h:iP r=true):behindInMarks op r=false:=by
 cases r<;>first|rfl | (cases h;done)
theorem mQ{op:Ab}{x y d:D}(O1:op=.lt\/op=.le\/op=.gt\/op=.ge)(h:ej op x y=ok d):∃i j,x=.int i/\y=.int j:=by
 cases x with
 |int i=>cases y with
  |int j=>exact⟨i,j,rfl,rfl⟩
  |_=>rcases O1 with rfl|rfl|rfl|rfl<;>exact nk h
 |_=>rcases O1 with rfl|rfl|rfl|rfl<;>exact nk h
theorem uC{op:Ab}{a b:CE}(hq:tD X F Φ (.cmp op a b) σ H Q):DG (IU X.K op) (tD X F Φ a) (tD X F Φ b) σ H Q:=by
 obtain⟨R,τ,ρ,d,Si,ev,hq⟩:=hq;obtain⟨x,ex,ev⟩:=aB ev;obtain⟨y,ey,ev⟩:=aB ev;refine tD.intro Si ex λv H1 e1 r1=>tD.intro (Si.go e1) ey λu H2 e2 r2=>?_;have e:=e1.trans e2;have rv:=r1.go e2;have ru:=r2;obtain⟨τ1,f1,p1⟩:=rv;obtain⟨τ2,f2,p2⟩:=ru;have sq:∀{A:ah} {τ:Addr->Option bo} (q:bo) (p:Addr) (xs:af) (f:Fl),nd X.K R A τ H2 q p (.l xs) f->dE X.K H2 p xs:=λq p xs f h=>h.sq;cases op with
 |eq =>
  obtain⟨hc,ev⟩:=lI ev
  ·subst ev;rw[Bool.and_eq_true]at hc;exact⟨x,y,_,_,_,_,p1,p2,sq,sq,hc.1,hc.2,hq _ H2 e .bl⟩
 |ne =>
  obtain⟨hc,ev⟩:=lI ev
  ·subst ev;rw[Bool.and_eq_true]at hc;exact⟨x,y,_,_,_,_,p1,p2,sq,sq,hc.1,hc.2,hq _ H2 e .bl⟩
 |lt=>obtain⟨i,j,rfl,rfl⟩:=mQ (by simp) ev;cases ev;exact⟨_,_,(r1.go e2).isInt,r2.isInt,hq _ H2 e .bl⟩
 |le=>obtain⟨i,j,rfl,rfl⟩:=mQ (by simp) ev;cases ev;exact⟨_,_,(r1.go e2).isInt,r2.isInt,hq _ H2 e .bl⟩
 |gt=>obtain⟨i,j,rfl,rfl⟩:=mQ (by simp) ev;cases ev;exact⟨_,_,(r1.go e2).isInt,r2.isInt,hq _ H2 e .bl⟩
 |ge=>obtain⟨i,j,rfl,rfl⟩:=mQ (by simp) ev;cases ev;exact⟨_,_,(r1.go e2).isInt,r2.isInt,hq _ H2 e .bl⟩
 |pF =>
  cases y<;>simp[ej]at ev;cases p2;refine⟨rfl,hq _ H2 e ?_⟩;cases ev;cases p1<;>exact .bl
 |Hb =>
  simp only[ej]at ev;split at ev
  ·rename_i ds hi;split at ev
   ·rename_i hc;rw[Bool.and_eq_true]at hc;cases ev;cases p2 with
    |tup h rs=>cases hi;obtain⟨g1,g2⟩:=qS p1 hc.1 rs hc.2;exact⟨_,_,rfl,.inr h,qd p1 hc.1,g1,by rw[g2];exact hq _ H2 e .bl⟩
    |lst h rs=>cases hi;obtain⟨g1,g2⟩:=qS p1 hc.1 rs hc.2;exact⟨_,_,rfl,.inl h.sq,qd p1 hc.1,g1,by rw[g2];exact hq _ H2 e .bl⟩
    |_=>cases hi
   ·cases ev
  ·cases ev
theorem Aw{c:CE}{Q:Bool->Hp->Prop}(h:fZ X F Φ c σ H Q):tB (tD X F Φ c) σ H Q:=by
 obtain⟨R,τ,ρ,b,Si,ev,hq⟩:=h;unfold wa at ev;obtain⟨d,ed,et⟩:=aB ev;refine tD.intro Si ed λv H' e r=>?_;cases d<;>simp[iG]at et;cases et;exact⟨_,r.zi,hq H' e⟩
theorem cG{c:CE}{e:Expr}(h:PE X e (tD X F Φ c))(he:∀whole,isTrue e X.env whole=(do let v <- whole;standAt e.pos;holding [v] (truthy v))):PT X e (fZ X F Φ c) :=
 PT.imp (IZ h he) λ_ _ _ h=>Aw h
theorem yK{op:Ab}{a b:CE}{Q:Bool->Hp->Prop}(h:fZ X F Φ (.cmp op a b) σ H Q):GJ (DG (IU X.K op) (tD X F Φ a) (tD X F Φ b)) σ H Q :=
 uC (Aw h)
theorem dictAt{pins:ak}{s:Shared}{p:Addr}{cs:aF}(I:Inv X pins σ H s)(h:H p=some (.ext (DO p cs as xs ep))):∃o,s.heap.get? p=some o/\o.cls=.type "dict":=by
 obtain⟨⟨zs,o,es,_,_,_,ho,hx,_⟩,_⟩:=(show cK X.prog X.w H s.heap p (.ext (DO p cs as xs ep)) from I.cC p _ h)
 exact⟨o,ho,hx.1⟩
theorem JM(L:Lk X S k Φ)(t:Ty):e_ X (.builtin "isinstance") (λxs H Q=>∃(x:V) (d:D) (N:fc) (k:bo),xs=[x,.ty (tyName t)]/\Rep (aW X.K H) N k x d/\(∀q p xs f,N q p (.l xs) f->dE X.K H p xs)/\(∀q p cs as xs ep f,N q p (.d cs as xs ep) f->H p=some (.ext (DO p cs as xs ep)))/\Q (.bl (cL t d)) H):=by
 intro pins s σ H xs us Q I r h;obtain⟨x,d,N,k,rfl,rp,hN,hND,q⟩:=h;obtain⟨u,w',rfl,ru,lE⟩:=vals2 r;cases (show w'=Value.type (tyName t) from lE);have kt:=Fm X.K t;have fin:∀b:Bool,b=cL t d->∀tk,EP X pins σ Q (.bool b) { s with toks:=tk }:=λb e tk=>⟨.bl b,H,I.tok tk,rfl,by rw[e];exact q⟩
 cases rp with
 |bu=>cases ru;exact aaR PySem.W.kitx_none I.xH True.intro (kt "NoneType" (by simp[kinds])) (λz=>nomatch z) (fin _ (by cases t<;>rfl))
 |bl b=>cases ru;exact aaR PySem.W.kitx_bool I.xH True.intro (kt "bool" (by simp[kinds])) (λz=>nomatch z) (fin _ (by cases t<;>rfl))
 |int i=>obtain⟨t',rfl⟩:=ru;exact aaR PySem.W.kitx_int I.xH True.intro (kt "int" (by simp[kinds])) (λz=>nomatch z) (fin _ (by cases t<;>rfl))
 |str y=>obtain⟨t',rfl⟩:=ru;exact aaR PySem.W.kitx_str I.xH True.intro (kt "str" (by simp[kinds])) (λz=>nomatch z) (fin _ (by cases t<;>rfl))
 |tup h _ =>
  cases ru;obtain⟨aI,_,⟨o,h1,h2,_⟩,_⟩:=I.tuple h;exact aaR PySem.W.kitx_tuple I.xH ⟨o,h1,h2⟩ (kt "tuple" (by simp[kinds])) (λz=>nomatch z) (fin _ (by cases t<;>rfl))
 |lst h _ =>
  cases ru;obtain⟨aI,_,⟨o,n,h1,h2,_⟩,_⟩:=I.list (hN _ _ _ _ h);exact aaR PySem.W.kitx_list I.xH ⟨o,h1,h2⟩ (kt "list" (by simp[kinds])) (λz=>nomatch z) (fin _ (by cases t<;>rfl))
 |cy h _ _ =>
  cases ru;obtain⟨o,h1,h2⟩:∃o,s.heap.get? _=some o/\o.cls=.type "dict":=dictAt I (hND _ _ _ _ _ _ _ h);exact aaR PySem.W.kitx_dict I.xH ⟨o,h1,h2⟩ (kt "dict" (by simp[kinds])) (λz=>nomatch z) (fin _ (by cases t<;>rfl))
theorem Gm(t:Ty):bootBuiltins (tyName t:Str)=some (.type (tyName t)):=by
 cases t<;>decide +kernel
theorem pV(t:Ty):(tyName t:Str) ≠ "__name__" /\ ((tyName t:Str)==("__debug__" : Str))=false:=by
 cases t<;>decide +kernel
theorem IE(L:Lk X S k Φ){a:CE}{t:Ty}{e:Expr}{p:Pos}(hf:iI S.sc ("isinstance" : Str)=true)(Va:("isinstance" : Str)∈S.bl)(hg:iI S.sc (tyName t:Str)=true)(U7:(tyName t:Str)∈S.bl)
  (ha:PE X e (tD X F Φ a)) (mF:∀es,starEach (e::es) X.env=(false,eval e X.env)::starEach es X.env):PE X (.Call (.Name ("isinstance" : Str) p) [e,.Name (tyName t:Str) p'] [] pos) (tD X F Φ (.o8 a t)):=by
 have hT:PE X (.Name (tyName t:Str) p') (tC (.ty (tyName t))):=xo (L.gl hg) (L.bl _ U7) (Gm t) rfl (pV t).1 (pV t).2;refine PE.imp (dG (JM L t) (L.gl hf) (L.bl _ Va) PyProof.Rows.boot_isinstance (cV ha (cV hT fI) (mF _)) (he:=mF _)) λσ H Q hq=>?_;obtain⟨R,τ,ρ,d,Si,ev,hq⟩:=hq;obtain⟨x,ex,ev⟩:=aB ev;cases ev;refine tD.intro Si ex λv H1 e1 r1=>?_;obtain⟨τ1,f1,p1⟩:=r1;exact⟨v,x,_,_,rfl,p1,λq p xs f h=>h.sq,λq p cs as xs ep f h=>h.dat,hq _ H1 e1 .bl⟩
theorem JS:@DI.kZ=@L2.kZ:=rfl
theorem Nh(L:Lk X S k Φ){a b:CE}{e i:Expr}(ha:PE X e (tD X F Φ a))(hb:PE X i (tD X F Φ b))(hp:mY i):PE X (.Subscript e i pos) (tD X F Φ (.ix a b)):=by
 refine PE.imp (GY (Fq.or JR) ha hb hp) λσ H Q hq=>?_;obtain⟨R,τ,ρ,d,Si,ev,hq⟩:=hq;obtain⟨x,ex,ev⟩:=aB ev;obtain⟨y,ey,ev⟩:=aB ev;refine tD.intro Si ex λv H1 e1 r1=>tD.intro (Si.go e1) ey λu H2 e2 r2=>?_;have ee:=e1.trans e2;have rv:=(r1.go e2).mono (fv':=iJ (.ix a b)) λj hj=>aat _ hj;have item:∀{q:bo} {xs:af} {ds:aa} {τt:Addr->Option bo} {j:Int},(∀p q,τt p=some q->H p=none)->aC (aW X.K H2) (nd X.K R (jD (gP X F) τ (iJ (.ix a b))) τt H2) q 0 xs ds->mn ds j=ok d->∃w,L2.Mt xs j=some w/\Q w H2:=by
  intro q xs ds τt j fr rs h;unfold mn at h;split at h
  ·rename_i d' hd;cases h;cases hx:DI.kZ ds.length j with
   |none=>rw[hx]at hd;cases hd
   |some m =>
    rw[hx]at hd;obtain⟨w,hw,lE⟩:=rs.get (show ds[m]?=some d' from hd);refine⟨w,?_,hq w H2 ee ⟨λ_=>none,λ_ _ h=>by simp at h,lE.fT Si fr⟩⟩;unfold L2.Mt;rw[<- JS,rs.length,hx];exact hw
  ·cases h
 cases y with
 |int j =>
  obtain⟨τt,fr,rp⟩:=rv;cases r2.isInt;cases x with
  |tup ds =>
   cases rp with
   | @tup _ p xs _ h rs=>obtain⟨w,h1,h2⟩:=item fr rs ev;exact .inr ⟨p,xs,j,w,rfl,rfl,h,h1,h2⟩
  |lst f ds =>
   cases rp with
   | @lst _ p xs _ _ h rs=>obtain⟨w,h1,h2⟩:=item fr rs ev;exact .inl ⟨p,xs,j,w,rfl,rfl,h.sq,h1,h2⟩
  |_=>exact nk ev
 |_=>cases x<;>cases ev
theorem kA:∀(cs:az) {ρ:a_} {ds:aa},bK Φ cs ρ=ok ds->ds.length=cs.length
 |[],_,_,h=>by cases h;rfl
 |c::cs,_,_,h=>by
  obtain⟨x,_,h⟩:=aB h;obtain⟨xs,hx,h⟩:=aB h;cases h;simp[kA cs hx]
theorem IA{es:av}{n:Nat}(h:PA X es (pZ X F Φ cs))(hl:cs.length<=1000):PE X (.Tuple es n pos) (tD X F Φ (.tup cs)):=by
 refine PE.imp (Jf h) λσ H Q hq=>?_;obtain⟨R,τ,ρ,d,Si,ev,hq⟩:=hq;obtain⟨ds,Lj,ev⟩:=aB ev;cases ev;refine⟨R,τ,ρ,ds,Si,Lj,λvs H1 e1 r1=>?_⟩;obtain⟨τt,fr,rs⟩:=r1;have hz:sizeLine=16777216:=aa6;refine⟨by rw[rs.length,kA cs Lj];left,λp hp=>?_⟩;have es:aK H1 (upd H1 p (.tup vs)):=aK.upd hp;exact hq _ _ (e1.trans es) ⟨τt,fr,.tup (aW.of aZ) (rs.imp (λ_ _ h=>aW.same es h) λ_ _ _ _ h=>nd.same es h)⟩
theorem ID{es:av}(h:PA X es (pZ X F Φ cs))(hl:cs.length<=1000):PE X (.List es pos) (tD X F Φ (.lst cs)):=by
 refine PE.imp (Bk h) λσ H Q hq=>?_;obtain⟨R,τ,ρ,d,Si,ev,hq⟩:=hq;obtain⟨ds,Lj,ev⟩:=aB ev;cases ev;refine⟨R,τ,ρ,ds,Si,Lj,λvs H1 e1 r1=>?_⟩;obtain⟨τt,fr,rs⟩:=r1;have hz:sizeLine=16777216:=aa6;refine⟨by rw[rs.length,kA cs Lj];left,λp hp=>?_⟩;have es:aK H1 (upd H1 p (.lst vs)):=aK.upd hp;refine hq _ _ (e1.trans es) ⟨λq=>if q=p then some []else τt q,λq z hq=>?_,.lst ⟨aZ,by simp⟩ (rs.imp (λ_ _ h=>aW.same es h) λc q xs f h=>?_)⟩
 ·by_cases vT:q=p
  ·subst vT;exact e1.free hp
  ·simp only[vT,if_false]at hq;exact fr q z hq
 ·have h':=nd.same es h;cases f with
  |ow =>
   have vT:q≠p:=by
    intro z;subst z;exact h.1.ne hp
   exact⟨h'.1,by simp only[vT,if_false];exact h'.2⟩
  |fz=>exact h'
  |al=>exact h'
  |sc=>exact h'
theorem Et(L:Lk X S k Φ){f:Nat}{x:Str}{y:Expr}{ys:av}{p:Pos}(hf:S.fn f=some x)(hg:iI S.sc x=true)(hn:ma x=true)(ha:PA X (y::ys) (pZ X F Φ cs))
  (mF:∀es,starEach (y::es) X.env=(false,eval y X.env)::starEach es X.env) (hpl:∀pos,(backTo pos (starEach ys X.env)).any (·.1)=false):PE X (.Call (.Name x p) (y::ys) [] pos) (tD X F Φ (.call f cs)):=by
 obtain⟨a,fd,ps,Fo,hm,hk,hb,hl⟩:=(L.fn f x hf).ex;unfold ma at hn;simp only[Bool.and_eq_true,Bool.not_eq_true']at hn;refine PE.imp (xn Fo L.room (L.gl hg) hm hk hb .nil (NO (X:=X)) ha hn.1.1 (mF _) (hpl _)) λσ H Q hq=>?_;obtain⟨R,τ,ρ,d,Si,ev,hq⟩:=hq;obtain⟨xs,b7,ev⟩:=aB ev;obtain⟨r,er,ev⟩:=aB ev;cases ev;refine⟨R,τ,ρ,xs,Si,b7,λvs H1 e1 r1=>?_⟩;obtain⟨τt,fr,rs⟩:=r1;have fresh:∀p,H p=none->jD (gP X F) τ (cO cs) p:=λp hp=>⟨.inr (Si.same.free hp),λc i e=>absurd hp (Si.th p _ e)⟩
 have hR:∀p,R p->jD (gP X F) τ (cO cs) p:=λp hp=>⟨Si.rf p hp,λc i e=>by rw[Si.rt p hp]at e;cases e⟩
 rw[List.append_nil];refine⟨jD (gP X F) τ (cO cs),au aL xs,r,by rw[rs.length,<- hl _ _ er,aM,List.length_map],aC.g_ (λ_ _ h=>h) (λk k' p xs f h=>?_) rs _ _,er,λv H2 e2 rr=>?_⟩
 ·cases f with
  |ow=>exact⟨h.1,fresh p (fr p _ h.2)⟩
  |fz=>exact⟨h.1,hR p h.2⟩
  |al=>exact h
  |sc=>exact h
 ·obtain⟨τ2,Mm,rp⟩:=rr;refine hq v H2 (e1.trans e2) ⟨τ2,λp q h=>e1.free (Mm p q h),Rep.map (q:=[]) (q':=[]) (λ_ _ h=>h) (λc p xs f h=>?_) rp [] rfl⟩;cases f with
  |ow=>exact h
  |fz=>exact⟨h.1,h.2.elim id λz=>fresh p (e1.free z)⟩
  |al=>exact h.2.elim
  |sc=>exact h
def WH(K:ao)(f:Bf):af->Hp->VK->Prop:=match f with
 |.len=>λxs H Q=>∃p ys,xs=[.ref p]/\(dE K H p ys\/aW K H p ys)/\Q (.int ys.length) H
 |.abs=>λxs H Q=>∃i,xs=[.int i]/\Q (.int (if i<0 then -i else i)) H
 |.vP=>λxs H Q=>(∃i,xs=[.int i]/\Q (.int i) H)\/∃k,xs=[.bl k]/\Q (.int (if k then 1 else 0)) H
 |.list1=>λxs H Q=>∃p ys,xs=[.ref p]/\(dE K H p ys\/aW K H p ys)/\∀l,H l=none->Q (.ref l) (upd H l (.lst ys))
 |.tuple1=>λxs H Q=>∃p ys,xs=[.ref p]/\((dE K H p ys/\∀l,H l=none->Q (.ref l) (upd H l (.tup ys)))\/(aW K H p ys/\Q (.ref p) H))
 |.lZ=>λxs H Q=>∃(p:Addr) (ns:ae),xs=[.ref p]/\dE K H p (ns.map V.int)/\Q (.int ns.sum) H
 |.all1=>λxs H Q=>∃(p:Addr) (bs:List Bool),xs=[.ref p]/\dE K H p (bs.map V.bl)/\Q (.bl (bs.all id)) H
 |.gY=>λxs H Q=>∃(p:Addr) (ns:ae),xs=[.ref p]/\(dE K H p (ns.map V.int)\/aW K H p (ns.map V.int))/\ns.length<64/\∀l,H l=none->Q (.ref l) (upd H l (.lst ((sortI ns).map V.int)))
theorem aC.one{N:fc}{k:bo}{n:Nat}{d:D}(h:aC T N k n vs [d]):∃v,vs=[v]/\Rep T N (n::k) v d:=by
 cases h with
 |cons h t=>cases t;exact⟨_,rfl,h⟩
theorem aC.two{N:fc}{k:bo}{n:Nat}{d e:D}(h:aC T N k n vs [d,e]):∃v w,vs=[v,w]/\Rep T N (n::k) v d/\Rep T N ((n+1)::k) w e:=by
 cases h with
 |cons h t=>obtain⟨w,rfl,h'⟩:=t.one;exact⟨_,_,rfl,h,h'⟩
theorem aC.ints1{N:fc}{k:bo}{n:Nat}{i:Int}(h:aC T N k n vs [.int i]):vs=[.int i]:=by
 obtain⟨v,rfl,z⟩:=h.one;cases z;rfl
theorem aC.ints2{N:fc}{k:bo}{n:Nat}{i j:Int}(h:aC T N k n vs [.int i,.int j]):vs=[.int i,.int j]:=by
 obtain⟨v,w,rfl,z,z'⟩:=h.two;cases z;cases z';rfl
noncomputable def Bf.one:Bf->Bool
 |_=>true
theorem Hx{f:Bf}{xs:aa}{d:D}(hf:f.one=true)(h:mU f xs=ok d):∃x,xs=[x]:=by
 cases xs with
 |nil=>cases f<;>exact nk h
 |cons x xs=>cases xs with
  |nil=>exact⟨x,rfl⟩
  |cons y ys=>cases f<;>first | (cases hf;done) | (cases x<;>exact nk h)
theorem aC.ofInts{T:kJ}{N:fc}{k:bo}:∀{ns:ae} {n:Nat} {vs:af},aC T N k n vs (ns.map D.int)->vs=ns.map V.int
 |[],_,_,h=>by cases h;rfl
 |i::ns,_,_,h=>by
  cases h with
  |cons h t=>cases h;rw[aC.ofInts t];rfl
theorem aC.G1{T:kJ}{N:fc}{k:bo}:∀{ns:List Bool} {n:Nat} {vs:af},aC T N k n vs (ns.map D.bl)->vs=ns.map V.bl
 |[],_,_,h=>by cases h;rfl
 |i::ns,_,_,h=>by
  cases h with
  |cons h t=>cases h;rw[aC.G1 t];rfl
theorem qi{T:kJ}{N:fc}{k:bo}:∀(ns:ae) {n:Nat},aC T N k n (ns.map V.int) (ns.map D.int)
 |[],_=>.nil
 |i::ns,_=>.cons (.int i) (qi ns)
theorem Gp{f:Bf}(hq:tD X F Φ (.bf f cs) σ H Q):M0 (WH X.K f) (pZ X F Φ cs) σ H Q:=by
 obtain⟨R,τ,ρ,d,Si,ev,hq⟩:=hq;obtain⟨xs,b7,ev⟩:=aB ev;refine⟨R,τ,ρ,xs,Si,b7,λvs H1 e1 r1=>?_⟩;obtain⟨τt,fr,rs⟩:=r1;cases f with
 |len =>
  obtain⟨x,rfl⟩:=Hx rfl ev;obtain⟨v,rfl,rv⟩:=rs.one;cases x with
  |tup ds=>cases ev;obtain⟨_,_,rfl,h,r⟩:=rv.yD;exact⟨_,_,rfl,.inr h,by rw[r.length];exact hq _ H1 e1 .int⟩
  |lst f ds=>cases ev;obtain⟨_,_,rfl,h,r⟩:=rv.sO;exact⟨_,_,rfl,.inl h.sq,by rw[r.length];exact hq _ H1 e1 .int⟩
  |_=>exact nk ev
 |abs =>
  obtain⟨x,rfl⟩:=Hx rfl ev;cases x with
  |int i=>cases ev;cases rs.ints1;exact⟨_,rfl,hq _ H1 e1 .int⟩
  |_=>exact nk ev
 |vP =>
  obtain⟨x,rfl⟩:=Hx rfl ev;obtain⟨v,rfl,rv⟩:=rs.one;cases x with
  |bl i=>cases ev;cases rv;exact .inr ⟨_,rfl,hq _ H1 e1 .int⟩
  |_=>exact nk ev
 |list1 =>
  obtain⟨x,rfl⟩:=Hx rfl ev;obtain⟨v,rfl,rv⟩:=rs.one;cases x with
  |tup ds =>
   cases ev;obtain⟨_,_,rfl,h,r⟩:=rv.yD;refine⟨_,_,rfl,.inr h,λl hl=>?_⟩;exact hq _ _ (e1.trans (aK.upd hl)) (b_.rb (e1.free hl) (e1.trans (aK.upd hl)) aZ ((r.fT Si fr).imp (λ_ _ h=>aW.same (aK.upd hl) h) λ_ _ _ _ h=>nd.same (aK.upd hl) h))
  |lst f ds =>
   cases ev;obtain⟨_,_,rfl,h,r⟩:=rv.sO;refine⟨_,_,rfl,.inl h.sq,λl hl=>?_⟩;exact hq _ _ (e1.trans (aK.upd hl)) (b_.rb (e1.free hl) (e1.trans (aK.upd hl)) aZ ((r.fT Si fr).imp (λ_ _ h=>aW.same (aK.upd hl) h) λ_ _ _ _ h=>nd.same (aK.upd hl) h))
  |_=>exact nk ev
 |tuple1 =>
  obtain⟨x,rfl⟩:=Hx rfl ev;obtain⟨v,rfl,rv⟩:=rs.one;cases x with
  |lst f ds =>
   cases ev;obtain⟨_,_,rfl,h,r⟩:=rv.sO;refine⟨_,_,rfl,.inl ⟨h.sq,λl hl=>?_⟩⟩;exact hq _ _ (e1.trans (aK.upd hl)) ⟨λ_=>none,λ_ _ h=>by simp at h,.tup (aW.of aZ) ((r.fT Si fr).imp (λ_ _ h=>aW.same (aK.upd hl) h) λ_ _ _ _ h=>nd.same (aK.upd hl) h)⟩
  |_=>exact nk ev
 |lZ =>
  obtain⟨x,rfl⟩:=Hx rfl ev;obtain⟨v,rfl,rv⟩:=rs.one;cases x with
  |lst f ds =>
   have ev:(match intsOf ds with|some ns=>ok (.int ns.sum)|none=>none)=ok d:=ev;cases hn:intsOf ds with
   |none=>rw[hn]at ev;cases ev
   |some ns =>
    rw[hn]at ev;cases ev;cases dt hn;cases rv with
    |lst h r=>cases r.ofInts;exact⟨_,ns,rfl,h.sq,hq _ H1 e1 .int⟩
  |_=>exact nk ev
 |all1 =>
  obtain⟨x,rfl⟩:=Hx rfl ev;obtain⟨v,rfl,rv⟩:=rs.one;cases x with
  |lst f ds =>
   have ev:(match i6 ds with|some bs=>ok (.bl (bs.all id))|none=>none)=ok d:=ev;cases hn:i6 ds with
   |none=>rw[hn]at ev;cases ev
   |some ns =>
    rw[hn]at ev;cases ev;cases uG hn;cases rv with
    |lst h r=>cases r.G1;exact⟨_,ns,rfl,h.sq,hq _ H1 e1 .bl⟩
  |_=>exact nk ev
 |gY =>
  obtain⟨x,rfl⟩:=Hx rfl ev;obtain⟨v,rfl,rv⟩:=rs.one;have fin:∀ds,tf ds=ok d->∃ns:ae,ds=ns.map D.int/\ns.length<64/\∀l,H1 l=none->Q (.ref l) (upd H1 l (.lst ((sortI ns).map V.int))):=by
   intro ds e;unfold tf at e;split at e
   ·rename_i ns hn;split at e
    ·rename_i qm;cases e;refine⟨ns,dt hn,qm,λl hl=>hq _ _ (e1.trans (aK.upd hl)) (b_.rb (e1.free hl) (e1.trans (aK.upd hl)) aZ (qi _))⟩
    ·cases e
   ·cases e
  cases x with
  |tup ds =>
   obtain⟨ns,rfl,qm,q⟩:=fin ds ev;cases rv with
   |tup h r=>cases r.ofInts;exact⟨_,ns,rfl,.inr h,qm,q⟩
  |_=>exact nk ev
theorem Ni(L:Lk X S k Φ){f:Bf}{y:Expr}{ys:av}{p:Pos}(hg:iI S.sc (sy f:Str)=true)(hb:(sy f:Str)∈S.bl)(ha:PA X (y::ys) (pZ X F Φ cs))
  (mF:∀es,starEach (y::es) X.env=(false,eval y X.env)::starEach es X.env) (hpl:∀pos,(backTo pos (starEach ys X.env)).any (·.1)=false):PE X (.Call (.Name (sy f:Str) p) (y::ys) [] pos) (tD X F Φ (.bf f cs)):=by
 refine PE.imp (t:=M0 (WH X.K f) (pZ X F Φ cs)) ?_ λσ H Q hq=>Gp hq;cases f with
 |len=>exact dG sv (L.gl hg) (L.bl _ hb) PySem.boot_len ha (he:=mF _) (hpl:=hpl _)
 |abs=>exact dG Dd (L.gl hg) (L.bl _ hb) (by decide +kernel) ha (he:=mF _) (hpl:=hpl _)
 |vP=>exact kU zS (L.gl hg) (L.bl _ hb) (by decide +kernel) ha (he:=mF _) (hpl:=hpl _)
 |list1=>exact kU su (L.gl hg) (L.bl _ hb) (by decide +kernel) ha (he:=mF _) (hpl:=hpl _)
 |tuple1=>exact kU pM (L.gl hg) (L.bl _ hb) (by decide +kernel) ha (he:=mF _) (hpl:=hpl _)
 |lZ=>exact dG (zQ L.calm) (L.gl hg) (L.bl _ hb) (by decide +kernel) ha (he:=mF _) (hpl:=hpl _)
 |gY=>exact dG so (L.gl hg) (L.bl _ hb) (by decide +kernel) ha (he:=mF _) (hpl:=hpl _)
 |all1=>exact dG (zT L.calm) (L.gl hg) (L.bl _ hb) (by decide +kernel) ha (he:=mF _) (hpl:=hpl _)
theorem Ep(L:Lk X S k Φ){a:CE}{e:Expr}{p:Pos}(hf:iI S.sc ("len" : Str)=true)(Va:("len" : Str)∈S.bl)(hg:iI S.sc ("set" : Str)=true)(U7:("set" : Str)∈S.bl)
  (ha:PE X e (tD X F Φ a)) (mF:∀es,starEach (e::es) X.env=(false,eval e X.env)::starEach es X.env):PE X (.Call (.Name ("len" : Str) p) [.Call (.Name ("set" : Str) p') [e] [] pos'] [] pos) (tD X F Φ (.kh a)):=by
 refine PE.imp (EM L.calm (L.gl hf) (L.bl _ Va) (L.gl hg) (L.bl _ U7) (cV ha fI (mF _)) mF) λσ H Q hq=>?_;obtain⟨R,τ,ρ,d,Si,ev,hq⟩:=hq;obtain⟨x,ex,ev⟩:=aB ev;refine tD.intro Si ex λv H1 e1 r1=>?_;obtain⟨τ1,f1,rv⟩:=r1;cases x with
 |tup ds =>
  simp only[xA]at ev;split at ev
  ·rename_i ns hn;split at ev
   ·rename_i hl;cases ev;cases dt hn;cases rv with
    |tup h r=>cases r.ofInts;exact⟨_,ns,rfl,h,hl,hq _ H1 e1 .int⟩
   ·cases ev
  ·cases ev
 |_=>exact nk ev
theorem IB{a:CE}{e:Expr}(h:PE X e (tD X F Φ a)):PE X (.UnaryOp .Not e pos) (tD X F Φ (.not a)):=by
 refine PE.imp (Bj h) λσ H Q hq=>?_;obtain⟨R,τ,ρ,d,Si,ev,hq⟩:=hq;obtain⟨b,eb,ev⟩:=aB ev;obtain⟨x,ex,eb⟩:=aB eb;cases ev;refine tD.intro Si ex λv H1 e1 r1=>?_;cases x<;>simp[iG]at eb;cases eb;exact⟨_,r1.zi,hq _ H1 e1 .bl⟩
theorem Im{a:CE}{e:Expr}(h:PT X e (fZ X F Φ a)):PT X (.UnaryOp .Not e pos) (fZ X F Φ (.not a)):=by
 refine PT.imp (I0 h) λσ H Q hq=>?_;obtain⟨R,τ,ρ,b,Si,ev,hq⟩:=hq;unfold wa at ev;obtain⟨d,ed,ev⟩:=aB ev;obtain⟨c,ec,ed⟩:=aB ed;cases ed;have VL:b=!c:=by
  have e2:ok (!c)=ok b:=ev;exact(Except.ok.inj (aao e2)).symm
 subst VL;exact⟨R,τ,ρ,c,Si,ec,λH' e=>hq H' e⟩
theorem IC{a:CE}{e:Expr}(h:PE X e (tD X F Φ a)):PE X (.UnaryOp .USub e pos) (tD X F Φ (.neg a)):=by
 refine PE.imp (NI HW h) λσ H Q hq=>?_;obtain⟨R,τ,ρ,d,Si,ev,hq⟩:=hq;obtain⟨x,ex,ev⟩:=aB ev;refine tD.intro Si ex λv H1 e1 r1=>?_;cases x<;>simp[vD]at ev;cases ev;exact⟨_,r1.isInt,hq _ H1 e1 .int⟩
theorem Gs{c:CE}(hq:tD X F Φ (.and [c]) σ H Q):tD X F Φ c σ H Q:=by
 obtain⟨R,τ,ρ,d,Si,ev,hq⟩:=hq;obtain⟨b,eb,ev⟩:=aB ev;obtain⟨x,ex,eb⟩:=aB eb;cases ev;refine tD.intro Si ex λv H1 e1 r1=>?_;cases x<;>simp[iG]at eb;cases eb;rw[r1.zi];exact hq _ H1 e1 .bl
theorem Jo{c:CE}(hq:tD X F Φ (.or [c]) σ H Q):tD X F Φ c σ H Q:=by
 obtain⟨R,τ,ρ,d,Si,ev,hq⟩:=hq;obtain⟨b,eb,ev⟩:=aB ev;obtain⟨x,ex,eb⟩:=aB eb;cases ev;refine tD.intro Si ex λv H1 e1 r1=>?_;cases x<;>simp[iG]at eb;cases eb;rw[r1.zi];exact hq _ H1 e1 .bl
theorem Dq{c:CE}{Q:Bool->Hp->Prop}(hq:fZ X F Φ (.and [c]) σ H Q):fZ X F Φ c σ H Q:=by
 obtain⟨R,τ,ρ,d,Si,ev,hq⟩:=hq;unfold wa at ev;obtain⟨b,eb,ev⟩:=aB ev;obtain⟨x,ex,eb⟩:=aB eb;cases eb;cases ev;exact⟨R,τ,ρ,_,Si,ex,hq⟩
theorem EO{c:CE}{Q:Bool->Hp->Prop}(hq:fZ X F Φ (.or [c]) σ H Q):fZ X F Φ c σ H Q:=by
 obtain⟨R,τ,ρ,d,Si,ev,hq⟩:=hq;unfold wa at ev;obtain⟨b,eb,ev⟩:=aB ev;obtain⟨x,ex,eb⟩:=aB eb;cases eb;cases ev;exact⟨R,τ,ρ,_,Si,ex,hq⟩
theorem Ds{c:CE}(hq:tD X F Φ (.and (c::c'::cs)) σ H Q):GO (tD X F Φ c) (tD X F Φ (.and (c'::cs))) σ H Q:=by
 obtain⟨R,τ,ρ,d,Si,ev,hq⟩:=hq;obtain⟨b,eb,ev⟩:=aB ev;obtain⟨x,ex,eb⟩:=aB eb;refine tD.intro Si ex λv H1 e1 r1=>?_;cases x<;>simp[iG]at eb;cases eb;refine⟨_,r1.zi,?_⟩;cases b with
 |true =>
  rw[if_pos rfl]at ev ⊢;exact tD.intro (Si.go e1) ev λv H' e r=>hq v H' (e1.trans e) ((r.old e1).mono λi hi=>aam _ hi)
 |false =>
  rw[if_neg (by simp)]at ev ⊢;cases ev;exact hq _ H1 e1 .bl
theorem ER{c:CE}(hq:tD X F Φ (.or (c::c'::cs)) σ H Q):MU (tD X F Φ c) (tD X F Φ (.or (c'::cs))) σ H Q:=by
 obtain⟨R,τ,ρ,d,Si,ev,hq⟩:=hq;obtain⟨b,eb,ev⟩:=aB ev;obtain⟨x,ex,eb⟩:=aB eb;refine tD.intro Si ex λv H1 e1 r1=>?_;cases x<;>simp[iG]at eb;cases eb;refine⟨_,r1.zi,?_⟩;cases b with
 |false =>
  rw[if_neg (by simp)]at ev ⊢;exact tD.intro (Si.go e1) ev λv H' e r=>hq v H' (e1.trans e) ((r.old e1).mono λi hi=>aam _ hi)
 |true =>
  rw[if_pos rfl]at ev ⊢;cases ev;exact hq _ H1 e1 .bl
theorem zV{c:CE}{Q:Bool->Hp->Prop}(hq:fZ X F Φ (.and (c::c'::cs)) σ H Q):M3 (fZ X F Φ c) (fZ X F Φ (.and (c'::cs))) σ H Q:=by
 obtain⟨R,τ,ρ,d,Si,ev,hq⟩:=hq;unfold wa at ev;obtain⟨x,ex,et⟩:=aB ev;obtain⟨b,eb,ev⟩:=aB ex;refine⟨R,τ,ρ,b,Si,eb,λH1 e1=>?_⟩;cases b with
 |true =>
  rw[if_pos rfl]at ev ⊢;exact⟨R,τ,ρ,d,Si.go e1,by unfold wa;rw[show bp Φ (.and (c'::cs)) ρ=ok x from ev];exact et,λH' e=>hq H' (e1.trans e)⟩
 |false =>
  rw[if_neg (by simp)]at ev ⊢;cases ev;cases et;exact hq H1 e1
theorem Bm{c:CE}{Q:Bool->Hp->Prop}(hq:fZ X F Φ (.or (c::c'::cs)) σ H Q):WA (fZ X F Φ c) (fZ X F Φ (.or (c'::cs))) σ H Q:=by
 obtain⟨R,τ,ρ,d,Si,ev,hq⟩:=hq;unfold wa at ev;obtain⟨x,ex,et⟩:=aB ev;obtain⟨b,eb,ev⟩:=aB ex;refine⟨R,τ,ρ,b,Si,eb,λH1 e1=>?_⟩;cases b with
 |false =>
  rw[if_neg (by simp)]at ev ⊢;exact⟨R,τ,ρ,d,Si.go e1,by unfold wa;rw[show bp Φ (.or (c'::cs)) ρ=ok x from ev];exact et,λH' e=>hq H' (e1.trans e)⟩
 |true =>
  rw[if_pos rfl]at ev ⊢;cases ev;cases et;exact hq H1 e1
theorem jc{Q:af->Hp->Prop}(hq:pZ X F Φ [] σ H Q):MW σ H Q:=by
 obtain⟨R,τ,ρ,d,Si,ev,hq⟩:=hq;cases ev;exact hq _ H (aK.refl H) .nil
theorem fF{c:CE}{Q:af->Hp->Prop}(hq:pZ X F Φ (c::cs) σ H Q):GN (tD X F Φ c) (pZ X F Φ cs) σ H Q:=by
 obtain⟨R,τ,ρ,d,Si,ev,hq⟩:=hq;obtain⟨x,ex,ev⟩:=aB ev;obtain⟨xs,b7,ev⟩:=aB ev;cases ev;refine tD.intro Si ex λv H1 e1 r1=>⟨R,τ,ρ,xs,Si.go e1,b7,λvs H2 e2 r2=>hq _ H2 (e1.trans e2) (cF.cons e1 e2 (r1.mono λi hi=>aat _ hi) (r2.mono λi hi=>aam _ hi))⟩
theorem bz{c:CE}{e:Expr}(h:bV S c e=true)(es:av)(env:Env):starEach (e::es) env=(false,eval e env)::starEach es env:=by
 cases e<;>first|rfl | (cases c<;>exact(aac h).elim)
theorem wq:∀{cs:az} {es:av},bM S cs es=true->∀(pos:Pos) (env:Env),(backTo pos (starEach es env)).any (·.1)=false
 |[],[],_,_,_=>rfl
 |[],_::_,h,_,_=>by exact(aac h).elim
 |_::_,[],h,_,_=>by exact(aac h).elim
 |c::cs,e::es,h,pos,env=>by
  replace h:=aD h;rw[bz h.1];have:=wq h.2 pos env;unfold backTo at this ⊢;simp only[List.map_cons,List.any_cons,Bool.false_or];exact this
theorem qz{c:CE}{e:Expr}(h:bV S c e=true):mY e:=by
 intro o i;cases e<;>first|rfl | (cases c<;>exact(aac h).elim)
theorem AN{j:Nat}:PE X (.Constant .none j pos) (tD X F Φ .bu):=PE.imp vy λσ H Q bF=>by obtain⟨R,τ,ρ,d,Si,ev,hq⟩:=bF;cases ev;exact hq _ H (aK.refl H) .bu
theorem GQ{b:Bool}{j:Nat}:PE X (.Constant (.bool b) j pos) (tD X F Φ (.bl b)):=PE.imp NM λσ H Q bF=>by obtain⟨R,τ,ρ,d,Si,ev,hq⟩:=bF;cases ev;exact hq _ H (aK.refl H) .bl
theorem AO{i:Int}{j:Nat}:PE X (.Constant (.int i) j pos) (tD X F Φ (.int i)):=PE.imp Jh λσ H Q bF=>by obtain⟨R,τ,ρ,d,Si,ev,hq⟩:=bF;cases ev;exact hq _ H (aK.refl H) .int
theorem AM{i:Str}{j:Nat}:PE X (.Constant (.str i) j pos) (tD X F Φ (.str i)):=PE.imp Bh λσ H Q bF=>by obtain⟨R,τ,ρ,d,Si,ev,hq⟩:=bF;cases ev;exact hq _ H (aK.refl H) .str
theorem JX(L:Lk X S k Φ){y:Expr}{p:Pos}(g1:iI S.sc ("range" : Str)=true)(g2:("range" : Str)∈S.bl)(pa:PA X [y] (pZ X F Φ es))(kn:bM S es [y]=true)
  (pins:ak) (s:Shared) (σ:St) (H:Hp) (R:ah) (τ:Addr->Option bo) (ρ:a_) (xs items:aa) (I:Inv X pins σ H s) (Si:SI X F R τ ρ σ H) (b7:bK Φ es ρ=ok xs) (mK:dU Φ .jZ xs=ok items) (Rr:It->Hp->Prop)
  (hR:∀J H2,aK H H2->Yl X.K J (ka X F τ (caps++cO es) H2) H2 items->Rr J H2) :
  wpAny (model X.prog X.w) X.A (eval (.Call (.Name ("range" : Str) p) [y] [] zj) X.env) (λv s1=>wpAny (model X.prog X.w) X.A (pyIter v) (Aa X pins σ target Rr) X.xe s1) X.xe s:=by
 match es,kn with
 |[c],kn =>
  replace kn:=aD kn;refine qf (L.gl g1) (L.bl _ g2) pa (bz kn.1 _ _) pins s σ H Rr I ⟨R,τ,ρ,xs,Si,b7,λvs H1 e1 rv=>?_⟩;obtain⟨τt,fr,rs⟩:=rv;obtain⟨n,rfl⟩:∃n,xs=[.int n]:=by
   cases xs with
   |nil=>cases mK
   |cons x t=>cases x<;>first | (cases mK;done) | (cases t with|nil=>exact⟨_,rfl⟩|cons _ _=>cases mK)
  cases rs.ints1
  ·obtain⟨⟨c1,c2⟩,mK⟩:=lI mK;subst mK;have n_:(eE:Int)=1000000:=rfl;refine⟨n,rfl,by left,by left,hR _ H1 e1 ?_⟩;have:=Ad (X:=X) (lo:=0) (n:=n.toNat) (R:=ka X F τ (caps++cO [c]) H1) (H1:=H1);simpa using this
 |[],kn=>exact(aac kn).elim
 |_::_::_,kn=>exact(aac (aD kn).2).elim
theorem Fv(L:Lk X S k Φ){y z:Expr}{p:Pos}(g1:iI S.sc ("range" : Str)=true)(g2:("range" : Str)∈S.bl)(pa:PA X [y,z] (pZ X F Φ es))(kn:bM S es [y,z]=true)
  (pins:ak) (s:Shared) (σ:St) (H:Hp) (R:ah) (τ:Addr->Option bo) (ρ:a_) (xs items:aa) (I:Inv X pins σ H s) (Si:SI X F R τ ρ σ H) (b7:bK Φ es ρ=ok xs) (mK:dU Φ .l9 xs=ok items) (Rr:It->Hp->Prop)
  (hR:∀J H2,aK H H2->Yl X.K J (ka X F τ (caps++cO es) H2) H2 items->Rr J H2) :
  wpAny (model X.prog X.w) X.A (eval (.Call (.Name ("range" : Str) p) [y,z] [] zj) X.env) (λv s1=>wpAny (model X.prog X.w) X.A (pyIter v) (Aa X pins σ target Rr) X.xe s1) X.xe s:=by
 match es,kn with
 |[c,c'],kn =>
  replace kn:=And.intro (aD kn).1 (aD (aD kn).2);refine qe (L.gl g1) (L.bl _ g2) pa (by rw[bz kn.1,bz kn.2.1];rfl) (bz kn.2.1 _ _) pins s σ H Rr I ⟨R,τ,ρ,xs,Si,b7,λvs H1 e1 rv=>?_⟩;obtain⟨τt,fr,rs⟩:=rv;obtain⟨m,n,rfl⟩:∃m n,xs=[.int m,.int n]:=by
   cases xs with
   |nil=>cases mK
   |cons x t=>cases x<;>first | (cases mK;done) | (cases t with
    |nil=>cases mK
    |cons y u=>cases y<;>first | (cases mK;done) | (cases u with|nil=>exact⟨_,_,rfl⟩|cons _ _=>cases mK))
  cases rs.ints2
  ·obtain⟨⟨c1,c2,c3,c4⟩,mK⟩:=lI mK;subst mK;have n_:(eE:Int)=1000000:=rfl;exact⟨m,n,rfl,⟨by left,by left,by left,by left⟩,hR _ H1 e1 Ad⟩
 |[],kn=>exact(aac kn).elim
 |[_],kn=>exact(aac (aD kn).2).elim
 |_::_::_::_,kn=>exact(aac (aD (aD kn).2).2).elim
theorem JW(L:Lk X S k Φ){c:CE}{y:Expr}(pe:PE X y (tD X F Φ c))
  (pins:ak) (s:Shared) (σ:St) (H:Hp) (R:ah) (τ:Addr->Option bo) (ρ:a_) (xs items:aa) (I:Inv X pins σ H s) (Si:SI X F R τ ρ σ H) (b7:bK Φ [c] ρ=ok xs) (mK:dU Φ .seq xs=ok items) (Rr:It->Hp->Prop)
  (hR:∀J H2,aK H H2->Yl X.K J (ka X F τ (caps++cO [c]) H2) H2 items->Rr J H2) :
  wpAny (model X.prog X.w) X.A (eval y X.env) (λv s1=>wpAny (model X.prog X.w) X.A (pyIter v) (Aa X pins σ target Rr) X.xe s1) X.xe s:=by
 obtain⟨x,ex,b7⟩:=aB b7;obtain⟨xs',VG,b7⟩:=aB b7;cases VG;cases b7;have Xm:∀i∈iJ c,i∈caps++cO [c]:=λi hi=>aam _ (aat _ hi);cases x with
 |tup ds =>
  cases mK;refine Bd pe pins s σ H Rr I (tD.intro Si ex λv H1 e1 rv=>?_);obtain⟨τt,fr,rp⟩:=rv;cases rp with
  | @tup _ p ys _ hp rs=>exact⟨p,rfl,⟨ys,hp⟩,hR _ H1 e1 (HG (q:=[]) hp (aC.g_ (λ_ _ h=>h) (vo Si fr Xm) rs _ _))⟩
 |lst f ds =>
  cases mK;refine xh pe pins s σ H Rr I (tD.intro Si ex λv H1 e1 rv=>?_);obtain⟨τt,fr,rp⟩:=rv;cases rp with
  | @lst _ p ys _ _ hp rs=>exact⟨p,rfl,⟨ys,hp.sq⟩,hR _ H1 e1 (D2 (q:=[]) hp.sq (aC.g_ (λ_ _ h=>h) (vo Si fr Xm) rs _ _))⟩
 |_=>cases mK
theorem MA{xs:aa}{J:It}(Si:SI X F R τ ρ σ H)(hs:∀i∈fv,i∈fv')(r:cF X.K (gP X F) R τ fv H H2 vs xs)(y:Mu X.K J H2 vs xs items):
  Yl X.K J (ka X F τ fv' H2) H2 items:=by
 obtain⟨τt,fr,rs⟩:=r;have at':∀H',aK H2 H'->aC (aW X.K H') (nd X.K (ka X F τ fv' H2) (λ_=>False) (λ_=>none) H') [] 0 vs (au aL xs):=λH' e =>
  (aC.g_ (T':=aW X.K H2) (λ_ _ h=>h) (vo Si fr hs) rs [] 0).imp (λ_ _ h=>aW.same e h) λ_ _ _ _ h=>nd.same e h
 have st:∀H',aK H2 H'->qG X.K H2 vs xs H':=λH' e=>⟨⟨_,at' H2 (aK.refl H2),λp o _ h=>e p o h⟩,λ_ _ h=>aW.same e h⟩
 exact⟨λi H' e hi=>y.go i H' _ (st H' e) (at' H' e) hi,λi H' x jG e hi hy=>y.uN i H' _ x jG (st H' e) (at' H' e) hi hy,λi H' e hi=>y.stop i H' _ (st H' e) (at' H' e) hi⟩
theorem JZ(L:Lk X S k Φ){p:Nat}{y:Expr}(hp:S.px.pi p S.sc S.bl y=some args)(ht:(decide (1100<=p)||hJ target)=true)(hs:lT X F Φ es args)
  (pins:ak) (s:Shared) (σ:St) (H:Hp) (R:ah) (τ:Addr->Option bo) (ρ:a_) (xs items:aa) (I:Inv X pins σ H s) (Si:SI X F R τ ρ σ H) (b7:bK Φ es ρ=ok xs) (mK:dU Φ (.bU p) xs=ok items) (Rr:It->Hp->Prop)
  (hR:∀J H2,aK H H2->Yl X.K J (ka X F τ (caps++cO es) H2) H2 items->Rr J H2) :
  wpAny (model X.prog X.w) X.A (eval y X.env) (λv s1=>wpAny (model X.prog X.w) X.A (pyIter v) (Aa X pins σ target Rr) X.xe s1) X.xe s:=by
 obtain⟨d,ed,ei⟩:=aB (show bd (Φ p xs) pw=ok items from mK);exact L.pr.i X _ _ k L.pX p y args hp F es target ht hs pins s σ H R τ ρ xs d items I Si b7 ed ei Rr λJ H2 vs e2 r yz=>hR J H2 e2 (MA Si (λi hi=>by simp[hi]) r yz)
theorem uA{S':Sx}{ifs:av}(h3:bH.length<=1)(h4:bM S' bH ifs=true)
  (lN:∀(X':Cx) (F':ah),Lk X' S' k Φ->∀(j:Nat) (c:CE) (e:Expr),bH[j]?=some c->ifs[j]?=some e->PE X' e (tD X' F' Φ c)/\PT X' e (fZ X' F' Φ c)) :
  (bH=[]/\ifs=[])\/∃c e,bH=[c]/\ifs=[e]/\∀(X':Cx) (F':ah),Lk X' S' k Φ->PT X' e (fZ X' F' Φ c):=by
 cases bH with
 |nil=>cases ifs with
  |nil=>exact .inl ⟨rfl,rfl⟩
  |cons _ _=>exact(aac h4).elim
 |cons c cs=>cases cs with
  |cons _ _=>simp at h3
  |nil=>cases ifs with
   |nil=>exact(aac h4).elim
   |cons e ifs=>cases ifs with
    |cons _ _=>exact(aac (aD h4).2).elim
    |nil=>exact .inr ⟨c,e,rfl,rfl,λX' F' L'=>(lN X' F' L' 0 c e rfl rfl).2⟩
def Qw(S:Sx)(ik:IK)(es:az)(target iter:Expr):Bool:=match ik with
 |.jZ=>br (eR iter) λw=>decide (w.1=("range" : Str))&&iI S.sc w.1&&decide (w.1∈S.bl)&&br (one w.2) λy=>bM S es [y]
 |.l9=>br (eR iter) λw=>decide (w.1=("range" : Str))&&iI S.sc w.1&&decide (w.1∈S.bl)&&br (two w.2) λy=>bM S es [y.1,y.2]
 |.seq=>bM S es [iter]
 |.bU p=>Rj iter&&(decide (1100<=p)||hJ target)&&br (S.px.pi p S.sc S.bl iter) λxs=>bM S es xs
theorem BS(L:Lk X S k Φ){ik:IK}(kn:∀l,bM S es l=true->PA X l (pZ X F Φ es))
  (lN:∀l,bM S es l=true->∀(j:Nat) (c:CE) (e:Expr),es[j]?=some c->l[j]?=some e->PE X e (tD X F Φ c)/\PT X e (fZ X F Φ c)) (Zy:∀l,bM S es l=true->lT X F Φ es l) (h6:Qw S ik es target iter=true) :
  ∀(pins:ak) (s:Shared) (σ:St) (H:Hp) (R:ah) (τ:Addr->Option bo) (ρ:a_) (xs items:aa),Inv X pins σ H s->SI X F R τ ρ σ H->bK Φ es ρ=ok xs->dU Φ ik xs=ok items->∀(Rr:It->Hp->Prop),
   (∀J H2,aK H H2->Yl X.K J (ka X F τ (caps++cO es) H2) H2 items->Rr J H2) ->
   wpAny (model X.prog X.w) X.A (eval iter X.env) (λv s1=>wpAny (model X.prog X.w) X.A (pyIter v) (Aa X pins σ target Rr) X.xe s1) X.xe s:=by
 cases ik with
 |jZ =>
  obtain⟨⟨x,as⟩,hv,h6⟩:=bj h6;obtain⟨p,zj,rfl⟩:=b6 hv;obtain⟨Cj,g3⟩:=aD h6;obtain⟨Ci,g2⟩:=aD Cj;obtain⟨Cg,g1⟩:=aD Ci;obtain rfl:x=_:=aab Cg;obtain⟨y,hu,v5⟩:=bj g3;obtain rfl:as=[y]:=bI hu;exact JX L g1 (aab g2) (kn _ v5) v5
 |l9 =>
  obtain⟨⟨x,as⟩,hv,h6⟩:=bj h6;obtain⟨p,zj,rfl⟩:=b6 hv;obtain⟨Cj,g3⟩:=aD h6;obtain⟨Ci,g2⟩:=aD Cj;obtain⟨Cg,g1⟩:=aD Ci;obtain rfl:x=_:=aab Cg;obtain⟨⟨y,z⟩,hu,v5⟩:=bj g3;obtain rfl:as=[y,z]:=fD hu;exact Fv L g1 (aab g2) (kn _ v5) v5
 |seq =>
  have UP:=lN _ h6;cases es with
  |nil=>exact(aac h6).elim
  |cons c cs=>cases cs with
   |cons _ _=>exact(aac (aD h6).2).elim
   |nil=>exact JW L (UP 0 c _ rfl rfl).1
 |bU p =>
  obtain⟨h6,g3⟩:=aD h6;obtain⟨xs,ha,v5⟩:=bj g3;exact JZ L ha (aD h6).2 (Zy _ v5)
mutual
theorem bx:∀(c:CE) (X:Cx) (S:Sx) (F:ah) (L:Lk X S k Φ) (e:Expr),bV S c e=true->PE X e (tD X F Φ c)/\PT X e (fZ X F Φ c)
 |.bU p cs,X,S,F,L,e,h=>by
  obtain⟨args,ha,hb⟩:=bj (aD h).2;exact L.pr.e X _ _ k L.pX p e args ha F cs (je cs X S F L args hb)
 |.bu,X,S,F,L,e,h=>by
  obtain⟨c,hv,h_1⟩:=bj h;obtain⟨j,p,rfl⟩:=wO hv;obtain rfl:=zf h_1;exact⟨AN,cG AN λ_=>rfl⟩
 |.bl b,X,S,F,L,e,h=>by
  obtain⟨c,hv,h_1⟩:=bj h;obtain⟨j,p,rfl⟩:=wO hv;obtain rfl:=BX h_1;exact⟨GQ,cG GQ λ_=>rfl⟩
 |.int i,X,S,F,L,e,h=>by
  obtain⟨c,hv,h_1⟩:=bj h;obtain⟨j,p,rfl⟩:=wO hv;obtain rfl:=zg h_1;exact⟨AO,cG AO λ_=>rfl⟩
 |.str t,X,S,F,L,e,h=>by
  obtain⟨c,hv,h_1⟩:=bj h;obtain⟨j,p,rfl⟩:=wO hv;obtain rfl:=ze h_1;exact⟨AM,cG AM λ_=>rfl⟩
 |.v i,X,S,F,L,e,h=>by
  obtain⟨x,hv,h'⟩:=bj h;obtain⟨p,rfl⟩:=jH hv;have:=Tc (F:=F) L h;exact⟨this,cG this λ_=>rfl⟩
 |.glo x i,X,S,F,L,e,h=>by
  obtain⟨y,hv,h_1⟩:=bj h;obtain⟨pos,rfl⟩:=jH hv;obtain⟨h_2,h3⟩:=aD h_1;obtain⟨rM,h2⟩:=aD h_2;obtain⟨FP,h1⟩:=aD rM;obtain rfl:=aab FP;obtain⟨u,hm,r⟩:=L.cs _ _ (aab h2);have this:PE X (.Name y pos) (tD X F Φ (.glo y i)):=PE.imp (xl (v:=.int i) (L.gl h1) hm r (fm h3)) λσ H Q bF=>by obtain⟨R,τ,ρ,d,Si,ev,hq⟩:=bF;cases ev;exact hq _ H (aK.refl H) .int
  exact⟨this,cG this λ_=>rfl⟩
 |.bin op a b,X,S,F,L,e,h=>by
  obtain⟨⟨l,o,r⟩,hv,h_1⟩:=bj h;obtain⟨pos,rfl⟩:=D9 hv;obtain⟨h_2,h2⟩:=aD h_1;obtain⟨rM,h1⟩:=aD h_2;obtain rfl:o=NU op:=aab rM;have:=IF (F:=F) (pos:=pos) L (op:=op) (bx a X S F L _ h1).1 (bx b X S F L _ h2).1;exact⟨this,cG this λ_=>rfl⟩
 |.neg a,X,S,F,L,e,h=>by
  obtain⟨⟨o,x⟩,hv,h_1⟩:=bj h;obtain⟨pos,rfl⟩:=Ah hv;obtain⟨h_2,h1⟩:=aD h_1;obtain rfl:o=.USub:=aab h_2;have:=IC (F:=F) (Φ:=Φ) (pos:=pos) (bx a X S F L _ h1).1;exact⟨this,cG this λ_=>rfl⟩
 |.not a,X,S,F,L,e,h=>by
  obtain⟨⟨o,x⟩,hv,h_1⟩:=bj h;obtain⟨pos,rfl⟩:=Ah hv;obtain⟨h_2,h1⟩:=aD h_1;obtain rfl:o=.Not:=aab h_2;exact⟨IB (bx a X S F L _ h1).1,Im (bx a X S F L _ h1).2⟩
 |.and cs,X,S,F,L,e,h=>by
  obtain⟨⟨o,vs⟩,hv,h_1⟩:=bj h;obtain⟨pos,rfl⟩:=sR hv;obtain⟨h_2,h1⟩:=aD h_1;obtain rfl:o=.And:=aab h_2;exact⟨(kP cs X S F L vs h1 pos).1,(kP cs X S F L vs h1 pos).2.pt⟩
 |.or cs,X,S,F,L,e,h=>by
  obtain⟨⟨o,vs⟩,hv,h_1⟩:=bj h;obtain⟨pos,rfl⟩:=sR hv;obtain⟨h_2,h1⟩:=aD h_1;obtain rfl:o=.Or:=aab h_2;exact⟨(nq cs X S F L vs h1 pos).1,(nq cs X S F L vs h1 pos).2.pt⟩
 |.cmp op a b,X,S,F,L,e,h=>by
  obtain⟨⟨l,os,rs⟩,hv,h_1⟩:=bj h;obtain⟨pos,rfl⟩:=mq hv;obtain⟨h_2,h2⟩:=aD h_1;obtain⟨rM,h1⟩:=aD h_2;obtain⟨r,hr,Vs⟩:=bj h2;obtain⟨PY,h3⟩:=aD Vs;obtain rfl:os=[TN op]:=aab rM;obtain rfl:rs=[r]:=bI hr;exact⟨PE.imp (mB (Bp L op) (bx a X S F L _ h1).1 (bx b X S F L _ PY).1 (q_ h3)) λ_ _ _ rM=>uC rM,PT.imp (mz (Bp L op) (bx a X S F L _ h1).1 (bx b X S F L _ PY).1 (q_ h3)) λ_ _ _ rM=>yK rM⟩
 |.o8 a t,X,S,F,L,e,h=>by
  obtain⟨⟨f,as⟩,hv,h_1⟩:=bj h;obtain⟨p,pos,rfl⟩:=b6 hv;obtain⟨h_2,h5⟩:=aD h_1;obtain⟨rM,h2⟩:=aD h_2;obtain⟨FP,h1⟩:=aD rM;obtain rfl:f=_:=aab FP;obtain⟨⟨e,g⟩,hw,FQ⟩:=bj h5;obtain rfl:as=[e,g]:=fD hw;obtain⟨PR,h6⟩:=aD FQ;obtain⟨x,hn,Cj⟩:=bj h6;obtain⟨p',rfl⟩:∃p,g=.Name x p:=jH hn;obtain⟨Ci,h4⟩:=aD Cj;obtain⟨Cg,h3⟩:=aD Ci;obtain rfl:=aab Cg;have:=IE (F:=F) (p:=p) (p':=p') (pos:=pos) L h1 (aab h2) h3 (aab h4) (bx a X S F L _ PR).1 (λes=>bz PR es _);exact⟨this,cG this λ_=>rfl⟩
 |.call f cs,X,S,F,L,e,h=>by
  obtain⟨⟨x,as⟩,hv,h_1⟩:=bj h;obtain⟨p,pos,rfl⟩:=b6 hv;obtain⟨h_2,h4⟩:=aD h_1;obtain⟨rM,h3⟩:=aD h_2;obtain⟨h1,h2⟩:=aD rM;obtain⟨⟨y,ys⟩,hu,rN⟩:=bj h4;obtain rfl:as=y::ys:=uY hu;cases cs with
  |nil=>exact(aac rN).elim
  |cons c Hr =>
   have PU:=aD rN;have:=Et (F:=F) (p:=p) (pos:=pos) L (aab h1) h2 h3 (fG (c::Hr) X S F L (y::ys) rN) (λes=>bz PU.1 es _) (λpos=>wq PU.2 pos _);exact⟨this,cG this λ_=>rfl⟩
 |.bf f cs,X,S,F,L,e,h=>by
  obtain⟨⟨x,as⟩,hv,h_1⟩:=bj h;obtain⟨p,pos,rfl⟩:=b6 hv;obtain⟨h_2,h4⟩:=aD h_1;obtain⟨rM,h3⟩:=aD h_2;obtain⟨FP,h2⟩:=aD rM;obtain rfl:x=_:=aab FP;obtain⟨⟨y,ys⟩,hu,rN⟩:=bj h4;obtain rfl:as=y::ys:=uY hu;cases cs with
  |nil=>exact(aac rN).elim
  |cons c Hr =>
   have PU:=aD rN;have:=Ni (F:=F) (p:=p) (pos:=pos) L h2 (aab h3) (fG (c::Hr) X S F L (y::ys) rN) (λes=>bz PU.1 es _) (λpos=>wq PU.2 pos _);exact⟨this,cG this λ_=>rfl⟩
 |.kh a,X,S,F,L,e,h=>by
  obtain⟨⟨x,as⟩,hv,h_1⟩:=bj h;obtain⟨p,pos,rfl⟩:=b6 hv;obtain⟨h_2,h4⟩:=aD h_1;obtain⟨rM,h2⟩:=aD h_2;obtain⟨FP,h1⟩:=aD rM;obtain rfl:x=_:=aab FP;obtain⟨y,hu,rN⟩:=bj h4;obtain rfl:as=[y]:=bI hu;obtain⟨⟨z,bs⟩,hw,h4_3⟩:=bj rN;obtain⟨p',pos',rfl⟩:=b6 hw;obtain⟨Vq,h5⟩:=aD h4_3;obtain⟨Vp,h6⟩:=aD Vq;obtain⟨Vo,h3⟩:=aD Vp;obtain rfl:z=_:=aab Vo;obtain⟨u,UG,FQ⟩:=bj h5;obtain rfl:bs=[u]:=bI UG;have:=Ep (F:=F) (p:=p) (p':=p') (pos:=pos) (pos':=pos') L h1 (aab h2) h3 (aab h6) (bx a X S F L _ FQ).1 (λes=>bz FQ es _);exact⟨this,cG this λ_=>rfl⟩
 |.ix a b,X,S,F,L,e,h=>by
  obtain⟨⟨l,r⟩,hv,h_1⟩:=bj h;obtain⟨pos,rfl⟩:=gU hv;obtain⟨h1,h2⟩:=aD h_1;have:=Nh (F:=F) (pos:=pos) L (bx a X S F L _ h1).1 (bx b X S F L _ h2).1 (qz h2);exact⟨this,cG this λ_=>rfl⟩
 |.tup cs,X,S,F,L,e,h=>by
  obtain⟨es,hv,h_1⟩:=bj h;obtain⟨n,pos,rfl⟩:=jb hv;obtain⟨h1,h2⟩:=aD h_1;have:=IA (F:=F) (n:=n) (pos:=pos) (fG cs X S F L es h1) (aab h2);exact⟨this,cG this λ_=>rfl⟩
 |.lst cs,X,S,F,L,e,h=>by
  obtain⟨es,hv,h_1⟩:=bj h;obtain⟨pos,rfl⟩:=wN hv;obtain⟨h1,h2⟩:=aD h_1;have:=ID (F:=F) (pos:=pos) (fG cs X S F L es h1) (aab h2);exact⟨this,cG this λ_=>rfl⟩
 |.comp n t caps ik es bH elt,X,S,F,L,e,h=>by
  obtain⟨⟨jr,gens,sc⟩,hv,h_1⟩:=bj h;obtain⟨pos,rfl⟩:=Aj hv;obtain⟨⟨target,iter,ifs,a⟩,hg,h_2⟩:=bj h_1;obtain rfl:gens=_:=bI hg;obtain⟨rM,h6⟩:=aD h_2;obtain⟨FP,h5⟩:=aD rM;obtain⟨Z6,h4⟩:=aD FP;obtain⟨Z5,h3⟩:=aD Z6;obtain⟨Z4,h2⟩:=aD Z5;obtain⟨Z3,h1⟩:=aD Z4;obtain rfl:a=0:=aab Z3;have lN:=λ(X':Cx) (F':ah) (L':Lk X' (S.inner target caps sc) k Φ)=>iN bH X' _ F' L' ifs h4;have this:PE X (.ListComp jr [⟨target,iter,ifs,0⟩] sc pos) (tD X F Φ (.comp n t caps ik es bH elt)) :=
   Es L (qy h1) h2 (λX' F' L'=>(bx elt X' _ F' L' jr h5).1) (uA (aab h3) h4 lN) (BS L (λl=>fG es X S F L l) (λl=>iN es X S F L l) (λl=>je es X S F L l) h6)
  exact⟨this,cG this λ_=>rfl⟩
theorem iN:∀(cs:az) (X:Cx) (S:Sx) (F:ah) (L:Lk X S k Φ) (es:av),bM S cs es=true->∀(j:Nat) (c:CE) (e:Expr),cs[j]?=some c->es[j]?=some e->PE X e (tD X F Φ c)/\PT X e (fZ X F Φ c)
 |[],X,S,F,L,_,_=>λj c e h _=>by simp at h
 |_::_,X,S,F,L,[],h=>by exact(aac h).elim
 |c::cs,X,S,F,L,e::es,h=>λj c' e' hc he=>by
  replace h:=aD h;cases j with
  |zero=>simp at hc he;subst hc he;exact bx c X S F L e h.1
  |succ j=>exact iN cs X S F L es h.2 j c' e' (by simpa using hc) (by simpa using he)
theorem je:∀(cs:az) (X:Cx) (S:Sx) (F:ah) (L:Lk X S k Φ) (es:av),bM S cs es=true->lT X F Φ cs es
 |[],X,S,F,L,[],_=>trivial
 |[],X,S,F,L,_::_,h=>by exact(aac h).elim
 |_::_,X,S,F,L,[],h=>by exact(aac h).elim
 |c::cs,X,S,F,L,e::es,h=>by
  replace h:=aD h;exact⟨(bx c X S F L e h.1).1,λl=>bz h.1 l _,qz h.1,je cs X S F L es h.2⟩
theorem fG:∀(cs:az) (X:Cx) (S:Sx) (F:ah) (L:Lk X S k Φ) (es:av),bM S cs es=true->PA X es (pZ X F Φ cs)
 |[],X,S,F,L,[],_=>PA.imp fI λ_ _ _ h=>jc h
 |[],X,S,F,L,_::_,h=>by exact(aac h).elim
 |_::_,X,S,F,L,[],h=>by exact(aac h).elim
 |c::cs,X,S,F,L,e::es,h=>by
  replace h:=aD h;exact PA.imp (cV (bx c X S F L e h.1).1 (fG cs X S F L es h.2) (bz h.1 es _)) λ_ _ _ h=>fF h
theorem kP:∀(cs:az) (X:Cx) (S:Sx) (F:ah) (L:Lk X S k Φ) (es:av),bM S cs es=true->∀pos,PE X (.BoolOp .And es pos) (tD X F Φ (.and cs))/\PW X (.BoolOp .And es pos) (fZ X F Φ (.and cs))
 |[],X,S,F,L,_,_,pos=>⟨λ_ _ _ _ _ _ ⟨_,_,_,_,_,ev,_⟩=>(by cases ev),λ_ _ _ _ _ _ _ bF=>by obtain⟨_,_,_,_,_,ev,_⟩:=bF;cases ev⟩
 |[c],X,S,F,L,[e],h,pos=>by
  replace h:=aD h;exact⟨PE.imp (vx (bx c X S F L e h.1).1) λ_ _ _ h=>Gs h,PW.imp (EG (bx c X S F L e h.1).2) λ_ _ _ h=>Dq h⟩
 |[_],X,S,F,L,[],h,_=>by exact(aac h).elim
 |[_],X,S,F,L,_::_::_,h,_=>by exact(aac (aD h).2).elim
 |_::_::_,X,S,F,L,[],h,_=>by exact(aac h).elim
 |_::_::_,X,S,F,L,[_],h,_=>by exact(aac (aD h).2).elim
 |c::c'::cs,X,S,F,L,e::e'::es,h,pos=>by
  replace h:=aD h;have r:=kP (c'::cs) X S F L (e'::es) h.2 pos;exact⟨PE.imp (vA (bx c X S F L e h.1).1 r.1) λ_ _ _ h=>Ds h,PW.imp (IY (bx c X S F L e h.1).2 r.2) λ_ _ _ h=>zV h⟩
theorem nq:∀(cs:az) (X:Cx) (S:Sx) (F:ah) (L:Lk X S k Φ) (es:av),bM S cs es=true->∀pos,PE X (.BoolOp .Or es pos) (tD X F Φ (.or cs))/\PW X (.BoolOp .Or es pos) (fZ X F Φ (.or cs))
 |[],X,S,F,L,_,_,pos=>⟨λ_ _ _ _ _ _ ⟨_,_,_,_,_,ev,_⟩=>(by cases ev),λ_ _ _ _ _ _ _ bF=>by obtain⟨_,_,_,_,_,ev,_⟩:=bF;cases ev⟩
 |[c],X,S,F,L,[e],h,pos=>by
  replace h:=aD h;exact⟨PE.imp (vx (bx c X S F L e h.1).1) λ_ _ _ h=>Jo h,PW.imp (IW (bx c X S F L e h.1).2) λ_ _ _ h=>EO h⟩
 |[_],X,S,F,L,[],h,_=>by exact(aac h).elim
 |[_],X,S,F,L,_::_::_,h,_=>by exact(aac (aD h).2).elim
 |_::_::_,X,S,F,L,[],h,_=>by exact(aac h).elim
 |_::_::_,X,S,F,L,[_],h,_=>by exact(aac (aD h).2).elim
 |c::c'::cs,X,S,F,L,e::e'::es,h,pos=>by
  replace h:=aD h;have r:=nq (c'::cs) X S F L (e'::es) h.2 pos;exact⟨PE.imp (NJ (bx c X S F L e h.1).1 r.1) λ_ _ _ h=>ER h,PW.imp (ND (bx c X S F L e h.1).2 r.2) λ_ _ _ h=>Bm h⟩
end
theorem gh(L:Lk X S k Φ)(c:CE)(e:Expr)(h:bV S c e=true):PE X e (tD X F Φ c)/\PT X e (fZ X F Φ c):=bx c X S F L e h
theorem nj(L:Lk X S k Φ)(cs:az)(es:av)(h:bM S cs es=true):lT X F Φ cs es:=je cs X S F L es h
theorem j_(L:Lk X S k Φ)(cs:az)(es:av)(h:bM S cs es=true):PA X es (pZ X F Φ cs):=fG cs X S F L es h
end
section
variable {T T':kJ}{N N':fc}
theorem aC.child{q:bo}(hT:∀p xs,T p xs->T' p xs)(hN:∀c m p xs f,N (c++(m::q)) p xs f->N' (c++(m::q)) p xs f):∀{n:Nat} {vs:af} {ds:aa},aC T N q n vs ds->aC T' N' q n vs ds
 |_,_,_,.nil=>.nil
 |n,_,_,.cons h t=>.cons (Rep.imp (q:=n::q) (q':=n::q) hT (λc p xs f h=>hN c n p xs f h) h) (aC.child hT hN t)
theorem aC.wV{q:bo}{v:V}{d:D}:∀{n:Nat} {vs:af} {ds:aa},aC T N q n vs ds->Rep T N ((n+ds.length)::q) v d->aC T N q n (vs++[v]) (ds++[d])
 |n,_,_,.nil,h=>.cons (by simpa using h) .nil
 |n,_,_,.cons (ds:=ds) h t,h'=>.cons h (aC.wV t (by
   have e:n+(ds.length+1)=n+1+ds.length:=by left
   rw[List.length_cons,e]at h';exact h'))
theorem aC.setAt{q:bo}{v:V}{d:D}:∀{n j:Nat} {vs:af} {ds:aa},aC T N q n vs ds->Rep T N ((n+j)::q) v d->aC T N q n (vs.set j v) (ds.set j d)
 |_,_,_,_,.nil,_=>by simp;exact .nil
 |_,0,_,_,.cons _ t,h'=>.cons (by simpa using h') t
 |n,j+1,_,_,.cons h t,h'=>.cons h (aC.setAt (j:=j) t (by
   have e:n+(j+1)=n+1+j:=by left
   rw[e]at h';exact h'))
end
variable {d0 d1:D}{n':Nd}
section
variable {X:Cx}{F R:ah}{τ:Addr->Option bo}{ρ:a_}{σ:St}{H:Hp}
theorem SI.own{i:Nat}(Si:SI X F R τ ρ σ H)(hi:ρ[i]?=some (some (.lst .ow ds))):∃p xs,σ[i]?=some (some (.ref p))/\H p=some (.lst xs)/\xs.length=ds.length/\τ p=some [i]/\aC (aW X.K H) (nd X.K R (λ_=>False) τ H) [i] 0 xs ds:=by
 obtain⟨v,hv,rp⟩:=Si.rep i _ hi;cases rp with
 |lst h r=>exact⟨_,_,hv,h.1,r.length,h.2,r⟩
theorem AA{H:Hp}{p:Addr}{n:Nd}{o:HO}(hp:fi H p n){a:Addr}{ys:af}(h:aW K H a ys):aW K (upd H p o) a ys:=by
 obtain⟨o0,Mb,OZ,Ma⟩:=fi.some hp;have nO:∀a u,H a=some u->u≠o0->a≠p:=λa u e h z=>by subst z;rw[Mb]at e;cases e;exact h rfl
 rcases h with (h|⟨o',h⟩)|h
 ·exact .inl (.inl (by rw[ba (nO a _ h λz=>OZ _ z.symm)];exact h))
 ·exact .inl (.inr ⟨o',by rw[ba (nO a _ h λz=>Ma _ _ z.symm)];exact h⟩)
 ·exact .inr h
theorem SI.TB{i m:Nat}{v:V}{d:D}{p:Addr}{n:Nd}{o:HO}(Si:SI X F R τ ρ σ H)(hi:ρ[i]?=some (some d0))(hv:σ[i]?=some (some (.ref p)))(hp:fi H p n)(ht:τ p=some [i])
  (rs:aC (aW X.K H) (nd X.K R (λ_=>False) τ H) [i] 0 xs ds) (rk:gO X R τ H v d) (uR:fi (upd H p o) p n')
  (mk:∀{N:fc},N [i] p n' .ow->aC (aW X.K (upd H p o)) N [i] 0 xs' ds'->Rep (aW X.K (upd H p o)) N [i] (.ref p) d1)
  (hb:∀{N:fc},aC (aW X.K (upd H p o)) N [i] 0 xs ds->Rep (aW X.K (upd H p o)) N (m::[i]) v d->aC (aW X.K (upd H p o)) N [i] 0 xs' ds') :
  ∃τ',SI X F R τ' (ρ.set i (some d1)) σ (upd H p o)/\τ' p=some [i]/\aC (aW X.K (upd H p o)) (nd X.K R (λ_=>False) τ' (upd H p o)) [i] 0 xs' ds':=by
 obtain⟨τt,hτ,rp⟩:=rk;have Pd:i<ρ.length:=by
  by_cases z:i<ρ.length
  ·exact z
  ·rw[List.getElem?_eq_none (by left)]at hi;cases hi
 obtain⟨o0,Mb,OZ,Ma⟩:=fi.some hp;have nR:∀a,R a->a≠p:=λa ha e=>by subst e;rw[Si.rt _ ha]at ht;cases ht
 have nT:∀a q,τt a=some q->a≠p:=λa q e z=>by subst z;rw[(hτ _ q e).1]at ht;cases ht
 have nO:∀a u,H a=some u->u≠o0->a≠p:=λa u e h z=>by subst z;rw[Mb]at e;cases e;exact h rfl
 have keep:∀a,a≠p->(upd H p o) a=H a:=λa h=>ba h;have Kq:∀a ys,aW X.K H a ys->aW X.K (upd H p o) a ys:=λa ys h=>by
  rcases h with (h|⟨o',h⟩)|h
  ·exact .inl (.inl (by rw[keep a (nO a _ h λz=>OZ _ z.symm)];exact h))
  ·exact .inl (.inr ⟨o',by rw[keep a (nO a _ h λz=>Ma _ _ z.symm)];exact h⟩)
  ·exact .inr h
 have RO:∀a (z:Nd),a≠p->fi H a z->fi (upd H p o) a z:=λa z ne h=>h.at λu e=>by rw[keep a ne];exact e
 have Xv:∀{τ1:Addr->Option bo} q q' a (z:Nd),nd X.K R (λ_=>False) τ1 H q a z .sc->∀τ2,nd X.K R (λ_=>False) τ2 (upd H p o) q' a z .sc:=λq q' a z h τ2=>by
  obtain⟨ys,rfl,h⟩:=h.GR;exact h.elim (λ⟨o',w⟩=>.inl ⟨o',by rw[keep a (nO a _ w λz=>Ma _ _ z.symm)];exact w⟩) .inr
 have Xx:∀q a ys f,q≠[i]->nd X.K R (λ_=>False) τ H q a ys f->nd X.K R (λ_=>False) (λa=>match τt a with|some q=>some (q++[m,i])|none=>τ a) (upd H p o) q a ys f:=λq a ys f hq h=>by
  cases f with
  |ow =>
   have ne:a≠p:=λz=>by
    subst z;have:=h.2.symm.trans ht;exact hq (aao this)
   refine⟨RO a ys ne h.1,?_⟩;cases z:τt a with
   |none=>simp only[z];exact h.2
   |some k=>have:=(hτ a k z).1;rw[h.2]at this;cases this
  |fz=>exact⟨RO a ys (nR a h.2) h.1,h.2⟩
  |al=>exact h.2.elim
  |sc=>exact Xv q q a ys h _
 have RC:(match τt p with|some q=>some (q++[m,i])|none=>τ p)=some [i]:=by
  cases z:τt p with
  |none=>exact ht
  |some k=>exact absurd rfl (nT p k z)
 have Xw:aC (aW X.K (upd H p o)) (nd X.K R (λ_=>False) (λa=>match τt a with|some q=>some (q++[m,i])|none=>τ a) (upd H p o)) [i] 0 xs' ds':=hb (aC.child Kq (λc n a ys f h=>Xx _ a ys f (λz=>by
  have:=aaN List.length z;simp at this) h) rs) (rp.imp (q:=[]) (q':=[m,i]) Kq λc a ys f h=>by
  cases f with
  |ow =>
   rw[List.append_nil]at h;exact⟨RO a ys (nT a _ h.2) h.1,by simp only[h.2]⟩
  |fz=>exact⟨RO a ys (nR a h.2) h.1,h.2⟩
  |al=>exact h.2.elim
  |sc=>exact Xv _ _ a ys h _)
 refine⟨λa=>match τt a with|some q=>some (q++[m,i])|none=>τ a,⟨by simp[Si.len],λj d' hj=>?_,λa ha=>?_,λa ha=>?_,Si.rf,λa q hq=>?_,λa q hq=>?_,?_⟩,RC,Xw⟩
 ·by_cases jy:j=i
  ·subst jy;rw[List.getElem?_set_self Pd]at hj;cases hj;exact⟨.ref p,hv,mk ⟨uR,RC⟩ Xw⟩
  ·rw[List.getElem?_set_ne (Ne.symm jy)]at hj;obtain⟨u,hu,ru⟩:=Si.rep j d' hj;refine⟨u,hu,ru.imp (q:=[j]) (q':=[j]) Kq λc a ys f h=>Xx _ a ys f (λz=>?_) h⟩;have:=aaN List.getLast? z;simp at this;exact jy this
 ·cases z:τt a with
  |none=>simp only[z];exact Si.rt a ha
  |some k=>exact absurd ha (hτ a k z).2.1
 ·rw[keep a (nR a ha)];exact Si.rh a ha
 ·by_cases Xu:a=p
  ·subst Xu;rw[aZ];simp
  ·rw[keep a Xu];cases z:τt a with
   |none=>simp only[z]at hq;exact Si.th a q hq
   |some k=>exact(hτ a k z).2.2.2
 ·cases z:τt a with
  |none=>simp only[z]at hq;exact Si.t0 a q hq
  |some k=>exact(hτ a k z).2.2.1
 ·intro a u e;have ne:a≠p:=λz=>by subst z;rw[Si.t0 _ _ ht]at e;cases e
  rw[keep a ne];exact Si.same a u e
theorem SI.NF{i m:Nat}{v:V}{d:D}{p:Addr}{n:Nd}{o:HO}(Si:SI X F R τ ρ σ H)(hi:ρ[i]?=some (some d0))(hv:σ[i]?=some (some (.ref p)))(hp:fi H p n)(ht:τ p=some [i])
  (rs:aC (aW X.K H) (nd X.K R (λ_=>False) τ H) [i] 0 xs ds) (rk:gO X R τ H v d) (uR:fi (upd H p o) p n')
  (mk:∀{N:fc},N [i] p n' .ow->aC (aW X.K (upd H p o)) N [i] 0 xs' ds'->Rep (aW X.K (upd H p o)) N [i] (.ref p) d1)
  (hb:∀{N:fc},aC (aW X.K (upd H p o)) N [i] 0 xs ds->Rep (aW X.K (upd H p o)) N (m::[i]) v d->aC (aW X.K (upd H p o)) N [i] 0 xs' ds') :
  ∃τ',SI X F R τ' (ρ.set i (some d1)) σ (upd H p o):=(Si.TB hi hv hp ht rs rk uR mk hb).imp λ_ h=>h.1
theorem SI.put{i m:Nat}{v:V}{d:D}{g:af->af}{p:Addr}(Si:SI X F R τ ρ σ H)(hi:ρ[i]?=some (some (.lst .ow ds)))(hv:σ[i]?=some (some (.ref p)))(hp:H p=some (.lst xs))(ht:τ p=some [i])
  (rs:aC (aW X.K H) (nd X.K R (λ_=>False) τ H) [i] 0 xs ds) (rk:gO X R τ H v d)
  (hb:∀{N:fc},aC (aW X.K (upd H p (.lst (g xs)))) N [i] 0 xs ds->Rep (aW X.K (upd H p (.lst (g xs)))) N (m::[i]) v d->aC (aW X.K (upd H p (.lst (g xs)))) N [i] 0 (g xs) ds') :
  ∃τ',SI X F R τ' (ρ.set i (some (.lst .ow ds'))) σ (upd H p (.lst (g xs))) :=
 Si.NF (n:=.l xs) (n':=.l (g xs)) hi hv hp ht rs rk aZ (λh r=>.lst h r) hb
end
section
variable {X:Cx}{S:Sx}{k:Nat}{F:ah}{Φ:bh}
theorem nu(L:Lk X S k Φ)(c:CE)(e:Expr)(h:bV S c e=true):PE X e (tK X F Φ c):=by
 by_cases hv:∃i,c=.v i
 ·obtain⟨i,rfl⟩:=hv;obtain⟨x,hx,ha⟩:=bj h;obtain⟨p,rfl⟩:=jH hx;obtain⟨hb,h3⟩:=aD ha;obtain⟨h1,h2⟩:=aD hb;unfold ma at h3;simp only[Bool.and_eq_true,Bool.not_eq_true']at h3;refine PE.imp (nK (i:=i) (by rw[L.N];exact aab h1) (L.QV h2) h3.1.1 h3.1.2) λσ H Q hq=>?_;obtain⟨R,τ,ρ,r,Si,ev,hq⟩:=hq;simp only[iK]at ev;split at ev
  ·rename_i d hd;split at ev
   ·cases ev;obtain⟨v,τ',hv,fb,rk⟩:=Si.move hd;exact⟨v,hv,hq v H R τ' (aK.refl H) (λ_ h=>h) fb rk⟩
   ·rename_i ho;cases ev;obtain⟨v,hv,rp⟩:=Si.rep i d hd;exact⟨v,hv,hq v H R τ (aK.refl H) (λ_ h=>h) Si (zu rp (by simpa using ho))⟩
  ·cases ev
 ·refine PE.imp (gh (F:=F) L c e h).1 λσ H Q hq=>?_;obtain⟨R,τ,ρ,r,Si,ev,hq⟩:=hq;have VL:bd (bp Φ c ρ) (λd=>ok (keep c d ρ))=ok r:=by
   cases c<;>first|exact ev|exact absurd ⟨_,rfl⟩ hv
  obtain⟨d,ed,er⟩:=aB VL;cases er;refine tD.intro Si ed λv H' e' r'=>?_;obtain⟨R',τ',h1,h2,h3⟩:=G9 Si e' r';exact hq v H' R' τ' e' h1 h2 h3
end
structure Kp(R:ah)(H:Hp)(R':ah)(H':Hp):Prop where
 r:∀p,R p->R' p
 l:∀p (o:HO),R p->H p=some o->H' p=some o
 t:∀p xs,H p=some (.tup xs)->H' p=some (.tup xs)
 z:∀p o u,H p=some (.gF o u)->H' p=some (.gF o u)
theorem Kp.refl(R:ah)(H:Hp):Kp R H R H:=⟨λ_ h=>h,λ_ _ _ h=>h,λ_ _ h=>h,λ_ _ _ h=>h⟩
theorem Kp.of(e:aK H H')(h:∀p,R p->R' p):Kp R H R' H':=⟨h,λp xs _ h=>e _ _ h,λp xs h=>e _ _ h,λp o u h=>e _ _ h⟩
theorem Kp.trans{R2:Addr->Prop}(a:Kp R H R1 H1)(b:Kp R1 H1 R2 H2):Kp R H R2 H2 :=
 ⟨λp h=>b.r p (a.r p h),λp xs h e=>b.l p xs (a.r p h) (a.l p xs h e),λp xs h=>b.t p xs (a.t p xs h),λp o u h=>b.z p o u (a.z p o u h)⟩
theorem Kp.Q3(a:Kp R H R' H'){p:Addr}(h:aW K H p xs):aW K H' p xs:=by
 rcases h with (h|⟨o,h⟩)|h
 ·exact .inl (.inl (a.t p xs h))
 ·exact .inl (.inr ⟨o,a.z p o _ h⟩)
 ·exact .inr h
theorem Kp.nd{K:ao}{R R':ah}{H H':Hp}(a:Kp R H R' H'){q:bo}{p:Addr}{xs:Nd}{f:Fl}(h:DI.nd K R (λ_=>False) (λ_=>none) H q p xs f):DI.nd K R' (λ_=>False) (λ_=>none) H' q p xs f:=by
 cases f with
 |ow=>exact nomatch h.2
 |fz=>exact⟨h.1.at λo e=>a.l p o h.2 e,a.r p h.2⟩
 |al=>exact h.2.elim
 |sc =>
  obtain⟨ys,rfl,h⟩:=h.GR;exact h.elim (λ⟨o,h⟩=>.inl ⟨o,a.z p o _ h⟩) .inr
theorem Kp.rep(a:Kp R H R' H'){k:bo}{v:V}{d:D}(h:Rep (aW K H) (DI.nd K R (λ_=>False) (λ_=>none) H) k v d):Rep (aW K H') (DI.nd K R' (λ_=>False) (λ_=>none) H') k v d :=
 h.imp (λ_ _ h=>a.Q3 h) λ_ _ _ _ h=>a.nd h
theorem Kp.Tj(a:Kp R H R' H'){k:bo}{n:Nat}{v:af}{d:aa}(h:aC (aW K H) (DI.nd K R (λ_=>False) (λ_=>none) H) k n v d):aC (aW K H') (DI.nd K R' (λ_=>False) (λ_=>none) H') k n v d :=
 h.imp (λ_ _ h=>a.Q3 h) λ_ _ _ _ h=>a.nd h
def DB(X:Cx)(F:ah)(H':Hp)(v:V)(d:D):Prop:=∃τt:Addr->Option bo,(∀p q,τt p=some q->X.H₀ p=none)/\Rep (aW X.K H') (nd X.K (gP X F) (λ_=>False) τt H') [] v d
theorem gO.ret{v:V}{d:D}(Si:SI X F R τ ρ σ H)(h:gO X R τ H v d):DB X F H v d:=by
 obtain⟨τt,ht,rp⟩:=h;exact⟨τt,λp q e=>(ht p q e).2.2.1,rp.imp (λ_ _ h=>h) λ_ _ _ _ h=>h.mono (λh=>Si.rf _ h) id id⟩
def lU(X:Cx)(F:ah)(D:Ends)(R:ah)(H:Hp):Fo×a_->Prop
 | (.nx,ρ')=>∀σ' H' R' τ',SI X F R' τ' ρ' σ' H'->Kp R H R' H'->D.nx σ' H'
 | (.rt d,_)=>∀v H',aK X.H₀ H'->DB X F H' v d->D.rt v H'
def o4(X:Cx)(F:ah)(Φ:bh)(c:CS):TS:=λD σ H=>∃R τ ρ r,SI X F R τ ρ σ H/\hZ Φ c ρ=ok r/\lU X F D R H r
def pj(X:Cx)(F:ah)(Φ:bh)(cs:aq):TS:=λD σ H=>∃R τ ρ r,SI X F R τ ρ σ H/\bJ Φ cs ρ=ok r/\lU X F D R H r
noncomputable def JJ(sc:Scope)(x:Str):Bool:=decide (sc.names.lookup x=some .local)||decide (sc.names.lookup x=some .cell)
def kC(S:Sx)(i:Nat):Expr->Bool
 |.Name x _=>decide (S.N[i]?=some x)&&JJ S.sc x
 |_=>false
def T2:Expr->Bool
 |.Name x _=>ma x
 |_=>true
def C2(S:Sx):aN->av->Bool
 |[],es=>match es with
  |[]=>true
  |_::_=>false
 |i::is,es=>match es with
  |[]=>false
  |e::es=>kC S i e&&C2 S is es
def r_(S:Sx):Tg->Expr->Bool
 |.nm i,e=>kC S i e
 |.tp is,e=>br (yE e) λes=>C2 S is es
noncomputable def fL(e:Expr):Bool:=decide (e.ctorIdx=8)
noncomputable def isTup:Expr->Bool
 |.Tuple _ _ _=>true
 |_=>false
noncomputable def S8(S:Sx)(tg v:Expr):Bool:=match tg,v with
 |.Name x p,.ListComp _ _ sc pos=>(S.sc.names.lookup x==some .local)&&(p.line==pos.line)&&!(sc.names.any λ(n,k)=>n==x&&(k==.local||k==.cell))
 |_,_=>false
noncomputable def HP(e:Expr):Option (Str×Pos):=if h:e.ctorIdx=23 then Expr.Name.elim (motive_1:=λ_=>Option (Str×Pos)) e h (λx p=>some (x,p))else none
theorem wM{e:Expr}{x:Str}{p:Pos}(h:HP e=some (x,p)):e=.Name x p:=by
 obtain⟨k,h⟩:=dI h;exact Expr.Name.elim (motive_1:=λe=>∀k:e.ctorIdx=23,Expr.Name.elim (motive_1:=λ_=>Option (Str×Pos)) e k (λx p=>some (x,p))=some (x,p)->e=.Name x p) e k (λ_ _ _ h=>by cases h;rfl) k h
def C1(S:Sx)(i j:Nat)(tg v:Expr):Bool :=
 br (yE tg) λts=>br (two ts) λt=>br (HP t.1) λx=>br (HP t.2) λy=>br (yE v) λvs=>br (two vs) λw =>
  decide (S.N[i]?=some x.1)&&decide (S.N[j]?=some y.1)&&decide (i≠j)&&decide (S.sc.names.lookup x.1=some .local)&&decide (S.sc.names.lookup y.1=some .local)&&decide (x.1≠y.1) &&
   decide (x.2.line=y.2.line)&&!([w.1,w.2].all (foldedForSure 8))&&!([w.1,w.2].all (constantsAlone 8))&&decide (([w.1,w.2].any λe=>match e with|.Starred ..=>true|_=>false)=false)
def Qx(S:Sx)(it:CI)(e:Expr):Bool:=match it with
 |.jZ a=>br (eR e) λw=>decide (w.1=("range" : Str))&&iI S.sc w.1&&decide (w.1∈S.bl)&&br (one w.2) λy=>bV S a y
 |.l9 a b=>br (eR e) λw=>decide (w.1=("range" : Str))&&iI S.sc w.1&&decide (w.1∈S.bl)&&br (two w.2) λy=>bV S a y.1&&bV S b y.2
 |.seq a=>bV S a e&&iP e
 |.Je p es=>Rj e&&br (S.px.pi p S.sc S.bl e) λxs=>bM S es xs
noncomputable def Br:CI->Bool
 |.Je p _=>decide (1100<=p)
 |_=>true
noncomputable def uX(s:Stmt):Option (av×Expr):=if h:s.ctorIdx=5 then Stmt.Assign.elim (motive_2:=λ_=>Option (av×Expr)) s h (λts v _=>some (ts,v))else none
theorem gW{s:Stmt}{ts:av}{v:Expr}(h:uX s=some (ts,v)):∃p,s=.Assign ts v p:=by
 obtain⟨k,h⟩:=dI h;exact Stmt.Assign.elim (motive_2:=λs=>∀k:s.ctorIdx=5,Stmt.Assign.elim (motive_2:=λ_=>Option (av×Expr)) s k (λts v _=>some (ts,v))=some (ts,v)->∃p,s=.Assign ts v p) s k (λ_ _ _ _ h=>by cases h;exact⟨_,rfl⟩) k h
noncomputable def MJ(s:Stmt):Option (Option Expr):=if h:s.ctorIdx=3 then Stmt.Return.elim (motive_2:=λ_=>Option (Option Expr)) s h (λv _=>some v)else none
theorem wL{s:Stmt}{v:Option Expr}(h:MJ s=some v):∃p,s=.Return v p:=by
 obtain⟨k,h⟩:=dI h;exact Stmt.Return.elim (motive_2:=λs=>∀k:s.ctorIdx=3,Stmt.Return.elim (motive_2:=λ_=>Option (Option Expr)) s k (λv _=>some v)=some v->∃p,s=.Return v p) s k (λ_ _ _ h=>by cases h;exact⟨_,rfl⟩) k h
noncomputable def QW(s:Stmt):Option Expr:=if h:s.ctorIdx=24 then Stmt.Expr.elim (motive_2:=λ_=>Option Expr) s h (λv _=>some v)else none
theorem m_{s:Stmt}{v:Expr}(h:QW s=some v):∃p,s=.Expr v p:=by
 obtain⟨k,h⟩:=dI h;exact Stmt.Expr.elim (motive_2:=λs=>∀k:s.ctorIdx=24,Stmt.Expr.elim (motive_2:=λ_=>Option Expr) s k (λv _=>some v)=some v->∃p,s=.Expr v p) s k (λ_ _ _ h=>by cases h;exact⟨_,rfl⟩) k h
noncomputable def Ss(s:Stmt):Option (Expr×Operator×Expr):=if h:s.ctorIdx=7 then Stmt.AugAssign.elim (motive_2:=λ_=>Option (Expr×Operator×Expr)) s h (λo p v _=>some (o,p,v))else none
theorem QX{s:Stmt}{v:Expr}{p:Operator}(h:Ss s=some (o,p,v)):∃q,s=.AugAssign o p v q:=by
 obtain⟨k,h⟩:=dI h;exact Stmt.AugAssign.elim (motive_2:=λs=>∀k:s.ctorIdx=7,Stmt.AugAssign.elim (motive_2:=λ_=>Option (Expr×Operator×Expr)) s k (λo p v _=>some (o,p,v))=some (o,p,v)->∃q,s=.AugAssign o p v q) s k (λ_ _ _ _ _ h=>by cases h;exact⟨_,rfl⟩) k h
noncomputable def HR(s:Stmt):Option (Expr×aS×aS):=if h:s.ctorIdx=12 then Stmt.If.elim (motive_2:=λ_=>Option (Expr×aS×aS)) s h (λt x y _=>some (t,x,y))else none
theorem qJ{s:Stmt}{t:Expr}{x y:aS}(h:HR s=some (t,x,y)):∃q,s=.If t x y q:=by
 obtain⟨k,h⟩:=dI h;exact Stmt.If.elim (motive_2:=λs=>∀k:s.ctorIdx=12,Stmt.If.elim (motive_2:=λ_=>Option (Expr×aS×aS)) s k (λt x y _=>some (t,x,y))=some (t,x,y)->∃q,s=.If t x y q) s k (λ_ _ _ _ _ h=>by cases h;exact⟨_,rfl⟩) k h
noncomputable def MH(s:Stmt):Option (Expr×aS×aS):=if h:s.ctorIdx=11 then Stmt.While.elim (motive_2:=λ_=>Option (Expr×aS×aS)) s h (λt x y _=>some (t,x,y))else none
theorem D5{s:Stmt}{t:Expr}{x y:aS}(h:MH s=some (t,x,y)):∃q,s=.While t x y q:=by
 obtain⟨k,h⟩:=dI h;exact Stmt.While.elim (motive_2:=λs=>∀k:s.ctorIdx=11,Stmt.While.elim (motive_2:=λ_=>Option (Expr×aS×aS)) s k (λt x y _=>some (t,x,y))=some (t,x,y)->∃q,s=.While t x y q) s k (λ_ _ _ _ _ h=>by cases h;exact⟨_,rfl⟩) k h
noncomputable def HS(s:Stmt):Option (Expr×Expr×aS×aS):=if h:s.ctorIdx=9 then Stmt.For.elim (motive_2:=λ_=>Option (Expr×Expr×aS×aS)) s h (λtg it x y _=>some (tg,it,x,y))else none
theorem D7{s:Stmt}{it:Expr}{x y:aS}(h:HS s=some (tg,it,x,y)):∃q,s=.For tg it x y q:=by
 obtain⟨k,h⟩:=dI h;exact Stmt.For.elim (motive_2:=λs=>∀k:s.ctorIdx=9,Stmt.For.elim (motive_2:=λ_=>Option (Expr×Expr×aS×aS)) s k (λtg it x y _=>some (tg,it,x,y))=some (tg,it,x,y)->∃q,s=.For tg it x y q) s k (λ_ _ _ _ _ _ h=>by cases h;exact⟨_,rfl⟩) k h
noncomputable def Al(e:Expr):Option (Expr×Str×Pos):=if h:e.ctorIdx=20 then Expr.Attribute.elim (motive_1:=λ_=>Option (Expr×Str×Pos)) e h (λo a p=>some (o,a,p))else none
theorem sS{e:Expr}{a:Str}{p:Pos}(h:Al e=some (o,a,p)):e=.Attribute o a p:=by
 obtain⟨k,h⟩:=dI h;exact Expr.Attribute.elim (motive_1:=λe=>∀k:e.ctorIdx=20,Expr.Attribute.elim (motive_1:=λ_=>Option (Expr×Str×Pos)) e k (λo a p=>some (o,a,p))=some (o,a,p)->e=.Attribute o a p) e k (λ_ _ _ _ h=>by cases h;rfl) k h
noncomputable def uW(e:Expr):Option (Expr×av×List Keyword×Pos):=if h:e.ctorIdx=16 then Expr.Call.elim (motive_1:=λ_=>Option (Expr×av×List Keyword×Pos)) e h (λf as ks p=>some (f,as,ks,p))else none
theorem pU{e f:Expr}{as:av}{ks:List Keyword}{p:Pos}(h:uW e=some (f,as,ks,p)):e=.Call f as ks p:=by
 obtain⟨k,h⟩:=dI h;exact Expr.Call.elim (motive_1:=λe=>∀k:e.ctorIdx=16,Expr.Call.elim (motive_1:=λ_=>Option (Expr×av×List Keyword×Pos)) e k (λf as ks p=>some (f,as,ks,p))=some (f,as,ks,p)->e=.Call f as ks p) e k (λ_ _ _ _ _ h=>by cases h;rfl) k h
noncomputable def isNil{α:Type}:List α->Bool
 |[]=>true
 |_::_=>false
theorem nV{α:Type}{l:List α}(h:isNil l=true):l=[]:=by cases l<;>first|rfl|cases h
noncomputable def Fx:Stmt->Bool
 |.Raise _ _ _=>true
 |_=>false
noncomputable def J3(s:Stmt):Bool:=decide (s.ctorIdx=25)
theorem L6{s:Stmt}(h:J3 s=true):∃p,s=.Pass p:=Stmt.Pass.elim (motive_2:=λs=>∃p,s=.Pass p) s (aab h) λp=>⟨p,rfl⟩
noncomputable def OG(s:Stmt):Bool:=decide (s.ctorIdx=26)
theorem OF{s:Stmt}(h:OG s=true):∃p,s=.Break p:=Stmt.Break.elim (motive_2:=λs=>∃p,s=.Break p) s (aab h) λp=>⟨p,rfl⟩
noncomputable def Uo(s:Stmt):Bool:=decide (s.ctorIdx=27)
theorem Rx{s:Stmt}(h:Uo s=true):∃p,s=.Continue p:=Stmt.Continue.elim (motive_2:=λs=>∃p,s=.Continue p) s (aab h) λp=>⟨p,rfl⟩
theorem mS{i:Nat}{e:Expr}(h:kC S i e=true):∃x p,e=.Name x p:=by
 cases e<;>first|exact⟨_,_,rfl⟩|exact(aac h).elim
theorem zh{e:Expr}(h:fL e=true):∃x g sc p,e=.ListComp x g sc p:=Expr.ListComp.elim (motive_1:=λe=>∃x g sc p,e=.ListComp x g sc p) e (aab h) λ_ _ _ _=>⟨_,_,_,_,rfl⟩
mutual
noncomputable def pJ(S:Sx):CS->Stmt->Bool
 |.asg t e,s0=>br (uX s0) λz=>br (one z.1) λtg=>bV S e z.2&&r_ S t tg&&!(isTup z.2&&isTup tg)&&(!fL z.2||isNm tg)
 |.par i j a b,s0=>br (uX s0) λz=>br (one z.1) λtg=>bV S (.tup [a,b]) z.2&&C1 S i j tg z.2
 |.ret e,s0=>br (MJ s0) λz=>br z λv=>bV S e v
 |.rs _,s0=>Fx s0
 |.mut p i es,s0=>br (S.px.pm p S.sc S.bl s0) λz=>kC S i z.1&&T2 z.1&&bM S es z.2
 |.unp is e,s0=>br (uX s0) λz=>br (one z.1) λtg=>bV S e z.2&&r_ S (.tp is) tg&&!(isTup z.2&&isTup tg)&&!fL z.2
 |.lsn i es,s0=>br (uX s0) λz=>br (one z.1) λtg=>kC S i tg&&bV S (.lst es) z.2
 |.app i e,s0=>br (QW s0) λc=>br (uW c) λz=>isNil z.2.2.1&&br (Al z.1) λa=>decide (a.2.1=("append" : Str))&&kC S i a.1&&T2 a.1&&(a.2.2.endLine==z.2.2.2.line)&&br (one z.2.1) λv=>bV S e v
 |.setI i k e,s0=>br (uX s0) λz=>br (one z.1) λtg=>br (sQ tg) λw=>kC S i w.1&&T2 w.1&&bV S k w.2&&bV S e z.2&&!fL z.2
 |.ex e,s0=>br (QW s0) λv=>bV S e v&&!fL v
 |.ifs c a b,s0=>br (HR s0) λz=>bV S c z.1&&iE S a z.2.1&&iE S b z.2.2
 |.GF c b,s0=>br (MH s0) λz=>isNil z.2.2&&bV S c z.1&&iE S b z.2.1
 |.fr t it b,s0=>br (HS s0) λz=>isNil z.2.2.2&&r_ S t z.1&&Qx S it z.2.1&&(hJ z.1||Br it)&&iE S b z.2.2.1
noncomputable def iE(S:Sx):aq->aS->Bool
 |[],ss=>match ss with
  |[]=>true
  |_::_=>false
 |c::cs,ss=>match ss with
  |[]=>false
  |s::ss=>pJ S c s&&iE S cs ss
end
structure DT(px:Px)(Φ:bh):Prop where
 m:∀(X:Cx) (sc:Scope) (bl:aj) (k:Nat),PX X sc bl k->X.N.Nodup->(∀x,X.fn x=true)->∀(p:Nat) (st:Stmt) (x:Str) (pos:Pos) (args:av),px.pm p sc bl st=some (.Name x pos,args)->∀(i:Nat),X.N[i]?=some x->L2.Loc X.env.scope x->PE X (.Name x pos) (vg i) ->
  ∀(F:ah) (cs:az),lT X F Φ cs args->PS X st (o4 X F Φ (.mut p i cs))
structure lr(X:Cx)(S:Sx)(k:Nat)(Φ:bh):Prop extends Lk X S k Φ where
 uS:∀x,X.fn x=true
 px:PassesOwn (model X.prog X.w) X.A X.env X.xe
 fk:S.sc.kind=.function
 pm:DT S.px Φ
section
variable {X:Cx}{S:Sx}{k:Nat}{F:ah}{Φ:bh}
theorem lr.loc(L:lr X S k Φ){x:Str}(h:JJ S.sc x=true):L2.Loc X.env.scope x:=by
 unfold L2.Loc;rw[L.sc];unfold JJ at h;rw[Bool.or_eq_true]at h;exact h.imp aab aab
theorem GP(L:lr X S k Φ){x:Str}{p:Pos}{l:Nat}{elt:Expr}{gens:List Comprehension}{sc:Scope}:swapsWith (.ListComp elt gens sc pos) (some (.Name x p)) l X.env=pure (S8 S (.Name x p) (.ListComp elt gens sc pos)):=by
 have hb:X.env.blockKind=.function:=by unfold Env.blockKind;rw[L.sc,L.fk];rfl
 have hk:(X.env.kindOf x==some .local)=(S.sc.names.lookup x==some .local):=by
  unfold Env.kindOf;rw[L.sc]
 unfold swapsWith S8;simp only[hb,hk];rfl
theorem fR{c:CE}{e:Expr}(h:bV S c e=true)(hc:fL e=false)(t:Option Expr)(l:Nat)(env:Env):swapsWith e t l env=pure false:=by
 cases e<;>first|rfl | (cases hc;done) | (cases c<;>exact(aac h).elim)
def RQ:aN->Gy
 |[]=>Kz
 |i::is=>Cs (oi i) (RQ is)
theorem Be(L:lr X S k Φ){i:Nat}{e:Expr}(h:kC S i e=true):PG X e (oi i):=by
 cases e<;>try (exact(aac h).elim;done)
 replace h:=aD h;exact qX L.nd (by rw[L.N];exact aab h.1) (L.loc h.2) (.inl (L.uS _))
theorem Fb{i:Nat}{e:Expr}(h:kC S i e=true)(es:av)(env:Env):assignEach (e::es) env=(false,assign e env)::assignEach es env:=by
 cases e<;>first|rfl | (exact(aac h).elim;done)
theorem vw(L:lr X S k Φ):∀{is:aN} {es:av},C2 S is es=true->Mw X es (RQ is)/\(assignEach es X.env).length=is.length/\(assignEach es X.env).findIdx? (·.1)=none
 |[],[],_=>⟨xi,rfl,rfl⟩
 |[],_::_,h=>by exact(aac h).elim
 |_::_,[],h=>by exact(aac h).elim
 |i::is,e::es,h=>by
  replace h:=aD h;obtain⟨h1,h2,h3⟩:=vw L h.2;have he:=Fb h.1 es X.env;refine⟨tR (Be L h.1) h1 (by rw[he];rfl),by rw[he];simp[h2],?_⟩;rw[he,List.findIdx?_cons];simp[h3]
theorem tq{H:Hp}{R:ah}{Q:St->Hp->Prop}:∀{is:aN} {vs:af} {ds:aa} {kp:bo} {n:Nat} {σ:St} {τ:Addr->Option bo} {ρ ρ':a_},aC (aW X.K H) (nd X.K R (λ_=>False) (λ_=>none) H) kp n vs ds->SI X F R τ ρ σ H->eT is ds ρ=ok ρ' ->
  (∀σ' τ',SI X F R τ' ρ' σ' H->Q σ' H)->RQ is vs σ H Q
 |[],_,_,_,_,σ,τ,_,_,.nil,Si,e,hq=>by
  cases e;exact⟨rfl,hq σ τ Si⟩
 |[],_,_,_,_,_,_,_,_,.cons _ _,_,e,_=>by cases e
 |_::_,_,_,_,_,_,_,_,_,.nil,_,e,_=>by cases e
 |i::is,_,_,_,_,σ,τ,ρ,_,.cons (v:=v) (d:=d) h t,Si,e,hq=>by
  change (if _ then _ else _)=_ at e;split at e
  ·rename_i hi;obtain⟨τ',fb⟩:=Si.set (i:=i) (mx (τ':=τ) (Rep.rz h)) hi;exact⟨_,_,rfl,tq t fb e hq⟩
  ·cases e
noncomputable def Au(n:Nat)(τt:Addr->Option bo):Addr->Option bo:=λp=>match τt p with|some q=>if q.getLast?=some n then some q.dropLast else none|none=>none
noncomputable def As(n:Nat)(τt:Addr->Option bo):Addr->Option bo:=λp=>match τt p with|some q=>if q.getLast?=some n then none else some q|none=>none
theorem Ed{n:Nat}{p:Addr}{q:bo}(h:Au n τt p=some q):τt p=some (q++[n]):=by
 unfold Au at h;cases e:τt p with
 |none=>rw[e]at h;cases h
 |some k =>
  rw[e]at h;by_cases c:k.getLast?=some n
  ·simp only[c,if_true]at h;cases h;obtain⟨ys,rfl⟩:=List.getLast?_eq_some_iff.mp c;simp
  ·simp only[c,if_false]at h;cases h
theorem Ec{n:Nat}{p:Addr}{q:bo}(h:As n τt p=some q):τt p=some q/\q.getLast?≠some n:=by
 unfold As at h;cases e:τt p with
 |none=>rw[e]at h;cases h
 |some k =>
  rw[e]at h;by_cases c:k.getLast?=some n
  ·simp only[c,if_true]at h;cases h
  ·simp only[c,if_false]at h;cases h;exact⟨rfl,c⟩
theorem qa{H:Hp}{R:ah}{τt:Addr->Option bo}{n:Nat}:∀{vs:af} {ds:aa} {m:Nat},n<m->aC (aW X.K H) (nd X.K R (λ_=>False) τt H) [] m vs ds->aC (aW X.K H) (nd X.K R (λ_=>False) (As n τt) H) [] m vs ds
 |_,_,_,_,.nil=>.nil
 |_,_,m,hm,.cons h t=>.cons (h.imp (q':=[m]) (λ_ _ h=>h) λc p xs f h=>by
   cases f with
   |ow =>
    refine⟨h.1,?_⟩;have e:=h.2;unfold As;rw[e];have:(c++[m]).getLast?≠some n:=by rw[List.getLast?_append];simp;left
    simp only[this,if_false]
   |fz=>exact h
   |al=>exact h
   |sc=>exact h) (qa (by left) t)
theorem p8{H:Hp}{R:ah}{Q:St->Hp->Prop}:∀{is:aN} {vs:af} {ds:aa} {n:Nat} {σ:St} {τ τt:Addr->Option bo} {ρ ρ':a_},(∀p q,τt p=some q->τ p=none/\¬ R p/\X.H₀ p=none/\H p≠none)->aC (aW X.K H) (nd X.K R (λ_=>False) τt H) [] n vs ds->SI X F R τ ρ σ H->eT is ds ρ=ok ρ' ->
  (∀σ' τ',SI X F R τ' ρ' σ' H->Q σ' H)->RQ is vs σ H Q
 |[],_,_,_,σ,τ,_,_,_,_,.nil,Si,e,hq=>by
  cases e;exact⟨rfl,hq σ τ Si⟩
 |[],_,_,_,_,_,_,_,_,_,.cons _ _,_,e,_=>by cases e
 |_::_,_,_,_,_,_,_,_,_,_,.nil,_,e,_=>by cases e
 |i::is,_,_,n,σ,τ,τt,ρ,_,ht,.cons (v:=v) (d:=d) h t,Si,e,hq=>by
  change (if _ then _ else _)=_ at e;split at e
  ·rename_i hi;have fb:=Si.Nf (i:=i) (τt:=Au n τt) (λp q hp=>ht p _ (Ed hp)) (h.imp (q':=[]) (λ_ _ h=>h) λc p xs f h=>by
    cases f with
    |ow =>
     refine⟨h.1,?_⟩;have e:=h.2;unfold Au;rw[e,List.append_nil];simp
    |fz=>exact h
    |al=>exact h
    |sc=>exact h) hi
   refine⟨_,_,rfl,p8 (τt:=As n τt) (λp q hp=>?_) (qa (aa1 n) t) fb e hq⟩;obtain⟨h1,h2⟩:=Ec hp;obtain⟨g1,g2⟩:=ht p q h1;refine⟨?_,g2⟩;unfold ve Au;rw[h1];simp only[h2,if_false];exact g1
  ·cases e
theorem HU(L:lr X S k Φ)(h:r_ S (.tp is) tg=true):∃g,PG X tg g/\∀(v:V) (σ:St) (H:Hp) (Q:St->Hp->Prop) (R:ah) (τ:Addr->Option bo) (ρ ρ':a_) (d:D),SI X F R τ ρ σ H->gO X R τ H v d->HV is d ρ=ok ρ' ->
  (∀σ' τ',SI X F R τ' ρ' σ' H->Q σ' H)->g v σ H Q:=by
 obtain⟨es,hx,ha⟩:=bj h;obtain⟨nn,pp,rfl⟩:=jb hx;obtain⟨h1,h2,h3⟩:=vw L ha;refine⟨_,vt L.calm h1 h2 h3,λv σ H Q R τ ρ ρ' d Si rk e hq=>?_⟩;cases d<;>first|exact nk e | (cases e;done)|skip
 rename_i ds;have e:eT is ds ρ=ok ρ':=e;obtain⟨τt,ht,rp⟩:=rk;cases rp with
 | @tup _ p xs _ hp rs =>
  refine⟨p,xs,rfl,hp,?_,p8 ht rs Si e hq⟩;rw[rs.length];have:∀(is:aN) (ds:aa) (ρ ρ':a_),eT is ds ρ=ok ρ'->ds.length=is.length:=by
   intro is;induction is with
   |nil=>intro ds ρ ρ' e;cases ds with|nil=>rfl|cons _ _=>cases e
   |cons i is ih=>intro ds ρ ρ' e;cases ds with
    |nil=>cases e
    |cons d ds =>
     change (if _ then _ else _)=_ at e;split at e
     ·rw[List.length_cons,List.length_cons,ih ds _ _ e]
     ·cases e
  exact this _ _ _ _ e
theorem wR(L:lr X S k Φ){t:Tg}(h:r_ S t tg=true):∃g,PG X tg g/\∀(v:V) (σ:St) (H:Hp) (Q:St->Hp->Prop) (R:ah) (τ:Addr->Option bo) (ρ ρ':a_) (d:D),SI X F R τ ρ σ H->gO X R τ H v d->cY t d ρ=ok ρ' ->
  (∀σ' τ',SI X F R τ' ρ' σ' H->Q σ' H)->g v σ H Q:=by
 cases t with
 |nm i =>
  refine⟨oi i,Be L h,λv σ H Q R τ ρ ρ' d Si rk e hq=>?_⟩;simp only[cY]at e;split at e
  ·rename_i hi;cases e;obtain⟨τ',fb⟩:=Si.set rk hi;exact hq _ τ' fb
  ·cases e
 |tp is =>
  obtain⟨es,hx,ha⟩:=bj h;obtain⟨nn,pp,rfl⟩:=jb hx;obtain⟨h1,h2,h3⟩:=vw L ha;refine⟨_,vt L.calm h1 h2 h3,λv σ H Q R τ ρ ρ' d Si rk e hq=>?_⟩;cases d<;>try (simp[cY]at e;done)
  rename_i ds;simp only[cY]at e;split at e
  ·cases e
  ·rename_i ho;obtain⟨τt,ht,rp⟩:=rk;cases rp with
   | @tup _ p xs _ hp rs =>
    have iw:aC (aW X.K H) (nd X.K R (λ_=>False) (λ_=>none) H) [] 0 xs ds:=aC.without (P:=dW) (λ_ _ h=>h) (λk k' p xs f hf h=>by
     cases f with
     |ow=>cases hf
     |fz=>exact h
     |al=>exact h.2.elim
     |sc=>exact h) rs (by simpa using ho) _ _
    refine⟨p,xs,rfl,hp,?_,tq iw Si e hq⟩;rw[rs.length];have:∀(is:aN) (ds:aa) (ρ ρ':a_),eT is ds ρ=ok ρ'->ds.length=is.length:=by
     intro is;induction is with
     |nil=>intro ds ρ ρ' e;cases ds with|nil=>rfl|cons _ _=>cases e
     |cons i is ih=>intro ds ρ ρ' e;cases ds with
      |nil=>cases e
      |cons d ds =>
       change (if _ then _ else _)=_ at e;split at e
       ·simp[ih ds _ _ e]
       ·cases e
    exact this _ _ _ _ e
end
section
variable {X:Cx}{S:Sx}{k:Nat}{F:ah}{Φ:bh}
theorem Az(L:lr X S k Φ){t:Tg}{e:CE}{v:Expr}(he:bV S e v=true)(ht:r_ S t tg=true)(hp:(isTup v&&isTup tg)=false)(FD:swapsWithSole [tg] v pos.line X.env=pure false):PS X (.Assign [tg] v pos) (o4 X F Φ (.asg t e)):=by
 obtain⟨g,hg,vU⟩:=wR (F:=F) L ht;have sV:(∃x p,tg=.Name x p)\/∃es n p,tg=.Tuple es n p:=by
  cases t with
  |nm i=>cases tg<;>first|exact .inl ⟨_,_,rfl⟩|exact(aac ht).elim
  |tp is=>cases tg<;>first|exact .inr ⟨_,_,_,rfl⟩|exact(aac ht).elim
 have each:(assignEach [tg] X.env).map (·.2)=[assign tg X.env]:=by
  rcases sV with ⟨x,p,rfl⟩|⟨es,n,p,rfl⟩<;>rfl
 have hw:swappedStores [tg] v X.env=pure none:=by
  rcases sV with ⟨x,p,rfl⟩|⟨es,n,p,rfl⟩
  ·first|rfl | (cases v<;>rfl)
  ·cases v<;>first|rfl|exact absurd hp (by simp[isTup])
 refine PS.imp (qW (nu (F:=F) L.toLk e v he) hg FD hw each) λD σ H hq=>?_;obtain⟨R,τ,ρ,r,Si,ev,hq⟩:=hq;obtain⟨r1,um,ev⟩:=aB ev;obtain⟨ρ',eρ,ev⟩:=aB ev;cases ev;exact⟨R,τ,ρ,r1,Si,um,λv H' R' τ' es hR fb rk=>vU v σ H' _ R' τ' r1.2 ρ' r1.1 fb rk eρ λσ' qI wF=>hq σ' H' R' qI wF (Kp.of es hR)⟩
theorem Ip(L:lr X S k Φ){e:CE}{v:Expr}(he:bV S e v=true)(ht:r_ S (.tp is) tg=true)(hp:(isTup v&&isTup tg)=false)(FD:swapsWithSole [tg] v pos.line X.env=pure false):PS X (.Assign [tg] v pos) (o4 X F Φ (.unp is e)):=by
 obtain⟨g,hg,vU⟩:=HU (F:=F) L ht;have sV:∃es n p,tg=.Tuple es n p:=by
  cases tg<;>first|exact⟨_,_,_,rfl⟩|exact(aac ht).elim
 have each:(assignEach [tg] X.env).map (·.2)=[assign tg X.env]:=by
  obtain⟨es,n,p,rfl⟩:=sV;rfl
 have hw:swappedStores [tg] v X.env=pure none:=by
  obtain⟨es,n,p,rfl⟩:=sV;cases v<;>first|rfl|exact absurd hp (by simp[isTup])
 refine PS.imp (qW (nu (F:=F) L.toLk e v he) hg FD hw each) λD σ H hq=>?_;obtain⟨R,τ,ρ,r,Si,ev,hq⟩:=hq;obtain⟨r1,um,ev⟩:=aB ev;obtain⟨ρ',eρ,ev⟩:=aB ev;cases ev;exact⟨R,τ,ρ,r1,Si,um,λv H' R' τ' es hR fb rk=>vU v σ H' _ R' τ' r1.2 ρ' r1.1 fb rk eρ λσ' qI wF=>hq σ' H' R' qI wF (Kp.of es hR)⟩
theorem Ej(L:lr X S k Φ){i n:Nat}{t:Tg}{ik:IK}{x:Str}{p Na:Pos}{gens:List Comprehension}{sc:Scope}
  (he:bV S (.comp n t caps ik es bH elt) (.ListComp jr gens sc pos)=true) (hn:kC S i (.Name x p)=true) (FD:swapsWith (.ListComp jr gens sc pos) (some (.Name x p)) Na.line X.env=pure true) :
  PS X (.Assign [.Name x p] (.ListComp jr gens sc pos) Na) (o4 X F Φ (.asg (.nm i) (.comp n t caps ik es bH elt))):=by
 intro pins s σ H D I hq;obtain⟨R,τ,ρ,r,Si,ev,hq⟩:=hq;obtain⟨r1,um,ev⟩:=aB ev;obtain⟨ρ',eρ,ev⟩:=aB ev;cases ev;have um:bd (bp Φ (.comp n t caps ik es bH elt) ρ) (λd=>ok (keep (.comp n t caps ik es bH elt) d ρ))=ok r1:=um;obtain⟨d,ed,um⟩:=aB um;cases um;have hg:=Be L hn;rw[exec_Assign_Name_used _ _ _ _ FD];refine aaa (ab_ (aaa ?_));obtain⟨⟨e0,g0,s0⟩,Zp,DK⟩:=bj he;cases Zp;obtain⟨⟨target,iter,ifs,a⟩,U8,hz⟩:=bj DK;obtain rfl:gens=_:=bI U8;obtain⟨hz,h6⟩:=aD hz;obtain⟨hz,h5⟩:=aD hz;obtain⟨hz,h4⟩:=aD hz;obtain⟨hz,h3⟩:=aD hz;obtain⟨hz,h2⟩:=aD hz;obtain⟨hz,h1⟩:=aD hz;obtain rfl:a=0:=aab hz;have hC:=uA (aab h3) h4 (λ(X':Cx) (F':ah) (L':Lk X' (S.inner target caps sc) k Φ)=>iN bH X' _ F' L' ifs h4);have run:wpAny (model X.prog X.w) X.A (comprehension (.ListComp jr [⟨target,iter,ifs,0⟩] sc pos) sc X.env (firstIterPos [⟨target,iter,ifs,0⟩] pos) (newList []) false (eval iter X.env) (some (assign (.Name x p) X.env))) (λ_ s'=>SP X pins D .next s') X.xe s:=by
  refine uB (F:=F) (k:=k) L.toLk (qy h1) h2 (λX' F' L'=>(gh (F:=F') L' elt jr h5).1) hC ?_ (use:=some (assign (.Name x p) X.env)) (Post:=λ_ s'=>SP X pins D .next s') I Si ed ?_
  ·exact BS L.toLk (λl=>j_ (F:=F) L.toLk es l) (λl=>iN es X S F L.toLk l) (λl=>nj L.toLk es l) h6
  ·intro acc C H1 s1 m z6 hc IX sm rt;obtain⟨c1,c2,c3,c4,c5⟩:=hc;obtain⟨R',τ',hR,fb,rk⟩:=G9 (e:=.comp n t caps ik es bH elt) Si sm rt;have I1:Inv X pins σ H1 s1:=IX s1.heap (.refl ..);obtain⟨oC,esC,epC,ZA,Xq,Zw⟩:=z6;have cfs:C∉X.fs:=λz=>by
    obtain⟨_,o,ho,_⟩:=I1.ok.jK.mem z;exact absurd (aaj (aaf ho) c2) (aax _)
   have I2:Inv X ((C,oC)::pins) σ H1 s1:=I1.jg λq hq=>by
    rcases List.mem_cons.mp hq with rfl|hq
    ·exact⟨ZA,c5,c1,cfs,λv z=>by rw[Xq]at z;cases z⟩
    ·exact I1.pin q (aam _ hq)
   simp only[cY]at eρ;split at eρ
   ·rename_i hi;cases eρ;obtain⟨τ2,wC⟩:=fb.set rk hi;show wpAny _ _ (assign (.Name x p) X.env (.ref acc)) _ _ _;refine aau (hg ((C,oC)::pins) s1 σ H1 (.ref acc) (.ref acc) (λσ' H'=>σ'=σ.set i (some (.ref acc))/\H'=H1) I2 rfl ⟨rfl,rfl⟩) (λ_ s2 h2=>?_) λ_ _ z=>z;obtain⟨σ',H',I3,rfl,rfl⟩:=h2;have hC3:=(I3.pin (C,oC) (aam _ aah)).1;refine⟨m,⟨oC,esC,epC,hC3,Xq,Zw⟩,λh' B5=>?_⟩;have I4:Inv X pins (σ.set i (some (.ref acc))) H' s2:=I3.jg λq hq=>I3.pin q (aam _ (aag _ hq));have I5:=I4.turned (t':=s2.toks) (h':=h') (it:=C) (λb o hb e=>(B5.2 b hb).trans e) c5 c1 (.inr c2) c3 c4;exact⟨_,H',I5,hq _ H' R' τ2 wC (Kp.of sm hR)⟩
   ·cases eρ
 exact aaa (aau run (λ_ s' h=>aad (aad h)) λ_ _ z=>z)
theorem Iq(L:lr X S k Φ){e:CE}{v:Expr}(he:bV S e v=true):PS X (.Return (some v) pos) (o4 X F Φ (.ret e)):=by
 refine PS.imp (qU (nu (F:=F) L.toLk e v he)) λD σ H hq=>?_;obtain⟨R,τ,ρ,r,Si,ev,hq⟩:=hq;obtain⟨r1,um,ev⟩:=aB ev;cases ev;exact⟨R,τ,ρ,r1,Si,um,λv H' R' τ' es hR fb rk=>hq v H' fb.same (rk.ret fb)⟩
theorem M_(L:lr X S k Φ){e:CE}{v:Expr}(he:bV S e v=true)(U0:fL v=false):PS X (.Expr v pos) (o4 X F Φ (.ex e)):=by
 refine PS.imp (qV (gh (F:=F) L.toLk e v he).1 (fR he U0 _ _ _)) λD σ H hq=>?_;obtain⟨R,τ,ρ,r,Si,ev,hq⟩:=hq;obtain⟨d,ed,ev⟩:=aB ev;cases ev;exact tD.intro Si ed λv H' es rv=>hq σ H' R τ (Si.go es) (Kp.of es λ_ h=>h)
theorem lU.from{D:Ends}{r:Fo×a_}(h:lU X F D R H r)(kp:Kp R H R1 H1):lU X F D R1 H1 r:=by
 obtain⟨fo,ρ'⟩:=r;cases fo with
 |nx=>exact λσ' H' R' τ' Si k2=>h σ' H' R' τ' Si (kp.trans k2)
 |rt d=>exact h
theorem M9(L:lr X S k Φ){c:CE}{a b:aq}{t:Expr}{x y:aS}(hc:bV S c t=true)(ha:ig X x (pj X F Φ a))(hb:ig X y (pj X F Φ b)):PS X (.If t x y pos) (o4 X F Φ (.ifs c a b)):=by
 refine PS.imp (w9 (gh (F:=F) L.toLk c t hc).2 ha hb) λD σ H hq=>?_;obtain⟨R,τ,ρ,r,Si,ev,hq⟩:=hq;obtain⟨w,ew,ev⟩:=aB ev;refine⟨R,τ,ρ,w,Si,ew,λH1 e1=>?_⟩;cases w with
 |true=>rw[if_pos rfl]at ev ⊢;exact⟨R,τ,ρ,r,Si.go e1,ev,hq.from (Kp.of e1 λ_ h=>h)⟩
 |false=>rw[if_neg (by simp)]at ev ⊢;exact⟨R,τ,ρ,r,Si.go e1,ev,hq.from (Kp.of e1 λ_ h=>h)⟩
theorem Ay(L:lr X S k Φ){c:CE}{b:aq}{t:Expr}{x:aS}(hc:bV S c t=true)(hb:ig X x (pj X F Φ b)):PS X (.While t x [] pos) (o4 X F Φ (.GF c b)):=by
 refine PS.imp (A6 L.px (gh (F:=F) L.toLk c t hc).2 hb) λD σ H hq=>?_;obtain⟨R,τ,ρ,r,Si,ev,hq⟩:=hq;obtain⟨n,hn⟩:=kW ev;refine⟨λm σ' H'=>∃R' τ' ρ',SI X F R' τ' ρ' σ' H'/\Kp R H R' H'/\dh m _ ρ'=ok r,⟨n,R,τ,ρ,Si,Kp.refl R H,hn⟩,?_⟩;rintro m σ1 H1 ⟨R1,τ1,ρ1,wD,k1,e1⟩;cases m with
 |zero=>simp[dh]at e1
 |succ m =>
  rw[dh]at e1;obtain⟨st,es,e1⟩:=aB e1;obtain⟨w,ew,es⟩:=aB es;refine⟨R1,τ1,ρ1,w,wD,ew,λH2 e2=>?_⟩;cases w with
  |false =>
   rw[if_neg (by simp)]at es ⊢;cases es;cases e1;exact hq σ1 H2 R1 τ1 (wD.go e2) (k1.trans (Kp.of e2 λ_ h=>h))
  |true =>
   rw[if_pos rfl]at es ⊢;obtain⟨⟨fo,ρ2⟩,eb,es⟩:=aB es;refine⟨λσ' H'=>∃R' τ' ρ',SI X F R' τ' ρ' σ' H'/\Kp R H R' H'/\dh m _ ρ'=ok r,λσ' H' h=>⟨m,aa1 m,h⟩,R1,τ1,ρ1,(fo,ρ2),wD.go e2,eb,?_⟩;have k2:Kp R H R1 H2:=k1.trans (Kp.of e2 λ_ h=>h);cases fo with
   |nx=>cases es;exact λσ' H' R' τ' fb k3=>⟨R',τ',ρ2,fb,k2.trans k3,e1⟩
   |rt d=>cases es;cases e1;exact hq
def kH(X:Cx)(F:ah)(Φ:bh)(t:Tg)(b:aq)(R1:ah)(H1:Hp)(r:Fo×a_)(items:List DI.D)(i:Nat)(σ:St)(H:Hp):Prop :=
 ∃R' τ' ρ',SI X F R' τ' ρ' σ H/\Kp R1 H1 R' H/\fW (λd ρ=>cY t d ρ) (λρ=>bJ Φ b ρ) (items.drop i) ρ'=ok r
theorem ou{g:TG}{t:Tg}{b:aq}{D:Ends}{r:Fo×a_}{items:List DI.D}{q:bo}
  (vU:∀(v:V) (σ:St) (H:Hp) (Q:St->Hp->Prop) (R:ah) (τ:Addr->Option bo) (ρ ρ':a_) (d:DI.D),SI X F R τ ρ σ H->gO X R τ H v d->cY t d ρ=ok ρ'->(∀σ' τ',SI X F R τ' ρ' σ' H->Q σ' H)->g v σ H Q)
  (rs:aC (aW X.K H1) (nd X.K R1 (λ_=>False) (λ_=>none) H1) q 0 xs items) (hq:lU X F D R1 H1 r) (i:Nat) (x:V) (σ:St) (H:Hp) (hx:xs[i]?=some x) (h:kH X F Φ t b R1 H1 r items i σ H) :
  g x σ H λσ2 H2=>pj X F Φ b { D with nx:=kH X F Φ t b R1 H1 r items (i+1),ct:=kH X F Φ t b R1 H1 r items (i+1),bk:=D.nx } σ2 H2:=by
 obtain⟨R',τ',ρ',Si,kp,ef⟩:=h;obtain⟨d,hd,rd⟩:=rs.vZ hx;have hi:i<items.length:=by
  by_cases hi:i<items.length
  ·exact hi
  ·rw[List.getElem?_eq_none (by left)]at hd;cases hd
 have uc:items.drop i=d::items.drop (i+1):=by
  rw[List.drop_eq_getElem_cons hi];rw[List.getElem?_eq_getElem hi]at hd;cases hd;rfl
 rw[uc,fW]at ef;obtain⟨ρ1,e1,ef⟩:=aB ef;obtain⟨⟨fo,ρ2⟩,e2,ef⟩:=aB ef;refine vU x σ H _ R' τ' ρ' ρ1 d Si (mx (Rep.rz (kp.rep rd))) e1 λσ' qI fb=>⟨R',qI,ρ1,(fo,ρ2),fb,e2,?_⟩
 cases fo with
 |nx=>exact λσ3 H3 R3 τ3 LJ k3=>⟨R3,τ3,ρ2,LJ,kp.trans k3,ef⟩
 |rt d=>cases ef;exact hq
theorem mI{t:Tg}{b:aq}{D:Ends}{r:Fo×a_}{items:List DI.D}{n:Nat}(hn:n=items.length)(hq:lU X F D R1 H1 r)(σ:St)(H:Hp)(h:kH X F Φ t b R1 H1 r items n σ H):D.nx σ H:=by
 obtain⟨R',τ',ρ',Si,kp,ef⟩:=h;subst hn;rw[List.drop_length,fW]at ef;cases ef;exact hq σ H R' τ' Si kp
theorem x5(ρ:a_):gF [] ρ=ρ:=by
 unfold gF;apply List.ext_getElem?;intro i;rw[List.getElem?_mapIdx];cases ρ[i]? with
 |none=>rfl
 |some o=>simp
theorem x9{v:V}{d:DI.D}(Si:SI X F R τ ρ σ H)(es:aK H H')(r:b_ X.K (gP X F) R τ fv H H' v d):
  ∃R' τ',(∀p,R p->R' p)/\SI X F R' τ' (if aY bN d then gF fv ρ else ρ) σ H'/\Rep (aW X.K H') (nd X.K R' (λ_=>False) (λ_=>none) H') [] v (aw aL d):=by
 by_cases ha:aY bN d=true
 ·rw[if_pos ha];exact rQ Si es r
 ·rw[if_neg ha];have r':b_ X.K (gP X F) R τ [] H H' v d:=by
   obtain⟨τt,fr,rp⟩:=r;exact⟨τt,fr,Rep.j4 (P:=bN) (λ_ _ h=>h) (λk p xs f hf h=>by
    cases f with
    |ow=>exact h
    |fz=>exact h
    |al=>cases hf
    |sc=>exact h) rp (by simpa using ha)⟩
  have:=rQ Si es r';rw[x5]at this;exact this
theorem Ct{ds:List DI.D}(Si:SI X F R τ ρ σ H)(es:aK H H')(r:cF X.K (gP X F) R τ fv H H' vs ds):
  ∃R' τ',(∀p,R p->R' p)/\SI X F R' τ' (if aP bN ds then gF fv ρ else ρ) σ H'/\aC (aW X.K H') (nd X.K R' (λ_=>False) (λ_=>none) H') [] 0 vs (au aL ds):=by
 by_cases ha:aP bN ds=true
 ·rw[if_pos ha];exact oo Si es r
 ·rw[if_neg ha];have r':cF X.K (gP X F) R τ [] H H' vs ds:=by
   obtain⟨τt,fr,rp⟩:=r;exact⟨τt,fr,aC.j4 (P:=bN) (λ_ _ h=>h) (λk p xs f hf h=>by
    cases f with
    |ow=>exact h
    |fz=>exact h
    |al=>cases hf
    |sc=>exact h) rp (by simpa using ha)⟩
  have:=oo Si es r';rw[x5]at this;exact this
def Yh(X:Cx)(F:ah)(Φ:bh)(p:Nat)(cs:az):TI:=λσ H Rr=>∃R τ ρ xs d items,SI X F R τ ρ σ H/\bK Φ cs ρ=ok xs/\Φ p xs=ok d/\pw d=ok items /\
 ∀J H2 vs,aK H H2->cF X.K (gP X F) R τ (cO cs) H H2 vs xs->Mu X.K J H2 vs xs items->Rr J H2
theorem Ei(L:lr X S k Φ){t:Tg}{p:Nat}{b:aq}{x:aS}(ht:r_ S t tg=true)(hi:S.px.pi p S.sc S.bl iter=some args)(hc:bM S cs args=true)(B7:Rj iter=true)(Zs:(decide (1100<=p)||hJ tg)=true)(hb:ig X x (pj X F Φ b)):PS X (.For tg iter x [] pos) (o4 X F Φ (.fr t (.Je p cs) b)):=by
 obtain⟨g,hg,vU⟩:=wR (F:=F) L ht;have lM:∀y,foldedSetIterable iter X.env y=pure y:=by
  intro y;cases iter<;>first|rfl | (cases B7;done)
 have pi:PI X tg iter (Yh X F Φ p cs):=λpins s σ H Rr I ⟨R,τ,ρ,xs,d,items,Si,b7,ed,ei,hR⟩ =>
  L.pr.i X _ _ k L.toLk.pX p iter args hi F cs tg Zs (nj L.toLk cs args hc) pins s σ H R τ ρ xs d items I Si b7 ed ei Rr hR
 refine PS.imp (nI L.px L.calm pi hg hb lM) λD σ H hq=>?_;obtain⟨R,τ,ρ,r,Si,ev,hq⟩:=hq;obtain⟨⟨items,ρ1⟩,ei,ef⟩:=aB ev;obtain⟨xs,b7,ei⟩:=aB ei;obtain⟨d,ed,ei⟩:=aB ei;obtain⟨Uh,ei',ei⟩:=aB ei;cases ei;refine⟨R,τ,ρ,xs,d,items,Si,b7,ed,ei',λJ H2 vs e2 Ey yz=>?_⟩;obtain⟨R',τ',hR,fb,rs⟩:=Ct Si e2 Ey;have zo:=hq.from (Kp.of e2 hR);refine⟨λi m σ' H'=>m=items.length - i/\i<=items.length/\kH X F Φ t b R' H2 r items i σ' H',⟨_,rfl,aaL _,R',τ',_,fb,Kp.refl R' H2,by rw[List.drop_zero];exact ef⟩,?_⟩;rintro i m σ1 H1 ⟨rfl,Pd,hf⟩;obtain⟨R1,τ1,ρ2,wD,k1,e1⟩:=id hf;have Nn:=k1.Tj rs;have S_:qG X.K H2 vs xs H1:=⟨⟨R',rs,k1.l⟩,λa ys h=>k1.Q3 h⟩
 by_cases iB:i<items.length
 ·refine .inr ⟨yz.go i H1 R1 S_ Nn iB,λσ' H'=>kH X F Φ t b R' H2 r items (i+1) σ' H',λσ' H' h=>⟨items.length - (i+1),by left,rfl,iB,h⟩,λv H3 hy=>?_⟩;obtain⟨e3,dd,hd,rd⟩:=yz.uN i H1 R1 v H3 S_ Nn iB hy;have uc:items.drop i=dd::items.drop (i+1):=by
   rw[List.drop_eq_getElem_cons iB];rw[List.getElem?_eq_getElem iB]at hd;cases hd;rfl
  rw[uc,fW]at e1;obtain⟨ρ3,eb,e1⟩:=aB e1;obtain⟨⟨fo,ρ4⟩,e4,e1⟩:=aB e1;have k3:Kp R' H2 R1 H3:=k1.trans (Kp.of e3 λ_ h=>h);refine vU v σ1 H3 _ R1 τ1 ρ2 ρ3 dd (wD.go e3) (mx rd) eb λσ' qI wF=>⟨R1,qI,ρ3,(fo,ρ4),wF,e4,?_⟩
  cases fo with
  |nx=>exact λσ3 H4 R3 τ3 LJ k4=>⟨R3,τ3,ρ4,LJ,k3.trans k4,e1⟩
  |rt d=>cases e1;exact zo
 ·exact .inl ⟨yz.stop i H1 R1 S_ Nn (by left),mI (n:=i) (by left) zo σ1 H1 hf⟩
theorem aC.ints{T:kJ}{N:fc}:∀(is:ae) {k:bo} {n:Nat},aC T N k n (is.map V.int) (is.map DI.D.int)
 |[],_,_=>.nil
 |i::is,_,_=>.cons (.int i) (aC.ints is)
theorem Iv(L:lr X S k Φ){t:Tg}{it:CI}{b:aq}{x:aS}(ht:r_ S t tg=true)(hi:Qx S it iter=true)(ZC:(hJ tg||Br it)=true)(hb:ig X x (pj X F Φ b)):PS X (.For tg iter x [] pos) (o4 X F Φ (.fr t it b)):=by
 obtain⟨g,hg,vU⟩:=wR (F:=F) L ht;have lM:∀y,foldedSetIterable iter X.env y=pure y:=by
  intro y;cases iter<;>first|rfl | (cases it<;>first|exact(aac hi).elim|exact(aac (aD hi).2).elim)
 have jZ:∀{lo:Int} {n:Nat} {D:Ends} {R:ah} {τ:Addr->Option bo} {ρ:a_} {σ:St} {H H1:Hp} {r:Fo×a_},SI X F R τ ρ σ H->aK H H1->lU X F D R H r ->
   fW (λd ρ=>cY t d ρ) (λρ=>bJ Φ b ρ) ((List.range n).map λ(k:Nat)=>DI.D.int (lo+(k:Int))) ρ=ok r ->
   ∃W:Nat->Nat->L2.St->Hp->Prop,(∃m,W 0 m σ H1)/\∀i m σ H,W i m σ H ->
    ((zW lo n).stop i H/\D.nx σ H)\/((zW lo n).go i H/\∃N:L2.St->Hp->Prop,(∀σ' H',N σ' H'->∃m',m'<m/\W (i+1) m' σ' H')/\∀x H',(zW lo n).uN i H x H'->g x σ H' λσ2 H2=>pj X F Φ b { D with nx:=N,ct:=N,bk:=D.nx } σ2 H2):=by
  intro lo n D R τ ρ σ H H1 r Si e1 hq ef;have rs:aC (aW X.K H1) (nd X.K R (λ_=>False) (λ_=>none) H1) [] 0 ((List.range n).map λ(k:Nat)=>V.int (lo+(k:Int))) ((List.range n).map λ(k:Nat)=>DI.D.int (lo+(k:Int))):=by
   have:=aC.ints (T:=aW X.K H1) (N:=nd X.K R (λ_=>False) (λ_=>none) H1) ((List.range n).map λ(k:Nat)=>lo+(k:Int)) (k:=[]) (n:=0);rw[List.map_map,List.map_map]at this;exact this
  have zo:=hq.from (Kp.of e1 (R':=R) λ_ h=>h);refine zE (kH X F Φ t b R H1 r _) ⟨R,τ,ρ,Si.go e1,Kp.refl R H1,by rw[List.drop_zero];exact ef⟩ (λi σ' H' zq h=>?_) (λσ' H' h=>mI (by simp) zo σ' H' h);exact ou vU rs zo i (.int (lo+i)) σ' H' (by rw[List.getElem?_map,List.getElem?_range zq];rfl) h
 intro pins s σ H D I RD;cases it with
 |Je p cs =>
  obtain⟨B7,hz⟩:=aD hi;obtain⟨args,ha,B0⟩:=bj hz;exact Ei L ht ha B0 B7 (by rw[Bool.or_comm];exact ZC) hb pins s σ H D I RD
 |jZ a =>
  obtain⟨R,τ,ρ,r,Si,ev,hq⟩:=RD;obtain⟨⟨items,ρ1⟩,ei,ef⟩:=aB ev;obtain⟨⟨y,as⟩,hv,hz⟩:=bj hi;obtain⟨p,zj,rfl⟩:=b6 hv;obtain⟨Rz,B0⟩:=aD hz;obtain⟨Uy,h2⟩:=aD Rz;obtain⟨Ux,h1⟩:=aD Uy;obtain rfl:y=_:=aab Ux;obtain⟨e,hu,h3⟩:=bj B0;obtain rfl:as=[e]:=bI hu;have pa:PA X [e] (pZ X F Φ [a]):=PA.imp (cV (gh (F:=F) L.toLk a e h3).1 fI (bz h3 _ _)) λ_ _ _ h=>by
   have:=fF h;obtain⟨R,τ,ρ,d,Si,ev,hq⟩:=this;exact⟨R,τ,ρ,d,Si,ev,λv H' e r=>jc (hq v H' e r)⟩
  refine nI L.px L.calm (qf (L.gl h1) (L.bl _ (aab h2)) pa (bz h3 _ _)) hg hb lM pins s σ H D I ?_;obtain⟨d,ed,ei⟩:=aB ei;cases d<;>try (simp at ei;done)
  rename_i n;simp at ei;obtain⟨⟨c1,c2⟩,rfl,rfl⟩:=ei;have n_:(eE:Int)=1000000:=rfl;refine⟨R,τ,ρ,[.int n],Si,by show bd (bp Φ a ρ) _=_;rw[ed];rfl,λvs H1 e1 rv=>?_⟩;obtain⟨τt,fr,rs⟩:=rv;cases rs.ints1
  ·refine⟨n,rfl,by left,by left,?_⟩;refine jZ (lo:=0) Si e1 hq ?_;simpa using ef
 |l9 a c =>
  obtain⟨R,τ,ρ,r,Si,ev,hq⟩:=RD;obtain⟨⟨items,ρ1⟩,ei,ef⟩:=aB ev;obtain⟨⟨y,as⟩,hv,hz⟩:=bj hi;obtain⟨p,zj,rfl⟩:=b6 hv;obtain⟨Rz,B0⟩:=aD hz;obtain⟨Uy,h2⟩:=aD Rz;obtain⟨Ux,h1⟩:=aD Uy;obtain rfl:y=_:=aab Ux;obtain⟨⟨e,e'⟩,hu,h34⟩:=bj B0;obtain rfl:as=[e,e']:=fD hu;obtain⟨h3,h4⟩:=aD h34;have pa:PA X [e,e'] (pZ X F Φ [a,c]):=j_ L.toLk [a,c] [e,e'] (by show(bV S a e&&(bV S c e'&&true))=true;rw[h3,h4];rfl);refine nI L.px L.calm (qe (L.gl h1) (L.bl _ (aab h2)) pa (by rw[bz h3,bz h4];rfl) (bz h4 _ _)) hg hb lM pins s σ H D I ?_;obtain⟨d,ed,ei⟩:=aB ei;obtain⟨d',VR,ei⟩:=aB ei;cases d<;>try (simp at ei;done)
  cases d'<;>try (simp at ei;done)
  rename_i m _ n;simp at ei;obtain⟨⟨c1,c2,c3,c4⟩,rfl,rfl⟩:=ei;have n_:(eE:Int)=1000000:=rfl;refine⟨R,τ,ρ,[.int m,.int n],Si,by show bd (bp Φ a ρ) _=_;rw[ed];show bd (bd (bp Φ c ρ) _) _=_;rw[VR];rfl,λvs H1 e1 rv=>?_⟩;obtain⟨τt,fr,rs⟩:=rv;cases rs.ints2
  ·refine⟨m,n,rfl,⟨by left,by left,by left,by left⟩,?_⟩;exact jZ (lo:=m) Si e1 hq ef
 |seq a =>
  obtain⟨R,τ,ρ,r,Si,ev,hq⟩:=RD;obtain⟨⟨items,ρ1⟩,ei,ef⟩:=aB ev;replace hi:=aD hi;obtain⟨d,ed,ei⟩:=aB ei;have pe:=(gh (F:=F) L.toLk a iter hi.1).1;cases d<;>try (simp at ei;done)
  ·rename_i ds;simp at ei;obtain⟨rfl,rfl⟩:=ei;refine nI L.px L.calm (Bd pe) hg hb lM pins s σ H D I (tD.intro Si ed λv H1 e1 rv=>?_);obtain⟨R',τ',hR,fb,rp⟩:=x9 Si e1 rv;rw[aw]at rp;cases rp with
   | @tup _ p xs _ hp rs =>
    have zo:=hq.from (Kp.of e1 hR);refine⟨p,rfl,⟨xs,hp⟩,FT (xs:=xs) (kH X F Φ t b R' H1 r (au aL ds)) ⟨R',τ',_,fb,Kp.refl R' H1,by rw[List.drop_zero];exact ef⟩ (λi σ' H' _ h=>?_) (λi x σ' H' hx h=>ou vU rs zo i x σ' H' hx h) (λσ' H' h=>mI (rs.length) zo σ' H' h)⟩;obtain⟨R2,τ2,ρ2,_,kp,_⟩:=h;exact kp.Q3 hp
  ·rename_i f ds;simp at ei;obtain⟨rfl,rfl⟩:=ei;refine nI L.px L.calm (xh pe) hg hb lM pins s σ H D I (tD.intro Si ed λv H1 e1 rv=>?_);obtain⟨R',τ',hR,fb,rp⟩:=x9 Si e1 rv;rw[aw]at rp;obtain⟨p,xs,rfl,hp,rs⟩:=rp.sO;have zo:=hq.from (Kp.of e1 hR);refine⟨p,rfl,⟨xs,hp.sq⟩,Cv (xs:=xs) (kH X F Φ t b R' H1 r (au aL ds)) ⟨R',τ',_,fb,Kp.refl R' H1,by rw[List.drop_zero];exact ef⟩ (λi σ' H' _ h=>?_) (λi x σ' H' hx h=>ou vU rs zo i x σ' H' hx h) (λσ' H' h=>mI (rs.length) zo σ' H' h)⟩;obtain⟨R2,τ2,ρ2,_,kp,_⟩:=h;exact(kp.nd hp).sq
theorem vM{ρ':a_}{p:Addr}{q:bo}{n:Nd}{o:HO}(Si:SI X F R' τ' ρ' σ H1)(es:aK H H1)(hR:∀p,R p->R' p)(hp:fi H1 p n)(ht:τ' p=some q):Kp R H R' (upd H1 p o):=by
 obtain⟨o0,Mb,OZ,Ma⟩:=fi.some hp;exact⟨hR,λa u ha e=>by
  have ne:a≠p:=λz=>by subst z;rw[Si.rt _ (hR _ ha)]at ht;cases ht
  rw[ba ne];exact es _ _ e,λa zs e=>by
  have e1:=es _ _ e;have ne:a≠p:=λz=>by subst z;rw[Mb]at e1;cases e1;exact OZ _ rfl
  rw[ba ne];exact e1,λa o u e=>by
  have e1:=es _ _ e;have ne:a≠p:=λz=>by subst z;rw[Mb]at e1;cases e1;exact Ma _ _ rfl
  rw[ba ne];exact e1⟩
theorem gO.go{v:V}{d:DI.D}(h:gO X R τ H v d)(e:aK H H'):gO X R τ H' v d :=
 let ⟨τt,h1,h2⟩:=h;⟨τt,λp q z=>let ⟨a,b,c,d⟩:=h1 p q z;⟨a,b,c,aK.ne e d⟩,h2.imp (λ_ _ h=>aW.same e h) λ_ _ _ _ h=>nd.same e h⟩
theorem T1(L:lr X S k Φ){i:Nat}(h:kC S i o=true)(hv:∀x p,o=.Name x p->ma x=true):∃x p,o=.Name x p/\X.N[i]?=some x/\L2.Loc X.env.scope x/\PE X o (vg i):=by
 cases o<;>try (exact(aac h).elim;done)
 rename_i x p;have hn:=hv x p rfl;replace h:=aD h;unfold ma at hn;simp only[Bool.and_eq_true,Bool.not_eq_true']at hn;have hN:X.N[i]?=some x:=by rw[L.N];exact aab h.1
 have hl:=L.loc h.2;exact⟨x,p,rfl,hN,hl,nK hN (hl.imp id .inl) hn.1.1 hn.1.2⟩
theorem yb{e:CE}{r:DI.D×a_}{i:Nat}{ds:List DI.D}(h:iK Φ e ρ=ok r)(ho:r.2[i]?=some (some (.lst .ow ds))):ρ[i]?=some (some (.lst .ow ds)):=by
 by_cases hv:∃j,e=.v j
 ·obtain⟨j,rfl⟩:=hv;simp only[iK]at h;split at h
  ·split at h
   ·cases h;by_cases jy:i=j
    ·subst jy;rw[List.getElem?_set]at ho;simp at ho
    ·rw[List.getElem?_set_ne (Ne.symm jy)]at ho;exact ho
   ·cases h;exact ho
  ·cases h
 ·have h':bd (bp Φ e ρ) (λd=>ok (keep e d ρ))=ok r:=by
   cases e<;>first|exact h|exact absurd ⟨_,rfl⟩ hv
  obtain⟨d,_,er⟩:=aB h';cases er;unfold keep at ho;split at ho
  ·obtain⟨d',h1,h2⟩:=x6 _ _ _ _ ho;split at h2
   ·cases d'<;>simp[aw]at h2;rename_i f ds';cases f<;>simp[aL]at h2
   ·rw[h2];exact h1
  ·exact ho
theorem Iw(L:lr X S k Φ){i:Nat}{e:CE}{x:Str}{v:Expr}{p:Pos}(hn:kC S i (.Name x p)=true)(hx:ma x=true)(he:bV S e v=true)(FI:(p1.endLine==p2.line)=true):PS X (.Expr (.Call (.Attribute (.Name x p) ("append" : Str) p1) [v] [] p2) pos) (o4 X F Φ (.app i e)):=by
 obtain⟨_,_,z,hN,hl,pe⟩:=T1 L hn (λy q e=>by cases e;exact hx);cases z;refine PS.imp (qV (NL PySem.F.plainAttrs_list PySem.F.slot_list_append PySem.F.type_list_append y7 pe (cV (nu (F:=F) L.toLk e v he) fI (bz he _ _)) (hfew:=by rw[bz he];rfl) (hline:=FI) (hs:=bz he _ _))) λD σ H hq=>?_;obtain⟨R,τ,ρ,r,Si,ev,hq⟩:=hq;obtain⟨r1,um,ev⟩:=aB ev;split at ev
 ·rename_i ds ho;split at ev
  ·rename_i hc;cases ev;have ho:=xq ho;obtain⟨a,xs,hv,ha,Zn,Zu,_⟩:=Si.own (yb um ho);refine⟨.ref a,hv,.inl ⟨rfl,_,dE.of ha⟩,R,τ,ρ,r1,Si,um,λw H1 R1 τ1 es hR wD rk=>?_⟩;obtain⟨a1,Yd,RB,Vh,Zm,OO,Nn⟩:=wD.own ho;rw[hv]at RB;cases RB;have hz:sizeLine=16777216:=aa6;have n_:eE=1000000:=rfl;refine⟨a,Yd,w,rfl,rfl,Vh,by left,?_⟩;obtain⟨τ2,wC⟩:=wD.put (m:=ds.length) (g:=λys=>ys++[w]) ho hv Vh OO Nn rk λrs r=>aC.wV rs (by simpa using r);exact hq σ _ R1 τ2 wC (vM (n:=.l _) wD es hR Vh OO)
  ·cases ev
 ·cases ev
theorem Eh(L:lr X S k Φ){i:Nat}{c e:CE}{x:Str}{ke v:Expr}{p:Pos}(hn:kC S i (.Name x p)=true)(hx:ma x=true)(hk:bV S c ke=true)(he:bV S e v=true)(U0:fL v=false):PS X (.Assign [.Subscript (.Name x p) ke p1] v pos) (o4 X F Φ (.setI i c e)):=by
 obtain⟨_,_,z,hN,hl,pe⟩:=T1 L hn (λy q e=>by cases e;exact hx);cases z;have hw:swappedStores [.Subscript (.Name x p) ke p1] v X.env=pure none:=by cases v<;>rfl
 have ha:∀u,assign (.Subscript (.Name x p) ke p1) X.env u=(do
   let ov <- holding [u] (eval (.Name x p) X.env)
   let iv <- holding [u,ov] (eval ke X.env)
   standAt p1
   holding [u,ov,iv] (setItem ov iv u)
   release [u,ov,iv] []):=by
  intro u;cases ke<;>first|rfl | (cases c<;>exact(aac hk).elim)
 refine PS.imp (qW (nu (F:=F) L.toLk e v he) (Jd pe (gh (F:=F) L.toLk c ke hk).1 set_list ha) (by first|rfl | (cases v<;>rfl) | (unfold swapsWithSole;exact fR he U0 _ _ _)) hw rfl) λD σ H hq=>?_;obtain⟨R,τ,ρ,r,Si,ev,hq⟩:=hq;obtain⟨r1,um,ev⟩:=aB ev;obtain⟨n,en,ev⟩:=aB ev;obtain⟨d,ed,en⟩:=aB en;have en:=Fz en;subst en;split at ev
 ·rename_i ds ho;split at ev
  ·rename_i j hj;cases ev;have ho:=xq ho;obtain⟨a,xs,hv,ha,Zn,Zu,_⟩:=Si.own (yb um ho);refine⟨R,τ,ρ,r1,Si,um,λw H1 R1 τ1 es hR wD rk=>?_⟩;refine⟨.ref a,hv,tD.intro wD ed λu H2 e2 ru=>?_⟩;cases ru.isInt;have wC:=wD.go e2;obtain⟨a2,HH,RA,Vg,UA,ON,Ez⟩:=wC.own ho;rw[hv]at RA;cases RA;refine⟨a,HH,n,j,rfl,rfl,Vg,by rw[UA];exact hj,?_⟩;obtain⟨τ3,LJ⟩:=wC.put (m:=j) (g:=λys=>ys.set j w) ho hv Vg ON Ez (rk.go e2) λrs r=>aC.setAt (j:=j) rs (by simpa using r);exact hq σ _ R1 τ3 LJ (vM (n:=.l _) wC (es.trans e2) hR Vg ON)
  ·cases ev
 ·cases ev
end
section
variable {X:Cx}{S:Sx}{k:Nat}{F:ah}{Φ:bh}
theorem Jb(x:Str)(p:Pos):(Expr.Name x p).pos=p:=rfl
theorem vi{x y:Str}{px py pt LS:Pos}{kt:Nat}{a b:Expr}(hk:env.scope.kind=.function)(hx:env.scope.names.lookup x=some .local)(hy:env.scope.names.lookup y=some .local)(Xd:x≠y)(hl:px.line=py.line)
  (h1:[a,b].all (foldedForSure 8)=false) (h2:[a,b].all (constantsAlone 8)=false) (h3:([a,b].any λe=>match e with|.Starred ..=>true|_=>false)=false) :
  swappedStores [.Tuple [.Name x px,.Name y py] kt pt] (.Tuple [a,b] k2 LS) env=pure (some [x,y]):=by
 have hb:env.blockKind=.function:=by unfold Env.blockKind;rw[hk];rfl
 have kx:env.kindOf x=some .local:=hx;have ky:env.kindOf y=some .local:=hy;have e1:([x,y].eraseDups.length != [x,y].length)=false:=by
  have:¬ (y==x)=true:=by simp;exact λz=>Xd z.symm
  have h':(y==x)=false:=by simpa using this
  simp[List.eraseDups_cons,List.filter,h',Xd]
 unfold swappedStores;simp only[hb,h3,List.filterMap_cons,List.filterMap_nil,kx,ky,hl,Jb,List.head?_cons,Option.map_some,Option.getD_some,h1,h2];simp only[beq_self_eq_true,Bool.and_self,if_true];rw[if_neg (by simp)];refine(acf ?_).trans ?_
 ·intro z;exact aac (h3.symm.trans z)
 rw[if_neg (by
  rw[e1];simp),if_neg Bool.false_ne_true,if_neg Bool.false_ne_true]
theorem nH{kp:bo}{v:V}{d:DI.D}(h:Rep (aW X.K H) (nd X.K R A τ H) kp v d)(hf:aY anyF d=false):gO X R' τ' H v d :=
 ⟨λ_=>none,λ_ _ h=>by simp at h,Rep.without (P:=anyF) (λ_ _ h=>h) (λk k' p xs f hf h=>by cases hf) h hf _⟩
theorem Ir(L:lr X S k Φ){i j:Nat}{a b:CE}{v:Expr}(he:bV S (.tup [a,b]) v=true)(hp:C1 S i j tg v=true):PS X (.Assign [tg] v pos) (o4 X F Φ (.par i j a b)):=by
 obtain⟨ts,RB,q1⟩:=bj hp;obtain⟨kt,pt,rfl⟩:=jb RB;obtain⟨⟨t1,t2⟩,RA,q2⟩:=bj q1;obtain rfl:ts=[t1,t2]:=fD RA;obtain⟨⟨x,px⟩,hv3,q3⟩:=bj q2;obtain rfl:t1=_:=wM hv3;obtain⟨⟨y,py⟩,hv4,q4⟩:=bj q3;obtain rfl:t2=_:=wM hv4;obtain⟨vs,Zo,q5⟩:=bj q4;obtain⟨k2,LS,rfl⟩:=jb Zo;obtain⟨⟨ea,eb⟩,hv6,q6⟩:=bj q5;obtain rfl:vs=[ea,eb]:=fD hv6
 ·obtain⟨q7,DP⟩:=aD q6;obtain⟨q8,h9⟩:=aD q7;obtain⟨q9,h8⟩:=aD q8;obtain⟨Tz,h7⟩:=aD q9;obtain⟨Y3,h6⟩:=aD Tz;obtain⟨Y2,h5⟩:=aD Y3;obtain⟨Y1,h4⟩:=aD Y2;obtain⟨Y0,h3⟩:=aD Y1;obtain⟨h1,h2⟩:=aD Y0;replace h1:S.N[i]?=some x:=aab h1;replace h2:S.N[j]?=some y:=aab h2;replace h3:=aab h3;replace h4:=aab h4;replace h5:=aab h5;replace h6:=aab h6;replace h7:=aab h7;replace h8:=fm h8;replace h9:=fm h9;replace DP:=aab DP;replace he:=aD he;have pa:=j_ (F:=F) L.toLk [a,b] [ea,eb] he.1;refine PS.imp (Ja L.calm L.nd (by rw[L.N];exact h1) (by rw[L.N];exact h2) h3 (by rw[L.sc];exact h4) (by rw[L.sc];exact h5) pa (vi (by rw[L.sc];exact L.fk) (by rw[L.sc];exact h4) (by rw[L.sc];exact h5) h6 h7 h8 h9 DP)) λD σ H hq=>?_;obtain⟨R,τ,ρ,r,Si,ev,hq⟩:=hq;obtain⟨d1,ed1,ev⟩:=aB ev;obtain⟨d2,ed2,ev⟩:=aB ev;simp only[Hc]at ev;obtain⟨⟨f1,f2,l1,l2⟩,rfl⟩:=ev;refine⟨R,τ,ρ,[d1,d2],Si,by show bd (bp Φ a ρ) _=_;rw[ed1];show bd (bd (bp Φ b ρ) _) _=_;rw[ed2];rfl,λvs H1 e1 rv=>?_⟩;obtain⟨τt,fr,rs⟩:=rv;obtain⟨v1,v2,rfl,r1,r2⟩:=rs.two
  ·obtain⟨τ1,S1⟩:=(Si.go e1).set (i:=i) (nH r1 f1) l1;obtain⟨τ2,S2⟩:=S1.set (i:=j) (nH r2 f2) (by simpa using l2);exact⟨v1,v2,rfl,hq _ H1 R τ2 S2 (Kp.of e1 λ_ h=>h)⟩
theorem Iu(L:lr X S k Φ){i:Nat}{v:Expr}(hn:kC S i tg=true)(he:bV S (.lst es) v=true):PS X (.Assign [tg] v pos) (o4 X F Φ (.lsn i es)):=by
 obtain⟨g,hg,vU⟩:=wR (F:=F) (t:=.nm i) L hn;obtain⟨x,p,rfl⟩:=mS hn;obtain⟨VP,hv,hz⟩:=bj he;obtain⟨pp,rfl⟩:=wN hv;obtain⟨h1,h2⟩:=aD hz;have FD:swapsWithSole [.Name x p] (.List VP pp) pos.line X.env=pure false:=rfl;have hw:swappedStores [.Name x p] (.List VP pp) X.env=pure none:=rfl;have each:(assignEach [.Name x p] X.env).map (·.2)=[assign (.Name x p) X.env]:=rfl;refine PS.imp (qW (Bk (j_ (F:=F) L.toLk es VP h1)) hg FD hw each) λE σ H hq=>?_;obtain⟨R,τ,ρ,r,Si,ev,hq⟩:=hq;obtain⟨xs,b7,ev⟩:=aB ev;obtain⟨hi,rfl⟩:=lI ev;refine⟨R,τ,ρ,xs,Si,b7,λvs H1 e1 r1=>?_⟩;have hl:vs.length=xs.length:=by obtain⟨_,_,rs⟩:=r1;exact rs.length
 obtain⟨R',τ',hR,fb,rs⟩:=oo Si e1 r1;have h2:es.length<=1000:=aab h2;have hz:sizeLine=16777216:=aa6;refine⟨by rw[hl,kA es b7];left,λp hp=>?_⟩;have e2:aK H1 (upd H1 p (.lst vs)):=aK.upd hp;have rk:gO X R' τ' (upd H1 p (.lst vs)) (.ref p) (.lst .ow (au aL xs)):=by
  refine⟨λq=>if q=p then some []else none,λq z hz=>?_,.lst ⟨aZ,by simp⟩ ?_⟩
  ·simp only at hz;split at hz
   ·rename_i e;subst e;refine⟨?_,λh=>fb.rh _ h hp,fb.same.free hp,by rw[aZ];simp⟩;cases q:τ' _ with
    |none=>rfl
    |some w=>exact absurd hp (fb.th _ _ q)
   ·cases hz
  ·have:=aC.g_ (g:=id) (N':=nd X.K R' (λ_=>False) (λq=>if q=p then some []else none) (upd H1 p (.lst vs))) (λ_ _ h=>aW.same e2 h) (λk k' a ys f h=>by
    have h':=nd.same e2 h;cases f with
    |ow=>exact nomatch h'.2
    |fz=>exact h'
    |al=>exact h'.2.elim
    |sc=>exact h') rs [] 0
   rw[d4]at this;exact this
 exact vU (.ref p) σ _ _ R' τ' (gF (cO es) ρ) _ _ (fb.go e2) rk (by show(if i<(gF (cO es) ρ).length then _ else _)=_;rw[if_pos (by unfold gF;simpa using hi)]) λσ' qI wF=>hq σ' _ R' qI wF (Kp.of (e1.trans e2) hR)
theorem y8{α β:Type}(f:α->β):∀(ms:List α) (m:Nat),(ms.map f).eraseIdx m=(ms.eraseIdx m).map f
 |[],_=>rfl
 |_::_,0=>rfl
 |x::ms,m+1=>by
  show f x::(ms.map f).eraseIdx m=f x::(ms.eraseIdx m).map f;rw[y8 f ms m]
theorem aC.Qu{T:kJ}{N:fc}:∀{k:bo} {n:Nat} {vs:af} {ds:aa},aC T N k n vs ds->aC T N k n vs.dropLast ds.dropLast
 |_,_,_,_,.nil=>.nil
 |_,_,_,_,.cons _ .nil=>.nil
 |_,_,_,_,.cons h (.cons h' t)=>.cons h (aC.Qu (.cons h' t))
mutual
theorem vj(L:lr X S k Φ):∀(c:CS) (st:Stmt),pJ S c st=true->PS X st (o4 X F Φ c)
 |.asg t e,st,h=>by
  obtain⟨⟨sV,v⟩,v1,q1⟩:=bj h;obtain⟨pos,rfl⟩:=gW v1;obtain⟨tg,v2,q2⟩:=bj q1;obtain rfl:sV=[tg]:=bI v2;obtain⟨q3,h4⟩:=aD q2;obtain⟨q4,h3⟩:=aD q3;obtain⟨h1,h2⟩:=aD q4;have h1:bV S e v=true:=h1;replace h3:(isTup v&&isTup tg)=false:=fm h3;cases hc:fL v with
  |false=>exact Az L h1 h2 h3 (fR h1 hc _ _ _)
  |true =>
   have h4:(!fL v||isNm tg)=true:=h4;rw[hc]at h4;obtain⟨x,p,rfl⟩:=mE h4;obtain⟨jr,gens,sc,MG,rfl⟩:=zh hc;cases e<;>try (exact(aac h1).elim)
   cases t with
   |tp is=>exact(aac h2).elim
   |nm i =>
    cases hb:S8 S (.Name x p) (.ListComp jr gens sc MG)with
    |true=>exact Ej L h1 h2 (by rw[GP L,hb])
    |false=>exact Az L h1 h2 h3 (by
      show swapsWith (.ListComp jr gens sc MG) (some (.Name x p)) pos.line X.env=_;rw[GP L,hb])
 |.par i j a b,st,h=>by
  obtain⟨⟨sV,v⟩,v1,q1⟩:=bj h;obtain⟨pos,rfl⟩:=gW v1;obtain⟨tg,v2,q2⟩:=bj q1;obtain rfl:sV=[tg]:=bI v2;exact Ir L (aD q2).1 (aD q2).2
 |.ret e,st,h=>by
  obtain⟨z,v1,q1⟩:=bj h;obtain⟨pos,rfl⟩:=wL v1;obtain⟨v,v2,q2⟩:=bj q1;obtain rfl:z=some v:=v2;exact Iq L q2
 |.rs c,st,h=>λ_ _ _ _ _ _ bF=>by obtain⟨R,τ,ρ,r,Si,ev,hq⟩:=bF;cases ev
 |.ex e,st,h=>by
  obtain⟨v,v1,q1⟩:=bj h;obtain⟨pos,rfl⟩:=m_ v1;exact M_ L (aD q1).1 (fm (aD q1).2)
 |.mut p i es,st,h=>by
  obtain⟨⟨o,args⟩,ha,q1⟩:=bj h;obtain⟨q2,h3⟩:=aD q1;obtain⟨h1,h2⟩:=aD q2;obtain⟨x,pp,rfl,hN,hl,pe⟩:=T1 L h1 (λy q e=>by cases e;exact h2);exact L.pm.m X _ _ k L.toLk.pX L.nd L.uS p st x pp args ha i hN hl pe F es (nj L.toLk es args h3)
 |.unp is e,st,h=>by
  obtain⟨⟨sV,v⟩,v1,q1⟩:=bj h;obtain⟨pos,rfl⟩:=gW v1;obtain⟨tg,v2,q2⟩:=bj q1;obtain rfl:sV=[tg]:=bI v2;obtain⟨q3,h4⟩:=aD q2;obtain⟨q4,h3⟩:=aD q3;obtain⟨h1,h2⟩:=aD q4;have h1:bV S e v=true:=h1;replace h3:(isTup v&&isTup tg)=false:=fm h3;exact Ip L h1 h2 h3 (fR h1 (fm h4) _ _ _)
 |.lsn i es,st,h=>by
  obtain⟨⟨sV,v⟩,v1,q1⟩:=bj h;obtain⟨pos,rfl⟩:=gW v1;obtain⟨tg,v2,q2⟩:=bj q1;obtain rfl:sV=[tg]:=bI v2;exact Iu L (aD q2).1 (aD q2).2
 |.app i e,st,h=>by
  obtain⟨c,v1,q1⟩:=bj h;obtain⟨pos,rfl⟩:=m_ v1;obtain⟨⟨fn,as,ks,p2⟩,v2,q2⟩:=bj q1;obtain rfl:c=_:=pU v2;obtain⟨q3,q4⟩:=aD q2;obtain rfl:ks=[]:=nV q3;obtain⟨⟨o,a,p1⟩,v3,q5⟩:=bj q4;obtain rfl:fn=_:=sS v3;obtain⟨q6,q7⟩:=aD q5;obtain⟨v,v4,h4⟩:=bj q7;obtain rfl:as=[v]:=bI v4;obtain⟨q8,h5⟩:=aD q6;obtain⟨q9,h2⟩:=aD q8;obtain⟨Tz,h1⟩:=aD q9;obtain rfl:a=_:=aab Tz;obtain⟨x,p,rfl⟩:∃x p,o=.Name x p:=mS h1;exact Iw L h1 h2 h4 h5
 |.setI i k e,st,h=>by
  obtain⟨⟨sV,v⟩,v1,q1⟩:=bj h;obtain⟨pos,rfl⟩:=gW v1;obtain⟨tg,v2,q2⟩:=bj q1;obtain rfl:sV=[tg]:=bI v2;obtain⟨⟨o,ke⟩,v3,q3⟩:=bj q2;obtain⟨p1,rfl⟩:=gU v3;obtain⟨q4,h5⟩:=aD q3;obtain⟨q5,h4⟩:=aD q4;obtain⟨q6,h3⟩:=aD q5;obtain⟨h1,h2⟩:=aD q6;obtain⟨x,p,rfl⟩:∃x p,o=.Name x p:=mS h1;exact Eh L h1 h2 h3 h4 (fm h5)
 |.ifs c a b,st,h=>by
  obtain⟨⟨t,x,y⟩,v1,q1⟩:=bj h;obtain⟨pos,rfl⟩:=qJ v1;obtain⟨q2,h3⟩:=aD q1;obtain⟨h1,h2⟩:=aD q2;exact M9 L h1 (jd L a _ h2) (jd L b _ h3)
 |.GF c b,st,h=>by
  obtain⟨⟨t,x,y⟩,v1,q1⟩:=bj h;obtain⟨pos,rfl⟩:=D5 v1;obtain⟨q2,h3⟩:=aD q1;obtain⟨h1,h2⟩:=aD q2;obtain rfl:y=[]:=nV h1;exact Ay L h2 (jd L b _ h3)
 |.fr t it b,st,h=>by
  obtain⟨⟨tg,iter,x,y⟩,v1,q1⟩:=bj h;obtain⟨pos,rfl⟩:=D7 v1;obtain⟨q2,h5⟩:=aD q1;obtain⟨q3,h4⟩:=aD q2;obtain⟨q4,h3⟩:=aD q3;obtain⟨h1,h2⟩:=aD q4;obtain rfl:y=[]:=nV h1;exact Iv L h2 h3 h4 (jd L b _ h5)
theorem jd(L:lr X S k Φ):∀(cs:aq) (o5:aS),iE S cs o5=true->ig X o5 (pj X F Φ cs)
 |[],[],_=>ig.imp w8 λD σ H bF=>by obtain⟨R,τ,ρ,r,Si,ev,hq⟩:=bF;cases ev;exact hq σ H R τ Si (Kp.refl R H)
 |[],_::_,h=>by exact(aac h).elim
 |_::_,[],h=>by exact(aac h).elim
 |c::cs,st::o5,h=>by
  replace h:=aD h;have h1:PS X st (o4 X F Φ c):=vj L c st h.1;have h2:ig X o5 (pj X F Φ cs):=jd L cs o5 h.2;refine ig.imp (gx h1 h2) λD σ H hq=>?_;obtain⟨R,τ,ρ,r,Si,ev,hq⟩:=hq;obtain⟨⟨fo,ρ1⟩,e1,ev⟩:=aB ev;refine⟨R,τ,ρ,(fo,ρ1),Si,e1,?_⟩;cases fo with
  |nx=>exact λσ' H' R' τ' fb kp=>⟨R',τ',ρ1,r,fb,ev,hq.from kp⟩
  |rt d=>cases ev;exact hq
end
end
variable {mg:Str->Option Value}{ps:aj}{qual:Str}
theorem uh{x:Str}{f:Addr}{fd:FuncData}{k:Nat}{N bl:aj}{cs:List (Str×GK)}{px:Px}{uS:Nat->Option Str}{m:aH}{body:aq}
  (Fu:DD K x qual st f fd) (Sc:gf N ps (aQ st)) (Cc:iE ⟨aQ st,N,uS,bl,cs,px⟩ body (bG st)=true) (B7:pO px Φ) (J9:DT px Φ)
  (ue:∀y∈bl,mg y=none) (lN:∀y i,(y,i)∈cs->∃u,mg y=some u/\yA K i u)
  (xQ:∀g y,uS g=some y->∃(f:Addr) (fd:FuncData) (ps:aj),gQ P w K mg base zX k f fd ps (Ek K ps.length (Φ g))/\mg y=some (.ref f)/\PySem.W.keepIn K (.ref f)=true/\Binds K fd ps []/\∀ds r,Φ g ds=ok r->ds.length=ps.length)
  (hm:∀ds r,m ds=ok r->ds.length=ps.length/\qP Φ N.length body ds=ok r):gQ P w K mg base zX (k+1) f fd ps (Ek K ps.length m):=by
 refine Fu.ok (N:=N) Sc (λvs H Q E ⟨_,_,_,h,_⟩=>h) λfX A outer s H vs Q E hr uP=>?_;obtain⟨F,ds,r,hl,rs,er,hq⟩:=uP;obtain⟨Xo,B6⟩:=hm ds r er
 let X:=(iY zX P w K mg base N qual (aQ st) f fX A outer s H E).xw
 have L:lr X ⟨aQ st,N,uS,bl,cs,px⟩ k Φ:=⟨⟨rfl,rfl,Sc.nd,rfl,hr,ue,λg y h=>⟨xQ g y h⟩,lN,B7⟩,λ_=>rfl,PassesOwn.never,Sc.kind,J9⟩
 refine⟨pj X F Φ body,jd L body _ Cc,?_⟩;unfold qP at B6;obtain⟨⟨fo,ρ'⟩,eb,B6⟩:=aB B6;have hpl:ps.length<=N.length:=by have:=aaN List.length Sc.pre;rw[List.length_take]at this;left
 have FA:vs.length=ds.length:=rs.length;refine⟨λp=>F p/\H p≠none,λ_=>none,_,(fo,ρ'),⟨?_,λi d hi=>?_,λ_ _=>rfl,λp h=>h.2,λp h=>.inl h.1,λ_ _ h=>by simp at h,λ_ _ h=>by simp at h,aK.refl H⟩,eb,?_⟩
 ·unfold L2.start;simp[FA]
 ·have Pe:i<ds.length:=by
   by_cases iL:i<ds.length
   ·exact iL
   ·rw[List.getElem?_append_right (by simpa using iL)]at hi;rw[List.getElem?_replicate]at hi;split at hi<;>simp at hi
  rw[List.getElem?_append_left (by simpa using Pe),List.getElem?_map]at hi;have hd:ds[i]?=some d:=by
   cases q:ds[i]? with
   |none=>rw[q]at hi;cases hi
   |some z=>rw[q]at hi;simp at hi;rw[hi]
  obtain⟨v,hv,rv⟩:=rs.get hd;refine⟨v,?_,rv.imp (q:=[0+i]) (q':=[i]) (λ_ _ h=>h) λc p xs f h=>?_⟩
  ·unfold L2.start;rw[List.getElem?_append_left (by rw[List.length_map,FA];exact Pe),List.getElem?_map,hv];rfl
  ·cases f with
   |ow=>exact nomatch h.2
   |fz=>exact⟨h.1,h.2,h.1.ne⟩
   |al=>exact h.2.elim
   |sc=>exact h
 ·cases fo with
  |nx =>
   cases B6;exact λσ' H' R' τ' fb kp=>hq .bu H' fb.same ⟨λ_=>none,λ_ _ h=>by simp at h,.bu⟩
  |rt d =>
   cases B6;exact λv H' es rr=>hq v H' es rr
structure Ent(P:aE)(w:World)(K:ao)(mg:aV)(base:Heap)(k:Nat)(y:Str)(m:aH):Prop where
 ex:∃(f:Addr) (fd:FuncData) (ps:aj),gQ P w K mg base zX k f fd ps (Ek K ps.length m)/\mg y=some (.ref f)/\PySem.W.keepIn K (.ref f)=true/\Binds K fd ps []/\∀ds r,m ds=ok r->ds.length=ps.length
theorem Ent.up{k k':Nat}{y:Str}{m:aH}(h:Ent P w K mg base k y m)(hk:k<=k'):Ent P w K mg base k' y m:=by
 obtain⟨f,fd,ps,h1,h2⟩:=h.ex;exact⟨f,fd,ps,h1.mono hk,h2⟩
theorem ent{x:Str}{f:Addr}{fd:FuncData}{k:Nat}{N bl:aj}{cs:List (Str×GK)}{px:Px}{uS:Nat->Option Str}{m:aH}{body:aq}
  (Fu:DD K x qual st f fd) (hmg:mg x=some (.ref f)) (hb:Binds K fd ps []) (Sc:gf N ps (aQ st)) (Cc:iE ⟨aQ st,N,uS,bl,cs,px⟩ body (bG st)=true) (B7:pO px Φ) (J9:DT px Φ) (ue:∀y∈bl,mg y=none) (lN:∀y i,(y,i)∈cs->∃u,mg y=some u/\yA K i u)
  (xQ:∀g y,uS g=some y->Ent P w K mg base k y (Φ g)) (hm:∀ds r,m ds=ok r->ds.length=ps.length/\qP Φ N.length body ds=ok r):Ent P w K mg base (k+1) x m :=
 ⟨f,fd,ps,uh Fu Sc Cc B7 J9 ue lN (λg y h=>(xQ g y h).ex) hm,hmg,Fu.kp,hb,λds r h=>(hm ds r h).1⟩
noncomputable def bW{α:Type}(P:α->Prop):List α->Prop
 |[]=>True
 |a::l=>P a/\bW P l
theorem bW.mem{α:Type}{P:α->Prop}:∀{l:List α},bW P l->∀a∈l,P a
 |[],_,_,h=>by cases h
 |_::_,h,_,hm=>(List.mem_cons.mp hm).elim (λe=>e▸h.1) (bW.mem h.2 _)
theorem bW.tab{β:Type}{P:Nat->β->Prop}:∀{l:List (Nat×β)},bW (λp=>P p.1 p.2) l->∀g y,l.lookup g=some y->P g y
 |[],_,_,_,h=>by cases h
 | (k,b)::l,h,g,y,e=>by
  rw[List.lookup_cons]at e;cases hg:g==k with
  |true=>rw[hg]at e;cases e;rw[eq_of_beq hg];exact h.1
  |false=>rw[hg]at e;exact bW.tab h.2 g y e
theorem bW.two{β γ:Type}{P:β->γ->Prop}{l:List (β×γ)}(h:bW (λp=>P p.1 p.2) l)(y:β)(i:γ)(hm:(y,i)∈l):P y i:=bW.mem h _ hm
theorem Oo{α:Type}{l:List α}(h:l.length=1):∃a,l=[a]:=List.length_eq_one_iff.mp h
theorem Om{α:Type}{l:List α}(h:l.length=2):∃a b,l=[a,b]:=by
 cases l with
 |nil=>cases h
 |cons a l=>obtain⟨b,rfl⟩:=Oo (Nat.succ.inj h);exact⟨a,b,rfl⟩
theorem Ol{α:Type}{l:List α}(h:l.length=3):∃a b c,l=[a,b,c]:=by
 cases l with
 |nil=>cases h
 |cons a l=>obtain⟨b,c,rfl⟩:=Om (Nat.succ.inj h);exact⟨a,b,c,rfl⟩
theorem T8{α:Type}{l:List α}(h:l.length=4):∃a b c d,l=[a,b,c,d]:=by
 cases l with
 |nil=>cases h
 |cons a l=>obtain⟨b,c,d,rfl⟩:=Ol (Nat.succ.inj h);exact⟨a,b,c,d,rfl⟩
noncomputable def nY:aa->Option (ae)
 |[]=>some []
 |.int i::ds=>(nY ds).map (i :: ·)
 |_::_=>none
theorem nX:∀ns:ae,nY (ns.map D.int)=some ns
 |[]=>rfl
 |n::ns=>by simp[nY,nX ns]
theorem tT:∀{ds:aa} {ns:ae},nY ds=some ns->ds=ns.map D.int
 |[],ns,h=>by simp[nY]at h;subst h;rfl
 |d::ds,ns,h=>by
  cases d<;>simp[nY]at h;obtain⟨ms,h1,rfl⟩:=h;rw[tT h1];rfl
def rA:aH
 |[.lst .sc ds]=>match nY ds with
  |some ns=>if ns.length<=63 then ok (.bl true)else none
  |none=>none
 |_=>none
theorem Ff(h:ns.length<=63):rA [.lst .sc (ns.map D.int)]=ok (.bl true):=by
 simp[rA,nX,h]
theorem BF{n:Nat}{b:aq}(h:∀ns:ae,ns.length<=63->qP Φ n b [.lst .sc (ns.map D.int)]=ok (.bl true)):∀ds r,rA ds=ok r->ds.length=1/\qP Φ n b ds=ok r:=by
 intro ds r e
 match ds,e with
 |[.lst .sc ds],e =>
  simp only[rA]at e;split at e
  ·rename_i ns z6;split at e
   ·rename_i hl;cases e;obtain rfl:=tT z6;exact⟨rfl,h ns hl⟩
   ·cases e
  ·cases e
theorem JL(K:ao)(H:Hp)(a:Addr)(ns:ae)(m:aH)(hm:m [.lst .sc (ns.map D.int)]=ok (.bl true))(hO:Gz H)(hS:dE K H a (ns.map V.int)):Ek K 1 m [.ref a] H (λv _=>v=.bl true) λ_ _ _=>False:=by
 refine⟨λ_=>True,_,.bl true,rfl,.cons (.lst ?_ (aC.ints ns)) .nil,hm,λv H' _ bF=>by obtain⟨τt,_,rp⟩:=bF;cases rp;rfl⟩;rcases hS with (h|h)|h
 ·rcases hO a with z|⟨o,xs,z⟩
  ·rw[h]at z;cases z
  ·rw[h]at z;cases z
 ·exact .inl h
 ·exact .inr h
section
variable {X:Cx}{pins:ak}{σ:St}{H:Hp}{s:Shared}{h':Heap}
theorem D_(I:Inv X pins σ H s)(hf:∀b∈ch,oY X pins H b)(k:∀b u,b∉ch->s.heap.get? b=some u->h'.get? b=some u):Inv X pins σ H { s with heap:=h',toks:=t' }:=by
 have G3:∀b u,H b=some u->b∉ch:=λb u e z=>by rw[(hf b z).1]at e;cases e
 refine I.step (g':=s.gens) (d':=s.drawn) (ch:=ch) (λb hb=>⟨(hf b hb).2.2.2.1,(hf b hb).2.1,(hf b hb).2.2.2.2.1,(hf b hb).2.2.2.2.2⟩) (λb o _ _ hc e _=>k b o hc e) (λb o _ _ hc e _=>⟨o.slots,k b o hc e⟩) (λ_ _ _ _ n=>n)
  (λb o hc e=>⟨o,k b o hc e⟩) (λ_ _ e=>e) (λ_ _ _ e=>e) (λb ps e=>⟨#[],by rw[e];simp⟩) (λm hm=>?_) (λb u e=>?_) I.bare
 ·obtain⟨o,es,ep,ho,r⟩:=hm;exact⟨o,es,ep,k _ o (λz=>(hf _ z).2.1 rfl) ho,r⟩
 ·refine(I.cC b u e).iM (λc v hc q=>k c v ?_ q) (λ_ q=>q) λ_ _ q=>q;rcases hc with z|z
  ·rw[z];exact G3 b u e
  ·exact G3 c _ z
theorem Ea{T:Addr}{o:HO}(I:Inv X pins σ H s)(hf:∀b∈ch,oY X pins H b)(k:∀b u,b∉ch->s.heap.get? b=some u->h'.get? b=some u)(hT:s.heap.objs.size<=T)(new:cK X.prog X.w (upd H T o) h' T o):
  Inv X pins σ (upd H T o) { s with heap:=h',toks:=t' }:=by
 have G3:∀b u,H b=some u->b∉ch:=λb u e z=>by rw[(hf b z).1]at e;cases e
 have hn:H T=none:=I.cC.fresh hT;have ne:∀b (u:Obj),s.heap.get? b=some u->b≠T:=λb u e z=>absurd (aaf e) (by rw[z];exact Nat.not_lt.mpr hT);have up:∀b u,H b=some u->upd H T o b=some u:=λb u e=>by rw[ba (cj e hn)];exact e
 refine I.step (g':=s.gens) (d':=s.drawn) (ch:=ch) (λb hb=>⟨(hf b hb).2.2.2.1,(hf b hb).2.1,(hf b hb).2.2.2.2.1,(hf b hb).2.2.2.2.2⟩) (λb o _ _ hc e _=>k b o hc e) (λb o _ _ hc e _=>⟨o.slots,k b o hc e⟩) (λb u _ e n=>by rw[ba (ne b u e)];exact n)
  (λb o hc e=>⟨o,k b o hc e⟩) (λ_ _ e=>up _ _ e) (λ_ _ _ e=>up _ _ e) (λb ps e=>⟨#[],by rw[up _ _ e];simp⟩) (λm hm=>?_) (xP (λb u e=>?_) hn new) I.bare
 ·obtain⟨o,es,ep,ho,r⟩:=hm;exact⟨o,es,ep,k _ o (λz=>(hf _ z).2.1 rfl) ho,r⟩
 ·refine(I.cC b u e).iM (λc v hc q=>k c v ?_ q) (λ_ q=>q) λ_ _ q=>q;rcases hc with z|z
  ·rw[z];exact G3 b u e
  ·exact G3 c _ z
end
def Wk(K:ao)(a b:Addr):It :=
  ⟨λi H=>∃xs ys x y,dE K H a xs/\dE K H b ys/\xs[i]?=some x/\ys[i]?=some y,
   λi H v H'=>∃T x y,(∀xs,dE K H a xs->xs[i]?=some x)/\(∀ys,dE K H b ys->ys[i]?=some y)/\H T=none/\v=.ref T/\H'=upd H T (.tup [x,y]),
   λi H=>∃xs ys,dE K H a xs/\dE K H b ys/\(xs.length<=i\/ys.length<=i)⟩
theorem wQ{T:Addr}{x y:V}{u v:Value}(rx:RelV x u)(ry:RelV y v)(e:h.get? T=some { cls:=.type "tuple",data:=.seq #[u,v] }):cK P w H h T (.tup [x,y]) :=
 ⟨by rw[sizeLine_eq];simp,[u,v],.cons rx (.cons ry .nil),⟨_,e,rfl,_,rfl⟩⟩
theorem dm{a b:Addr}{o u:Obj}(ha:h.get? a=some o)(hb:h.get? b=some u)(hc:o.cls≠u.cls):a≠b:=λz=>by
 subst z;rw[ha]at hb;cases hb;exact hc rfl
theorem An{tp:Pos}{a b z TI TO:Addr}(hTT:TI≠TO)(Mi:i1≠i2):
  Turn P w K (.Tuple elts n1 tp) (Wk K a b) [z,TI,TO,i1,i2] z (λi h=>IsZip h z TI TO .none/\IsPair h TI (.ref i1) (.ref i2)/\(∃x y,IsPair h TO x y)/\h.IsListIter i1 a i/\h.IsListIter i2 b i):=by
 have apart:∀{h:Heap} {x y:Value} {xs ys:aR} {i:Nat},IsZip h z TI TO .none->IsPair h TI (.ref i1) (.ref i2)->IsPair h TO x y->h.IsListIter i1 a i->h.IsListIter i2 b i->h.IsList a xs->h.IsList b ys->ZipApart z TI TO i1 i2 a b:=by
  intro h x y xs ys i hz hI hO l1 l2 ha hb;obtain⟨o1,e1,c1,_⟩:=l1;obtain⟨o2,e2,c2,_⟩:=l2;obtain⟨oa,ea,ca,_⟩:=ha;obtain⟨ob,eb,cb,_⟩:=hb;exact⟨dm hI hz (by simp),dm hO hz (by simp),dm e1 hz (by rw[c1];simp),dm e2 hz (by rw[c2];simp),hTT,dm hI e1 (by rw[c1];simp),dm hI e2 (by rw[c2];simp),dm hO e1 (by rw[c1];simp),dm hO e2 (by rw[c2];simp),Mi,
   dm ea hz (by rw[ca];simp),dm ea hO (by rw[ca];simp),dm ea e1 (by rw[ca,c1];simp),dm ea e2 (by rw[ca,c2];simp),dm eb hz (by rw[cb];simp),dm eb hO (by rw[cb];simp),dm eb e1 (by rw[cb,c1];simp),dm eb e2 (by rw[cb,c2];simp)⟩
 refine⟨by simp,λi h st c hc=>?_,λi h h' st k=>?_,?_,?_,λA i s Q E st hQ=>wpAny_pyIter_zip st.1 hQ⟩
 ·obtain⟨hz,hI,⟨x,y,hO⟩,⟨o1,e1,_,d1⟩,⟨o2,e2,_,d2⟩⟩:=st;simp only[List.mem_cons,List.not_mem_nil,or_false]at hc;rcases hc with rfl|rfl|rfl|rfl|rfl
  ·exact⟨_,hz,λv q=>by cases q⟩
  ·exact⟨_,hI,λv q=>by cases q⟩
  ·exact⟨_,hO,λv q=>by cases q⟩
  ·exact⟨o1,e1,λv q=>by rw[d1]at q;cases q⟩
  ·exact⟨o2,e2,λv q=>by rw[d2]at q;cases q⟩
 ·obtain⟨hz,hI,⟨x,y,hO⟩,l1,l2⟩:=st;exact⟨k z (by simp) _ hz,k TI (by simp) _ hI,⟨x,y,k TO (by simp) _ hO⟩,l1.at λo e=>k i1 (by simp) o e,l2.at λo e=>k i2 (by simp) o e⟩
 ·intro X hP hw hK hc i pins s σ H E I hf st hg;subst hP hw hK;obtain⟨xs,ys,x,y,q1,q2,ex,ey⟩:=hg;obtain⟨hz,hI,⟨x0,y0,hO⟩,l1,l2⟩:=st;obtain⟨aI,rv,p,_⟩:=I.list q1;obtain⟨its',zZ,p',_⟩:=I.list q2;obtain⟨u,hu,ru⟩:=rv.get ex;obtain⟨u',OM,YT⟩:=zZ.get ey;have D:=apart hz hI hO l1 l2 p.isList p'.isList;refine wpAny_pyNext_zip_item D hz hI hO l1 l2 p.isList p'.isList (x:=u) (y:=u') (by simpa using hu) (by simpa using OM) λh1 z1 o1 a1 b1 t1 Q2 k1=>⟨_,rfl,?_⟩
  refine wpAny_letOwnedTupleGo_zip z1 λh2 z2 LR=>?_;have Yc:s.heap.objs.size≠z:=aav (aaf hz);have kk:∀c o,c∉[z,TI,TO,i1,i2]->s.heap.get? c=some o->h2.get? c=some o:=λc o hc e=>by
   simp only[List.mem_cons,List.not_mem_nil,or_false,not_or]at hc;exact LR.extBut c o hc.1 (k1 c o hc.1 hc.2.2.1 hc.2.2.2.1 hc.2.2.2.2 e)
  have hT:h2.get? s.heap.objs.size=some { cls:=.type "tuple",data:=.seq #[u,u'] }:=LR.extBut _ _ Yc t1;have hn:H s.heap.objs.size=none:=I.cC.fresh (aai _);refine⟨.ref s.heap.objs.size,upd H s.heap.objs.size (.tup [x,y]),Ea (s:=s) (h':=h2) (t':=s.toks) I hf kk (aai _) (wQ ru YT hT),rfl,⟨_,x,y,λzs hz=>by rw[I.ki hz q1];exact ex,λzs hz=>by rw[I.ki hz q2];exact ey,hn,rfl,rfl⟩,⟨z2,LR.extBut _ _ D.TIz (k1 _ _ D.TIz D.TITO D.TIi1 D.TIi2 hI),⟨_,_,LR.extBut _ _ D.TOz o1⟩,a1.extBut LR.extBut D.i1z,b1.extBut LR.extBut D.i2z⟩,λc hc=>?_⟩;rw[ba]
  ·exact(hf c hc).1
  ·intro z;subst z;simp only[List.mem_cons,List.not_mem_nil,or_false]at hc;rcases hc with e|e|e|e|e
   ·exact absurd (aaf hz) (by rw[<- e];exact aax _)
   ·exact absurd (aaf hI) (by rw[<- e];exact aax _)
   ·exact absurd (aaf hO) (by rw[<- e];exact aax _)
   ·obtain⟨_,w,_⟩:=l1;exact absurd (aaf w) (by rw[<- e];exact aax _)
   ·obtain⟨_,w,_⟩:=l2;exact absurd (aaf w) (by rw[<- e];exact aax _)
 ·intro X hP hw hK hc i pins s σ H E I hf st hg;subst hP hw hK;obtain⟨xs,ys,q1,q2,hl⟩:=hg;obtain⟨hz,hI,⟨x0,y0,hO⟩,l1,l2⟩:=st;obtain⟨aI,rv,p,_⟩:=I.list q1;obtain⟨its',zZ,p',_⟩:=I.list q2;have e1:=rv.length;have e2:=zZ.length;refine wpAny_pyNext_zip_end (I.ok.hd hc) (apart hz hI hO l1 l2 p.isList p'.isList) hz hI hO l1 l2 p.isList p'.isList (by simp;left) λh1 k1=>⟨rfl,D_ (t':=s.toks) I hf λc o hc e=>?_⟩
  simp only[List.mem_cons,List.not_mem_nil,or_false,not_or]at hc;exact k1 c o hc.1 hc.2.2.1 hc.2.2.2.1 hc.2.2.2.2 e
variable {ta:TA}
theorem Jc{tp p:Pos}(hg:Gl X "zip")(hm:X.mg "zip" = none)(ha:PA X [e1,e2] ta)(hs:∀es,starEach (e1::es) X.env=(false,eval e1 X.env)::starEach es X.env)(L9:∀es,starEach (e2::es) X.env=(false,eval e2 X.env)::starEach es X.env):
  PI X (.Tuple elts n1 tp) (.Call (.Name "zip" p) [e1,e2] [] pos) (λσ H R=>ta σ H λvs H1=>∃a b,vs=[.ref a,.ref b]/\(∃xs,dE X.K H1 a xs)/\(∃ys,dE X.K H1 b ys)/\R (Wk X.K a b) H1):=by
 intro pins s σ H R I h;refine Call_ (gj I hg hm boot_zip (aaA (cN (ha pos pins s σ H _ I h) λus s1 bF=>?_) (hs _) (by rw[L9];rfl)));obtain⟨vs,H1,I1,r1,q1⟩:=bF;obtain⟨a,b,e,⟨xs,q1⟩,⟨ys,q2⟩,q⟩:=q1;subst e;obtain⟨u,v,rfl,ru,rv⟩:=vals2 r1;cases ru;cases rv;obtain⟨aI,_,p1,_⟩:=I1.list q1;obtain⟨its',_,p2,_⟩:=I1.list q2;refine call_zip_2 p1.isList p2.isList λh' z t o l1 l2 sz k=>wpAny_pyIter_zip z ?_;refine⟨s1.heap.objs.size+4,[s1.heap.objs.size+4,s1.heap.objs.size+2,s1.heap.objs.size+3,s1.heap.objs.size,s1.heap.objs.size+1],_,_,H1,rfl,I1.kept (t':=s1.toks) k,An (aal (aa1 _)) (aal (aa1 _)),⟨z,t,⟨_,_,o⟩,l1,l2⟩,λb hb=>?_,q⟩;have qj:s1.heap.objs.size<=b:=by
  simp only[List.mem_cons,List.not_mem_nil,or_false]at hb;rcases hb with rfl|rfl|rfl|rfl|rfl<;>first|exact Nat.le_add_right .. |exact aai _
 exact I1.Cu qj (I1.cC.fresh qj)
def oO(sc:Scope)(bl:aj)(e:Expr):Option (av):=(eR e).bind λz=>(two z.2).bind λ_=>if z.1=("zip" : Str)/\iI sc z.1=true/\z.1∈bl then some z.2 else none
theorem qA{sc:Scope}{bl:aj}{e:Expr}(h:oO sc bl e=some args):∃p pos a b,e=.Call (.Name ("zip" : Str) p) [a,b] [] pos/\args=[a,b]/\iI sc ("zip" : Str)=true/\("zip" : Str)∈bl:=by
 obtain⟨⟨x,as⟩,hv,h⟩:=bT h;obtain⟨⟨a,b⟩,hw,h⟩:=bT h;obtain⟨hc,h⟩:=gT h;cases h;obtain⟨rfl,h1,h2⟩:=hc;obtain⟨p,pos,rfl⟩:=b6 hv;obtain rfl:=fD hw;exact⟨p,pos,a,b,rfl,rfl,h1,h2⟩
theorem nL{a b:Expr}(h:lT X F Φ cs [a,b]):(∃c d,cs=[c,d]/\PE X a (tD X F Φ c)/\PE X b (tD X F Φ d))/\PA X [a,b] (pZ X F Φ cs)/\(∀es,starEach (a::es) X.env=(false,eval a X.env)::starEach es X.env)/\(∀es,starEach (b::es) X.env=(false,eval b X.env)::starEach es X.env):=by
 match cs,h with
 |[c,d],h =>
  obtain⟨h1,h2,_,h3,h4,_,_⟩:=h;exact⟨⟨c,d,rfl,h1,h3⟩,PA.imp (cV h1 (PA.imp (cV h3 (PA.imp fI λ_ _ _ h=>jc h) (h4 _)) λ_ _ _ h=>fF h) (h2 _)) λ_ _ _ h=>fF h,h2,h4⟩
 |[],h=>exact h.elim
 |[_],h=>exact h.2.2.2.elim
 |_::_::_::_,h=>exact h.2.2.2.2.2.2.elim
theorem Rep.Wz{k:bo}{v:V}{d:D}(e:aK H H')(h:Rep (aW K H) (nd K R (λ_=>False) (λ_=>none) H) k v d):Rep (aW K H') (nd K R (λ_=>False) (λ_=>none) H') k' v d :=
 (Rep.rz h (k':=k')).imp (λ_ _ h=>aW.same e h) λ_ _ _ _ h=>nd.same e h
theorem D1{p q:Addr}{f g:Fl}{a b:aa}:Mu K (Wk K p q) H2 [.ref p,.ref q] [.lst f a,.lst g b] (au aL (List.zipWith (λx y=>.tup [x,y]) a b)):=by
 have len:(au aL (List.zipWith (λx y=>D.tup [x,y]) a b)).length=min a.length b.length:=by rw[aM];simp
 have two:∀{H':Hp} {R':ah},aC (aW K H') (nd K R' (λ_=>False) (λ_=>none) H') [] 0 [.ref p,.ref q] (au aL [.lst f a,.lst g b]) ->
   ∃xs ys,dE K H' p xs/\dE K H' q ys/\aC (aW K H') (nd K R' (λ_=>False) (λ_=>none) H') [0] 0 xs (au aL a)/\aC (aW K H') (nd K R' (λ_=>False) (λ_=>none) H') [1] 0 ys (au aL b):=by
  intro H' R' h;rw[au,aw,au,aw,au]at h;cases h with
  |cons h t=>cases t with
   |cons h' t=>cases h with
    |lst h r=>cases h' with
     |lst h' r'=>exact⟨_,_,h.sq,h'.sq,r,r'⟩
 refine⟨λi H' R' _ h hi=>?_,λi H' R' x jG _ h hi hy=>?_,λi H' R' _ h hi=>?_⟩
 ·obtain⟨xs,ys,h1,h2,r1,r2⟩:=two h;rw[len]at hi;have l1:=r1.length;have l2:=r2.length;rw[aM,List.length_map]at l1 l2;exact⟨xs,ys,xs[i]'(by left),ys[i]'(by left),h1,h2,aak _,aak _⟩
 ·obtain⟨xs,ys,h1,h2,r1,r2⟩:=two h;obtain⟨T,u,v,g1,g2,hn,rfl,rfl⟩:=hy;obtain⟨d1,e1,p1⟩:=r1.vZ (g1 xs h1);obtain⟨d2,e2,p2⟩:=r2.vZ (g2 ys h2);have es:aK H' (upd H' T (.tup [u,v])):=aK.upd hn;refine⟨es,.tup [d1,d2],?_,.tup (aW.of aZ) (.cons (p1.Wz es) (.cons (p2.Wz es) .nil))⟩;rw[aM,List.getElem?_map]at e1 e2 ⊢;obtain⟨c1,q1,rfl⟩:=Option.map_eq_some_iff.mp e1;obtain⟨c2,q2,rfl⟩:=Option.map_eq_some_iff.mp e2;rw[List.getElem?_zipWith,q1,q2];simp[aw,au]
 ·obtain⟨xs,ys,h1,h2,r1,r2⟩:=two h;rw[len]at hi;have l1:=r1.length;have l2:=r2.length;rw[aM,List.length_map]at l1 l2;exact⟨xs,ys,h1,h2,by left⟩
theorem HF{n:Nat}(hΦ:Φ n=D0){sc:Scope}{bl:aj}{k:Nat}(L:PX X sc bl k){e:Expr}(he:oO sc bl e=some args)(ht:hJ tg=true)(hs:lT X F Φ cs args)
  {pins:ak} {s:Shared} {xs:aa} {d:D} (I:Inv X pins σ H s) (Si:SI X F R τ ρ σ H) (b7:bK Φ cs ρ=ok xs) (ed:Φ n xs=ok d) (ei:pw d=ok items) (Rr:It->Hp->Prop)
  (hR:∀J H2 vs,aK H H2->cF X.K (gP X F) R τ (cO cs) H H2 vs xs->Mu X.K J H2 vs xs items->Rr J H2) :
  wpAny (model X.prog X.w) X.A (eval e X.env) (λv s1=>wpAny (model X.prog X.w) X.A (pyIter v) (Aa X pins σ tg Rr) X.xe s1) X.xe s:=by
 obtain⟨p,pos,a,b,rfl,rfl,h1,h2⟩:=qA he;cases tg<;>try (cases ht;done)
 obtain⟨_,pa,s1,s2⟩:=nL hs;refine Jc (L.gl h1) (L.bl _ h2) pa s1 s2 pins s σ H Rr I ⟨R,τ,ρ,xs,Si,b7,λvs H1 e1 rv=>?_⟩;have Q7:=rv;obtain⟨τt,fr,rs⟩:=rv;rw[hΦ]at ed;unfold D0 at ed;split at ed
 ·cases ed;cases ei;obtain⟨v,w,rfl,rx,ry⟩:=rs.two;cases rx with
  |lst hx _=>cases ry with
   |lst hy _=>exact⟨_,_,rfl,⟨_,hx.sq⟩,⟨_,hy.sq⟩,hR _ H1 _ e1 Q7 D1⟩
 ·cases ed
theorem aC.Ho{T:kJ}{N:fc}{k:bo}:∀(j:Nat) {n:Nat} {vs:af} {ds:aa},aC T N k n vs ds->aC T N k (n+j) (vs.drop j) (ds.drop j)
 |0,_,_,_,h=>h
 |j+1,_,_,_,.nil=>.nil
 |j+1,n,_,_,.cons h t=>by
  rw[show n+(j+1)=n+1+j by left];exact aC.Ho j t
theorem aC.GI{T:kJ}{N:fc}{k:bo}:∀(j:Nat) {n:Nat} {vs:af} {ds:aa},aC T N k n vs ds->aC T N k n (vs.take j) (ds.take j)
 |0,_,_,_,_=>by rw[List.take_zero,List.take_zero];exact .nil
 |j+1,_,_,_,.nil=>.nil
 |j+1,n,_,_,.cons h t=>.cons h (aC.GI j t)
noncomputable def ml{α:Type}(b:Bool)(k:Nat)(xs:List α):List α:=if b then xs.drop k else xs.take k
def Nv(K:ao)(b:Bool):V->Option Int->Option Int->Hp->VK->Prop:=λx lo hi H Q=>∃(a:Addr) (xs:af) (k:Nat),x=.ref a/\dE K H a xs/\lo=(if b then some (k:Int)else none)/\hi=(if b then none else some (k:Int))/\∀p,H p=none->Q (.ref p) (upd H p (.lst (ml b k xs)))
theorem wX(b:Bool):We X (Nv X.K b):=by
 intro pins s σ H x v vl vu lo hi sl Q I rx hs pl pu h;obtain⟨a,xs,k,rfl,hx,rfl,rfl,q⟩:=h;cases rx;obtain⟨aI,r,DH,hz⟩:=I.list hx;have hl:=cR DH;have hlen:aI.length=xs.length:=r.length.symm;refine⟨"list",_,slot_list_getitem.lookup,hl.typeIs,abr hl hs pl pu .none (by simp) ?_ (by rw[List.size_toArray,hlen];exact hz)⟩;have e:slicePick aI.toArray (if b then some (k:Int)else none) (if b then none else some (k:Int)) none=(ml b k aI).toArray:=by
  cases b with
  |true=>exact slicePick_from' aI.toArray k
  |false=>exact slicePick_upto' aI.toArray k
 have rc:Vals (ml b k xs) (ml b k aI):=by
  cases b with
  |true=>exact r.drop k
  |false=>exact r.take k
 have lc:(ml b k xs).length<=xs.length:=by
  cases b with
  |true=>show(xs.drop k).length<=_;rw[List.length_drop];left
  |false=>show(xs.take k).length<=_;rw[List.length_take];left
 rw[e];exact⟨.ref s.heap.objs.size,_,I.Fh (t':=s.toks) rc (aas lc hz),rfl,q _ I.fresh⟩
def cutD(b:Bool)(xs:aa):O D:=match two xs with
 |some z=>match z.1 with
  |.lst _ ds=>match z.2 with
   |.int k=>if 0<=k then ok (.lst .ow (au aO (ml b k.toNat ds)))else none
   |_=>none
  |_=>none
 |none=>none
theorem Ge{b:Bool}{x y d:D}(h:cutD b [x,y]=ok d):∃(f:Fl) (ds:aa) (k:Nat),x=.lst f ds/\y=.int k/\d=.lst .ow (au aO (ml b k ds)):=by
 cases x<;>first|exact nk h | (cases h;done) | (cases y<;>first|exact nk h | (cases h;done)|skip)
 obtain⟨h1,h3⟩:=lI h;rename_i f ds k;exact⟨f,ds,k.toNat,rfl,by rw[Int.toNat_of_nonneg h1],h3.symm⟩
noncomputable def ML(b:Bool)(e:Expr):Option Expr:=match e with
 |.Slice lo hi st _=>match st with
  |none=>match b with
   |true=>match hi with
    |none=>lo
    |some _=>none
   |false=>match lo with
    |none=>hi
    |some _=>none
  |some _=>none
 |_=>none
theorem D8{b:Bool}{e k:Expr}(h:ML b e=some k):∃p,e=.Slice (if b then some k else none) (if b then none else some k) none p:=by
 cases e<;>first|exact nk h | (cases h;done)|skip
 rename_i lo hi st p;cases st with
 |some _=>cases h
 |none=>cases b with
  |true=>cases hi with
   |some _=>cases h
   |none=>cases h;exact⟨p,rfl⟩
  |false=>cases lo with
   |some _=>cases h
   |none=>cases h;exact⟨p,rfl⟩
def sj(b:Bool)(_:Scope)(_:aj)(e:Expr):Option (av):=(sQ e).bind λz=>(ML b z.2).bind λk=>some [z.1,k]
theorem zN{b:Bool}{sc:Scope}{bl:aj}{e:Expr}(h:sj b sc bl e=some args):∃a k p pos,e=.Subscript a (.Slice (if b then some k else none) (if b then none else some k) none p) pos/\args=[a,k]:=by
 obtain⟨⟨a,s⟩,hv,h⟩:=bT h;obtain⟨k,hw,h⟩:=bT h;cases h;obtain⟨pos,rfl⟩:=gU hv;obtain⟨p,rfl⟩:=D8 hw;exact⟨a,k,p,pos,rfl,rfl⟩
theorem CW{b:Bool}{n:Nat}(hΦ:Φ n=cutD b){sc:Scope}{bl:aj}{k:Nat}(L:PX X sc bl k){e:Expr}(he:sj b sc bl e=some args)(hs:lT X F Φ cs args):PE X e (tD X F Φ (.bU n cs))/\PT X e (fZ X F Φ (.bU n cs)):=by
 obtain⟨a,ke,p,pos,rfl,rfl⟩:=zN he;cases cs with
 |nil=>exact hs.elim
 |cons c cs=>cases cs with
  |nil=>exact hs.2.2.2.elim
  |cons c' cs=>cases cs with
   |cons _ _=>exact hs.2.2.2.2.2.2.elim
   |nil =>
    obtain⟨h1,_,_,h2,_,_,_⟩:=hs;have this:PE X (.Subscript a (.Slice (if b then some ke else none) (if b then none else some ke) none p) pos) (tD X F Φ (.bU n [c,c'])):=by
     have go:∀{tl th:TO},PO X (if b then some ke else none) tl->PO X (if b then none else some ke) th->(∀(H1:Hp) (R:ah) (τ:Addr->Option bo) (ρ:a_) (k:Nat) (σ:St) (Q:Option Int->Option Int->Hp->Prop),SI X F R τ ρ σ H1->bp Φ c' ρ=ok (.int k)->(∀H2,aK H1 H2->Q (if b then some (k:Int)else none) (if b then none else some (k:Int)) H2)->tl σ H1 λl H2=>th σ H2 λu H3=>Q l u H3)->PE X (.Subscript a (.Slice (if b then some ke else none) (if b then none else some ke) none p) pos) (tD X F Φ (.bU n [c,c'])):=by
      intro tl th pl pu hh;refine PE.imp (Bi (wX b) h1 pl pu) λσ H Q hq=>?_;obtain⟨R,τ,ρ,d,Si,ev,hq⟩:=hq;obtain⟨xs,b7,ev⟩:=aB ev;obtain⟨x,ex,b7⟩:=aB b7;obtain⟨ys,jN,b7⟩:=aB b7;cases b7;obtain⟨y,ey,jN⟩:=aB jN;cases jN;rw[hΦ]at ev;obtain⟨f,ds,j,rfl,rfl,rfl⟩:=Ge ev;refine tD.intro Si ex λv H1 e1 r1=>hh H1 R τ ρ j σ (λl u H3=>Nv X.K b v l u H3 Q) (Si.go e1) ey λH2 e2=>?_;have r2:=(r1.go e2).mono (fv':=iJ (.bU n [c,c'])) λi hi=>aat _ hi;obtain⟨τt,fr,rp⟩:=r2;obtain⟨q,xs,rfl,hn,rs⟩:=rp.sO;have ee:=e1.trans e2;refine⟨q,xs,j,rfl,hn.sq,rfl,rfl,λl hl=>hq _ _ (ee.trans (aK.upd hl)) (b_.rb (ee.free hl) (ee.trans (aK.upd hl)) aZ ?_)⟩;have rc:∃n',aC (aW X.K H2) (nd X.K R (jD (gP X F) τ (iJ (.bU n [c,c']))) τt H2) [] n' (ml b j xs) (ml b j ds):=by
       cases b with
       |true=>exact⟨_,rs.Ho j⟩
       |false=>exact⟨_,rs.GI j⟩
      obtain⟨n',rc⟩:=rc;exact(rc.fT Si fr).imp (λ_ _ h=>aW.same (aK.upd hl) h) λ_ _ _ _ h=>nd.same (aK.upd hl) h
     cases b with
     |true =>
      refine go (xf h2) xg λH1 R τ ρ k σ Q Si ek hk=>tD.intro Si ek λv H2 e2 r2=>?_;cases r2.isInt;exact⟨k,rfl,hk H2 e2⟩
     |false =>
      refine go xg (xf h2) λH1 R τ ρ k σ Q Si ek hk=>tD.intro Si ek λv H2 e2 r2=>?_;cases r2.isInt;exact⟨k,rfl,hk H2 e2⟩
    exact⟨this,cG this λ_=>by cases b<;>rfl⟩
variable {ws:ai}
section
open PySem.SeqAt
open PySem.AutoSeq1 (wpAny_loadPart')
open PySem.MeetsSeq PySem.MeetsSeq2 PySem.MeetsSeq3
theorem A3(A:aG)(s:Shared)(a:Int)(t:Tok)(c:Int)(u:Tok)(prog:aE)(w:World)(E:aA)(Q:aA)(h:Q (.bool (decide (a ≥ c))) s):wpAny (model prog w) A (richCompare .GtE (.int a t) (.int c u)) Q E s :=
 (PyProof.Rows.ge_int h:wpAny (model prog w) A (compareOp .GtE (.int a t) (.int c u)) Q E s)
theorem Fi{vs:ai}{m n:Nat}(h1:IntsAre vs ns)(h2:IntsAre ws ms)(hz:vs.zip ws=[])(hl:ns.length+n=ms.length+m):(!HT.lexLt ns ms)=decide (m ≥ n):=by
 cases h1 with
 |nil=>cases h2 with
  |nil=>simp only[List.length_nil]at hl;exact(aaq (by left)).symm
  |cons c u h=>simp only[List.length_nil,List.length_cons]at hl;exact(aaD (by left)).symm
 |cons a t h=>cases h2 with
  |nil=>simp only[List.length_nil,List.length_cons]at hl;exact(aaq (by left)).symm
  |cons c u h=>rw[List.zip_cons_cons]at hz;cases hz
theorem ph(l b:Addr)(items cx:aR)(n n2:Nat)(dd rZ:Option Addr)(sl p7:Array (Option Value))(ns ms:ae)(hi:IntsAre items.toList ns)(hj:IntsAre cx.toList ms):
  Meets (Builtin.«tuple.__ge__» ⟨[.ref l,.ref b],[]⟩) (λ_ R s=>s.heap.get? l=some { cls:=.type "tuple",dict:=dd,data:=.seq items n,slots:=sl }/\s.heap.get? b=some { cls:=.type "tuple",dict:=rZ,data:=.seq cx n2,slots:=p7 }/\R (.ok (.ret (.bool (!HT.lexLt ns ms)))) s) :=
 .of_wp λprog w A R s h=>by
  obtain⟨hp,g,d,tk,os⟩:=s;obtain⟨hl,hb,h⟩:=h;have f2:=abp;have z1:items.size=ns.length:=by rw[<- hi.length];simp
  have z2:cx.size=ms.length:=by rw[<- hj.length];simp
  wp_walk using wpAny_loadPart' hl,wpAny_loadPart' hb,wpAny_forIn_list _ (λrest b s'=>b.1=none/\s'=⟨hp,g,d,tk,os⟩/\∃(vs ws:ai) (g5 o6:ae),rest=vs.zip ws/\IntsAre vs g5/\IntsAre ws o6/\g5.length+cx.size=o6.length+items.size/\R (.ok (.ret (.bool (!HT.lexLt g5 o6)))) ⟨hp,g,d,tk,os⟩) _
  case turn =>
   rintro ⟨y,x⟩ rest b s' ⟨qj,rfl,vs,ws,g5,o6,hz,B2,z5,hlen,hR⟩;cases B2 with
   |nil=>rw[List.zip_nil_left]at hz;cases hz
   |cons a t hvi'=>cases z5 with
    |nil=>rw[List.zip_nil_right]at hz;cases hz
    |cons c u hwi' =>
     rw[List.zip_cons_cons]at hz;injection hz with OK t_
     injection OK with hy hx
     subst hy hx;rw[HT.df]at hR;simp only[List.length_cons]at hlen;obtain⟨e,he,ua⟩:=HT.oD A.in1 ⟨hp,g,d,tk,os⟩ a t c u;refine aaa (he prog w _ _ ?_);cases e with
     |true =>
      rw[if_pos (ua.mp rfl)]at hR
      wp_walk
      exact⟨rfl,rfl,_,_,_,_,t_,hvi',hwi',by left,hR⟩
     |false =>
      have sJ:¬ a=c:=λq=>absurd (ua.mpr q) aac;rw[if_neg sJ,show(!decide (a<c))=decide (a ≥ c) by by_cases q:a<c<;>simp[q]<;>left]at hR;have OW:=A3 A.in1 ⟨hp,g,d,tk,os⟩ a t c u prog w
      wp_walk using OW
      exact⟨_,rfl,by simpa using hR⟩
  case fin =>
   rintro ⟨b1,b2⟩ s' ⟨qj,rfl,vs,ws,g5,o6,hz,B2,z5,hlen,hR⟩;simp only at qj;subst qj;rw[Fi B2 z5 hz.symm hlen]at hR
   wp_walk
   exact⟨_,rfl,by simpa [Builtin.Tuple.tupleCompareSizes]using hR⟩
  case h=>exact⟨rfl,rfl,items.toList,cx.toList,ns,ms,rfl,hi,hj,by left,h⟩
end
def Nu(K:ao):R2:=λx y H Q=>∃a b ns ms,x=.ref a/\y=.ref b/\aW K H a (ns.map V.int)/\aW K H b (ms.map V.int)/\Q (.bl (!HT.lexLt ns ms)) H
theorem Bo(hu:X.A.units<cLine):js X (compareOp .GtE) (Nu X.K):=by
 intro pins s σ H x y v u Q I rx ry h;obtain⟨a,b,ns,ms,rfl,rfl,ha,hb,q⟩:=h;cases rx;cases ry;obtain⟨aI,r1,⟨⟨cls,dd,data,sl⟩,ho,hc,n,hd⟩,_⟩:=I.tuple ha;obtain⟨rF,r2,⟨⟨C0,rZ,data2,p7⟩,o9,sL,n2,hd2⟩,_⟩:=I.tuple hb;simp only at hc hd sL hd2;subst hc hd sL hd2;exact abz (op:=.GtE) ⟨_,ho,rfl⟩ ⟨_,o9,rfl⟩ PySem.F.slot_tuple_ge PySem.F.entry_tuple_ge (PySem.F.args_tuple_ge_2 _ _) (ph a b aI.toArray rF.toArray n n2 dd rZ sl p7 ns ms (intsAre_of r1) (intsAre_of r2))
  ⟨ho,o9,show Value.bool (!HT.lexLt ns ms)≠Value.notImplemented/\EP X pins σ Q (.bool (!HT.lexLt ns ms)) s from⟨(λx=>nomatch x),⟨.bl _,H,I,rfl,q⟩⟩⟩ hu
def Mj(xs:aa):O D:=match two xs with
 |some z=>match z.1 with
  |.tup a=>match z.2 with
   |.tup b=>match intsOf a with
    |some ns=>match intsOf b with
     |some ms=>ok (.bl (!HT.lexLt ns ms))
     |none=>none
    |none=>none
   |_=>none
  |_=>none
 |none=>none
theorem Ku{x y d:D}(h:Mj [x,y]=ok d):∃ns ms:ae,x=.tup (ns.map D.int)/\y=.tup (ms.map D.int)/\d=.bl (!HT.lexLt ns ms):=by
 cases x<;>first|exact nk h | (cases h;done) | (cases y<;>first|exact nk h | (cases h;done)|skip)
 rename_i a b;have h:(match intsOf a with|some ns=>(match intsOf b with|some ms=>ok (D.bl (!HT.lexLt ns ms))|none=>none)|none=>none)=ok d:=h;cases h1:intsOf a with
 |none=>rw[h1]at h;exact nk h
 |some ns=>cases h2:intsOf b with
  |none=>rw[h1,h2]at h;cases h
  |some ms =>
   rw[h1,h2]at h;cases h;exact⟨ns,ms,by rw[dt h1],by rw[dt h2],rfl⟩
def C9(_:Scope)(_:aj)(e:Expr):Option (av):=(yF e).bind λz=>(one z.2.2).bind λr=>if z.2.1=[.GtE]then some [z.1,r]else none
theorem C8{sc:Scope}{bl:aj}{e:Expr}(h:C9 sc bl e=some args):∃l r p,e=.Compare l [.GtE] [r] p/\args=[l,r]:=by
 obtain⟨⟨l,os,rs⟩,hv,h⟩:=bT h;obtain⟨r,hw,h⟩:=bT h;obtain⟨hc,h⟩:=gT h;cases h;obtain rfl:=hc;obtain⟨p,rfl⟩:=mq hv;obtain rfl:=bI hw;exact⟨l,r,p,rfl,rfl⟩
theorem Qc{n:Nat}(hΦ:Φ n=Mj){sc:Scope}{bl:aj}{k:Nat}(L:PX X sc bl k){e:Expr}(he:C9 sc bl e=some args)(hs:lT X F Φ cs args):PE X e (tD X F Φ (.bU n cs))/\PT X e (fZ X F Φ (.bU n cs)):=by
 obtain⟨l,r,p,rfl,rfl⟩:=C8 he;have hu:X.A.units<cLine:=by have:=L.room.units;left
 cases cs with
 |nil=>exact hs.elim
 |cons c cs=>cases cs with
  |nil=>exact hs.2.2.2.elim
  |cons c' cs=>cases cs with
   |cons _ _=>exact hs.2.2.2.2.2.2.elim
   |nil =>
    obtain⟨h1,_,_,h2,_,_,_⟩:=hs;have key:∀{σ:St} {H:Hp} {R:ah} {τ:Addr->Option bo} {ρ:a_} {d:D} {Q:VK},SI X F R τ ρ σ H->bp Φ (.bU n [c,c']) ρ=ok d->(∀b H2,d=.bl b->aK H H2->Q (.bl b) H2)->DG (Nu X.K) (tD X F Φ c) (tD X F Φ c') σ H Q:=by
     intro σ H R τ ρ d Q Si ev hq;obtain⟨xs,b7,ev⟩:=aB ev;obtain⟨x,ex,b7⟩:=aB b7;obtain⟨ys,jN,b7⟩:=aB b7;cases b7;obtain⟨y,ey,jN⟩:=aB jN;cases jN;rw[hΦ]at ev;obtain⟨ns,ms,rfl,rfl,rfl⟩:=Ku ev;refine tD.intro Si ex λv H1 e1 r1=>tD.intro (Si.go e1) ey λu H2 e2 r2=>?_;obtain⟨_,_,p1⟩:=r1.go e2;obtain⟨_,_,p2⟩:=r2;cases p1 with
     |tup t1 s1=>cases p2 with
      |tup t2 s2 =>
       cases s1.ofInts;cases s2.ofInts;exact⟨_,_,ns,ms,rfl,rfl,t1,t2,hq _ H2 rfl (e1.trans e2)⟩
    refine⟨PE.imp (mB (Bo hu) h1 h2 (qZ _)) λσ H Q hq=>?_,PT.imp (mz (Bo hu) h1 h2 (qZ _)) λσ H Q hq=>?_⟩
    ·obtain⟨R,τ,ρ,d,Si,ev,hq⟩:=hq;exact key Si ev λb H2 e es=>hq _ H2 es (by subst e;exact .bl)
    ·obtain⟨R,τ,ρ,b,Si,ev,hq⟩:=hq;obtain⟨d,ed,et⟩:=aB ev;refine key Si ed λb' H2 e es=>?_;subst e;cases et;exact⟨_,rfl,hq H2 es⟩
section
open PySem.SeqAt
open PySem.AutoSeq1 (wpAny_loadPart')
open PySem.MeetsSeq PySem.MeetsSeq2 PySem.MeetsSeq3
theorem A2(A:aG)(s:Shared)(a:Int)(t:Tok)(c:Int)(u:Tok)(prog:aE)(w:World)(E:aA)(Q:aA)(h:Q (.bool (decide (a<=c))) s):wpAny (model prog w) A (richCompare .LtE (.int a t) (.int c u)) Q E s :=
 (PyProof.Rows.le_int h:wpAny (model prog w) A (compareOp .LtE (.int a t) (.int c u)) Q E s)
theorem BJ{vs:ai}{m n:Nat}(h1:IntsAre vs ns)(h2:IntsAre ws ms)(hz:vs.zip ws=[])(hl:ns.length+n=ms.length+m):(!HT.lexLt ms ns)=decide (m<=n):=by
 cases h1 with
 |nil=>cases h2 with
  |nil=>simp only[List.length_nil]at hl;exact(aaq (by left)).symm
  |cons c u h=>simp only[List.length_nil,List.length_cons]at hl;exact(aaq (by left)).symm
 |cons a t h=>cases h2 with
  |nil=>simp only[List.length_nil,List.length_cons]at hl;exact(aaD (by left)).symm
  |cons c u h=>rw[List.zip_cons_cons]at hz;cases hz
theorem pf(l b:Addr)(items cx:aR)(n n2:Nat)(dd rZ:Option Addr)(sl p7:Array (Option Value))(ns ms:ae)(hi:IntsAre items.toList ns)(hj:IntsAre cx.toList ms):
  Meets (Builtin.«tuple.__le__» ⟨[.ref l,.ref b],[]⟩) (λ_ R s=>s.heap.get? l=some { cls:=.type "tuple",dict:=dd,data:=.seq items n,slots:=sl }/\s.heap.get? b=some { cls:=.type "tuple",dict:=rZ,data:=.seq cx n2,slots:=p7 }/\R (.ok (.ret (.bool (!HT.lexLt ms ns)))) s) :=
 .of_wp λprog w A R s h=>by
  obtain⟨hp,g,d,tk,os⟩:=s;obtain⟨hl,hb,h⟩:=h;have f2:=abp;have z1:items.size=ns.length:=by rw[<- hi.length];simp
  have z2:cx.size=ms.length:=by rw[<- hj.length];simp
  wp_walk using wpAny_loadPart' hl,wpAny_loadPart' hb,wpAny_forIn_list _ (λrest b s'=>b.1=none/\s'=⟨hp,g,d,tk,os⟩/\∃(vs ws:ai) (g5 o6:ae),rest=vs.zip ws/\IntsAre vs g5/\IntsAre ws o6/\g5.length+cx.size=o6.length+items.size/\R (.ok (.ret (.bool (!HT.lexLt o6 g5)))) ⟨hp,g,d,tk,os⟩) _
  case turn =>
   rintro ⟨y,x⟩ rest b s' ⟨qj,rfl,vs,ws,g5,o6,hz,B2,z5,hlen,hR⟩;cases B2 with
   |nil=>rw[List.zip_nil_left]at hz;cases hz
   |cons a t hvi'=>cases z5 with
    |nil=>rw[List.zip_nil_right]at hz;cases hz
    |cons c u hwi' =>
     rw[List.zip_cons_cons]at hz;injection hz with OK t_
     injection OK with hy hx
     subst hy hx;rw[HT.df]at hR;simp only[List.length_cons]at hlen;obtain⟨e,he,ua⟩:=HT.oD A.in1 ⟨hp,g,d,tk,os⟩ a t c u;refine aaa (he prog w _ _ ?_);cases e with
     |true =>
      rw[if_pos (ua.mp rfl).symm]at hR
      wp_walk
      exact⟨rfl,rfl,_,_,_,_,t_,hvi',hwi',by left,hR⟩
     |false =>
      have sJ:¬ a=c:=λq=>absurd (ua.mpr q) aac;rw[if_neg (Ne.symm sJ),show(!decide (c<a))=decide (a<=c) by by_cases q:c<a<;>simp[q]<;>left]at hR;have OW:=A2 A.in1 ⟨hp,g,d,tk,os⟩ a t c u prog w
      wp_walk using OW
      exact⟨_,rfl,by simpa using hR⟩
  case fin =>
   rintro ⟨b1,b2⟩ s' ⟨qj,rfl,vs,ws,g5,o6,hz,B2,z5,hlen,hR⟩;simp only at qj;subst qj;rw[BJ B2 z5 hz.symm hlen]at hR
   wp_walk
   exact⟨_,rfl,by simpa [Builtin.Tuple.tupleCompareSizes]using hR⟩
  case h=>exact⟨rfl,rfl,items.toList,cx.toList,ns,ms,rfl,hi,hj,by left,h⟩
end
def Nt(K:ao):R2:=λx y H Q=>∃a b ns ms,x=.ref a/\y=.ref b/\aW K H a (ns.map V.int)/\aW K H b (ms.map V.int)/\Q (.bl (!HT.lexLt ms ns)) H
theorem Bn(hu:X.A.units<cLine):js X (compareOp .LtE) (Nt X.K):=by
 intro pins s σ H x y v u Q I rx ry h;obtain⟨a,b,ns,ms,rfl,rfl,ha,hb,q⟩:=h;cases rx;cases ry;obtain⟨aI,r1,⟨⟨cls,dd,data,sl⟩,ho,hc,n,hd⟩,_⟩:=I.tuple ha;obtain⟨rF,r2,⟨⟨C0,rZ,data2,p7⟩,o9,sL,n2,hd2⟩,_⟩:=I.tuple hb;simp only at hc hd sL hd2;subst hc hd sL hd2;exact abz (op:=.LtE) ⟨_,ho,rfl⟩ ⟨_,o9,rfl⟩ PySem.F.slot_tuple_le PySem.F.entry_tuple_le (PySem.F.args_tuple_le_2 _ _) (pf a b aI.toArray rF.toArray n n2 dd rZ sl p7 ns ms (intsAre_of r1) (intsAre_of r2))
  ⟨ho,o9,show Value.bool (!HT.lexLt ms ns)≠Value.notImplemented/\EP X pins σ Q (.bool (!HT.lexLt ms ns)) s from⟨(λx=>nomatch x),⟨.bl _,H,I,rfl,q⟩⟩⟩ hu
def BK(xs:aa):O D:=match two xs with
 |some z=>match z.1 with
  |.tup a=>match z.2 with
   |.tup b=>match intsOf a with
    |some ns=>match intsOf b with
     |some ms=>ok (.bl (!HT.lexLt ms ns))
     |none=>none
    |none=>none
   |_=>none
  |_=>none
 |none=>none
theorem Fj{x y d:D}(h:BK [x,y]=ok d):∃ns ms:ae,x=.tup (ns.map D.int)/\y=.tup (ms.map D.int)/\d=.bl (!HT.lexLt ms ns):=by
 cases x<;>first|exact nk h | (cases h;done) | (cases y<;>first|exact nk h | (cases h;done)|skip)
 rename_i a b;have h:(match intsOf a with|some ns=>(match intsOf b with|some ms=>ok (D.bl (!HT.lexLt ms ns))|none=>none)|none=>none)=ok d:=h;cases h1:intsOf a with
 |none=>rw[h1]at h;exact nk h
 |some ns=>cases h2:intsOf b with
  |none=>rw[h1,h2]at h;cases h
  |some ms =>
   rw[h1,h2]at h;cases h;exact⟨ns,ms,by rw[dt h1],by rw[dt h2],rfl⟩
def C5(_:Scope)(_:aj)(e:Expr):Option (av):=(yF e).bind λz=>(one z.2.2).bind λr=>if z.2.1=[.LtE]then some [z.1,r]else none
theorem C4{sc:Scope}{bl:aj}{e:Expr}(h:C5 sc bl e=some args):∃l r p,e=.Compare l [.LtE] [r] p/\args=[l,r]:=by
 obtain⟨⟨l,os,rs⟩,hv,h⟩:=bT h;obtain⟨r,hw,h⟩:=bT h;obtain⟨hc,h⟩:=gT h;cases h;obtain rfl:=hc;obtain⟨p,rfl⟩:=mq hv;obtain rfl:=bI hw;exact⟨l,r,p,rfl,rfl⟩
theorem JK{n:Nat}(hΦ:Φ n=BK){sc:Scope}{bl:aj}{k:Nat}(L:PX X sc bl k){e:Expr}(he:C5 sc bl e=some args)(hs:lT X F Φ cs args):PE X e (tD X F Φ (.bU n cs))/\PT X e (fZ X F Φ (.bU n cs)):=by
 obtain⟨l,r,p,rfl,rfl⟩:=C4 he;have hu:X.A.units<cLine:=by have:=L.room.units;left
 cases cs with
 |nil=>exact hs.elim
 |cons c cs=>cases cs with
  |nil=>exact hs.2.2.2.elim
  |cons c' cs=>cases cs with
   |cons _ _=>exact hs.2.2.2.2.2.2.elim
   |nil =>
    obtain⟨h1,_,_,h2,_,_,_⟩:=hs;have key:∀{σ:St} {H:Hp} {R:ah} {τ:Addr->Option bo} {ρ:a_} {d:D} {Q:VK},SI X F R τ ρ σ H->bp Φ (.bU n [c,c']) ρ=ok d->(∀b H2,d=.bl b->aK H H2->Q (.bl b) H2)->DG (Nt X.K) (tD X F Φ c) (tD X F Φ c') σ H Q:=by
     intro σ H R τ ρ d Q Si ev hq;obtain⟨xs,b7,ev⟩:=aB ev;obtain⟨x,ex,b7⟩:=aB b7;obtain⟨ys,jN,b7⟩:=aB b7;cases b7;obtain⟨y,ey,jN⟩:=aB jN;cases jN;rw[hΦ]at ev;obtain⟨ns,ms,rfl,rfl,rfl⟩:=Fj ev;refine tD.intro Si ex λv H1 e1 r1=>tD.intro (Si.go e1) ey λu H2 e2 r2=>?_;obtain⟨_,_,p1⟩:=r1.go e2;obtain⟨_,_,p2⟩:=r2;cases p1 with
     |tup t1 s1=>cases p2 with
      |tup t2 s2 =>
       cases s1.ofInts;cases s2.ofInts;exact⟨_,_,ns,ms,rfl,rfl,t1,t2,hq _ H2 rfl (e1.trans e2)⟩
    refine⟨PE.imp (mB (Bn hu) h1 h2 (qZ _)) λσ H Q hq=>?_,PT.imp (mz (Bn hu) h1 h2 (qZ _)) λσ H Q hq=>?_⟩
    ·obtain⟨R,τ,ρ,d,Si,ev,hq⟩:=hq;exact key Si ev λb H2 e es=>hq _ H2 es (by subst e;exact .bl)
    ·obtain⟨R,τ,ρ,b,Si,ev,hq⟩:=hq;obtain⟨d,ed,et⟩:=aB ev;refine key Si ed λb' H2 e es=>?_;subst e;cases et;exact⟨_,rfl,hq H2 es⟩
noncomputable abbrev sE(h:Heap)(z TI TO a:Addr)(f:Bool):Prop :=
 h.get? z=some { cls:=.type "zip",dict:=none,data:=.fields #[rawInt a,.bool f,.bool false,.ref TI,.ref TO],slots:=#[] }
variable {oa:Obj}{ys:aR}
section
variable {prog:aE}{w:World}{A:aG}{E:aA}{s:Shared}
theorem Ac{a:Addr}{o:Obj}{Q:Option Obj->Shared->Prop}(ho:s.heap.get? a=some o)(h:Q (some o) s):wpAny (model prog w) A (loadIfAlive a) Q E s:=by
 have h':Q (s.heap.get? a) s:=by rw[ho];exact h
 exact λ_ _ _=>h'
theorem wI{z TI TO a:Addr}{f:Bool}{Q:Bool->Shared->Prop}(hz:sE s.heap z TI TO a f)(ha:s.heap.get? a=some oa)(hQ:∀h',sE h' z TI TO a true->Heap.SameBut z s.heap h'->Q false { s with heap:=h' }):
  wpAny (model prog w) A (Builtin.SmallTypes.ownedTupleIsFree (.ref z)) Q E s:=by
 unfold Builtin.SmallTypes.ownedTupleIsFree;refine aaa (aa7 hz rfl (x:=rawInt a) rfl ?_);show wpAny _ _ (loadIfAlive ((a:Int).toNat) >>= _) _ _ _;rw[Int.toNat_natCast];refine aaa (Ac ha ?_);simp only[Option.isNone_some,Bool.false_eq_true,if_false];refine aaa (aa7 hz rfl (x:=.bool f) rfl ?_);cases f with
 |true =>
  rw[if_neg (show ¬ ((Value.bool true != Value.bool true)=true) from Bool.false_ne_true)];exact aad (hQ s.heap hz (Heap.SameBut.refl _ _))
 |false =>
  rw[if_pos (show(Value.bool false != Value.bool true)=true from rfl)];exact aaa (wpAny_setField_rec hz (by simp) λh₃ Pj lJ=>aad (hQ h₃ Pj lJ))
theorem sN{z TI TO a:Addr}{f:Bool}{xs:aR}{x y:Value}{Q:aA}(D:ZipApart z TI TO i1 i2 l1 l2)
  (hz:sE s.heap z TI TO a f) (ha:s.heap.get? a=some oa) (DN:IsPair s.heap TI (.ref i1) (.ref i2))
  (h1:s.heap.IsListIter i1 l1 k1) (h2:s.heap.IsListIter i2 l2 k2) (DL:s.heap.IsList l1 xs) (z7:s.heap.IsList l2 ys) (hx:xs[k1]?=some x) (hy:ys[k2]?=some y)
  (hQ:∀h',sE h' z TI TO a true->h'.IsListIter i1 l1 (k1+1)->h'.IsListIter i2 l2 (k2+1)->IsPair h' s.heap.objs.size x y->h'.objs.size=s.heap.objs.size+1 ->
   (∀c o,c≠z->c≠i1->c≠i2->s.heap.get? c=some o->h'.get? c=some o)->Q (.ref s.heap.objs.size) { s with heap:=h' }) :
  wpAny (model prog w) A (Builtin.«zip.__next__» ⟨[.ref z],[]⟩) (λfin s'=>∃v,fin=.done (.ret v)/\Q v s') E s:=by
 show wpAny _ _ (field (.ref z) 2 >>= _) _ _ _;refine aaa (aa7 hz rfl (x:=.bool false) rfl ?_);show wpAny _ _ (field (.ref z) 3 >>= _) _ _ _;refine aaa (aa7 hz rfl (x:=.ref TI) rfl ?_);refine aaa (wpAny_seqItems DN rfl ?_);show wpAny _ _ (Builtin.SmallTypes.ownedTupleIsFree (.ref z) >>= _) _ _ _;refine aaa (wI hz ha λh₁ Hd fM=>?_);simp only[Bool.false_eq_true,if_false];refine aaa ?_;rw[<- Array.forIn_toList];simp only[List.forIn_cons,List.forIn_nil];refine aaa (aaa (aaB ?_));show wpAny _ _ (Builtin.SmallTypes.nextOf (.ref i1) >>= _) _ _ _;refine aaa (abD (h1.extBut fM.extBut D.i1z) (DL.extBut fM.extBut D.l1z) hx λh₂ Hh iU=>aad ?_);refine aad ?_;refine aaa (aaa (aaB ?_));show wpAny _ _ (Builtin.SmallTypes.nextOf (.ref i2) >>= _) _ _ _;refine aaa (abD ((h2.extBut fM.extBut D.i2z).extBut iU.extBut D.i12.symm) ((z7.extBut fM.extBut D.l2z).extBut iU.extBut D.l2i1) hy λh₃ PV lJ=>aad ?_);refine aad ?_;refine aad ?_;have hsz:h₃.objs.size=s.heap.objs.size:=by rw[lJ.1,iU.1,fM.1]
 refine aaa (wpAny_newTuple ?_ (by show 2<=_;rw[sizeLine_eq];decide));refine aad ⟨_,rfl,?_⟩;show Q (.ref h₃.objs.size) _;have iB:∀{c o},h₃.get? c=some o->c≠h₃.objs.size:=λe=>aal (aaf e);have hk:∀c o,c≠z->c≠i1->c≠i2->s.heap.get? c=some o->(h₃.push { cls:=.type "tuple",data:=.seq #[x,y] }).get? c=some o:=λc o c1 c2 c3 e=>aae _ (lJ.extBut _ _ c3 (iU.extBut _ _ c2 (fM.extBut _ _ c1 e)));rw[hsz];refine hQ _ (aae _ (lJ.extBut _ _ D.i2z.symm (iU.extBut _ _ D.i1z.symm Hd))) ((Hh.extBut lJ.extBut D.i12).at λo e=>aae _ e) (PV.at λo e=>aae _ e) ?_ (by rw[Heap.size_push,hsz]) hk;rw[<- hsz];exact aan _ rfl
theorem uT{z TI TO a:Addr}{f:Bool}{xs:aR}{Q:Fin->Shared->Prop}(hh:A.handled=none)(D:ZipApart z TI TO i1 i2 l1 l2)
  (hz:sE s.heap z TI TO a f) (ha:s.heap.get? a=some oa) (DN:IsPair s.heap TI (.ref i1) (.ref i2))
  (h1:s.heap.IsListIter i1 l1 k1) (h2:s.heap.IsListIter i2 l2 k2) (DL:s.heap.IsList l1 xs) (z7:s.heap.IsList l2 ys) (ub:xs[k1]?=none\/ys[k2]?=none)
  (hE:∀h' e,(∀c o,c≠z->c≠i1->c≠i2->s.heap.get? c=some o->h'.get? c=some o)->(∃o,h'.get? e=some o/\o.cls=.type "StopIteration")->E (.ref e) { s with heap:=h' }) :
  wpAny (model prog w) A (Builtin.«zip.__next__» ⟨[.ref z],[]⟩) Q E s:=by
 show wpAny _ _ (field (.ref z) 2 >>= _) _ _ _;refine aaa (aa7 hz rfl (x:=.bool false) rfl ?_);show wpAny _ _ (field (.ref z) 3 >>= _) _ _ _;refine aaa (aa7 hz rfl (x:=.ref TI) rfl ?_);refine aaa (wpAny_seqItems DN rfl ?_);show wpAny _ _ (Builtin.SmallTypes.ownedTupleIsFree (.ref z) >>= _) _ _ _;refine aaa (wI hz ha λh₁ Hd fM=>?_);simp only[Bool.false_eq_true,if_false];refine aaa ?_;rw[<- Array.forIn_toList];simp only[List.forIn_cons,List.forIn_nil];refine aaa (aaa (aaB ?_));show wpAny _ _ (Builtin.SmallTypes.nextOf (.ref i1) >>= _) _ _ _;cases hx:xs[k1]? with
 |none =>
  refine aaa (wpAny_nextOf_list_end hh (h1.extBut fM.extBut D.i1z) (DL.extBut fM.extBut D.l1z) hx λh₂ e iU he=>?_);exact hE h₂ e (λc o c1 c2 c3 x=>iU _ _ c2 (fM.extBut _ _ c1 x)) he
 |some x =>
  have hy:ys[k2]?=none:=by rcases ub with h|h;rw[hx]at h;cases h;exact h
  refine aaa (abD (h1.extBut fM.extBut D.i1z) (DL.extBut fM.extBut D.l1z) hx λh₂ Hh iU=>aad ?_);refine aad ?_;refine aaa (aaa (aaB ?_));show wpAny _ _ (Builtin.SmallTypes.nextOf (.ref i2) >>= _) _ _ _;refine aaa (wpAny_nextOf_list_end hh ((h2.extBut fM.extBut D.i2z).extBut iU.extBut D.i12.symm) ((z7.extBut fM.extBut D.l2z).extBut iU.extBut D.l2i1) hy λh₃ e lJ he=>?_);exact hE h₃ e (λc o c1 c2 c3 x=>lJ _ _ c3 (iU.extBut _ _ c2 (fM.extBut _ _ c1 x))) he
theorem mZ{z TI TO a:Addr}{f:Bool}{xs:aR}{x y:Value}{Q:Option Value->Shared->Prop}(D:ZipApart z TI TO i1 i2 l1 l2)
  (hz:sE s.heap z TI TO a f) (ha:s.heap.get? a=some oa) (DN:IsPair s.heap TI (.ref i1) (.ref i2))
  (h1:s.heap.IsListIter i1 l1 k1) (h2:s.heap.IsListIter i2 l2 k2) (DL:s.heap.IsList l1 xs) (z7:s.heap.IsList l2 ys) (hx:xs[k1]?=some x) (hy:ys[k2]?=some y)
  (hQ:∀h',sE h' z TI TO a true->h'.IsListIter i1 l1 (k1+1)->h'.IsListIter i2 l2 (k2+1)->IsPair h' s.heap.objs.size x y->h'.objs.size=s.heap.objs.size+1 ->
   (∀c o,c≠z->c≠i1->c≠i2->s.heap.get? c=some o->h'.get? c=some o)->Q (some (.ref s.heap.objs.size)) { s with heap:=h' }) :
  wpAny (model prog w) A (pyNext (.ref z)) Q E s:=by
 have hT:s.TypeIs (.ref z) "zip":=⟨_,hz,rfl⟩
 unfold pyNext;exact aaa (aca (aaX (name:=Str.ofString "__next__") hT abe
  (aaI abe hT PySem.F.entry_zip_next
   (sN D hz ha DN h1 h2 DL z7 hx hy λh' a1 a2 a3 a4 a5 a6=>aad (hQ h' a1 a2 a3 a4 a5 a6)) (PySem.F.args_zip_next_1 _))))
theorem pb{z TI TO a:Addr}{f:Bool}{xs:aR}{Q:Option Value->Shared->Prop}(hh:A.handled=none)(D:ZipApart z TI TO i1 i2 l1 l2)
  (hz:sE s.heap z TI TO a f) (ha:s.heap.get? a=some oa) (DN:IsPair s.heap TI (.ref i1) (.ref i2))
  (h1:s.heap.IsListIter i1 l1 k1) (h2:s.heap.IsListIter i2 l2 k2) (DL:s.heap.IsList l1 xs) (z7:s.heap.IsList l2 ys) (ub:xs[k1]?=none\/ys[k2]?=none)
  (hQ:∀h',(∀c o,c≠z->c≠i1->c≠i2->s.heap.get? c=some o->h'.get? c=some o)->Q none { s with heap:=h' }):wpAny (model prog w) A (pyNext (.ref z)) Q E s:=by
 have hT:s.TypeIs (.ref z) "zip":=⟨_,hz,rfl⟩
 unfold pyNext;refine aaa (aca (aaX (name:=Str.ofString "__next__") hT abe
  (aaI abe hT PySem.F.entry_zip_next (uT hh D hz ha DN h1 h2 DL z7 ub λh' e hk he=>?_) (PySem.F.args_zip_next_1 _))))
 obtain⟨o,ho,hc⟩:=he;refine aaa (wpAny_isInstance (T:="StopIteration") (b:=true) ⟨o,ho,hc⟩ isSubtype_stop ?_);exact aad (hQ _ hk)
end
theorem HE:typeLookup (.type "zip") "__len__" = pure none:=by rw[typeLookup_type,builtinLookup_eq_fast];kernel_rfl
theorem Mz:typeLookup (.type "zip") "__length_hint__" = pure none:=by rw[typeLookup_type,builtinLookup_eq_fast];kernel_rfl
section
variable {prog:aE}{w:World}{A:aG}{E:aA}{s:Shared}
theorem DX{z:Addr}(hT:s.TypeIs (.ref z) "zip"){Q:Bool->Shared->Prop}(h:Q true s):wpAny (model prog w) A (Builtin.List.listLengthHint (.ref z)) Q E s:=by
 unfold Builtin.List.listLengthHint;refine aaa (wpAny_specialOf hT HE ?_);refine wpAny_ite_split (λql=>absurd ql (by decide)) (λ_=>?_);refine wpAny_ite_split (λql=>absurd ql (by decide)) (λ_=>?_);refine aaa (wpAny_specialOf hT Mz ?_);exact aad h
end
structure Zl(h:Heap)(z TI TO i1 i2 l1 l2 S:Addr)(xs ys:aR)(i:Nat):Prop where
 st:(IsZip h z TI TO .none/\∃a b,IsPair h TO a b)\/∃a f oa,sE h z TI TO a f/\h.get? a=some oa/\S<a
 ti:IsPair h TI (.ref i1) (.ref i2)
 w1:h.IsListIter i1 l1 i
 w2:h.IsListIter i2 l2 i
 q1:h.IsList l1 xs
 q2:h.IsList l2 ys
structure Below(z TI TO i1 i2 l1 l2 S:Addr):Prop where
 D:ZipApart z TI TO i1 i2 l1 l2
 z:z<S
 TI:TI<S
 TO:TO<S
 i1:i1<S
 i2:i2<S
 l1:l1<S
 l2:l2<S
section
variable {prog:aE}{w:World}{A:aG}{E:aA}{s:Shared}{z TI TO i1 i2 l1 l2 S:Addr}{xs ys:aR}{i:Nat}
theorem Zl.keep(B:Below z TI TO i1 i2 l1 l2 S)(Z:Zl h z TI TO i1 i2 l1 l2 S xs ys i)(hk:∀b o,b≠S->h.get? b=some o->h'.get? b=some o):Zl h' z TI TO i1 i2 l1 l2 S xs ys i:=by
 have n:∀{b},b<S->b≠S:=λh=>aal h;refine⟨?_,hk _ _ (n B.TI) Z.ti,Z.w1.at λo e=>hk _ o (n B.i1) e,Z.w2.at λo e=>hk _ o (n B.i2) e,Z.q1.at λo e=>hk _ o (n B.l1) e,Z.q2.at λo e=>hk _ o (n B.l2) e⟩;rcases Z.st with ⟨h1,a,b,h2⟩|⟨a,f,oa,h1,h2,h3⟩
 ·exact .inl ⟨hk _ _ (n B.z) h1,a,b,hk _ _ (n B.TO) h2⟩
 ·exact .inr ⟨a,f,oa,hk _ _ (n B.z) h1,hk _ _ (aav h3) h2,h3⟩
theorem DV{x y:Value}{Q:Option Value->Shared->Prop}(B:Below z TI TO i1 i2 l1 l2 S)(Z:Zl s.heap z TI TO i1 i2 l1 l2 S xs ys i)(hS:S<s.heap.objs.size)(hx:xs[i]?=some x)(hy:ys[i]?=some y)
  (hQ:∀h',Zl h' z TI TO i1 i2 l1 l2 S xs ys (i+1)->IsPair h' s.heap.objs.size x y->h'.objs.size=s.heap.objs.size+1->(∀c o,c≠z->c≠TO->c≠i1->c≠i2->s.heap.get? c=some o->h'.get? c=some o)->Q (some (.ref s.heap.objs.size)) { s with heap:=h' }) :
  wpAny (model prog w) A (pyNext (.ref z)) Q E s:=by
 have D:=B.D;rcases Z.st with ⟨hz,a,b,Mh⟩|⟨a,f,oa,hz,ha,hSa⟩
 ·refine wpAny_pyNext_zip_item D hz Z.ti Mh Z.w1 Z.w2 Z.q1 Z.q2 hx hy λh' z1 o1 a1 b1 t1 Q2 k1=>hQ h' ?_ t1 Q2 k1;exact⟨.inr ⟨s.heap.objs.size,false,_,z1,t1,hS⟩,k1 _ _ D.TIz D.TITO D.TIi1 D.TIi2 Z.ti,a1,b1,Z.q1.at λo e=>k1 _ o D.l1z D.l1TO D.l1i1 D.l1i2 e,Z.q2.at λo e=>k1 _ o D.l2z D.l2TO D.l2i1 D.l2i2 e⟩
 ·refine mZ D hz ha Z.ti Z.w1 Z.w2 Z.q1 Z.q2 hx hy λh' z1 a1 b1 t1 Q2 k1=>hQ h' ?_ t1 Q2 λc o c1 _ c3 c4 e=>k1 c o c1 c3 c4 e;have n:∀{b},b<S->a≠b:=λh=>aav (abt h hSa);exact⟨.inr ⟨a,true,oa,z1,k1 _ _ (n B.z) (n B.i1) (n B.i2) ha,hSa⟩,k1 _ _ D.TIz D.TIi1 D.TIi2 Z.ti,a1,b1,Z.q1.at λo e=>k1 _ o D.l1z D.l1i1 D.l1i2 e,Z.q2.at λo e=>k1 _ o D.l2z D.l2i1 D.l2i2 e⟩
theorem DY{Q:Option Value->Shared->Prop}(hh:A.handled=none)(B:Below z TI TO i1 i2 l1 l2 S)(Z:Zl s.heap z TI TO i1 i2 l1 l2 S xs ys i)(ub:xs[i]?=none\/ys[i]?=none)
  (hQ:∀h',(∀c o,c≠z->c≠TO->c≠i1->c≠i2->s.heap.get? c=some o->h'.get? c=some o)->Q none { s with heap:=h' }):wpAny (model prog w) A (pyNext (.ref z)) Q E s:=by
 have D:=B.D;rcases Z.st with ⟨hz,a,b,Mh⟩|⟨a,f,oa,hz,ha,hSa⟩
 ·exact wpAny_pyNext_zip_end hh D hz Z.ti Mh Z.w1 Z.w2 Z.q1 Z.q2 ub hQ
 ·exact pb hh D hz ha Z.ti Z.w1 Z.w2 Z.q1 Z.q2 ub λh' k=>hQ h' λc o c1 _ c3 c4 e=>k c o c1 c3 c4 e
end
structure QN(xs ys:aR)(lo:Addr)(h:Heap)(as:bc):Prop where
 above:∀a∈as,lo<a
 nd:as.Nodup
 pairs:∀(j:Nat) (a:Addr),as[j]?=some a->∃x y,xs[j]?=some x/\ys[j]?=some y/\IsPair h a x y
section
variable {prog:aE}{w:World}{A:aG}{s:Shared}{R:Result->Shared->Prop}{z TI TO i1 i2 l1 l2 S:Addr}{xs ys:aR}
theorem DU(hh:A.handled=none)(B:Below z TI TO i1 i2 l1 l2 S)(hn:min xs.size ys.size<=sizeLine)(res:Value) 
  (hR:∀h' tk acc c as,(∀b o,b≠S->b≠z->b≠TO->b≠i1->b≠i2->h₁.get? b=some o->h'.get? b=some o)->h'.get? S=some { cls:=.type "list",dict:=none,data:=.seq acc c,slots:=#[] }->as.length=min xs.size ys.size->QN xs ys S h' as ->
   acc.toList=as.map Value.ref->R (.ok (.ret res)) { s with heap:=h',toks:=tk }) :
  ∀(k i:Nat) (h:Heap) (tk c:Nat) (acc:aR) (as:bc),min xs.size ys.size - i=k->i<=min xs.size ys.size->Zl h z TI TO i1 i2 l1 l2 S xs ys i->(∀b o,b≠S->b≠z->b≠TO->b≠i1->b≠i2->h₁.get? b=some o->h.get? b=some o) ->
   h.get? S=some { cls:=.type "list",dict:=none,data:=.seq acc c,slots:=#[] }->acc.toList=as.map Value.ref->as.length=i->QN xs ys S h as ->
   codeAny (model prog w) A (.builtin "list.extend.loop" ⟨[.ref S,.ref z,res],[]⟩) R { s with heap:=h,toks:=tk }:=by
 have nz:S≠z:=aav B.z;have nO:S≠TO:=aav B.TO;have n1:S≠i1:=aav B.i1;have n2:S≠i2:=aav B.i2;have Ww:∀{a:Addr},S<a->a≠z/\a≠TO/\a≠i1/\a≠i2:=λh=>⟨aav (abt B.z h),aav (abt B.TO h),aav (abt B.i1 h),aav (abt B.i2 h)⟩
 intro k;induction k with
 |zero =>
  intro i h tk c acc as hk hi Z B_ hS hV PL hG;refine abc PySem.F.entry_extend_loop ?_;rw[Around.under_plainId PySem.F.plain_extend_loop _];show wpAny _ A.in1 (pyNext (.ref z) >>= _) _ _ _;have ub:xs[i]?=none\/ys[i]?=none:=by
   rcases Nat.le_total xs.size ys.size with q|q
   ·exact .inl (Array.getElem?_eq_none (by left))
   ·exact .inr (Array.getElem?_eq_none (by left))
  refine aaa (DY (s:={ s with heap:=h,toks:=tk }) (A:=A.in1) hh B Z ub λh' he=>?_);refine aad (hR h' tk acc c as (λb o h1 h2 h3 h4 h5 e=>he b o h2 h3 h4 h5 (B_ b o h1 h2 h3 h4 h5 e)) (he S _ nz nO n1 n2 hS) (by left) ⟨hG.above,hG.nd,λj a hj=>?_⟩ hV);obtain⟨x,y,e1,e2,e3⟩:=hG.pairs j a hj;obtain⟨a1,a2,a3,a4⟩:=Ww (hG.above a (aap hj));exact⟨x,y,e1,e2,he a _ a1 a2 a3 a4 e3⟩
 |succ k ih =>
  intro i h tk c acc as hk hi Z B_ hS hV PL hG;have iB:i<min xs.size ys.size:=by left
  have hx:xs[i]?=some (xs[i]'(by left)):=aa5 _;have hy:ys[i]?=some (ys[i]'(by left)):=aa5 _;have hsz:acc.size=i:=by rw[<- Array.length_toList,hV,List.length_map,PL]
  have Vj:S<h.objs.size:=aaf hS;refine abc PySem.F.entry_extend_loop ?_;rw[Around.under_plainId PySem.F.plain_extend_loop _];show wpAny _ A.in1 (pyNext (.ref z) >>= _) _ _ _;refine aaa (DV (s:={ s with heap:=h,toks:=tk }) B Z Vj hx hy λh' Z' ht hz Md=>?_);dsimp only at ht hz Md ⊢;have zC:=Md S _ nz nO n1 n2 hS;have up:∀b o,b≠S->h'.get? b=some o->(h'.update S (Obj.mapSeq (·.push (Value.ref h.objs.size)))).get? b=some o:=λb o hb e=>(aaE _ _ (abu hb)).trans e;show wpAny _ A.in1 (updateSeq S (·.push (Value.ref h.objs.size)) >>= _) _ _ _;refine aaa ?_;refine abQ zC rfl (aad ⟨plainId_quiet PySem.F.plain_extend_loop _,ih (i+1) _ tk _ (acc.push (Value.ref h.objs.size)) (as++[h.objs.size]) (by left) iB (Z'.keep B up)
   (λb o h1 h2 h3 h4 h5 e=>up b o h1 (Md b o h2 h3 h4 h5 (B_ b o h1 h2 h3 h4 h5 e))) (aa4 _ zC rfl) (by rw[Array.toList_push,hV,List.map_append];rfl) (by rw[List.length_append,PL];rfl) ⟨?_,?_,?_⟩⟩) (by rw[hsz];left) (by show(acc.push (Value.ref h.objs.size)).size<=sizeLine+1;rw[Array.size_push,hsz];left)
  ·intro a ha;rcases List.mem_append.mp ha with ha|ha
   ·exact hG.above a ha
   ·rw[List.mem_singleton.mp ha];exact Vj
  ·refine List.nodup_append.mpr ⟨hG.nd,List.nodup_cons.mpr ⟨List.not_mem_nil,abw⟩,λa ha b hb e=>?_⟩;rw[List.mem_singleton.mp hb]at e;subst e;obtain⟨j,hj⟩:=List.mem_iff_getElem?.mp ha;obtain⟨_,_,_,_,e⟩:=hG.pairs j _ hj;exact absurd (aaf e) (aax _)
  ·intro j b hj;rcases Nat.lt_trichotomy j as.length with q|q|q
   ·rw[List.getElem?_append_left q]at hj;obtain⟨x',y',e1,e2,e3⟩:=hG.pairs j b hj;have hb:=hG.above b (aap hj);obtain⟨a1,a2,a3,a4⟩:=Ww hb;exact⟨x',y',e1,e2,up b _ (aav hb) (Md b _ a1 a2 a3 a4 e3)⟩
   ·subst q;have hb:h.objs.size=b:=by simpa using hj
    subst hb;exact⟨_,_,by rw[PL];exact hx,by rw[PL];exact hy,up _ _ (aav Vj) ht⟩
   ·have O6:(as++[h.objs.size])[j]?=none:=List.getElem?_eq_none (by rw[List.length_append,List.length_singleton];left);rw[O6]at hj;exact nk hj
theorem yC(hh:A.handled=none)(B:Below z TI TO i1 i2 l1 l2 S)(hn:min xs.size ys.size<=sizeLine)(Z:Zl s.heap z TI TO i1 i2 l1 l2 S xs ys 0)(DK:IsZip s.heap z TI TO .none)(res:Value)(c₀:Nat)(hS:s.heap.get? S=some { cls:=.type "list",data:=.seq #[] c₀ })
  (hR:∀h' tk acc c as,(∀b o,b≠S->b≠z->b≠TO->b≠i1->b≠i2->s.heap.get? b=some o->h'.get? b=some o)->h'.get? S=some { cls:=.type "list",dict:=none,data:=.seq acc c,slots:=#[] }->as.length=min xs.size ys.size->QN xs ys S h' as ->
   acc.toList=as.map Value.ref->R (.ok (.ret res)) { s with heap:=h',toks:=tk }) :
  wpAny (model prog w) A.in1 (Builtin.List.listExtendWith (.ref S) (.ref z) res)
   (λfin s'=>match fin with|.done f=>R (.ok f) s'|.again c'=>c'.quiet=true/\codeAny (model prog w) A c' R s') (λe s'=>R (.error e) s') s:=by
 have hSz:S≠z:=aav B.z;have hT:s.TypeIs (.ref z) "zip":=⟨_,DK,rfl⟩
 unfold Builtin.List.listExtendWith;refine aaa (wpAny_typeOf (T:="zip") hT ?_);have h1:Builtin.List.listSameRef (.ref S) (.ref z)=false:=by simp[Builtin.List.listSameRef,hSz]
 have h2:(Value.type "zip" == Value.type "list")=false:=by decide
 have h3:(Value.type "zip" == Value.type "tuple")=false:=by decide
 simp only[h1,h2,h3,Bool.or_false,Bool.false_eq_true,if_false];refine aaa (wpAny_pyIter_zip DK ?_);refine aaa (aaB (DX hT ?_));refine wpAny_ite_split (λ_=>?_) (λql=>absurd rfl ql);refine aaa (wpAny_rule ?_);refine aaa ?_;show wpAny _ _ (updateSeq S (·.push .none) >>= λ_=>updateSeq S (·.pop)) _ _ _;refine aaa (abQ hS rfl ?_);have xV:=aa4 (Obj.mapSeq (·.push Value.none)) hS rfl;refine abQ (hz:=by seq_fits) xV rfl ?_;have PN:=aa4 (Obj.mapSeq (·.pop)) xV rfl;have LU:∀b o,b≠S->s.heap.get? b=some o->((s.heap.update S (Obj.mapSeq (·.push Value.none))).update S (Obj.mapSeq (·.pop))).get? b=some o:=λb o hb e=>(aaE _ _ (abu hb)).trans ((aaE _ _ (abu hb)).trans e);refine aad ⟨plainId_quiet PySem.F.plain_extend_loop _,?_⟩;exact DU hh B hn res (s:=s) (h₁:=s.heap) hR (min xs.size ys.size) 0 _ s.toks _ #[] [] (Nat.sub_zero _) (aaL _) (Z.keep B LU) (λb o h1 _ _ _ _ e=>LU b o h1 e) PN rfl rfl ⟨(λ_ ha=>nomatch ha),abw,λj a hj=>by simp at hj⟩
theorem DW(hh:A.handled=none)(B:Below z TI TO i1 i2 l1 l2 S)(hn:min xs.size ys.size<=sizeLine)(Z:Zl s.heap z TI TO i1 i2 l1 l2 S xs ys 0)(DK:IsZip s.heap z TI TO .none)(hS:s.heap.get? S=some { cls:=.type "list",data:=.seq #[] })
  (hR:∀h' tk acc c as,(∀b o,b≠S->b≠z->b≠TO->b≠i1->b≠i2->s.heap.get? b=some o->h'.get? b=some o)->h'.get? S=some { cls:=.type "list",dict:=none,data:=.seq acc c,slots:=#[] }->as.length=min xs.size ys.size->QN xs ys S h' as ->
   acc.toList=as.map Value.ref->R (.ok (.ret .none)) { s with heap:=h',toks:=tk }) :
  wpAny (model prog w) A.in1 (Builtin.«list.__init__» ⟨[.ref S,.ref z],[]⟩)
   (λfin s'=>match fin with|.done f=>R (.ok f) s'|.again c'=>c'.quiet=true/\codeAny (model prog w) A c' R s') (λe s'=>R (.error e) s') s:=by
 show wpAny _ _ (do let old <- Builtin.List.listItems (.ref S);Builtin.List.listUpdate (.ref S) (λ_=>#[]);letGo old.toList.reverse;Builtin.List.listExtendWith (.ref S) (.ref z) .none) _ _ s;refine aaa ?_;unfold Builtin.List.listItems;refine aaa (wpAny_seqItems hS rfl (aad ?_));show wpAny _ _ (updateSeq S (λ_=>#[]) >>= λ_=>letGo (#[]:aR).toList.reverse >>= λ_=>Builtin.List.listExtendWith (.ref S) (.ref z) .none) _ _ s;refine aaa (abQ hS rfl ?_);have xV:=aa4 (Obj.mapSeq (λ_=>(#[]:aR))) hS rfl;have LU:∀b o,b≠S->s.heap.get? b=some o->(s.heap.update S (Obj.mapSeq (λ_=>(#[]:aR)))).get? b=some o :=
  λb o hb e=>(aaE _ _ (abu hb)).trans e
 refine aaa (wpAny_letGo ?_);refine yC hh B hn (Z.keep B LU) (LU _ _ (aal B.z) DK) .none _ xV λh' tk acc c as hk zC hl hG hV=>?_;exact hR h' tk acc c as (λb o h1 h2 h3 h4 h5 e=>hk b o h1 h2 h3 h4 h5 (LU b o h1 e)) zC hl hG hV
end
section
variable {prog:aE}{w:World}{A:aG}{E:aA}{s:Shared}{z TI TO i1 i2 l1 l2:Addr}{xs ys:aR}
theorem DZ{Q:aA}(hh:A.handled=none)(D:ZipApart z TI TO i1 i2 l1 l2)(hn:min xs.size ys.size<=sizeLine)(hz:IsZip s.heap z TI TO .none)(DN:IsPair s.heap TI (.ref i1) (.ref i2)){a b:Value}(Mh:IsPair s.heap TO a b)(h1:s.heap.IsListIter i1 l1 0)(h2:s.heap.IsListIter i2 l2 0)(q1:s.heap.IsList l1 xs)(q2:s.heap.IsList l2 ys)
  (hQ:∀h' tk acc c as,(∀b o,b≠z->b≠TO->b≠i1->b≠i2->s.heap.get? b=some o->h'.get? b=some o)->h'.get? s.heap.objs.size=some { cls:=.type "list",dict:=none,data:=.seq acc c,slots:=#[] }->as.length=min xs.size ys.size->QN xs ys s.heap.objs.size h' as ->
   acc.toList=as.map Value.ref->Q (.ref s.heap.objs.size) { s with heap:=h',toks:=tk }) :
  wpAny (model prog w) A (call (.type "list") [.ref z]) Q E s:=by
 refine callType_codes (Q₁:=λobj s₁=>obj=.ref s.heap.objs.size/\s₁={ s with heap:=s.heap.push { cls:=.type "list",data:=.seq #[] } }) PySem.F.called_list (PySem.F.typeCall_list_1 _) PySem.F.entry_list_init
  (code_list_new _ ⟨rfl,rfl⟩) λobj s₁ h₁=>?_
 obtain⟨rfl,rfl⟩:=h₁;have hS:(s.heap.push { cls:=.type "list",data:=.seq #[] }).get? s.heap.objs.size=some { cls:=.type "list",data:=.seq #[] }:=aan _ rfl;have up:∀b o,s.heap.get? b=some o->(s.heap.push { cls:=.type "list",data:=.seq #[] }).get? b=some o:=λb o e=>aae _ e;have B:Below z TI TO i1 i2 l1 l2 s.heap.objs.size:=⟨D,aaf hz,aaf DN,aaf Mh,(by obtain⟨_,e,_⟩:=h1;exact aaf e),(by obtain⟨_,e,_⟩:=h2;exact aaf e),(by obtain⟨_,e,_⟩:=q1;exact aaf e),(by obtain⟨_,e,_⟩:=q2;exact aaf e)⟩
 refine⟨⟨_,hS,rfl⟩,PySem.F.args_list_init_2 _ _,DW (A:=A.in1) hh B hn ⟨.inl ⟨up _ _ hz,a,b,up _ _ Mh⟩,up _ _ DN,h1.at λo e=>up _ o e,h2.at λo e=>up _ o e,q1.at λo e=>up _ o e,q2.at λo e=>up _ o e⟩ (up _ _ hz) hS λh' tk acc c as hk zC hl hG hV=>?_⟩;exact⟨rfl,hQ h' tk acc c as (λb o h2 h3 h4 h5 e=>hk b o (aal (aaf e)) h2 h3 h4 h5 (up b o e)) zC hl hG hV⟩
end
section
variable {X:Cx}
end
def jR(f:Str)(sc:Scope)(bl:aj)(e:Expr):Option (av):=(eR e).bind λz=>(one z.2).bind λ_=>if z.1=f/\iI sc z.1=true/\z.1∈bl then some z.2 else none
theorem lj{f:Str}{sc:Scope}{bl:aj}{e:Expr}(h:jR f sc bl e=some args):∃p pos a,e=.Call (.Name f p) [a] [] pos/\args=[a]/\iI sc f=true/\f∈bl:=by
 obtain⟨⟨x,as⟩,hv,h⟩:=bT h;obtain⟨a,hw,h⟩:=bT h;obtain⟨hc,h⟩:=gT h;cases h;obtain⟨rfl,h1,h2⟩:=hc;obtain⟨p,pos,rfl⟩:=b6 hv;obtain rfl:=bI hw;exact⟨_,_,_,rfl,rfl,h1,h2⟩
theorem Inv.Ox{pins:ak}{s:Shared}(I:Inv X pins σ H s)(k:∀b u,s.heap.get? b=some u->h'.get? b=some u)(up:∀b u,H b=some u->H' b=some u)
  (nw:∀b u,H' b=some u->H b=some u\/(s.heap.objs.size<=b/\cK X.prog X.w H' h' b u)):Inv X pins σ H' { s with heap:=h',toks:=t' }:=by
 refine I.step (g':=s.gens) (d':=s.drawn) (ch:=[]) (λb hb=>nomatch hb) (λb o _ _ _ e _=>k b o e) (λb o _ _ _ e _=>⟨o.slots,k b o e⟩) (λb u _ e n=>?_)
  (λb o _ e=>⟨o,k b o e⟩) (λ_ _ e=>up _ _ e) (λ_ _ _ e=>up _ _ e) (λb ps e=>⟨#[],by rw[up _ _ e];simp⟩) (λm hm=>?_) (λb u e=>?_) I.bare
 ·cases q:H' b with
  |none=>rfl
  |some v =>
   rcases nw b v q with z|⟨z,_⟩
   ·rw[n]at z;exact nk z
   ·exact absurd (aaf e) (Nat.not_lt.mpr z)
 ·obtain⟨o,es,ep,ho,r⟩:=hm;exact⟨o,es,ep,k _ o ho,r⟩
 ·rcases nw b u e with e|⟨_,e⟩
  ·exact(I.cC b u e).iM (λc v _ q=>k c v q) (λ_ q=>up _ _ q) λ_ _ q=>up _ _ q
  ·exact e
def pH(H:Hp):List (Addr×V×V)->Hp
 |[]=>H
 |q::r=>upd (pH H r) q.1 (.tup [q.2.1,q.2.2])
theorem kj{H:Hp}{b:Addr}{u:HO}(e:H b=some u):∀{r:List (Addr×V×V)},(∀q∈r,H q.1=none)->pH H r b=some u
 |[],_=>e
 |q::r,h=>by
  have hn:b≠q.1:=λz=>by rw[z,h q List.mem_cons_self]at e;cases e
  show upd (pH H r) q.1 _ b=_;rw[ba hn];exact kj e λq hq=>h q (aag _ hq)
theorem xG{H:Hp}:∀{r:List (Addr×V×V)},(r.map (·.1)).Nodup->∀q∈r,pH H r q.1=some (.tup [q.2.1,q.2.2])
 |[],_,_,h=>nomatch h
 |q'::r,hn,q,h=>by
  show upd (pH H r) q'.1 _ q.1=_;have uR:=List.nodup_cons.mp hn;rcases List.mem_cons.mp h with rfl|h
  ·exact aZ
  ·have:q.1≠q'.1:=λz=>uR.1 (by show q'.1∈_;rw[<- z];exact aba h);rw[ba this];exact xG uR.2 q h
theorem tZ{H:Hp}{b:Addr}{u:HO}:∀{r:List (Addr×V×V)},pH H r b=some u->H b=some u\/∃q∈r,q.1=b/\u=.tup [q.2.1,q.2.2]
 |[],e=>.inl e
 |q::r,e=>by
  replace e:upd (pH H r) q.1 (.tup [q.2.1,q.2.2]) b=some u:=e;by_cases z:b=q.1
  ·subst z;rw[aZ]at e;cases e;exact .inr ⟨q,aah,rfl,rfl⟩
  ·rw[ba z]at e;rcases tZ e with h|⟨q',h1,h2⟩
   ·exact .inl h
   ·exact .inr ⟨q',aag _ h1,h2⟩
def Yv(K:ao)(ta:TA):TE:=λσ H Q=>ta σ H λvs H1=>∃a b xs ys,vs=[.ref a,.ref b]/\dE K H1 a xs/\dE K H1 b ys /\
 ∀(l:Addr) (r:List (Addr×V×V)),H1 l=none->(∀q∈r,H1 q.1=none)->(r.map (·.1)).Nodup->l∉r.map (·.1)->r.map (·.2)=xs.zip ys->Q (.ref l) (upd (pH H1 r) l (.lst (r.map λq=>V.ref q.1)))
theorem EL{p:Pos}(hc:X.calm=true)(U6:Gl X "list")(ZG:X.mg "list" = none)(hg:Gl X "zip")(hm:X.mg "zip" = none)(ha:PA X [e1,e2] ta)(hs:∀es,starEach (e1::es) X.env=(false,eval e1 X.env)::starEach es X.env)(L9:∀es,starEach (e2::es) X.env=(false,eval e2 X.env)::starEach es X.env):
  PE X (.Call (.Name "list" p') [.Call (.Name "zip" p) [e1,e2] [] pos] [] pos') (Yv X.K ta):=by
 intro pins s σ H Q I h;refine aa2 (gj I U6 ZG boot_list ?_);refine aaA ?_;show wpAny _ _ (spliced ((false,eval (.Call (.Name "zip" p) [e1,e2] [] pos) X.env)::backTo pos' (starEach [] X.env))) _ _ s;refine ab4 ?_;refine Call_ (gj I hg hm boot_zip (aaA (cN (ha pos pins s σ H _ I h) λus s1 bF=>?_) (hs _) (by rw[L9];rfl)));obtain⟨vs,H1,I1,r1,q1⟩:=bF;obtain⟨a,b,xs,ys,e,q1,q2,hq⟩:=q1;subst e;obtain⟨u,v,rfl,ru,rv⟩:=vals2 r1;cases ru;cases rv;obtain⟨aI,rx,p1,Rz⟩:=I1.list q1;obtain⟨its',ry,p2,B0⟩:=I1.list q2;refine call_zip_2 p1.isList p2.isList λh' z t o l1 l2 sz k=>acb ?_;have DL:h'.IsList a aI.toArray:=p1.isList.at λo e=>k _ o e;have z7:h'.IsList b its'.toArray:=p2.isList.at λo e=>k _ o e;have cls:∀{x y:Addr} {o u:Obj},h'.get? x=some o->h'.get? y=some u->o.cls≠u.cls->x≠y:=λh1 h2 h3=>dm h1 h2 h3;have al:@LT.lt Nat _ a s1.heap.objs.size:=by obtain⟨_,e,_⟩:=p1.isList;exact aaf e
 have bl:@LT.lt Nat _ b s1.heap.objs.size:=by obtain⟨_,e,_⟩:=p2.isList;exact aaf e
 have D:ZipApart (s1.heap.objs.size+4) (s1.heap.objs.size+2) (s1.heap.objs.size+3) s1.heap.objs.size (s1.heap.objs.size+1) a b:=by
  constructor<;>first|exact aal (by left)|exact aav (by left)
 have lx:=rx.length;have ly:=ry.length;have hn:min aI.toArray.size its'.toArray.size<=sizeLine:=by simp;left
 refine DZ (s:={ s1 with heap:=h' }) (I1.ok.hd hc) D hn z t o l1 l2 DL z7 λXB tk acc c as hk hS hl hG hV=>?_;dsimp only at hk hS hG ⊢;have hlen:as.length=(xs.zip ys).length:=by rw[hl,List.length_zip];simp;left
 have keep:∀b o,s1.heap.get? b=some o->XB.get? b=some o:=λb o e=>by
  have:@LT.lt Nat _ b s1.heap.objs.size:=aaf e;exact hk b o (aal (by left)) (aal (by left)) (aal (by left)) (aal (by left)) (k b o e)
 have fresh:∀c,s1.heap.objs.size<=c->H1 c=none:=λc h=>I1.cC.fresh h;have hS5:h'.objs.size=s1.heap.objs.size+5:=sz
 let r:List (Addr×V×V):=as.zip (xs.zip ys)
 have r1:r.map (·.1)=as:=List.map_fst_zip (by left);have r2:r.map (·.2)=xs.zip ys:=List.map_snd_zip (by left);have ql:∀c∈as,@LT.lt Nat _ h'.objs.size c:=hG.above;have UK:∀q∈r,H1 q.1=none:=λq hq=>fresh _ (by have:=ql q.1 (by rw[<- r1];exact aba hq);left);have FI:H1 h'.objs.size=none:=fresh _ (by left);have Kd:h'.objs.size∉r.map (·.1):=by rw[r1];exact λz=>absurd (ql _ z) (aax _)
 have k8:(r.map (·.1)).Nodup:=by rw[r1];exact hG.nd
 have B9:(as.map V.ref)=r.map λq=>V.ref q.1:=by rw[<- r1,List.map_map];rfl
 refine⟨.ref h'.objs.size,upd (pH H1 r) h'.objs.size (.lst (r.map λq=>V.ref q.1)),?_,rfl,hq _ r FI UK k8 Kd r2⟩;refine Inv.Ox (s:=s1) (t':=tk) I1 keep (λb u e=>?_) λb u e=>?_
 ·rw[ba λz=>by rw[z,FI]at e;cases e];exact kj e UK
 ·by_cases zb:b=h'.objs.size
  ·subst zb;rw[aZ]at e;cases e;refine .inr ⟨by left,?_,acc.toList,c,?_,by rw[Array.toArray_toList];exact hS⟩
   ·rw[<- B9,List.length_map,hlen,List.length_zip];left
   ·rw[<- B9,hV];clear hV B9 hG hl hlen r1 ql k8 r r2 UK Kd hS hk keep;induction as with
    |nil=>exact .nil
    |cons a as ih=>exact .cons rfl ih
  ·rw[ba zb]at e;rcases tZ e with e|⟨q,hq,rfl,rfl⟩
   ·exact .inl e
   ·have hm:q.1∈as:=by rw[<- r1];exact aba hq
    refine .inr ⟨by have:=ql _ hm;left,?_⟩;obtain⟨j,hj⟩:=List.mem_iff_getElem?.mp hq;have Pb:as[j]?=some q.1/\(xs.zip ys)[j]?=some q.2:=by
     have:=List.getElem?_zip_eq_some.mp hj;exact this
    obtain⟨x,y,ex,ey,hp⟩:=hG.pairs j q.1 Pb.1;obtain⟨e1,e2⟩:xs[j]?=some q.2.1/\ys[j]?=some q.2.2:=List.getElem?_zip_eq_some.mp Pb.2;obtain⟨u1,UH,Th⟩:=rx.get e1;obtain⟨u2,Zr,Tf⟩:=ry.get e2;rw[List.getElem?_toArray,UH]at ex;rw[List.getElem?_toArray,Zr]at ey;cases ex;cases ey;exact wQ Th Tf hp
noncomputable def pairD(x y:D):D:=.tup [x,y]
def Oe(xs:aa):O D:=match two xs with
 |some z=>match z.1 with
  |.lst _ a=>match z.2 with
   |.lst _ b=>ok (.lst .ow (au aO (List.zipWith pairD a b)))
   |_=>none
  |_=>none
 |none=>none
theorem JG{x y d:D}(h:Oe [x,y]=ok d):∃f a g b,x=.lst f a/\y=.lst g b/\d=.lst .ow (au aO (List.zipWith pairD a b)):=by
 cases x<;>first|exact nk h | (cases h;done)|skip
 cases y<;>first|exact nk h | (cases h;done)|skip
 cases h;exact⟨_,_,_,_,rfl,rfl,rfl⟩
def C7(sc:Scope)(bl:aj)(e:Expr):Option (av):=(eR e).bind λz=>(one z.2).bind λi=>if z.1=("list" : Str)/\iI sc z.1=true/\z.1∈bl then oO sc bl i else none
theorem C6{sc:Scope}{bl:aj}{e:Expr}(h:C7 sc bl e=some args):∃p pos i,e=.Call (.Name ("list" : Str) p) [i] [] pos/\iI sc ("list" : Str)=true/\("list" : Str)∈bl/\oO sc bl i=some args:=by
 obtain⟨⟨x,as⟩,hv,h⟩:=bT h;obtain⟨a,hw,h⟩:=bT h;obtain⟨hc,hz⟩:=gT h;obtain⟨rfl,h1,h2⟩:=hc;obtain⟨p,pos,rfl⟩:=b6 hv;obtain rfl:=bI hw;exact⟨p,pos,a,rfl,h1,h2,hz⟩
theorem tH{T:kJ}{N:fc}(hN:∀k k' p xs f,N k p xs f->N k' p xs f):∀{r:List (Addr×V×V)} {xs ys:af} {a b:aa} {k1 k2 k:bo} {n1 n2 n:Nat},aC T N k1 n1 xs a->aC T N k2 n2 ys b->r.map (·.2)=xs.zip ys->(∀q∈r,T q.1 [q.2.1,q.2.2])->aC T N k n (r.map λq=>V.ref q.1) (List.zipWith pairD a b)
 |[],xs,ys,a,b,_,_,_,_,_,_,r1,r2,e,_=>by
  have l1:=r1.length;have l2:=r2.length;have e':=aaN List.length e;rw[List.length_zip]at e';have:List.zipWith pairD a b=[]:=List.eq_nil_of_length_eq_zero (by rw[List.length_zipWith];simp at e';left);rw[this];exact .nil
 |q::r,xs,ys,a,b,k1,k2,k,n1,n2,n,r1,r2,e,ht=>by
  cases r1 with
  |nil=>cases e
  |cons h1 t1=>cases r2 with
   |nil=>cases e
   |cons h2 t2 =>
    have e1:q.2=(_,_):=(abg e).1;have e2:=(abg e).2;refine .cons (.tup (ht q aah) ?_) (tH hN t1 t2 e2 λq hq=>ht q (aag _ hq));rw[e1];have m1:=Rep.g_ (T':=T) (N':=N) (g:=id) (λ_ _ h=>h) hN h1 (0::n::k);have m2:=Rep.g_ (T':=T) (N':=N) (g:=id) (λ_ _ h=>h) hN h2 (1::n::k);rw[eJ]at m1 m2;exact .cons m1 (.cons m2 .nil)
theorem f_(g:Fl->Fl):∀a b:aa,au g (List.zipWith pairD a b)=List.zipWith pairD (au g a) (au g b)
 |[],_=>by cases ‹aa› <;> rfl
 |_::_,[]=>rfl
 |x::a,y::b=>by
  show aw g (pairD x y)::au g (List.zipWith pairD a b)=_;rw[f_ g a b];rfl
theorem Od{n:Nat}(hΦ:Φ n=Oe){sc:Scope}{bl:aj}{k:Nat}(L:PX X sc bl k){e:Expr}(he:C7 sc bl e=some args)(hs:lT X F Φ cs args):PE X e (tD X F Φ (.bU n cs))/\PT X e (fZ X F Φ (.bU n cs)):=by
 obtain⟨p,pos,i,rfl,h1,h2,hz⟩:=C6 he;obtain⟨p',pos',a,b,rfl,rfl,h3,h4⟩:=qA hz;obtain⟨⟨c,d,rfl,_,_⟩,pa,s1,s2⟩:=nL hs;have this:PE X (.Call (.Name ("list" : Str) p) [.Call (.Name ("zip" : Str) p') [a,b] [] pos'] [] pos) (tD X F Φ (.bU n [c,d])):=by
  refine PE.imp (EL L.calm (L.gl h1) (L.bl _ h2) (L.gl h3) (L.bl _ h4) pa s1 s2) λσ H Q hq=>?_;obtain⟨R,τ,ρ,d',Si,ev,hq⟩:=hq;obtain⟨xs,b7,ev⟩:=aB ev;rw[hΦ]at ev;refine⟨R,τ,ρ,xs,Si,b7,λvs H1 e1 r1=>?_⟩;obtain⟨τt,fr,rs⟩:=r1;have hl:∃x y,xs=[x,y]:=by
   unfold Oe at ev;cases hw:two xs with
   |none=>rw[hw]at ev;exact nk ev
   |some z=>exact⟨z.1,z.2,fD hw⟩
  obtain⟨x,y,rfl⟩:=hl;obtain⟨f,da,g,db,rfl,rfl,rfl⟩:=JG ev;obtain⟨v,w,rfl,rx,ry⟩:=rs.two;cases rx with
  |lst hx ax=>cases ry with
   |lst hy ay =>
    refine⟨_,_,_,_,rfl,hx.sq,hy.sq,λl r hl hr hn Kd hz=>hq _ _ ?_ ?_⟩
    ·intro b o e;have e':=e1 b o e;rw[ba λz=>by rw[z,hl]at e';cases e'];exact kj e' hr
    ·have sm:aK H1 (upd (pH H1 r) l (.lst (r.map λq=>V.ref q.1))):=λb o e=>by
      rw[ba λz=>by rw[z,hl]at e;cases e];exact kj e hr
     refine b_.rb (e1.free hl) (e1.trans sm) aZ ?_;rw[f_];refine tH nd.oq ((ax.fT Si fr (k':=[]) (n':=0)).imp (λ_ _ h=>aW.same sm h) λ_ _ _ _ h=>nd.same sm h) ((ay.fT Si fr (k':=[]) (n':=0)).imp (λ_ _ h=>aW.same sm h) λ_ _ _ _ h=>nd.same sm h) hz λq hq=>?_;have zo:q.1≠l:=λz=>Kd (by rw[<- z];exact aba hq);exact aW.of (by rw[ba zo];exact xG hn q hq)
 exact⟨this,cG this λ_=>rfl⟩
section
variable {prog:aE}{w:World}{A:aG}{E:aA}{s:Shared}
def sF(h:Heap)(vs:ai)(nss:aF):Prop:=vs.length=nss.length/\∀(i:Nat) (ns:ae),nss[i]?=some ns->∃t aI,vs[i]?=some (.ref t)/\IsTup h t aI.toArray/\IntsAre aI ns/\ns≠[]
theorem tX{fin:Bool}{Q:Bool->Shared->Prop}:∀{aI o7:ai} {ns ms:ae} (i:Nat),IntsAre aI ns->IntsAre o7 ms->fin=decide (aI.length<o7.length)->Q (HT.lexLt ns ms) s->PySem.W.KatLex prog w A true fin Q (aI.zip o7) i s
 |_,_,_,_,i,.nil,.nil,hf,h=>by subst hf;exact h
 |_,_,_,_,i,.nil,.cons _ _ _,hf,h=>by subst hf;exact h
 |_,_,_,_,i,.cons _ _ _,.nil,hf,h=>by subst hf;exact h
 |_,_,_,_,i,.cons (ns:=ns) a t h1,.cons (ns:=ms) b u h2,hf,h=>by
  rw[HT.df]at h;refine ach (wpAny_eqBool_int (PySem.W.kat_go (λe=>?_) λe=>?_))
  ·have e:a=b:=by simpa using e
   rw[if_pos e]at h;exact acj (tX (i+1) h1 h2 (by rw[hf];simp) h)
  ·have e:¬ a=b:=by simpa using e
   rw[if_neg e]at h;refine PySem.W.kat_no ?_;rw[Bool.true_and];cases i==0 with
   |true=>exact oneLt_int h
   |false=>exact ack _ _ (lt_int h)
theorem sF.mono{vs:ai}{nss:aF}(k:∀b o,h.get? b=some o->h'.get? b=some o)(t:sF h vs nss):sF h' vs nss :=
 ⟨t.1,λi ns e=>let ⟨a,aI,e1,⟨o,ho,r⟩,e3⟩:=t.2 i ns e;⟨a,aI,e1,⟨o,k _ _ ho,r⟩,e3⟩⟩
end
noncomputable def bS(ns:ae):D:=.tup (ns.map D.int)
theorem Fc{n i:Nat}{xs:aa}{r:Fo×a_}(ev:vF Φ n i (nU cs xs ρ)=ok r)(ha:aP bN xs=false):∃d d',ρ[i]?=some (some d)/\Φ n (d::xs)=ok d'/\r=(.nx,ρ.set i (some d')):=by
 unfold nU at ev;rw[if_neg (by rw[ha];exact Bool.false_ne_true)]at ev;unfold vF at ev;split at ev
 ·rename_i d hd;obtain⟨d',h1,h2⟩:=aB ev;cases h2;exact⟨d,d',hd,h1,rfl⟩
 ·cases ev
theorem JC{n i:Nat}{xs:aa}{r:Fo×a_}(ev:vF Φ n i (nU cs xs ρ)=ok r)(ha:aP bN xs=true):∃d d',Φ n (d::au aL xs)=ok d':=by
 unfold nU at ev;rw[if_pos ha]at ev;unfold vF at ev;split at ev
 ·rename_i d hd;obtain⟨d',h1,h2⟩:=aB ev;exact⟨d,d',h1⟩
 ·cases ev
def GG(m:Str)(st:Stmt):Option (Expr×av):=(QW st).bind λc=>(uW c).bind λz=>(Al z.1).bind λy=>if y.2.1=m/\z.2.2.1.isEmpty=true/\(y.2.2.endLine==z.2.2.2.line)=true then some (y.1,z.2.1)else none
theorem Ai{m:Str}{as:av}(h:GG m st=some (o,as)):∃p1 p2 pos,st=.Expr (.Call (.Attribute o m p1) as [] p2) pos/\(p1.endLine==p2.line)=true:=by
 obtain⟨c,h1,h⟩:=bT h;obtain⟨⟨f,QK,ks,p2⟩,h2,h⟩:=bT h;obtain⟨⟨o',a,p1⟩,h3,h⟩:=bT h;obtain⟨hc,h⟩:=gT h;cases h;obtain⟨pos,rfl⟩:=m_ h1;obtain rfl:=pU h2;obtain rfl:=sS h3;obtain rfl:=N0 hc.2.1;obtain rfl:=hc.1;exact⟨p1,p2,pos,rfl,hc.2.2⟩
section
variable {α β:Type}
noncomputable def cD:aF->List α->ae->Option α
 |c'::cs,v::vs,c=>if c'=c then some v else cD cs vs c
 |_,_,_=>none
noncomputable def setC:aF->List α->ae->α->List α
 |c'::cs,v'::vs,c,v=>(if c'=c then v else v')::setC cs vs c v
 |_,_,_,_=>[]
noncomputable def dg(cs:aF)(c:ae):aF:=if c∈cs then cs else cs++[c]
noncomputable def uJ(cs:aF)(as:List α)(c:ae)(a:α):List α:=if c∈cs then as else as++[a]
def cg(cs:aF)(vs:List α)(c:ae)(v:α):List α:=if c∈cs then setC cs vs c v else vs++[v]
end
section
variable {zs:List (ae×Addr×Value)}{c:ae}
theorem lp:∀(zs:List (ae×Addr×Value)) (c:ae),(atKey zs c).map (·.2)=cD (zs.map (·.1)) (zs.map (·.2.2)) c
 |[],_=>rfl
 |z::zs,c=>by
  have ih:=lp zs c;unfold atKey at ih ⊢;rw[List.find?_cons];show _=if z.1=c then some z.2.2 else cD (zs.map (·.1)) (zs.map (·.2.2)) c
  by_cases e:z.1=c
  ·rw[decide_eq_true e,if_pos e];rfl
  ·rw[decide_eq_false e,if_neg e];exact ih
theorem eH:∀(zs:List (ae×Addr×Value)) (c:ae),(atKey zs c).isSome=true ↔ c∈zs.map (·.1)
 |[],c=>by simp[atKey]
 |z::zs,c=>by
  have ih:=eH zs c;unfold atKey at ih ⊢;rw[List.find?_cons,List.map_cons,List.mem_cons];by_cases e:z.1=c
  ·rw[decide_eq_true e];simp[e]
  ·rw[decide_eq_false e];rw[ih];exact⟨.inr,λh=>h.resolve_left λz=>e z.symm⟩
theorem lC(a:Addr)(v:Value):(storedH zs c a v).map (·.1)=dg (zs.map (·.1)) c:=by
 unfold storedH dg;by_cases h:c∈zs.map (·.1)
 ·rw[if_pos ((eH zs c).mpr h),if_pos h,List.map_map];refine aay λz _=>?_;show(putAt c v z).1=z.1;unfold putAt;split<;>rfl
 ·rw[if_neg (λz=>h ((eH zs c).mp z)),if_neg h,List.map_append];rfl
theorem sY(a:Addr)(v:Value):(storedH zs c a v).map (·.2.1)=uJ (zs.map (·.1)) (zs.map (·.2.1)) c a:=by
 unfold storedH uJ;by_cases h:c∈zs.map (·.1)
 ·rw[if_pos ((eH zs c).mpr h),if_pos h,List.map_map];refine aay λz _=>?_;show(putAt c v z).2.1=z.2.1;unfold putAt;split<;>rfl
 ·rw[if_neg (λz=>h ((eH zs c).mp z)),if_neg h,List.map_append];rfl
theorem tN(v:Value):∀zs:List (ae×Addr×Value),(zs.map (putAt c v)).map (·.2.2)=setC (zs.map (·.1)) (zs.map (·.2.2)) c v
 |[]=>rfl
 |z::zs=>by
  show(putAt c v z).2.2::((zs.map (putAt c v)).map (·.2.2))=(if z.1=c then v else z.2.2)::setC (zs.map (·.1)) (zs.map (·.2.2)) c v;rw[tN v zs];unfold putAt;by_cases e:z.1=c
  ·rw[if_pos e,if_pos e]
  ·rw[if_neg e,if_neg e]
theorem sX(a:Addr)(v:Value):(storedH zs c a v).map (·.2.2)=cg (zs.map (·.1)) (zs.map (·.2.2)) c v:=by
 unfold storedH cg;by_cases h:c∈zs.map (·.1)
 ·rw[if_pos ((eH zs c).mpr h),if_pos h];exact tN v zs
 ·rw[if_neg (λz=>h ((eH zs c).mp z)),if_neg h,List.map_append];rfl
end
theorem sP{c:ae}{v:V}{u:Value}(r:RelV v u):∀{cs:aF} {xs:af} {us:ai},Vals xs us->Vals (setC cs xs c v) (setC cs us c u)
 |[],_,_,h=>by cases h<;>exact .nil
 |c'::cs,_,_,h=>by
  cases h with
  |nil=>exact .nil
  |cons h t =>
   refine .cons ?_ (sP r t);show RelV (if c'=c then v else _) (if c'=c then u else _);by_cases e:c'=c
   ·rw[if_pos e,if_pos e];exact r
   ·rw[if_neg e,if_neg e];exact h
theorem pT{v:V}{u:Value}(r:RelV v u):∀{xs:af} {us:ai},Vals xs us->Vals (xs++[v]) (us++[u])
 |_,_,.nil=>.cons r .nil
 |_,_,.cons h t=>.cons h (pT r t)
theorem Ag{cs:aF}{us:ai}(h:Vals xs us){c:ae}{v:V}{u:Value}(r:RelV v u):Vals (cg cs xs c v) (cg cs us c u):=by
 unfold cg;by_cases e:c∈cs
 ·rw[if_pos e,if_pos e];exact sP r h
 ·rw[if_neg e,if_neg e];exact pT r h
theorem m9:∀{cs:aF} {xs:af} {us:ai} (_:Vals xs us) (c:ae),oV (cD cs xs c) (cD cs us c)
 |[],_,_,_,_=>by cases ‹Vals _ _› <;> exact True.intro
 |c'::cs,_,_,h,c=>by
  cases h with
  |nil=>exact True.intro
  |cons h t =>
   show oV (if c'=c then some _ else _) (if c'=c then some _ else _);by_cases e:c'=c
   ·rw[if_pos e,if_pos e];exact h
   ·rw[if_neg e,if_neg e];exact m9 t c
section
variable {X:Cx}{pins:ak}{σ:St}{H:Hp}{s:Shared}{p b:Addr}{cs:aF}{as:bc}{xs:af}{ep:Nat}{c:ae}{A:aG}{E:aA}
theorem items_int:∀{c:ae} {aI:ai},Vals (c.map V.int) aI->ItemsAre (intKind X.prog X.w) c aI
 |[],_,h=>by cases h;exact .nil
 |i::c,_,h=>by
  cases h with
  |cons h t =>
   obtain⟨t',rfl⟩:=h;exact .cons (by simp[intKind,Value.isInt]) (items_int t)
theorem rE(I:Inv X pins σ H s)(h:aW X.K H b (c.map V.int)):(tupleKind (intKind X.prog X.w)).is s.heap c b:=by
 obtain⟨aI,rv,⟨o,h1,h2,n,h3⟩,_⟩:=I.tuple h;exact⟨o,aI.toArray,n,h1,h2,h3,by simpa using items_int rv⟩
theorem rX(I:Inv X pins σ H s)(h:H p=some (.ext (DO p cs as xs ep)))(k:eZ (aW X.K H) as cs):
  ∃(zs:List (ae×Addr×Value)) (o:Obj) (es:Array DictEntry),zs.map (·.1)=cs/\zs.map (·.2.1)=as/\Vals xs (zs.map (·.2.2))/\s.heap.get? p=some o/\o.ExactDict/\o.data=.dict es ep /\
   s.heap.DictOfH (tupleKind (intKind X.prog X.w)) p zs/\es.toList=zs.map (entryOfKey (tupleKind (intKind X.prog X.w)))/\cs.length<=sizeLine/\(p==sysModules)=false:=by
 obtain⟨⟨zs,o,es,e1,e2,e3,ho,hx,hd,he,hn,hl,hs⟩,_⟩:=(show cK X.prog X.w H s.heap p (.ext (DO p cs as xs ep)) from I.cC p _ h)
 refine⟨zs,o,es,e1,e2,e3,ho,hx,hd,⟨o,es,ep,ho,hx,hd,he,λz hz=>?_,by rw[e1];exact hn⟩,he,hl,hs⟩;obtain⟨j,hj⟩:=List.mem_iff_getElem?.mp hz;exact rE I (k.tup j z.2.1 z.1 (by rw[<- e2,List.getElem?_map,hj];rfl) (by rw[<- e1,List.getElem?_map,hj];rfl))
theorem dict_cls(I:Inv X pins σ H s)(h:H p=some (.ext (DO p cs as xs ep))):s.TypeIs (.ref p) "dict" /\ ∀b,Value.ref p=.ref b->∃ob,s.heap.get? b=some ob/\ob.dict=none:=by
 obtain⟨⟨zs,o,es,e1,e2,e3,ho,hx,_⟩,_⟩:=(show cK X.prog X.w H s.heap p (.ext (DO p cs as xs ep)) from I.cC p _ h)
 exact⟨⟨o,ho,hx.1⟩,λb q=>by cases q;exact⟨o,ho,hx.2.1⟩⟩
theorem Gb{d:V}{r:Value}{Q:aA}(hu:A.units+1<cLine)(I:Inv X pins σ H s)(h:H p=some (.ext (DO p cs as xs ep)))(k:eZ (aW X.K H) as cs)(hb:aW X.K H b (c.map V.int))(rd:RelV d r)(hQ:∀w' s',Inv X pins σ H s'->RelV ((cD cs xs c).getD d) w'->Q w' s'):
  wpAny (model X.prog X.w) A (call (.builtin "dict.get") [.ref p,.ref b,r]) Q E s:=by
 obtain⟨zs,o,es,e1,e2,e3,ho,hx,hd,dd,_,hl,hs⟩:=rX I h k;refine call_meetsIn PySem.F.slot_dict_get dd.typeIs PySem.F.entry_dict_get (PySem.F.args_dict_get_3 _ _ _) (meetsH_dict_get_default (tupleKind (intKind X.prog X.w)) p b hs r) ⟨ab8 hu,c,zs,rE I hb,dd,hQ _ _ (I.tok _) ?_⟩;rw[lp,e1];have hg:=m9 (cs:=cs) e3 c;cases q:cD cs xs c with
 |none =>
  rw[q]at hg;rw[oV.none_of hg];exact rd
 |some v =>
  rw[q]at hg;obtain⟨u,OM,ru⟩:=oV.some_of hg;rw[OM];exact ru
theorem wm{v:V}{r:Value}{Q:Unit->Shared->Prop}(hu:A.units+1<cLine)(I:Inv X pins σ H s)(h:H p=some (.ext (DO p cs as xs ep)))(k:eZ (aW X.K H) as cs)(hb:aW X.K H b (c.map V.int))(rv:RelV v r)(iB:cs.length<sizeLine)
  (hQ:∀yc s',Inv X pins σ (upd H p (.ext (DO p (dg cs c) (uJ cs as c b) (cg cs xs c v) yc))) s'->Q () s') :
  wpAny (model X.prog X.w) A (setItem (.ref p) (.ref b) r) Q E s:=by
 obtain⟨zs,o,es,e1,e2,e3,ho,hx,hd,dd,_,hl,hs⟩:=rX I h k;have hz:zs.length<=sizeLine:=by rw[<- e1,List.length_map]at hl;exact hl
 refine wpAny_setItem_heap (hsz:=hz) (ab8 hu) (rE I hb) dd λh' V1 B5=>?_;obtain⟨q,Qk,yc,hq,h2,h3,h4,_,h5⟩:=V1;refine hQ yc _ (I.write (x:=p) (e:=p) (by rw[h];exact True.intro) (.inl rfl) (λb q hb z=>(B5.2 b hb).trans z) ⟨q,hq⟩ ⟨⟨storedH zs c b r,q,Qk,?_,?_,?_,hq,h2,h3,h4,?_,?_,hs⟩,⟨q,hq⟩,?_⟩)
 ·rw[lC,e1]
 ·rw[sY,e1,e2]
 ·rw[sX,e1];exact Ag e3 rv
 ·rw[<- e1,<- lC (zs:=zs) (c:=c) b r];exact h5
 ·unfold dg;split
  ·exact hl
  ·rw[List.length_append,List.length_singleton];left
 ·rintro h1 RP ⟨QT,o',es'',f1,f2,f3,f4,f5⟩ kk;exact⟨QT,o',es'',f1,f2,f3,kk _ f4,f5⟩
theorem EN:PE X (.Dict [] [] pos) (λ_ H Q=>∀p,H p=none->Q (.ref p) (upd H p (.ext (DO p [] [] [] 0)))):=λpins s σ H Q I h=>by
 have Vf:sysModules<s.heap.objs.size:=abt (by decide) (show mainGlobals<s.heap.objs.size from(I.mod.glob.keeps I.bk).lt);refine wpAny_Dict_empty ⟨.ref s.heap.objs.size,_,I.laid (a:=s.heap.objs.size) (o:=.ext (DO s.heap.objs.size [] [] [] 0)) (t':=s.toks) (λ_ _ q=>aae _ q) (aai _) ?_,rfl,h _ (I.cC.fresh (aai _))⟩;have hg:(s.heap.push { cls:=.type "dict",data:=.dict #[] }).get? s.heap.objs.size=some { cls:=.type "dict",data:=.dict #[] }:=aan _ rfl;refine⟨⟨[],_,#[],rfl,rfl,.nil,hg,⟨rfl,rfl,rfl⟩,rfl,rfl,abw,aaL _,beq_eq_false_iff_ne.mpr (abu (aal Vf))⟩,⟨_,hg⟩,?_⟩;rintro h1 RP ⟨QT,o',es'',f1,f2,f3,f4,f5⟩ kk;exact⟨QT,o',es'',f1,f2,f3,kk _ f4,f5⟩
end
theorem gZ{N:fc}{k:bo}{v:V}{d:D}(h:Rep T N k v d)(hf:aY anyF d=false):Rep T N' k' v d:=by
 have:=Rep.gen (T':=T) (N':=N') (g:=id) (P:=anyF) (C:=λ_ _=>True) (I:=λ_ _=>True) (λ_ _ h=>h) trivial (λ_ _ e=>e) (λ_ _ _ _ e _=>e) (λk k' p xs f _ hz _=>nomatch hz) h (k':=k') trivial hf;rw[eJ]at this;exact this
theorem nG{T:kJ}{N:fc}:∀{cs:aF} {k:bo} {n:Nat} {xs:af} {ds:aa} (_:aC T N k n xs ds) (c:ae),(cD cs xs c=none/\cD cs ds c=none)\/∃v d k',cD cs xs c=some v/\cD cs ds c=some d/\Rep T N k' v d/\d∈ds
 |[],_,_,_,_,_,_=>by cases ‹aC _ _ _ _ _ _› <;> exact .inl ⟨rfl,rfl⟩
 |c'::cs,_,_,_,_,r,c=>by
  cases r with
  |nil=>exact .inl ⟨rfl,rfl⟩
  | @cons _ _ v d vs ds h t =>
   by_cases e:c'=c
   ·exact .inr ⟨v,d,_,aaQ e,aaQ e,h,aah⟩
   ·have e1:∀{α:Type} (a:α) (l:List α),cD (c'::cs) (a::l) c=cD cs l c:=λa l=>acf e;rw[e1,e1];rcases nG (cs:=cs) t c with h|⟨v',d',k',h1,h2,h3,h4⟩
    ·exact .inl h
    ·exact .inr ⟨v',d',k',h1,h2,h3,aag _ h4⟩
theorem qk{p:Fl->Bool}:∀{ds:aa},aP p ds=false->∀d∈ds,aY p d=false
 |[],_,_,h=>nomatch h
 |d::ds,h,d',hd=>by
  have h:=z3 h;rcases List.mem_cons.mp hd with rfl|hd
  ·exact h.1
  ·exact qk h.2 d' hd
theorem tI{T:kJ}{N:fc}{c:ae}{v:V}{d:D}(hv:∀k,Rep T N k v d):∀{cs:aF} {k:bo} {n:Nat} {xs:af} {ds:aa},aC T N k n xs ds->aC T N k n (setC cs xs c v) (setC cs ds c d)
 |[],_,_,_,_,r=>by cases r<;>exact .nil
 |c'::cs,_,_,_,_,r=>by
  cases r with
  |nil=>exact .nil
  |cons h t =>
   refine .cons ?_ (tI hv t);show Rep _ _ _ (if c'=c then v else _) (if c'=c then d else _);by_cases e:c'=c
   ·rw[if_pos e,if_pos e];exact hv _
   ·rw[if_neg e,if_neg e];exact h
theorem p_{T:kJ}{N:fc}{v:V}{d:D}(hv:∀k,Rep T N k v d):∀{k:bo} {n:Nat} {xs:af} {ds:aa},aC T N k n xs ds->aC T N k n (xs++[v]) (ds++[d])
 |_,_,_,_,.nil=>.cons (hv _) .nil
 |_,_,_,_,.cons h t=>.cons h (p_ hv t)
theorem AY{N:fc}{c:ae}{v:V}{d:D}(hv:∀k,Rep T N k v d){cs:aF}{k:bo}{n:Nat}(r:aC T N k n xs ds):aC T N k n (cg cs xs c v) (cg cs ds c d):=by
 unfold cg;by_cases e:c∈cs
 ·rw[if_pos e,if_pos e];exact tI hv r
 ·rw[if_neg e,if_neg e];exact p_ hv r
theorem BQ{cs:aF}(k:eZ T as cs){b:Addr}{c:ae}(hb:T b (c.map V.int)):eZ T (uJ cs as c b) (dg cs c):=by
 unfold uJ dg;by_cases e:c∈cs
 ·rw[if_pos e,if_pos e];exact k
 ·rw[if_neg e,if_neg e];refine⟨by rw[List.length_append,List.length_append,k.len];rfl,λj a c' ha hc=>?_⟩;by_cases hj:j<as.length
  ·rw[List.getElem?_append_left hj]at ha;rw[List.getElem?_append_left (by rw[<- k.len];exact hj)]at hc;exact k.tup j a c' ha hc
  ·rw[List.getElem?_append_right (by left)]at ha;rw[List.getElem?_append_right (by rw[<- k.len];left),<- k.len]at hc;cases hz:j - as.length with
   |zero =>
    rw[hz]at ha hc;cases ha;cases hc;exact hb
   |succ m=>rw[hz]at ha;cases ha
theorem b_.newD{p:Addr}(hp:H p=none)(hl:H' p=some (.ext (DO p [] [] [] 0))):b_ K G R τ fv H H' (.ref p) (.cy .ow [] []):=by
 refine⟨λq=>if q=p then some []else none,λq k hq=>?_,.cy (ep:=0) (as:=[]) (xs:=[]) ⟨hl,by simp⟩ ⟨rfl,λj a c h=>by simp at h⟩ .nil⟩;by_cases vT:q=p
 ·subst vT;exact hp
 ·simp[vT]at hq
noncomputable def CK(xs:aa):O D:=match xs with
 |[]=>ok (.cy .ow [] [])
 |_::_=>none
noncomputable def sg(_:Scope)(_:aj)(e:Expr):Option (av):=match e with
 |.Dict [] [] _=>some []
 |_=>none
theorem F8{n:Nat}(hΦ:Φ n=CK){sc:Scope}{bl:aj}{k:Nat}(L:PX X sc bl k){e:Expr}(he:sg sc bl e=some args)(hs:lT X F Φ cs args):PE X e (tD X F Φ (.bU n cs))/\PT X e (fZ X F Φ (.bU n cs)):=by
 have h1:∃pos,e=.Dict [] [] pos/\args=[]:=by
  unfold sg at he;split at he
  ·cases he;exact⟨_,rfl,rfl⟩
  ·cases he
 obtain⟨pos,rfl,rfl⟩:=h1;cases cs with
 |cons _ _=>exact hs.elim
 |nil =>
  have this:PE X (.Dict [] [] pos) (tD X F Φ (.bU n [])):=by
   refine PE.imp (EN (X:=X) (pos:=pos)) λσ H Q hq p hp=>?_;obtain⟨R,τ,ρ,d,Si,ev,hq⟩:=hq;have ev:Φ n []=ok d:=ev;rw[hΦ]at ev;cases ev;exact hq _ _ (aK.upd hp) (b_.newD hp aZ)
  exact⟨this,cG this λ_=>rfl⟩
noncomputable def three{α:Type}:List α->Option (α×α×α)
 |[a,b,c]=>some (a,b,c)
 |_=>none
theorem sU{α:Type}{l:List α}{z:α×α×α}(h:three l=some z):l=[z.1,z.2.1,z.2.2]:=by
 rcases l with _|⟨a,_|⟨b,_|⟨c,_|⟨d,l⟩⟩⟩⟩<;>cases h;rfl
noncomputable def gJ:D->Option (aF×aa)
 |.cy _ cs vs=>some (cs,vs)
 |_=>none
def keyOf:D->Option (ae)
 |.tup ks=>intsOf ks
 |_=>none
theorem kB{d:D}{z:aF×aa}(h:gJ d=some z):∃f,d=.cy f z.1 z.2:=by
 cases d<;>first | (cases h;done) | (cases h;exact⟨_,rfl⟩)
theorem iS{d:D}{c:ae}(h:keyOf d=some c):d=.tup (c.map D.int):=by
 cases d<;>first | (cases h;done)|skip
 rw[dt (show intsOf _=some c from h)]
def CO(xs:aa):O D:=match two xs with
 |some z=>match gJ z.1 with
  |some d=>match keyOf z.2 with
   |some c=>match cD d.1 d.2 c with
    |some v=>if aY anyF v=false then ok v else none
    |none=>none
   |none=>none
  |none=>none
 |none=>none
theorem F_{xs:aa}{r:D}(h:CO xs=ok r):∃f cs vs c,xs=[.cy f cs vs,.tup (c.map D.int)]/\cD cs vs c=some r/\aY anyF r=false:=by
 unfold CO at h;cases h1:two xs with
 |none=>rw[h1]at h;cases h
 |some z =>
  rw[h1]at h;have h:(match gJ z.1 with|some d=>(match keyOf z.2 with|some c=>(match cD d.1 d.2 c with|some v=>if aY anyF v=false then ok v else none|none=>none)|none=>none)|none=>none)=ok r:=h;cases h2:gJ z.1 with
  |none=>rw[h2]at h;cases h
  |some d =>
   rw[h2]at h;have h:(match keyOf z.2 with|some c=>(match cD d.1 d.2 c with|some v=>if aY anyF v=false then ok v else none|none=>none)|none=>none)=ok r:=h;cases h3:keyOf z.2 with
   |none=>rw[h3]at h;cases h
   |some c =>
    rw[h3]at h;have h:(match cD d.1 d.2 c with|some v=>if aY anyF v=false then ok v else none|none=>none)=ok r:=h;cases h4:cD d.1 d.2 c with
    |none=>rw[h4]at h;cases h
    |some v =>
     rw[h4]at h;obtain⟨hf,rfl⟩:=lI (show(if aY anyF v=false then ok v else none)=ok r from h);obtain⟨f,e1⟩:=kB h2;exact⟨f,d.1,d.2,c,by rw[fD h1,e1,iS h3],h4,hf⟩
def Ts(K:ao):R2:=λx y H Q=>∃p b cs as xs ep c v,x=.ref p/\y=.ref b/\H p=some (.ext (DO p cs as xs ep))/\eZ (aW K H) as cs/\aW K H b (c.map V.int)/\cD cs xs c=some v/\Q v H
theorem Fs(hu:X.A.units+1<cLine):HD X (Ts X.K):=by
 intro value slice pins s σ H x y v u Q I rx ry h hs;obtain⟨p,b,cs,as,xs,ep,c,w,rfl,rfl,hp,hk,hb,hg,q⟩:=h;cases rx;cases ry;obtain⟨zs,o,es,e1,e2,e3,ho,hx,hd,dd,_,hl,FC⟩:=rX I hp hk;have RI:=m9 (cs:=cs) e3 c;rw[hg]at RI;obtain⟨u,OM,ru⟩:=oV.some_of RI;have:(atKey zs c).map (·.2)=some u:=by rw[lp,e1];exact OM
 obtain⟨q',Zx,rfl⟩:=Option.map_eq_some_iff.mp this;exact abB (x:=q'.2) dd.typeIs PySem.F.slot_dict_getitem.lookup
  (wpAny_getItem_heap (Q:=λr s'=>r=q'.2/\EP X pins σ Q r s') (ab8 hu) (rE I hb) dd Zx ⟨rfl,w,H,I.tok _,ru,q⟩) hs
def wu(_:Scope)(_:aj)(e:Expr):Option (av):=match sQ e with
 |some z=>some [z.1,z.2]
 |none=>none
theorem Lv{n:Nat}(hΦ:Φ n=CO){sc:Scope}{bl:aj}{k:Nat}(L:PX X sc bl k){e:Expr}(he:wu sc bl e=some args)(hs:lT X F Φ cs args):PE X e (tD X F Φ (.bU n cs))/\PT X e (fZ X F Φ (.bU n cs)):=by
 unfold wu at he;cases h1:sQ e with
 |none=>rw[h1]at he;cases he
 |some z =>
  rw[h1]at he;cases he;obtain⟨pos,rfl⟩:=gU h1;obtain⟨⟨c1,c2,rfl,p1,p2⟩,_⟩:=nL hs;have this:PE X (.Subscript z.1 z.2 pos) (tD X F Φ (.bU n [c1,c2])):=by
   refine PE.imp (GY (Fs (B4 L.room)) p1 p2 hs.2.2.2.2.2.1) λσ H Q hq=>?_;obtain⟨R,τ,ρ,d,Si,ev,hq⟩:=hq;obtain⟨xs,b7,ev⟩:=aB ev;rw[hΦ]at ev;obtain⟨f,cs,vs,c,rfl,hg,hf⟩:=F_ ev;obtain⟨x,ex,b7⟩:=aB b7;obtain⟨ys,jN,b7⟩:=aB b7;obtain⟨y,ey,VF⟩:=aB jN;cases VF;cases b7;refine tD.intro Si ex λv H1 e1 r1=>tD.intro (Si.go e1) ey λu H2 e2 r2=>?_;obtain⟨τ1,f1,q1⟩:=r1;obtain⟨τ2,f2,q2⟩:=r2;cases q1 with
   |cy hn hk hr=>cases q2 with
    |tup ht OX =>
     cases OX.ofInts;rcases nG hr c with ⟨_,hz⟩|⟨w,d',k',g1,g2,g3,_⟩
     ·rw[hg]at hz;cases hz
     ·rw[hg]at g2;cases g2;refine⟨_,_,_,_,_,_,c,w,rfl,rfl,e2 _ _ hn.dat,hk.imp λ_ _ h=>aW.same e2 h,ht,g1,hq w H2 (e1.trans e2) ⟨λ_=>none,λ_ _ h=>by simp at h,?_⟩⟩;exact(gZ (N':=nd X.K R (jD (gP X F) τ (iJ (.bU n [c1,c2]))) (λ_=>none) H1) (k':=[]) g3 hf).imp (λ_ _ h=>aW.same e2 h) λ_ _ _ _ h=>nd.same e2 h
  exact⟨this,cG this λ_=>rfl⟩
def uv(xs:aa):O D:=match three xs with
 |some z=>match gJ z.1 with
  |some d=>match keyOf z.2.1 with
   |some c=>if aP anyF d.2=false/\aY anyF z.2.2=false then ok ((cD d.1 d.2 c).getD z.2.2)else none
   |none=>none
  |none=>none
 |none=>none
theorem CQ{xs:aa}{r:D}(h:uv xs=ok r):∃f cs vs c x,xs=[.cy f cs vs,.tup (c.map D.int),x]/\aP anyF vs=false/\aY anyF x=false/\r=(cD cs vs c).getD x:=by
 unfold uv at h;cases h1:three xs with
 |none=>rw[h1]at h;cases h
 |some z =>
  rw[h1]at h;have h:(match gJ z.1 with|some d=>(match keyOf z.2.1 with|some c=>if aP anyF d.2=false/\aY anyF z.2.2=false then ok ((cD d.1 d.2 c).getD z.2.2)else none|none=>none)|none=>none)=ok r:=h;cases h2:gJ z.1 with
  |none=>rw[h2]at h;cases h
  |some d =>
   rw[h2]at h;have h:(match keyOf z.2.1 with|some c=>if aP anyF d.2=false/\aY anyF z.2.2=false then ok ((cD d.1 d.2 c).getD z.2.2)else none|none=>none)=ok r:=h;cases h3:keyOf z.2.1 with
   |none=>rw[h3]at h;cases h
   |some c =>
    rw[h3]at h;obtain⟨⟨hf,hx⟩,rfl⟩:=lI (show(if aP anyF d.2=false/\aY anyF z.2.2=false then ok ((cD d.1 d.2 c).getD z.2.2)else none)=ok r from h);obtain⟨f,e1⟩:=kB h2;exact⟨f,d.1,d.2,c,z.2.2,by rw[sU h1,e1,iS h3],hf,hx,rfl⟩
def si(_:Scope)(_:aj)(e:Expr):Option (av):=(GG ("get" : Str) (.Expr e ⟨0,0,0,0⟩)).bind λz=>(two z.2).bind λy=>if isNm z.1=true then some [z.1,y.1,y.2]else none
theorem wx{sc:Scope}{bl:aj}{e:Expr}(h:si sc bl e=some args):∃x p p1 p2 a b,e=.Call (.Attribute (.Name x p) ("get" : Str) p1) [a,b] [] p2/\args=[.Name x p,a,b]/\(p1.endLine==p2.line)=true:=by
 obtain⟨⟨o,as⟩,h1,h⟩:=bT h;obtain⟨⟨a,b⟩,h3,h⟩:=bT h;obtain⟨hn,h⟩:=gT h;cases h;obtain⟨x,p,rfl⟩:=mE hn;obtain rfl:=fD h3;obtain⟨p1,p2,pos,e1,hl⟩:=Ai h1;cases e1;exact⟨x,p,p1,p2,a,b,rfl,rfl,hl⟩
theorem y2{x:Str}{p:Pos}{a b:Expr}{td:TE}(hu:X.A.units+1<cLine)(ho:PE X (.Name x p) td)(ha:PA X [a,b] ta)(s1:∀es,starEach (a::es) X.env=(false,eval a X.env)::starEach es X.env)(s2:∀es,starEach (b::es) X.env=(false,eval b X.env)::starEach es X.env)(hl:(p1.endLine==p2.line)=true):
  PE X (.Call (.Attribute (.Name x p) ("get" : Str) p1) [a,b] [] p2) (λσ H Q=>td σ H λv H1=>∃q cs as xs ep,v=.ref q/\H1 q=some (.ext (DO q cs as xs ep))/\ta σ H1 λys H2=>∃k c z,ys=[.ref k,z]/\H2 q=some (.ext (DO q cs as xs ep))/\eZ (aW X.K H2) as cs/\aW X.K H2 k (c.map V.int)/\Q ((cD cs xs c).getD z) H2):=by
 intro pins s σ H Q I h;refine wpAny_Call_method rfl (by rw[s1,s2];rfl) hl PySem.F.plainAttrs_dict PySem.F.slot_dict_get PySem.F.type_dict_get (cN (ho pins s σ H _ I h) λu YN bF=>?_);obtain⟨v,H1,I1,rx,q,cs,as,xs,ep,ex,hd,q1⟩:=bF;subst ex;obtain rfl:u=Value.ref q:=rx;obtain⟨t1,t2⟩:=dict_cls I1 hd;refine⟨t1,t2,?_⟩;have hA:=ha p2 pins YN σ H1 _ I1 q1;rw[s1]at hA ⊢;refine abC (by show(false||(backTo p2 (starEach [b] X.env)).any (·.1))=false;rw[s2];rfl) (abO ?_);refine cN hA λus s3 bF=>?_;obtain⟨ys,H2,I2,r2,k,c,z,ey,hd2,hk,hb,q2⟩:=bF;subst ey;obtain⟨w1,w2,rfl,YR,YQ⟩:=vals2 r2;cases YR;exact Gb hu I2 hd2 hk hb YQ λw' s4 I4 lE=>⟨_,H2,I4,lE,q2⟩
theorem Ga{n:Nat}(hΦ:Φ n=uv){sc:Scope}{bl:aj}{k:Nat}(L:PX X sc bl k){e:Expr}(he:si sc bl e=some args)(hs:lT X F Φ cs args):PE X e (tD X F Φ (.bU n cs))/\PT X e (fZ X F Φ (.bU n cs)):=by
 obtain⟨x,p,p1,p2,a,b,rfl,rfl,hl⟩:=wx he;cases cs with
 |nil=>exact hs.elim
 |cons c0 cs =>
  obtain⟨h0,_,_,L_⟩:=hs;obtain⟨⟨c1,c2,rfl,_,_⟩,pa,s1,s2⟩:=nL L_;have this:PE X (.Call (.Attribute (.Name x p) ("get" : Str) p1) [a,b] [] p2) (tD X F Φ (.bU n [c0,c1,c2])):=by
   refine PE.imp (y2 (B4 L.room) h0 pa s1 s2 hl) λσ H Q hq=>?_;obtain⟨R,τ,ρ,d,Si,ev,hq⟩:=hq;obtain⟨xs,b7,ev⟩:=aB ev;rw[hΦ]at ev;obtain⟨f,cs,vs,c,y,rfl,hf,hy,rfl⟩:=CQ ev;obtain⟨x0,ex,b7⟩:=aB b7;obtain⟨ys,jN,b7⟩:=aB b7;cases b7;refine tD.intro Si ex λv H1 e1 r1=>?_;obtain⟨τ1,f1,q1⟩:=r1;cases q1 with
   |cy hn hk hr =>
    refine⟨_,_,_,_,_,rfl,hn.dat,R,τ,ρ,_,Si.go e1,jN,λus H2 e2 r2=>?_⟩;obtain⟨τ2,f2,q2⟩:=r2;obtain⟨u1,u2,rfl,Th,Tf⟩:=q2.two;obtain⟨_,_,rfl,ht,OX⟩:=Th.yD;cases OX.ofInts;refine⟨_,c,u2,rfl,e2 _ _ hn.dat,hk.imp λ_ _ h=>aW.same e2 h,ht,?_⟩;refine hq _ H2 (e1.trans e2) ⟨λ_=>none,λ_ _ h=>by simp at h,?_⟩;rcases nG hr c with ⟨g1,g2⟩|⟨w,d',k',g1,g2,g3,g4⟩
    ·rw[g1,g2];exact gZ (T:=aW X.K H2) Tf hy
    ·rw[g1,g2];exact(gZ (N':=nd X.K R (jD (gP X F) τ (iJ (.bU n [c0,c1,c2]))) (λ_=>none) H1) (k':=[]) g3 (qk hf _ g4)).imp (λ_ _ h=>aW.same e2 h) λ_ _ _ _ h=>nd.same e2 h
  exact⟨this,cG this λ_=>rfl⟩
def uu(xs:aa):O D:=match three xs with
 |some z=>match z.1 with
  |.cy f cs vs=>match keyOf z.2.2 with
   |some c=>if dW f=true/\aY anyF z.2.1=false/\cs.length<eE then ok (.cy .ow (dg cs c) (cg cs vs c z.2.1))else none
   |none=>none
  |_=>none
 |none=>none
theorem ur{d:D}{xs:aa}{r:D}(h:uu (d::xs)=ok r):∃cs vs c x,d=.cy .ow cs vs/\xs=[x,.tup (c.map D.int)]/\aY anyF x=false/\cs.length<eE/\r=.cy .ow (dg cs c) (cg cs vs c x):=by
 unfold uu at h;cases h1:three (d::xs)with
 |none=>rw[h1]at h;cases h
 |some z =>
  rw[h1]at h;have e0:=sU h1;obtain⟨d',x,y⟩:=z;obtain⟨rfl,rfl⟩:d=d'/\xs=[x,y]:=abg e0;cases d<;>first | (cases h;done)|skip
  rename_i f cs vs;have h:(match keyOf y with|some c=>if dW f=true/\aY anyF x=false/\cs.length<eE then ok (D.cy .ow (dg cs c) (cg cs vs c x))else none|none=>none)=ok r:=h;cases h3:keyOf y with
  |none=>rw[h3]at h;cases h
  |some c =>
   rw[h3]at h;obtain⟨⟨hf,hx,hl⟩,rfl⟩:=lI (show(if dW f=true/\aY anyF x=false/\cs.length<eE then ok (D.cy .ow (dg cs c) (cg cs vs c x))else none)=ok r from h);cases f<;>first | (cases hf;done)|exact⟨cs,vs,c,x,rfl,by rw[iS h3],hx,hl,rfl⟩
def sf(_:Scope)(_:aj)(st:Stmt):Option (Expr×av):=(uX st).bind λz=>(one z.1).bind λt=>(sQ t).bind λy=>some (y.1,[z.2,y.2])
theorem wt{sc:Scope}{bl:aj}(h:sf sc bl st=some (o,args)):∃v i pos' pos,st=.Assign [.Subscript o i pos'] v pos/\args=[v,i]:=by
 obtain⟨⟨ts,v⟩,h1,h⟩:=bT h;obtain⟨t,h3,h⟩:=bT h;obtain⟨⟨o',i⟩,h5,h⟩:=bT h;cases h;obtain rfl:=bI h3;obtain⟨pos,rfl⟩:=gW h1;obtain⟨pos',rfl⟩:=gU h5;exact⟨v,i,pos',pos,rfl,rfl⟩
mutual
theorem any_map(g:Fl->Fl):∀d:D,aY anyF (aw g d)=aY anyF d
 |.bu=>rfl
 |.bl _=>rfl
 |.int _=>rfl
 |.str _=>rfl
 |.tup ds=>uI g ds
 |.lst _ ds=>rfl
 |.cy _ _ ds=>rfl
theorem uI(g:Fl->Fl):∀ds:aa,aP anyF (au g ds)=aP anyF ds
 |[]=>rfl
 |d::ds=>by show(aY _ _||aP _ _)=(aY _ d||aP _ ds);rw[any_map g d,uI g ds]
end
mutual
theorem wB:∀d:D,aY anyF d=false->aY bN d=false
 |.bu,_=>rfl
 |.bl _,_=>rfl
 |.int _,_=>rfl
 |.str _,_=>rfl
 |.tup ds,h=>yx ds h
 |.lst _ ds,h=>nomatch h
 |.cy _ _ ds,h=>nomatch h
theorem yx:∀ds:aa,aP anyF ds=false->aP bN ds=false
 |[],_=>rfl
 |d::ds,h=>by
  have h:=z3 h;show(aY _ d||aP _ ds)=false;rw[wB d h.1,yx ds h.2];rfl
end
theorem any_ints:∀c:ae,aP anyF (c.map D.int)=false
 |[]=>rfl
 |i::c=>any_ints c
theorem Ii{i:Expr}{l:Nat}:swapsWith value (some (.Subscript o i pos')) l env=pure false:=by
 unfold swapsWith;cases value<;>rfl
theorem A8{x:Str}{p0:Pos}{i:Expr}{tv to ti:TE}(hu:X.A.units+1<cLine)(hv:PE X value tv)(ho:PE X (.Name x p0) to)(hi:PE X i ti):
  PS X (.Assign [.Subscript (.Name x p0) i pos'] value pos) (λD σ H=>tv σ H λv H1=>to σ H1 λo H2=>ti σ H2 λy H3=>∃q b cs as xs ep c,o=.ref q/\y=.ref b/\H3 q=some (.ext (DO q cs as xs ep))/\eZ (aW X.K H3) as cs/\aW X.K H3 b (c.map V.int)/\cs.length<sizeLine /\
   ∀yc,D.nx σ (upd H3 q (.ext (DO q (dg cs c) (uJ cs as c b) (cg cs xs c v) yc)))):=by
 intro pins s σ H D I h;refine wpAny_Assign_Subscript (cN (hv pins s σ H _ I h) λr s1 ⟨v,H1,I1,rv,q1⟩=>cN (ho pins s1 σ H1 _ I1 q1) λu s2 ⟨o,H2,I2,rx,q2⟩=>cN (hi pins s2 σ H2 _ I2 q2) λiv s3 bF=>?_) Ii;obtain⟨y,H3,I3,ry,q,b,cs,as,xs,ep,c,eo,ey,hd,hk,hb,hl,q3⟩:=bF;subst eo ey;obtain rfl:u=Value.ref q:=rx;obtain rfl:iv=Value.ref b:=ry;exact wm hu I3 hd hk hb rv hl λyc s4 I4=>⟨σ,_,I4,q3 yc⟩
theorem SI.NP{i:Nat}{cs:aF}(Si:SI X F R τ ρ σ H)(hi:ρ[i]?=some (some (.cy .ow cs ds))):
  ∃p as xs ep,σ[i]?=some (some (.ref p))/\H p=some (.ext (DO p cs as xs ep))/\τ p=some [i]/\eZ (aW X.K H) as cs/\aC (aW X.K H) (nd X.K R (λ_=>False) τ H) [i] 0 xs ds:=by
 obtain⟨v,hv,rp⟩:=Si.rep i _ hi;cases rp with
 |cy h k r=>exact⟨_,_,_,_,hv,h.1,h.2,k,r⟩
theorem F7{n:Nat}(hΦ:Φ n=uu){sc:Scope}{bl:aj}{k:Nat}(L:PX X sc bl k)(hN:X.N.Nodup)(xQ:∀x,X.fn x=true){x:Str}(he:sf sc bl st=some (.Name x pos,args))
  {i:Nat} (hi:X.N[i]?=some x) (hl:L2.Loc X.env.scope x) (pe:PE X (.Name x pos) (vg i)) (hs:lT X F Φ cs args):PS X st (o4 X F Φ (.mut n i cs)):=by
 obtain⟨v,ix,p1,p2,rfl,rfl⟩:=wt he;obtain⟨⟨c1,c2,rfl,h1,h2⟩,_⟩:=nL hs;refine PS.imp (A8 (B4 L.room) h1 pe h2) λD σ H hq=>?_;obtain⟨R,τ,ρ,r,Si,ev,hq⟩:=hq;obtain⟨xs,b7,ev⟩:=aB ev;obtain⟨y,ey,b7⟩:=aB b7;obtain⟨ys,jN,b7⟩:=aB b7;cases b7;obtain⟨kd,ek,VF⟩:=aB jN;cases VF;have key:∃cs vs c,kd=.tup (c.map DI.D.int)/\ρ[i]?=some (some (.cy .ow cs vs))/\aY anyF y=false/\cs.length<eE/\r=(.nx,ρ.set i (some (.cy .ow (dg cs c) (cg cs vs c y)))):=by
  cases hz:aP bN [y,kd]with
  |true =>
   obtain⟨d,d',h⟩:=JC ev hz;rw[hΦ]at h;obtain⟨cs,vs,c,x',_,e1,e2,_⟩:=ur h;have e3:aw aL y=x'/\aw aL kd=.tup (c.map DI.D.int):=by
    have:=abg e1;exact⟨this.1,(abg this.2).1⟩
   have a1:aY bN y=false:=wB y (by rw[<- any_map aL y,e3.1];exact e2);have a2:aY bN kd=false:=wB kd (by rw[<- any_map aL kd,e3.2];exact any_ints c);have:aP bN [y,kd]=false:=by show(aY bN y||(aY bN kd||false))=false;rw[a1,a2];rfl
   rw[this]at hz;cases hz
  |false =>
   obtain⟨d,d',h,h',rfl⟩:=Fc ev hz;rw[hΦ]at h';obtain⟨cs,vs,c,x',rfl,e1,e2,e3,rfl⟩:=ur h';cases e1;exact⟨cs,vs,c,rfl,h,e2,e3,rfl⟩
 obtain⟨cs,vs,c,rfl,ho,hf,hc,rfl⟩:=key;obtain⟨p,as,zs,ep,hv,hd,ht,hk,rs⟩:=Si.NP ho;refine tD.intro Si ey λu H1 e1 ru=>⟨.ref p,hv,tD.intro (Si.go e1) ek λw H2 e2 lE=>?_⟩
 obtain⟨τ1,f1,q1⟩:=ru;obtain⟨τ2,f2,q2⟩:=lE;cases q2 with
 | @tup _ b _ _ hb OX =>
  cases OX.ofInts;have es:=e1.trans e2;have wC:=Si.go es;have hd2:=es _ _ hd;have n_:eE=1000000:=rfl;have hz:sizeLine=16777216:=aa6;refine⟨p,b,cs,as,zs,ep,c,rfl,rfl,hd2,hk.imp λ_ _ h=>aW.same es h,hb,by left,λyc=>?_⟩;have hn:fi H2 p (.d cs as zs ep):=hd2;have rk:gO X R τ H2 u y:=nH ((gZ (N':=nd X.K R (λ_=>False) τ H1) (k':=[]) q1 hf).imp (λ_ _ h=>aW.same e2 h) λ_ _ _ _ h=>nd.same e2 h) hf;obtain⟨p',QK,QT,aaz,Xg,hU,ht',RF,iw⟩:=wC.NP ho;rw[hv]at Xg;cases Xg;rw[hd2]at hU;obtain⟨τ3,LJ⟩:=wC.NF (m:=0) (n':=.d (dg cs c) (uJ cs as c b) (cg cs zs c u) yc) (o:=.ext (DO p (dg cs c) (uJ cs as c b) (cg cs zs c u) yc)) (d1:=.cy .ow (dg cs c) (cg cs vs c y)) (xs':=cg cs zs c u) (ds':=cg cs vs c y) ho hv hn ht (rs.imp (λ_ _ h=>aW.same es h) λ_ _ _ _ h=>nd.same es h) rk aZ
   (λhN r=>.cy hN (BQ ((hk.imp λ_ _ h=>aW.same es h).imp λ_ _ h=>AA hn h) (AA hn hb)) r) (λrs r=>AY (λk=>gZ r hf) rs)
  exact hq σ _ R τ3 LJ (vM wC es (λ_ h=>h) hn ht)
end DI
end
section
namespace DI
open PySem PySem.Spec PyProof.Rows L2 PySem.W
noncomputable def cZ{α:Type}(lt:Nat->Nat->Bool):KasT α->α
 |.ret a=>a
 |.ask i j k=>cZ lt (k (lt i j))
theorem gH{α β:Type}(lt:Nat->Nat->Bool)(f:α->KasT β):∀t:KasT α,cZ lt (t.bind f)=cZ lt (f (cZ lt t))
 |.ret a=>rfl
 |.ask i j k=>gH lt f (k (lt i j))
section
noncomputable def ju{α:Type}(n:Nat)(lt:Nat->Nat->Bool):KasT α->Prop
 |.ret _=>True
 |.ask i j k=>i<n/\j<n/\ju n lt (k (lt i j))
end
theorem yu{α:Type}{cmp:Nat->Nat->(Bool->Shared->Prop)->Shared->Prop}{lt:Nat->Nat->Bool}{s:Shared}{n:Nat}(hc:∀i j C,i<n->j<n->C (lt i j) s->cmp i j C s){Q:α->Shared->Prop}:
  ∀(t:KasT α),ju n lt t->Q (cZ lt t) s->t.kasWp cmp Q s
 |.ret a,_,h=>h
 |.ask i j k,⟨h1,h2,h3⟩,h=>hc i j _ h1 h2 (yu hc (k (lt i j)) h3 h)
theorem fA{α β:Type}{lt:Nat->Nat->Bool}{n:Nat}{f:α->KasT β}:∀{t:KasT α},ju n lt t->ju n lt (f (cZ lt t))->ju n lt (t.bind f)
 |.ret _,_,h=>h
 |.ask i j k,⟨h1,h2,h3⟩,h=>⟨h1,h2,fA h3 h⟩
structure Ord(lt:Nat->Nat->Bool)(n:Nat):Prop where
 tr:∀a b c,a<n->b<n->c<n->lt a b=true->lt b c=true->lt a c=true
 as:∀a b,a<n->b<n->lt a b=true->lt b a=false
 Q0:∀a b,a<n->b<n->a≠b->lt a b=true\/lt b a=true
structure Arr(p:Array Nat)(n:Nat):Prop where
 sz:p.size=n
 pm:p.toList.Perm (List.range n)
section
variable {lt:Nat->Nat->Bool}{n:Nat}{p:Array Nat}
theorem Arr.bd(h:Arr p n){i:Nat}(hi:i<n):p.getD i 0<n:=by
 have iL:i<p.size:=by rw[h.sz];exact hi
 have:p.getD i 0=p[i]:=by simp[Array.getD,iL]
 rw[this];have hm:p[i]∈p.toList:=Array.getElem_mem_toList iL;exact List.mem_range.mp (h.pm.mem_iff.mp hm)
theorem Arr.inj(h:Arr p n){i j:Nat}(hi:i<n)(hj:j<n)(e:p.getD i 0=p.getD j 0):i=j:=by
 have iL:i<p.toList.length:=by rw[Array.length_toList,h.sz];exact hi
 have Pb:j<p.toList.length:=by rw[Array.length_toList,h.sz];exact hj
 have nd:p.toList.Nodup:=h.pm.nodup_iff.mpr List.nodup_range;have e1:p.getD i 0=p.toList[i]:=by simp[Array.getD,show i<p.size by rw[h.sz];exact hi]
 have e2:p.getD j 0=p.toList[j]:=by simp[Array.getD,show j<p.size by rw[h.sz];exact hj]
 rw[e1,e2]at e;exact(abG nd).mp e
def Up(lt:Nat->Nat->Bool)(p:Array Nat)(k:Nat):Prop:=∀i j,i<j->j<k->lt (p.getD i 0) (p.getD j 0)=true
def Dn(lt:Nat->Nat->Bool)(p:Array Nat)(k:Nat):Prop:=∀i j,i<j->j<k->lt (p.getD j 0) (p.getD i 0)=true
theorem Up.snoc(O:Ord lt n)(h:Arr p n){k:Nat}(hk:k<n)(h1:1<=k)(u:Up lt p k)(hl:lt (p.getD (k - 1) 0) (p.getD k 0)=true):Up lt p (k+1):=λi j jy hj=>by
 by_cases e:j=k
 ·subst e;by_cases e2:i=j - 1
  ·subst e2;exact hl
  ·exact O.tr _ _ _ (h.bd (by left)) (h.bd (by left)) (h.bd hk) (u i (j - 1) (by left) (by left)) hl
 ·exact u i j jy (by left)
theorem Dn.snoc(O:Ord lt n)(h:Arr p n){k:Nat}(hk:k<n)(h1:1<=k)(u:Dn lt p k)(hl:lt (p.getD k 0) (p.getD (k - 1) 0)=true):Dn lt p (k+1):=λi j jy hj=>by
 by_cases e:j=k
 ·subst e;by_cases e2:i=j - 1
  ·subst e2;exact hl
  ·exact O.tr _ _ _ (h.bd hk) (h.bd (by left)) (h.bd (by left)) hl (u i (j - 1) (by left) (by left))
 ·exact u i j jy (by left)
theorem sC(O:Ord lt n)(h:Arr p n):∀(f k:Nat),1<=k->k+f<=n->Up lt p k->ju n lt (kas_asc p f k)/\k<=cZ lt (kas_asc p f k)/\cZ lt (kas_asc p f k)<=k+f/\Up lt p (cZ lt (kas_asc p f k))
 |0,k,_,_,u=>⟨trivial,aai _,aai _,u⟩
 |f+1,k,h1,hf,u=>by
  have a1:p.getD k 0<n:=h.bd (by left);have a2:p.getD (k - 1) 0<n:=h.bd (by left);cases c:lt (p.getD k 0) (p.getD (k - 1) 0)with
  |true =>
   have e:cZ lt (kas_asc p (f+1) k)=k:=by
    show cZ lt (if lt (p.getD k 0) (p.getD (k - 1) 0)=true then .ret k else kas_asc p f (k+1))=k;rw[c];rfl
   refine⟨⟨a1,a2,?_⟩,by rw[e];exact aai _,by rw[e];left,by rw[e];exact u⟩;show ju n lt (if lt (p.getD k 0) (p.getD (k - 1) 0)=true then .ret k else kas_asc p f (k+1));rw[c];trivial
  |false =>
   have e:cZ lt (kas_asc p (f+1) k)=cZ lt (kas_asc p f (k+1)):=by
    show cZ lt (if lt (p.getD k 0) (p.getD (k - 1) 0)=true then .ret k else kas_asc p f (k+1))=_;rw[c];rfl
   have hl:lt (p.getD (k - 1) 0) (p.getD k 0)=true:=by
    rcases O.Q0 _ _ a2 a1 (λz=>absurd (h.inj (by left) (by left) z) (by left))with z|z
    ·exact z
    ·rw[c]at z;cases z
   obtain⟨b1,b2,b3,b4⟩:=sC O h f (k+1) (by left) (by left) (u.snoc O h (by left) h1 hl);refine⟨⟨a1,a2,?_⟩,by rw[e];left,by rw[e];left,by rw[e];exact b4⟩;show ju n lt (if lt (p.getD k 0) (p.getD (k - 1) 0)=true then .ret k else kas_asc p f (k+1));rw[c];exact b1
theorem yh(O:Ord lt n)(h:Arr p n):∀(f k:Nat),1<=k->k+f<=n->Dn lt p k->ju n lt (kas_desc f p k 0)/\∃m,cZ lt (kas_desc f p k 0)=(p,m,0)/\k<=m/\m<=k+f/\Dn lt p m
 |0,k,_,_,u=>⟨trivial,k,rfl,aai _,aai _,u⟩
 |f+1,k,h1,hf,u=>by
  have a1:p.getD k 0<n:=h.bd (by left);have a2:p.getD (k - 1) 0<n:=h.bd (by left);cases c:lt (p.getD k 0) (p.getD (k - 1) 0)with
  |true =>
   obtain⟨b1,m,b2,b3,b4,b5⟩:=yh O h f (k+1) (by left) (by left) (u.snoc O h (by left) h1 c);have e:kas_desc (f+1) p k 0=.ask (p.getD k 0) (p.getD (k - 1) 0) λc=>if c=true then(if (0:Nat)>0 then kas_desc f (kas_rev p (k - (0+1)) k) (k+1) 0 else kas_desc f p (k+1) 0)else .ask (p.getD (k - 1) 0) (p.getD k 0) λd=>if d=true then .ret (p,k,0)else kas_desc f p (k+1) (0+1):=rfl
   rw[e];refine⟨⟨a1,a2,?_⟩,m,?_,by left,by left,b5⟩
   ·rw[c];exact b1
   ·show cZ lt (if lt (p.getD k 0) (p.getD (k - 1) 0)=true then _ else _)=_;rw[c];exact b2
  |false =>
   have hl:lt (p.getD (k - 1) 0) (p.getD k 0)=true:=by
    rcases O.Q0 _ _ a2 a1 (λz=>absurd (h.inj (by left) (by left) z) (by left))with z|z
    ·exact z
    ·rw[c]at z;cases z
   have e:kas_desc (f+1) p k 0=.ask (p.getD k 0) (p.getD (k - 1) 0) λc=>if c=true then(if (0:Nat)>0 then kas_desc f (kas_rev p (k - (0+1)) k) (k+1) 0 else kas_desc f p (k+1) 0)else .ask (p.getD (k - 1) 0) (p.getD k 0) λd=>if d=true then .ret (p,k,0)else kas_desc f p (k+1) (0+1):=rfl
   rw[e];refine⟨⟨a1,a2,?_⟩,k,?_,aai _,by left,u⟩
   ·rw[c];exact⟨a2,a1,by rw[hl];trivial⟩
   ·show cZ lt (if lt (p.getD k 0) (p.getD (k - 1) 0)=true then _ else _)=_;rw[c];show cZ lt (if lt (p.getD (k - 1) 0) (p.getD k 0)=true then _ else _)=_;rw[hl];rfl
theorem mG{p q:Array Nat}{i j:Nat}(h:p[i]?=q[j]?):p.getD i 0=q.getD j 0:=by
 rw[Array.getD_eq_getD_getElem?,Array.getD_eq_getD_getElem?,h]
theorem IS(h:Arr p n){m:Nat}(hm:m<=n):Arr (kas_rev p 0 m) n/\(Dn lt p m->Up lt (kas_rev p 0 m) m):=by
 have hs:(kas_rev p 0 m).size=p.size:=mirror_size _ _ _ _;refine⟨⟨by rw[hs];exact h.sz,?_⟩,λu i j jy hj=>?_⟩
 ·have:=(mirror_perm p 0 m ((m - 0) / 2)).toList;exact this.trans h.pm
 ·have g:∀k,k<m->(kas_rev p 0 m).getD k 0=p.getD (m - 1 - k) 0:=λk hk=>by
   refine mG ?_;rw[show kas_rev p 0 m=mirror p 0 m ((m - 0) / 2) from rfl,getElem?_mirror_all (by rw[h.sz];exact hm),if_pos ⟨Nat.zero_le _,hk⟩];congr 1;left
  rw[g i (by left),g j hj];exact u (m - 1 - j) (m - 1 - i) (by left) (by left)
theorem Av(O:Ord lt n)(h:Arr p n){m:Nat}(h1:1<=m)(hm:m<=n)(u:Dn lt p m):ju n lt (kas_tail3 m n p)/\∃r,cZ lt (kas_tail3 m n p)=r/\Arr r.2 n/\1<=r.1/\r.1<=n/\Up lt r.2 r.1:=by
 obtain⟨a1,a2⟩:=IS (lt:=lt) h hm;obtain⟨b1,b2,b3,b4⟩:=sC O a1 (n - m) m h1 (by left) (a2 u);unfold kas_tail3;refine⟨fA b1 trivial,_,rfl,?_⟩;rw[gH];exact⟨a1,aas h1 b2,by show cZ lt _<=n;left,b4⟩
theorem CY(O:Ord lt n)(h:Arr p n)(hn:2<=n):ju n lt (kas_count n p)/\∃r,cZ lt (kas_count n p)=r/\Arr r.2 n/\1<=r.1/\r.1<=n/\Up lt r.2 r.1:=by
 obtain⟨b1,b2,b3,b4⟩:=sC O h (n - 1) 1 (aai _) (by left) (λi j _ _=>by left);generalize hk:cZ lt (kas_asc p (n - 1) 1)=k at *;have key:∀t:KasT (Nat×Array Nat),t=(if (k==n)=true then .ret (k,p)else if k>1 then .ask (p.getD 0 0) (p.getD (k - 1) 0) λc=>if c=true then .ret (k,p)else kas_descPart k n (kas_rev p 0 k)else kas_descPart k n p) ->
   ju n lt t/\∃r,cZ lt t=r/\Arr r.2 n/\1<=r.1/\r.1<=n/\Up lt r.2 r.1:=by
  intro t ht;by_cases e:k=n
  ·rw[if_pos (by simpa using e)]at ht;subst ht;exact⟨trivial,(k,p),rfl,h,b2,by show k<=n;left,b4⟩
  ·rw[if_neg (by simpa using e)]at ht;by_cases e1:k>1
   ·rw[if_pos e1]at ht;subst ht;have hl:lt (p.getD 0 0) (p.getD (k - 1) 0)=true:=b4 0 (k - 1) (by left) (by left);refine⟨⟨h.bd (by left),h.bd (by left),by rw[hl];trivial⟩,(k,p),?_,h,b2,by left,b4⟩;show cZ lt (if lt (p.getD 0 0) (p.getD (k - 1) 0)=true then _ else _)=_;rw[hl];rfl
   ·rw[if_neg e1]at ht;have ZN:k=1:=by left
    subst ZN;subst ht;have hl:lt (p.getD 1 0) (p.getD 0 0)=true:=by
     have a1:p.getD 1 0<n:=h.bd (by left);have a0:p.getD 0 0<n:=h.bd (by left);cases c:lt (p.getD 1 0) (p.getD 0 0)with
     |true=>rfl
     |false =>
      exfalso;obtain⟨f,hf⟩:∃f,n - 1=f+1:=⟨n - 2,by left⟩
      rw[hf]at hk;have e':cZ lt (kas_asc p (f+1) 1)=cZ lt (kas_asc p f 2):=by
       show cZ lt (if lt (p.getD 1 0) (p.getD (1 - 1) 0)=true then .ret 1 else kas_asc p f 2)=_;rw[show(1 - 1:Nat)=0 from rfl,c];rfl
      rw[e']at hk;have u2:Up lt p 2:=λi j jy hj=>by
       have:i=0/\j=1:=by left
       obtain⟨rfl,rfl⟩:=this;rcases O.Q0 _ _ a0 a1 (λz=>absurd (h.inj (by left) (by left) z) (by left))with z|z
       ·exact z
       ·rw[c]at z;cases z
      obtain⟨_,c2,_,_⟩:=sC O h f 2 (by left) (by left) u2;left
    have d2:Dn lt p 2:=λi j jy hj=>by
     have:i=0/\j=1:=by left
     obtain⟨rfl,rfl⟩:=this;exact hl
    obtain⟨c1,m,c2,c3,c4,c5⟩:=yh O h (n - 2) 2 (by left) (by left) d2;obtain⟨t1,r,t2,t3⟩:=Av O h (m:=m) (by left) (by left) c5;unfold kas_descPart;refine⟨fA c1 ?_,r,?_,t3⟩
    ·rw[show(1+1:Nat)=2 from rfl,show n - 2=n - 2 from rfl,c2];exact t1
    ·rw[gH,show(1+1:Nat)=2 from rfl,c2];exact t2
 have e:=key _ rfl;refine⟨?_,?_⟩
 ·unfold kas_count;exact fA b1 (by rw[hk];exact e.1)
 ·unfold kas_count;rw[gH,hk];exact e.2
theorem Arr.or(O:Ord lt n)(h:Arr p n){i j:Nat}(hi:i<n)(hj:j<n)(e:i≠j)(c:lt (p.getD i 0) (p.getD j 0)=false):lt (p.getD j 0) (p.getD i 0)=true:=by
 rcases O.Q0 _ _ (h.bd hi) (h.bd hj) (λz=>e (h.inj hi hj z))with z|z
 ·rw[c]at z;cases z
 ·exact z
theorem nJ(O:Ord lt n)(h:Arr p n){k:Nat}(hk:k<n)(u:Up lt p k):∀(f l r:Nat),l<=r->r<=k->r - l<=f->(∀i,i<l->lt (p.getD i 0) (p.getD k 0)=true)->(∀i,r<=i->i<k->lt (p.getD k 0) (p.getD i 0)=true) ->
  ju n lt (kas_place p k f l r)/\∃m,cZ lt (kas_place p k f l r)=m/\m<=k/\(∀i,i<m->lt (p.getD i 0) (p.getD k 0)=true)/\∀i,m<=i->i<k->lt (p.getD k 0) (p.getD i 0)=true
 |0,l,r,hl,hr,hf,a,b=>by
  have:l=r:=by left
  subst this;exact⟨trivial,l,rfl,hr,a,b⟩
 |f+1,l,r,hl,hr,hf,a,b=>by
  have e:kas_place p k (f+1) l r=if l ≥ r then .ret l else .ask (p.getD k 0) (p.getD ((l+r) / 2) 0) λc=>if c=true then kas_place p k f l ((l+r) / 2)else kas_place p k f ((l+r) / 2+1) r:=rfl
  rw[e];by_cases Kd:l ≥ r
  ·rw[if_pos Kd];have:l=r:=by left
   subst this;exact⟨trivial,l,rfl,hr,a,b⟩
  ·rw[if_neg Kd];have hm:l<=(l+r) / 2/\(l+r) / 2<r:=by left
   generalize (l+r) / 2=m at *;have b1:p.getD k 0<n:=h.bd hk;have b2:p.getD m 0<n:=h.bd (by left);cases c:lt (p.getD k 0) (p.getD m 0)with
   |true =>
    obtain⟨c1,m',c2,c3⟩:=nJ O h hk u f l m hm.1 (by left) (by left) a λi h1 h2=>by
     by_cases e:i=m
     ·subst e;exact c
     ·exact O.tr _ _ _ b1 b2 (h.bd (by left)) c (u m i (by left) h2)
    refine⟨⟨b1,b2,by rw[c];exact c1⟩,m',?_,c3⟩;show cZ lt (if lt (p.getD k 0) (p.getD m 0)=true then _ else _)=_;rw[c];exact c2
   |false =>
    have jq:=h.or O hk (by left) (by left) c;obtain⟨c1,m',c2,c3⟩:=nJ O h hk u f (m+1) r (by left) hr (by left) (λi hi=>by
     by_cases e:i=m
     ·subst e;exact jq
     ·exact O.tr _ _ _ (h.bd (by left)) b2 b1 (u i m (by left) (by left)) jq) b
    refine⟨⟨b1,b2,by rw[c];exact c1⟩,m',?_,c3⟩;show cZ lt (if lt (p.getD k 0) (p.getD m 0)=true then _ else _)=_;rw[c];exact c2
theorem zU(h:Arr p n){k m:Nat}(hk:k<n)(hm:m<=k)(u:Up lt p k)(a:∀i,i<m->lt (p.getD i 0) (p.getD k 0)=true)(b:∀i,m<=i->i<k->lt (p.getD k 0) (p.getD i 0)=true):
  Arr (bubble p k (k - m)) n/\Up lt (bubble p k (k - m)) (k+1):=by
 have hs:(bubble p k (k - m)).size=p.size:=bubble_size _ _ _;refine⟨⟨by rw[hs];exact h.sz,(bubble_perm p k (k - m)).toList.trans h.pm⟩,λi j jy hj=>?_⟩;have g:∀t,(bubble p k (k - m)).getD t 0=if t=m then p.getD k 0 else if m<t/\t<=k then p.getD (t - 1) 0 else p.getD t 0:=λt=>by
  have e:=getElem?_bubble (xs:=p) (src:=k) (by rw[h.sz];exact hk) (k - m) (Nat.sub_le _ _) t;rw[show k - (k - m)=m by left]at e;by_cases h1:t=m
  ·rw[if_pos h1]at e ⊢;exact mG e
  ·rw[if_neg h1]at e ⊢;by_cases h2:m<t/\t<=k
   ·rw[if_pos h2]at e ⊢;exact mG e
   ·rw[if_neg h2]at e ⊢;exact mG e
 rw[g i,g j];by_cases i1:i=m
 ·rw[if_pos i1,if_neg (by left),if_pos (by left)];exact b (j - 1) (by left) (by left)
 ·rw[if_neg i1];by_cases i2:m<i/\i<=k
  ·rw[if_pos i2,if_neg (by left),if_pos (by left)];exact u (i - 1) (j - 1) (by left) (by left)
  ·rw[if_neg i2];by_cases j1:j=m
   ·rw[if_pos j1];exact a i (by left)
   ·rw[if_neg j1];by_cases j2:m<j/\j<=k
    ·rw[if_pos j2];by_cases e:i=j - 1
     ·left
     ·exact u i (j - 1) (by left) (by left)
    ·rw[if_neg j2];exact u i j jy (by left)
end
theorem Dg{lt:Nat->Nat->Bool}{n:Nat}(O:Ord lt n):∀(f:Nat) {p:Array Nat} {k:Nat},Arr p n->k+f=n->Up lt p k->ju n lt (kas_bin f p k)/\Arr (cZ lt (kas_bin f p k)) n/\Up lt (cZ lt (kas_bin f p k)) n
 |0,p,k,h,hk,u=>⟨trivial,h,by rw[<- hk];exact u⟩
 |f+1,p,k,h,hk,u=>by
  obtain⟨a1,m,a2,a3,a4,a5⟩:=nJ O h (k:=k) (by left) u k 0 k (aaL _) (aai _) (aai _) (λi hi=>by left) (λi h1 h2=>by left);obtain⟨b1,b2⟩:=zU h (by left) a3 u a4 a5;obtain⟨c1,c2,c3⟩:=Dg O f b1 (by left) b2;have e:kas_bin (f+1) p k=(kas_place p k k 0 k).bind λl=>kas_bin f (bubble p k (k - l)) (k+1):=rfl;rw[e];refine⟨fA a1 (by rw[a2];exact c1),?_⟩;rw[gH,a2];exact⟨c2,c3⟩
theorem El{lt:Nat->Nat->Bool}{n:Nat}(O:Ord lt n)(hn:2<=n):ju n lt (kas_sort n)/\Arr (cZ lt (kas_sort n)) n/\Up lt (cZ lt (kas_sort n)) n:=by
 have h0:Arr (List.toArray (List.range n)) n:=⟨by simp,by simp⟩
 obtain⟨a1,r,a2,a3,a4,a5,a6⟩:=CY O h0 hn;unfold kas_sort;have key:∀t,t=(if r.1<n then kas_bin (n - max r.1 1) r.2 (max r.1 1)else .ret r.2)->ju n lt t/\Arr (cZ lt t) n/\Up lt (cZ lt t) n:=by
  intro t ht;by_cases h:r.1<n
  ·rw[if_pos h]at ht;subst ht;rw[show max r.1 1=r.1 by left];exact Dg O _ a3 (by left) a6
  ·rw[if_neg h]at ht;subst ht;have:r.1=n:=by left
   exact⟨trivial,a3,by rw[this]at a6;exact a6⟩
 have e:=key _ rfl;refine⟨fA a1 (by rw[a2];exact e.1),?_⟩;rw[gH,a2];exact e.2
end DI
end
section
namespace DI
open PySem PySem.Spec PyProof.Rows L2
def pN(h:Heap)(vs:ai)(nss:aF):Prop:=vs.length=nss.length/\∀(i:Nat) (ns:ae),nss[i]?=some ns->∃t aI,vs[i]?=some (.ref t)/\IsTup h t aI.toArray/\IntsAre aI ns
variable {h h':Heap}{nss:aF}{vs:ai}
theorem pN.mono(k:∀b o,h.get? b=some o->h'.get? b=some o)(t:pN h vs nss):pN h' vs nss :=
 ⟨t.1,λi ns e=>let ⟨a,aI,e1,⟨o,ho,r⟩,e3⟩:=t.2 i ns e;⟨a,aI,e1,⟨o,k _ _ ho,r⟩,e3⟩⟩
theorem pN.mem(t:pN h vs nss){v:Value}(hv:v∈vs):∃a aI ns,v=.ref a/\IsTup h a aI.toArray/\IntsAre aI ns:=by
 obtain⟨i,hi⟩:=List.mem_iff_getElem?.mp hv;have hl:i<nss.length:=by rw[<- t.1];exact(List.getElem?_eq_some_iff.mp hi).1
 obtain⟨a,aI,e1,e2,e3⟩:=t.2 i _ (aak hl);rw[hi]at e1;cases e1;exact⟨a,aI,_,rfl,e2,e3⟩
section
variable {prog:aE}{w:World}{A:aG}{E:aA}{s:Shared}
theorem oy:∀{vs:ai} {nss:aF} {Q:List (Option Value)->Shared->Prop},pN s.heap vs nss->(∀fs:List (Option Value),fs.length=vs.length->(∀f∈fs,∀v,f=some v->∃n t,v=.int n t)->Q fs s)->wpAny (model prog w) A (vs.mapM firstOfTuple') Q E s
 |[],_,_,_,h=>by rw[List.mapM_nil];exact aad (h [] rfl λ_ h=>nomatch h)
 |v::vs,[],_,t,_=>by have:=t.1;simp at this
 |v::vs,ns::nss,Q,t,h=>by
  obtain⟨a,aI,e,⟨o,ho,hc,n,hd⟩,hi⟩:=t.2 0 ns rfl;cases e;rw[List.mapM_cons];refine aaa ?_;rw[PySem.W.kas_first_eq];refine aaa (PySem.W.Looks.here (show PySem.W.Looks (model prog w) s.heap (typeOf (.ref a)) o.cls from(aci ho).andThen .now) ?_);rw[hc,if_neg (by first|decide|simp)];refine aaa (listItems_at ho hd (aad ?_));refine aaa (oy (vs:=vs) (nss:=nss) ⟨by simpa using t.1,λi ms e=>t.2 (i+1) ms e⟩ λfs h1 h2=>aad (h _ (by simp[h1]) λf hf v hv=>?_));rcases List.mem_cons.mp hf with rfl|hf
  ·cases hi with
   |nil=>simp at hv
   |cons a' tk hi=>simp at hv;exact⟨_,_,hv.symm⟩
  ·exact h2 f hf v hv
def DC(κ:SortKind):Prop:=κ=tuples' true\/κ=general'\/κ=oneType'
theorem kind_any{Q:SortKind->Shared->Prop}(t:pN s.heap vs nss)(sJ:vs≠[])(h:∀κ,DC κ->Q κ s):wpAny (model prog w) A (keyKind' vs.toArray) Q E s:=by
 obtain⟨v0,vr,rfl⟩:∃v0 vr,vs=v0::vr:=by
  cases vs with
  |nil=>exact absurd rfl sJ
  |cons v0 vr=>exact⟨v0,vr,rfl⟩
 rw[kat_kind_eq,List.mapM_toArray,map_eq_pure_bind];refine aaa (aaa (oy t λfs hl hf=>aad ?_));by_cases ha:(fs.toArray.all λx=>x.isSome)=true
 ·rw[if_pos ha];refine aaa (wpAny_rule ?_);obtain⟨gs,hg,hgi⟩:∃gs:ai,fs=gs.map some/\∀v∈gs,∃n t,v=.int n t:=by
   clear h hl t;induction fs with
   |nil=>exact⟨[],rfl,λ_ h=>nomatch h⟩
   |cons f fs ih =>
    simp only[List.all_toArray,List.all_cons,Bool.and_eq_true]at ha;obtain⟨gs,e1,e2⟩:=ih (λf Vb=>hf f (aag _ Vb)) (by simpa using ha.2);cases f with
    |none=>simp at ha
    |some v =>
     exact⟨v::gs,by rw[e1];rfl,λu hu=>by
      rcases List.mem_cons.mp hu with rfl|hu
      ·exact hf _ aah _ rfl
      ·exact e2 u hu⟩
  subst hg;obtain⟨g0,gr,rfl⟩:∃g0 gr,gs=g0::gr:=by
   cases gs with
   |nil=>simp at hl
   |cons a b=>exact⟨a,b,rfl⟩
  have ZQ:(((g0::gr).map some).toArray.filterMap id)=(g0::gr).toArray:=by simp
  rw[ZQ,oneTypeOnly'_eq,List.mapM_toArray,map_eq_pure_bind];refine aaa (aaa (aaa (PySem.W.kas_mapM (r:=Value.type "int") _ (λv hv Q' hq=>by
   obtain⟨n,t,rfl⟩:=hgi v hv;exact(PySem.W.Looks.of_pure (M:=model prog w) rfl).here hq) (aad ?_))))
  have Cf:((List.map (λ_=>Value.type "int") (g0::gr)).toArray.all λx=>x==Value.type "int")=true:=by
   simp only[List.all_toArray,List.all_map,List.all_eq_true];intro _ _;show(Value.type "int" == Value.type "int")=true;decide
  have h0:(List.map (λ_=>Value.type "int") (g0::gr)).toArray[0]?=some (Value.type "int"):=by simp
  rw[h0];simp only[Cf,if_true];exact aad (aad (h _ (.inl rfl)))
 ·rw[if_neg ha];by_cases hb:((fs.toArray[0]?.bind id).isSome)=true
  ·rw[if_pos hb];exact aad (h _ (.inr (.inl rfl)))
  ·rw[if_neg hb];rw[oneTypeOnly'_eq,List.mapM_toArray,map_eq_pure_bind];refine aaa (aaa (aaa (PySem.W.kas_mapM (r:=Value.type "tuple") _ (λv hv Q' hq=>by
    obtain⟨a,aI,ns,rfl,⟨o,ho,hc,_⟩,_⟩:=t.mem hv;refine PySem.W.Looks.here (show PySem.W.Looks (model prog w) s.heap (typeOf (.ref a)) o.cls from(aci ho).andThen .now) ?_;rw[hc];exact hq) (aad ?_))))
   have Cf:((List.map (λ_=>Value.type "tuple") (v0::vr)).toArray.all λx=>x==Value.type "tuple")=true:=by
    simp only[List.all_toArray,List.all_map,List.all_eq_true];intro _ _;show(Value.type "tuple" == Value.type "tuple")=true;decide
   have h0:(List.map (λ_=>Value.type "tuple") (v0::vr)).toArray[0]?=some (Value.type "tuple"):=by simp
   rw[h0];simp only[Cf,if_true];exact aad (aad (h _ (.inr (.inr rfl))))
theorem JH{κ:SortKind}(hk:DC κ)(hu:A.units<cLine){a b:Addr}{aI o7:ai}{ns ms:ae}{Q:Bool->Shared->Prop}(ha:IsTup s.heap a aI.toArray)(hb:IsTup s.heap b o7.toArray)(hi:IntsAre aI ns)(hj:IntsAre o7 ms)(h:Q (HT.lexLt ns ms) s):
  wpAny (model prog w) A (keyLt' κ (.ref a) (.ref b)) Q E s:=by
 rcases hk with rfl|rfl|rfl
 ·obtain⟨o,ho,_,n,hd⟩:=ha;obtain⟨o',fq,_,n',hU⟩:=hb;exact PySem.W.kat_lt ho hd fq hU (tX 0 hi hj (by simp) h)
 ·exact ack _ _ (HT.nQ ha hb (by simpa using hi) (by simpa using hj) hu h)
 ·show wpAny (model prog w) A (oneLt' true (.ref a) (.ref b)) Q E s;rw[oneLt'_eq];simp only[if_true];refine aaa (wpAny_cRoomFor hu ?_);obtain⟨⟨cls,dd,data,sl⟩,ho,hc,n,hd⟩:=id ha;obtain⟨⟨C0,rZ,data2,p7⟩,o9,sL,n2,hd2⟩:=id hb;simp only at hc hd sL hd2;subst hc hd sL hd2;refine aaa (wpAny_callSpecialIfBound?_slot (name:=Str.ofString "__lt__") ⟨_,ho,rfl⟩ abH (abv abH ⟨_,ho,rfl⟩ PySem.F.entry_tuple_lt (PySem.F.args_tuple_lt_2 _ _) (HT.jv a b _ _ n n2 dd rZ sl p7 ns ms (by simpa using hi) (by simpa using hj)) ⟨ho,o9,?_⟩));exact aaM h
end
def sH(h:Heap)(d:Addr)(es:Array DictEntry)(ep:Nat):Prop:=∃o,h.get? d=some o/\o.ExactDict/\o.data=.dict es ep
variable {Q:Value->Shared->Prop}
section
variable {prog:aE}{w:World}{A:aG}{E:aA}{s:Shared}{d it:Addr}{es:Array DictEntry}{ep i:Nat}
theorem sH.typeIs(h:sH s.heap d es ep):s.TypeIs (.ref d) "dict":=let ⟨o,ho,hx,_⟩:=h;⟨o,ho,hx.1⟩
theorem yg(hd:(d==sysModules)=false)(hm:sH s.heap d es ep)
  (hQ:Q (.ref s.heap.objs.size) { s with heap:=s.heap.push { cls:=.type "dict_keyiterator",data:=.fields #[.ref d,.int 0 0,.int es.size 0,.int ep 0] } }):wpAny (model prog w) A (pyIter (.ref d)) Q E s:=by
 have hT:=hm.typeIs;obtain⟨o,ho,hx,Pp⟩:=hm;refine wpAny_pyIter_slot hT PySem.F.slot_dict_iter (aaI PySem.F.slot_dict_iter hT PySem.F.entry_dict_iter ?_ (PySem.F.args_dict_iter_1 _));unfold Builtin.«dict.__iter__» Builtin.Dict.dictSlotNone;refine aaa (aaa (wpAny_notOrdered_dict hT (aad ?_)));show wpAny _ _ (Builtin.Dict.showsAll d >>= _) _ _ s;unfold Builtin.Dict.showsAll;rw[if_neg (by rw[hd];exact Bool.false_ne_true)];refine aaa (aad (aaa (ace ho Pp (aaa (wpAny_dictEpoch ho Pp ?_)))));exact aaa (aaF (aad ⟨_,rfl,"dict_keyiterator",_,⟨_,aan _ rfl,rfl⟩,PySem.F.slot_dict_keyiterator_next.lookup,hQ⟩))
theorem yf{Q:Option Value->Shared->Prop}(hit:s.heap.IsKeyIter it d i es.size ep)(hm:sH s.heap d es ep)(iB:i<es.size)
  (hQ:∀h',h'.IsKeyIter it d (i+1) es.size ep->Heap.SameBut it s.heap h'->Q (some es[i].key) { s with heap:=h' }):wpAny (model prog w) A (pyNext (.ref it)) Q E s:=by
 obtain⟨o,ho,hc,hd⟩:=id hit;obtain⟨od,O4,vW,Pm⟩:=hm;unfold pyNext;refine aaa (aca (aaX (name:=Str.ofString "__next__") hit.typeIs aaO (aaI aaO hit.typeIs PySem.F.entry_dict_keyiterator_next ?_ (PySem.F.args_dict_keyiterator_next_1 _))));refine aaa (aad (aaa (aaa ?_)))
 first|refine aaa (aaW hit.typeIs (aad ?_))|refine aaa (aa9 hit.typeIs (aad ?_))
 refine aaa (wpAny_fieldsOf ho hd ?_);simp only[show Builtin.Dict_items.ownsTuple "dict_keyiterator" = false by decide,Bool.false_eq_true,if_false];show wpAny _ _ (if (Value.ref d==Value.none)=true then _ else _) _ _ s;rw[if_neg (show ¬ ((Value.ref d==Value.none)=true) from Bool.false_ne_true)];refine aaa (aad (aaa (ace O4 Pm ?_)));rw[if_neg (by simp)];refine aaa (aad (aaa (wpAny_dictEpoch O4 Pm ?_)));rw[if_neg (by simp)];refine aad ?_;simp only[show ¬ ((i:Int)<0) from by left,if_false,Int.toNat_natCast,Array.getElem?_eq_getElem iB];refine aaa ?_
 first|refine aaa (aaW hit.typeIs (aad ?_))|refine aaa (aa9 hit.typeIs (aad ?_))
 refine aaa (wpAny_isOneOf_keyiter hit.typeIs ?_);show wpAny _ _ (setField (.ref it) 1 (rawInt ((i:Int)+1)) >>= _) _ _ s;refine aaa (wpAny_setField ho hd (by simp) ?_);have FJ:(s.heap.update it (Obj.mapFields (·.setIfInBounds 1 (rawInt ((i:Int)+1))))).IsKeyIter it d (i+1) es.size ep :=
  ⟨_,aa4 _ ho (Obj.isFreed_of_fields (Obj.data_mapFields hd _)),(Obj.cls_mapFields ..).trans hc,by rw[Obj.data_mapFields hd];simp[rawInt]⟩
 refine aaa (aaB (aaa (wpAny_isOneOf_keyiter (s:={ s with heap:=s.heap.update it (Obj.mapFields (·.setIfInBounds 1 (rawInt ((i:Int)+1)))) }) FJ.typeIs ?_)));show wpAny _ _ (pure es[i].key) _ _ _;exact aad (aad ⟨_,rfl,aad (hQ _ FJ (Heap.SameBut.update ..))⟩)
theorem CN{Q:Option Value->Shared->Prop}(hh:A.handled=none)(hit:s.heap.IsKeyIter it d i es.size ep)(hm:sH s.heap d es ep)(ZO:es.size<=i)
  (hQ:∀h',Heap.ExtBut it s.heap h'->Q none { s with heap:=h' }):wpAny (model prog w) A (pyNext (.ref it)) Q E s:=by
 obtain⟨o,ho,hc,hd⟩:=id hit;obtain⟨od,O4,vW,Pm⟩:=hm;unfold pyNext;refine aaa (aca (aaX (name:=Str.ofString "__next__") hit.typeIs aaO (aaI aaO hit.typeIs PySem.F.entry_dict_keyiterator_next ?_ (PySem.F.args_dict_keyiterator_next_1 _))));refine aaa (aad (aaa (aaa ?_)))
 first|refine aaa (aaW hit.typeIs (aad ?_))|refine aaa (aa9 hit.typeIs (aad ?_))
 refine aaa (wpAny_fieldsOf ho hd ?_);simp only[show Builtin.Dict_items.ownsTuple "dict_keyiterator" = false by decide,Bool.false_eq_true,if_false];show wpAny _ _ (if (Value.ref d==Value.none)=true then _ else _) _ _ s;rw[if_neg (show ¬ ((Value.ref d==Value.none)=true) from Bool.false_ne_true)];refine aaa (aad (aaa (ace O4 Pm ?_)));rw[if_neg (by simp)];refine aaa (aad (aaa (wpAny_dictEpoch O4 Pm ?_)));rw[if_neg (by simp)];refine aad ?_;simp only[show ¬ ((i:Int)<0) from by left,if_false,Int.toNat_natCast,Array.getElem?_eq_none ZO];refine aaa ?_
 first|refine aaa (aaW hit.typeIs (aad ?_))|refine aaa (aa9 hit.typeIs (aad ?_))
 show wpAny _ _ (setField (.ref it) 0 .none >>= _) _ _ s;refine aaa (wpAny_setField ho hd (by simp) ?_);show wpAny _ _ (newExc (.type "StopIteration") [] >>= _) _ _ _;refine aaa ?_;simp only[newExc,newTuple];refine aaa (aaF ?_ (by size_fits));refine aaa (m:=firstArgMember _ _) (wpAny_of_eq (a:=Value.none) (by first|rfl | (simp only[firstArgMember];rfl)) ?_);refine aaF ?_ (by size_fits);simp only[raiseNew];refine aaa (wpAny_handled ?_);rw[show A.in1.handled=none from hh];refine aaa (aad (wpAny_throw ?_));refine aaa (wpAny_isInstance (T:="StopIteration") (b:=true) ⟨_,aan _ rfl,rfl⟩ isSubtype_stop ?_);exact aad (hQ _ (((Heap.SameBut.update ..).extBut.push _).push _))
end
theorem vL:∀a b c:ae,HT.lexLt a b=true->HT.lexLt b c=true->HT.lexLt a c=true
 |[],[],_,h,_=>by rw[HT.jx]at h;cases h
 |[],_::_,[],_,h=>by rw[HT.de]at h;cases h
 |[],_::_,_::_,_,_=>rfl
 |_::_,[],_,h,_=>by rw[HT.de]at h;cases h
 |_::_,_::_,[],_,h=>by rw[HT.de]at h;cases h
 |x::a,y::b,z::c,h1,h2=>by
  rw[HT.df]at *;by_cases e1:x=y
  ·subst e1;rw[if_pos rfl]at h1;by_cases e2:x=z
   ·subst e2;rw[if_pos rfl]at h2 ⊢;exact vL a b c h1 h2
   ·rw[if_neg e2]at h2 ⊢;exact h2
  ·rw[if_neg e1]at h1;have l1:x<y:=aab h1;by_cases e2:y=z
   ·subst e2;rw[if_neg (by left)];exact aaq l1
   ·rw[if_neg e2]at h2;have l2:y<z:=aab h2;rw[if_neg (by left)];exact aaq (by left)
theorem kY:∀a b:ae,HT.lexLt a b=true->HT.lexLt b a=false
 |[],[],_=>rfl
 |[],_::_,_=>rfl
 |_::_,[],h=>by rw[HT.de]at h;cases h
 |x::a,y::b,h=>by
  rw[HT.df]at *;by_cases e:x=y
  ·subst e;rw[if_pos rfl]at h ⊢;exact kY a b h
  ·rw[if_neg e]at h;have l:x<y:=aab h;rw[if_neg (by left)];exact aaD (by left)
theorem mD:∀a b:ae,a≠b->HT.lexLt a b=true\/HT.lexLt b a=true
 |[],[],h=>absurd rfl h
 |[],_::_,_=>.inl rfl
 |_::_,[],_=>.inr rfl
 |x::a,y::b,h=>by
  rw[HT.df,HT.df];by_cases e:x=y
  ·subst e;rw[if_pos rfl,if_pos rfl];exact mD a b λz=>h (by rw[z])
  ·rw[if_neg e,if_neg (Ne.symm e)];rcases Int.lt_or_gt_of_ne e with l|l
   ·exact .inl (aaq l)
   ·exact .inr (aaq l)
def bO(nss:aF):aF:=nss.mergeSort λa b=>!HT.lexLt b a
def DA(nss:aF):Prop:=nss.Pairwise λa b=>HT.lexLt a b=true
theorem wZ:∀{l m:aF},DA l->DA m->l.Perm m->l=m
 |[],m,_,_,p=>(List.perm_nil.mp p.symm).symm
 |a::l,[],_,_,p=>by have:=p.length_eq;simp at this
 |a::l,b::m,h1,h2,p=>by
  have e:a=b:=by
   have ha:a∈b::m:=p.mem_iff.mp aah;have hb:b∈a::l:=p.mem_iff.mpr aah;rcases List.mem_cons.mp ha with e|ha
   ·exact e
   ·rcases List.mem_cons.mp hb with e|hb
    ·exact e.symm
    ·have l1:=(List.pairwise_cons.mp h2).1 a ha;have l2:=(List.pairwise_cons.mp h1).1 b hb;rw[kY _ _ l1]at l2;cases l2
  subst e;rw[wZ (List.pairwise_cons.mp h1).2 (List.pairwise_cons.mp h2).2 (List.perm_cons a |>.mp p)]
theorem ny(h:nss.Nodup):DA (bO nss):=by
 have p:(bO nss).Perm nss:=aaG _ _;have nd:(bO nss).Nodup:=p.nodup_iff.mpr h;have sd:(bO nss).Pairwise λa b=>(!HT.lexLt b a)=true:=aby (λa b c h1 h2=>by
  cases e:HT.lexLt c a with
  |false=>rfl
  |true =>
   exfalso;by_cases ql:b=c
   ·subst ql;rw[e]at h1;cases h1
   ·rcases mD b c ql with l|l
    ·rw[vL _ _ _ l e]at h1;cases h1
    ·rw[l]at h2;cases h2) (λa b=>by
  cases e:HT.lexLt b a with
  |false=>rfl
  |true=>rw[kY _ _ e];rfl) nss
 exact(sd.and nd).imp λ{a b} ⟨h1,h2⟩=>by
  rcases mD a b h2 with l|l
  ·exact l
  ·rw[l]at h1;cases h1
theorem AE{l:aF}(h:nss.Nodup)(hr:DA l)(p:l.Perm nss):l=bO nss:=wZ hr (ny h) (p.trans (aaG _ _).symm)
def ltN(nss:aF)(i j:Nat):Bool:=HT.lexLt (nss.getD i []) (nss.getD j [])
theorem Jm(h:nss.Nodup):Ord (ltN nss) nss.length :=
 ⟨λa b c _ _ _ h1 h2=>vL _ _ _ h1 h2,λa b _ _ h=>kY _ _ h,λa b ha hb ql=>mD _ _ λe=>ql (by
  have e1:nss.getD a []=nss[a]:=by simp[ha]
  have e2:nss.getD b []=nss[b]:=by simp[hb]
  rw[e1,e2]at e;exact(abG h).mp e)⟩
theorem p6(h:nss.Nodup){p:Array Nat}(ha:Arr p nss.length)(hu:Up (ltN nss) p nss.length):(p.toList.map λi=>nss.getD i [])=bO nss:=by
 refine AE h ?_ ?_
 ·refine List.pairwise_iff_getElem.mpr λi j hi hj jy=>?_;simp only[List.length_map,Array.length_toList]at hi hj;have:=hu i j jy (by rw[<- ha.sz];exact hj);unfold ltN at this;have e:∀k (hk:k<p.size),p.getD k 0=p[k]:=λk hk=>by simp[Array.getD,hk]
  rw[e i hi,e j hj]at this;simpa using this
 ·have e:nss=(List.range nss.length).map λi=>nss.getD i []:=by
   refine acg (by simp) λi h1 h2=>?_;simp[h1]
  refine(ha.pm.map λi=>nss.getD i []).trans ?_;rw[<- e]
variable {ep:Nat}
section
variable {prog:aE}{w:World}{A:aG}{E:aA}{s:Shared}
theorem s_{a:Addr}{n:Nat}{P:PySem.Fin->Shared->Prop}(ho:s.heap.get? a=some (seqObj "list" vs.toArray n))(qm:vs.length<64)(k8:nss.Nodup)
  (hl:vs.length=nss.length) (KP:SortKind->Prop) (ZM:vs≠[]->∀(Q:SortKind->Shared->Prop),(∀κ,KP κ->Q κ { s with heap:=(((s.heap.update a (Obj.mapSeq λ_=>#[])).push (seqObj "tuple" vs.toArray 0)).push (seqObj "list" #[] 0)) })->wpAny (model prog w) A (keyKind' vs.toArray) Q E { s with heap:=(((s.heap.update a (Obj.mapSeq λ_=>#[])).push (seqObj "tuple" vs.toArray 0)).push (seqObj "list" #[] 0)) })
  (iB:∀κ,KP κ->∀(i j:Nat) (hi:i<nss.length) (hj:j<nss.length) (E':aA) (Q:Bool->Shared->Prop),Q (HT.lexLt nss[i] nss[j]) { s with heap:=(((s.heap.update a (Obj.mapSeq λ_=>#[])).push (seqObj "tuple" vs.toArray 0)).push (seqObj "list" #[] 0)) }->wpAny (model prog w) A (keyLt' κ (vs.getD i Value.none) (vs.getD j Value.none)) Q E' { s with heap:=(((s.heap.update a (Obj.mapSeq λ_=>#[])).push (seqObj "tuple" vs.toArray 0)).push (seqObj "list" #[] 0)) })
  (h:∀p:Array Nat,Arr p vs.length->(p.toList.map λi=>nss.getD i [])=bO nss->P (.done (.ret .none)) { s with heap:=sortedHeap s.heap a vs (List.toArray (p.toList.map λi=>vs.getD i Value.none)) }) :
  wpAny (model prog w) A (Builtin.«list.sort» ⟨[.ref a],[]⟩) P E s:=by
 rw[list_sort_plain];have ha:a<s.heap.objs.size:=aaf ho;have hsz:vs.toArray.size=vs.length:=by simp
 have hz:vs.length<=sizeLine:=by rw[sizeLine_eq];left
 refine aaa (listItems_at ho rfl (aaa (listUpdate_at ho rfl ?_ (by rw[hsz];exact hz) (aaL _))));obtain⟨e1,Mc⟩:∃e1,(s.heap.update a (Obj.mapSeq λ_=>#[])).get? a=some (seqObj "list" #[] e1):=⟨_,get?_update_seq ho (λ_=>#[])⟩
 refine aaa (seqEpoch_at Mc rfl (aaa (wpAny_newTuple (aaa (abF (aaB ?_) (aaL _))) (by simpa using hz))));have Xj:(((s.heap.update a (Obj.mapSeq λ_=>#[])).push (seqObj "tuple" vs.toArray 0)).push (seqObj "list" #[] 0)).get? a=some (seqObj "list" #[] e1):=aae _ (aae _ Mc);show wpAny (model prog w) A _ P E ({ s with heap:=((s.heap.update a (Obj.mapSeq λ_=>#[])).push (seqObj "tuple" vs.toArray 0)).push (seqObj "list" #[] 0) }:Shared);dsimp only;have fin:∀(l6:SortSt) (p:Array Nat),Arr p vs.length->(p.toList.map λi=>nss.getD i [])=bO nss->(arrOf l6).map (·.2)=List.toArray (p.toList.map λi=>vs.getD i Value.none)->failedOf l6=none->wpAny (model prog w) A (do
   let touched:=(<- seqEpoch a) != e1
   Builtin.List.listUpdate (.ref a) λ_=>(arrOf l6).map (·.2)
   if let some e:=failedOf l6 then rule "list.sort.comparison-raised";throw e
   if touched then rule "list.sort.modified";raiseError "ValueError" "list modified during sort"
   ret .none) P E ({ s with heap:=((s.heap.update a (Obj.mapSeq λ_=>#[])).push (seqObj "tuple" vs.toArray 0)).push (seqObj "list" #[] 0) }:Shared):=by
  intro l6 p hp hs hA hF;refine aaa (seqEpoch_at Xj rfl ?_);rw[hA];refine aaa (listUpdate_at Xj rfl ?_ (aaL _) (by rw[List.size_toArray,List.length_map,Array.length_toList,hp.sz];exact acd hz));rw[hF];simp only[bne_self_eq_false,Bool.false_eq_true,if_false];exact aad (h p hp hs)
 by_cases h2:vs.toArray.size<2
 ·rw[if_pos h2,if_pos h2];refine aaa (aad ?_);rw[StateT.run_pure];refine aaa (aad ?_);rw[hsz]at h2;have Vi:Arr (List.toArray (List.range vs.length)) vs.length:=⟨by simp,by simp⟩
  refine fin (SortSt.mk' general' (vs.toArray.zip vs.toArray) #[] 7 none) (List.toArray (List.range vs.length)) Vi ?_ ?_ rfl
  ·rw[hl]at Vi ⊢;exact p6 k8 Vi λi j jy hj=>by left
  ·apply Array.toList_inj.mp;show(Array.map (·.2) (vs.toArray.zip vs.toArray)).toList=_;rw[Array.toList_map,show(vs.toArray.zip vs.toArray)=pairsOf vs from rfl,pairsOf_toList,List.map_snd_zip (Nat.le_refl _)];refine acg (by simp) λi h1 h2=>?_;simp[h1]
 ·rw[if_neg h2,if_neg h2];rw[hsz]at h2;refine aaa (ZM (λz=>by rw[z]at h2;simp at h2) _ λκ hk=>?_);have ok:=El (Jm k8) (by rw[<- hl];left);refine aaa (aau (PySem.W.kat_run (ks:=vs) (vs:=vs) (κ:=κ) (Q:=λl6 s'=>s'=({ s with heap:=((s.heap.update a (Obj.mapSeq λ_=>#[])).push (seqObj "tuple" vs.toArray 0)).push (seqObj "list" #[] 0) }:Shared)/\∃p,Arr p vs.length/\(p.toList.map λi=>nss.getD i [])=bO nss/\(arrOf l6).map (·.2)=List.toArray (p.toList.map λi=>vs.getD i Value.none)/\failedOf l6=none)
   (G:=λp s'=>s'=({ s with heap:=((s.heap.update a (Obj.mapSeq λ_=>#[])).push (seqObj "tuple" vs.toArray 0)).push (seqObj "list" #[] 0) }:Shared)/\Arr p vs.length/\(p.toList.map λi=>nss.getD i [])=bO nss) rfl (by left) qm (λp l6 s' hps Z2 hf hG=>⟨hG.1,p,hG.2.1,hG.2.2,PySem.W.kat_snds rfl Z2,hf⟩) ?_) (λr s' ⟨e,p,hp,hs,hA,hF⟩=>?_) λ_ _ e=>e)
  rotate_left
  ·subst e;exact fin r.2 p hp hs hA hF
  ·rw[hl];refine yu (lt:=ltN nss) (n:=nss.length) (λi j C hi hj hC=>?_) _ ok.1 ⟨rfl,ok.2.1,p6 k8 ok.2.1 ok.2.2⟩;unfold PySem.W.kas_ask;have e3:nss.getD i []=nss[i]:=by simp[hi]
   have e4:nss.getD j []=nss[j]:=by simp[hj]
   have XA:C (HT.lexLt (nss.getD i []) (nss.getD j [])) _:=hC;rw[e3,e4]at XA;exact iB κ hk i j hi hj _ _ XA
theorem AD{a:Addr}{n:Nat}{P:PySem.Fin->Shared->Prop}(hu:A.units<cLine)(ho:s.heap.get? a=some (seqObj "list" vs.toArray n))(qm:vs.length<64)(k8:nss.Nodup)
  (ht:pN (((s.heap.update a (Obj.mapSeq λ_=>#[])).push (seqObj "tuple" vs.toArray 0)).push (seqObj "list" #[] 0)) vs nss)
  (h:∀p:Array Nat,Arr p vs.length->(p.toList.map λi=>nss.getD i [])=bO nss->P (.done (.ret .none)) { s with heap:=sortedHeap s.heap a vs (List.toArray (p.toList.map λi=>vs.getD i Value.none)) }) :
  wpAny (model prog w) A (Builtin.«list.sort» ⟨[.ref a],[]⟩) P E s :=
 s_ ho qm k8 ht.1 DC (λsJ Q hQ=>kind_any ht sJ hQ) (λκ hk i j hi hj E' Q hq=>by
  obtain⟨x,aI,e1,i1,i2⟩:=ht.2 i _ (aak hi);obtain⟨y,o7,e2,j1,j2⟩:=ht.2 j _ (aak hj);rw[show vs.getD i Value.none=.ref x by simp[e1],show vs.getD j Value.none=.ref y by simp[e2]];exact JH hk hu i1 j1 i2 j2 hq) h
theorem CM{es:Array DictEntry}(hh:A.handled=none)(I d:Addr)(sJ:d≠I):Walks prog w A I [I,d] [I] es.size (λi v=>∃e,es[i]?=some e/\v=e.key) (λi h=>h.IsKeyIter I d i es.size ep/\sH h d es ep) where
 sub:=λb hb=>by simp at hb;simp[hb]
 frame:=λ_ _ _ st hk=>⟨st.1.at λo e=>hk I (by simp) o e,let ⟨o,ho,r⟩:=st.2;⟨o,hk d (by simp) o ho,r⟩⟩
 item:=λi s Q E hi st hQ=>yf st.1 st.2 hi λh' FJ L_=>hQ _ h' s.toks ⟨es[i],aa5 hi,rfl⟩ ⟨FJ,let ⟨o,ho,r⟩:=st.2;⟨o,L_.extBut d o sJ ho,r⟩⟩ λb o hb e=>L_.extBut b o (λh=>hb (by simp[h])) e
 done:=λs Q E st hQ=>CN hh st.1 st.2 (aai _) λh' ZT=>hQ h' s.toks λb o hb e=>ZT b o (λh=>hb (by simp[h])) e
 self:=λ_ _ _ _ st hQ=>wpAny_pyIter_keyiter st.1 hQ
theorem Lu{d:Addr}{es:Array DictEntry}(lo:(d==sysModules)=false):PySem.W.KdlSrc prog w "dict" d d es.size (λi v=>∃e,es[i]?=some e/\v=e.key) (λh=>sH h d es ep) where
 type:=λ_ hm=>hm.typeIs
 there:=λ_ hm=>let ⟨_,ho,_⟩:=hm;⟨aaf ho,aaf ho⟩
 keep:=λ_ _ hm hk=>let ⟨o,ho,r⟩:=hm;⟨o,hk d (.inl rfl) o ho,r⟩
 notList:=by decide
 notTuple:=by decide
 hint:=λ_ _ _ _ hm hq=>PySem.W.kdl_hint_dict hm.typeIs hq
 iter:=λ_ _ hh hm=>⟨_,_,(λ_ _ hq=>yg lo hm hq),CM hh _ d (let ⟨_,ho,_⟩:=hm;aal (aaf ho)),⟨⟨_,aan _ rfl,rfl,rfl⟩,let ⟨o,ho,r⟩:=hm;⟨o,aae _ ho,r⟩⟩⟩
theorem sZ{d:Addr}{es:Array DictEntry}(hh:A.handled=none)(hu:A.units+2<cLine)(lo:(d==sysModules)=false)(hm:sH s.heap d es ep)(qm:es.size<64)(k8:nss.Nodup)(ht:pN s.heap (es.toList.map (·.key)) nss)
  (h:∀(S:Addr) (h':Heap) (tk e:Nat) (p:Array Nat),s.heap.get? S=none->(∀b o,s.heap.get? b=some o->h'.get? b=some o)->Arr p es.size->(p.toList.map λi=>nss.getD i [])=bO nss ->
   h'.get? S=some (seqObj "list" (List.toArray (p.toList.map λi=>(es.toList.map (·.key)).getD i Value.none)) e)->Q (.ref S) { s with heap:=h',toks:=tk }) :
  wpAny (model prog w) A (call (.builtin "sorted") [.ref d]) Q E s:=by
 refine abk kind_sorted plain_sorted entry_sorted (args_sorted1 _) ?_;unfold Builtin.«sorted»;have hz:es.size<=sizeLine:=by rw[sizeLine_eq];left
 refine aaa (m:=checkCount "sorted" 1 1 _) (aad (aaa (PySem.W.kdu_collect (A:=A.in1) (Lu lo) hh hm hz λh1 tk acc hk hV=>?_)));have PM:acc.toList=es.toList.map (·.key):=by
  refine List.ext_getElem? λi=>?_;rw[List.getElem?_map,Array.getElem?_toList,Array.getElem?_toList];by_cases hi:i<es.size
  ·have Xl:i<acc.size:=by rw[hV.1];exact hi
   obtain⟨e,he,hv⟩:=hV.2 i acc[i] (aa5 Xl);rw[Array.getElem?_eq_getElem Xl,he,hv];rfl
  ·rw[Array.getElem?_eq_none (by rw[hV.1];left),Array.getElem?_eq_none (by left)];rfl
 rw[PM];generalize UE:es.toList.map (·.key)=vs at *;have FA:vs.length=es.size:=by rw[<- UE];simp
 refine aaa (abF ?_ (by rw[FA];exact hz));show wpAny _ _ _ _ _ ({ s with heap:=h1.push (seqObj "list" vs.toArray 0),toks:=tk }:Shared);have O5:(h1.push (seqObj "list" vs.toArray 0)).get? h1.objs.size=some (seqObj "list" vs.toArray 0):=aan _ rfl;have k6:∀b o,s.heap.get? b=some o->((((h1.push (seqObj "list" vs.toArray 0)).update h1.objs.size (Obj.mapSeq λ_=>#[])).push (seqObj "tuple" vs.toArray 0)).push (seqObj "list" #[] 0)).get? b=some o:=λb o e=>by
  refine aae _ (aae _ ?_);rw[Heap.get?_update_other _ _ (Nat.ne_of_gt (Heap.lt_size (hk b o e)))];exact aae _ (hk b o e)
 have hle:s.heap.get? h1.objs.size=none:=by
  cases q:s.heap.get? h1.objs.size with
  |none=>rfl
  |some o=>exact absurd (aaf (hk _ o q)) (aax _)
 refine aaa (aaB (aaI slot_list_sort ⟨_,O5,rfl⟩ entry_list_sort (AD (s:={ s with heap:=h1.push (seqObj "list" vs.toArray 0),toks:=tk }) (nss:=nss) (show A.in1.in1.units<cLine by show A.units+1+1<cLine;left) O5 (by rw[FA];exact qm) k8 (ht.mono k6) λp hp hs=>⟨_,rfl,?_⟩) (args_list_sort _)));obtain⟨e,he⟩:=sortedHeap_at (out:=List.toArray (p.toList.map λi=>vs.getD i Value.none)) O5;refine aad ⟨_,rfl,h h1.objs.size _ tk e p hle (λb o e=>?_) (by rw[<- FA];exact hp) hs he⟩;have iB:=aaf (hk b o e);rw[sortedHeap_old (Nat.ne_of_lt iB) (by rw[size_push'];exact Nat.lt_succ_of_lt iB)];exact aae _ (hk b o e)
end
variable {H:Hp}{P:aE}{w:World}
theorem Jv{a:Addr}{o:HO}(x:cK P w H h a o):∃u,h.get? a=some u:=by
 cases o with
 |lst xs=>obtain⟨_,_,_,_,e⟩:=x;exact⟨_,e⟩
 |tup xs=>obtain⟨_,_,_,o,e,_⟩:=x;exact⟨_,e⟩
 |dK me=>obtain⟨_,_,_,_,o,_,_,e,_⟩:=x;exact⟨_,e⟩
 |dT me=>obtain⟨_,_,_,_,o,_,_,e,_⟩:=x;exact⟨_,e⟩
 |set S n=>obtain⟨o,_,_,_,e,_⟩:=x;exact⟨_,e⟩
 |ins C dx fs=>obtain⟨_,_,_,e,_⟩:=x;exact⟨_,e⟩
 |own y=>exact x
 |xd fs=>obtain⟨_,⟨o,_,_,e,_⟩,_⟩:=x;exact⟨_,e⟩
 |jZ lo hi=>obtain⟨_,_,_,e⟩:=x;exact⟨_,e⟩
 |gF o u=>exact⟨_,x.1⟩
 |Eb ps=>exact⟨_,x⟩
 |met f y=>exact⟨_,x⟩
 |ext φ=>exact x.2.1
variable {X:Cx}{σ:L2.St}
theorem Inv.Ow{pins:ak}{s:Shared}{t':Nat}{a:Addr}{o:HO}(I:Inv X pins σ H s)(k:∀b u,s.heap.get? b=some u->h'.get? b=some u)(ha:s.heap.get? a=none)(new:cK X.prog X.w (upd H a o) h' a o):
  H a=none/\Inv X pins σ (upd H a o) { s with heap:=h',toks:=t' }:=by
 have hn:H a=none:=by
  cases q:H a with
  |none=>rfl
  |some u =>
   obtain⟨z,hz⟩:=Jv (I.cC a u q);rw[ha]at hz;exact nk hz
 have up:∀b u,H b=some u->upd H a o b=some u:=λb u e=>by rw[ba (cj e hn)];exact e
 refine⟨hn,I.step (g':=s.gens) (d':=s.drawn) (ch:=[]) (λb hb=>nomatch hb) (λb o _ _ _ e _=>k b o e) (λb o _ _ _ e _=>⟨o.slots,k b o e⟩) (λb u _ e n=>?_)
  (λb o _ e=>⟨o,k b o e⟩) (λ_ _ e=>up _ _ e) (λ_ _ _ e=>up _ _ e) (λb ps e=>⟨#[],by rw[up _ _ e];simp⟩) (λm hm=>?_) (λb u e=>?_) I.bare⟩
 ·rw[ba λz=>by rw[z,ha]at e;cases e];exact n
 ·obtain⟨o,es,ep,ho,r⟩:=hm;exact⟨o,es,ep,k _ o ho,r⟩
 ·by_cases z:b=a
  ·subst z;rw[aZ]at e;cases e;exact new
  ·rw[ba z]at e;exact(I.cC b u e).iM (λc v _ q=>k c v q) (λ_ q=>up _ _ q) λ_ _ q=>up _ _ q
variable {tg:Expr}
section
variable {X:Cx}{pins:ak}{σ:St}{H:Hp}{s:Shared}{d:Addr}{cs:aF}{as:bc}{xs:af}{ep:Nat}
theorem qT(I:Inv X pins σ H s)(h:H d=some (.ext (DO d cs as xs ep))):∃es:Array DictEntry,sH s.heap d es ep/\es.size=as.length/\es.toList.map (·.key)=as.map Value.ref/\cs.Nodup/\as.length=cs.length/\(d==sysModules)=false:=by
 obtain⟨⟨zs,o,es,e1,e2,e3,ho,hx,hd,he,hn,hl,hs⟩,_⟩:=(show cK X.prog X.w H s.heap d (.ext (DO d cs as xs ep)) from I.cC d _ h)
 refine⟨es,⟨o,ho,hx,hd⟩,?_,?_,hn,?_,hs⟩
 ·rw[<- Array.length_toList,he,<- e2,List.length_map,List.length_map]
 ·rw[he,<- e2,List.map_map,List.map_map];rfl
 ·rw[<- e1,<- e2,List.length_map,List.length_map]
noncomputable def X8(d:Addr)(cs:aF)(as:bc)(xs:af)(ep:Nat):It :=
 ⟨λi H=>H d=some (.ext (DO d cs as xs ep))/\i<as.length,λi H v H'=>H'=H/\∃a,as[i]?=some a/\v=.ref a,λi H=>H d=some (.ext (DO d cs as xs ep))/\as.length<=i⟩
theorem yI{K:ao}(d it:Addr)(cs:aF)(as:bc)(xs:af)(ep:Nat):Turn P w K tg (X8 d cs as xs ep) [it] it (λi h=>h.IsKeyIter it d i as.length ep) where
 mem:=by simp
 obj:=λi h st b hb=>by
  have e:b=it:=by simpa using hb
  subst e;obtain⟨o,e,c,d⟩:=st;exact⟨o,e,λv z=>by rw[d]at z;cases z⟩
 keep:=λi h h' st k=>st.at λo e=>k it (by simp) o e
 item:=by
  intro X hP hw hK hc i pins s σ H E I hf st hg;subst hP hw hK;obtain⟨hd,hi⟩:=hg;obtain⟨es,hr,hz,lL,_⟩:=qT I hd;obtain⟨f0,f1,f2,f3,f4,f5⟩:=hf it (by simp);have iL:i<es.size:=by rw[hz];exact hi
  have U4:es[i].key=.ref as[i]:=by
   have:=aaN (λl=>l[i]?) lL;simp only[List.getElem?_map,Array.getElem?_toList]at this;rw[Array.getElem?_eq_getElem iL,List.getElem?_eq_getElem hi]at this;exact aao this
  rw[<- hz]at st;refine yf st hr iL λh' l6 sb=>?_;have I1:Inv X pins σ H { s with heap:=h' }:=I.turned (t':=s.toks) (λb o hb e=>(sb.2 b hb).trans e) f0 f1 f3 f4 f5;obtain⟨o,e,c,d'⟩:=id l6;refine⟨_,rfl,xY (s:={ s with heap:=h' }) e c d' (by decide) ⟨.ref as[i],H,I1,by rw[U4];rfl,⟨rfl,as[i],aak hi,rfl⟩,?_,λb hb=>(hf b hb).1⟩⟩;rw[hz]at l6;exact l6
 done:=by
  intro X hP hw hK hc i pins s σ H E I hf st hg;subst hP hw hK;obtain⟨hd,hi⟩:=hg;obtain⟨es,hr,hz,lL,_⟩:=qT I hd;obtain⟨f0,f1,f2,f3,f4,f5⟩:=hf it (by simp);rw[<- hz]at st;exact CN (I.ok.hd hc) st hr (by rw[hz];exact hi) λh' eb=>⟨rfl,I.turned (t':=s.toks) (λb o hb e=>eb b o hb e) f0 f1 f3 f4 f5⟩
 self:=λ_ _ _ _ _ st h=>wpAny_pyIter_keyiter st h
end
def oG(xs:aa):O D:=match one xs with
 |some d=>match gJ d with
  |some z=>ok (.lst .ow (z.1.map bS))
  |none=>none
 |none=>none
variable {xs:aa}
theorem zL{r:D}(h:oG xs=ok r):∃f cs vs,xs=[.cy f cs vs]/\r=.lst .ow (cs.map bS):=by
 unfold oG at h;cases h1:one xs with
 |none=>rw[h1]at h;exact nk h
 |some d =>
  rw[h1]at h;have h:(match gJ d with|some z=>ok (D.lst .ow (z.1.map bS))|none=>none)=ok r:=h;cases h2:gJ d with
  |none=>rw[h2]at h;exact nk h
  |some z =>
   rw[h2]at h;cases h;obtain⟨f,e⟩:=kB h2;exact⟨f,z.1,z.2,by rw[bI h1,e],rfl⟩
theorem f9(g:Fl->Fl):∀cs:aF,au g (cs.map bS)=cs.map bS
 |[]=>rfl
 |c::cs=>by
  show aw g (bS c)::au g (cs.map bS)=_;rw[f9 g cs];have:∀c:ae,au g (c.map D.int)=c.map D.int:=λc=>by
   induction c with
   |nil=>rfl
   |cons i c ih=>show D.int i::au g (c.map D.int)=_;rw[ih];rfl
  show D.tup (au g (c.map D.int))::_=_;rw[this];rfl
theorem mw{T:kJ}{N:fc}{k:bo}{a:Addr}{c:ae}(h:T a (c.map V.int)):Rep T N k (.ref a) (bS c):=.tup h (aC.ints c)
def C_(_:Scope)(_:aj)(e:Expr):Option (av):=if isNm e=true then some [e]else none
variable {F:Addr->Prop}{args:av}{cs:az}{Φ:bh}
theorem CL{n:Nat}(hΦ:Φ n=oG){sc:Scope}{bl:aj}{k:Nat}(L:PX X sc bl k){e:Expr}(he:C_ sc bl e=some args)(ht:(decide (1100<=n)||hJ tg)=true)(hs:lT X F Φ cs args)
  {pins:ak} {s:Shared} {R:ah} {τ:Addr->Option bo} {ρ:a_} {d:D} {items:aa} (I:Inv X pins σ H s) (Si:SI X F R τ ρ σ H) (b7:bK Φ cs ρ=ok xs) (ed:Φ n xs=ok d) (ei:pw d=ok items) (Rr:It->Hp->Prop)
  (hR:∀J H2 vs,aK H H2->cF X.K (gP X F) R τ (cO cs) H H2 vs xs->Mu X.K J H2 vs xs items->Rr J H2) :
  wpAny (model X.prog X.w) X.A (eval e X.env) (λv s1=>wpAny (model X.prog X.w) X.A (pyIter v) (Aa X pins σ tg Rr) X.xe s1) X.xe s:=by
 unfold C_ at he;by_cases hn:isNm e=true
 ·rw[if_pos hn]at he;cases he;cases cs with
  |nil=>exact hs.elim
  |cons c cs=>cases cs with
   |cons _ _=>exact hs.2.2.2.elim
   |nil =>
    rw[hΦ]at ed;obtain⟨f,ks,vs,rfl,rfl⟩:=zL ed;cases ei;obtain⟨x,ex,b7⟩:=aB b7;cases b7;refine cN (hs.1 pins s σ H _ I (tD.intro Si ex (Q:=λv H1=>aK H H1/\b_ X.K (gP X F) R τ (iJ c) H H1 v (.cy f ks vs)) λv H1 e1 r1=>⟨e1,r1⟩)) λu s1 bF=>?_;obtain⟨v,H1,I1,rv,e1,r1⟩:=bF;obtain⟨τt,fr,q1⟩:=id r1;cases q1 with
    | @cy _ p _ as ys ep _ _ k8 hk hr =>
     cases rv;have hd:=k8.dat;obtain⟨es,J8,hz,lL,O7,hlen,FC⟩:=qT I1 hd;refine yg FC J8 ?_;have hb:s1.heap.objs.size<=s1.heap.objs.size:=aai _;refine⟨s1.heap.objs.size,[s1.heap.objs.size],_,X8 p ks as ys ep,H1,rfl,I1.kept (t':=s1.toks) (λb o e=>aae _ e),yI p s1.heap.objs.size ks as ys ep,⟨_,aan _ rfl,rfl,by rw[hz];rfl⟩,λb hb=>?_,hR _ H1 [.ref p] e1 (cF.cons e1 (aK.refl _) (r1.mono λj hj=>aat _ hj) ⟨λ_=>none,λ_ _ h=>by simp at h,.nil⟩) ?_⟩
     ·have:b=s1.heap.objs.size:=by simpa using hb
      subst this;exact I1.Cu (aai _) (I1.cC.fresh (aai _))
     ·rw[f9];have iM:∀H',qG X.K H1 [.ref p] [.cy f ks vs] H'->H' p=some (.ext (DO p ks as ys ep)):=λH' st=>by
       obtain⟨R0,YU,hl⟩:=st.n0;cases YU with
       |cons h0 _=>cases h0 with
        |cy h1 _ _ =>
         cases f with
         |sc=>exact h1.elim
         |ow=>exact hl p _ h1.2 hd
         |fz=>exact hl p _ h1.2 hd
         |al=>exact hl p _ h1.2 hd
      refine⟨λi H' R' st rs hi=>⟨iM H' st,by rw[List.length_map]at hi;left⟩,λi H' R' x jG st rs hi hy=>?_,λi H' R' st rs hi=>⟨iM H' st,by rw[List.length_map]at hi;left⟩⟩;obtain⟨rfl,a,ha,rfl⟩:=hy;rw[List.length_map]at hi;refine⟨aK.refl _,bS ks[i],by rw[List.getElem?_map,List.getElem?_eq_getElem hi];rfl,mw (st.tp _ _ (hk.tup i a _ ha (aak hi)))⟩
 ·rw[if_neg hn]at he;cases he
theorem wz(hc:X.calm=true)(hu:X.A.units+2<cLine):e_ X (.builtin "sorted") (λxs H Q=>∃(d:Addr) (cs:aF) (as:bc) (ys:af) (ep:Nat),xs=[.ref d]/\H d=some (.ext (DO d cs as ys ep))/\eZ (aW X.K H) as cs/\cs.length<64 /\
  ∀(l:Addr) (bs:bc),H l=none->eZ (aW X.K H) bs (bO cs)->Q (.ref l) (upd H l (.lst (bs.map V.ref)))):=by
 intro pins s σ H xs us Q I r h;obtain⟨d,cs,as,ys,ep,rfl,hd,hk,qm,q⟩:=h;obtain⟨u,rfl,ru⟩:=r.one;cases ru;obtain⟨es,J8,hz,lL,O7,hlen,FC⟩:=qT I hd;have ht:pN s.heap (es.toList.map (·.key)) cs:=by
  rw[lL];refine⟨by rw[List.length_map,hlen],λi ns e=>?_⟩;have hi:i<as.length:=by rw[hlen];exact(List.getElem?_eq_some_iff.mp e).1
  obtain⟨o7,rj,ij,_⟩:=I.tuple (hk.tup i as[i] ns (aak hi) e);exact⟨as[i],o7,by rw[List.getElem?_map,List.getElem?_eq_getElem hi];rfl,ij,cM rj⟩
 refine sZ (I.ok.hd hc) hu FC J8 (by rw[hz,hlen];exact qm) O7 ht λS h' tk e p hS Md hp hs hl=>?_;rw[lL]at hl;have UN:(p.toList.map λi=>(as.map Value.ref).getD i Value.none)=(p.toList.map λi=>as.getD i 0).map Value.ref:=by
  rw[List.map_map];refine aay λi hi=>?_;have iL:i<as.length:=by
   have:=List.mem_range.mp (hp.pm.mem_iff.mp hi);left
  simp[iL]
 rw[UN]at hl;have Pu:eZ (aW X.K H) (p.toList.map λi=>as.getD i 0) (bO cs):=by
  rw[<- hs];refine⟨by simp,λj a c h1 h2=>?_⟩;rw[List.getElem?_map]at h1 h2;cases hj:p.toList[j]? with
  |none=>rw[hj]at h1;exact nk h1
  |some i =>
   rw[hj]at h1 h2;have iL:i<as.length:=by
    have:=List.mem_range.mp (hp.pm.mem_iff.mp (aap hj));left
   cases h1;cases h2;exact hk.tup i _ _ (by simp[iL]) (by simp[show i<cs.length by left])
 have B3:∀l:bc,Vals (l.map V.ref) (l.map Value.ref):=λl=>by
  induction l with
  |nil=>exact .nil
  |cons a l ih=>exact .cons rfl ih
 have hsz:sizeLine=16777216:=aa6;obtain⟨hn,I'⟩:=Inv.Ow (t':=tk) (o:=.lst ((p.toList.map λi=>as.getD i 0).map V.ref)) I Md hS ⟨by rw[List.length_map,List.length_map,Array.length_toList,hp.sz];left,_,e,B3 _,hl⟩;exact⟨.ref S,_,I',rfl,q S _ hn Pu⟩
def oF(xs:aa):O D:=match one xs with
 |some d=>match gJ d with
  |some z=>if z.1.length<64 then ok (.lst .ow ((bO z.1).map bS))else none
  |none=>none
 |none=>none
theorem zK{r:D}(h:oF xs=ok r):∃f cs vs,xs=[.cy f cs vs]/\cs.length<64/\r=.lst .ow ((bO cs).map bS):=by
 unfold oF at h;cases h1:one xs with
 |none=>rw[h1]at h;exact nk h
 |some d =>
  rw[h1]at h;have h:(match gJ d with|some z=>if z.1.length<64 then ok (D.lst .ow ((bO z.1).map bS))else none|none=>none)=ok r:=h;cases h2:gJ d with
  |none=>rw[h2]at h;exact nk h
  |some z =>
   rw[h2]at h;obtain⟨hl,rfl⟩:=lI (show(if z.1.length<64 then ok (D.lst .ow ((bO z.1).map bS))else none)=ok r from h);obtain⟨f,e⟩:=kB h2;exact⟨f,z.1,z.2,by rw[bI h1,e],hl,rfl⟩
theorem qb{T:kJ}{N:fc}:∀{bs:bc} {cs:aF} {k:bo} {n:Nat},eZ T bs cs->aC T N k n (bs.map V.ref) (cs.map bS)
 |[],[],_,_,_=>.nil
 |[],_::_,_,_,h=>by have:=h.len;simp at this
 |_::_,[],_,_,h=>by have:=h.len;simp at this
 |b::bs,c::cs,_,_,h=>.cons (mw (h.tup 0 b c rfl rfl)) (qb ⟨by have:=h.len;simpa using this,λj a c' h1 h2=>h.tup (j+1) a c' h1 h2⟩)
theorem CJ{n:Nat}(hΦ:Φ n=oF){sc:Scope}{bl:aj}{k:Nat}(L:PX X sc bl k){e:Expr}(he:jR ("sorted" : Str) sc bl e=some args)(hs:lT X F Φ cs args):PE X e (tD X F Φ (.bU n cs))/\PT X e (fZ X F Φ (.bU n cs)):=by
 obtain⟨p,pos,a,rfl,rfl,h1,h2⟩:=lj he;cases cs with
 |nil=>exact hs.elim
 |cons c cs=>cases cs with
  |cons _ _=>exact hs.2.2.2.elim
  |nil =>
   have pa:PA X [a] (pZ X F Φ [c]):=PA.imp (cV hs.1 (PA.imp fI λ_ _ _ h=>jc h) (hs.2.1 _)) λ_ _ _ h=>fF h;have hu:X.A.units+2<cLine:=aar (ab1 (by decide:2<=64) _) L.room.units;have this:PE X (.Call (.Name ("sorted" : Str) p) [a] [] pos) (tD X F Φ (.bU n [c])):=by
    refine PE.imp (dG (wz L.calm hu) (L.gl h1) (L.bl _ h2) (by decide +kernel) pa (he:=hs.2.1 _)) λσ H Q hq=>?_;obtain⟨R,τ,ρ,d,Si,ev,hq⟩:=hq;obtain⟨xs,b7,ev⟩:=aB ev;rw[hΦ]at ev;obtain⟨f,ks,vs,rfl,hl,rfl⟩:=zK ev;refine⟨R,τ,ρ,_,Si,b7,λus H1 e1 r1=>?_⟩;obtain⟨τt,fr,rs⟩:=r1;obtain⟨v,rfl,rv⟩:=rs.one;cases rv with
    |cy hn hk hr =>
     refine⟨_,ks,_,_,_,rfl,hn.dat,hk,hl,λl bs jq Pu=>hq _ _ (e1.trans (aK.upd jq)) (b_.rb (e1.free jq) (e1.trans (aK.upd jq)) aZ ?_)⟩;exact qb (Pu.imp λ_ _ h=>aW.same (aK.upd jq) h)
   exact⟨this,cG this λ_=>rfl⟩
theorem aC.rv{T:kJ}{N:fc}{T':kJ}{N':fc}{f:D->D}{k k':bo}{m:Nat}(hm:∀{q:bo} {v:V} {d:D},Rep T N q v d->∀q',Rep T' N' q' v (f d)):∀{n:Nat} {vs:af} {ds:aa},aC T N k n vs ds->aC T' N' k' m vs.reverse (ds.map f).reverse
 |_,_,_,.nil=>.nil
 |_,_,_,.cons h t=>by
  rw[List.reverse_cons,List.map_cons,List.reverse_cons];exact(aC.rv hm t).wV (hm h _)
def Yu(K:ao)(te ts:TE):TE:=λσ H Q=>te σ H λx H1=>ts σ H1 λy H2=>∃(a:Addr) (xs:af),x=.ref a/\y=.int (-1)/\dE K H2 a xs/\∀p,H2 p=none->Q (.ref p) (upd H2 p (.lst xs.reverse))
theorem Jg{e st:Expr}{te ts:TE}{p2 pos:Pos}(he:PE X e te)(hs:PE X st ts):PE X (.Subscript e (.Slice none none (some st) p2) pos) (Yu X.K te ts):=by
 intro pins s σ H Q I h;refine Subscript_ (cN (he pins s σ H _ I h) λv s1 bF=>?_);obtain⟨x,H1,I1,r1,q1⟩:=bF;refine wpAny_Slice ?_;rw[evalPart_none];refine aad (aad ?_);rw[evalPart_some];refine cN (hs pins s1 σ H1 _ I1 q1) λu s3 bF=>?_;obtain⟨y,H3,I3,r3,a,xs,ea,ey,hx,q⟩:=bF;subst ea;subst ey;cases r1;have pu:IsPart u (some (-1)):=by obtain⟨t,rfl⟩:=r3;exact .int _ _
 have I4:Inv X pins σ H3 { s3 with heap:=s3.heap.push { cls:=.type "slice",data:=.fields #[.none,.none,u] } }:=I3.kept (t':=s3.toks) λb ob q=>aae _ q;obtain⟨aI,r,DH,hz⟩:=I4.list hx;have hl:=cR DH;have hlen:aI.length=xs.length:=r.length.symm;have hg:wpAny (model X.prog X.w) X.A (getItem (.ref a) (.ref s3.heap.objs.size)) (EP X pins σ Q) X.xe { s3 with heap:=s3.heap.push { cls:=.type "slice",data:=.fields #[.none,.none,u] } }:=by
  refine abr hl (ab5 ..) .none .none pu (by decide) ?_ (by rw[List.size_toArray,hlen];exact hz);rw[W.krv_pick];exact⟨.ref _,_,I4.Fh (t':=s3.toks) r.reverse (by rw[List.length_reverse];exact hz),rfl,q _ I4.fresh⟩
 show wpAny (model X.prog X.w) X.A (subscriptTail e (.Slice none none (some st) p2) (.ref a) (.ref s3.heap.objs.size)) (EP X pins σ Q) X.xe { s3 with heap:=s3.heap.push { cls:=.type "slice",data:=.fields #[.none,.none,u] } };exact tail_any (ops:=[.ref a,.ref s3.heap.objs.size]) hl.typeIs slot_list_getitem.lookup hg (by with_unfolding_all rfl)
def tG(xs:aa):O D:=match two xs with
 |some z=>match z.1 with
  |.lst _ ds=>match z.2 with
   |.int k=>if k = -1 then ok (.lst .ow (ds.map (aw aO)).reverse)else none
   |_=>none
  |_=>none
 |none=>none
theorem AX{x y d:D}(h:tG [x,y]=ok d):∃(f:Fl) (ds:aa),x=.lst f ds/\y=.int (-1)/\d=.lst .ow (ds.map (aw aO)).reverse:=by
 cases x<;>first|exact nk h | (cases h;done) | (cases y<;>first|exact nk h | (cases h;done)|skip)
 obtain⟨h1,h3⟩:=lI h;subst h1;exact⟨_,_,rfl,rfl,h3.symm⟩
noncomputable def MI(e:Expr):Option Expr:=match e with
 |.Slice lo hi st _=>match lo with
  |none=>match hi with
   |none=>st
   |some _=>none
  |some _=>none
 |_=>none
theorem wK{e k:Expr}(h:MI e=some k):∃p,e=.Slice none none (some k) p:=by
 cases e<;>first|exact nk h | (cases h;done)|skip
 rename_i lo hi st p;cases lo with
 |some _=>cases h
 |none=>cases hi with
  |some _=>cases h
  |none=>cases h;exact⟨p,rfl⟩
def se(_:Scope)(_:aj)(e:Expr):Option (av):=(sQ e).bind λz=>(MI z.2).bind λk=>some [z.1,k]
theorem EC{n:Nat}(hΦ:Φ n=tG){sc:Scope}{bl:aj}{k:Nat}(L:PX X sc bl k){e:Expr}(he:se sc bl e=some args)(hs:lT X F Φ cs args):PE X e (tD X F Φ (.bU n cs))/\PT X e (fZ X F Φ (.bU n cs)):=by
 obtain⟨⟨a,s⟩,hv,h⟩:=bT he;obtain⟨ke,hw,h⟩:=bT h;cases h;obtain⟨pos,rfl⟩:=gU hv;obtain⟨p,rfl⟩:=wK hw;cases cs with
 |nil=>exact hs.elim
 |cons c cs=>cases cs with
  |nil=>exact hs.2.2.2.elim
  |cons c' cs=>cases cs with
   |cons _ _=>exact hs.2.2.2.2.2.2.elim
   |nil =>
    obtain⟨h1,_,_,h2,_,_,_⟩:=hs;have this:PE X (.Subscript a (.Slice none none (some ke) p) pos) (tD X F Φ (.bU n [c,c'])):=by
     refine PE.imp (Jg h1 h2) λσ H Q hq=>?_;obtain⟨R,τ,ρ,d,Si,ev,hq⟩:=hq;obtain⟨xs,b7,ev⟩:=aB ev;obtain⟨x,ex,b7⟩:=aB b7;obtain⟨ys,jN,b7⟩:=aB b7;cases b7;obtain⟨y,ey,jN⟩:=aB jN;cases jN;rw[hΦ]at ev;obtain⟨f,ds,rfl,rfl,rfl⟩:=AX ev;refine tD.intro Si ex λv H1 e1 r1=>tD.intro (Si.go e1) ey λu H2 e2 r2=>?_;cases r2.isInt;have r2:=(r1.go e2).mono (fv':=iJ (.bU n [c,c'])) λi hi=>aat _ hi;obtain⟨τt,fr,rp⟩:=r2;obtain⟨q,xs,rfl,hn,rs⟩:=rp.sO;have ee:=e1.trans e2;refine⟨q,xs,rfl,rfl,hn.sq,λl hl=>hq _ _ (ee.trans (aK.upd hl)) (b_.rb (ee.free hl) (ee.trans (aK.upd hl)) aZ ?_)⟩;exact(aC.rv (λh q'=>Rep.fT h Si fr) rs).imp (λ_ _ h=>aW.same (aK.upd hl) h) λ_ _ _ _ h=>nd.same (aK.upd hl) h
    exact⟨this,cG this λ_=>rfl⟩
theorem qc{T:kJ}{N N':fc}:∀{k k':bo} {n n':Nat} {vs:af} {ds:aa},aC T N k n vs ds->aP anyF ds=false->aC T N' k' n' vs ds
 |_,_,_,_,_,_,.nil,_=>.nil
 |_,_,_,_,_,_,.cons h t,hf=>.cons (gZ h (z3 hf).1) (qc t (z3 hf).2)
end DI
end
section
namespace HT
open PySem PySem.Spec PyProof.Rows
variable {sl:Addr}{vs:Value}
section
variable {prog:aE}{w:World}{A:aG}{E:aA}{s:Shared}
theorem kR{n:Nat}{Q:Int×Int×Nat->Shared->Prop}(hs:s.heap.IsSliceOf sl .none .none vs)(ps:IsPart vs (some (-1)))
  (h:Q ((n:Int) - 1,-1,n) s):wpAny (model prog w) A (Builtin.Slice.sliceApplied (.ref sl) (pure (n:Int))) Q E s:=by
 obtain⟨os,Ka,lN,RJ⟩:=id hs;unfold Builtin.Slice.sliceApplied Builtin.Slice.sliceFields;refine aaa (aaa (aa7 Ka RJ (x:=.none) rfl (aaa (aa7 Ka RJ (x:=.none) rfl (aaa (aa7 Ka RJ (x:=vs) rfl (aad ?_)))))));refine aaa (vk ps ?_);show wpAny _ _ (if ((-1:Int)==0)=true then _ else _) _ _ s;rw[if_neg (by decide)];refine aaa (slicePart_none (aaa (slicePart_none (aaa (aad ?_)))));show wpAny _ _ (match Builtin.Slice.sliceAdjust none none (-1) (n:Int)with | (lo,hi)=>pure (lo,(-1:Int),Builtin.Slice.slicePlaces lo hi (-1))) _ _ s;have e:Builtin.Slice.sliceAdjust none none (-1) (n:Int)=((n:Int) - 1,-1):=by
  unfold Builtin.Slice.sliceAdjust;rfl
 rw[e];show wpAny _ _ (pure ((n:Int) - 1,(-1:Int),Builtin.Slice.slicePlaces ((n:Int) - 1) (-1) (-1))) _ _ s;have e2:Builtin.Slice.slicePlaces ((n:Int) - 1) (-1) (-1)=n:=by
  unfold Builtin.Slice.slicePlaces;have h1:¬ ((-1:Int)>0):=by decide
  simp only[h1,if_false];split
  ·rename_i hh;rw[show(- -1:Int)=1 by decide,Int.ediv_one];left
  ·left
 rw[e2];exact aad h
theorem ui{α β:Type}{f g:α->Option β}:∀{l:List α},(∀m∈l,f m=g m)->l.filterMap f=l.filterMap g
 |[],_=>rfl
 |a::l,h=>by
  rw[List.filterMap_cons,List.filterMap_cons,h a List.mem_cons_self,ui λm hm=>h m (List.mem_cons_of_mem _ hm)]
theorem Bc(xs:aR):((List.range xs.size).filterMap λ(m:Nat)=>xs[(((xs.size:Int) - 1)+(m:Int)*(-1)).toNat]?).toArray=xs.toList.reverse.toArray:=by
 have:=W.krv_pick xs;rw[<- this];unfold slicePick;rw[W.krv_bounds];show _=((sliceRange ((xs.size:Int) - 1) (-1) (-1)).filterMap (xs[·]?)).toArray;rw[W.krv_sliceRange,List.filterMap_map];congr 1;refine ui λm hm=>?_;have:=List.mem_range.mp hm;show xs[_]?=xs[xs.size - 1 - m]?;congr 1;left
theorem kr{t:Addr}{items:aR}{Q:aA}(ht:IsTup s.heap t items)(hs:s.heap.IsSliceOf sl .none .none vs)(ps:IsPart vs (some (-1)))
  (h:Q (.ref s.heap.objs.size) { s with heap:=s.heap.push { cls:=.type "tuple",data:=.seq items.toList.reverse.toArray } })
  (hsz:items.size<=sizeLine):wpAny (model prog w) A (getItem (.ref t) (.ref sl)) Q E s:=by
 have xO:sizeOk (.seq items.toList.reverse.toArray):=by
  show items.toList.reverse.toArray.size<=sizeLine;rw[List.size_toArray,List.length_reverse,Array.length_toList];exact hsz
 obtain⟨os,Ka,lN,RJ⟩:=id hs;have Z_:s.TypeIs (.ref sl) "slice":=⟨os,Ka,lN⟩
 unfold getItem
 try with_reducible refine aaB ?_
 first|refine aaa (aad ?_)|skip
 refine aaa (wpAny_sequenceKey ht.typeIs (by decide) ?_);refine aaa (aaX (name:=Str.ofString "__getitem__") ht.typeIs PyProof.Rows.slot_tuple_getitem
  (aaI PyProof.Rows.slot_tuple_getitem ht.typeIs entry_tuple_getitem ?_ (args_tuple_getitem _ _)))
 show wpAny _ _ (Builtin.Tuple.tupleItemsOf (.ref t) >>= _) _ _ s;refine aaa (tupleItemsOf_ ht ?_);refine aaa (wpAny_typeOf Z_ ?_);rw[if_pos (by decide)];refine aaa (kR hs ps ?_);have ZD:¬ ((((items.size:Int) - 1)==0&&(-1:Int)==1&&items.size==items.size)=true):=by
  intro q;rw[Bool.and_eq_true,Bool.and_eq_true]at q;exact absurd q.1.2 (by decide)
 show wpAny _ _ (if (((items.size:Int) - 1)==0&&(-1:Int)==1&&items.size==items.size)=true then _ else _) _ _ s;rw[if_neg ZD,Bc]
 first
  |exact aaa (m:=Builtin.Tuple.tupleExact _) (aaF (aad ⟨_,rfl,aad h⟩) xO)
  |exact aaa (m:=Builtin.Tuple.tupleExact _) (aaF (aaa (aad (aad ⟨_,rfl,aad h⟩))) xO)
  |exact aaa (aaa (m:=Builtin.Tuple.tupleExact _) (aaF (aad (aad ⟨_,rfl,aad h⟩)) xO))
  |exact aaa (aaa (m:=Builtin.Tuple.tupleExact _) (aaF (aad ⟨_,rfl,aad h⟩) xO))
end
end HT
namespace DI
open PySem PySem.Spec PyProof.Rows L2
theorem aC.Q7{T:kJ}{N:fc}{k k':bo}{m:Nat}:∀{n:Nat} {vs:af} {ds:aa},aC T N k n vs ds->aP anyF ds=false->aC T N k' m vs.reverse ds.reverse
 |_,_,_,.nil,_=>.nil
 |_,_,_,.cons h t,hf=>by
  rw[List.reverse_cons,List.reverse_cons];exact(aC.Q7 t (z3 hf).2).wV (gZ h (z3 hf).1)
def SD(K:ao)(te ts:TE):TE:=λσ H Q=>te σ H λx H1=>ts σ H1 λy H2=>∃(a:Addr) (xs:af),x=.ref a/\y=.int (-1)/\aW K H2 a xs/\∀p,H2 p=none->Q (.ref p) (upd H2 p (.tup xs.reverse))
variable {X:Cx}
theorem EK{e st:Expr}{te ts:TE}{p2 pos:Pos}(he:PE X e te)(hs:PE X st ts):PE X (.Subscript e (.Slice none none (some st) p2) pos) (SD X.K te ts):=by
 intro pins s σ H Q I h;refine Subscript_ (cN (he pins s σ H _ I h) λv s1 bF=>?_);obtain⟨x,H1,I1,r1,q1⟩:=bF;refine wpAny_Slice ?_;rw[evalPart_none];refine aad (aad ?_);rw[evalPart_some];refine cN (hs pins s1 σ H1 _ I1 q1) λu s3 bF=>?_;obtain⟨y,H3,I3,r3,a,xs,ea,ey,hx,q⟩:=bF;subst ea;subst ey;cases r1;have pu:IsPart u (some (-1)):=by obtain⟨t,rfl⟩:=r3;exact .int _ _
 have I4:Inv X pins σ H3 { s3 with heap:=s3.heap.push { cls:=.type "slice",data:=.fields #[.none,.none,u] } }:=I3.kept (t':=s3.toks) λb ob q=>aae _ q;obtain⟨aI,r,ht,hz⟩:=I4.tuple hx;have hlen:aI.toArray.size=xs.length:=by rw[List.size_toArray];exact r.length.symm
 have hg:wpAny (model X.prog X.w) X.A (getItem (.ref a) (.ref s3.heap.objs.size)) (EP X pins σ Q) X.xe { s3 with heap:=s3.heap.push { cls:=.type "slice",data:=.fields #[.none,.none,u] } }:=by
  refine HT.kr ht (ab5 ..) pu ?_ (by rw[hlen];exact hz);refine⟨.ref _,_,I4.laid (t':=s3.toks) (o:=.tup xs.reverse) (λb ob q=>aae _ q) (aai _) ?_,rfl,q _ (I4.cC.fresh (aai _))⟩;exact⟨by rw[List.length_reverse];exact hz,_,r.reverse,IsTup.new _ _⟩
 show wpAny (model X.prog X.w) X.A (subscriptTail e (.Slice none none (some st) p2) (.ref a) (.ref s3.heap.objs.size)) (EP X pins σ Q) X.xe { s3 with heap:=s3.heap.push { cls:=.type "slice",data:=.fields #[.none,.none,u] } };exact tail_any (ops:=[.ref a,.ref s3.heap.objs.size]) ht.typeIs PyProof.Rows.slot_tuple_getitem.lookup hg (by with_unfolding_all rfl)
def w6(xs:aa):O D:=match two xs with
 |some z=>match z.1 with
  |.tup ds=>match z.2 with
   |.int k=>if k = -1/\aP anyF ds=false then ok (.tup ds.reverse)else none
   |_=>none
  |_=>none
 |none=>none
theorem AW{x y d:D}(h:w6 [x,y]=ok d):∃(ds:aa),x=.tup ds/\y=.int (-1)/\aP anyF ds=false/\d=.tup ds.reverse:=by
 cases x<;>first|exact nk h | (cases h;done) | (cases y<;>first|exact nk h | (cases h;done)|skip)
 obtain⟨⟨h1,h2⟩,h3⟩:=lI h;subst h1;exact⟨_,rfl,rfl,h2,h3.symm⟩
variable {F:Addr->Prop}{args:av}{cs:az}{Φ:bh}
theorem EB{n:Nat}(hΦ:Φ n=w6){sc:Scope}{bl:aj}{k:Nat}(L:PX X sc bl k){e:Expr}(he:se sc bl e=some args)(hs:lT X F Φ cs args):PE X e (tD X F Φ (.bU n cs))/\PT X e (fZ X F Φ (.bU n cs)):=by
 obtain⟨⟨a,s⟩,hv,h⟩:=bT he;obtain⟨ke,hw,h⟩:=bT h;cases h;obtain⟨pos,rfl⟩:=gU hv;obtain⟨p,rfl⟩:=wK hw;cases cs with
 |nil=>exact hs.elim
 |cons c cs=>cases cs with
  |nil=>exact hs.2.2.2.elim
  |cons c' cs=>cases cs with
   |cons _ _=>exact hs.2.2.2.2.2.2.elim
   |nil =>
    obtain⟨h1,_,_,h2,_,_,_⟩:=hs;have this:PE X (.Subscript a (.Slice none none (some ke) p) pos) (tD X F Φ (.bU n [c,c'])):=by
     refine PE.imp (EK h1 h2) λσ H Q hq=>?_;obtain⟨R,τ,ρ,d,Si,ev,hq⟩:=hq;obtain⟨xs,b7,ev⟩:=aB ev;obtain⟨x,ex,b7⟩:=aB b7;obtain⟨ys,jN,b7⟩:=aB b7;cases b7;obtain⟨y,ey,jN⟩:=aB jN;cases jN;rw[hΦ]at ev;obtain⟨ds,rfl,rfl,hf,rfl⟩:=AW ev;refine tD.intro Si ex λv H1 e1 r1=>tD.intro (Si.go e1) ey λu H2 e2 r2=>?_;cases r2.isInt;obtain⟨τt,fr,rp⟩:=r1;cases rp with
     | @tup _ q xs _ hT rs =>
      have hT2:aW X.K H2 q xs:=aW.same e2 hT;have ee:=e1.trans e2;refine⟨q,xs,rfl,rfl,hT2,λl hl=>hq _ _ (ee.trans (aK.upd hl)) ⟨λ_=>none,λ_ _ h=>by simp at h,.tup (aW.of aZ) ?_⟩⟩;have r0:=qc (N':=nd X.K R (jD (gP X F) τ (iJ (.bU n [c,c']))) (λ_=>none) H1) (k':=[]) (n':=0) rs hf;have r3:=aC.Q7 (k':=[]) (m:=0) r0 hf;exact(r3.imp (λ_ _ h=>aW.same (e2.trans (aK.upd hl)) h) λ_ _ _ _ h=>nd.same (e2.trans (aK.upd hl)) h)
    exact⟨this,cG this λ_=>rfl⟩
def LK(h:Heap)(vs:ai)(nss:aF):Prop:=vs.length=nss.length/\∀(i:Nat) (ns:ae),nss[i]?=some ns->∃t x z aI o7 ms,vs[i]?=some (.ref t)/\IsTup h t #[.ref x,.ref z]/\IsTup h x aI.toArray/\IntsAre aI ns/\IsTup h z o7.toArray/\IntsAre o7 ms
variable {h:Heap}{aI vs:ai}{nss:aF}
theorem LK.mono{h':Heap}(k:∀b o,h.get? b=some o->h'.get? b=some o)(t:LK h vs nss):LK h' vs nss:=by
 have km:∀{a:Addr} {xs:aR},IsTup h a xs->IsTup h' a xs:=λ⟨o,h1,r⟩=>⟨o,k _ _ h1,r⟩
 exact⟨t.1,λi ns e=>let ⟨a,x,z,aI,o7,ms,e1,e2,e3,e4,e5,e6⟩:=t.2 i ns e;⟨a,x,z,aI,o7,ms,e1,km e2,km e3,e4,km e5,e6⟩⟩
theorem xJ{a:Addr}{xs ys:aR}(hx:IsTup h a xs)(hy:IsTup h a ys):xs=ys:=by
 obtain⟨o,h1,_,n1,d1⟩:=hx;obtain⟨o',h2,_,n2,d2⟩:=hy;rw[h1]at h2;cases h2;rw[d1]at d2;injection d2
theorem xN:∀{aI:ai} {ns ms:ae},IntsAre aI ns->IntsAre aI ms->ns=ms
 |_,_,_,.nil,.nil=>rfl
 |_,_,_,.cons n t h,.cons _ _ h'=>by rw[xN h h']
variable {ns:ae}
section
variable {prog:aE}{w:World}{A:aG}{E:aA}{s:Shared}
theorem nW:∀{aI:ai} {ns:ae},IntsAre aI ns->ItemsAre (intKind prog w) ns aI
 |_,_,.nil=>.nil
 |_,_,.cons n t h=>.cons (by simp[intKind,Value.isInt]) (nW h)
theorem mv{a:Addr}(ha:IsTup h a aI.toArray)(hi:IntsAre aI ns):IsTupleKey (intKind prog w) h ns a:=by
 obtain⟨o,h1,h2,n,h3⟩:=ha;exact⟨o,aI.toArray,n,h1,h2,h3,by simpa using nW hi⟩
theorem tP:∀{vs:ai} {nss:aF},LK s.heap vs nss->∃fs,PySem.W.KatTups s.heap vs fs/\fs.length=vs.length/\∀v∈fs,PySem.W.Looks (model prog w) s.heap (typeOf v) (.type "tuple")
 |[],_,_=>⟨[],trivial,rfl,λ_ h=>nomatch h⟩
 |v::vs,[],t=>by have:=t.1;simp at this
 |v::vs,ns::nss,t=>by
  obtain⟨a,x,z,aI,o7,ms,e1,⟨o,h1,h2,n,h3⟩,⟨o',g1,g2,n',g3⟩,e4,_,_⟩:=t.2 0 ns rfl;cases e1;obtain⟨fs,f1,f2,f3⟩:=tP (vs:=vs) (nss:=nss) ⟨by simpa using t.1,λi ms e=>t.2 (i+1) ms e⟩;refine⟨.ref x::fs,.cons h1 h2 h3 rfl f1,by simp[f2],λv hv=>?_⟩;rcases List.mem_cons.mp hv with rfl|hv
  ·rw[<- g2];exact(aci g1).andThen .now
  ·exact f3 v hv
theorem Fn{Q:SortKind->Shared->Prop}(t:LK s.heap vs nss)(sJ:vs≠[])(h:Q (tuples' false) s):wpAny (model prog w) A (keyKind' vs.toArray) Q E s:=by
 obtain⟨fs,f1,f2,f3⟩:=tP (prog:=prog) (w:=w) t;exact PySem.W.kat_kind f1 (by rw[f2];exact(List.length_pos_iff.mpr sJ)) f3 (by decide) h
theorem Of(hu:A.units<cLine){a b x y z u:Addr}{o7 its' Fp:ai}{ms g5 o6:ae}{Q:Bool->Shared->Prop}(ha:IsTup s.heap a #[.ref x,.ref z])(hb:IsTup s.heap b #[.ref y,.ref u])(hx:IsTup s.heap x aI.toArray)(ix:IntsAre aI ns)(hz:IsTup s.heap z o7.toArray)(iz:IntsAre o7 ms)
  (hy:IsTup s.heap y its'.toArray) (iy:IntsAre its' g5) (hv:IsTup s.heap u Fp.toArray) (iv:IntsAre Fp o6) (hs:ns=g5->ms=o6) (h:Q (HT.lexLt ns g5) s):wpAny (model prog w) A (keyLt' (tuples' false) (.ref a) (.ref b)) Q E s:=by
 obtain⟨o,h1,_,n,h3⟩:=ha;obtain⟨o',g1,_,n',g3⟩:=hb;refine PySem.W.kat_lt h1 h3 g1 g3 (ach (wpAny_eqBool_tuple (knd:=intKind prog w) hu (mv hx ix) (mv hy iy) ?_));by_cases e:ns=g5
 ·rw[decide_eq_true e];refine acj (ach (wpAny_eqBool_tuple (knd:=intKind prog w) hu (mv hz iz) (mv hv iv) ?_));rw[decide_eq_true (hs e)];refine acj (PySem.W.kat_nil ?_);subst e;have:HT.lexLt ns ns=false:=by
   cases q:HT.lexLt ns ns with
   |false=>rfl
   |true=>rw[kY _ _ q]at q;cases q
  rw[this]at h;exact h
 ·rw[decide_eq_false e];exact PySem.W.kat_no (ack _ _ (HT.nQ hx hy (by simpa using ix) (by simpa using iy) hu h))
theorem AB{a:Addr}{n:Nat}{P:PySem.Fin->Shared->Prop}(hu:A.units<cLine)(ho:s.heap.get? a=some (seqObj "list" vs.toArray n))(qm:vs.length<64)(k8:nss.Nodup)
  (ht:LK (((s.heap.update a (Obj.mapSeq λ_=>#[])).push (seqObj "tuple" vs.toArray 0)).push (seqObj "list" #[] 0)) vs nss)
  (h:∀p:Array Nat,Arr p vs.length->(p.toList.map λi=>nss.getD i [])=bO nss->P (.done (.ret .none)) { s with heap:=sortedHeap s.heap a vs (List.toArray (p.toList.map λi=>vs.getD i Value.none)) }) :
  wpAny (model prog w) A (Builtin.«list.sort» ⟨[.ref a],[]⟩) P E s :=
 s_ ho qm k8 ht.1 (λκ=>κ=tuples' false) (λsJ Q hQ=>Fn ht sJ (hQ _ rfl)) (λκ hk i j hi hj E' Q hq=>by
  subst hk;obtain⟨t,x,z,aI,o7,ms,e1,e2,e3,e4,e5,e6⟩:=ht.2 i _ (aak hi);obtain⟨t',y,u,its',Fp,o6,f1,f2,f3,f4,f5,f6⟩:=ht.2 j _ (aak hj);rw[show vs.getD i Value.none=.ref t by simp[e1],show vs.getD j Value.none=.ref t' by simp[f1]];refine Of hu e2 f2 e3 e4 e5 e6 f3 f4 f5 f6 (λe=>?_) hq;have:=(abG k8).mp e;subst this;rw[e1]at f1;cases f1;have:=xJ e2 f2;cases this;have:o7=Fp:=by simpa using xJ e5 f5
  subst this;exact xN e6 f6) h
end
noncomputable abbrev j0:=ae×ae
def cJ(c:j0):D:=.tup [bS c.1,bS c.2]
def yY(d:D):Option j0:=match d with
 |.tup ds=>match two ds with
  |some z=>match keyOf z.1 with
   |some a=>match keyOf z.2 with
    |some b=>some (a,b)
    |none=>none
   |none=>none
  |none=>none
 |_=>none
theorem EI{d:D}{c:j0}(h:yY d=some c):d=cJ c:=by
 cases d<;>first | (cases h;done)|skip
 rename_i ds;have h:(match two ds with|some z=>(match keyOf z.1 with|some a=>(match keyOf z.2 with|some b=>some (a,b)|none=>none)|none=>none)|none=>none)=some c:=h;cases h1:two ds with
 |none=>rw[h1]at h;cases h
 |some z =>
  rw[h1]at h;have h:(match keyOf z.1 with|some a=>(match keyOf z.2 with|some b=>some (a,b)|none=>none)|none=>none)=some c:=h;cases h2:keyOf z.1 with
  |none=>rw[h2]at h;cases h
  |some a =>
   rw[h2]at h;have h:(match keyOf z.2 with|some b=>some (a,b)|none=>none)=some c:=h;cases h3:keyOf z.2 with
   |none=>rw[h3]at h;cases h
   |some b =>
    rw[h3]at h;cases h;rw[fD h1,iS h2,iS h3];rfl
theorem A_(c:j0):yY (cJ c)=some c:=by
 have h1:keyOf (bS c.1)=some c.1:=bw c.1;have h2:keyOf (bS c.2)=some c.2:=bw c.2;show(match keyOf (bS c.1)with|some a=>(match keyOf (bS c.2)with|some b=>some (a,b)|none=>none)|none=>none)=_;rw[h1,h2]
def pB:aa->Option (List j0)
 |[]=>some []
 |d::ds=>match yY d with
  |some c=>(pB ds).map (c :: ·)
  |none=>none
theorem w_:∀{ds:aa} {cs:List j0},pB ds=some cs->ds=cs.map cJ
 |[],cs,h=>by cases h;rfl
 |d::ds,cs,h=>by
  have h:(match yY d with|some c=>(pB ds).map (c :: ·)|none=>none)=some cs:=h;cases hk:yY d with
  |none=>rw[hk]at h;cases h
  |some c =>
   rw[hk]at h;obtain⟨mss,h1,rfl⟩:=Option.map_eq_some_iff.mp (show(pB ds).map (c :: ·)=some cs from h);rw[w_ h1,EI hk];rfl
theorem tO:∀cs:List j0,pB (cs.map cJ)=some cs
 |[]=>rfl
 |c::cs=>by
  show(match yY (cJ c)with|some c=>(pB (cs.map cJ)).map (c :: ·)|none=>none)=_;rw[A_,tO cs];rfl
def AI:List j0->ae->ae
 |[],_=>[]
 |c::cs,n=>if c.1=n then c.2 else AI cs n
def dF(cs:List j0):List j0:=(bO (cs.map (·.1))).map λn=>(n,AI cs n)
theorem nA:∀{cs:List j0} {c:j0},(cs.map (·.1)).Nodup->c∈cs->AI cs c.1=c.2
 |d::cs,c,hn,h=>by
  obtain⟨h1,h2⟩:=List.nodup_cons.mp hn;unfold AI;rcases List.mem_cons.mp h with rfl|h
  ·rw[if_pos rfl]
  ·rw[if_neg λe=>h1 (by show d.1∈_;rw[e];exact List.mem_map_of_mem h)];exact nA h2 h
def GS(K:ao)(H:Hp)(ys:af)(cs:List j0):Prop:=ys.length=cs.length/\∀(i:Nat) (c:j0),cs[i]?=some c->∃t x z,ys[i]?=some (.ref t)/\aW K H t [.ref x,.ref z]/\aW K H x (c.1.map V.int)/\aW K H z (c.2.map V.int)
theorem GS.same{K:ao}{H H':Hp}{ys:af}{cs:List j0}(h:GS K H ys cs)(e:aK H H'):GS K H' ys cs:=⟨h.1,λi c q=>let ⟨t,x,z,a,b,c,d⟩:=h.2 i c q;⟨t,x,z,a,aW.same e b,aW.same e c,aW.same e d⟩⟩
theorem y3{K:ao}{H:Hp}{N:fc}{k:bo}{n:Nat}{ys:af}{cs:List j0}(r:aC (aW K H) N k n ys (cs.map cJ)):GS K H ys cs:=by
 refine⟨by rw[r.length,List.length_map],λi c e=>?_⟩;obtain⟨v,hv,rv⟩:=r.get (j:=i) (d:=cJ c) (by rw[List.getElem?_map,e];rfl);obtain⟨t,xs,rfl,ht,rs⟩:=Rep.yD rv;cases rs with
 |cons h1 rs=>cases rs with
  |cons h2 rs =>
   cases rs;obtain⟨x,_,rfl,hx,r1⟩:=Rep.yD h1;obtain⟨z,_,rfl,hz,r2⟩:=Rep.yD h2;cases r1.ofInts;cases r2.ofInts;exact⟨t,x,z,hv,ht,hx,hz⟩
theorem nF{K:ao}{H:Hp}{N:fc}:∀{ys:af} {cs:List j0} {k:bo} {n:Nat},GS K H ys cs->aC (aW K H) N k n ys (cs.map cJ)
 |[],[],_,_,_=>.nil
 |[],_::_,_,_,h=>by have:=h.1;simp at this
 |_::_,[],_,_,h=>by have:=h.1;simp at this
 |y::ys,c::cs,_,_,h=>by
  obtain⟨t,x,z,e1,e2,e3,e4⟩:=h.2 0 c rfl;cases e1;exact .cons (.tup e2 (.cons (mw e3) (.cons (mw e4) .nil))) (nF ⟨by have:=h.1;simpa using this,λi c' h1=>h.2 (i+1) c' h1⟩)
section
variable {prog:aE}{w:World}{A:aG}{E:aA}{s:Shared}
theorem qL{l:Addr}{Q:aA}(hu:A.units+2<cLine)(hl:s.heap.IsList l vs.toArray)(qm:vs.length<64)(k8:nss.Nodup)(ht:LK s.heap vs nss)
  (h:∀p:Array Nat,Arr p vs.length->(p.toList.map λi=>nss.getD i [])=bO nss->Q (.ref (s.heap.objs.size+1)) { s with heap:=sortedAll s.heap vs (List.toArray (p.toList.map λi=>vs.getD i Value.none)) }) :
  wpAny (model prog w) A (call (.builtin "sorted") [.ref l]) Q E s:=by
 refine abk kind_sorted plain_sorted entry_sorted (args_sorted1 _) ?_;unfold Builtin.«sorted»;have hz:vs.length<=sizeLine:=by rw[sizeLine_eq];left
 refine aaa (m:=checkCount "sorted" 1 1 _) (aad (aaa (collect_list hl (aaa (abF ?_ hz)) hz)));have e1:((s.heap.push (seqObj "list" #[] 0)).update s.heap.objs.size (Obj.mapSeq (· ++ vs.toArray))).objs.size=s.heap.objs.size+1:=by rw[Heap.size_update,size_push']
 have e2:(((s.heap.push (seqObj "list" #[] 0)).update s.heap.objs.size (Obj.mapSeq (· ++ vs.toArray))).push (seqObj "list" vs.toArray 0)).get? (s.heap.objs.size+1)=some (seqObj "list" vs.toArray 0):=by
  rw[<- e1];exact aan _ rfl
 show wpAny _ _ _ _ _ ({ s with heap:=((s.heap.push (seqObj "list" #[] 0)).update s.heap.objs.size (Obj.mapSeq (· ++ vs.toArray))).push (seqObj "list" vs.toArray 0) }:Shared);rw[e1];have k1:∀b o,s.heap.get? b=some o->(((s.heap.push (seqObj "list" #[] 0)).update s.heap.objs.size (Obj.mapSeq (· ++ vs.toArray))).push (seqObj "list" vs.toArray 0)).get? b=some o:=λb o e=>by
  refine aae _ ?_;rw[Heap.get?_update_other _ _ (Nat.ne_of_gt (Heap.lt_size e))];exact aae _ e
 have k6:∀b o,s.heap.get? b=some o->((((((s.heap.push (seqObj "list" #[] 0)).update s.heap.objs.size (Obj.mapSeq (· ++ vs.toArray))).push (seqObj "list" vs.toArray 0)).update (s.heap.objs.size+1) (Obj.mapSeq λ_=>#[])).push (seqObj "tuple" vs.toArray 0)).push (seqObj "list" #[] 0)).get? b=some o:=λb o e=>by
  refine aae _ (aae _ ?_);rw[Heap.get?_update_other _ _ (Nat.ne_of_gt (Nat.lt_succ_of_lt (Heap.lt_size e)))];exact k1 b o e
 exact aaa (aaB (aaI slot_list_sort ⟨_,e2,rfl⟩ entry_list_sort (AB (s:={ s with heap:=((s.heap.push (seqObj "list" #[] 0)).update s.heap.objs.size (Obj.mapSeq (· ++ vs.toArray))).push (seqObj "list" vs.toArray 0) }) (nss:=nss) (show A.in1.in1.units<cLine by show A.units+1+1<cLine;left) e2 (by left) k8 (ht.mono k6) λp hp hs=>⟨_,rfl,aad ⟨_,rfl,h p hp hs⟩⟩) (args_list_sort _)))
end
theorem wy(hu:X.A.units+2<cLine):e_ X (.builtin "sorted") (λxs H Q=>∃(p:Addr) (ys:af) (cs:List j0),xs=[.ref p]/\dE X.K H p ys/\GS X.K H ys cs/\(cs.map (·.1)).Nodup/\cs.length<64 /\
  ∀(l:Addr) (bs:af),H l=none->GS X.K H bs (dF cs)->Q (.ref l) (upd H l (.lst bs))):=by
 intro pins s σ H xs us Q I r h;obtain⟨p,ys,cs,rfl,hq,⟨hl,hT⟩,k8,qm,q⟩:=h;obtain⟨u,rfl,ru⟩:=r.one;cases ru;obtain⟨aI,rv,pl,hz⟩:=I.list hq;have Pd:aI.length=cs.length:=by rw[<- rv.length];exact hl
 refine qL (nss:=cs.map (·.1)) hu (cR pl) (by left) k8 ⟨by rw[List.length_map,Pd],λi ns e=>?_⟩ λpm hp hs=>?_
 ·rw[List.getElem?_map]at e;obtain⟨c,ec,rfl⟩:=Option.map_eq_some_iff.mp e;obtain⟨t,x,z,e1,e2,e3,e4⟩:=hT i c ec;obtain⟨u,hu,ru⟩:=rv.get e1;cases ru;obtain⟨Zb,rk,ik,_⟩:=I.tuple e2;obtain⟨o7,rj,ij,_⟩:=I.tuple e3;obtain⟨Y9,rm,im,_⟩:=I.tuple e4;have:Zb=[.ref x,.ref z]:=by
   cases rk with
   |cons a b=>cases b with
    |cons b c=>cases c;cases a;cases b;rfl
  subst this;exact⟨t,x,z,o7,Y9,c.2,hu,ik,ij,cM rj,im,cM rm⟩
 ·have hm:∀i∈pm.toList,i<cs.length:=λi hi=>by rw[<- Pd];exact List.mem_range.mp (hp.pm.mem_iff.mp hi)
  have B3:∀l:aN,(∀i∈l,i<cs.length)->Vals (l.map λi=>ys.getD i .bu) (l.map λi=>aI.getD i Value.none):=λl=>by
   induction l with
   |nil=>intro _;exact .nil
   |cons i l ih =>
    intro h;have hi:=h i aah;have hy:ys[i]?=some (ys[i]'(by left)):=aak _;obtain⟨u,hu,ru⟩:=rv.get hy;refine .cons ?_ (ih λj hj=>h j (aag _ hj));simpa [hy,hu]using ru
  have Zv:GS X.K H (pm.toList.map λi=>ys.getD i .bu) (dF cs):=by
   have e:dF cs=pm.toList.map λi=>cs.getD i ([],[]):=by
    unfold dF;rw[<- hs,List.map_map];refine aay λi hi=>?_;have iL:=hm i hi;have e1:(cs.map (·.1)).getD i []=(cs[i]).1:=by simp[iL]
    have e2:cs.getD i ([],[])=cs[i]:=by simp[iL]
    show((cs.map (·.1)).getD i [],AI cs ((cs.map (·.1)).getD i []))=_;rw[e1,e2,nA k8 (List.getElem_mem iL)]
   rw[e];refine⟨by simp,λj c h1=>?_⟩;rw[List.getElem?_map]at h1;obtain⟨i,hi,rfl⟩:=Option.map_eq_some_iff.mp h1;have iL:=hm i (aap hi);obtain⟨t,x,z,e1,e2,e3,e4⟩:=hT i (cs[i]) (aak iL);have ec:cs.getD i ([],[])=cs[i]:=by simp[iL]
   rw[ec];refine⟨t,x,z,?_,e2,e3,e4⟩;rw[List.getElem?_map,hi];simp[e1]
  obtain⟨e,he⟩:=sortedAll_at s.heap aI (List.toArray (pm.toList.map λi=>aI.getD i Value.none));have hn:H (s.heap.objs.size+1)=none:=I.cC.fresh (abh _);refine⟨.ref (s.heap.objs.size+1),upd H (s.heap.objs.size+1) (.lst (pm.toList.map λi=>ys.getD i .bu)),I.laid (t':=s.toks) (λb u z=>sortedAll_old z) (abh _) ⟨?_,_,e,B3 _ hm,he⟩,rfl,q _ _ hn Zv⟩;rw[List.length_map,Array.length_toList,hp.sz,sizeLine_eq];left
def kQ(xs:aa):O D:=match one xs with
 |some x=>match x with
  |.lst _ ds=>match pB ds with
   |some cs=>if (cs.map (·.1)).Nodup/\cs.length<64 then ok (.lst .ow ((dF cs).map cJ))else none
   |none=>none
  |_=>none
 |none=>none
variable {xs:aa}
theorem yP{r:D}(h:kQ xs=ok r):∃(f:Fl) (cs:List j0),xs=[.lst f (cs.map cJ)]/\(cs.map (·.1)).Nodup/\cs.length<64/\r=.lst .ow ((dF cs).map cJ):=by
 unfold kQ at h;cases h1:one xs with
 |none=>rw[h1]at h;cases h
 |some x =>
  rw[h1]at h;obtain rfl:=bI h1;cases x<;>first | (cases h;done)|skip
  rename_i f ds;have h:(match pB ds with|some cs=>if (cs.map (·.1)).Nodup/\cs.length<64 then ok (D.lst .ow ((dF cs).map cJ))else none|none=>none)=ok r:=h;cases h2:pB ds with
  |none=>rw[h2]at h;cases h
  |some cs =>
   rw[h2]at h;obtain⟨⟨g1,g2⟩,g3⟩:=lI h;cases w_ h2;exact⟨f,cs,rfl,g1,g2,g3.symm⟩
theorem AF{n:Nat}(hΦ:Φ n=kQ){sc:Scope}{bl:aj}{k:Nat}(L:PX X sc bl k){e:Expr}(he:jR ("sorted" : Str) sc bl e=some args)(hs:lT X F Φ cs args):PE X e (tD X F Φ (.bU n cs))/\PT X e (fZ X F Φ (.bU n cs)):=by
 obtain⟨p,pos,a,rfl,rfl,h1,h2⟩:=lj he;cases cs with
 |nil=>exact hs.elim
 |cons c cs=>cases cs with
  |cons _ _=>exact hs.2.2.2.elim
  |nil =>
   have pa:PA X [a] (pZ X F Φ [c]):=PA.imp (cV hs.1 (PA.imp fI λ_ _ _ h=>jc h) (hs.2.1 _)) λ_ _ _ h=>fF h;have hu:X.A.units+2<cLine:=aar (ab1 (by decide:2<=64) _) L.room.units;have this:PE X (.Call (.Name ("sorted" : Str) p) [a] [] pos) (tD X F Φ (.bU n [c])):=by
    refine PE.imp (dG (wy hu) (L.gl h1) (L.bl _ h2) (by decide +kernel) pa (he:=hs.2.1 _)) λσ H Q hq=>?_;obtain⟨R,τ,ρ,d,Si,ev,hq⟩:=hq;obtain⟨xs,b7,ev⟩:=aB ev;rw[hΦ]at ev;obtain⟨f,cs,rfl,g1,g2,rfl⟩:=yP ev;refine⟨R,τ,ρ,_,Si,b7,λus H1 e1 r1=>?_⟩;obtain⟨τt,fr,rs⟩:=r1;obtain⟨v,rfl,rv⟩:=rs.one;cases rv with
    |lst h r =>
     refine⟨_,_,cs,rfl,h.sq,y3 r,g1,g2,λl bs jq Pu=>hq _ _ (e1.trans (aK.upd jq)) (b_.rb (e1.free jq) (e1.trans (aK.upd jq)) aZ ?_)⟩;exact nF (Pu.same (aK.upd jq))
   exact⟨this,cG this λ_=>rfl⟩
section
variable {X:Cx}
end
noncomputable def bq(g b:Bool):Bool:=match g with
 |true=>b
 |false=>!b
def Tv(g:Bool)(xs:aa):O D:=match two xs with
 |some z=>match z.2 with
  |.lst _ ds=>if dX 8 z.1=true/\ds.all (dX 8)=true then ok (.bl (bq g (ds.any λd=>ia d z.1)))else none
  |_=>none
 |none=>none
abbrev Rp:=Tv false
variable {g:Bool}
theorem IV{x y d:D}(h:Tv g [x,y]=ok d):∃f ds,y=.lst f ds/\dX 8 x=true/\ds.all (dX 8)=true/\d=.bl (bq g (ds.any λd=>ia d x)):=by
 cases y<;>first | (cases h;done)|skip
 rename_i f ds;obtain⟨⟨h1,h2⟩,h3⟩:=lI h;exact⟨f,ds,rfl,h1,h2,h3.symm⟩
noncomputable abbrev Mo(g:Bool):CmpOp:=if g then .In else .NotIn
structure Seen(K:ao)(H:Hp)(x:V)(d:D):Prop where
 ex:∃(N:fc) (k:bo),Rep (aW K H) N k x d/\∀q p xs f,N q p (.l xs) f->dE K H p xs
structure QO(K:ao)(H:Hp)(xs:af)(ds:aa):Prop where
 ex:∃(N:fc) (k:bo),aC (aW K H) N k 0 xs ds/\∀q p xs f,N q p (.l xs) f->dE K H p xs
def WG(g:Bool)(K:ao):R2:=λx y H Q=>∃p xs ds d,y=.ref p/\dE K H p xs/\QO K H xs ds/\Seen K H x d/\dX 8 d=true/\ds.all (dX 8)=true/\Q (.bl (bq g (ds.any λe=>ia e d))) H
section
variable {X:Cx}
open Classical in
theorem GZ(g:Bool)(hu:X.A.units+1+8<cLine):js X (compareOp (Mo g)) (WG g X.K):=by
 intro pins s σ H x y v u Q I rx ry h;obtain⟨p,xs,ds,d,rfl,hq,⟨N,k,rs,hN⟩,⟨N',k',rp,zD⟩,ho,Ka,q⟩:=h;cases ry;obtain⟨aI,r,pl,hz⟩:=I.list hq;have at_:∀(j:Nat) (w:Value),aI[j]?=some w->∃e,ds[j]?=some e/\SeqAt.EqAt X.A.in1 s w v (ia e d):=λj w hw=>by
  have RG:j<xs.length:=by rw[r.length];exact(List.getElem?_eq_some_iff.mp hw).1
  have z4:xs[j]?=some xs[j]:=aak RG;obtain⟨w',Xf,YO⟩:=r.get z4;rw[hw]at Xf;cases Xf;obtain⟨e,he,re⟩:=rs.vZ z4;exact⟨e,he,(alike I hN zD 8 X.A.in1 re rp (List.all_eq_true.mp Ka e (aap he)) ho YO rx (by show X.A.units+1+8<cLine;exact hu)).eq⟩
 let e:Value->Bool:=λw=>decide (∃(j:Nat) (c:D),aI[j]?=some w/\ds[j]?=some c/\ia c d=true)
 have hE:∀w∈aI.toArray,SeqAt.EqAt X.A.in1 s w v (e w):=λw hw=>by
  obtain⟨j,hj⟩:=List.mem_iff_getElem?.mp (show w∈aI by simpa using hw);by_cases he:∃(j:Nat) (c:D),aI[j]?=some w/\ds[j]?=some c/\ia c d=true
  ·have:e w=true:=aaq he;rw[this];obtain⟨j',c,h1,h2,h3⟩:=he;obtain⟨c',h4,h5⟩:=at_ j' w h1;rw[h2]at h4;cases h4;rw[h3]at h5;exact h5
  ·have:e w=false:=aaD he;rw[this];obtain⟨c,h4,h5⟩:=at_ j w hj;have:ia c d=false:=by
    cases hb:ia c d with
    |false=>rfl
    |true=>exact absurd ⟨j,c,hj,h4,hb⟩ he
   rw[this]at h5;exact h5
 have hA:aI.toArray.any e=ds.any λc=>ia c d:=by
  rw[show aI.toArray.any e=aI.any e by simp];apply Bool.eq_iff_iff.mpr;rw[List.any_eq_true,List.any_eq_true];constructor
  ·rintro ⟨w,hw,he⟩;obtain⟨j,c,h1,h2,h3⟩:=aab he;exact⟨c,aap h2,h3⟩
  ·rintro ⟨c,hc,h3⟩;obtain⟨j,hj⟩:=List.mem_iff_getElem?.mp hc;obtain⟨x',z4,_⟩:=rs.get hj;obtain⟨w,hw,_⟩:=r.get z4;exact⟨w,aap hw,aaq ⟨j,c,hw,hj,h3⟩⟩
 rw[<- hA]at q;cases g with
 |true=>exact SeqAt.in_listAt e pl.isList hE ⟨.bl _,H,I,rfl,q⟩
 |false=>exact SeqAt.notIn_listAt e pl.isList hE ⟨.bl _,H,I,rfl,q⟩
end
def Gh(g:Bool)(_:Scope)(_:aj)(e:Expr):Option (av):=match yF e with
 |some z=>match one z.2.2 with
  |some r=>if z.2.1=[Mo g]/\iP r=true then some [z.1,r]else none
  |none=>none
 |none=>none
theorem C3{sc:Scope}{bl:aj}{e:Expr}(h:Gh g sc bl e=some args):∃l r p,e=.Compare l [Mo g] [r] p/\args=[l,r]/\iP r=true:=by
 unfold Gh at h;cases hv:yF e with
 |none=>rw[hv]at h;cases h
 |some z =>
  obtain⟨l,os,rs⟩:=z;rw[hv]at h;obtain⟨p,rfl⟩:=mq hv;replace h:(match one rs with|some r=>if os=[Mo g]/\iP r=true then some [l,r]else none|none=>none)=some args:=h;cases hw:one rs with
  |none=>rw[hw]at h;cases h
  |some r =>
   rw[hw]at h;replace h:(if os=[Mo g]/\iP r=true then some [l,r]else none)=some args:=h;obtain rfl:=bI hw;by_cases hc:os=[Mo g]/\iP r=true
   ·rw[if_pos hc]at h;cases h;obtain⟨hc,hn⟩:=hc;subst hc;exact⟨l,r,p,rfl,rfl,hn⟩
   ·rw[if_neg hc]at h;cases h
theorem NV{n:Nat}(hΦ:Φ n=Tv g){sc:Scope}{bl:aj}{k:Nat}(L:PX X sc bl k){e:Expr}(he:Gh g sc bl e=some args)(hs:lT X F Φ cs args):PE X e (tD X F Φ (.bU n cs))/\PT X e (fZ X F Φ (.bU n cs)):=by
 obtain⟨l,r,p,rfl,rfl,hn⟩:=C3 he;have hu:X.A.units+1+8<cLine:=by have:=L.room.units;left
 cases cs with
 |nil=>exact hs.elim
 |cons c cs=>cases cs with
  |nil=>exact hs.2.2.2.elim
  |cons c' cs=>cases cs with
   |cons _ _=>exact hs.2.2.2.2.2.2.elim
   |nil =>
    obtain⟨h1,_,_,h2,_,_,_⟩:=hs;have key:∀{σ:St} {H:Hp} {R:ah} {τ:Addr->Option bo} {ρ:a_} {d:D} {Q:VK},SI X F R τ ρ σ H->bp Φ (.bU n [c,c']) ρ=ok d->(∀b H2,d=.bl b->aK H H2->Q (.bl b) H2)->DG (WG g X.K) (tD X F Φ c) (tD X F Φ c') σ H Q:=by
     intro σ H R τ ρ d Q Si ev hq;obtain⟨xs,b7,ev⟩:=aB ev;obtain⟨x,ex,b7⟩:=aB b7;obtain⟨ys,jN,b7⟩:=aB b7;cases b7;obtain⟨y,ey,jN⟩:=aB jN;cases jN;rw[hΦ]at ev;obtain⟨f,ds,rfl,ha,hb,rfl⟩:=IV ev;refine tD.intro Si ex λv H1 e1 r1=>tD.intro (Si.go e1) ey λu H2 e2 r2=>?_;obtain⟨_,_,p1⟩:=r1.go e2;obtain⟨_,_,p2⟩:=r2;obtain⟨_,_,rfl,t2,s2⟩:=p2.sO;exact⟨_,_,_,_,rfl,t2.sq,⟨_,_,s2,λq p xs f h=>h.sq⟩,⟨_,_,p1,λq p xs f h=>h.sq⟩,ha,hb,hq _ H2 rfl (e1.trans e2)⟩
    refine⟨PE.imp (mB (GZ g hu) h1 h2 (q_ hn)) λσ H Q hq=>?_,PT.imp (mz (GZ g hu) h1 h2 (q_ hn)) λσ H Q hq=>?_⟩
    ·obtain⟨R,τ,ρ,d,Si,ev,hq⟩:=hq;exact key Si ev λb H2 e es=>hq _ H2 es (by subst e;exact .bl)
    ·obtain⟨R,τ,ρ,b,Si,ev,hq⟩:=hq;obtain⟨d,ed,et⟩:=aB ev;refine key Si ed λb' H2 e es=>?_;subst e;cases et;exact⟨_,rfl,hq H2 es⟩
mutual
noncomputable def toPy:D->PyData
 |.bu=>.none
 |.bl b=>.bool b
 |.int i=>.int i
 |.str s=>.str s
 |.tup ds=>.tuple (eu ds)
 |.lst _ ds=>.list (eu ds)
 |_=>.none
noncomputable def eu:aa->List PyData
 |[]=>[]
 |d::ds=>toPy d::eu ds
end
mutual
theorem ng:∀d:D,(toPy d).hasDict=false
 |.bu=>rfl
 |.bl _=>rfl
 |.int _=>rfl
 |.str _=>rfl
 |.tup ds=>by rw[toPy,PyData.hasDict];exact kO ds
 |.lst _ ds=>by rw[toPy,PyData.hasDict];exact kO ds
 |.cy _ _ _=>rfl
theorem kO:∀ds:aa,PyData.hasDictAll (eu ds)=false
 |[]=>rfl
 |d::ds=>by rw[eu,PyData.hasDictAll,ng d,kO ds];rfl
end
section
variable {X:Cx}{pins:ak}{σ:St}{H:Hp}{s:Shared}{N:fc}
theorem yX(I:Inv X pins σ H s)(hN:∀q p xs f,N q p (.l xs) f->dE X.K H p xs):∀(n:Nat) {k:bo} {v:V} {d:D} {u:Value},Rep (aW X.K H) N k v d->dX n d=true->RelV v u->∃as,Reads s.heap u (toPy d) as:=by
 intro n;induction n with
 |zero =>
  intro k v d u h ho r;cases h with
  |bu=>cases r;exact⟨_,.none⟩
  |bl b=>cases r;exact⟨_,.bool b⟩
  |int i=>obtain⟨t,rfl⟩:=r;exact⟨_,.int i t⟩
  |str t=>obtain⟨z,rfl⟩:=r;exact⟨_,.str t z⟩
  |tup _ _=>obtain⟨m,hm,_⟩:=dO ho;left
  |lst _ _=>obtain⟨m,hm,_⟩:=dP ho;left
  |cy _ _=>cases ho
 |succ n ih =>
  have sub:∀{ds:aa} {q:bo} {m:Nat} {xs:af} {aI:ai},aC (aW X.K H) N q m xs ds->(∀d∈ds,dX n d=true)->Vals xs aI->∃as,ReadsAll s.heap aI (eu ds) as:=by
   intro ds;induction ds with
   |nil=>intro q m xs aI h _ r;cases h;cases r;exact⟨_,.nil⟩
   |cons d ds ihd =>
    intro q m xs aI h ho r;cases h with
    |cons h t =>
     cases r with
     |cons r1 r2 =>
      obtain⟨as,a⟩:=ih h (ho d aah) r1;obtain⟨bs,b⟩:=ihd t (λx hx=>ho x (aag _ hx)) r2;exact⟨_,.cons a b⟩
  intro k v d u h ho r;cases h with
  |bu=>cases r;exact⟨_,.none⟩
  |bl b=>cases r;exact⟨_,.bool b⟩
  |int i=>obtain⟨t,rfl⟩:=r;exact⟨_,.int i t⟩
  |str t=>obtain⟨z,rfl⟩:=r;exact⟨_,.str t z⟩
  |tup h rr =>
   obtain⟨m,hm,ho⟩:=dO ho;obtain rfl:n=m:=by left
   cases r;obtain⟨aI,rv,⟨o,e1,e2,n',e3⟩,_⟩:=I.tuple h;obtain⟨as,a⟩:=sub rr ho rv;exact⟨_,.tuple e1 e2 e3 (by simpa using a)⟩
  |lst h rr =>
   obtain⟨m,hm,ho⟩:=dP ho;obtain rfl:n=m:=by left
   cases r;obtain⟨aI,rv,⟨o,n',e1,e2,_,e3⟩,_⟩:=I.list (hN _ _ _ _ h);obtain⟨as,a⟩:=sub rr ho rv;exact⟨_,.list e1 e2 e3 (by simpa using a)⟩
  |cy _ _=>cases ho
end
def vm(d:D):Bool:=dX 20 d&&(decide ((toPy d).depth<=60)&&((toPy d).showable&&decide ((toPy d).shown.length<=sizeLine)))
def tJ(xs:aa):O D:=match one xs with
 |some d=>if vm d=true then ok (.str (toPy d).shown)else none
 |none=>none
theorem AZ{d:D}(h:tJ xs=ok d):∃x,xs=[x]/\vm x=true/\d=.str (toPy x).shown:=by
 unfold tJ at h;cases h1:one xs with
 |none=>rw[h1]at h;cases h
 |some x =>
  rw[h1]at h;obtain⟨h2,h3⟩:=lI (show(if vm x=true then ok (D.str (toPy x).shown)else none)=ok d from h);exact⟨x,bI h1,h2,h3.symm⟩
theorem zR{k:Nat}(hr:fY k X.A):e_ X (.builtin "repr") (λxs H Q=>∃(v:V) (N:fc) (q:bo) (d:D),xs=[v]/\(∀q p xs f,N q p (.l xs) f->dE X.K H p xs)/\Rep (aW X.K H) N q v d/\vm d=true/\Q (.str (toPy d).shown) H):=by
 intro pins s σ H xs us Q I r h;obtain⟨v,N,q,d,rfl,hN,rp,hs,hq⟩:=h;obtain⟨u,rfl,ru⟩:=r.one;obtain⟨h1,hs⟩:=aD hs;obtain⟨h2,hs⟩:=aD hs;obtain⟨h3,h4⟩:=aD hs;have h2:=aab h2;have h4:=aab h4;obtain⟨as,rd⟩:=yX I hN 20 rp h1 ru;have hu:=hr.units;cases rp with
 |bu=>cases ru;exact PySem.P.repr_of_none ⟨.str _,H,I.tok _,⟨_,rfl⟩,hq⟩
 |bl b=>cases ru;exact PySem.P.repr_of_bool ⟨.str _,H,I.tok _,⟨_,rfl⟩,hq⟩
 |int i=>obtain⟨t,rfl⟩:=ru;exact PySem.P.repr_of_int (aab h3) ⟨.str _,H,I.tok _,⟨_,rfl⟩,hq⟩
 |str t=>obtain⟨z,rfl⟩:=ru;exact PySem.P.repr_of_str ⟨.str _,H,I.tok _,⟨_,rfl⟩,hq⟩
 |tup h rr =>
  cases ru;exact repr_of_reads' rd h3 (λz=>by rw[ng]at z;cases z) hr.gd (by left) (λ_ _ e=>e) (λh' u tk hk=>⟨.str _,H,I.kept (t':=tk) hk,⟨_,rfl⟩,hq⟩) h4
 |lst h rr =>
  cases ru;exact repr_of_reads' rd h3 (λz=>by rw[ng]at z;cases z) hr.gd (by left) (λ_ _ e=>e) (λh' u tk hk=>⟨.str _,H,I.kept (t':=tk) hk,⟨_,rfl⟩,hq⟩) h4
 |cy _ _=>cases h1
theorem ED{n:Nat}(hΦ:Φ n=tJ){sc:Scope}{bl:aj}{k:Nat}(L:PX X sc bl k){e:Expr}(he:jR ("repr" : Str) sc bl e=some args)(hs:lT X F Φ cs args):PE X e (tD X F Φ (.bU n cs))/\PT X e (fZ X F Φ (.bU n cs)):=by
 obtain⟨p,pos,a,rfl,rfl,h1,h2⟩:=lj he;cases cs with
 |nil=>exact hs.elim
 |cons c cs=>cases cs with
  |cons _ _=>exact hs.2.2.2.elim
  |nil =>
   have pa:PA X [a] (pZ X F Φ [c]):=PA.imp (cV hs.1 (PA.imp fI λ_ _ _ h=>jc h) (hs.2.1 _)) λ_ _ _ h=>fF h;have this:PE X (.Call (.Name ("repr" : Str) p) [a] [] pos) (tD X F Φ (.bU n [c])):=by
    refine PE.imp (dG (zR L.room) (L.gl h1) (L.bl _ h2) (by rfl) pa (he:=hs.2.1 _)) λσ H Q hq=>?_;obtain⟨R,τ,ρ,d,Si,ev,hq⟩:=hq;obtain⟨xs,b7,ev⟩:=aB ev;rw[hΦ]at ev;obtain⟨x,rfl,FE,rfl⟩:=AZ ev;refine⟨R,τ,ρ,_,Si,b7,λvs H1 e1 r1=>?_⟩;obtain⟨τt,fr,rs⟩:=r1;obtain⟨v,rfl,rv⟩:=rs.one;exact⟨v,_,_,x,rfl,λq p xs f h=>h.sq,rv,FE,hq _ H1 e1 .str⟩
   exact⟨this,cG this λ_=>rfl⟩
end DI
end
section
namespace DI
open PySem (Str)
section
variable {α β:Type}
@[simp]theorem d9(a:α)(f:α->O β):bd (ok a) f=f a:=rfl
@[simp]theorem R9(c:Nat)(f:α->O β):bd (some (.error c)) f=some (.error c):=rfl
noncomputable def yw(f:α->O β)(x:O α):O β:=bd x f
@[simp]theorem oR(f:α->O β)(a:α):yw f (ok a)=f a:=rfl
@[simp]theorem Se(f:α->O β)(c:Nat):yw f (some (.error c))=some (.error c):=rfl
end
def LG(op:GC)(x y:O D):O D:=bd x λx=>bd y λy=>bZ op x y
@[simp]theorem sx(op:GC)(x y:D):LG op (ok x) (ok y)=bZ op x y:=rfl
def Qv(op:Ab)(x y:O D):O D:=bd x λx=>bd y λy=>ej op x y
@[simp]theorem R4(op:Ab)(x y:D):Qv op (ok x) (ok y)=ej op x y:=rfl
def LZ(x y:O D):O D:=bd x λx=>bd y λy=>kI x y
@[simp]theorem Ud(x y:D):LZ (ok x) (ok y)=kI x y:=rfl
def NX(x:O D):O D:=bd (bd x iG) λb=>ok (.bl (!b))
@[simp]theorem Rq(b:Bool):NX (ok (.bl b))=ok (.bl (!b)):=rfl
@[simp]theorem MQ(b:Bool):iG (.bl b)=ok b:=rfl
def vd(x:O D):O Bool:=bd x iG
@[simp]theorem QY(b:Bool):vd (ok (.bl b))=ok b:=rfl
@[simp]theorem MP(c:Nat):vd (some (.error c))=some (.error c):=rfl
def W8(t:Ty)(x:O D):O D:=bd x λx=>ok (.bl (cL t x))
@[simp]theorem Um(t:Ty)(x:D):W8 t (ok x)=ok (.bl (cL t x)):=rfl
def jB(m:aH)(xs:O (aa)):O D:=bd xs λxs=>bd (m (au aL xs)) λr=>ok (aw d8 r)
def DQ(x:O D):O D:=bd x λr=>ok (aw d8 r)
@[simp]theorem KC(r:D):DQ (ok r)=ok (aw d8 r):=rfl
@[simp]theorem RR(c:Nat):DQ (some (.error c))=some (.error c):=rfl
@[simp]theorem iZ(m:aH)(xs:aa):jB m (ok xs)=DQ (m (au aL xs)):=rfl
@[simp]theorem Ms(m:aH)(c:Nat):jB m (some (.error c))=some (.error c):=rfl
noncomputable def dA(x:O D)(xs:O (aa)):O (aa):=bd x λx=>bd xs λxs=>ok (x::xs)
@[simp]theorem uz(x:D)(xs:aa):dA (ok x) (ok xs)=ok (x::xs):=rfl
@[simp]theorem Mp(c:Nat)(xs:O (aa)):dA (some (.error c)) xs=some (.error c):=rfl
@[simp]theorem Ly(x:D)(c:Nat):dA (ok x) (some (.error c))=some (.error c):=rfl
noncomputable def OC(x:O Bool)(a b:O D):O D:=bd x λk=>if k then a else b
@[simp]theorem Uk(a b:O D):OC (ok true) a b=a:=rfl
@[simp]theorem Ul(a b:O D):OC (ok false) a b=b:=rfl
def Gu(x y:O D):O D:=bd (bd x iG) λc=>if c then y else ok (.bl false)
@[simp]theorem V9(y:O D):Gu (ok (.bl true)) y=y:=rfl
@[simp]theorem V_(y:O D):Gu (ok (.bl false)) y=ok (.bl false):=rfl
@[simp]theorem Wa(a b:Bool):Gu (ok (.bl a)) (ok (.bl b))=ok (.bl (a&&b)):=by cases a<;>rfl
def Rk(x y:O D):O D:=bd (bd x iG) λc=>if c then ok (.bl true)else y
@[simp]theorem WK(y:O D):Rk (ok (.bl true)) y=ok (.bl true):=rfl
@[simp]theorem WL(y:O D):Rk (ok (.bl false)) y=y:=rfl
@[simp]theorem WM(a b:Bool):Rk (ok (.bl a)) (ok (.bl b))=ok (.bl (a||b)):=by cases a<;>rfl
def BO(x:O D):O D:=bd (bd x iG) λc=>ok (.bl c)
@[simp]theorem Ov(c:Bool):BO (ok (.bl c))=ok (.bl c):=rfl
@[simp]theorem Nc(d:D):wW (some (some d))=ok (aw aO d):=rfl
section
variable (Φ:bh)(ρ:a_)
@[simp]theorem Qq:bp Φ .bu ρ=ok .bu:=rfl
@[simp]theorem VT(b:Bool):bp Φ (.bl b) ρ=ok (.bl b):=rfl
@[simp]theorem uo(i:Int):bp Φ (.int i) ρ=ok (.int i):=rfl
@[simp]theorem XM(i:Str):bp Φ (.str i) ρ=ok (.str i):=rfl
@[simp]theorem XT(x:Str)(i:Int):bp Φ (.glo x i) ρ=ok (.int i):=rfl
@[simp]theorem Qp(i:Nat):bp Φ (.v i) ρ=wW ρ[i]?:=rfl
@[simp]theorem oE(op:GC)(a b:CE):bp Φ (.bin op a b) ρ=LG op (bp Φ a ρ) (bp Φ b ρ):=rfl
@[simp]theorem Hn(op:Ab)(a b:CE):bp Φ (.cmp op a b) ρ=Qv op (bp Φ a ρ) (bp Φ b ρ):=rfl
@[simp]theorem XR(a:CE):bp Φ (.neg a) ρ=yw vD (bp Φ a ρ):=rfl
@[simp]theorem XQ(a:CE):bp Φ (.not a) ρ=NX (bp Φ a ρ):=rfl
@[simp]theorem XS(a:CE)(t:Ty):bp Φ (.o8 a t) ρ=W8 t (bp Φ a ρ):=rfl
@[simp]theorem rV(f:Nat)(es:az):bp Φ (.call f es) ρ=jB (Φ f) (bK Φ es ρ):=rfl
@[simp]theorem Qr(f:Bf)(es:az):bp Φ (.bf f es) ρ=yw (mU f) (bK Φ es ρ):=rfl
@[simp]theorem CG(f:Nat)(es:az):bp Φ (.bU f es) ρ=yw (Φ f) (bK Φ es ρ):=rfl
@[simp]theorem wd(a b:CE):bp Φ (.ix a b) ρ=LZ (bp Φ a ρ) (bp Φ b ρ):=rfl
@[simp]theorem VS(a:CE):bp Φ (.kh a) ρ=yw xA (bp Φ a ρ):=rfl
@[simp]theorem qv(es:az):bp Φ (.tup es) ρ=yw (λxs=>ok (.tup xs)) (bK Φ es ρ):=rfl
@[simp]theorem CH(es:az):bp Φ (.lst es) ρ=yw (λxs=>ok (.lst .ow xs)) (bK Φ es ρ):=rfl
@[simp]theorem Qs(es:az):bp Φ (.and es) ρ=qu Φ es ρ:=rfl
@[simp]theorem aaH(es:az):bp Φ (.or es) ρ=zG Φ es ρ:=rfl
@[simp]theorem Lp(e:CE):qu Φ [e] ρ=BO (bp Φ e ρ):=rfl
@[simp]theorem Lo(e e':CE)(es:az):qu Φ (e::e'::es) ρ=Gu (bp Φ e ρ) (qu Φ (e'::es) ρ):=rfl
@[simp]theorem XO(e:CE):zG Φ [e] ρ=BO (bp Φ e ρ):=rfl
@[simp]theorem XN(e e':CE)(es:az):zG Φ (e::e'::es) ρ=Rk (bp Φ e ρ) (zG Φ (e'::es) ρ):=rfl
@[simp]theorem lO:bK Φ [] ρ=ok []:=rfl
@[simp]theorem bQ(e:CE)(es:az):bK Φ (e::es) ρ=dA (bp Φ e ρ) (bK Φ es ρ):=rfl
@[simp]theorem e_T(e:CE):wa Φ e ρ=vd (bp Φ e ρ):=rfl
theorem VW(e:CE):bd (bp Φ e ρ) iG=vd (bp Φ e ρ):=rfl
@[simp]theorem VV:iC Φ [] ρ=ok true:=rfl
@[simp]theorem VU(e:CE):iC Φ [e] ρ=vd (bp Φ e ρ):=by
 rw[iC,VW];cases h:vd (bp Φ e ρ)with
 |none=>rfl
 |some r=>cases r with
  |error c=>rfl
  |ok b=>cases b<;>simp[iC,bd,ok]
end
def om(is:aN):Nat->a_->a_
 |_,[]=>[]
 |n,d::ρ=>(if n∈is then d.map (aw aL)else d)::om is (n+1) ρ
theorem Hj(is:aN):∀(ρ:a_) (n:Nat),ρ.mapIdx (λi d=>if i+n∈is then d.map (aw aL)else d)=om is n ρ
 |[],_=>rfl
 |d::ρ,n=>by
  rw[List.mapIdx_cons,om,<- Hj is ρ (n+1)];simp only[Nat.zero_add,Nat.add_assoc,Nat.add_comm 1 n]
theorem v7(is:aN)(ρ:a_):gF is ρ=om is 0 ρ:=by rw[<- Hj];rfl
@[simp]theorem Qe(is:aN)(n:Nat):om is n []=[]:=rfl
@[simp]theorem Ml(is:aN)(n:Nat)(d:aU)(ρ:a_):om is n (d::ρ)=(if n∈is then d.map (aw aL)else d)::om is (n+1) ρ:=rfl
def cW(e:CE)(ρ:a_)(x:O D):O (D×a_):=bd x λd=>ok (keep e d ρ)
variable {ρ ρ1 ρ2:a_}
@[simp]theorem d6{e:CE}{d:D}(h:aY bN d=false):cW e ρ (ok d)=ok (d,ρ):=by
 show ok (keep e d ρ)=_;rw[keep,h];rfl
@[simp]theorem kl{e:CE}{d:D}(h:aY bN d=true):cW e ρ (ok d)=ok (aw aL d,om (iJ e) 0 ρ):=by
 show ok (keep e d ρ)=_;rw[keep,h,<- v7];rfl
@[simp]theorem LY(e:CE)(ρ:a_)(c:Nat):cW e ρ (some (.error c))=some (.error c):=rfl
def BA(i:Nat)(ρ:a_)(o:Option (aU)):O (D×a_):=match o with
 |some (some d)=>if aY dW d then ok (d,ρ.set i none)else ok (d,ρ)
 |_=>none
@[simp]theorem N6{i:Nat}{d:D}(h:aY dW d=true):BA i ρ (some (some d))=ok (d,ρ.set i none):=aaQ h
@[simp]theorem N7{i:Nat}{d:D}(h:aY dW d=false):BA i ρ (some (some d))=ok (d,ρ):=acf (by rw[h];exact aac)
@[simp]theorem k_v(Φ:bh)(i:Nat)(ρ:a_):iK Φ (.v i) ρ=BA i ρ ρ[i]?:=rfl
noncomputable def W7:CE->Bool
 |.v _=>true
 |_=>false
@[simp]theorem W3(Φ:bh)(ρ:a_)(op:GC)(a b:CE):iK Φ (.bin op a b) ρ=cW (.bin op a b) ρ (bp Φ (.bin op a b) ρ):=rfl
@[simp]theorem W2(Φ:bh)(ρ:a_)(op:Ab)(a b:CE):iK Φ (.cmp op a b) ρ=cW (.cmp op a b) ρ (bp Φ (.cmp op a b) ρ):=rfl
@[simp]theorem BR(Φ:bh)(ρ:a_)(f:Nat)(es:az):iK Φ (.call f es) ρ=cW (.call f es) ρ (bp Φ (.call f es) ρ):=rfl
@[simp]theorem Zf(Φ:bh)(ρ:a_)(f:Bf)(es:az):iK Φ (.bf f es) ρ=cW (.bf f es) ρ (bp Φ (.bf f es) ρ):=rfl
@[simp]theorem Oy(Φ:bh)(ρ:a_)(f:Nat)(es:az):iK Φ (.bU f es) ρ=cW (.bU f es) ρ (bp Φ (.bU f es) ρ):=rfl
@[simp]theorem Ub(Φ:bh)(ρ:a_)(a b:CE):iK Φ (.ix a b) ρ=cW (.ix a b) ρ (bp Φ (.ix a b) ρ):=rfl
@[simp]theorem WV(Φ:bh)(ρ:a_)(es:az):iK Φ (.tup es) ρ=cW (.tup es) ρ (bp Φ (.tup es) ρ):=rfl
@[simp]theorem Oz(Φ:bh)(ρ:a_)(es:az):iK Φ (.lst es) ρ=cW (.lst es) ρ (bp Φ (.lst es) ρ):=rfl
@[simp]theorem G_(Φ:bh)(ρ:a_)(i:Int):iK Φ (.int i) ρ=cW (.int i) ρ (bp Φ (.int i) ρ):=rfl
@[simp]theorem Ze(Φ:bh)(ρ:a_)(i:Bool):iK Φ (.bl i) ρ=cW (.bl i) ρ (bp Φ (.bl i) ρ):=rfl
@[simp]theorem WY(Φ:bh)(ρ:a_): iK Φ (.bu) ρ=cW (.bu) ρ (bp Φ (.bu) ρ):=rfl
@[simp]theorem WZ(Φ:bh)(ρ:a_)(a:CE):iK Φ (.neg a) ρ=cW (.neg a) ρ (bp Φ (.neg a) ρ):=rfl
@[simp]theorem WX(Φ:bh)(ρ:a_)(a:CE):iK Φ (.not a) ρ=cW (.not a) ρ (bp Φ (.not a) ρ):=rfl
@[simp]theorem W4(Φ:bh)(ρ:a_)(es:az):iK Φ (.and es) ρ=cW (.and es) ρ (bp Φ (.and es) ρ):=rfl
@[simp]theorem Zd(Φ:bh)(ρ:a_)(es:az):iK Φ (.or es) ρ=cW (.or es) ρ (bp Φ (.or es) ρ):=rfl
@[simp]theorem Uc(Φ:bh)(ρ:a_)(n:Nat)(t:Tg)(caps:aN)(ik:IK)(es bH:az)(elt:CE):iK Φ (.comp n t caps ik es bH elt) ρ=cW (.comp n t caps ik es bH elt) ρ (bp Φ (.comp n t caps ik es bH elt) ρ):=rfl
@[simp]theorem WW(Φ:bh)(ρ:a_)(s:Str):iK Φ (.str s) ρ=cW (.str s) ρ (bp Φ (.str s) ρ):=rfl
@[simp]theorem W0(Φ:bh)(ρ:a_)(a:CE)(t:Ty):iK Φ (.o8 a t) ρ=cW (.o8 a t) ρ (bp Φ (.o8 a t) ρ):=rfl
@[simp]theorem Ua(Φ:bh)(ρ:a_)(a:CE):iK Φ (.kh a) ρ=cW (.kh a) ρ (bp Φ (.kh a) ρ):=rfl
theorem DJ(Φ:bh)(e:CE)(ρ:a_)(h:W7 e=false):iK Φ e ρ=cW e ρ (bp Φ e ρ):=by cases e<;>first|rfl|cases h
@[simp]theorem LQ(ρ:a_):eT [] [] ρ=ok ρ:=rfl
variable {ds xs:aa}{is:aN}
@[simp]theorem Iz{i:Nat}{d:D}(h:i<ρ.length):eT (i::is) (d::ds) ρ=eT is ds (ρ.set i (some d)):=aaQ h
@[simp]theorem Q6{i:Nat}{d:D}(h:i<ρ.length):cY (.nm i) d ρ=ok (ρ.set i (some d)):=aaQ h
@[simp]theorem Q5(h:aP dW ds=false):cY (.tp is) (.tup ds) ρ=eT is ds ρ:=acf (by rw[h];exact aac)
def LH(i:Nat)(r:O (D×a_)):O (Fo×a_):=bd r λr=>bd (cY (.nm i) r.1 r.2) λρ'=>ok (.nx,ρ')
@[simp]theorem yv{i:Nat}{d:D}(h:i<ρ.length):LH i (ok (d,ρ))=ok (.nx,ρ.set i (some d)):=by
 show bd (cY (.nm i) d ρ) _=_;rw[cY,if_pos h];rfl
@[simp]theorem QJ(i:Nat)(c:Nat):LH i (some (.error c))=some (.error c):=rfl
def QI(is:aN)(r:O (D×a_)):O (Fo×a_):=bd r λr=>bd (cY (.tp is) r.1 r.2) λρ'=>ok (.nx,ρ')
@[simp]theorem Sb(h:aP dW ds=false):QI is (ok (.tup ds,ρ))=bd (eT is ds ρ) λρ'=>ok (.nx,ρ'):=by
 show bd (cY (.tp is) (.tup ds) ρ) _=_;rw[cY,h];rfl
noncomputable def retS(r:O (D×a_)):O (Fo×a_):=bd r λr=>ok (.rt r.1,r.2)
@[simp]theorem Q8(d:D)(ρ:a_):retS (ok (d,ρ))=ok (.rt d,ρ):=rfl
@[simp]theorem Np(c:Nat):retS (some (.error c))=some (.error c):=rfl
noncomputable def VI(ρ:a_)(x:O D):O (Fo×a_):=bd x λ_=>ok (.nx,ρ)
@[simp]theorem VH(ρ:a_)(d:D):VI ρ (ok d)=ok (.nx,ρ):=rfl
@[simp]theorem RW(ρ:a_)(c:Nat):VI ρ (some (.error c))=some (.error c):=rfl
noncomputable def pY(Φ:bh)(ss:aq)(r:O (Fo×a_)):O (Fo×a_):=bd r λr=>match r with
 | (.nx,ρ')=>bJ Φ ss ρ'
 |r=>ok r
@[simp]theorem fE(Φ:bh)(ss:aq)(ρ:a_):pY Φ ss (ok (.nx,ρ))=bJ Φ ss ρ:=rfl
@[simp]theorem MR(Φ:bh)(ss:aq)(d:D)(ρ:a_):pY Φ ss (ok (.rt d,ρ))=ok (.rt d,ρ):=rfl
@[simp]theorem LP(Φ:bh)(ss:aq)(c:Nat):pY Φ ss (some (.error c))=some (.error c):=rfl
noncomputable def Ft(Φ:bh)(a b:aq)(ρ:a_)(x:O Bool):O (Fo×a_):=bd x λk=>if k then bJ Φ a ρ else bJ Φ b ρ
@[simp]theorem Ui(Φ:bh)(a b:aq)(ρ:a_):Ft Φ a b ρ (ok true)=bJ Φ a ρ:=rfl
@[simp]theorem Uj(Φ:bh)(a b:aq)(ρ:a_):Ft Φ a b ρ (ok false)=bJ Φ b ρ:=rfl
@[simp]theorem OA(Φ:bh)(a b:aq)(ρ:a_)(c:Nat):Ft Φ a b ρ (some (.error c))=some (.error c):=rfl
def QL(i:Nat)(r:O (D×a_)):O (Fo×a_):=bd r λr=>match vB r.2[i]? with
  |some ds=>if ds.length<eE then ok (.nx,r.2.set i (some (.lst .ow (ds++[r.1]))))else none
  |none=>none
@[simp]theorem Gr{i:Nat}{d:D}(h:ρ[i]?=some (some (.lst .ow ds)))(hl:ds.length<eE):QL i (ok (d,ρ))=ok (.nx,ρ.set i (some (.lst .ow (ds++[d])))):=by
 show(match vB ρ[i]? with|some ds=>_|none=>_)=_;rw[h];exact aaQ hl
variable {es:az}
section
variable (Φ:bh)(ρ:a_)
@[simp]theorem Ws:bJ Φ [] ρ=ok (.nx,ρ):=rfl
@[simp]theorem c9(s:CS)(ss:aq):bJ Φ (s::ss) ρ=pY Φ ss (hZ Φ s ρ):=rfl
@[simp]theorem m6(i:Nat)(e:CE):hZ Φ (.asg (.nm i) e) ρ=LH i (iK Φ e ρ):=rfl
@[simp]theorem So(is:aN)(e:CE):hZ Φ (.asg (.tp is) e) ρ=QI is (iK Φ e ρ):=rfl
@[simp]theorem GD(e:CE):hZ Φ (.ret e) ρ=retS (iK Φ e ρ):=rfl
theorem pR(c:CE)(b:aq):hZ Φ (.GF c b) ρ=fC (λρ=>bd (wa Φ c ρ) λk=>if k then bd (bJ Φ b ρ) λr=>match r with
   | (.nx,ρ')=>ok (.inl ρ')
   | (.rt d,ρ')=>ok (.inr (.rt d,ρ'))
  else ok (.inr (.nx,ρ))) ρ:=rfl
theorem MD(i j:Nat)(a b:CE):hZ Φ (.par i j a b) ρ=bd (bp Φ a ρ) λx=>bd (bp Φ b ρ) λy=>if aY anyF x=false/\aY anyF y=false/\i<ρ.length/\j<ρ.length then ok (.nx,(ρ.set i (some x)).set j (some y))else none:=rfl
@[simp]theorem Yf(c:Nat):hZ Φ (.rs c) ρ=some (.error c):=rfl
@[simp]theorem Yg(e:CE):hZ Φ (.ex e) ρ=VI ρ (bp Φ e ρ):=rfl
@[simp]theorem Ae(c:CE)(a b:aq):hZ Φ (.ifs c a b) ρ=Ft Φ a b ρ (vd (bp Φ c ρ)):=rfl
def MN(is:aN)(r:O (D×a_)):O (Fo×a_):=bd r λr=>bd (HV is r.1 r.2) λρ'=>ok (.nx,ρ')
def Og(i:Nat)(es:az)(ρ:a_)(x:O (aa)):O (Fo×a_):=bd x λxs=>if i<ρ.length then ok (.nx,(gF (cO es) ρ).set i (some (.lst .ow (au aL xs))))else none
@[simp]theorem Fg{i:Nat}{ρ:a_}(h:i<ρ.length):Og i es ρ (ok xs)=ok (.nx,(om (cO es) 0 ρ).set i (some (.lst .ow (au aL xs)))):=by
 show(if i<ρ.length then _ else _)=_;rw[if_pos h,v7]
@[simp]theorem Wr(is:aN)(e:CE):hZ Φ (.unp is e) ρ=MN is (iK Φ e ρ):=rfl
@[simp]theorem ME(i:Nat)(es:az):hZ Φ (.lsn i es) ρ=Og i es ρ (bK Φ es ρ):=rfl
@[simp]theorem MF(i:Nat)(e:CE):hZ Φ (.app i e) ρ=QL i (iK Φ e ρ):=rfl
end
noncomputable def mk(Φ:bh)(ar n:Nat)(b:aq):aH:=λds=>if ds.length=ar then qP Φ n b ds else none
noncomputable def mi(r:O (Fo×a_)):O D:=bd r λr=>match r.1 with
 |.nx=>ok .bu
 |.rt d=>ok d
@[simp]theorem RY(ρ:a_):mi (ok (.nx,ρ))=ok .bu:=rfl
@[simp]theorem RX(d:D)(ρ:a_):mi (ok (.rt d,ρ))=ok d:=rfl
@[simp]theorem Qo(c:Nat):mi (some (.error c))=some (.error c):=rfl
variable {ar:Nat}{Φ:bh}
theorem mk_eq{n:Nat}{b:aq}(h:ds.length=ar):mk Φ ar n b ds=mi (bJ Φ b (ds.map some++List.replicate (n - ds.length) none)):=aaQ h
theorem vG{n:Nat}{b:aq}(ds:aa)(r:D)(h:mk Φ ar n b ds=ok r):ds.length=ar/\qP Φ n b ds=ok r:=by
 unfold mk at h;split at h
 ·rename_i hl;exact⟨hl,h⟩
 ·cases h
theorem Int.beq_eq_decide_eq(i j:Int):(i==j)=decide (i=j):=rfl
section
variable (g:Fl->Fl)(p:Fl->Bool)
@[simp]theorem Fe(b:Bool):aw g (.bl b)=.bl b:=rfl
@[simp]theorem BE(b:Int):aw g (.int b)=.int b:=rfl
@[simp]theorem Oa:aw g .bu=.bu:=rfl
@[simp]theorem N_(s:Str):aw g (.str s)=.str s:=rfl
@[simp]theorem BD(ds:aa):aw g (.tup ds)=.tup (au g ds):=rfl
@[simp]theorem Ob(f:Fl)(ds:aa):aw g (.lst f ds)=.lst (g f) (au g ds):=rfl
@[simp]theorem Oc(f:Fl)(ks:aF)(vs:aa):aw g (.cy f ks vs)=.cy (g f) ks (au g vs):=rfl
@[simp]theorem LV:au g []=[]:=rfl
@[simp]theorem JD(d:D)(ds:aa):au g (d::ds)=aw g d::au g ds:=rfl
@[simp]theorem LX(a b:aa):au g (a++b)=au g a++au g b:=by simp only[aM,List.map_append]
@[simp]theorem LW(ds:aa):(au g ds).length=ds.length:=by rw[aM,List.length_map]
theorem dq{α:Type}{e:α->D}(h:∀x,aw g (e x)=e x)(xs:List α):au g (xs.map e)=xs.map e:=by
 rw[aM,List.map_map];exact aay λx _=>h x
theorem du{α:Type}{e:α->D}(h:∀x,aY p (e x)=false):∀xs:List α,aP p (xs.map e)=false
 |[]=>by rw[List.map_nil,aP]
 |x::xs=>by rw[List.map_cons,aP,h x,du h xs];rfl
@[simp]theorem FN(b:Bool):aY p (.bl b)=false:=abI rfl
@[simp]theorem og(b:Int):aY p (.int b)=false:=abI rfl
@[simp]theorem PJ:aY p .bu=false:=abI rfl
@[simp]theorem PH(s:Str):aY p (.str s)=false:=abI rfl
@[simp]theorem PF(ds:aa):aY p (.tup ds)=aP p ds:=abI rfl
@[simp]theorem Ce(f:Fl)(ds:aa):aY p (.lst f ds)=(p f||aP p ds):=abI rfl
@[simp]theorem PK(f:Fl)(ks:aF)(vs:aa):aY p (.cy f ks vs)=(p f||aP p vs):=abI rfl
@[simp]theorem Mg:aP p []=false:=abI rfl
@[simp]theorem Kl(d:D)(ds:aa):aP p (d::ds)=(aY p d||aP p ds):=abI rfl
@[simp]theorem zB:∀a b:aa,aP p (a++b)=(aP p a||aP p b)
 |[],b=>by simp
 |d::a,b=>by simp[zB a b,Bool.or_assoc]
@[simp]theorem vI(ns:ae):au g (ns.map D.int)=ns.map D.int:=dq g (BE g) ns
@[simp]theorem vX(ns:ae):aP p (ns.map D.int)=false:=du p (og p) ns
@[simp]theorem y9(ns:List Bool):au g (ns.map D.bl)=ns.map D.bl:=dq g (Fe g) ns
@[simp]theorem zA(ns:List Bool):aP p (ns.map D.bl)=false:=du p (FN p) ns
@[simp]theorem L0(t:Ty)(d:D):cL t (aw g d)=cL t d:=by cases d<;>cases t<;>rfl
end
@[simp]theorem KQ:aO .ow=.al:=rfl
@[simp]theorem KR:aO .fz=.fz:=rfl
@[simp]theorem KS:aO .al=.al:=rfl
@[simp]theorem KO:aO .sc=.sc:=rfl
@[simp]theorem KI:aL .ow=.fz:=rfl
@[simp]theorem KJ:aL .fz=.fz:=rfl
@[simp]theorem KN:aL .al=.fz:=rfl
@[simp]theorem KH:aL .sc=.sc:=rfl
@[simp]theorem K8:d8 .ow=.ow:=rfl
@[simp]theorem K9:d8 .fz=.al:=rfl
@[simp]theorem K_:d8 .al=.al:=rfl
@[simp]theorem K7:d8 .sc=.sc:=rfl
@[simp]theorem K4:bN .ow=false:=rfl
@[simp]theorem K5:bN .fz=false:=rfl
@[simp]theorem K6:bN .al=true:=rfl
@[simp]theorem K3:bN .sc=false:=rfl
@[simp]theorem K0:dW .ow=true:=rfl
@[simp]theorem K1:dW .fz=false:=rfl
@[simp]theorem K2:dW .al=false:=rfl
@[simp]theorem KZ:dW .sc=false:=rfl
@[simp]theorem KU:fK .ow=false:=rfl
@[simp]theorem KW:fK .fz=false:=rfl
@[simp]theorem KY:fK .al=false:=rfl
noncomputable def ag(ns:ae):aa:=ns.map D.int
noncomputable def mm(ns:List Bool):aa:=ns.map D.bl
@[simp]theorem L8(ns:ae):(ag ns).length=ns.length:=abd ..
@[simp]theorem QE(ns:List Bool):(mm ns).length=ns.length:=abd ..
@[simp]theorem L7:ag []=[]:=rfl
@[simp]theorem J6(n:Int)(ns:ae):ag (n::ns)=.int n::ag ns:=rfl
@[simp]theorem J5(ns:ae)(n:Int):ag ns++[.int n]=ag (ns++[n]):=by simp[ag]
@[simp]theorem k7(ns:ae)(i:Nat):(ag ns)[i]?=ns[i]?.map D.int:=List.getElem?_map ..
@[simp]theorem bP(g:Fl->Fl)(ns:ae):au g (ag ns)=ag ns:=vI g ns
@[simp]theorem di(p:Fl->Bool)(ns:ae):aP p (ag ns)=false:=vX p ns
@[simp]theorem JE(g:Fl->Fl)(ns:List Bool):au g (mm ns)=mm ns:=y9 g ns
@[simp]theorem Km(p:Fl->Bool)(ns:List Bool):aP p (mm ns)=false:=zA p ns
@[simp]theorem X0(i j:Int):bZ .add (.int i) (.int j)=ok (.int (i+j)):=rfl
@[simp]theorem XZ(i j:Int):bZ .sub (.int i) (.int j)=ok (.int (i - j)):=rfl
theorem jC{i j:Int}(h:iA i j=true):bZ .mul (.int i) (.int j)=ok (.int (i*j)):=aaQ h
theorem oP{i j:Int}(h:qx j=true):bZ .fdiv (.int i) (.int j)=ok (.int (i.fdiv j)):=aaQ h
@[simp]theorem Dj{i j:Int}(h:j≠0):bZ .mod (.int i) (.int j)=ok (.int (i.fmod j)):=aaQ h
@[simp]theorem Hz{i j:Int}(h:0<=j):bZ .shr (.int i) (.int j)=ok (.int (i / 2 ^ j.toNat)):=aaQ h
theorem Di{i j:Int}(h:jw i j=true):bZ .pow (.int i) (.int j)=ok (.int (i ^ j.toNat)):=aaQ h
@[simp]theorem WS(i:Int):vD (.int i)=ok (.int (-i)):=rfl
theorem mulOk_of{i j:Int}(h:i.natAbs<2 ^ 9000)(h':j.natAbs<2 ^ 9000):iA i j=true:=by
 simp only[iA,big,h,h',decide_true,Bool.and_self,Bool.or_true]
theorem vJ{n:Nat}(h:n<2 ^ 64):n<2 ^ 9000:=aaj h (aaw (by decide) (by decide))
theorem rg{i:Int}(j:Int)(h:i.natAbs<2 ^ 64):iA i j=true:=by simp only[iA,h,decide_true,Bool.true_or]
theorem Fd{j:Int}(i:Int)(h:j.natAbs<2 ^ 64):iA i j=true:=by simp only[iA,h,decide_true,Bool.true_or,Bool.or_true]
theorem iX{j:Int}(h0:j≠0)(h:j.natAbs<2 ^ 9000):qx j=true:=by
 simp only[qx,big,h,decide_true,Bool.and_true,decide_eq_true_eq];exact h0
@[simp]theorem R_{i j:Int}(h:j.natAbs<2 ^ 64):bZ .mul (.int i) (.int j)=ok (.int (i*j)):=jC (Fd i h)
@[simp]theorem Sa{i j:Int}(h:i.natAbs<2 ^ 64):bZ .mul (.int i) (.int j)=ok (.int (i*j)):=jC (rg j h)
@[simp]theorem Dk{i j:Int}(h0:j≠0)(h:j.natAbs<2 ^ 64):bZ .fdiv (.int i) (.int j)=ok (.int (i.fdiv j)):=oP (iX h0 (vJ h))
theorem QA{a b:D}(ha:dX 40 a=true)(hb:dX 40 b=true):ej .eq a b=ok (.bl (ia a b)):=by
 show(if dX 40 a&&dX 40 b then _ else _)=_;rw[ha,hb];rfl
theorem V5{a b:D}(ha:dX 40 a=true)(hb:dX 40 b=true):ej .ne a b=ok (.bl (!ia a b)):=by
 show(if dX 40 a&&dX 40 b then _ else _)=_;rw[ha,hb];rfl
@[simp]theorem kg(n:Nat)(i:Int):dX n (.int i)=true:=by cases n<;>rfl
@[simp]theorem TU(n:Nat)(i:Bool):dX n (.bl i)=true:=by cases n<;>rfl
@[simp]theorem Rn(n:Nat):dX n .bu=true:=by cases n<;>rfl
@[simp]theorem Rm(n:Nat)(i:Str):dX n (.str i)=true:=by cases n<;>rfl
@[simp]theorem xr(n:Nat)(ds:aa):dX (n+1) (.tup ds)=ds.all (dX n):=rfl
@[simp]theorem Rl(n:Nat)(f:Fl)(ds:aa):dX (n+1) (.lst f ds)=ds.all (dX n):=rfl
@[simp]theorem Tx(i j:Int):ej .eq (.int i) (.int j)=ok (.bl (decide (i=j))):=by rw[QA (kg _ _) (kg _ _)];show ok (D.bl (i==j))=_;rw[Int.beq_eq_decide_eq]
@[simp]theorem Tw(i j:Int):ej .ne (.int i) (.int j)=ok (.bl (!decide (i=j))):=by rw[V5 (kg _ _) (kg _ _)];show ok (D.bl (!(i==j)))=_;rw[Int.beq_eq_decide_eq]
@[simp]theorem YW(i j:Int):ej .lt (.int i) (.int j)=ok (.bl (decide (i<j))):=rfl
@[simp]theorem YX(i j:Int):ej .le (.int i) (.int j)=ok (.bl (decide (i<=j))):=rfl
@[simp]theorem YY(i j:Int):ej .gt (.int i) (.int j)=ok (.bl (decide (j<i))):=rfl
@[simp]theorem YZ(i j:Int):ej .ge (.int i) (.int j)=ok (.bl (decide (j<=i))):=rfl
@[simp]theorem Xa(ds:aa)(i:Int):kI (.tup ds) (.int i)=mn ds i:=rfl
@[simp]theorem Xb(f:Fl)(ds:aa)(i:Int):kI (.lst f ds) (.int i)=mn ds i:=rfl
theorem sA{n:Nat}{d:D}(h:ds[n]?=some d):mn ds (n:Int)=ok (aw aO d):=by
 have hn:n<ds.length:=(List.getElem?_eq_some_iff.mp h).1;have e:kZ ds.length (n:Int)=some n:=by unfold kZ;rw[if_pos (by left),if_pos (by left)];rfl
 unfold mn;rw[e,Option.bind_some,h]
theorem at_of{i:Int}{d:D}(h0:0<=i)(h:ds[i.toNat]?=some d):mn ds i=ok (aw aO d):=by
 have:=sA h
 rwa [show((i.toNat:Nat):Int)=i by left]at this
@[simp]theorem aaU(d:D)(ds:aa):mn (d::ds) 0=ok (aw aO d):=sA (n:=0) rfl
@[simp]theorem aaT(a d:D)(ds:aa):mn (a::d::ds) 1=ok (aw aO d):=sA (n:=1) rfl
@[simp]theorem aaS(a b d:D)(ds:aa):mn (a::b::d::ds) 2=ok (aw aO d):=sA (n:=2) rfl
@[simp]theorem RU(ds:aa):mU .len [.tup ds]=ok (.int ds.length):=rfl
@[simp]theorem RV(f:Fl)(ds:aa):mU .len [.lst f ds]=ok (.int ds.length):=rfl
@[simp]theorem XH(i:Int):mU .abs [.int i]=ok (.int i.natAbs):=by
 show ok (D.int (if i<0 then -i else i))=_;congr 2;split<;>left
@[simp]theorem Qh(f:Fl)(ds:aa):mU .list1 [.lst f ds]=ok (.lst .ow (au aO ds)):=rfl
@[simp]theorem Qg(ds:aa):mU .list1 [.tup ds]=ok (.lst .ow (au aO ds)):=rfl
@[simp]theorem RT(f:Fl)(ds:aa):mU .tuple1 [.lst f ds]=ok (.tup (au aO ds)):=rfl
@[simp]theorem XF(f:Fl)(ns:ae):mU .lZ [.lst f (ag ns)]=ok (.int ns.sum):=by
 show(match intsOf (ns.map D.int)with|some ns=>_|none=>_)=_;rw[bw]
@[simp]theorem XG(f:Fl)(bs:List Bool):mU .all1 [.lst f (mm bs)]=ok (.bl (bs.all id)):=by
 show(match i6 (bs.map D.bl)with|some ns=>_|none=>_)=_;rw[ll]
variable {ns ws:ae}
@[simp]theorem FU(h:ns.length<64):mU .gY [.tup (ag ns)]=ok (.lst .ow (ag (sortI ns))):=by
 show tf _=_;unfold tf ag;rw[bw];exact aaQ h
@[simp]theorem La(h:ns.length<4000):xA (.tup (ag ns))=ok (.int (oI ns).length):=by
 show(match intsOf (ns.map D.int)with|some ns=>_|none=>_)=_;rw[bw];exact aaQ h
@[simp]theorem mJ(i j:Int):ia (.int i) (.int j)=decide (i=j):=by show(i==j)=_;rw[Int.beq_eq_decide_eq]
@[simp]theorem VN(i j:Bool):ia (.bl i) (.bl j)=(i==j):=rfl
@[simp]theorem F0(a b:aa):ia (.tup a) (.tup b)=fO a b:=rfl
@[simp]theorem F1(f g:Fl)(a b:aa):ia (.lst f a) (.lst g b)=fO a b:=rfl
@[simp]theorem CD:fO [] []=true:=rfl
@[simp]theorem lb(a b:D)(as bs:aa):fO (a::as) (b::bs)=(ia a b&&fO as bs):=rfl
theorem oz:∀{as bs:aa},fO as bs=true->as.length=bs.length
 |[],[],_=>rfl
 |[],_::_,h=>(aac h).elim
 |_::_,[],h=>(aac h).elim
 |a::as,b::bs,h=>by
  replace h:(_&&_)=true:=h;rw[Bool.and_eq_true]at h;rw[List.length_cons,List.length_cons,oz h.2]
theorem oB{α:Type}{e:α->D}[DecidableEq α](h:∀x y,ia (e x) (e y)=decide (x=y)):∀xs ys:List α,fO (xs.map e) (ys.map e)=decide (xs=ys)
 |[],[]=>by simp
 |[],y::ys=>by
  cases z:fO ([].map e) ((y::ys).map e)with
  |true=>have:=oz z;simp at this
  |false=>simp
 |x::xs,[]=>by
  cases z:fO ((x::xs).map e) ([].map e)with
  |true=>have:=oz z;simp at this
  |false=>simp
 |x::xs,y::ys=>by
  rw[List.map_cons,List.map_cons,lb,h,oB h xs ys];by_cases e1:x=y<;>by_cases e2:xs=ys<;>simp[e1,e2]
theorem xu{α:Type}{e:α->D}{n:Nat}(h:∀x,dX n (e x)=true)(xs:List α):(xs.map e).all (dX n)=true:=by
 rw[List.all_map];exact List.all_eq_true.mpr λx _=>h x
theorem cI{bind:D->O a_}{test:a_->O Bool}{el:a_->O D}{α:Type}{e:α->D}{g:α->D}:∀{xs:List α},(∀x∈xs,∃ρ,bind (e x)=ok ρ/\test ρ=ok true/\el ρ=ok (g x))->iD bind test el (xs.map e)=ok (xs.map g)
 |[],_=>rfl
 |x::xs,h=>by
  obtain⟨ρ,h1,h2,h3⟩:=h x (aah ..);have ih:=cI (xs:=xs) λy hy=>h y (aag _ hy);rw[List.map_cons,iD,h1,d9,h2,d9,if_pos rfl,h3,d9,ih];rfl
theorem dj{bind:D->O a_}{test:a_->O Bool}{el:a_->O D}{α:Type}{e:α->D}{g:α->D}{t:α->Bool}:∀{xs:List α},(∀x∈xs,∃ρ,bind (e x)=ok ρ/\test ρ=ok (t x)/\(t x=true->el ρ=ok (g x)))->iD bind test el (xs.map e)=ok ((xs.filter t).map g)
 |[],_=>rfl
 |x::xs,h=>by
  obtain⟨ρ,h1,h2,h3⟩:=h x (aah ..);have ih:=dj (xs:=xs) λy hy=>h y (aag _ hy);rw[List.map_cons,iD,h1,d9,h2,d9,List.filter_cons];cases ht:t x with
  |true=>rw[if_pos rfl,h3 ht,d9,ih,if_pos rfl];rfl
  |false=>rw[if_neg Bool.false_ne_true,ih,if_neg Bool.false_ne_true]
section
variable {Φ:bh}{n:Nat}{t:Tg}{caps:aN}{ik:IK}{es bH:az}{elt:CE}{ρ:a_}{xs items ds:aa}
theorem cU(h1:bK Φ es ρ=ok xs)(h2:dU Φ ik xs=ok items)
  (h3:iD (λd=>cY t d (bE n caps ρ)) (λρ'=>iC Φ bH ρ') (λρ'=>bp Φ elt ρ') items=ok ds) (hl:ds.length<=eE):bp Φ (.comp n t caps ik es bH elt) ρ=ok (.lst .ow (au d8 ds)):=by
 show bd (bK Φ es ρ) _=_;rw[h1,d9,h2,d9,h3,d9,if_pos hl]
end
theorem rG(Φ:bh)(ds:aa):dU Φ .seq [.tup ds]=ok (au aL ds):=rfl
theorem eK(Φ:bh)(f:Fl)(ds:aa):dU Φ .seq [.lst f ds]=ok (au aL ds):=rfl
theorem rH(Φ:bh){n:Int}(h0:0<=n)(h:n<=1000000):dU Φ .jZ [.int n]=ok ((List.range n.toNat).map λ(k:Nat)=>D.int (k:Int)):=by
 show(if n<=(eE:Int) /\ -(eE:Int)<=n then _ else _)=_;have:(eE:Int)=1000000:=rfl;rw[if_pos (by left)]
theorem cm{n:Nat}(h:n<=1000000):n<=eE:=h
theorem lA{t:Tg}{it:CI}{b:aq}{items:aa}{r:O (Fo×a_)}(h:fg Φ it ρ=ok (items,ρ1))(h':fW (λd ρ=>cY t d ρ) (λρ=>bJ Φ b ρ) items ρ1=r):hZ Φ (.fr t it b) ρ=r:=by
 show bd (fg Φ it ρ) _=_;rw[h];exact h'
theorem jM{bind:D->a_->O a_}{body:a_->O (Fo×a_)}{x:D}{r:O (Fo×a_)}(h1:bind x ρ=ok ρ1)(h2:body ρ1=ok (.nx,ρ2))(h3:fW bind body xs ρ2=r):fW bind body (x::xs) ρ=r:=by
 rw[fW,h1,d9,h2];exact h3
theorem rS{bind:D->a_->O a_}{body:a_->O (Fo×a_)}{x y:D}(h1:bind x ρ=ok ρ1)(h2:body ρ1=ok (.rt y,ρ2)):fW bind body (x::xs) ρ=ok (.rt y,ρ2):=by
 rw[fW,h1,d9,h2];rfl
theorem JY{a:CE}{n:Int}(h:bp Φ a ρ=ok (.int n))(h0:0<=n)(h1:n<=1000000):fg Φ (.jZ a) ρ=ok ((List.range n.toNat).map λ(k:Nat)=>D.int (k:Int),ρ):=by
 show bd (bp Φ a ρ) _=_;rw[h];show(if n<=(eE:Int) /\ -(eE:Int)<=n then _ else _)=_;have:(eE:Int)=1000000:=rfl;rw[if_pos (by left)]
theorem J0{a:CE}{f:Fl}(h:bp Φ a ρ=ok (.lst f ds)):fg Φ (.seq a) ρ=ok (au aL ds,if (bN f||aP bN ds)then om (iJ a) 0 ρ else ρ):=by
 show bd (bp Φ a ρ) _=_;rw[h,<- v7];show ok (_,if aY bN (.lst f ds)then _ else _)=_;rw[Ce]
noncomputable def fQ(t b:Int):Int:=if b<0 then -(Int.gcd t b:Int)else(Int.gcd t b:Int)
def Jw(t b:Int):Int:=t.fdiv (fQ t b)
def Jx(t b:Int):Int:=b.fdiv (fQ t b)
theorem xZ{t b:Int}(h:b≠0):0<Int.gcd t b:=Int.gcd_pos_of_ne_zero_right t h
theorem jP{t b:Int}(h:b≠0):fQ t b≠0:=by
 have:=xZ (t:=t) h;unfold fQ;split<;>left
theorem Kv{t b:Int}(h:b≠0):Int.gcd t b<=b.natAbs:=Nat.le_of_dvd (by left) (Nat.gcd_dvd_right _ _)
theorem F6{t b:Int}(h:b≠0):(fQ t b).natAbs<=b.natAbs:=by
 have:=Kv (t:=t) h;unfold fQ;split<;>left
theorem nM{t b:Int}(h:b≠0):∃t' b':Int,t=fQ t b*t'/\b=fQ t b*b'/\Jw t b=t'/\Jx t b=b'/\1<=b'/\Int.gcd t' b'=1:=by
 have hg:=xZ (t:=t) h;obtain⟨t1,ht⟩:(Int.gcd t b:Int)∣t:=Int.gcd_dvd_left ..;obtain⟨b1,hb⟩:(Int.gcd t b:Int)∣b:=Int.gcd_dvd_right ..;have hc:Int.gcd t1 b1=1:=by
  have e:Int.gcd ((Int.gcd t b:Int)*t1) ((Int.gcd t b:Int)*b1)=Int.gcd t b*Int.gcd t1 b1:=by
   rw[Int.gcd_mul_left];simp
  rw[<- ht,<- hb]at e;have:Int.gcd t b*1=Int.gcd t b*Int.gcd t1 b1:=by rw[Nat.mul_one];exact e
  exact(Nat.eq_of_mul_eq_mul_left hg this).symm
 by_cases hn:b<0
 ·have ed:fQ t b = -(Int.gcd t b:Int):=by simp[fQ,hn]
  have e1:t=fQ t b*(-t1):=by rw[ed,Int.neg_mul_neg];exact ht
  have e2:b=fQ t b*(-b1):=by rw[ed,Int.neg_mul_neg];exact hb
  refine⟨-t1,-b1,e1,e2,?_,?_,?_,by rw[Int.gcd_neg,Int.neg_gcd];exact hc⟩
  ·unfold Jw
   conv=>lhs;arg 1;rw[e1]
   exact aa_ _ (jP h)
  ·unfold Jx
   conv=>lhs;arg 1;rw[e2]
   exact aa_ _ (jP h)
  ·have:b1<0:=by
    by_cases Py:b1<0
    ·exact Py
    ·have:0<=(Int.gcd t b:Int)*b1:=Int.mul_nonneg (by left) (by left);left
   left
 ·have ed:fQ t b=(Int.gcd t b:Int):=by simp[fQ,hn]
  have e1:t=fQ t b*t1:=by rw[ed];exact ht
  have e2:b=fQ t b*b1:=by rw[ed];exact hb
  refine⟨t1,b1,e1,e2,?_,?_,?_,hc⟩
  ·unfold Jw
   conv=>lhs;arg 1;rw[e1]
   exact aa_ _ (jP h)
  ·unfold Jx
   conv=>lhs;arg 1;rw[e2]
   exact aa_ _ (jP h)
  ·have:0<b1:=by
    by_cases Py:0<b1
    ·exact Py
    ·have:(Int.gcd t b:Int)*b1<=0:=Int.mul_nonpos_of_nonneg_of_nonpos (by left) (by left);left
   left
noncomputable def qD(q:Rat):D:=.tup [.int q.num,.int q.den]
@[simp]theorem JF(g:Fl->Fl)(q:Rat):aw g (qD q)=qD q:=by unfold qD;simp
@[simp]theorem Ko(g:Fl->Bool)(q:Rat):aY g (qD q)=false:=by unfold qD;simp
noncomputable def jn(qs:bt):aa:=qs.map qD
@[simp]theorem Rb(qs:bt):(jn qs).length=qs.length:=abd ..
@[simp]theorem Ra:jn []=[]:=rfl
@[simp]theorem Ny(q:Rat)(qs:bt):jn (q::qs)=qD q::jn qs:=rfl
@[simp]theorem Nx(qs:bt)(q:Rat):jn qs++[qD q]=jn (qs++[q]):=by simp[jn]
@[simp]theorem Rc(qs:bt)(i:Nat):(jn qs)[i]?=qs[i]?.map qD:=List.getElem?_map ..
@[simp]theorem Q_(qs:bt)(i:Nat)(q:Rat):(jn qs).set i (qD q)=jn (qs.set i q):=by unfold jn;rw[List.map_set]
@[simp]theorem N9(g:Fl->Fl)(qs:bt):au g (jn qs)=jn qs:=dq g (JF g) qs
@[simp]theorem PB(g:Fl->Bool)(qs:bt):aP g (jn qs)=false:=du g (Ko g) qs
theorem Qn(p q:Rat):ia (qD p) (qD q)=decide (p=q):=by
 unfold qD;rw[F0,lb,lb,CD,mJ,mJ,Bool.and_true];by_cases h:p=q
 ·subst h;simp
 ·rw[decide_eq_false h];cases e1:decide (p.num=q.num)with
  |false=>rfl
  |true =>
   cases e2:decide ((p.den:Int)=(q.den:Int))with
   |false=>rfl
   |true =>
    refine absurd (Rat.ext (by simpa using e1) ?_) h;have:(p.den:Int)=q.den:=by simpa using e2
    left
@[simp]theorem W6(q:Rat):kI (qD q) (.int 0)=ok (.int q.num):=by unfold qD;simp
@[simp]theorem W5(q:Rat):kI (qD q) (.int 1)=ok (.int q.den):=by unfold qD;simp
theorem rR{t b:Int}(hb:b≠0):t.fdiv (fQ t b)=(Rat.divInt t b).num/\b.fdiv (fQ t b)=((Rat.divInt t b).den:Int):=by
 obtain⟨t',b',e1,e2,h1,h2,h3,h4⟩:=nM (t:=t) hb;have hd:=jP (t:=t) hb;have e:Rat.divInt t b=Rat.divInt t' b':=by
  generalize fQ t b=d at *;rw[e1,e2];exact Rat.divInt_mul_left hd
 obtain⟨n,rfl⟩:∃n:Nat,b'=(n:Int):=⟨b'.toNat,by left⟩
 have hc:t'.natAbs.Coprime n:=by
  have:Nat.gcd t'.natAbs n=1:=by simpa [Int.gcd]using h4
  exact this
 have hn:n≠0:=by left
 have e3:Rat.divInt t' (n:Int)=⟨t',n,hn,hc⟩:=Rat.mk_eq_divInt.symm;rw[e,e3];exact⟨h1,h2⟩
theorem kc(q:Rat):(q.den:Int)≠0:=by have:=q.den_pos;left
theorem A5(q:Rat):(1:Int)<=q.den:=by have:=q.den_pos;left
theorem gi(q:Rat):Rat.divInt q.num q.den=q:=Rat.num_divInt_den q
theorem my{t b:Int}(hb:b≠0):(Rat.divInt t b).num.natAbs<=t.natAbs/\(Rat.divInt t b).den<=b.natAbs:=by
 obtain⟨t',b',e1,e2,h1,h2,h3,h4⟩:=nM (t:=t) hb;obtain⟨g1,g2⟩:=rR (t:=t) hb;have hd:1<=(fQ t b).natAbs:=by have:=jP (t:=t) hb;left
 rw[show t.fdiv (fQ t b)=t' from h1]at g1;rw[show b.fdiv (fQ t b)=b' from h2]at g2;refine⟨?_,?_⟩
 ·rw[<- g1];have:t.natAbs=(fQ t b).natAbs*t'.natAbs:=by rw[<- Int.natAbs_mul,<- e1]
  rw[this];exact Nat.le_mul_of_pos_left _ hd
 ·have hz:(Rat.divInt t b).den=b'.natAbs:=by left
  rw[hz];have:b.natAbs=(fQ t b).natAbs*b'.natAbs:=by rw[<- Int.natAbs_mul,<- e2]
  rw[this];exact Nat.le_mul_of_pos_left _ hd
theorem GU(p q:Rat):p+q=Rat.divInt (p.num*q.den+q.num*p.den) (p.den*q.den):=by
 conv=>lhs;rw[<- gi p,<- gi q]
 exact Rat.divInt_add_divInt _ _ (kc p) (kc q)
theorem Nz(p q:Rat):p - q=Rat.divInt (p.num*q.den - q.num*p.den) (p.den*q.den):=by
 conv=>lhs;rw[<- gi p,<- gi q]
 exact Rat.divInt_sub_divInt _ _ (kc p) (kc q)
theorem NC(p q:Rat):p*q=Rat.divInt (p.num*q.num) (p.den*q.den):=by
 conv=>lhs;rw[<- gi p,<- gi q]
 exact Rat.divInt_mul_divInt _ _
def Sm(k:Nat)(q:Rat):Prop:=q.num.natAbs<2 ^ k/\q.den<2 ^ k
theorem Sm.mono{k l:Nat}{q:Rat}(h:Sm k q)(hl:k<=l):Sm l q :=
 ⟨aaj h.1 (aaw (by decide) hl),aaj h.2 (aaw (by decide) hl)⟩
theorem cc{a b k l:Nat}(h:a<2 ^ k)(h':b<2 ^ l):a*b<2 ^ (k+l):=by
 rw[Nat.pow_add];exact Nat.mul_lt_mul'' h h'
theorem Gx(a b:Int):(a+b).natAbs<=a.natAbs+b.natAbs:=Int.natAbs_add_le a b
theorem Gw(a b:Int):(a - b).natAbs<=a.natAbs+b.natAbs:=by rw[Int.sub_eq_add_neg];exact Int.natAbs_neg b▸Int.natAbs_add_le a (-b)
section
variable {k l:Nat}{p q:Rat}
theorem Sm.den(h:Sm k p)(h':Sm l q):((p.den:Int)*q.den).natAbs<2 ^ (k+l):=by
 rw[Int.natAbs_mul];exact cc (by simpa using h.2) (by simpa using h'.2)
theorem Sm.add(h:Sm k p)(h':Sm l q):Sm (k+l+1) (p+q):=by
 have hb:(p.den:Int)*q.den≠0:=abR (kc p) (kc q);obtain⟨g1,g2⟩:=my (t:=p.num*q.den+q.num*p.den) hb;rw[<- GU]at g1 g2;have n1:(p.num*q.den).natAbs<2 ^ (k+l):=by rw[Int.natAbs_mul];exact cc h.1 (by simpa using h'.2)
 have n2:(q.num*p.den).natAbs<2 ^ (k+l):=by rw[Int.natAbs_mul,Nat.add_comm];exact cc h'.1 (by simpa using h.2)
 have:=Gx (p.num*q.den) (q.num*p.den);have e:2 ^ (k+l+1)=2 ^ (k+l)*2:=Nat.pow_succ ..;have d:=h.den h';exact⟨by left,by left⟩
theorem Sm.sub(h:Sm k p)(h':Sm l q):Sm (k+l+1) (p - q):=by
 have hb:(p.den:Int)*q.den≠0:=abR (kc p) (kc q);obtain⟨g1,g2⟩:=my (t:=p.num*q.den - q.num*p.den) hb;rw[<- Nz]at g1 g2;have n1:(p.num*q.den).natAbs<2 ^ (k+l):=by rw[Int.natAbs_mul];exact cc h.1 (by simpa using h'.2)
 have n2:(q.num*p.den).natAbs<2 ^ (k+l):=by rw[Int.natAbs_mul,Nat.add_comm];exact cc h'.1 (by simpa using h.2)
 have:=Gw (p.num*q.den) (q.num*p.den);have e:2 ^ (k+l+1)=2 ^ (k+l)*2:=Nat.pow_succ ..;have d:=h.den h';exact⟨by left,by left⟩
theorem Sm.mul(h:Sm k p)(h':Sm l q):Sm (k+l) (p*q):=by
 have hb:(p.den:Int)*q.den≠0:=abR (kc p) (kc q);obtain⟨g1,g2⟩:=my (t:=p.num*q.num) hb;rw[<- NC]at g1 g2;have n1:(p.num*q.num).natAbs<2 ^ (k+l):=by rw[Int.natAbs_mul];exact cc h.1 h'.1
 have d:=h.den h';exact⟨by left,by left⟩
theorem Sm.big(h:Sm k p)(hk:k<=9000):p.num.natAbs<2 ^ 9000/\(p.den:Int).natAbs<2 ^ 9000:=by
 have:=h.mono hk;exact⟨this.1,by simpa using this.2⟩
end
theorem yQ{t b:Int}{k:Nat}(hb:b≠0)(h1:t.natAbs<2 ^ k)(h2:b.natAbs<2 ^ k):Sm k (Rat.divInt t b):=by
 obtain⟨g1,g2⟩:=my (t:=t) hb;exact⟨by left,by left⟩
def bX(d:D):Bool:=cL .int d&&!cL .bool d
def cE(m:aH):Prop:=∀d,m [d]=ok (.bl (bX d))
noncomputable def eG:aq:=[.ret (.and [(.o8 (.v 0) .int),(.not (.o8 (.v 0) .bool))])]
theorem nE(Φ:bh):cE (mk Φ 1 1 eG):=by
 intro d;simp[mk_eq,eG,bX]
theorem ox(a:Int){b:Int}(h:b≠0):(a.fmod b).natAbs<b.natAbs:=by
 rcases Int.lt_or_gt_of_ne h with hb|hb
 ·have e:=Int.neg_fmod_neg a b;have h1:=abE (-a) (show 0 < -b by left);have h2:=ab9 (-a) (show 0 < -b by left);left
 ·have h1:=abE a hb;have h2:=ab9 a hb;left
theorem Cq(a b:Int):Int.gcd b (a.fmod b)=Int.gcd a b:=by
 rw[Int.fmod_def,Int.gcd_sub_mul_left_right,Int.gcd_comm]
def bA(m:aH):Prop:=∀a b:Int,m [.int a,.int b]=ok (.int (Int.gcd a b))
noncomputable def Af:CS:=.GF (.cmp .ne (.v 1) (.int 0)) [.asg (.nm 2) (.bin .mod (.v 0) (.v 1)),.asg (.nm 0) (.v 1),.asg (.nm 1) (.v 2)]
def dv:aq:=[Af,.ret (.bf .abs [(.v 0)])]
theorem Gj(Φ:bh):∀(n:Nat) (a b:Int) (r:aU),b.natAbs<=n->∃(g:Int) (r':aU),hZ Φ Af [some (.int a),some (.int b),r]=ok (.nx,[some (.int g),some (.int 0),r'])/\g.natAbs=Int.gcd a b:=by
 intro n;induction n with
 |zero =>
  intro a b r h;have hb:b=0:=by left
  subst hb;refine⟨a,r,?_,by simp⟩;rw[Af,pR];exact gR (by simp)
 |succ n ih =>
  intro a b r h;by_cases hb:b=0
  ·subst hb;refine⟨a,r,?_,by simp⟩;rw[Af,pR];exact gR (by simp)
  ·have iB:=ox a hb;obtain⟨g,r',e,hg⟩:=ih b (a.fmod b) (some (.int (a.fmod b))) (by left);refine⟨g,r',?_,by rw[hg,Cq]⟩;rw[Af,pR]at e ⊢;rw[<- e];exact m8 (by simp[hb])
theorem kS(Φ:bh):bA (mk Φ 2 3 dv):=by
 intro a b;obtain⟨g,r',e,hg⟩:=Gj Φ b.natAbs a b none (aai _);have e1:(g.natAbs:Int)=(Int.gcd a b:Int):=by left
 simp[mk_eq,dv,e,e1]
def kG(m:aH):Prop:=∀t b:Int,b≠0->b.natAbs<2 ^ 9000->m [.int t,.int b]=ok (qD (Rat.divInt t b))
def jF(m:aH):Prop:=kG m/\∀t:Int,m [.int t,.int 0]=some (.error 0)
noncomputable def cT:aq:=[.ifs (.cmp .eq (.v 1) (.int 0)) [.rs 0] [],.asg (.nm 2) (.call 1 [(.v 0),(.v 1)]),.ifs (.cmp .lt (.v 1) (.int 0)) [.asg (.nm 2) (.neg (.v 2))] [],.ret (.tup [(.bin .fdiv (.v 0) (.v 2)),(.bin .fdiv (.v 1) (.v 2))])]
theorem mO{t b:Int}(hb:b≠0)(h:b.natAbs<2 ^ 9000)(x:Int):bZ .fdiv (.int x) (.int (fQ t b))=ok (.int (x.fdiv (fQ t b))) :=
 oP (iX (jP hb) (aar (F6 hb) h))
theorem pA(Φ:bh)(h1:bA (Φ 1)):jF (mk Φ 2 3 cT):=by
 refine⟨λt b hb h=>?_,λt=>by simp[mk_eq,cT]⟩;obtain⟨e1,e2⟩:=rR (t:=t) hb;unfold bA at h1;have d1:=mO (t:=t) hb h t;have d2:=mO (t:=t) hb h b;rw[qD,<- e1,<- e2];by_cases hn:b<0
 ·have ed:-(Int.gcd t b:Int)=fQ t b:=by simp[fQ,hn]
  simp[mk_eq,cT,hb,h1,hn,ed,d1,d2]
 ·have ed:(Int.gcd t b:Int)=fQ t b:=by simp[fQ,hn]
  simp[mk_eq,cT,hb,h1,hn,ed,d1,d2]
noncomputable def cB:D->Bool
 |.tup [.int a,.int b]=>decide (1<=b)&&decide (Int.gcd a b=1)
 |_=>false
theorem FR(q:Rat):cB (qD q)=true:=by
 have h1:=A5 q;have h2:Int.gcd q.num q.den=1:=by
  have:=q.reduced;simpa [Int.gcd]using this
 simp[qD,cB,h1,h2]
theorem kz{d:D}(h:cB d=true):∃q,d=qD q:=by
 unfold cB at h;split at h
 ·rename_i a b;simp only[Bool.and_eq_true,decide_eq_true_eq]at h;obtain⟨n,rfl⟩:∃n:Nat,b=(n:Int):=⟨b.toNat,by left⟩
  have hc:a.natAbs.Coprime n:=by
   have:Nat.gcd a.natAbs n=1:=by simpa [Int.gcd]using h.2
   exact this
  exact⟨⟨a,n,by left,hc⟩,rfl⟩
 ·cases h
def jE(m:aH):Prop:=∀d,m [d]=ok (.bl (cB d))
noncomputable def cf:aq:=[.ifs (.or [(.not (.o8 (.v 0) .tuple)),(.cmp .ne (.bf .len [(.v 0)]) (.int 2))]) [.ret (.bl false)] [],.ifs (.or [(.not (.call 0 [(.ix (.v 0) (.int 0))])),(.not (.call 0 [(.ix (.v 0) (.int 1))]))]) [.ret (.bl false)] [],.ret (.and [(.cmp .ge (.ix (.v 0) (.int 1)) (.int 1)),(.cmp .eq (.call 1 [(.ix (.v 0) (.int 0)),(.ix (.v 0) (.int 1))]) (.int 1))])]
theorem lB(g:Fl->Fl)(d:D):bX (aw g d)=bX d:=by simp[bX]
theorem dQ{d:D}(h:bX d=true):∃i,d=.int i:=by
 cases d<;>simp[bX,cL]at h ⊢
theorem jj{x y:D}(h:bX x=false\/bX y=false):cB (.tup [x,y])=false:=by
 cases x<;>cases y<;>simp[bX,cL]at h<;>rfl
theorem qr(h:ds.length≠2):cB (.tup ds)=false:=by
 unfold cB;split
 ·rename_i e;cases e;simp at h
 ·rfl
theorem pz(Φ:bh)(h0:cE (Φ 0))(h1:bA (Φ 1)):jE (mk Φ 1 1 cf):=by
 intro d;unfold cE at h0;unfold bA at h1;cases d with
 |tup ds =>
  by_cases hl:ds.length=2
  ·match ds,hl with
   |[x,y],_ =>
    by_cases hx:bX x=true
    ·by_cases hy:bX y=true
     ·obtain⟨a,rfl⟩:=dQ hx;obtain⟨b,rfl⟩:=dQ hy;simp[mk_eq,cf,h0,h1,hx,hy,cL,cB];by_cases hg:a.gcd b=1
      ·simp[hg]
      ·simp[hg];left
     ·simp[mk_eq,cf,h0,hx,hy,cL,lB,jj (.inr (by simpa using hy))]
    ·simp[mk_eq,cf,h0,hx,cL,lB,jj (.inl (by simpa using hx))]
  ·have jq:¬ (ds.length:Int)=2:=by left
   simp[mk_eq,cf,cL,jq,qr hl]
 |_=>simp[mk_eq,cf,cL,cB]
def uK(m:aH):Prop:=∀p q,Sm 4000 p->Sm 4000 q->m [qD p,qD q]=ok (qD (p+q))
noncomputable def yq(f:Nat):aq:=[.ret (.call f [(.bin .add (.bin .mul (.ix (.v 0) (.int 0)) (.ix (.v 1) (.int 1))) (.bin .mul (.ix (.v 1) (.int 0)) (.ix (.v 0) (.int 1)))),(.bin .mul (.ix (.v 0) (.int 1)) (.ix (.v 1) (.int 1)))])]
section
variable (Φ:bh){f:Nat}(h2:kG (Φ f))
theorem VZ{p q:Rat}(hp:Sm 4000 p)(hq:Sm 4000 q):(p.den:Int)*q.den≠0/\((p.den:Int)*q.den).natAbs<2 ^ 9000 :=
 ⟨abR (kc p) (kc q),aaj (hp.den hq) (aaw (by decide) (by decide))⟩
theorem N4{p q:Rat}(hp:Sm 4000 p)(hq:Sm 4000 q):bZ .mul (.int p.num) (.int q.den)=ok (.int (p.num*q.den))/\bZ .mul (.int p.num) (.int q.num)=ok (.int (p.num*q.num))/\bZ .mul (.int p.den) (.int q.den)=ok (.int (p.den*q.den))/\bZ .mul (.int p.den) (.int q.num)=ok (.int (p.den*q.num)):=by
 obtain⟨a,b⟩:=hp.big (by decide);obtain⟨c,d⟩:=hq.big (by decide);exact⟨jC (mulOk_of a d),jC (mulOk_of a c),jC (mulOk_of b d),jC (mulOk_of b c)⟩
include h2
theorem Nj:uK (mk Φ 2 2 (yq f)):=by
 intro p q hp hq;obtain⟨a,b,c,d⟩:=N4 hp hq;obtain⟨a',b',c',d'⟩:=N4 hq hp;obtain⟨n,k⟩:=VZ hp hq;have e:=h2 (p.num*q.den+q.num*p.den) _ n k;rw[<- GU]at e;simp[mk_eq,yq,a,a',c,e]
end
theorem CZ{bind:D->O a_}{test:a_->O Bool}{el:a_->O D}{g:D->D}(h:∀x∈xs,∃ρ,bind x=ok ρ/\test ρ=ok true/\el ρ=ok (g x)):iD bind test el xs=ok (xs.map g):=by
 have:=cI (bind:=bind) (test:=test) (el:=el) (e:=λd=>d) (g:=g) (xs:=xs) h
 rwa [List.map_id']at this
theorem jL(g:Fl->Fl)(d:D):cB (aw g d)=cB d:=by
 cases d with
 |tup ds =>
  match ds with
  |[]=>simp
  |[_]=>simp[cB]
  |[x,y]=>cases x<;>cases y<;>simp[cB]
  |_::_::_::_=>simp[cB]
 |_=>simp[cB]
def pK(d:D):Prop:=match d with
 |.lst _ ds=>ds.length<=1000000
 |.tup ds=>ds.length<64
 |_=>True
noncomputable def jo(qs:bt):Nat:=qs.foldl (λb q=>Nat.lcm b q.den) 1
theorem BM(b:Nat)(q:Rat):(b:Int).fdiv (Int.gcd b q.den)*q.den=(Nat.lcm b q.den:Nat):=by
 have hg:0<Nat.gcd b q.den:=Nat.gcd_pos_of_pos_right _ q.den_pos;have e:Int.gcd (b:Int) (q.den:Int)=Nat.gcd b q.den:=by simp[Int.gcd]
 rw[e,Int.fdiv_eq_ediv_of_nonneg _ (by left)];have:((b:Int) / (Nat.gcd b q.den:Nat))=((b / Nat.gcd b q.den:Nat):Int):=(Int.natCast_ediv ..).symm;rw[this,Nat.lcm];have hd:Nat.gcd b q.den∣b:=Nat.gcd_dvd_left ..;rw[Nat.mul_comm b,Nat.mul_div_assoc _ hd,Nat.mul_comm];exact(Int.natCast_mul ..).symm
theorem lcm_pos{b:Nat}(hb:0<b)(q:Rat):0<Nat.lcm b q.den:=Nat.lcm_pos hb q.den_pos
theorem xF:∀(qs:bt) (b k j:Nat),0<b->b<2 ^ j->(∀q∈qs,Sm k q)->0<qs.foldl (λb q=>Nat.lcm b q.den) b/\qs.foldl (λb q=>Nat.lcm b q.den) b<2 ^ (j+k*qs.length)/\b∣qs.foldl (λb q=>Nat.lcm b q.den) b/\∀q∈qs,q.den∣qs.foldl (λb q=>Nat.lcm b q.den) b
 |[],b,k,j,h0,h1,_=>⟨h0,by simpa using h1,Nat.dvd_refl _,λq hq=>nomatch hq⟩
 |q::qs,b,k,j,h0,h1,hs=>by
  have hq:=hs q aah;have h2:Nat.lcm b q.den<2 ^ (j+k):=aar (Nat.lcm_le_mul h0 q.den_pos) (cc h1 hq.2);obtain⟨g1,g2,g3,g4⟩:=xF qs (Nat.lcm b q.den) k (j+k) (lcm_pos h0 q) h2 λp hp=>hs p (aag _ hp);have e:j+k*(q::qs).length=j+k+k*qs.length:=by rw[List.length_cons,Nat.mul_succ];left
  refine⟨g1,by rw[e];exact g2,Nat.dvd_trans (Nat.dvd_lcm_left ..) g3,λp hp=>?_⟩;rcases List.mem_cons.mp hp with rfl|hp
  ·exact Nat.dvd_trans (Nat.dvd_lcm_right ..) g3
  ·exact g4 p hp
structure z_(k:Nat)(qs:bt):Prop where
 sm:∀q∈qs,Sm k q
 zF:k*qs.length<=3000
 len:qs.length<=1000
variable {qs:bt}
theorem z_.lcm{k:Nat}(h:z_ k qs):0<jo qs/\jo qs<2 ^ (1+k*qs.length)/\∀q∈qs,q.den∣jo qs:=by
 obtain⟨g1,g2,_,g4⟩:=xF qs 1 k 1 (by decide) (by decide) h.sm;exact⟨g1,g2,g4⟩
theorem BG{n j:Nat}(h:n<2 ^ j)(hj:j<=9000):n<2 ^ 9000:=aaj h (aaw (by decide) hj)
def iF(m:aH):Prop:=∀f qs k,z_ k qs->m [.lst f (jn qs)]=ok (.int (jo qs))
noncomputable def cz:aq:=[.asg (.nm 1) (.bin .mul (.bin .fdiv (.v 1) (.call 1 [(.v 1),(.ix (.v 2) (.int 1))])) (.ix (.v 2) (.int 1)))]
def cP:aq:=[.asg (.nm 1) (.int 1),.fr (.nm 2) (.seq (.v 0)) cz,.ret (.v 1)]
theorem ym(Φ:bh)(h1:bA (Φ 1))(x:aU):∀(qs:bt) (b k j:Nat) (z:aU),0<b->b<2 ^ j->j+k*qs.length<=8000->(∀q∈qs,Sm k q) ->
  ∃z',fW (λd ρ=>cY (.nm 2) d ρ) (λρ=>bJ Φ cz ρ) (jn qs) [x,some (.int b),z]=ok (.nx,[x,some (.int (qs.foldl (λb q=>Nat.lcm b q.den) b:Nat)),z'])
 |[],b,k,j,z,_,_,_,_=>⟨z,rfl⟩
 |q::qs,b,k,j,z,h0,hb,hj,hs=>by
  have hq:=hs q aah;have h2:Nat.lcm b q.den<2 ^ (j+k):=aar (Nat.lcm_le_mul h0 q.den_pos) (cc hb hq.2);have e:j+k*(q::qs).length=j+k+k*qs.length:=by rw[List.length_cons,Nat.mul_succ];left
  obtain⟨z',ih⟩:=ym Φ h1 x qs (Nat.lcm b q.den) k (j+k) (some (qD q)) (lcm_pos h0 q) h2 (by left) λp hp=>hs p (aag _ hp);have hg:0<Nat.gcd b q.den:=Nat.gcd_pos_of_pos_right _ q.den_pos;have eg:Int.gcd (b:Int) (q.den:Int)=Nat.gcd b q.den:=by simp[Int.gcd]
  have U6:Nat.gcd b q.den<=b:=Nat.le_of_dvd h0 (Nat.gcd_dvd_left ..);have RK:b<2 ^ 9000:=BG hb (by left);have d1:bZ .fdiv (.int b) (.int (Nat.gcd b q.den:Nat))=ok (.int ((b:Int).fdiv (Nat.gcd b q.den:Nat))):=oP (iX (by left) (by simpa using Nat.lt_of_le_of_lt U6 RK));have hm:((b:Int).fdiv (Nat.gcd b q.den:Nat)).natAbs<=b:=by
   rw[Int.fdiv_eq_ediv_of_nonneg _ (by left),<- Int.natCast_ediv];simp;exact abS ..
  have d2:bZ .mul (.int ((b:Int).fdiv (Nat.gcd b q.den:Nat))) (.int q.den)=ok (.int (Nat.lcm b q.den:Nat)):=by
   have:=BM b q;rw[eg]at this;rw[jC (mulOk_of (Nat.lt_of_le_of_lt hm RK) (hq.big (by
    rw[e]at hj;have:k<=j+k+k*qs.length:=by left
    left)).2),this]
  unfold bA at h1;refine⟨z',jM (ρ1:=[x,some (.int b),some (qD q)]) (by simp) (ρ2:=[x,some (.int (Nat.lcm b q.den:Nat)),some (qD q)]) ?_ ih⟩;simp[cz,h1,d1,d2]
theorem l8(Φ:bh)(h1:bA (Φ 1)):iF (mk Φ 1 3 cP):=by
 intro f qs k hs;have hit:fg Φ (.seq (.v 0)) [some (.lst f (jn qs)),some (.int 1),none]=ok (jn qs,if (bN (aO f)||false)then[some (.lst (aL f) (jn qs)),some (.int 1),none]else[some (.lst f (jn qs)),some (.int 1),none]):=by
  rw[J0 (f:=aO f) (ds:=jn qs) (by simp)];simp[show iJ (.v 0)=[0] from rfl]
 have hk:=hs.zF;have hx:∀x:aU,∃z',fW (λd ρ=>cY (.nm 2) d ρ) (λρ=>bJ Φ cz ρ) (jn qs) [x,some (.int (1:Nat)),none]=ok (.nx,[x,some (.int (jo qs)),z']):=λx=>ym Φ h1 x qs 1 k 1 none (by decide) (by decide) (by left) hs.sm;cases hf:(bN (aO f)||false)with
 |true =>
  rw[hf]at hit;obtain⟨z',e⟩:=hx (some (.lst (aL f) (jn qs)));have:=lA (t:=.nm 2) (b:=cz) hit e;simp[mk_eq,cP,this]
 |false =>
  rw[hf]at hit;obtain⟨z',e⟩:=hx (some (.lst f (jn qs)));have:=lA (t:=.nm 2) (b:=cz) hit e;simp[mk_eq,cP,this]
noncomputable def dS(b:Nat)(q:Rat):Int:=q.num*(b:Int).fdiv q.den
theorem NB(q:Rat):(q.num:Rat)=q*(q.den:Rat):=by
 have h:(q.den:Rat)≠0:=by
  have:=q.den_pos;intro z;have:((q.den:Int):Rat)=0:=by rw[Rat.intCast_natCast];exact z
  rw[Rat.intCast_eq_zero_iff]at this;left
 have e:q=(q.num:Rat) / (q.den:Rat):=by
  conv=>lhs;rw[<- gi q,Rat.divInt_eq_div,Rat.intCast_natCast]
 grind
theorem Ar{b:Nat}{q:Rat}(h:q.den∣b):((dS b q:Int):Rat)=q*(b:Rat):=by
 obtain⟨c,rfl⟩:=h;have hd:(q.den:Int)≠0:=kc q;unfold dS;rw[Int.natCast_mul,Int.mul_fdiv_cancel_left _ hd,Rat.intCast_mul,NB,Rat.natCast_mul,Rat.intCast_natCast];grind
theorem nc{b:Nat}:∀{qs:bt},(∀q∈qs,q.den∣b)->(((qs.map (dS b)).sum:Int):Rat)=qs.sum*(b:Rat)
 |[],_=>by simp
 |q::qs,h=>by
  rw[List.map_cons,List.sum_cons,List.sum_cons,Rat.intCast_add,Ar (h q List.mem_cons_self),nc λp hp=>h p (List.mem_cons_of_mem _ hp)];grind
def lS(m:aH):Prop:=∀f qs k (b:Nat),z_ k qs->b<2 ^ 8000->m [.lst f (jn qs),.int b]=ok (.lst .ow (ag (qs.map (dS b))))
noncomputable def gc:aq:=[.ret (.comp 1 (.nm 0) [1] .seq [(.v 0)] [] (.bin .mul (.ix (.v 0) (.int 0)) (.bin .fdiv (.v 1) (.ix (.v 0) (.int 1)))))]
theorem Em{k:Nat}(h:z_ k qs){q:Rat}(hq:q∈qs):Sm 3000 q:=by
 refine(h.sm q hq).mono ?_;have h1:=h.zF;have h2:0<qs.length:=List.length_pos_of_mem hq;have:k*1<=k*qs.length:=ab3 _ h2;left
theorem tx(Φ:bh):lS (mk Φ 2 2 gc):=by
 intro f qs k b hs hb;have xS:bp Φ (.comp 1 (.nm 0) [1] .seq [(.v 0)] [] (.bin .mul (.ix (.v 0) (.int 0)) (.bin .fdiv (.v 1) (.ix (.v 0) (.int 1))))) [some (.lst f (jn qs)),some (.int b)]=ok (.lst .ow (ag (qs.map (dS b)))):=by
  rw[cU (xs:=[.lst (aO f) (jn qs)]) (items:=jn qs) (ds:=qs.map λq=>.int (dS b q)) (by simp) (by rw[eK];simp) (cI λq hq=>?_) (by have:=hs.len;simp;exact cm (by left))]
  ·have:(qs.map λq=>D.int (dS b q))=ag (qs.map (dS b)):=by simp[ag]
   rw[this,bP]
  ·refine⟨[some (qD q),some (.int b)],by simp[bE],by simp,?_⟩;have h3:=Em hs hq;obtain⟨g1,g2⟩:=h3.big (by decide);have d1:bZ .fdiv (.int b) (.int q.den)=ok (.int ((b:Int).fdiv q.den)):=oP (iX (kc q) g2);have d2:bZ .mul (.int q.num) (.int ((b:Int).fdiv q.den))=ok (.int (q.num*(b:Int).fdiv q.den)):=by
    refine jC (mulOk_of g1 ?_);rw[Int.fdiv_eq_ediv_of_nonneg _ (by left),<- Int.natCast_ediv];have:=abS b q.den;have h9:=BG hb (by decide);rw[Int.natAbs_natCast];exact aar this h9
   simp[d1,d2,dS]
 simp[mk_eq,gc,xS]
theorem z_.Ot{k:Nat}(h:z_ k qs):jo qs<2 ^ 8000:=aaj h.lcm.2.1 (aaw (by decide) (by have:=h.zF;left))
noncomputable def b9(n:Int):D->Bool
 |.int i=>decide (0<=i)&&decide (i<n)
 |_=>false
theorem lK(g:Fl->Fl)(n:Int)(d:D):b9 n (aw g d)=b9 n d:=by
 cases d<;>simp[b9]
theorem eU{n:Int}:∀{ds:aa},ds.all (b9 n)=true->∃ns:ae,ds=ag ns
 |[],_=>⟨[],rfl⟩
 |d::ds,h=>by
  simp only[List.all_cons,Bool.and_eq_true]at h;obtain⟨ns,rfl⟩:=eU h.2;cases d with
  |int i=>exact⟨i::ns,rfl⟩
  |_=>simp[b9]at h
def numsOf(ds:aa):ae:=(intsOf ds).getD []
theorem dY(ns:ae):numsOf (ag ns)=ns:=by unfold numsOf ag;rw[bw];rfl
def bB(d:D)(n:Int):Bool:=match d with
 |.tup ds=>ds.all (b9 n)&&decide ((oI (numsOf ds)).length=ds.length)
 |_=>false
def dB(d:D)(n:Int):Bool:=bB d n&&(match d with
 |.tup ds=>decide (numsOf ds=sortI (numsOf ds))
 |_=>false)
def ie(m:aH):Prop:=∀d n,pK d->m [d,.int n]=ok (.bl (bB d n))
noncomputable def dw:aq:=[.ifs (.not (.o8 (.v 0) .tuple)) [.ret (.bl false)] [],.ifs (.not (.bf .all1 [(.comp 1 (.nm 0) [1] .seq [(.v 0)] [] (.and [(.call 0 [(.v 0)]),(.cmp .ge (.v 0) (.int 0)),(.cmp .lt (.v 0) (.v 1))]))])) [.ret (.bl false)] [],.ret (.cmp .eq (.kh (.v 0)) (.bf .len [(.v 0)]))]
theorem qO(Φ:bh)(h0:cE (Φ 0)):ie (mk Φ 2 2 dw):=by
 intro d n hc;unfold cE at h0;cases d with
 |tup ds =>
  have hl:ds.length<64:=hc;have xS:bp Φ (.comp 1 (.nm 0) [1] .seq [(.v 0)] [] (.and [(.call 0 [(.v 0)]),(.cmp .ge (.v 0) (.int 0)),(.cmp .lt (.v 0) (.v 1))])) [some (.tup ds),some (.int n)]=ok (.lst .ow (mm (ds.map (b9 n)))):=by
   rw[cU (xs:=[.tup (au aO ds)]) (by simp) (rG ..) (CZ (g:=λd=>.bl (b9 n d)) λx _=>⟨[some x,some (.int n)],by simp[bE],by simp,?_⟩) (by simp;exact cm (by left))]
   ·simp[aM,Function.comp_def,lK,mm]
   ·cases x with
    |int i =>
     simp[h0,bX,cL,b9]
    |_=>simp[h0,bX,cL,b9]
  cases ha:ds.all (b9 n)with
  |true =>
   obtain⟨ns,rfl⟩:=eU ha;have jq:ns.length<4000:=by simp at hl;left
   have e:(List.all (List.map (b9 n) (ag ns)) id)=true:=by rw[List.all_map];exact ha
   simp[mk_eq,dw,cL,xS,e,La jq,bB,ha,dY];simp[Int.natCast_inj]
  |false =>
   have e:(List.all (List.map (b9 n) ds) id)=false:=by rw[List.all_map];exact ha
   simp only[mk_eq,dw,List.length_cons,List.length_nil];simp[cL,xS,e,bB,ha]
 |_=>simp[mk_eq,dw,cL,bB]
def uL(m:aH):Prop:=∀d n,pK d->m [d,.int n]=ok (.bl (dB d n))
noncomputable def gM:aq:=[.ret (.and [(.call 43 [(.v 0),(.v 1)]),(.cmp .eq (.bf .list1 [(.v 0)]) (.bf .gY [(.v 0)]))])]
theorem tS(n:Nat)(f:Fl)(ns:ae):dX (n+1) (.lst f (ag ns))=true:=xu (kg n) ns
theorem zH(ns ms:ae):fO (ag ns) (ag ms)=decide (ns=ms):=oB (λx y=>mJ x y) ns ms
theorem d7(g:Fl->Fl)(d:D)(n:Int):bB (aw g d) n=bB d n:=by
 cases d with
 |tup ds =>
  cases h:ds.all (b9 n)with
  |true =>
   obtain⟨ns,rfl⟩:=eU h;simp
  |false =>
   have h2:(au g ds).all (b9 n)=false:=by
    rw[aM,List.all_map,show(b9 n∘aw g)=b9 n from funext λd=>lK g n d];exact h
   simp[bB,h,h2]
 |_=>simp[bB]
theorem gL{g:Fl->Fl}{d:D}(h:pK d):pK (aw g d):=by
 cases d<;>simp_all [pK]
theorem AQ(Φ:bh)(Vr:ie (Φ 43)):uL (mk Φ 2 2 gM):=by
 intro d n hc;have e1:=Vr (aw aL (aw aO d)) n (gL (gL hc));rw[d7,d7]at e1;cases d with
 |tup ds =>
  have hl:ds.length<64:=hc;simp only[BD]at e1;cases ha:bB (.tup ds) n with
  |true =>
   have RM:=ha;simp only[bB,Bool.and_eq_true]at RM;obtain⟨ns,rfl⟩:=eU RM.1;have jq:ns.length<64:=by simpa using hl
   have e2:ej .eq (.lst .ow (ag ns)) (.lst .ow (ag (sortI ns)))=ok (.bl (decide (ns=sortI ns))):=by
    rw[QA (tS 39 _ _) (tS 39 _ _),F1,zH]
   rw[ha]at e1;simp at e1;simp[mk_eq,gM,e1,FU jq,e2,dB,ha,dY]
  |false =>
   rw[ha]at e1;simp[mk_eq,gM,e1,dB,ha]
 |_=>(simp at e1;simp[mk_eq,gM,e1,dB,bB])
def o_(n:Nat)(l:ae):Prop:=l.Pairwise (· < ·)/\∀h∈l,0<=h/\h<(n:Int)
theorem rY:∀(l m:ae),(∀x∈l,x∉m)->l.Nodup->l.foldl (λ(m:ae) (k:Int)=>if m.any (· == k)then m else m++[k]) m=m++l
 |[],m,_,_=>by simp
 |x::l,m,h,hn=>by
  have hx:m.any (· == x)=false:=by
   rw[List.any_eq_false];intro y hy z;have:y=x:=by simpa using z
   exact h x aah (this▸hy)
  rw[List.foldl_cons,hx,if_neg Bool.false_ne_true,rY l (m++[x])]
  ·simp
  ·intro y hy z;rcases List.mem_append.mp z with z|z
   ·exact h y (aag _ hy) z
   ·have:y=x:=by simpa using z
    subst this;exact(List.nodup_cons.mp hn).1 hy
  ·exact(List.nodup_cons.mp hn).2
theorem o_.nodup{n:Nat}{l:ae}(h:o_ n l):l.Nodup:=h.1.imp λz=>by left
theorem AG{l:ae}(h:l.Pairwise (· < ·)):sortI l=l:=by
 unfold sortI;apply List.mergeSort_of_pairwise;exact h.imp λz=>by simp;left
theorem o_.dB{n:Nat}{l:ae}(h:o_ n l):dB (.tup (ag l)) n=true:=by
 have h1:(ag l).all (b9 n)=true:=by
  unfold ag;rw[List.all_map,List.all_eq_true];intro x hx;have:=h.2 x hx;simp[b9,this.1,this.2]
 have h2:oI l=l:=by
  have:=rY l [] (by simp) h.nodup;rw[List.nil_append]at this;exact this
 simp[DI.dB,bB,h1,dY,h2,AG h.1]
noncomputable def bR(ns:ae)(k:Int):Int :=
 let c:=if k<ns.length then ns.getD k.toNat 0 else 0
 if (10:Int) ^ 18<=c then(c - 10 ^ 18).fmod (10 ^ 60)else
  let n:=(c*48271+k*69621+11).fmod 2147483629
  let n:=(n*n).fmod 2147483587
  n*2147483563+(n*n).fmod 2147483563
def sG(m:aH):Prop:=∀(ns:ae) (k:Int),0<=k->m [.lst .sc (ag ns),.int k]=ok (.int (bR ns k))
noncomputable def fh:aq:=[.asg (.nm 2) (.int 0),.ifs (.cmp .lt (.v 1) (.bf .len [(.v 0)])) [.asg (.nm 2) (.ix (.v 0) (.v 1))] [],.ifs (.cmp .ge (.v 2) (.bin .pow (.int 10) (.int 18))) [.ret (.bin .mod (.bin .sub (.v 2) (.bin .pow (.int 10) (.int 18))) (.bin .pow (.int 10) (.int 60)))] [],.asg (.nm 3) (.bin .mod (.bin .add (.bin .add (.bin .mul (.v 2) (.int 48271)) (.bin .mul (.v 1) (.int 69621))) (.int 11)) (.int 2147483629)),.asg (.nm 3) (.bin .mod (.bin .mul (.v 3) (.v 3)) (.int 2147483587)),.ret (.bin .add (.bin .mul (.v 3) (.int 2147483563)) (.bin .mod (.bin .mul (.v 3) (.v 3)) (.int 2147483563)))]
theorem eL(a:Int){b:Int}(h:0<b):0<=a.fmod b/\a.fmod b<b:=⟨abE a h,ab9 a h⟩
theorem zP(Φ:bh)(x:D)(k c:Int)(hx:cL .list x=true)(o:aU):mi (bJ Φ (fh.drop 2) [some x,some (.int k),some (.int c),o])=ok (.int (if (10:Int) ^ 18<=c then(c - 10 ^ 18).fmod (10 ^ 60)else
  let n:=(c*48271+k*69621+11).fmod 2147483629
  let n:=(n*n).fmod 2147483587
  n*2147483563+(n*n).fmod 2147483563)):=by
 have p1:bZ .pow (.int 10) (.int 18)=ok (.int (10 ^ 18)):=Di (by decide);have p2:bZ .pow (.int 10) (.int 60)=ok (.int (10 ^ 60)):=Di (by decide);by_cases h:(10:Int) ^ 18<=c
 ·have h':(1000000000000000000:Int)<=c:=h;simp[fh,p1,p2,h']
 ·have h':¬ (1000000000000000000:Int)<=c:=h;obtain⟨a1,a2⟩:=eL (c*48271+k*69621+11) (b:=2147483629) (by decide);generalize hn:(c*48271+k*69621+11).fmod 2147483629=n at *;obtain⟨a3,a4⟩:=eL (n*n) (b:=2147483587) (by decide);have m1:bZ .mul (.int n) (.int n)=ok (.int (n*n)):=jC (rg _ (by left));generalize hm:(n*n).fmod 2147483587=m at *;have m2:bZ .mul (.int m) (.int m)=ok (.int (m*m)):=jC (rg _ (by left));simp[fh,p1,h',hn,m1,hm,m2]
theorem IM(Φ:bh):sG (mk Φ 2 4 fh):=by
 intro ns k hk;have:=λc=>zP Φ (.lst .sc (ag ns)) k c rfl none;by_cases h:k<ns.length
 ·have hg:mn (ag ns) k=ok (.int (ns.getD k.toNat 0)):=by
   have hl:k.toNat<ns.length:=by left
   rw[at_of hk (d:=.int (ns.getD k.toNat 0)) (by rw[k7,List.getElem?_eq_getElem hl,Option.map_some,List.getD_eq_getElem?_getD,List.getElem?_eq_getElem hl];rfl)];simp
  have e:mi (bJ Φ fh ([some (D.lst Fl.sc (ag ns)),some (D.int k)]++[none,none]))=mi (bJ Φ (fh.drop 2) [some (.lst .sc (ag ns)),some (.int k),some (.int (ns.getD k.toNat 0)),none]):=by
   rw[fh,c9,m6];simp only[G_,uo,d6,og];simp only[List.cons_append,List.nil_append,yv,List.length_cons,List.length_nil,Nat.reduceAdd,Nat.reduceLT,fE,List.set_cons_succ,List.set_cons_zero];rw[c9,Ae];simp[h,hg]
  rw[mk_eq (ar:=2) (ds:=[_,_]) rfl];refine(show _=_ from e).trans ?_;rw[this,bR,if_pos h]
 ·have e:mi (bJ Φ fh ([some (D.lst Fl.sc (ag ns)),some (D.int k)]++[none,none]))=mi (bJ Φ (fh.drop 2) [some (.lst .sc (ag ns)),some (.int k),some (.int 0),none]):=by
   rw[fh,c9,m6];simp only[G_,uo,d6,og];simp only[List.cons_append,List.nil_append,yv,List.length_cons,List.length_nil,Nat.reduceAdd,Nat.reduceLT,fE,List.set_cons_succ,List.set_cons_zero];rw[c9,Ae];simp[h]
  rw[mk_eq (ar:=2) (ds:=[_,_]) rfl];refine(show _=_ from e).trans ?_;rw[this,bR,if_neg h]
noncomputable def j5:CS:=.GF (.cmp .gt (.v 3) (.int 0)) [.par 2 3 (.v 3) (.bin .mod (.v 2) (.v 3))]
def kD:aq:=[.asg (.nm 2) (.bf .abs [(.v 0)]),.asg (.nm 3) (.bf .abs [(.v 1)]),j5,.ifs (.cmp .lt (.v 1) (.int 0)) [.asg (.nm 2) (.bin .sub (.int 0) (.v 2))] [],.ret (.tup [(.bin .fdiv (.v 0) (.v 2)),(.bin .fdiv (.v 1) (.v 2))])]
theorem vK(Φ:bh)(x y:aU):∀(n:Nat) (a b:Nat),b<=n->hZ Φ j5 [x,y,some (.int a),some (.int b)]=ok (.nx,[x,y,some (.int (Nat.gcd a b)),some (.int 0)]):=by
 intro n;induction n with
 |zero =>
  intro a b h;have hb:b=0:=by left
  subst hb;rw[j5,pR];exact gR (by simp)
 |succ n ih =>
  intro a b h;by_cases hb:b=0
  ·subst hb;rw[j5,pR];exact gR (by simp)
  ·have iB:=Nat.mod_lt a (show 0<b by left);have e:=ih b (a % b) (by left);have eg:Nat.gcd b (a % b)=Nat.gcd a b:=by rw[Nat.gcd_comm a b,Nat.gcd_rec b a,Nat.gcd_comm]
   rw[eg]at e;rw[j5,pR]at e ⊢;rw[<- e];have qj:0<b:=by left
   have em:((a:Int)).fmod (b:Int)=((a % b:Nat):Int):=by
    rw[Int.fmod_eq_emod_of_nonneg _ (by left)];exact(Int.natCast_emod a b).symm
   have ep:hZ Φ (.par 2 3 (.v 3) (.bin .mod (.v 2) (.v 3))) [x,y,some (.int a),some (.int b)]=ok (.nx,[x,y,some (.int b),some (.int ((a % b:Nat):Int))]):=by
    rw[MD];simp[hb,em]
   exact m8 (by simp[qj,ep])
theorem Ew(Φ:bh):kG (mk Φ 2 4 kD):=by
 intro t b hb h;obtain⟨e1,e2⟩:=rR (t:=t) hb;have d1:=mO (t:=t) hb h t;have d2:=mO (t:=t) hb h b;have hl:=vK Φ (some (.int t)) (some (.int b)) b.natAbs t.natAbs b.natAbs (aai _);rw[qD,<- e1,<- e2];by_cases hn:b<0
 ·have ed:0 - (Nat.gcd t.natAbs b.natAbs:Int)=fQ t b:=by simp[fQ,hn,Int.gcd]
  have VR:-(Nat.gcd t.natAbs b.natAbs:Int)=fQ t b:=by simp[fQ,hn,Int.gcd]
  simp[mk_eq,kD,hl,hn,VR,d1,d2]
 ·have ed:(Nat.gcd t.natAbs b.natAbs:Int)=fQ t b:=by simp[fQ,hn,Int.gcd]
  simp[mk_eq,kD,hl,hn,ed,d1,d2]
noncomputable def Dm(qs:bt)(h:Int):Rat:=qs.getD h.toNat 0
theorem o_.len{n:Nat}{l:ae}(h:o_ n l):l.length<=n:=by
 have hn:(l.map Int.toNat).Nodup:=by
  unfold List.Nodup;rw[List.pairwise_map];refine h.1.imp_of_mem λha hb z e=>?_;have:=h.2 _ ha;have:=h.2 _ hb;left
 have hs:(l.map Int.toNat) ⊆ List.range n:=λx hx=>by
  obtain⟨y,hy,rfl⟩:=List.mem_map.mp hx;have:=h.2 y hy;rw[List.mem_range];left
 have:=hn.length_le_of_subset hs;simpa using this
theorem o_.eE{n:Nat}{l:ae}(h:o_ n l)(hn:n<=12):pK (.tup (ag l)):=by
 have:=h.len;show(ag l).length<64;simp;left
noncomputable abbrev Row:=Rat×ae
abbrev aJ:=List Row
def rD(r:Row):D:=.tup [qD r.1,.tup (ag r.2)]
@[simp]theorem rn(g:Fl->Fl)(r:Row):aw g (rD r)=rD r:=by unfold rD;simp
@[simp]theorem Kn(g:Fl->Bool)(r:Row):aY g (rD r)=false:=by unfold rD;simp
noncomputable def bg(rs:aJ):aa:=rs.map rD
@[simp]theorem dN(rs:aJ):(bg rs).length=rs.length:=abd ..
@[simp]theorem bC(g:Fl->Fl)(rs:aJ):au g (bg rs)=bg rs:=dq g (rn g) rs
@[simp]theorem Cd(g:Fl->Bool)(rs:aJ):aP g (bg rs)=false:=du g (Kn g) rs
theorem CF(a b:ae):fO (ag a) (ag b)=decide (a=b):=oB (λx y=>by show(x==y)=_;rfl) a b
def mj(n:Nat)(rs:aJ):D:=.tup [.int n,.lst .fz (bg rs)]
def QR(rs:aJ):Prop:=∃W:Nat,0<W/\W<64/\∀r∈rs,r.1.den∣W
def Rw(n:Nat)(l:ae):Prop:=l.Nodup/\l.length<=n/\∀h∈l,0<=h/\h<(n:Int)
theorem o_.rw{n:Nat}{l:ae}(h:o_ n l):Rw n l:=⟨h.nodup,h.len,h.2⟩
structure Dp(P:ae->Prop)(k n:Nat)(rs:aJ):Prop where
 n1:1<=n
 n2:n<=12
 zF:k*(rs.length+1)<=66
 fin:k*(rs.length+1)<=60\/QR rs
 len:rs.length<=1000
 d5:∀r∈rs,P r.2
 pos:∀r∈rs,0<r.1
 sm:∀r∈rs,Sm k r.1
 one:(rs.map (·.1)).sum=1
 rise:DA (rs.map (·.2))
abbrev Dr(k n:Nat)(rs:aJ):Prop:=Dp (o_ n) k n rs
theorem Dp.imp{P Q:ae->Prop}{k n:Nat}{rs:aJ}(I:Dp P k n rs)(h:∀r∈rs,P r.2->Q r.2):Dp Q k n rs:=⟨I.n1,I.n2,I.zF,I.fin,I.len,λr hr=>h r hr (I.d5 r hr),I.pos,I.sm,I.one,I.rise⟩
noncomputable def eA(rs:aJ):bt:=rs.map (·.1)
section
variable {P:ae->Prop}{k n:Nat}{rs:aJ}(I:Dp P k n rs)
include I
theorem Dp.YJ:z_ k (eA rs):=⟨λq hq=>by
 obtain⟨r,hr,rfl⟩:=List.mem_map.mp hq;exact I.sm r hr,by
  have:=I.zF;have h:k*(eA rs).length<=k*(rs.length+1):=ab3 _ (by simp[eA]);left,by simp[eA];exact I.len⟩
omit I in
theorem tY{W:Nat}:∀(qs:bt) (b:Nat),b∣W->(∀q∈qs,q.den∣W)->qs.foldl (λb q=>Nat.lcm b q.den) b∣W
 |[],_,h,_=>h
 |q::qs,b,h,hq=>tY qs _ (Nat.lcm_dvd h (hq q aah)) λp hp=>hq p (aag _ hp)
theorem Dp.top{r:Row}(hr:r∈rs):(dS (jo (eA rs)) r.1).natAbs<2 ^ 64:=by
 obtain⟨a,b,c⟩:=I.YJ.lcm;have s:=I.sm r hr;unfold dS;rw[Int.natAbs_mul,Int.fdiv_eq_ediv_of_nonneg _ (by left),<- Int.natCast_ediv,Int.natAbs_natCast];have h4:(eA rs).length=rs.length:=by simp[eA]
 have h3:=I.zF;rcases I.fin with f|⟨W,w0,w1,w2⟩
 ·have h1:jo (eA rs) / r.1.den<2 ^ (1+k*(eA rs).length):=aar (abS _ _) b;have h2:=cc s.1 h1;refine aaj h2 (aaw (by decide) ?_);rw[h4];rw[Nat.mul_succ]at f;left
 ·have:jo (eA rs)∣W:=tY _ 1 (Nat.one_dvd _) λq hq=>by
   obtain⟨r,hr,rfl⟩:=List.mem_map.mp hq;exact w2 r hr
  have h1:jo (eA rs) / r.1.den<2 ^ 6:=aar (abS _ _) (aar (Nat.le_of_dvd w0 this) w1);have h2:=cc s.1 h1;refine aaj h2 (aaw (by decide) ?_);have hl:1<=rs.length:=List.length_pos_of_mem hr;have:k*2<=k*(rs.length+1):=ab3 _ (by left);left
end
noncomputable def eX:aq:=[.ifs (.or [(.not (.o8 (.v 0) .tuple)),(.cmp .ne (.bf .len [(.v 0)]) (.int 2))]) [.ret (.bl false)] [],.ifs (.not (.call 43 [(.ix (.v 0) (.int 1)),(.v 1)])) [.ret (.bl false)] [],.ret (.and [(.call 3 [(.ix (.v 0) (.int 0))]),(.cmp .gt (.ix (.ix (.v 0) (.int 0)) (.int 0)) (.int 0))])]
theorem Rw.UO{n:Nat}{l:ae}(h:Rw n l):bB (.tup (ag l)) n=true:=by
 have h1:(ag l).all (b9 n)=true:=by
  unfold ag;rw[List.all_map,List.all_eq_true];intro x hx;have:=h.2.2 x hx;simp[b9,this.1,this.2]
 have h2:oI l=l:=by
  have:=rY l [] (by simp) h.1;rw[List.nil_append]at this;exact this
 simp[bB,h1,dY,h2]
theorem Rw.eE{n:Nat}{l:ae}(h:Rw n l)(hn:n<=12):pK (.tup (ag l)):=by
 have:=h.2.1;show(ag l).length<64;simp;left
noncomputable def yJ:aq:=[.ifs (.bU 1022 [(.ix (.v 1) (.int 1)),(.ix (.v 2) (.int 1))]) [.ret (.bl false)] []]
def eW:aq:=[.fr (.tp [1,2]) (.Je 1000 [(.v 0),(.bU 1020 [(.v 0),(.int 1)])]) yJ,.ret (.bl true)]
def c_(rs:aJ):aa:=rs.map λr=>.tup (ag r.2)
@[simp]theorem jJ(g:Fl->Fl)(rs:aJ):au g (c_ rs)=c_ rs:=dq g (λr=>by simp) rs
@[simp]theorem Kk(g:Fl->Bool)(rs:aJ):aP g (c_ rs)=false:=du g (λr=>by simp) rs
def uO(b:Nat)(rs:aJ):aa:=rs.map λr=>.tup [.int (dS b r.1),.tup (ag r.2)]
@[simp]theorem BB(g:Fl->Fl)(b:Nat)(rs:aJ):au g (uO b rs)=uO b rs:=dq g (λr=>by simp) rs
@[simp]theorem Pz(g:Fl->Bool)(b:Nat)(rs:aJ):aP g (uO b rs)=false:=du g (λr=>by simp) rs
noncomputable def F5:CE:=.comp 2 (.tp [0,1]) [] .seq [(.v 0)] [] (.v 0)
noncomputable def F3:CE:=.comp 2 (.tp [0,1]) [] .seq [(.v 0)] [] (.v 1)
theorem Qy(Φ:bh){rs:aJ}(h:rs.length<=1000)(r:a_):bp Φ F5 (some (.lst .fz (bg rs))::r)=ok (.lst .ow (jn (eA rs))):=by
 unfold F5;rw[cU (xs:=[.lst .fz (bg rs)]) (items:=bg rs) (ds:=rs.map λr=>qD r.1) (by simp) (by rw[eK];simp) (cI λr hr=>?_) (by simp;exact cm (by left))]
 ·simp[jn,eA,aM]
 ·exact⟨[some (qD r.1),some (.tup (ag r.2))],by simp[bE,rD],by simp,by simp⟩
theorem Oj(Φ:bh){rs:aJ}(h:rs.length<=1000)(r:a_):bp Φ F3 (some (.lst .fz (bg rs))::r)=ok (.lst .ow (c_ rs)):=by
 unfold F3;rw[cU (xs:=[.lst .fz (bg rs)]) (items:=bg rs) (ds:=rs.map λr=>.tup (ag r.2)) (by simp) (by rw[eK];simp) (cI λr hr=>?_) (by simp;exact cm (by left))]
 ·exact aaN (λx=>ok (D.lst .ow x)) (jJ d8 rs)
 ·exact⟨[some (qD r.1),some (.tup (ag r.2))],by simp[bE,rD],by simp,by simp⟩
def lq(m:aH):Prop:=∀(rs:aJ) k,z_ k (eA rs)->m [.lst .fz (bg rs)]=ok (.tup [.int (jo (eA rs)),.lst .ow (uO (jo (eA rs)) rs)])
def jk:aq:=[.asg (.nm 1) F5,.asg (.nm 2) F3,.asg (.nm 3) (.call 9 [(.v 1)]),.ret (.tup [(.v 3),(.bU 1040 [(.call 10 [(.v 1),(.v 3)]),(.v 2)])])]
theorem yT(Φ:bh)(h9:iF (Φ 9))(DP:lS (Φ 10))(P4:Φ 1040=Oe):lq (mk Φ 1 4 jk):=by
 intro rs k hs;have hl:rs.length<=1000:=by have:=hs.len;simpa [eA]using this
 have e1:=Qy Φ hl;have e2:=Oj Φ hl;have e3:=λf=>h9 f (eA rs) k hs;have e4:=λf=>DP f (eA rs) k (jo (eA rs)) hs hs.Ot;generalize jo (eA rs)=b at *;have e5:Φ 1040 [.lst .ow (ag ((eA rs).map (dS b))),.lst .al (c_ rs)]=ok (.lst .ow (uO b rs)):=by
  rw[P4];show ok (D.lst .ow (au aO (List.zipWith pairD (ag ((eA rs).map (dS b))) (c_ rs))))=_;rw[f_,bP,jJ];unfold eA ag c_ uO;rw[List.map_map,List.map_map,List.zipWith_map,List.zipWith_self];rfl
 simp[mk_eq,jk,DJ Φ F5 _ rfl,DJ Φ F3 _ rfl,e1,e2,e3,e4,e5]
noncomputable def Ll:CE:=.comp 2 (.tp [0,1]) [] .seq [(.ix (.v 1) (.int 1))] [] (.v 0)
def eP:aq:=[.asg (.nm 1) (.call 14 [(.v 0)]),.ret (.cmp .eq (.bf .lZ [Ll]) (.ix (.v 1) (.int 0)))]
theorem Ap{b:Nat}(h:∀q∈qs,q.den∣b)(h1:qs.sum=1):(qs.map (dS b)).sum=(b:Int):=by
 have:=nc h;rw[h1,Rat.one_mul,<- Rat.intCast_natCast]at this;exact Rat.intCast_inj.mp this
noncomputable def j8:aq:=[.ifs (.not (.call 12 [(.v 3),(.v 1)])) [.ret (.bl false)] []]
def ck:aq:=[.ifs (.or [(.not (.o8 (.v 0) .tuple)),(.cmp .ne (.bf .len [(.v 0)]) (.int 2))]) [.ret (.bl false)] [],.asg (.nm 1) (.ix (.v 0) (.int 0)),.asg (.nm 2) (.ix (.v 0) (.int 1)),.ifs (.or [(.not (.call 0 [(.v 1)])),(.cmp .lt (.v 1) (.int 1)),(.cmp .gt (.v 1) (.glo "MOST_HOUSES" 12))]) [.ret (.bl false)] [],.ifs (.not (.o8 (.v 2) .list)) [.ret (.bl false)] [],.fr (.nm 3) (.seq (.v 2)) j8,.ret (.and [(.call 44 [(.v 2)]),(.call 15 [(.v 2)])])]
noncomputable def wg:CE:=.comp 2 (.tp [0,1]) [0] .seq [(.ix (.v 0) (.int 1))] [] (.call 11 [(.v 1),(.ix (.v 2) (.int 0))])
def d_:aq:=[.ret (.and [(.call 45 [(.v 0)]),(.bf .all1 [wg])])]
noncomputable def bD:aq:=[.ifs (.not (.call 16 [(.v 0)])) [.rs 1] []]
theorem Nb{t b:Int}{k:Nat}(h0:b≠0)(h1:t.natAbs<2 ^ k)(h2:b.natAbs<2 ^ k):Sm k (Rat.divInt t b):=yQ h0 h1 h2
theorem oH{t b:Int}(ht:0<t)(hb:0<b):0<Rat.divInt t b:=by
 rw[Rat.divInt_eq_div];have h1:(0:Rat)<(t:Rat):=by
  have:=Rat.intCast_lt_intCast (a:=0) (b:=t);simpa using this.mpr ht
 have h2:(0:Rat)<(b:Rat):=by
  have:=Rat.intCast_lt_intCast (a:=0) (b:=b);simpa using this.mpr hb
 rw[Rat.div_def];exact Rat.mul_pos h1 (Rat.inv_pos.mpr h2)
theorem Sm.neg{k:Nat}{q:Rat}(h:Sm k q):Sm k (-q):=⟨by simpa using h.1,h.2⟩
theorem Sm.zero(k:Nat)(h:1<=k):Sm k 0:=by
 have:Sm 1 (0:Rat):=by constructor<;>decide
 exact this.mono h
theorem Sm.sum{k:Nat}:∀{qs:bt},(∀q∈qs,Sm k q)->Sm (1+(k+1)*qs.length) qs.sum
 |[],_=>Sm.zero _ (by simp)
 |q::qs,h=>by
  have h1:=h q aah;have h2:=Sm.sum (qs:=qs) λp hp=>h p (aag _ hp);rw[List.sum_cons];refine(h1.add h2).mono ?_;rw[List.length_cons,Nat.mul_succ];left
noncomputable def Ij(l:ae)(f:Int->Rat):Rat:=(l.map f).sum
@[simp]theorem M5(f:Int->Rat):Ij [] f=0:=rfl
def TV(ws:bt)(d5:ae)(hs:bt)(t:Rat):Rat:=(t - Ij d5 λh=>Dm ws h*Dm hs h) / (Ij d5 λh=>Dm ws h*Dm hs h*Dm hs h)
theorem HK{p i:Nat}{d d':D}(h1:bK Φ es ρ=ok xs)(h2:aP bN xs=false)(h3:ρ[i]?=some (some d))(h4:Φ p (d::xs)=ok d'):hZ Φ (.mut p i es) ρ=ok (.nx,ρ.set i (some d')):=by
 show bd (bK Φ es ρ) (λxs=>vF Φ p i (nU es xs ρ))=_;rw[h1,d9];unfold nU;rw[h2,if_neg Bool.false_ne_true];unfold vF;rw[h3];show bd (Φ p (d::xs)) _=_;rw[h4];rfl
theorem Dl(i:Int):bZ .band (.int i) (.int 1)=ok (.int (i % 2)):=rfl
theorem k9(c:ae):∀(cs:aF) (ws:ae),cD cs (ag ws) c=(cD cs ws c).map D.int
 |[],_=>by cases ‹ae› <;> rfl
 |_::_,[]=>rfl
 |c'::cs,w::ws=>by
  show(if c'=c then some (D.int w)else cD cs (ag ws) c)=Option.map D.int (if c'=c then some w else cD cs ws c);by_cases e:c'=c
  ·rw[if_pos e,if_pos e];rfl
  ·rw[if_neg e,if_neg e];exact k9 c cs ws
theorem p9(c:ae)(v:Int):∀(cs:aF) (ws:ae),setC cs (ag ws) c (.int v)=ag (setC cs ws c v)
 |[],_=>by cases ‹ae› <;> rfl
 |_::_,[]=>rfl
 |c'::cs,w::ws=>by
  show(if c'=c then D.int v else D.int w)::setC cs (ag ws) c (.int v)=D.int (if c'=c then v else w)::ag (setC cs ws c v);rw[p9 c v cs ws];by_cases e:c'=c
  ·rw[if_pos e,if_pos e]
  ·rw[if_neg e,if_neg e]
theorem uV(cs:aF)(ws:ae)(c:ae)(v:Int):cg cs (ag ws) c (.int v)=ag (cg cs ws c v):=by
 unfold cg;by_cases e:c∈cs
 ·rw[if_pos e,if_pos e];exact p9 c v cs ws
 ·rw[if_neg e,if_neg e];simp
def cH(cs:aF)(ws:ae)(c:ae):Int:=(cD cs ws c).getD 0
theorem oh{α:Type}{c:ae}:∀{cs:aF} (ws:List α),c∉cs->cD cs ws c=none
 |[],_,_=>by cases ‹List α› <;> rfl
 |_::_,[],_=>rfl
 |c'::cs,w::ws,h=>by
  show(if c'=c then some w else cD cs ws c)=none;rw[if_neg λe=>h (by rw[e];exact List.mem_cons_self)];exact oh ws λz=>h (aag _ z)
theorem ku{α:Type}{c:ae}:∀{cs:aF} {ws:List α},cs.length=ws.length->c∈cs->∃w,cD cs ws c=some w/\w∈ws
 |[],_,_,h=>nomatch h
 |_::_,[],hl,_=>by simp at hl
 |c'::cs,w::ws,hl,h=>by
  by_cases e:c'=c
  ·exact⟨w,aaQ e,aah⟩
  ·have h':c∈cs:=(List.mem_cons.mp h).resolve_left λz=>e z.symm;obtain⟨w',e1,e2⟩:=ku (cs:=cs) (ws:=ws) (by simpa using hl) h';exact⟨w',(acf e).trans e1,aag _ e2⟩
theorem nP:∀{cs:aF} {ws:ae},cs.Nodup->cs.length=ws.length->cs.map (cH cs ws)=ws
 |[],[],_,_=>rfl
 |[],_::_,_,h=>by simp at h
 |_::_,[],_,h=>by simp at h
 |c::cs,w::ws,hn,hl=>by
  have uR:=List.nodup_cons.mp hn;have ih:=nP (cs:=cs) (ws:=ws) uR.2 (by simpa using hl);rw[List.map_cons];have e1:cH (c::cs) (w::ws) c=w:=by
   show(if c=c then some w else cD cs ws c).getD 0=w;rw[if_pos rfl];rfl
  have e2:cs.map (cH (c::cs) (w::ws))=cs.map (cH cs ws):=aay λx hx=>by
   show(if c=x then some w else cD cs ws x).getD 0=_;rw[if_neg (show ¬ c=x from λz=>uR.1 (by rw[z];exact hx))];rfl
  rw[e1,e2,ih]
theorem tu{c:ae}{v:Int}:∀{cs:aF} {ws:ae},cs.Nodup->cs.length=ws.length->c∈cs->(setC cs ws c v).sum=ws.sum - cH cs ws c+v/\(setC cs ws c v).length=ws.length
 |[],_,_,_,h=>nomatch h
 |_::_,[],_,h,_=>by simp at h
 |c'::cs,w::ws,hn,hl,h=>by
  have uR:=List.nodup_cons.mp hn;have jq:cs.length=ws.length:=by simpa using hl
  have es:setC (c'::cs) (w::ws) c v=(if c'=c then v else w)::setC cs ws c v:=rfl;by_cases e:c'=c
  ·have OR:∀{cs:aF} {ws:ae},cs.length=ws.length->c∉cs->setC cs ws c v=ws:=λ{cs}=>by
    induction cs with
    |nil=>intro ws hl _;cases ws with|nil=>rfl|cons _ _=>simp at hl
    |cons d cs ih =>
     intro ws hl hc;cases ws with
     |nil=>simp at hl
     |cons w ws =>
      show(if d=c then v else w)::setC cs ws c v=_;rw[if_neg λz=>hc (by rw[z];exact List.mem_cons_self),ih (by simpa using hl) λz=>hc (List.mem_cons_of_mem _ z)]
   have ZV:c∉cs:=e▸uR.1;rw[es,if_pos e,OR jq ZV];have eg:cH (c'::cs) (w::ws) c=w:=by
    show(if c'=c then some w else cD cs ws c).getD 0=w;rw[if_pos e];rfl
   rw[eg];refine⟨?_,rfl⟩;rw[List.sum_cons,List.sum_cons];left
  ·have h':c∈cs:=(List.mem_cons.mp h).resolve_left λz=>e z.symm;obtain⟨i1,i2⟩:=tu (v:=v) uR.2 jq h';have eg:cH (c'::cs) (w::ws) c=cH cs ws c:=by
    show(if c'=c then some w else cD cs ws c).getD 0=_;rw[if_neg e];rfl
   rw[es,if_neg e,eg];refine⟨?_,by rw[List.length_cons,List.length_cons,i2]⟩;rw[List.sum_cons,List.sum_cons,i1];left
theorem tw{c:ae}{v:Int}:∀{cs:aF} {ws:ae} {x:Int},x∈setC cs ws c v->x∈ws\/x=v
 |[],_,_,h=>by cases ‹ae› <;> exact nomatch h
 |_::_,[],_,h=>nomatch h
 |c'::cs,w::ws,x,h=>by
  have h:x∈(if c'=c then v else w)::setC cs ws c v:=h;rcases List.mem_cons.mp h with e|h
  ·by_cases q:c'=c
   ·rw[if_pos q]at e;exact .inr e
   ·rw[if_neg q]at e;rw[e];exact .inl aah
  ·rcases tw h with h|h
   ·exact .inl (aag _ h)
   ·exact .inr h
structure Tab(P:ae->Prop)(j:Nat)(cs:aF)(ws:ae):Prop where
 nd:cs.Nodup
 ln:cs.length=ws.length
 zF:cs.length<=j
 d5:∀c∈cs,P c
 pos:∀w∈ws,1<=w
 sum:ws.sum<=7*j
 ne:1<=j->cs≠[]
variable {cs:aF}
theorem Tab.get{n:ae->Prop}{j:Nat}(T:Tab n j cs ws)(c:ae):0<=cH cs ws c:=by
 by_cases h:c∈cs
 ·obtain⟨w,e,m⟩:=ku T.ln h;unfold cH;rw[e];have:=T.pos w m;show 0<=w;left
 ·unfold cH;rw[oh ws h];exact Int.le_refl _
theorem Tab.put{n:ae->Prop}{j:Nat}(T:Tab n j cs ws){c:ae}(hc:n c){i:Int}(h1:1<=i)(h7:i<=7):Tab n (j+1) (dg cs c) (cg cs ws c (cH cs ws c+i)):=by
 have hg:=T.get c;have hf:=T.zF;have hs:=T.sum;by_cases h:c∈cs
 ·obtain⟨s1,s2⟩:=tu (v:=cH cs ws c+i) T.nd T.ln h;unfold dg cg;rw[if_pos h,if_pos h];refine⟨T.nd,by rw[s2];exact T.ln,by left,T.d5,λw hw=>?_,by rw[s1];left,λ_ z=>by rw[z]at h;cases h⟩;rcases tw hw with hw|rfl
  ·exact T.pos w hw
  ·left
 ·have hz:cH cs ws c=0:=by unfold cH;rw[oh ws h];rfl
  unfold dg cg;rw[if_neg h,if_neg h,hz];refine⟨?_,by rw[List.length_append,List.length_append,T.ln];rfl,by rw[List.length_append,List.length_singleton];left,λd hd=>?_,λw hw=>?_,by rw[List.sum_append];simp;left,λ_ z=>by simp at z⟩
  ·refine List.nodup_append.mpr ⟨T.nd,List.nodup_cons.mpr ⟨List.not_mem_nil,abw⟩,λa ha b hb e=>?_⟩;rw[List.mem_singleton.mp hb]at e;exact h (e▸ha)
  ·rcases List.mem_append.mp hd with hd|hd
   ·exact T.d5 d hd
   ·rw[List.mem_singleton.mp hd];exact hc
  ·rcases List.mem_append.mp hw with hw|hw
   ·exact T.pos w hw
   ·rw[List.mem_singleton.mp hw];left
def lY(cs:aF)(ws:ae):aJ:=(bO cs).map λc=>(Rat.divInt (cH cs ws c) ws.sum,c)
theorem Tab.xy{n:ae->Prop}{j:Nat}(T:Tab n j cs ws):∀w∈ws,w<=ws.sum:=λw hw=>by
 have:∀l:ae,(∀x∈l,1<=x)->0<=l.sum/\∀x∈l,x<=l.sum:=λl=>by
  induction l with
  |nil=>intro _;exact⟨Int.le_refl _,λ_ h=>nomatch h⟩
  |cons a l ih =>
   intro h;obtain⟨i1,i2⟩:=ih λx hx=>h x (aag _ hx);have ha:=h a aah;rw[List.sum_cons];refine⟨by left,λx hx=>?_⟩;rcases List.mem_cons.mp hx with rfl|hx
   ·left
   ·have:=i2 x hx;left
 exact(this ws T.pos).2 w hw
theorem wU(W:Int)(hW:W≠0):∀ls:ae,(ls.map λx=>Rat.divInt x W).sum=Rat.divInt ls.sum W
 |[]=>by simp
 |x::ls=>by
  rw[List.map_cons,List.sum_cons,wU W hW ls,List.sum_cons,Rat.divInt_eq_div,Rat.divInt_eq_div,Rat.divInt_eq_div,Rat.intCast_add];grind
theorem Bg{a b:bt}(h:a.Perm b):a.sum=b.sum:=by
 induction h with
 |nil=>rfl
 |cons x _ ih=>rw[List.sum_cons,List.sum_cons,ih]
 |swap x y l=>rw[List.sum_cons,List.sum_cons,List.sum_cons,List.sum_cons];grind
 |trans _ _ i1 i2=>rw[i1,i2]
theorem Tab.dr{P:ae->Prop}{n j:Nat}(T:Tab P j cs ws)(h1:1<=j)(h6:j<=8)(n1:1<=n)(n2:n<=12):Dp P 6 n (lY cs ws):=by
 have hp:(bO cs).Perm cs:=aaG _ _;have hl:(lY cs ws).length=cs.length:=by unfold lY;rw[List.length_map];exact hp.length_eq
 have hf:=T.zF;have hs:=T.sum;have val:∀c∈bO cs,1<=cH cs ws c/\cH cs ws c<=ws.sum:=λc hc=>by
  obtain⟨w,e,m⟩:=ku T.ln (hp.mem_iff.mp hc);unfold cH;rw[e];exact⟨T.pos w m,T.xy w m⟩
 have hW:1<=ws.sum:=by
  obtain⟨c,hc⟩:=abl cs (T.ne h1);have:=val c (hp.mem_iff.mpr hc);left
 refine⟨n1,n2,by rw[hl];left,.inl (by rw[hl];left),by rw[hl];left,λr hr=>?_,λr hr=>?_,λr hr=>?_,?_,?_⟩
 ·obtain⟨c,hc,rfl⟩:=List.mem_map.mp hr;exact T.d5 c (hp.mem_iff.mp hc)
 ·obtain⟨c,hc,rfl⟩:=List.mem_map.mp hr;exact oH (by have:=val c hc;left) (by left)
 ·obtain⟨c,hc,rfl⟩:=List.mem_map.mp hr;have:=val c hc;exact Nb (by left) (by show _<64;left) (by show _<64;left)
 ·have e:(lY cs ws).map (·.1)=(bO cs).map λc=>Rat.divInt (cH cs ws c) ws.sum:=by
   unfold lY;rw[List.map_map];rfl
  rw[e];have e2:((bO cs).map λc=>Rat.divInt (cH cs ws c) ws.sum).sum=(cs.map λc=>Rat.divInt (cH cs ws c) ws.sum).sum:=Bg (hp.map _);have e3:(cs.map λc=>Rat.divInt (cH cs ws c) ws.sum)=(cs.map (cH cs ws)).map λx=>Rat.divInt x ws.sum:=by rw[List.map_map];rfl
  rw[e2,e3,nP T.nd T.ln,wU _ (by left),Rat.divInt_eq_div];have z:((ws.sum:Int):Rat)≠0:=λz=>by rw[Rat.intCast_eq_zero_iff]at z;left
  grind
 ·have e:(lY cs ws).map (·.2)=bO cs:=by
   unfold lY;rw[List.map_map];exact(aay λ_ _=>rfl).trans (List.map_id _)
  rw[e];exact ny T.nd
theorem Oi(n:Nat)(t:Nat->Bool):o_ n (((List.range n).filter t).map λ(k:Nat)=>(k:Int)):=by
 refine⟨?_,λh hh=>?_⟩
 ·rw[List.pairwise_map];refine(List.Pairwise.filter _ List.pairwise_lt_range).imp λz=>?_;left
 ·obtain⟨k,hk,rfl⟩:=List.mem_map.mp hh;have:=List.mem_range.mp (List.mem_filter.mp hk).1;left
noncomputable def we:CE:=.comp 1 (.nm 0) [7] .jZ [(.v 4)] [(.cmp .eq (.bin .band (.bin .shr (.v 1) (.v 0)) (.int 1)) (.int 1))] (.v 0)
noncomputable def wA:CS:=.mut 1033 5 [(.bin .add (.bin .add (.bU 1031 [(.v 5),(.v 8),(.int 0)]) (.int 1)) (.bin .mod (.bin .fdiv (.v 7) (.int 4096)) (.int 7))),(.v 8)]
def Ee:aq:=[.asg (.nm 7) (.call 200 [(.v 0),(.bin .add (.bin .add (.v 1) (.int 1)) (.v 6))]),.asg (.nm 8) (.bf .tuple1 [we]),wA]
noncomputable def Lm:CE:=.comp 1 (.nm 0) [5] (.bU 1100) [(.v 5)] [] (.bU 1032 [(.v 1),(.v 0)])
noncomputable def Ln:CE:=.comp 1 (.nm 0) [9,5] .seq [(.bU 1035 [(.v 5)])] [] (.tup [(.call 201 [(.bU 1032 [(.v 2),(.v 0)]),(.v 1)]),(.v 0)])
def jl:aq:=[.asg (.nm 3) (.call 200 [(.v 0),(.v 1)]),.asg (.nm 4) (.bin .add (.int 1) (.bin .mod (.v 3) (.v 2))),.asg (.nm 3) (.bin .fdiv (.v 3) (.v 2)),.asg (.nm 5) (.bU 1030 []),.fr (.nm 6) (.jZ (.bin .add (.int 1) (.bin .mod (.v 3) (.int 6)))) Ee,.asg (.nm 9) (.bf .lZ [Lm]),.ret (.tup [(.v 4),Ln])]
structure DF(Φ:bh):Prop where
 P9:Φ 1030=CK
 P8:Φ 1031=uv
 P7:Φ 1032=CO
 P6:Φ 1033=uu
 P5:Φ 1035=oF
 P0:Φ 1100=oG
theorem F9(Φ:bh){n:Nat}(hn:n<=12)(N:Int)(a b c d e f:aU)(r:a_):∃d5,o_ n d5/\bp Φ we (a::b::c::d::some (.int n)::e::f::some (.int N)::r)=ok (.lst .ow (ag d5)):=by
 refine⟨_,Oi n λ(k:Nat)=>decide (N / 2 ^ k % 2=1),?_⟩;unfold we;rw[cU (xs:=[.int n]) (ds:=((List.range n).filter λ(k:Nat)=>decide (N / 2 ^ k % 2=1)).map λ(k:Nat)=>D.int (k:Int)) (by simp) (rH Φ (by left) (by left)) ?_ ?_]
 ·simp[aM,ag]
 ·rw[Int.toNat_natCast];refine dj λk hk=>⟨[some (.int k),some (.int N)],by simp[bE],?_,λ_=>by simp⟩
  have e1:bZ .shr (.int N) (.int k)=ok (.int (N / 2 ^ k)):=by rw[Hz (by left)];simp
  simp[e1,Dl]
 ·have:=aaP (λ(k:Nat)=>decide (N / 2 ^ k % 2=1)) (List.range n);simp at this ⊢;exact cm (by left)
theorem Lw(P:DF Φ)(f:Fl)(cs:aF)(ws:ae)(c:ae):Φ 1031 [.cy f cs (ag ws),.tup (ag c),.int 0]=ok (.int (cH cs ws c)):=by
 rw[P.P8];show(match intsOf (ag c)with|some c=>if aP anyF (ag ws)=false/\aY anyF (.int 0)=false then ok ((cD cs (ag ws) c).getD (.int 0))else none|none=>none)=_;unfold ag;rw[bw];show(if aP anyF (ag ws)=false/\aY anyF (.int 0)=false then ok ((cD cs (ag ws) c).getD (.int 0))else none)=_;rw[if_pos ⟨di _ _,rfl⟩,k9];unfold cH;cases cD cs ws c<;>rfl
theorem Lr(P:DF Φ)(hl:cs.length<1000)(ws:ae)(c:ae)(v:Int):Φ 1033 [.cy .ow cs (ag ws),.int v,.tup (ag c)]=ok (.cy .ow (dg cs c) (ag (cg cs ws c v))):=by
 rw[P.P6];show(match intsOf (ag c)with|some c=>if dW .ow=true/\aY anyF (.int v)=false/\cs.length<eE then ok (D.cy .ow (dg cs c) (cg cs (ag ws) c (.int v)))else none|none=>none)=_;unfold ag;rw[bw];show(if dW .ow=true/\aY anyF (.int v)=false/\cs.length<eE then ok (D.cy .ow (dg cs c) (cg cs (ag ws) c (.int v)))else none)=_;rw[if_pos ⟨rfl,rfl,by show _<1000000;left⟩,uV];rfl
theorem Hq(P:DF Φ)(f:Fl)(hl:cs.length=ws.length){c:ae}(h:c∈cs):Φ 1032 [.cy f cs (ag ws),.tup (ag c)]=ok (.int (cH cs ws c)):=by
 obtain⟨w,e,_⟩:=ku hl h;rw[P.P7];show(match intsOf (ag c)with|some c=>(match cD cs (ag ws) c with|some v=>if aY anyF v=false then ok v else none|none=>none)|none=>none)=_;unfold ag;rw[bw];show(match cD cs (ag ws) c with|some v=>if aY anyF v=false then ok v else none|none=>none)=_;rw[k9,e];unfold cH;rw[e];rfl
theorem ye(Φ:bh)(P:DF Φ)(vY:sG (Φ 200))(ns:ae){a:Int}(ha:0<=a){n:Nat}(hn:n<=12)(c2 c3:aU):∀(k j:Nat) (cs:aF) (ws:ae) (c6 c7 c8:aU),Tab (o_ n) j cs ws->j+k<=6 ->
  ∃Hr QU z9 V7 V6,fW (λd ρ=>cY (.nm 6) d ρ) (λρ=>bJ Φ Ee ρ) ((List.range' j k).map λ(i:Nat)=>D.int (i:Int)) [some (.lst .sc (ag ns)),some (.int a),c2,c3,some (.int n),some (.cy .ow cs (ag ws)),c6,c7,c8,none] =
   ok (.nx,[some (.lst .sc (ag ns)),some (.int a),c2,c3,some (.int n),some (.cy .ow Hr (ag QU)),z9,V7,V6,none])/\Tab (o_ n) (j+k) Hr QU
 |0,j,cs,ws,c6,c7,c8,T,_=>⟨cs,ws,c6,c7,c8,rfl,T⟩
 |k+1,j,cs,ws,c6,c7,c8,T,hj=>by
  have e1:=vY ns (a+1+j) (by left);obtain⟨d5,hl,e2⟩:=F9 Φ hn (bR ns (a+1+j)) (some (.lst .sc (ag ns))) (some (.int a)) c2 c3 (some (.cy .ow cs (ag ws))) (some (.int j)) [c8,none];obtain⟨f1,f2⟩:=eL ((bR ns (a+1+j)).fdiv 4096) (b:=7) (by decide);have hw:cH cs ws d5+1+((bR ns (a+1+j)).fdiv 4096).fmod 7=cH cs ws d5+(1+((bR ns (a+1+j)).fdiv 4096).fmod 7):=by left
  have T':=T.put hl (i:=1+((bR ns (a+1+j)).fdiv 4096).fmod 7) (by left) (by left);obtain⟨Hr,QU,z9,V7,V6,ih,T''⟩:=ye Φ P vY ns ha hn c2 c3 k (j+1) _ _ (some (.int j)) (some (.int (bR ns (a+1+j)))) (some (.tup (ag d5))) T' (by left);have g1:=λf=>Lw P f cs ws d5;have hf:=T.zF;have g2:=Lr P (cs:=cs) (by left) ws d5 (cH cs ws d5+(1+((bR ns (a+1+j)).fdiv 4096).fmod 7));have x1:hZ Φ wA [some (.lst .sc (ag ns)),some (.int a),c2,c3,some (.int n),some (.cy .ow cs (ag ws)),some (.int j),some (.int (bR ns (a+1+j))),some (.tup (ag d5)),none]=ok (.nx,[some (.lst .sc (ag ns)),some (.int a),c2,c3,some (.int n),some (.cy .ow (dg cs d5) (ag (cg cs ws d5 (cH cs ws d5+(1+((bR ns (a+1+j)).fdiv 4096).fmod 7))))),some (.int j),some (.int (bR ns (a+1+j))),some (.tup (ag d5)),none]):=by
   unfold wA;refine(HK (xs:=[.int (cH cs ws d5+(1+((bR ns (a+1+j)).fdiv 4096).fmod 7)),.tup (ag d5)]) (d:=.cy .ow cs (ag ws)) ?_ (by simp) rfl g2).trans rfl;simp[g1,hw]
  refine⟨Hr,QU,z9,V7,V6,?_,by rw[show j+(k+1)=j+1+k by left];exact T''⟩;rw[List.range'_succ,List.map_cons];refine jM (ρ1:=[some (.lst .sc (ag ns)),some (.int a),c2,c3,some (.int n),some (.cy .ow cs (ag ws)),some (.int j),c7,c8,none]) (by simp) (ρ2:=[some (.lst .sc (ag ns)),some (.int a),c2,c3,some (.int n),some (.cy .ow (dg cs d5) (ag (cg cs ws d5 (cH cs ws d5+(1+((bR ns (a+1+j)).fdiv 4096).fmod 7))))),some (.int j),some (.int (bR ns (a+1+j))),some (.tup (ag d5)),none]) ?_ ih;simp[Ee,e1,e2,x1]
theorem wk{t b:Int}(hb:b≠0):(Rat.divInt t b).den∣b.natAbs:=by
 obtain⟨t',b',e1,e2,h1,h2,h3,h4⟩:=nM (t:=t) hb;obtain⟨g1,g2⟩:=rR (t:=t) hb;rw[show b.fdiv (fQ t b)=b' from h2]at g2;have hz:(Rat.divInt t b).den=b'.natAbs:=by left
 have:b.natAbs=(fQ t b).natAbs*b'.natAbs:=by rw[<- Int.natAbs_mul,<- e2]
 rw[hz,this];exact Nat.dvd_mul_left ..
def qH(m:aH):Prop:=∀(ns:ae) (a:Int) (p:Nat),0<=a->1<=p->p<=12->∃n rs,n<=p/\Dr 6 n rs/\QR rs/\m [.lst .sc (ag ns),.int a,.int p]=ok (.tup [.int n,.lst .ow (bg rs)])
theorem yU(Φ:bh)(P:DF Φ)(vY:sG (Φ 200))(Kt:kG (Φ 201)):qH (mk Φ 3 10 jl):=by
 intro ns a p ha p1 p2;have e1:=vY ns a ha;obtain⟨f1,f2⟩:=eL (bR ns a) (b:=(p:Int)) (by left);obtain⟨n,hn⟩:∃n:Nat,1+(bR ns a).fmod p=(n:Int):=⟨(1+(bR ns a).fmod p).toNat,by left⟩
 obtain⟨g1,g2⟩:=eL ((bR ns a).fdiv p) (b:=6) (by decide);obtain⟨k,hk⟩:∃k:Nat,1+((bR ns a).fdiv p).fmod 6=(k:Int):=⟨(1+((bR ns a).fdiv p).fmod 6).toNat,by left⟩
 have T0:Tab (o_ n) 0 [] []:=⟨abw,rfl,aai _,(λ_ h=>nomatch h),(λ_ h=>nomatch h),by simp,λh=>by left⟩
 obtain⟨cs,ws,c6,c7,c8,el,T⟩:=ye Φ P vY ns ha (n:=n) (by left) (some (.int p)) (some (.int ((bR ns a).fdiv p))) k 0 [] [] none none none T0 (by left);rw[Nat.zero_add]at T;have D6:=T.dr (n:=n) (by left) (by left) (by left) (by left);have hm:bZ .mod (.int (bR ns a)) (.int p)=ok (.int ((bR ns a).fmod p)):=Dj (by left);have hd:bZ .fdiv (.int (bR ns a)) (.int p)=ok (.int ((bR ns a).fdiv p)):=oP (iX (by left) (vJ (by left)));have Kc:Φ 1030 []=ok (.cy .ow [] []):=by rw[P.P9];rfl
 have hit:fg Φ (.jZ (.bin .add (.int 1) (.bin .mod (.v 3) (.int 6)))) [some (.lst .sc (ag ns)),some (.int a),some (.int p),some (.int ((bR ns a).fdiv p)),some (.int n),some (.cy .ow [] []),none,none,none,none]=ok ((List.range' 0 k).map λ(i:Nat)=>D.int (i:Int),[some (.lst .sc (ag ns)),some (.int a),some (.int p),some (.int ((bR ns a).fdiv p)),some (.int n),some (.cy .ow [] []),none,none,none,none]):=by
  rw[JY (n:=k) (by simp[hk]) (by left) (by left),Int.toNat_natCast,List.range_eq_range']
 have hf:=lA (Φ:=Φ) (t:=.nm 6) (b:=Ee) hit el;have hp:(bO cs).Perm cs:=aaG _ _;have lL:∀f,dU Φ (.bU 1100) [.cy f cs (ag ws)]=ok (cs.map bS):=λf=>by
  show bd (Φ 1100 _) pw=_;rw[P.P0];show ok (au aL (cs.map bS))=_;rw[f9]
 have hfew:=T.zF;have OV:∀c,bS c=.tup (ag c):=λ_=>rfl;have s1:∀r,bp Φ Lm [some (.lst .sc (ag ns)),some (.int a),some (.int p),some (.int ((bR ns a).fdiv p)),some (.int n),some (.cy .ow cs (ag ws)),c6,c7,c8,r]=ok (.lst .ow (ag (cs.map (cH cs ws)))):=λr=>by
  unfold Lm;rw[cU (xs:=[.cy .al cs (ag ws)]) (by simp) (lL _) (ds:=cs.map λc=>.int (cH cs ws c)) (cI λc hc=>?_) (by simp;exact cm (by left))]
  ·simp[ag,aM]
  ·have e:=Hq P .fz T.ln hc;exact⟨[some (.tup (ag c)),some (.cy .fz cs (ag ws))],by simp[bE,OV],by simp,by simp[e]⟩
 rw[nP T.nd T.ln]at s1;have s2:mU .lZ [.lst .ow (ag ws)]=ok (.int ws.sum):=by
  show(match intsOf (ag ws)with|some ns=>ok (D.int ns.sum)|none=>none)=_;unfold ag;rw[bw]
 have hW:1<=ws.sum/\ws.sum<=42:=by
  have hs:=T.sum;refine⟨?_,by left⟩;obtain⟨c,hc⟩:=abl cs (T.ne (by left));obtain⟨w,e,m⟩:=ku T.ln hc;have:=T.pos w m;have:=T.xy w m;left
 refine⟨n,lY cs ws,by left,D6,⟨ws.sum.toNat,by left,by left,λr hr=>?_⟩,?_⟩
 ·unfold lY at hr;obtain⟨c,_,rfl⟩:=List.mem_map.mp hr;have h:ws.sum=((ws.sum.toNat:Nat):Int):=by left
  show(Rat.divInt (cH cs ws c) ws.sum).den∣_;have d:=wk (t:=cH cs ws c) (b:=ws.sum) (by left)
  rwa [show ws.sum.natAbs=ws.sum.toNat by left]at d
 have OQ:∀f,Φ 1035 [.cy f cs (ag ws)]=ok (.lst .ow ((bO cs).map bS)):=λf=>by
  rw[P.P5];show(if cs.length<64 then ok (D.lst .ow ((bO cs).map bS))else none)=_;rw[if_pos (by left)]
 have s3:bp Φ Ln [some (.lst .sc (ag ns)),some (.int a),some (.int p),some (.int ((bR ns a).fdiv p)),some (.int n),some (.cy .ow cs (ag ws)),c6,c7,c8,some (.int ws.sum)]=ok (.lst .ow (bg (lY cs ws))):=by
  unfold Ln;rw[cU (xs:=[.lst .ow ((bO cs).map bS)]) (by simp[OQ]) (items:=(bO cs).map bS) (by rw[eK,f9]) (ds:=(bO cs).map λc=>rD (Rat.divInt (cH cs ws c) ws.sum,c)) (cI λc hc=>?_) (by rw[List.length_map];exact cm (by rw[hp.length_eq];left))]
  ·have:((bO cs).map λc=>rD (Rat.divInt (cH cs ws c) ws.sum,c))=bg (lY cs ws):=by unfold bg lY;rw[List.map_map];rfl
   rw[this,bC]
  ·have e:=Hq P .fz T.ln (hp.mem_iff.mp hc);have e':=Kt (cH cs ws c) ws.sum (by left) (vJ (by left));exact⟨[some (.tup (ag c)),some (.int ws.sum),some (.cy .fz cs (ag ws))],by simp[bE,OV],by simp,by simp[e,e',rD]⟩
 simp[mk_eq,jl,e1,hm,hd,hn,Kc];rw[hf];simp[s1,s2,s3]
end DI
end
section
namespace DI
open PySem PySem.Spec PyProof.Rows PySem.W
structure XC(K:Frag)(C:Addr):Prop where
 ga:findIn K (.ref C) "__getattribute__" = some (some (.builtin "BaseException.__getattribute__"))
 gt:findIn K (.ref C) "__getattr__" = some none
 cl:findIn K (.ref C) "__class__" = some (some (.builtin "object.__class__"))
 be:mroIn K C (.type "BaseException")=some true
 ob:mroIn K C (.type "object")=some true
 cs:(clsIn K C).isSome=true
section
variable {prog:aE}{w:World}{A:aG}{E:aA}{h:Heap}{g:Array GenState}{d:Drawn}{t:Nat}{os:OsState}{K:Frag}{x C:Addr}{o:Obj}
theorem Sn{R:Result->Shared->Prop}(Z:XC K C)(X:K.In h)(hx:h.get? x=some o)(hc:o.cls=.ref C)(hq:R (.ok (.ret (.ref C))) ⟨h,g,d,t,os⟩):
  codeAny (model prog w) A (.call (.builtin "getset_descriptor.__get__") ⟨[.builtin "object.__class__",.ref x,.ref C],[]⟩) R ⟨h,g,d,t,os⟩:=by
 have L1:=looks_mroIn (M:=model prog w) X Z.ob;refine abP KF.slot_gs.plain KF.entry_gs (KF.slot_gs.check _ _ _ _ _ _ _ _ KF.type_class (KF.args_gs _ _ _) ?_);have hT5:(⟨h,g,d,t,os⟩:Shared).TypeIs (.builtin "object.__class__") "getset_descriptor":=abJ;have e1:(".".intercalate ("object.__class__".cutAt '.').dropLast) = "object":=F.owner_object_class
 repeat (any_goals (first|assumption | (with_reducible refine aaV hx ?_;rw[hc]) | (with_reducible refine L1.at ?_) | (rw[e1];with_reducible refine L1.at ?_)|wp_step))
 refine⟨ab7 _ (by decide +kernel),abc F.entry_object_class ?_⟩
 repeat (any_goals (first|assumption | (with_reducible refine aaV hx ?_;rw[hc])|wp_step))
theorem HI{tk:Tok}{Q:Fin->Shared->Prop}(Z:XC K C)(X:K.In h)(hx:h.get? x=some o)(hc:o.cls=.ref C)(hq:Q (.done (.ret (.ref C))) ⟨h,g,d,t,os⟩):
  wpAny (model prog w) A (Builtin.«object.__getattribute__» ⟨[.ref x,.str "__class__" tk],[]⟩) Q E ⟨h,g,d,t,os⟩:=by
 have hT5:(⟨h,g,d,t,os⟩:Shared).TypeIs (.builtin "object.__class__") "getset_descriptor":=abJ;have f5:=abJ;have f6:=F.slot_gs_get.lookup;have f7:=F.slot_gs_set.lookup;have L1:=looks_findIn (M:=model prog w) X Z.cl
 repeat (any_goals (first|assumption | (with_reducible refine aaV hx ?_;rw[hc]) | (with_reducible refine L1.at ?_)|wp_step))
 refine Sn Z X hx hc ?_
 repeat (any_goals (first|assumption|wp_step))
theorem HJ{M:Model}{G5:Value}{Q:Unit->Shared->Prop}(Z:XC K C)(X:K.In h)(hx:h.get? x=some o)(hc:o.cls=.ref C)(hq:Q () ⟨h,g,d,t,os⟩):
  wpAny M A (checkBuiltinCall "BaseException.__getattribute__" ⟨[.ref x,G5],[]⟩) Q E ⟨h,g,d,t,os⟩:=by
 have hk:builtinKind "BaseException.__getattribute__" = some .slot:=by decide +kernel
 have J7:splitId "BaseException.__getattribute__" = some ("BaseException","__getattribute__"):=by decide +kernel
 have L1:=looks_mroIn (M:=M) X Z.be;have ha:=F.args_bexc_ga (.ref x) G5;simp only[checkBuiltinCall,hk,J7];refine aaa ?_
 ·unfold isInstance
  repeat (first | (with_reducible refine aaV hx ?_;rw[hc]) | (with_reducible refine L1.at ?_)|wp_step)
  exact hq
theorem MB{tk:Tok}{R:Result->Shared->Prop}(B:ExcAttrFacts "ValueError")(Z:XC K C)(X:K.In h)(hx:h.get? x=some o)(hc:o.cls=.ref C)(hq:R (.ok (.ret (.ref C))) ⟨h,g,d,t,os⟩):
  codeAny (model prog w) A (.call (.builtin "BaseException.__getattribute__") ⟨[.ref x,.str "__class__" tk],[]⟩) R ⟨h,g,d,t,os⟩ :=
 abP B.ga.plain F.entry_bexc_ga (HJ Z X hx hc (HI Z X hx hc hq))
theorem Ye{tk:Tok}{Q:aA}(B:ExcAttrFacts "ValueError")(Z:XC K C)(X:K.In h)(hx:h.get? x=some o)(hc:o.cls=.ref C)(hq:Q (.ref C) ⟨h,g,d,t,os⟩):
  wpAny (model prog w) A (getAttrBy (.ref x) (.str "__class__" tk) false) Q E ⟨h,g,d,t,os⟩:=by
 have f3:=B.ga.bind (.ref x);have hx0:(false&&onTheHeap (Value.builtin "BaseException.__getattribute__"))=false:=rfl;have UC:(Value.builtin "BaseException.__getattribute__" == Value.builtin "object.__getattribute__")=false:=by decide +kernel
 have Xe:(onTheHeap (Value.ref C)&&Value.builtin "BaseException.__getattribute__" == Value.builtin "object.__getattribute__")=false:=by rw[UC];rfl
 have L1:=looks_findIn (M:=model prog w) X Z.ga;have L2:=looks_findIn (M:=model prog w) X Z.gt
 repeat (any_goals (first|assumption | (with_reducible refine aaV hx ?_;rw[hc]) | (with_reducible refine L1.at ?_) | (with_reducible refine L2.at ?_)|wp_step))
 refine MB B Z X hx hc ?_
 repeat (any_goals (first|assumption|wp_step))
theorem MC{Q:Option Value->Shared->Prop}(B:ExcAttrFacts "ValueError")(Z:XC K C)(X:K.In h)(hx:h.get? x=some o)(hc:o.cls=.ref C)(hq:Q (some (.ref C)) ⟨h,g,d,t+1,os⟩):
  wpAny (model prog w) A (getAttr? (.ref x) "__class__") Q E ⟨h,g,d,t,os⟩:=by
 unfold getAttr? getAttrBy?
 repeat (any_goals (first|assumption|with_reducible apply Ye B Z X hx hc|wp_step))
end
def DS(x C:Addr)(h:Heap):Prop:=∃o,h.get? x=some o/\o.cls=.ref C
theorem BP{K:Frag}{x C:Addr}(B:ExcAttrFacts "ValueError")(Z:XC K C):KitX K (.ref x) (.ref C) (DS x C) where
 ty:=λM h _ p=>by
  obtain⟨o,h1,h2⟩:=p;exact h2▸(Looks.ld h1).andThen .now
 it:=λ_ _ X _=>by
  obtain⟨cdD,Ki⟩:=Option.isSome_iff_exists.mp Z.cs;unfold clsIn at Ki;split at Ki
  ·rename_i c' d' cd' Tb ho;intro A' Q' E' s' k q;unfold isType loadHead;exact aaa (wpAny_loadPart (k _ _ (X _ _ ho)) (aad q))
  ·cases Ki
 ne:=λh tp dd aI n sl X RC=>by
  obtain⟨cdD,Ki⟩:=Option.isSome_iff_exists.mp Z.cs;refine Bool.eq_false_iff.mpr λq=>?_;have e:C=tp:=Value.ref.inj (beq_iff_eq.mp q);subst e;unfold clsIn at Ki;split at Ki
  ·rename_i c' d' cd' Tb ho;have z:=(X _ _ ho).symm.trans RC;cases z
  ·cases Ki
 ca:=λ{prog w A E Q s} X p k=>by
  obtain⟨o,h1,h2⟩:=p;obtain⟨h,g,d,t,os⟩:=s;exact MC B Z X h1 h2 k
end DI
end
section
namespace DI
open PySem PySem.Spec PyProof.Rows L2
variable {B base h h' h2 h3:Heap}{H H' H1:Hp}{P:aE}{w:World}
theorem lH{a:Addr}{o:HO}(x:cK P w H h a o):∃u,h.get? a=some u:=by
 cases o with
 |lst xs=>obtain⟨_,_,_,_,e⟩:=x;exact⟨_,e⟩
 |tup xs=>obtain⟨_,_,_,o,e,_⟩:=x;exact⟨_,e⟩
 |dK me=>obtain⟨_,_,_,_,o,_,_,e,_⟩:=x;exact⟨_,e⟩
 |dT me=>obtain⟨_,_,_,_,o,_,_,e,_⟩:=x;exact⟨_,e⟩
 |set S n=>obtain⟨o,_,_,_,e,_⟩:=x;exact⟨_,e⟩
 |ins C dx fs=>obtain⟨_,_,_,e,_⟩:=x;exact⟨_,e⟩
 |own y=>obtain⟨_,e⟩:=x;exact⟨_,e⟩
 |xd fs=>obtain⟨_,⟨_,_,_,e,_⟩,_⟩:=x;exact⟨_,e⟩
 |jZ lo hi=>obtain⟨_,_,_,e⟩:=x;exact⟨_,e⟩
 |gF ob u=>obtain⟨e,_⟩:=x;exact⟨_,e⟩
 |Eb ps=>exact⟨_,(show h.get? a=some _ from x)⟩
 |met f y=>exact⟨_,(show h.get? a=some _ from x)⟩
 |ext φ=>obtain⟨_,⟨_,e⟩,_⟩:=x;exact⟨_,e⟩
def Sk(l:List Env)(H':Hp)(h h' B:Heap):Prop:=∀b o,h'.get? b=some o->b∉la l->(H' b≠none\/h.get? b≠none)->B.get? b=some o
theorem moved{l:List Env}(un:Un (la l) [] H H' h h2)(cC:jm P w H' h2)(DR:Sk l H' h h2 B)(fu:h.FunFrames base l)(z8:∀b∈la l,H b=none)
  (st:B.StaysIn h3) (sl:h2.UpToSlots h3):Un (la l) [] H H' h h3/\jm P w H' h3/\Sk l H' h h3 B:=by
 have fr:∀b∈la l,H' b=none:=λb hb=>by
  obtain⟨_,o,ho,_⟩:=fu.mem hb;exact un.free b o ho (z8 b hb) (by simp)
 have keep:∀b o,h2.get? b=some o->b∉la l->(H' b≠none\/h.get? b≠none)->h3.get? b=some o:=λb o e hb hc=>st b o (DR b o e hb hc);have slot:∀b o,h.get? b=some o->b∈la l->∃sl,h3.get? b=some { o with slots:=sl }:=λb o e hb=>by
  obtain⟨sl1,e1⟩:=un.slot b o e (z8 b hb) hb (by simp);obtain⟨_,o',fq,nf⟩:=fu.mem hb;rw[e]at fq;cases fq;obtain⟨p7,e2⟩:=sl b _ e1 (λvs z=>nf vs z);exact⟨p7,e2⟩
 refine⟨⟨λb o e n hb _=>keep b o (un.keep b o e n hb (by simp)) hb (.inr (by rw[e];simp)),λb o e n hb _=>slot b o e hb,un.free,λb o e _=>?_,un.lV,un.k_,un.lX⟩,λa o e=>?_,λb o e hb hc=>?_⟩
 ·by_cases hb:b∈la l
  ·obtain⟨s1,e1⟩:=slot b o e hb;exact⟨_,e1⟩
  ·obtain⟨o',e1⟩:=un.there b o e (by simp);exact⟨o',keep b o' e1 hb (.inr (by rw[e];simp))⟩
 ·refine(cC a o e).iM (λb u hb q=>?_) (λ_ q=>q) λ_ _ q=>q;have ht:H' b≠none:=by
   rcases hb with rfl|hb
   ·rw[e];simp
   ·rw[hb];simp
  exact keep b u q (λz=>ht (fr b z)) (.inl ht)
 ·have:∃o2,h2.get? b=some o2:=by
   rcases hc with hc|hc
   ·cases q:H' b with
    |none=>exact absurd q hc
    |some u=>exact lH (cC b u q)
   ·cases q:h.get? b with
    |none=>exact absurd q hc
    |some u=>exact un.there b u q (by simp)
  obtain⟨o2,e2⟩:=this;have e3:=keep b o2 e2 hb hc;rw[e]at e3;cases e3;exact DR b _ e2 hb hc
structure Sj(P:aE)(w:World)(C:Addr)(l:List Env)(H:Hp)(s:Shared)(e:Addr)(H':Hp)(s':Shared):Prop where
 fly:∃t B,Heap.FlyingW B l e (.ref C) (.ref t) s'.heap/\Sk l H' s.heap s'.heap B
 os:s'.os=s.os
 bare:AllBare s'.gens
 un:Un (la l) [] H H' s.heap s'.heap
 cC:jm P w H' s'.heap
noncomputable abbrev sI(P:aE)(w:World)(C:Addr):yB:=λl H s E e s'=>∃ea H',e=.ref ea/\Sj P w C l H s ea H' s'/\E (.ref C) none H'
theorem uj{l:List Env}{e:Addr}{cls a0:Value}(f:Heap.FlyingW B l e cls a0 h):e∉la l:=λhm=>by
 obtain⟨_,o,ho,nf⟩:=f.2.2.1.mem hm;obtain⟨oe,vs,he,_,hd,_⟩:=f.first;rw[ho]at he;cases he;exact nf vs hd
variable {C ea:Addr}
theorem Sj.new{l:List Env}{s s':Shared}{e:Addr}(f:Sj P w C l H s e H' s'):H' e=none/\s.heap.get? e=none:=by
 obtain⟨t,B,fw,DR⟩:=f.fly;obtain⟨oe,vs,he,_⟩:=fw.first;have key:¬ (H' e≠none\/s.heap.get? e≠none):=λz=>by
  have:=DR e oe he (uj fw) z;rw[fw.2.1]at this;cases this
 exact⟨Classical.not_not.mp λz=>key (.inl z),Classical.not_not.mp λz=>key (.inr z)⟩
variable {s1:Shared}{σ:L2.St}
section
variable {P:aE}{w:World}{C:Addr}{K:ao}{mg:aV}{base:Heap}{N:aj}{qual:Str}{scope:Scope}{f:Addr}{cd:Value}{A:aG}{outer:List Env}{s:Shared}{H:Hp}{E:XK}
theorem left{pins:ak}{s2:Shared}{t:Addr}
  (I:Inv (iY (sI P w C) P w K mg base N qual scope f cd A outer s H E) pins σ H1 s1)
  (un:Un (la (iY (sI P w C) P w K mg base N qual scope f cd A outer s H E).stack) [] H1 H' s1.heap h2) (cC:jm P w H' h2) (DR:Sk (iY (sI P w C) P w K mg base N qual scope f cd A outer s H E).stack H' s1.heap h2 B)
  (fw:Heap.FlyingW B outer ea (.ref C) (.ref t) h3) (sl:h2.UpToSlots h3) (os:s2.os=s1.os) (bare:AllBare s2.gens):Sj P w C outer H s ea H' { s2 with heap:=h3 }:=by
 obtain⟨Yn,O3,V3⟩:=moved un cC DR I.stack I.j9 fw.1 sl;have J:=I.yn (s':={ s2 with heap:=h3 }) (ch:=[]) os Yn O3 bare λ_ z=>nomatch z;refine⟨⟨t,B,fw,λb o e hb hc=>?_⟩,J.os,bare,J.base,O3⟩;have Z1:b≠s.heap.objs.size:=by
  rcases hc with hc|hc
  ·rintro rfl;exact hc J.free
  ·rintro rfl;exact hc (Heap.get?_none_of_le (aai _))
 refine V3 b o e (λz=>?_) ?_
 ·rcases List.mem_cons.mp (I.jI b z)with z|z
  ·exact Z1 z
  ·exact hb z
 ·rcases hc with hc|hc
  ·exact .inl hc
  ·right;cases q:s.heap.get? b with
   |none=>exact absurd q hc
   |some u =>
    obtain⟨o',e'⟩:=I.base.there b u q (by intro z;cases z);rw[e'];simp
theorem NN{E1:XK}(hE:∀H',E1 (.ref C) none H'->E (.ref C) none H'):Passes (sI P w C) (iY (sI P w C) P w K mg base N qual scope f cd A outer s H E) E1:=by
 intro pins σ H1 s1 e s2 I hx;obtain⟨ea,H',rfl,⟨⟨t,B,fw,DR⟩,os,bare,un,cC⟩,he⟩:=hx;show wpAny (model P w) _ (leaving _ (.ref ea)) _ _ s2;refine wpAny_leaves_onW (L:=s.heap.objs.size) I.ok.frames rfl fw λh' fw' sl=>?_;exact⟨ea,H',rfl,left I un cC DR fw' sl os bare,hE H' he⟩
theorem EE{pins:ak}{vs:ai}
  (I:Inv (iY (sI P w C) P w K mg base N qual scope f cd A outer s H E) pins σ H1 s1) (hm:Heap.MadeExcOf s1.heap h' ea (.ref C) vs) (he:E (.ref C) none H1) :
  (iY (sI P w C) P w K mg base N qual scope f cd A outer s H E).xe (.ref ea) { s1 with heap:=h' }:=by
 show wpAny (model P w) _ (leaving _ (.ref ea)) _ _ _
 let l:=(iY (sI P w C) P w K mg base N qual scope f cd A outer s H E).stack
 let B:=PySem.W.hideAll s1.heap (la l)
 have hB:B.StaysIn s1.heap:=λb o e=>PySem.W.of_hideAll _ e;refine wpAny_leaves_madeW (h:=s1.heap) (base:=B) (L:=s.heap.objs.size) I.ok.frames rfl hB (PySem.W.funFrames_hide (as:=la l) I.stack λenv he a ha=>List.mem_filterMap.mpr ⟨env,he,ha⟩) hm λXB t fw _ _ sl=>?_;refine⟨ea,H1,rfl,left (s2:=s1) (H':=H1) I (Un.kept hm.keeps) (I.cC.kept hm.keeps) (λb o e hb hc=>?_) fw sl rfl I.bare,he⟩;have:∃o1,s1.heap.get? b=some o1:=by
  rcases hc with hc|hc
  ·cases q:H1 b with
   |none=>exact absurd q hc
   |some u=>exact lH (I.cC b u q)
  ·cases q:s1.heap.get? b with
   |none=>exact absurd q hc
   |some u=>exact⟨u,rfl⟩
 obtain⟨o1,e1⟩:=this;have e2:=hm.keeps b o1 e1;have e:h'.get? b=some o:=e;rw[e]at e2;cases e2;exact PySem.W.hideAll_get _ e1 hb
end
abbrev HM:ai:=[.type "ValueError",.type "Exception",.type "BaseException",.type "object"]
noncomputable abbrev pP(x:Str)(C:Addr)(mg:aV)(h:Heap):Prop:=OwnCls x C HM "ValueError.__new__" mg h
variable {K:ao}
theorem ya(q:PySem.W.excIn K C HM "ValueError.__new__" = true):∃(dd:Option Addr) (nm:Str) (bs bm:ai) (ns:Addr) (qn:Str) (hd:Bool) (sn:aj) (sub:ai) (ab:Bool) (col:Option Bool) (k0 k1 k2 k3 k5:Option Value),
  K.lookup C=some (excClassObj nm qn C ns bs bm hd sn sub ab col dd k0 k1 k2 k3 k5 "ValueError.__new__")/\PySem.W.tailIn K HM bm=true/\PySem.W.nsOkIn K ns=true/\PySem.W.nsIn K ns "__init__" = some none:=by
 unfold PySem.W.excIn at q;split at q
 case h_2=>cases q
 case h_1 dd cd sl ho =>
  split at q
  case h_2=>cases q
  case h_1 C' bm k0 k1 k2 k3 n k5 hm hs =>
   rw[Bool.and_eq_true,Bool.and_eq_true,Bool.and_eq_true,Bool.and_eq_true,Bool.and_eq_true]at q;obtain⟨⟨⟨⟨⟨e1,e2⟩,e3⟩,e4⟩,e5⟩,e6⟩:=q;have e1:=beq_iff_eq.mp e1;have e2:=beq_iff_eq.mp e2;have e6:=beq_iff_eq.mp e6;subst e1;subst e2;cases cd with
   |mk nm bs mro ns qn hd sn sub ab col del =>
    cases hm;have e3:del=false:=by simpa using e3
    subst e3;cases sl with
    |mk l =>
     cases hs;exact⟨_,_,_,_,_,_,_,_,_,_,_,_,_,_,_,_,ho,e4,e5,e6⟩
variable {mg:Str->Option Value}
theorem xp{x:Str}(X:K.In h)(G:h.Ns mainGlobals mg)(e:PySem.W.nsIn K mainGlobals x=some (some (.ref C)))(q:PySem.W.excIn K C HM "ValueError.__new__" = true):pP x C mg h:=by
 obtain⟨_,_,_,_,_,_,_,_,_,_,_,_,_,_,_,_,ho,e4,e5,e6⟩:=ya q;exact⟨abb X G e,_,_,_,_,_,_,_,_,_,_,_,_,_,_,_,_,_,X _ _ ho,.of_isNs (PySem.W.isNs_of_in X e5),PySem.W.nsMap_none_of_in X e5 e6,PySem.W.tail_of_in X e4⟩
variable {cpos np pos:Pos}
section
variable {X:Cx}{C:Addr}{x:Str}
noncomputable def Ia(X:Cx)(C:Addr):TS:=λD σ H=>∀pins s h' ea vs,Inv X pins σ H s->Heap.MadeExcOf s.heap h' ea (.ref C) vs->X.xe (.ref ea) { s with heap:=h' }
theorem A7{m:Str}{j:Nat}{p:Pos}(hc:X.calm=true)(O:pP x C X.mg X.base)(hg:Gl X x)(hd:(x==("__debug__" : Str))=false):
  PS X (.Raise (some (.Call (.Name x np) [.Constant (.str m) j p] [] cpos)) none pos) (Ia X C):=by
 intro pins s σ H D I hw;obtain⟨tl,N,nm,q,bs,hdct,sn,sub,ab,col,dd,k0,k1,k2,k3,k5,mN,hC,hN,ZE,T⟩:=O.obj;refine wpAny_Raise_call_subT (C:=C) (nm:=nm) (q:=q) (N:=N) (bs:=bs) (bm:=tl) (hdct:=hdct) (sn:=sn) (sub:=sub) (ab:=ab) (col:=col) (dd:=dd) (k0:=k0) (k1:=k1) (k2:=k2) (k3:=k3) (k5:=k5)
  F.excBase_ValueError (mN:=mN) (T.hasType F.excBase_ValueError.hasBase) (I.ok.hd hc) rfl ZE (rC I hg O.bound ⟨rfl,?_⟩ hd)
 have he:starEach [.Constant (.str m) j p] X.env=(false,eval (.Constant (.str m) j p) X.env)::starEach [] X.env:=rfl;have hp:=cV (Bh (X:=X) (x:=m) (j:=j) (pos:=p)) fI he cpos pins s σ H (λvs H'=>H'=H/\vs.length<=1) I ⟨rfl,aai 1⟩;rw[he]at hp ⊢;refine abO (cN hp λus s2 bF=>?_);obtain⟨vs,H2,I2,r,q2,q3⟩:=bF;subst q2;exact⟨rfl,by rw[<- r.length];exact aas q3 (by decide),I2.bk _ _ hC,hN.keeps I2.bk,T.keeps I2.bk,λh' e hm=>hw pins s2 h' e us I2 hm⟩
end
variable {X:Cx}
theorem Cx.Ok.mk'(ok:X.Ok)(e:Value)(E:aA):Cx.Ok { X with A:=X.A.mark (some e),calm:=false,xe:=E } :=
 ⟨ok.mod,ok.kind,ok.glob,ok.blt,ok.above,ok.inj,ok.has,ok.Hu,(λh=>by cases h),ok.frames,ok.Ik,ok.Qi,ok.bs,ok.De,ok.tU,ok.v_,ok.jK,ok.z8⟩
theorem BY{pins:ak}{s:Shared}(I:Inv X pins σ H s)(e:Value)(E:aA):Inv { X with A:=X.A.mark (some e),calm:=false,xe:=E } pins σ H s :=
 ⟨Cx.Ok.mk' I.ok e E,I.os,I.bare,I.base,I.loc,I.cell,I.free,I.fN,I.pin,I.cC,I.len⟩
variable {E:Value->Shared->Prop}
theorem vO{pins:ak}{s:Shared}{e:Value}(ok:X.Ok)(I:Inv { X with A:=X.A.mark (some e),calm:=false,xe:=E } pins σ H s):Inv X pins σ H s :=
 ⟨ok,I.os,I.bare,I.base,I.loc,I.cell,I.free,I.fN,I.pin,I.cC,I.len⟩
theorem EJ{i:Nat}{x:Str}(hN:X.N[i]?=some x)(hv:HA X.env.scope x)(hd:(x==("__debug__" : Str))=false)(vW:(x==("__classdict__" : Str))=false):PE X (.Name x pos) (vg i):=nK hN hv hd vW
noncomputable def only(n j:Nat)(v:V):St:=(List.replicate n none).set j (some v)
theorem Bq{n j i:Nat}{v w:V}(h:(only n j v)[i]?=some (some w)):i=j/\w=v:=by
 unfold only at h;by_cases hi:i=j
 ·subst hi;refine⟨rfl,?_⟩;by_cases hl:i<n
  ·rw[List.getElem?_set_self (by simpa using hl)]at h;cases h;rfl
  ·rw[List.getElem?_eq_none (by simpa using hl)]at h;cases h
 ·rw[List.getElem?_set_ne (Ne.symm hi),List.getElem?_replicate]at h;split at h<;>cases h
section
variable {X:Cx}{C:Addr}{x n y:Str}{i j:Nat}{E1:XK}
theorem vE{M:Model}{A:aG}{pins:ak}{s:Shared}{v:V}{Q:Unit->Shared->Prop}(I:Inv X pins σ H s)(hl:X.env.kindOf n=some .local)(Uz:y≠n)(nd:X.N.Nodup)(hj:X.N[j]?=some y)(hv:σ[j]?=some (some v))
  (h:∀s',Inv X pins (only X.N.length j v) H s'->Q () s'):wpAny M A (do bindName X.env n .none;unbindBehindTheSuite X.env n pos) Q E s:=by
 obtain⟨m,hn,ZK⟩:=id I.loc;have Cb:(X.env.scope.kind==.class||(X.env.scope.kind==.module&&X.env.locals != X.env.globals))=false:=by rw[I.ok.kind];rfl
 refine wpAny_nameGoes_keeps hl hn Cb λh' u uR hs=>h _ ?_;have tracked:jm X.prog X.w H h':=λb ob e=>by
  refine(I.cC b ob e).iM (λc w' hc q=>(hs.2 c ?_).trans q) (λ_ q=>q) λ_ _ q=>q;rintro rfl;rcases hc with rfl|hc
  ·rw[I.free]at e;cases e
  ·rw[I.free]at hc;cases hc
 refine⟨I.ok,I.os,I.bare,⟨λb o e n hb hx=>?_,λb o e n hb hx=>?_,I.base.free,λb o e hx=>?_,I.base.lV,I.base.k_,I.base.lX⟩,⟨_,uR,λk z v' e1 e2 e3=>?_⟩,λz c e=>?_,I.free,I.fN,λp hp=>?_,tracked,by unfold only;simp⟩
 ·exact(hs.2 b (aal (aaj (aaf e) I.ok.above))).trans (I.base.keep b o e n hb hx)
 ·obtain⟨sl,e1⟩:=I.base.slot b o e n hb hx;exact⟨sl,(hs.2 b (aal (aaj (aaf e) I.ok.above))).trans e1⟩
 ·obtain⟨o',e1⟩:=I.base.there b o e hx;exact⟨o',(hs.2 b (aal (aaj (aaf e) I.ok.above))).trans e1⟩
 ·obtain⟨rfl,rfl⟩:=Bq e2;rw[hj]at e1;cases e1;obtain⟨u',r',q⟩:=ZK k y _ hj hv e3;refine⟨u',r',?_⟩;rcases q with ⟨kk,e⟩|⟨kk,c,e,z⟩
  ·exact .inl ⟨kk,by show(if y=n then u else m y)=_;rw[if_neg Uz];exact e⟩
  ·exact .inr ⟨kk,c,e,z.sameBut hs (I.Gg y c e)⟩
 ·obtain⟨w',z'⟩:=I.cell z c e;exact⟨w',z'.sameBut hs (I.Gg z c e)⟩
 ·obtain⟨e,n,ne,nf,d⟩:=I.pin p hp;exact⟨(hs.2 p.1 ne).trans e,n,ne,nf,d⟩
end
noncomputable abbrev Cx.lW(X:Cx)(pins:ak)(E:aA):Cx:={ X with xe:=E,pn:=X.pn++pins }
section
variable {X:Cx}{C:Addr}{x n y:Str}{i j:Nat}{E1:XK}
theorem Fy{pins:ak}{s:Shared}(I:Inv X pins σ H s)(E:aA):Inv (Cx.lW X pins E) [] σ H s :=
 ⟨⟨I.ok.mod,I.ok.kind,I.ok.glob,I.ok.blt,I.ok.above,I.ok.inj,I.ok.has,I.ok.Hu,I.ok.hd,I.ok.frames,I.ok.Ik,I.ok.Qi,I.ok.bs,I.ok.De,I.ok.tU,I.ok.v_,I.ok.jK,I.ok.z8⟩,I.os,I.bare,I.base,I.loc,I.cell,I.free,I.fN,λp hp=>I.pin p (by simpa using hp),I.cC,I.len⟩
theorem gD{pins q:ak}{s:Shared}(I:Inv (Cx.lW X pins E) q σ H s):Inv X pins σ H s :=
 ⟨⟨I.ok.mod,I.ok.kind,I.ok.glob,I.ok.blt,I.ok.above,I.ok.inj,I.ok.has,I.ok.Hu,I.ok.hd,I.ok.frames,I.ok.Ik,I.ok.Qi,I.ok.bs,I.ok.De,I.ok.tU,I.ok.v_,I.ok.jK,I.ok.z8⟩,I.os,I.bare,I.base,I.loc,I.cell,I.free,I.fN,λp hp=>I.pin p (aat _ hp),I.cC,I.len⟩
theorem tracked{l:List Env}(un:Un (la l) [] H H' h h')(cC:jm P w H' h')(n1:H' ea=none)(n2:h.get? ea=none)(at_:DS ea C h'):
  Un (la l) [] H (upd H' ea (.ext (DS ea C))) h h'/\jm P w (upd H' ea (.ext (DS ea C))) h':=by
 have ne:∀b u,H' b=some u->b≠ea:=λb u q=>cj q n1;refine⟨⟨un.keep,un.slot,λb o e n hx=>?_,un.there,λb xs q=>?_,λb o u q=>?_,λb ps q=>?_⟩,λb u q=>?_⟩
 ·have:b≠ea:=by rintro rfl;rw[n2]at e;cases e
  rw[ba this];exact un.free b o e n hx
 ·have:=un.lV b xs q;rw[ba (ne _ _ this)];exact this
 ·have:=un.k_ b o u q;rw[ba (ne _ _ this)];exact this
 ·obtain⟨m,this⟩:=un.lX b ps q;exact⟨m,by rw[ba (ne _ _ this)];exact this⟩
 ·by_cases hb:b=ea
  ·subst hb;rw[aZ]at q;cases q;obtain⟨o,e1,e2⟩:=at_;exact⟨⟨o,e1,e2⟩,⟨o,e1⟩,λh1 h2 ⟨o,e1,e2⟩ k=>⟨o,k o e1,e2⟩⟩
  ·rw[ba hb]at q;exact(cC b u q).iM (λ_ _ _ q=>q) (λc r=>by rw[ba (ne _ _ r)];exact r) λc xs r=>by rw[ba (ne _ _ r)];exact r
end
variable {ps:aj}{qual:Str}{st:Stmt}
theorem V0{CX:yB}{x:Str}{f:Addr}{fd:FuncData}{N:aj}{k:Nat}{sp:Sp}(F:DD K x qual st f fd)(S:gf N ps (aQ st))(len:∀vs H Q E,sp vs H Q E->vs.length=ps.length)
  (ud:∀(fX:Value) (A:aG) (outer:List Env) (s:Shared) (H:Hp) (vs:af) (Q:VK) (E:XK),fY k (A.deeper (envOfC qual (aQ st) s.heap.objs.size f fX))->sp vs H Q E ->
   ∃t,ig (iY CX P w K mg base N qual (aQ st) f fX A outer s H E) (bG st) t/\t { nx:=λ_ H'=>Q .bu H',rt:=Q } (L2.start N vs) H):gQ P w K mg base CX (k+1) f fd ps sp:=by
 obtain⟨oc,od,kV,doc,pm,an,fX,ct,Bl,rfl,lk,vW⟩:=F.ex;exact Hk lk vW S len λA outer s H vs Q E hr uP=>ud fX A outer s H vs Q E hr uP
def Ta(K:ao)(C:Addr)(n:Nat)(mr:aa->Prop):Sp:=λvs H _ E=>∃(F:ah) (ds:aa),vs.length=n/\aC (aW K H) (nd K F (λ_=>False) (λ_=>none) H) [] 0 vs ds/\mr ds/\∀H',aK H H'->E (.ref C) none H'
variable {F:Addr->Prop}
theorem tj{N:aj}{vs:af}{ds:aa}(h0:X.H₀=H)(hl:ds.length<=N.length)(rs:aC (aW X.K H) (nd X.K F (λ_=>False) (λ_=>none) H) [] 0 vs ds):
  SI X F (λp=>F p/\H p≠none) (λ_=>none) (ds.map some++List.replicate (N.length - ds.length) none) (L2.start N vs) H:=by
 have FA:vs.length=ds.length:=rs.length;refine⟨?_,λi d hi=>?_,λ_ _=>rfl,λp h=>h.2,λp h=>.inl h.1,λ_ _ h=>by simp at h,λ_ _ h=>by simp at h,h0▸aK.refl H⟩
 ·unfold L2.start;simp[FA]
 ·have Pe:i<ds.length:=by
   by_cases iL:i<ds.length
   ·exact iL
   ·rw[List.getElem?_append_right (by simpa using iL),List.getElem?_replicate]at hi;split at hi<;>simp at hi
  rw[List.getElem?_append_left (by simpa using Pe),List.getElem?_map]at hi;have hd:ds[i]?=some d:=by
   cases q:ds[i]? with
   |none=>rw[q]at hi;exact nk hi
   |some z=>rw[q]at hi;simp at hi;rw[hi]
  obtain⟨v,hv,rv⟩:=rs.get hd;refine⟨v,?_,rv.imp (q:=[0+i]) (q':=[i]) (λ_ _ h=>h) λc p xs f h=>?_⟩
  ·unfold L2.start;rw[List.getElem?_append_left (by rw[List.length_map,FA];exact Pe),List.getElem?_map,hv];rfl
  ·cases f with
   |ow=>exact nomatch h.2
   |fz=>exact⟨h.1,h.2,h.1.ne⟩
   |al=>exact h.2.elim
   |sc=>exact h
noncomputable def nh(X:Cx)(F:ah)(bad:a_->Prop):TS:=λ_ σ H=>∃R τ ρ,SI X F R τ ρ σ H/\bad ρ
theorem PS.xw{X:Cx}{st:Stmt}{t:TS}(h:PS X.xw st t):PS X st t:=λpins s σ H D I hw =>
 aau (h pins s σ H D (I.m7 _) hw) (λ_ _ q=>q.gX) λ_ _ q=>q.elim
theorem SI.xw{X:Cx}{F R:ah}{τ:Addr->Option bo}{ρ:a_}{σ:St}{H:Hp}(S:SI X F R τ ρ σ H):SI X.xw F R τ ρ σ H:=⟨S.len,S.rep,S.rt,S.rh,S.rf,S.th,S.t0,S.same⟩
variable {ρ:a_}
theorem SI.MO{R:Addr->Prop}{τ:Addr->Option bo}(S:SI X.xw F R τ ρ σ H):SI X F R τ ρ σ H:=⟨S.len,S.rep,S.rt,S.rh,S.rf,S.th,S.t0,S.same⟩
noncomputable def yL(X:Cx)(F:ah)(bad:a_->Prop):TE:=λσ H _=>∃R τ ρ,SI X F R τ ρ σ H/\bad ρ
section
variable {X:Cx}{S:Sx}{k:Nat}{Φ:bh}{F:ah}{bad:a_->Prop}{C:Addr}
theorem FW{f':Addr}{XE:FuncData}{Ri:aj}{WU:aa->Prop}{ce:az}{g:Str}{e:Expr}{es:av}(L:Lk X S k Φ)(hx:Passes (sI X.prog X.w C) X (λc _ H'=>c=.ref C/\aK X.H₀ H'))
  (F':gQ X.prog X.w X.K X.mg X.base (sI X.prog X.w C) k f' XE Ri (Ta X.K C Ri.length WU)) (h2:iI S.sc g=true) (hg:X.mg g=some (.ref f')) (hk:PySem.W.keepIn X.K (.ref f')=true) (hb:Binds X.K XE Ri []) (hd:(g==("__debug__" : Str))=false)
  (h3:bM S ce (e::es)=true) (mF:∀r,starEach (e::r) X.env=(false,eval e X.env)::starEach r X.env) (hpl:(backTo cpos (starEach es X.env)).any (·.1)=false) :
  PE X (.Call (.Name g np) (e::es) [] cpos) (yL X F λρ=>∃ds',bK Φ ce ρ=ok ds'/\WU (au aL ds')/\ds'.length=Ri.length):=by
 refine PE.imp (xn (X:=X) (p:=np) (pos:=cpos) F' L.room (L.gl h2) hg hk hb .nil hx (j_ (F:=F) L ce (e::es) h3) hd (mF _) hpl) λσ H Q hq=>?_;obtain⟨R,τ,ρ,Si,ds',Vc,U1,Vd⟩:=hq;refine⟨R,τ,ρ,ds',Si,Vc,λvs' H2 e2 rv=>?_⟩;obtain⟨τt,ft,WE⟩:=rv;rw[List.append_nil];refine⟨λ_=>True,au aL ds',by rw[WE.length,Vd],aC.g_ (λ_ _ h=>h) (λk k' p xs f h=>?_) WE _ _,U1,λH' e'=>⟨rfl,(Si.same.trans e2).trans e'⟩⟩;cases f with
 |ow=>exact⟨h.1,trivial⟩
 |fz=>exact⟨h.1,trivial⟩
 |al=>exact⟨h.1,trivial⟩
 |sc=>exact h
theorem Lg{e:Expr}(h:PE X e (yL X F bad)):PS X (.Return (some e) pos) (nh X F bad):=PS.imp (qU h) λ_ _ _ q=>q
theorem Hm{e:Expr}(h:PE X e (yL X F bad))(hs:swapsWith e none pos.line X.env=pure false):PS X (.Expr e pos) (nh X F bad):=PS.imp (qV h hs) λ_ _ _ q=>q
theorem Lf{i:Nat}{x:Str}{e:Expr}{p:Pos}(hN:X.N.Nodup)(hi:X.N[i]?=some x)(hx:L2.Loc X.env.scope x)(hf:X.fn x=true)(h:PE X e (yL X F bad))(hs:swapsWith e (some (.Name x p)) pos.line X.env=pure false):PS X (.Assign [.Name x p] e pos) (nh X F bad) :=
 PS.imp (vq hN hi hx h hs (.inl hf)) λ_ _ _ q=>q
end
def SJ(C:Addr)(i:Nat)(b:Bool):TE:=λσ H Q=>∃ea,σ[i]?=some (some (.ref ea))/\H ea=some (.ext (DS ea C))/\Q (.bl b) H
section
variable {X:Cx}{C:Addr}{i:Nat}
theorem J1{cv:V}{cu:Value}{b:Bool}(Z:XC X.K C)(hr:∀u,RelV cv u->u=cu)(hk:PySem.W.kitOne X.K (.ref C) cu=some b):
  e_ X (.builtin "isinstance") (λxs H Q=>∃ea,xs=[.ref ea,cv]/\H ea=some (.ext (DS ea C))/\Q (.bl b) H):=by
 intro pins s σ H xs us Q I r h;obtain⟨ea,rfl,hH,q⟩:=h;obtain⟨u,w',rfl,ru,lE⟩:=vals2 r;cases ru;cases hr w' lE;obtain⟨⟨o,e1,e2⟩,_⟩:=(show cK X.prog X.w H s.heap ea (.ext (DS ea C)) from I.cC ea _ hH)
 exact aaR (BP PySem.F.attr_ValueError Z) I.xH ⟨o,e1,e2⟩ hk (λz=>nomatch z) λtk=>⟨.bl b,H,I.tok tk,rfl,q⟩
structure QS(X:Cx)(C:Addr)(cl:Str->Option Bool):Prop where
 xc:XC X.K C
 Zi:Gl X "isinstance"
 Zh:X.mg "isinstance" = none
 ex:∀x b,cl x=some b->∀p,∃cv cu,PE X (.Name x p) (tC cv)/\(∀u,RelV cv u->u=cu)/\PySem.W.kitOne X.K (.ref C) cu=some b
def pI(err:Str)(cl:Str->Option Bool)(e:Expr):Option Bool:=(eR e).bind λz=>(two z.2).bind λw=>(HQ w.1).bind λy=>(HQ w.2).bind λx=>if z.1 = "isinstance" /\ y=err then cl x else none
theorem vz{err:Str}{cl:Str->Option Bool}(Z:QS X C cl)(he:∀p,PE X (.Name err p) (vg i)){e:Expr}{b:Bool}(h:pI err cl e=some b):PE X e (SJ C i b)/\(∀es,starEach (e::es) X.env=(false,eval e X.env)::starEach es X.env)/\∀whole,isTrue e X.env whole=(do let v <- whole;standAt e.pos;holding [v] (truthy v)):=by
 obtain⟨⟨f,as⟩,hv,g1⟩:=Option.bind_eq_some_iff.mp h;obtain⟨p0,pos,rfl⟩:=b6 hv;obtain⟨⟨ey,ex⟩,hw,g2⟩:=Option.bind_eq_some_iff.mp g1;obtain rfl:as=[ey,ex]:=fD hw;obtain⟨y,hy,g3⟩:=Option.bind_eq_some_iff.mp g2;obtain⟨p1,rfl⟩:=jH hy;obtain⟨x,hx,g4⟩:=Option.bind_eq_some_iff.mp g3;obtain⟨p2,rfl⟩:=jH hx;by_cases hh:f = "isinstance" /\ y=err
 ·rw[if_pos hh]at g4;obtain⟨rfl,rfl⟩:=hh;refine⟨?_,λ_=>rfl,λ_=>rfl⟩;obtain⟨cv,cu,h1,h2,h3⟩:=Z.ex x b g4 p2;refine PE.imp (dG (J1 Z.xc h2 h3) Z.Zi Z.Zh PyProof.Rows.boot_isinstance (cV (he p1) (cV h1 fI))) λσ H Q hq=>?_;obtain⟨ea,e1,e2,q⟩:=hq;exact⟨_,e1,ea,rfl,e2,q⟩
 ·rw[if_neg hh]at g4;cases g4
end
structure Nr where
 ps:aj
 err:Str
 ex:Str
 cls:Str
 f:Str
 al:Str
noncomputable def Nr.N(n:Nr):aj:=n.ps++[n.err,n.ex]
noncomputable def CV(x:Str):Bool:=!(x==("__debug__" : Str))&&!(x==("__classdict__" : Str))
theorem SI.lW{X:Cx}{F R:ah}{τ:Addr->Option bo}{ρ:a_}{σ:St}{H:Hp}{pn:ak}{E:aA}(S:SI X F R τ ρ σ H):SI (Cx.lW X pn E) F R τ ρ σ H:=⟨S.len,S.rep,S.rt,S.rh,S.rf,S.th,S.t0,S.same⟩
theorem Ba{S:Sx}{env:Env}{pos:Pos}:∀{es:av} {cs:az},bM S cs es=true->(backTo pos (starEach es env)).any (·.1)=false
 |[],_,_=>rfl
 |e::es,[],h=>by exact(aac h).elim
 |e::es,c::cs,h=>by
  replace h:=aD h;rw[bz h.1 es env];show(false||(backTo pos (starEach es env)).any (·.1))=false;rw[Ba h.2];rfl
noncomputable def WN:CI->Bool
 |.seq _=>true
 |_=>false
mutual
inductive sM(Φ:bh)(Ψ:Nat->aa->Prop)(n:Nat):CS->a_->Prop
 |ex {g:Nat} {es:az} {ρ:a_} {xs:aa} (h1:bK Φ es ρ=ok xs) (h2:Ψ g (au aL xs)):sM Φ Ψ n (.ex (.call g es)) ρ
 |asg {i g:Nat} {es:az} {ρ:a_} {xs:aa} (h1:bK Φ es ρ=ok xs) (h2:Ψ g (au aL xs)):sM Φ Ψ n (.asg (.nm i) (.call g es)) ρ
 |ret {g:Nat} {es:az} {ρ:a_} {xs:aa} (h1:bK Φ es ρ=ok xs) (h2:Ψ g (au aL xs)):sM Φ Ψ n (.ret (.call g es)) ρ
 |rs {ρ:a_}:sM Φ Ψ n (.rs n) ρ
 |Ut {c:CE} {a b:aq} {ρ:a_} (h1:wa Φ c ρ=ok true) (h2:Er Φ Ψ n a ρ):sM Φ Ψ n (.ifs c a b) ρ
 |iff {c:CE} {a b:aq} {ρ:a_} (h1:wa Φ c ρ=ok false) (h2:Er Φ Ψ n b ρ):sM Φ Ψ n (.ifs c a b) ρ
inductive Er(Φ:bh)(Ψ:Nat->aa->Prop)(n:Nat):aq->a_->Prop
 |hd {c:CS} {cs:aq} {ρ:a_} (h:sM Φ Ψ n c ρ):Er Φ Ψ n (c::cs) ρ
 |tl {c:CS} {cs:aq} {ρ ρ':a_} (h1:hZ Φ c ρ=ok (.nx,ρ')) (h2:Er Φ Ψ n cs ρ'):Er Φ Ψ n (c::cs) ρ
end
noncomputable def Wu:Stmt->Option Expr
 |.Raise e c _=>match c with
  |none=>e
  |some _=>none
 |_=>none
theorem HN{s:Stmt}{e:Expr}(h:Wu s=some e):∃p,s=.Raise (some e) none p:=by
 cases s<;>first|exact nk h | (cases h;done)|skip
 rename_i a c p;cases c with
 |some _=>cases h
 |none=>cases h;exact⟨p,rfl⟩
noncomputable def OE:Expr->Bool
 |.Constant c _ _=>match c with|.str _=>true|_=>false
 |_=>false
theorem Fw{e:Expr}(h:OE e=true):∃m j p,e=.Constant (.str m) j p:=by
 cases e<;>first|exact(aac h).elim|skip
 rename_i c _ _;cases c<;>first|exact(aac h).elim|exact⟨_,_,_,rfl⟩
def WD(y:Str)(st:Stmt):Bool:=br (Wu st) λe=>br (eR e) λz=>(z.1==y)&&br (one z.2) OE
mutual
noncomputable def xk(gl:Bool)(n:Nat)(y:Str):CS->Stmt->Bool
 |.rs m,st=>!(m==n)||(gl&&WD y st)
 |.ifs _ a b,st=>br (HR st) λz=>zY gl n y a z.2.1&&zY gl n y b z.2.2
 |.fr _ _ b,st=>br (HS st) λz=>zY gl n y b z.2.2.1
 |_,_=>true
noncomputable def zY(gl:Bool)(n:Nat)(y:Str):aq->aS->Bool
 |c::cs,st::o5=>xk gl n y c st&&zY gl n y cs o5
 |_,_=>true
end
structure jt(P:aE)(w:World)(K:ao)(mg:aV)(base:Heap)(k:Nat)(C:Addr)(y:Str)(mr:aa->Prop):Prop where
 ex:∃(f:Addr) (fd:FuncData) (ps:aj),gQ P w K mg base (sI P w C) k f fd ps (Ta K C ps.length mr)/\mg y=some (.ref f)/\PySem.W.keepIn K (.ref f)=true/\Binds K fd ps []/\∀ds,mr ds->ds.length=ps.length
structure LM(X:Cx)(S:Sx)(k:Nat)(Φ:bh)(Ψ:Nat->aa->Prop)(C:Addr)(y:Str)(gl:Bool):Prop where
 ls:lr X S k Φ
 hR:∀pins σ H1 s1 h' ea vs,Inv X pins σ H1 s1->aK X.H₀ H1->Heap.MadeExcOf s1.heap h' ea (.ref C) vs->X.xe (.ref ea) { s1 with heap:=h' }
 hx:Passes (sI X.prog X.w C) X (λc _ H'=>c=.ref C/\aK X.H₀ H')
 fe:∀g x,S.fn g=some x->(∃ds,Ψ g ds)->jt X.prog X.w X.K X.mg X.base k C x (Ψ g)
 gy:gl=true->Gl X y/\(y==("__debug__" : Str))=false
 own:pP y C X.mg X.base
variable {es:az}{g:Nat}{xs:aa}
section
variable {X:Cx}{S:Sx}{k n:Nat}{Φ:bh}{Ψ:Nat->aa->Prop}{F:ah}{C:Addr}{y:Str}{gl:Bool}
theorem uk(L:Lk X S k Φ)(hx:Passes (sI X.prog X.w C) X (λc _ H'=>c=.ref C/\aK X.H₀ H'))(fe:∀g x,S.fn g=some x->(∃ds,Ψ g ds)->jt X.prog X.w X.K X.mg X.base k C x (Ψ g)){e:Expr}(h:bV S (.call g es) e=true):PE X e (yL X F λρ=>∃xs,bK Φ es ρ=ok xs/\Ψ g (au aL xs)):=by
 obtain⟨⟨x,as⟩,hv,q1⟩:=bj h;obtain⟨p,pos,rfl⟩:=b6 hv;obtain⟨q2,q3⟩:=aD q1;obtain⟨q4,h3⟩:=aD q2;obtain⟨h1,h2⟩:=aD q4;obtain⟨⟨a,QK⟩,hu,h4⟩:=bj q3;obtain rfl:as=a::QK:=uY hu;by_cases sJ:∃ds,Ψ g ds
 case neg=>exact λ_ _ _ _ _ _ ⟨_,_,_,_,xs,_,e2⟩=>absurd ⟨_,e2⟩ sJ
 obtain⟨f,fd,ps,Fo,hm,hk,hb,hl⟩:=(fe g x (aab h1) sJ).ex;unfold ma at h3;simp only[Bool.and_eq_true,Bool.not_eq_true']at h3;have mF:∀r,starEach (a::r) X.env=(false,eval a X.env)::starEach r X.env:=λr=>by
  cases es with
  |nil=>exact(aac h4).elim
  |cons c cs=>exact bz (aD h4).1 r _
 have hpl:(backTo pos (starEach QK X.env)).any (·.1)=false:=by
  cases es with
  |nil=>exact(aac h4).elim
  |cons c cs=>exact Ba (aD h4).2
 refine PE.imp (FW (F:=F) (C:=C) (np:=p) (cpos:=pos) L hx Fo h2 hm hk hb h3.1.1 h4 mF hpl) λσ H Q hq=>?_;obtain⟨R,τ,ρ,Si,xs,e1,e2⟩:=hq;exact⟨R,τ,ρ,Si,xs,e1,e2,by have:=hl _ e2;rw[aM,List.length_map]at this;exact this⟩
theorem rT(L:LM X S k Φ Ψ C y gl){e:Expr}(h:bV S (.call g es) e=true):PE X e (yL X F λρ=>∃xs,bK Φ es ρ=ok xs/\Ψ g (au aL xs)):=uk L.ls.toLk L.hx L.fe h
theorem h_{c:CS}(h:∀ρ,sM Φ Ψ n c ρ->False):PS X st (nh X F (sM Φ Ψ n c)):=λ_ _ _ _ _ _ hq=>by
 obtain⟨_,_,ρ,_,hb⟩:=hq;exact(h ρ hb).elim
theorem CA{c:CS}(h:∀ρ,sM Φ Ψ n c ρ->PS X st (λ_ σ H=>∃R τ,SI X F R τ ρ σ H)):PS X st (nh X F (sM Φ Ψ n c)):=λpins s σ H D I hq=>by
 obtain⟨R,τ,ρ,Si,hb⟩:=hq;exact h ρ hb pins s σ H D I ⟨R,τ,Si⟩
theorem Lh(L:LM X S k Φ Ψ C y gl)(h:pJ S (.ex (.call g es)) st=true)(a:bK Φ es ρ=ok xs)(b:Ψ g (au aL xs)):PS X st (λ_ σ H=>∃R τ,SI X F R τ ρ σ H):=by
 obtain⟨v,v1,q1⟩:=bj h;obtain⟨pos,rfl⟩:=m_ v1;obtain⟨h1,h2⟩:=aD q1;exact PS.imp (Hm (rT (F:=F) L h1) (fR h1 (fm h2) _ _ _)) λD σ H hq=>by obtain⟨R,τ,Si⟩:=hq;exact⟨R,τ,ρ,Si,_,a,b⟩
theorem FV(L:LM X S k Φ Ψ C y gl)(h:pJ S (.ret (.call g es)) st=true)(a:bK Φ es ρ=ok xs)(b:Ψ g (au aL xs)):PS X st (λ_ σ H=>∃R τ,SI X F R τ ρ σ H):=by
 obtain⟨z,v1,q1⟩:=bj h;obtain⟨pos,rfl⟩:=wL v1;obtain⟨v,v2,q2⟩:=bj q1;obtain rfl:z=some v:=v2;exact PS.imp (Lg (rT (F:=F) L q2)) λD σ H hq=>by obtain⟨R,τ,Si⟩:=hq;exact⟨R,τ,ρ,Si,_,a,b⟩
theorem FX(L:LM X S k Φ Ψ C y gl){i:Nat}(h:pJ S (.asg (.nm i) (.call g es)) st=true)(a:bK Φ es ρ=ok xs)(b:Ψ g (au aL xs)):PS X st (λ_ σ H=>∃R τ,SI X F R τ ρ σ H):=by
 obtain⟨⟨sV,v⟩,v1,q1⟩:=bj h;obtain⟨pos,rfl⟩:=gW v1;obtain⟨tg,v2,q2⟩:=bj q1;obtain rfl:sV=[tg]:=bI v2;obtain⟨q3,h4⟩:=aD q2;obtain⟨q4,h3⟩:=aD q3;obtain⟨h1,h2⟩:=aD q4;obtain⟨x,p,rfl⟩:∃x p,tg=.Name x p:=mS h2;have RP:=aD (show _=true from h2);have hc:fL v=false:=by
  obtain⟨⟨x,as⟩,hv,_⟩:=bj h1;obtain⟨p,pos,rfl⟩:=b6 hv;rfl
 exact PS.imp (Lf L.ls.nd (by rw[L.ls.N];exact aab RP.1) (L.ls.loc RP.2) (L.ls.uS _) (rT (F:=F) L h1) (fR h1 hc _ _ _)) λD σ H hq=>by obtain⟨R,τ,Si⟩:=hq;exact⟨R,τ,ρ,Si,_,a,b⟩
mutual
theorem erS(L:LM X S k Φ Ψ C y gl):∀(c:CS) (st:Stmt),pJ S c st=true->xk gl n y c st=true->PS X st (nh X F (sM Φ Ψ n c))
 |.ex e,st,h,_=>CA λρ hb=>by cases hb with|ex a b=>exact Lh L h a b
 |.ret e,st,h,_=>CA λρ hb=>by cases hb with|ret a b=>exact FV L h a b
 |.asg t e,st,h,_=>CA λρ hb=>by cases hb with|asg a b=>exact FX L h a b
 |.rs m,st,h,hk=>by
  by_cases hm:m=n
  ·subst hm;have hk:(!(m==m)||(gl&&WD y st))=true:=hk;rw[beq_self_eq_true,Bool.not_true,Bool.false_or]at hk;obtain⟨hg,hk⟩:=aD hk;obtain⟨gy,dy⟩:=L.gy hg;obtain⟨e,v1,q1⟩:=bj hk;obtain⟨pos,rfl⟩:=HN v1;obtain⟨⟨x,as⟩,v2,q2⟩:=bj q1;obtain⟨p,pos',rfl⟩:=b6 v2;obtain⟨q3,q4⟩:=aD q2;obtain⟨c,v3,q5⟩:=bj q4;obtain rfl:as=[c]:=bI v3;obtain⟨m',j,p',rfl⟩:=Fw q5;obtain rfl:x=y:=eq_of_beq q3;exact PS.imp (A7 L.ls.calm L.own gy dy) λD σ H hq=>by
    obtain⟨R,τ,ρ,Si,hb⟩:=hq;exact λpins s h' ea us I B8=>L.hR pins _ H s h' ea us I Si.same B8
  ·exact h_ λ_ hb=>by cases hb;exact absurd rfl hm
 |.ifs c a b,st,h,hk=>by
  obtain⟨⟨t,x,z⟩,v1,q1⟩:=bj h;obtain⟨pos,rfl⟩:=qJ v1;obtain⟨q2,h3⟩:=aD q1;obtain⟨h1,h2⟩:=aD q2;obtain⟨k1,k2⟩:=aD (show(zY gl n y a x&&zY gl n y b z)=true from hk);refine PS.imp (w9 (pos:=pos) (gh (F:=F) L.ls.toLk c t h1).2 (FY L a x h2 k1) (FY L b z h3 k2)) λD σ H hq=>?_;obtain⟨R,τ,ρ,Si,hb⟩:=hq;cases hb with
  |Ut e1 e2=>exact⟨R,τ,ρ,true,Si,e1,λH2 es=>JU ⟨R,τ,ρ,Si.go es,e2⟩⟩
  |iff e1 e2=>exact⟨R,τ,ρ,false,Si,e1,λH2 es=>JV ⟨R,τ,ρ,Si.go es,e2⟩⟩
 |.par _ _ _ _,st,h,_=>h_ λ_ hb=>by cases hb
 |.mut _ _ _,st,h,_=>h_ λ_ hb=>by cases hb
 |.unp _ _,st,h,_=>h_ λ_ hb=>by cases hb
 |.lsn _ _,st,h,_=>h_ λ_ hb=>by cases hb
 |.app _ _,st,h,_=>h_ λ_ hb=>by cases hb
 |.setI _ _ _,st,h,_=>h_ λ_ hb=>by cases hb
 |.GF _ _,st,h,_=>h_ λ_ hb=>by cases hb
 |.fr _ _ _,st,h,_=>h_ λ_ hb=>by cases hb
theorem FY(L:LM X S k Φ Ψ C y gl):∀(cs:aq) (o5:aS),iE S cs o5=true->zY gl n y cs o5=true->ig X o5 (nh X F (Er Φ Ψ n cs))
 |[],_,_,_=>λ_ _ _ _ _ _ bF=>by obtain⟨_,_,_,_,hb⟩:=bF;cases hb
 |_::_,[],h,_=>by exact(aac h).elim
 |c::cs,st::o5,h,hk=>by
  replace h:=aD h;obtain⟨k1,k2⟩:=aD (show(xk gl n y c st&&zY gl n y cs o5)=true from hk);have hN:ig X o5 Ib:=λ_ _ _ _ _ _ z=>z.elim;have h1:PS X st (o4 X F Φ c):=vj (F:=F) L.ls c st h.1;have A:ig X (st::o5) _:=gx (erS L c st h.1 k1) hN;have B:ig X (st::o5) _:=gx h1 (FY L cs o5 h.2 k2);intro pins s σ H D I hq;obtain⟨R,τ,ρ,Si,hb⟩:=hq;cases hb with
  |hd e=>exact A pins s σ H D I ⟨R,τ,ρ,Si,e⟩
  |tl e1 e2=>exact B pins s σ H D I ⟨R,τ,ρ,(.nx,_),Si,e1,λσ' H' R' τ' fb kp=>⟨R',τ',_,fb,e2⟩⟩
end
end
theorem Lb{x:Str}{f:Addr}{fd:FuncData}{k n:Nat}{N bl:aj}{cs:List (Str×GK)}{px:Px}{uS:Nat->Option Str}{Φ:bh}{Ψ:Nat->aa->Prop}{mr:aa->Prop}{b:aq}{y:Str}
  (Fu:DD K x qual st f fd) (Sc:gf N ps (aQ st)) (Cc:iE ⟨aQ st,N,uS,bl,cs,px⟩ b (bG st)=true) (UB:zY (iI (aQ st) y&&!(y==("__debug__" : Str))) n y b (bG st)=true) (B7:pO px Φ) (J9:DT px Φ)
  (ue:∀y∈bl,mg y=none) (lN:∀y i,(y,i)∈cs->∃u,mg y=some u/\yA K i u) (xQ:∀g y,uS g=some y->Ent P w K mg base k y (Φ g)) (Kg:∀g y,uS g=some y->(∃ds,Ψ g ds)->jt P w K mg base k C y (Ψ g))
  (O:pP y C mg base) (hm:∀ds,mr ds->ds.length=ps.length/\Er Φ Ψ n b (ds.map some++List.replicate (N.length - ds.length) none)):gQ P w K mg base (sI P w C) (k+1) f fd ps (Ta K C ps.length mr):=by
 refine V0 (N:=N) Fu Sc (λvs H Q E ⟨_,_,h,_⟩=>h) λfX A outer s H vs Q E hr uP=>?_;obtain⟨F,ds,hl,rs,ZF,hE⟩:=uP;obtain⟨Xo,Vc⟩:=hm ds ZF
 let X:=iY (sI P w C) P w K mg base N qual (aQ st) f fX A outer s H E
 have Ls:lr X ⟨aQ st,N,uS,bl,cs,px⟩ k Φ:=⟨⟨rfl,rfl,Sc.nd,rfl,hr,ue,λg y h=>⟨(xQ g y h).ex⟩,lN,B7⟩,λ_=>rfl,PassesOwn.leaving,Sc.kind,J9⟩
 have hpl:ps.length<=N.length:=by have:=aaN List.length Sc.pre;rw[List.length_take]at this;left
 have Lx:LM X ⟨aQ st,N,uS,bl,cs,px⟩ k Φ Ψ C y (iI (aQ st) y&&!(y==("__debug__" : Str))):=⟨Ls,λpins σ H1 s1 h' ea vs I es B8=>EE I B8 (hE H1 es),NN λH' h=>hE H' h.2,Kg,λz=>⟨Ls.gl (aD z).1,by simpa using (aD z).2⟩,O⟩
 exact⟨_,FY (F:=F) Lx b _ Cc UB,_,_,_,tj (X:=X) rfl (by left) rs,Vc⟩
end DI
end
section
namespace DI
open PySem (Str)
structure X7(ws:bt)(d5:ae)(hs:bt)(t:Rat)(k b c:Nat):Prop where
 l1:1<=ws.length
 l2:ws.length<=12
 l3:hs.length=ws.length
 lt:o_ ws.length d5
 ps:∀h∈d5,0<Dm ws h
 s1:∀q∈ws,Sm k q
 s2:∀q∈hs,Sm b q
 s3:Sm c t
 c1:(k+2*b+1)*d5.length<=1500
 c2:c+2*((k+2*b+1)*d5.length)+k+b<=3900
 c3:c<=2000
 c4:k+b<=3000
structure Wf(ws:bt)(d5:ae)(hs:bt)(t:Rat)(told:bt):Prop where
 len:told.length=ws.length
 val:∀j:Int,0<=j->j<(ws.length:Int)->Dm told j=if j∈d5 then Dm ws j+TV ws d5 hs t*(Dm ws j*Dm hs j)else Dm ws j
end DI
end
section
set_option maxHeartbeats 1000000
namespace DI
open PySem (Str)
noncomputable def pE(d:D):Bool:=match d with
 |.tup (.int a::_)=>decide (0<a)
 |_=>false
def fV(n:Int)(d:D):Bool:=match d with
 |.tup [c,l]=>bB l n&&(cB c&&pE c)
 |_=>false
def LB(d:D):Prop:=match d with
 |.tup [_,l]=>pK l
 |_=>True
def wG(m:aH):Prop:=∀d (n:Int),LB d->m [d,.int n]=ok (.bl (fV n d))
variable {ds:aa}
theorem j7(h:ds.length=2):∃x y,ds=[x,y]:=by
 match ds,h with
 |[x,y],_=>exact⟨x,y,rfl⟩
theorem AV{n:Int}(h:ds.length≠2):fV n (.tup ds)=false:=by
 unfold fV
 match ds,h with
 |[],_=>rfl
 |[_],_=>rfl
 |[_,_],h=>exact absurd rfl h
 |_::_::_::_,_=>rfl
theorem IH(Φ:bh)(h3:jE (Φ 3))(Vr:ie (Φ 43)):wG (mk Φ 2 2 eX):=by
 intro d n hc;have ty:∀ds,cL .tuple (.tup ds)=true:=λ_=>rfl;cases d with
 |tup ds =>
  by_cases hl:ds.length=2
  ·obtain⟨c,l,rfl⟩:=j7 hl;have e1:=Vr (aw aL (aw aO (aw aO l))) n (gL (gL (gL (show pK l from hc))));rw[d7,d7,d7]at e1;have e2:=h3 (aw aL (aw aO (aw aO c)));rw[jL,jL,jL]at e2;cases hh:bB l n with
   |false=>rw[hh]at e1;simp[mk_eq,eX,ty,e1,fV,hh]
   |true =>
    rw[hh]at e1;cases hf:cB c with
    |false=>rw[hf]at e2;simp[mk_eq,eX,ty,e1,e2,fV,hh,hf]
    |true =>
     obtain⟨q,rfl⟩:=kz hf;rw[hf]at e2;have e4:qD q=.tup [.int q.num,.int q.den]:=rfl;simp at e2;simp[mk_eq,eX,ty,e1,e2,fV,hh,hf];simp[e4,pE]
  ·have jq:¬ (ds.length:Int)=2:=by left
   simp[mk_eq,eX,ty,jq,AV hl,aM]
 |_=>simp[mk_eq,eX,cL,fV]
def bL(d:D):Row:=match d with
 |.tup [.tup [.int a,.int b],.tup ds]=>(Rat.divInt a b,numsOf ds)
 |_=>(0,[])
theorem kb{n:Nat}{d:D}(h:fV n d=true):d=rD (bL d)/\0<(bL d).1/\bB (.tup (ag (bL d).2)) n=true:=by
 unfold fV at h;split at h
 ·rename_i c l;rw[Bool.and_eq_true,Bool.and_eq_true]at h;obtain⟨h1,h2,h3⟩:=h;obtain⟨q,rfl⟩:=kz h2;cases l with
  |tup ds =>
   have Qb:=h1;unfold bB at h1;rw[Bool.and_eq_true]at h1;obtain⟨ns,rfl⟩:=eU h1.1;have e:bL (.tup [qD q,.tup (ag ns)])=(q,ns):=by
    show(Rat.divInt q.num q.den,numsOf (ag ns))=_;rw[gi,dY]
   rw[e];refine⟨rfl,?_,Qb⟩;have:0<q.num:=aab h3;have:=oH (t:=q.num) (b:=q.den) this (by have:=A5 q;left)
   rwa [gi]at this
  |_=>simp[bB]at h1
 ·cases h
theorem qQ{n:Nat}{rows:aa}(h:rows.all (fV n)=true):rows=bg (rows.map bL):=by
 unfold bg;rw[List.map_map]
 conv=>lhs;rw[<- List.map_id rows]
 refine aay λd hd=>?_;exact(kb (List.all_eq_true.mp h d hd)).1
def fH:aF->Bool
 |a::b::l=>HT.lexLt a b&&fH (b::l)
 |_=>true
def yy(m:aH):Prop:=∀rs:aJ,m [.lst .fz (bg rs)]=ok (.bl (fH (rs.map (·.2))))
theorem Qd{Φ:bh}(qo:Φ 1022=Mj)(a b:ae):Φ 1022 [.tup (ag a),.tup (ag b)]=ok (.bl (!HT.lexLt a b)):=by
 rw[qo];show(match intsOf (ag a)with|some ns=>(match intsOf (ag b)with|some ms=>ok (D.bl (!HT.lexLt ns ms))|none=>none)|none=>none)=_;unfold ag;rw[bw,bw]
theorem tE(Φ:bh)(qo:Φ 1022=Mj)(c0:aU):∀(rs:aJ) (r:Row) (c1 c2:aU),
  ∃ρ',fW (λd ρ=>cY (.tp [1,2]) d ρ) (λρ=>bJ Φ yJ ρ) (List.zipWith (λx y=>D.tup [x,y]) (bg (r::rs)) (bg rs)) [c0,c1,c2]=ok (if fH ((r::rs).map (·.2))then .nx else .rt (.bl false),ρ')
 |[],r,c1,c2=>⟨_,rfl⟩
 |s::rs,r,c1,c2=>by
  have e:=Qd qo r.2 s.2;have e1:∀r:Row,rD r=.tup [qD r.1,.tup (ag r.2)]:=λ_=>rfl;have er:fH ((r::s::rs).map (·.2))=(HT.lexLt r.2 s.2&&fH ((s::rs).map (·.2))):=rfl;cases h:HT.lexLt r.2 s.2 with
  |true =>
   obtain⟨ρ',ih⟩:=tE Φ qo c0 rs s (some (rD r)) (some (rD s));refine⟨ρ',?_⟩;rw[er,h,Bool.true_and,<- ih];rw[h]at e;exact jM (ρ1:=[c0,some (rD r),some (rD s)]) (by simp) (ρ2:=[c0,some (rD r),some (rD s)]) (by simp[yJ,e1,e]) rfl
  |false =>
   refine⟨[c0,some (rD r),some (rD s)],?_⟩;rw[er,h,Bool.false_and];rw[h]at e;exact rS (ρ1:=[c0,some (rD r),some (rD s)]) (by simp) (by simp[yJ,e1,e])
theorem Eu(Φ:bh)(Qa:Φ 1000=D0)(ko:Φ 1020=cutD true)(qo:Φ 1022=Mj):yy (mk Φ 1 3 eW):=by
 intro rs;have e1:Φ 1020 [.lst .fz (bg rs),.int 1]=ok (.lst .ow (bg (rs.drop 1))):=by
  rw[ko];show(if (0:Int)<=1 then ok (D.lst .ow (au aO (ml true (1:Int).toNat (bg rs))))else none)=_;rw[if_pos (by decide)];show ok (D.lst .ow (au aO ((bg rs).drop 1)))=_;rw[show(bg rs).drop 1=bg (rs.drop 1) by simp[bg,List.map_drop]];simp
 have e2:Φ 1000 [.lst .fz (bg rs),.lst .ow (bg (rs.drop 1))]=ok (.lst .ow (List.zipWith (λx y=>D.tup [x,y]) (bg rs) (bg (rs.drop 1)))):=by rw[Qa];rfl
 have e3:au aL (List.zipWith (λx y=>D.tup [x,y]) (bg rs) (bg (rs.drop 1)))=List.zipWith (λx y=>D.tup [x,y]) (bg rs) (bg (rs.drop 1)):=by
  have:=f_ aL (bg rs) (bg (rs.drop 1));rw[bC,bC]at this;exact this
 have hit:fg Φ (.Je 1000 [(.v 0),(.bU 1020 [(.v 0),(.int 1)])]) [some (.lst .fz (bg rs)),none,none]=ok (List.zipWith (λx y=>D.tup [x,y]) (bg rs) (bg (rs.drop 1)),[some (.lst .fz (bg rs)),none,none]):=by
  show bd (bK Φ [(.v 0),(.bU 1020 [(.v 0),(.int 1)])] [some (.lst .fz (bg rs)),none,none]) _=_;have:bK Φ [(.v 0),(.bU 1020 [(.v 0),(.int 1)])] [some (.lst .fz (bg rs)),none,none]=ok [.lst .fz (bg rs),.lst .ow (bg (rs.drop 1))]:=by simp[e1]
  rw[this,d9,e2,d9];show ok (au aL (List.zipWith (λx y=>D.tup [x,y]) (bg rs) (bg (rs.drop 1))),if aP bN [D.lst .fz (bg rs),.lst .ow (bg (rs.drop 1))]then _ else _)=_;rw[e3];simp
 obtain⟨ρ',e⟩:∃ρ',fW (λd ρ=>cY (.tp [1,2]) d ρ) (λρ=>bJ Φ yJ ρ) (List.zipWith (λx y=>D.tup [x,y]) (bg rs) (bg (rs.drop 1))) [some (.lst .fz (bg rs)),none,none]=ok (if fH (rs.map (·.2))then .nx else .rt (.bl false),ρ'):=by
  cases rs with
  |nil=>exact⟨_,rfl⟩
  |cons r rs=>exact tE Φ qo _ rs r none none
 have hf:=lA (Φ:=Φ) (t:=.tp [1,2]) (b:=yJ) hit e;cases h:fH (rs.map (·.2))with
 |true=>rw[h]at hf;simp at hf;simp[mk_eq,eW,hf]
 |false=>rw[h]at hf;simp at hf;simp[mk_eq,eW,hf]
def Dv(m:aH):Prop:=∀(rs:aJ) k,z_ k (eA rs)->m [.lst .fz (bg rs)]=ok (.bl (decide ((eA rs).sum=1)))
theorem Aq{b:Nat}{qs:bt}(hb:0<b)(h:∀q∈qs,q.den∣b):(qs.map (dS b)).sum=(b:Int) ↔ qs.sum=1:=by
 refine⟨λe=>?_,Ap h⟩;have:=nc h;rw[e]at this;have qj:((b:Int):Rat)≠0:=by
  intro z;have:=Rat.intCast_inj.mp (z.trans Rat.intCast_zero.symm);left
 rw[Rat.intCast_natCast]at this qj;generalize (b:Rat)=x at *;grind
theorem IG(Φ:bh)(Vx:lq (Φ 14)):Dv (mk Φ 1 2 eP):=by
 intro rs k hs;have hl:rs.length<=1000:=by have:=hs.len;simpa [eA]using this
 have e1:=Vx rs k hs;have hb:=hs.lcm;have e2:=Aq hb.1 hb.2.2;generalize jo (eA rs)=b at *;have e3:∀c0,bp Φ Ll [c0,some (.tup [.int b,.lst .ow (uO b rs)])]=ok (.lst .ow (ag ((eA rs).map (dS b)))):=λc0=>by
  unfold Ll;rw[cU (xs:=[.lst .al (uO b rs)]) (items:=uO b rs) (ds:=rs.map λr=>.int (dS b r.1)) (by simp) (by rw[eK];simp) (cI λr hr=>?_) (by simp;exact cm (by left))]
  ·simp[ag,eA,aM]
  ·exact⟨[some (.int (dS b r.1)),some (.tup (ag r.2))],by simp[bE],by simp,by simp⟩
 have e4:mU .lZ [.lst .ow (ag ((eA rs).map (dS b)))]=ok (.int ((eA rs).map (dS b)).sum):=by
  show(match intsOf (ag ((eA rs).map (dS b)))with|some ns=>ok (D.int ns.sum)|none=>none)=_;unfold ag;rw[bw]
 have e5:∀x y:Int,ej .eq (.int x) (.int y)=ok (.bl (x==y)):=λx y=>rfl;have e6:(((eA rs).map (dS b)).sum==(b:Int))=decide ((eA rs).sum=1):=by
  rw[Bool.eq_iff_iff,beq_iff_eq,decide_eq_true_iff];exact e2
 simp[mk_eq,eP,e1,e3,e4,e5,e6]
end DI
end
section
set_option maxHeartbeats 1000000
namespace DI
open PySem (Str)
mutual
theorem ji(g h:Fl->Fl):∀d:D,aw g (aw h d)=aw (λf=>g (h f)) d
 |.tup ds=>by rw[aw,aw,aw,gb g h ds]
 |.lst f ds=>by rw[aw,aw,aw,gb g h ds]
 |.cy f ks ds=>by rw[aw,aw,aw,gb g h ds]
 |.bu=>rfl
 |.bl _=>rfl
 |.int _=>rfl
 |.str _=>rfl
theorem gb(g h:Fl->Fl):∀ds:aa,au g (au h ds)=au (λf=>g (h f)) ds
 |[]=>rfl
 |d::ds=>by rw[au,au,au,ji g h d,gb g h ds]
end
theorem Hi(d:D):aw aL (aw aO d)=aw aL d:=by
 rw[ji];congr 1;funext f;cases f<;>rfl
theorem Du(d:D):aw aO (aw aL d)=aw aL d:=by
 rw[ji];congr 1;funext f;cases f<;>rfl
def aX:Nat->D->Bool
 |_,.bu=>true
 |_,.bl _=>true
 |_,.int i=>decide (i.natAbs<2 ^ 50)
 |_,.str s=>s == "0"
 |n+1,.tup ds=>decide (ds.length<=16)&&ds.all (aX n)
 |n+1,.lst f ds=>!fK f&&(decide (ds.length<=16)&&ds.all (aX n))
 |_,_=>false
theorem cS(g:Fl->Fl)(hg:∀f,fK (g f)=fK f):∀(n:Nat) (d:D),aX n (aw g d)=aX n d
 |0,d=>by cases d<;>rfl
 |n+1,d=>by
  cases d<;>first|rfl|skip
  ·simp only[aw,aX,aM,List.all_map,List.length_map];congr 2;funext d;exact cS g hg n d
  ·simp only[aw,aX,aM,List.all_map,List.length_map,hg];congr 3;funext d;exact cS g hg n d
variable {A ds xs:aa}
theorem b8{n:Nat}(h:aX n (.tup ds)=true):∃m,n=m+1/\ds.length<=16/\∀d∈ds,aX m d=true:=by
 cases n with
 |zero=>cases h
 |succ m =>
  rw[aX,Bool.and_eq_true]at h;exact⟨m,rfl,aab h.1,List.all_eq_true.mp h.2⟩
theorem gI{n:Nat}{f:Fl}(h:aX n (.lst f ds)=true):∃m,n=m+1/\ds.length<=16/\(∀d∈ds,aX m d=true)/\fK f=false:=by
 cases n with
 |zero=>cases h
 |succ m =>
  rw[aX,Bool.and_eq_true,Bool.and_eq_true]at h;exact⟨m,rfl,aab h.2.1,List.all_eq_true.mp h.2.2,by simpa using h.1⟩
theorem ux{n:Nat}{d:D}(h:aX n d=true):pK d:=by
 cases d with
 |tup ds=>obtain⟨_,_,h,_⟩:=b8 h;show ds.length<64;left
 |lst f ds=>obtain⟨_,_,h,_⟩:=gI h;show ds.length<=1000000;left
 |_=>trivial
theorem zM{n:Nat}{d:D}(h:aX n d=true):LB d:=by
 unfold LB;split
 ·obtain⟨m,_,_,h⟩:=b8 h;exact ux (h _ (by simp))
 ·trivial
theorem ib:∀{n:Nat} {d:D},aX n d=true->aX (n+1) d=true
 |n,.bu,_=>by cases n<;>rfl
 |n,.bl b,_=>by cases n<;>rfl
 |n,.int b,h=>by cases n<;>exact h
 |n,.str b,h=>by cases n<;>exact h
 |0,.tup ds,h=>by cases h
 |0,.lst _ ds,h=>by cases h
 |n+1,.tup ds,h=>by
  rw[aX,Bool.and_eq_true]at h ⊢;refine⟨h.1,?_⟩;have:=h.2;rw[List.all_eq_true]at this ⊢;exact λd hd=>ib (this d hd)
 |n+1,.lst _ ds,h=>by
  rw[aX,Bool.and_eq_true,Bool.and_eq_true]at h ⊢;refine⟨h.1,h.2.1,?_⟩;have:=h.2.2;rw[List.all_eq_true]at this ⊢;exact λd hd=>ib (this d hd)
 |n,.cy _ _ _,h=>by cases n<;>cases h
theorem yk{n:Nat}{q:Rat}(h:aX n (qD q)=true):Sm 50 q:=by
 obtain⟨m,_,_,h⟩:=b8 h;have h1:=h (.int q.num) (by simp);have h2:=h (.int q.den) (by simp);have h1:q.num.natAbs<2 ^ 50:=aab (by cases m<;>exact h1);have h2:(q.den:Int).natAbs<2 ^ 50:=aab (by cases m<;>exact h2);exact⟨h1,by simpa using h2⟩
theorem uw{n:Nat}{rs:aJ}(hl:rs.length<=16)(h:∀r∈rs,aX n (rD r)=true):z_ 50 (eA rs):=by
 refine⟨λq hq=>?_,by simp[eA];left,by simp[eA];left⟩;obtain⟨r,hr,rfl⟩:=List.mem_map.mp hq;obtain⟨m,_,_,h'⟩:=b8 (h r hr);exact yk (h' (qD r.1) (by simp))
def iW(n:Int)(rows:aa):Bool:=rows.all (fV n)&&(fH ((rows.map bL).map (·.2))&&decide ((eA (rows.map bL)).sum=1))
def bY(d:D):Bool:=match d with
 |.tup [m,.lst _ rows]=>(match m with
  |.int n=>decide (1<=n)&&(decide (n<=12)&&iW n rows)
  |_=>false)
 |_=>false
def kX(n:Int)(d:D):Bool:=match d with
 |.tup [_,l]=>dB l n
 |_=>false
def cX(d:D):Bool:=bY d&&(match d with
 |.tup [.int n,.lst _ rows]=>rows.all (kX n)
 |_=>false)
def uM(m:aH):Prop:=∀d,aX 8 d=true->aw aL d=d->m [d]=ok (.bl (bY d))
theorem lP(Φ:bh)(Mi:wG (Φ 12)){n:Int}(c0 c2:aU):∀(rows:aa) (c3:aU),(∀d∈rows,aX 7 d=true/\aw aL d=d)->∃ρ',fW (λd ρ=>cY (.nm 3) d ρ) (λρ=>bJ Φ j8 ρ) rows [c0,some (.int n),c2,c3]=ok (if rows.all (fV n)then .nx else .rt (.bl false),ρ')/\(rows.all (fV n)=true->∃LC,ρ'=[c0,some (.int n),c2,LC])
 |[],c3,_=>⟨_,rfl,λ_=>⟨_,rfl⟩⟩
 |d::rows,c3,h=>by
  obtain⟨h1,Qb⟩:=h d aah;have e:=Mi d n (zM h1);have al:aw aO d=d:=by rw[<- Qb,Du]
  cases hr:fV n d with
  |true =>
   obtain⟨ρ',ih,Us⟩:=lP Φ Mi c0 c2 rows (some d) λs hs=>h s (aag _ hs);refine⟨ρ',?_,λz=>Us (by rw[List.all_cons,hr,Bool.true_and]at z;exact z)⟩;rw[List.all_cons,hr,Bool.true_and,<- ih];rw[hr]at e;exact jM (ρ1:=[c0,some (.int n),c2,some d]) (by simp) (ρ2:=[c0,some (.int n),c2,some d]) (by simp[j8,al,Qb,e]) rfl
  |false =>
   refine⟨[c0,some (.int n),c2,some d],?_,λz=>by rw[List.all_cons,hr]at z;cases z⟩;rw[List.all_cons,hr,Bool.false_and];rw[hr]at e;exact rS (ρ1:=[c0,some (.int n),c2,some d]) (by simp) (by simp[j8,al,Qb,e])
theorem dH(h:au aL ds=ds):∀d∈ds,aw aL d=d:=by
 induction ds with
 |nil=>intro d hd;cases hd
 |cons x xs ih =>
  rw[au]at h;obtain⟨h1,h2⟩:=abg h;intro d hd;rcases List.mem_cons.mp hd with rfl|hd
  ·exact h1
  ·exact ih h2 d hd
mutual
theorem x3:∀d:D,aY bN (aw aL d)=false
 |.tup ds=>by rw[aw,aY];exact kv ds
 |.lst f ds=>by rw[aw,aY,kv ds];cases f<;>rfl
 |.cy f ks ds=>by rw[aw,aY,kv ds];cases f<;>rfl
 |.bu=>rfl
 |.bl _=>rfl
 |.int _=>rfl
 |.str _=>rfl
theorem kv:∀ds:aa,aP bN (au aL ds)=false
 |[]=>rfl
 |d::ds=>by rw[au,aP,x3 d,kv ds];rfl
end
theorem l_{d:D}(h:aw aL d=d):aY bN d=false:=by rw[<- h];exact x3 d
theorem eY{d:D}(h:aw aL d=d):aw aO d=d:=by rw[<- h,Du]
theorem rP{f:Fl}{rows:aa}(h:aw aL (.lst f rows)=.lst f rows)(hs:fK f=false):f=.fz/\au aL rows=rows:=by
 rw[aw]at h;obtain⟨h1,h2⟩:=D.lst.inj h;refine⟨?_,h2⟩;cases f<;>first|rfl | (cases h1;done)|cases hs
theorem AR(Φ:bh)(h0:cE (Φ 0))(Mi:wG (Φ 12))(h15:Dv (Φ 15))(h44:yy (Φ 44)):uM (mk Φ 1 4 ck):=by
 intro d hd hz;have ty:∀ds,cL .tuple (.tup ds)=true:=λ_=>rfl;have tl:∀f ds,cL .list (.lst f ds)=true:=λ_ _=>rfl;cases d with
 |tup ds =>
  by_cases hl:ds.length=2
  ·obtain⟨m,r,rfl⟩:=j7 hl;obtain⟨k,hk,_,hd⟩:=b8 hd;obtain rfl:k=7:=by left
   have B1:=dH (D.tup.inj hz);have zm:=B1 m (by simp);have zr:=B1 r (by simp);have am:=eY zm;have ar:=eY zr;have e0:=h0 m;cases hw:bX m with
   |false =>
    rw[hw]at e0;have:bY (.tup [m,r])=false:=by
     unfold bY;cases r<;>first|rfl|skip
     cases m<;>first|rfl|exact Bool.noConfusion (show true=false from hw)
    rw[this];simp[mk_eq,ck,ty,am,ar,zm,zr,l_ zm,l_ zr,e0]
   |true =>
    obtain⟨n,rfl⟩:=dQ hw;rw[hw]at e0;have hr:=hd r (by simp);by_cases n1:n<1
    ·have:bY (.tup [.int n,r])=false:=by
      unfold bY;cases r<;>first|rfl|skip
      show(decide (1<=n)&&_)=false;rw[decide_eq_false (by left)];rfl
     rw[this];simp[mk_eq,ck,ty,ar,zr,l_ zr,e0,n1]
    ·by_cases n2:12<n
     ·have:bY (.tup [.int n,r])=false:=by
       unfold bY;cases r<;>first|rfl|skip
       show(_&&(decide (n<=12)&&_))=false;rw[decide_eq_false (by left:¬ n<=12),Bool.false_and,Bool.and_false]
      rw[this];simp[mk_eq,ck,ty,ar,zr,l_ zr,e0,n1,n2]
     ·by_cases hL:∃f rows,r=.lst f rows
      ·obtain⟨f,rows,rfl⟩:=hL;obtain⟨k,hk,hlen,Hg,FF⟩:=gI hr;obtain rfl:k=6:=by left
       obtain⟨rfl,He⟩:=rP zr FF;have UM:=dH He;obtain⟨ρ',el,VQ⟩:=lP Φ Mi (n:=n) (some (.tup [.int n,.lst .fz rows])) (some (.lst .fz rows)) rows none λd hU=>⟨ib (Hg d hU),UM d hU⟩
       have hit:fg Φ (.seq (.v 2)) [some (.tup [.int n,.lst .fz rows]),some (.int n),some (.lst .fz rows),none]=ok (rows,[some (.tup [.int n,.lst .fz rows]),some (.int n),some (.lst .fz rows),none]):=by
        have e1:bp Φ (.v 2) [some (.tup [.int n,.lst .fz rows]),some (.int n),some (.lst .fz rows),none]=ok (.lst .fz rows):=by
         show ok (aw aO (.lst .fz rows))=_;rw[ar]
        have na:(bN Fl.fz||aP bN rows)=false:=l_ zr;rw[J0 e1,He,na];rfl
       have hf:=lA (Φ:=Φ) (t:=.nm 3) (b:=j8) hit el;have hB:bY (.tup [.int n,.lst .fz rows])=iW n rows:=by
        show(decide (1<=n)&&(decide (n<=12)&&iW n rows))=_;rw[decide_eq_true (by left),decide_eq_true (by left)];rfl
       rw[hB];have aT:aw aO (.tup [.int n,.lst .fz rows])=.tup [.int n,.lst .fz rows]:=eY hz;cases ha:rows.all (fV n)with
       |false =>
        have:iW n rows=false:=by unfold iW;rw[ha];rfl
        rw[this];rw[ha]at hf;simp at hf;simp[mk_eq,ck,ty,tl,ar,l_ zr,e0,n1,n2,hf]
       |true =>
        obtain⟨LC,rfl⟩:=VQ ha;obtain⟨n',rfl⟩:∃n':Nat,n=(n':Int):=⟨n.toNat,by left⟩
        have OU:=qQ ha;have XW:=h44 (rows.map bL);have XX:=h15 (rows.map bL) 50 (uw (n:=6) (by simpa using hlen) (λr UL=>by
         obtain⟨d,hU,rfl⟩:=List.mem_map.mp UL;have:=(kb (List.all_eq_true.mp ha d hU)).1;rw[<- this];exact Hg d hU))
        rw[<- OU]at XW XX;have:iW n' rows=(fH ((rows.map bL).map (·.2))&&decide ((eA (rows.map bL)).sum=1)):=by unfold iW;rw[ha];rfl
        rw[this];rw[ha]at hf;simp only[if_true]at hf;have zr':aw aL (.lst .fz rows)=.lst .fz rows:=zr;generalize fH ((rows.map bL).map (·.2))=b1 at *;generalize decide ((eA (rows.map bL)).sum=1)=b2 at *;cases b1<;>simp[mk_eq,ck,ty,tl,ar,zr,l_ zr,e0,n1,n2,hf,XW,XX]
      ·have Vk:cL .list r=false:=by
        cases r<;>first|rfl|exact absurd ⟨_,_,rfl⟩ hL
       have:bY (.tup [.int n,r])=false:=by
        unfold bY;cases r<;>first|rfl|exact absurd ⟨_,_,rfl⟩ hL
       rw[this];simp[mk_eq,ck,ty,ar,zr,l_ zr,e0,n1,n2,Vk]
  ·have jq:¬ (ds.length:Int)=2:=by left
   have:bY (.tup ds)=false:=by
    unfold bY
    match ds,hl with
    |[],_=>rfl
    |[_],_=>rfl
    |[_,_],h=>exact absurd rfl h
    |_::y::_::_,_=>cases y<;>rfl
   rw[this];simp[mk_eq,ck,ty,jq,aM]
 |_=>simp[mk_eq,ck,cL,bY]
noncomputable def yr:aq:=[.ret (.tup [(.ix (.v 0) (.int 0)),(.bf .list1 [(.ix (.v 0) (.int 1))])])]
def Dy(m:aH):Prop:=∀(n:Nat) (rs:aJ),m [mj n rs]=ok (.tup [.int n,.lst .ow (bg rs)])
theorem Nl(Φ:bh):Dy (mk Φ 1 1 yr):=by
 intro n rs;have e1:kI (.tup [.int n,.lst .fz (bg rs)]) (.int 0)=ok (.int n):=rfl;have e2:kI (.tup [.int n,.lst .fz (bg rs)]) (.int 1)=ok (.lst .fz (bg rs)):=by
  show ok (D.lst .fz (au aO (bg rs)))=_;rw[bC]
 have e3:mU .list1 [.lst .fz (bg rs)]=ok (.lst .ow (bg rs)):=by
  show ok (D.lst .ow (au aO (bg rs)))=_;rw[bC]
 have t1:aO .fz=.fz:=rfl;simp[mk_eq,yr,mj,t1,e1,e2,e3]
noncomputable def uq:CE:=.comp 2 (.tp [0,1]) [] .seq [(.v 1)] [] (.v 1)
noncomputable def wj:CE:=.comp 1 (.nm 0) [5] .jZ [(.v 0)] [(.cmp .eq (.bin .band (.bin .shr (.v 1) (.v 0)) (.int 1)) (.int 1))] (.v 0)
def vf:aq:=[.asg (.nm 6) (.bf .tuple1 [wj]),.ifs (.and [(.bU 1043 [(.v 6),(.v 3)]),(.cmp .eq (.v 4) (.lst []))]) [.app 4 (.tup [(.v 6),(.v 2)])] []]
noncomputable def yd:CE:=.comp 2 (.tp [0,1]) [] .seq [(.bU 1020 [(.v 1),(.int 1)])] [] (.tup [(.v 1),(.v 0)])
noncomputable def rW:CE:=.comp 2 (.tp [0,1]) [] .seq [(.bU 1019 [(.v 8)])] [] (.tup [(.v 1),(.v 0)])
def i8:aq:=[.asg (.nm 3) uq,.asg (.nm 4) (.lst []),.fr (.nm 5) (.jZ (.bin .shl (.int 1) (.v 0))) vf,.ifs (.cmp .eq (.v 4) (.lst [])) [.ret (.v 1)] [],.asg (.nm 7) (.call 202 [(.ix (.ix (.v 1) (.int 0)) (.int 0)),(.tup [(.bin .sub (.int 0) (.ix (.v 2) (.int 0))),(.ix (.v 2) (.int 1))])]),.asg (.nm 8) (.bin .add (.bin .add (.v 4) (.lst [(.tup [(.ix (.v 3) (.int 0)),(.v 7)])])) yd),.ret rW]
def rl(sh:D):Option (ae)->aa
 |none=>[]
 |some l=>[.tup [.tup (ag l),sh]]
noncomputable def iH(a b:Int):D:=.tup [.int a,.int b]
@[simp]theorem Rv(g:Fl->Fl)(a b:Int):aw g (iH a b)=iH a b:=rfl
@[simp]theorem RL(g:Fl->Bool)(a b:Int):aY g (iH a b)=false:=rfl
@[simp]theorem BC(g:Fl->Fl)(a b:Int)(o:Option (ae)):au g (rl (iH a b) o)=rl (iH a b) o:=by cases o<;>simp[rl,au,aw]
@[simp]theorem PD(g:Fl->Bool)(a b:Int)(o:Option (ae)):aP g (rl (iH a b) o)=false:=by cases o<;>simp[rl,aP,aY]
theorem QF(Φ:bh){rs:aJ}(h:rs.length<=1000)(a:aU)(r:a_):bp Φ uq (a::some (.lst .fz (bg rs))::r)=ok (.lst .ow (c_ rs)):=by
 unfold uq;rw[cU (xs:=[.lst .fz (bg rs)]) (items:=bg rs) (ds:=rs.map λr=>.tup (ag r.2)) (by simp) (by rw[eK];simp) (cI λr hr=>?_) (by simp;exact cm (by left))]
 ·exact aaN (λx=>ok (D.lst .ow x)) (jJ d8 rs)
 ·exact⟨[some (qD r.1),some (.tup (ag r.2))],by simp[bE,rD],by simp,by simp⟩
theorem Gn(Φ:bh){n:Nat}(hn:n<=12)(N:Int)(b c d e:aU)(r:a_):∃d5,o_ n d5/\bp Φ wj (some (.int n)::b::c::d::e::some (.int N)::r)=ok (.lst .ow (ag d5)):=by
 refine⟨_,Oi n λ(k:Nat)=>decide (N / 2 ^ k % 2=1),?_⟩;unfold wj;rw[cU (xs:=[.int n]) (ds:=((List.range n).filter λ(k:Nat)=>decide (N / 2 ^ k % 2=1)).map λ(k:Nat)=>D.int (k:Int)) (by simp) (rH Φ (by left) (by left)) ?_ ?_]
 ·simp[aM,ag]
 ·rw[Int.toNat_natCast];refine dj λk hk=>⟨[some (.int k),some (.int N)],by simp[bE],?_,λ_=>by simp⟩
  have e1:bZ .shr (.int N) (.int k)=ok (.int (N / 2 ^ k)):=by rw[Hz (by left)];simp
  simp[e1,Dl]
 ·have:=aaP (λ(k:Nat)=>decide (N / 2 ^ k % 2=1)) (List.range n);simp at this ⊢;exact cm (by left)
theorem qY(k:Nat)(l:ae):dX (k+1) (.tup (ag l))=true:=by
 rw[xr];exact xu (λ_=>by cases k<;>rfl) l
theorem EZ{rs:aJ}(l:ae)(f:Fl):Rp [.tup (ag l),.lst f (c_ rs)]=ok (.bl (decide (l∉rs.map (·.2)))):=by
 show(if dX 8 (.tup (ag l))=true/\(c_ rs).all (dX 8)=true then ok (D.bl (bq false ((c_ rs).any λd=>ia d (.tup (ag l)))))else none)=_;rw[if_pos ⟨qY 7 l,List.all_eq_true.mpr λd hd=>by obtain⟨r,_,rfl⟩:=List.mem_map.mp hd;exact qY 7 r.2⟩];have:((c_ rs).any λd=>ia d (.tup (ag l)))=decide (l∈rs.map (·.2)):=by
  induction rs with
  |nil=>rfl
  |cons r rs ih =>
   show(ia (.tup (ag r.2)) (.tup (ag l))||(c_ rs).any _)=_;rw[ih];have:ia (.tup (ag r.2)) (.tup (ag l))=decide (r.2=l):=CF r.2 l;rw[this];have e:decide (l∈(r::rs).map (·.2))=(decide (r.2=l)||decide (l∈rs.map (·.2))):=by
    rw[<- Bool.decide_or];congr 1;rw[List.map_cons,List.mem_cons];exact propext ⟨λh=>h.imp (λh=>h.symm) λh=>h,λh=>h.imp (λh=>h.symm) λh=>h⟩
   rw[e]
 rw[this];show ok (D.bl (!decide _))=_;by_cases h:l∈rs.map (·.2)<;>simp[h]
theorem G6(a b:Int)(o:Option (ae))(f g:Fl):ej .eq (.lst f (rl (iH a b) o)) (.lst g [])=ok (.bl o.isNone):=by
 have h:dX 40 (.lst f (rl (iH a b) o))=true:=by
  cases o with
  |none=>rfl
  |some l =>
   show(([D.tup [.tup (ag l),iH a b]]).all (dX 39))=true;rw[List.all_cons,xr,List.all_cons,qY 37 l];rfl
 show(if (dX 40 _&&dX 40 _)=true then _ else _)=_;rw[h];cases o<;>rfl
def LL(n:Nat)(rs:aJ)(o:Option (ae)):Prop:=∀l,o=some l->o_ n l/\l∉rs.map (·.2)
theorem yo(Φ:bh)(xW:Φ 1043=Rp){n:Nat}(hn:n<=12)(rs:aJ)(a b:Int):∀(xs:aN) (o:Option (ae)) (c5 c6:aU),LL n rs o->∃o' Hw z9,LL n rs o' /\
  fW (λd ρ=>cY (.nm 5) d ρ) (λρ=>bJ Φ vf ρ) (xs.map λ(i:Nat)=>D.int (i:Int)) [some (.int n),some (.lst .fz (bg rs)),some (iH a b),some (.lst .ow (c_ rs)),some (.lst .ow (rl (iH a b) o)),c5,c6,none,none] =
   ok (.nx,[some (.int n),some (.lst .fz (bg rs)),some (iH a b),some (.lst .ow (c_ rs)),some (.lst .ow (rl (iH a b) o')),Hw,z9,none,none])
 |[],o,c5,c6,h=>⟨o,c5,c6,h,rfl⟩
 |x::xs,o,c5,c6,h=>by
  obtain⟨d5,hl,e1⟩:=Gn Φ hn x (some (.lst .fz (bg rs))) (some (iH a b)) (some (.lst .ow (c_ rs))) (some (.lst .ow (rl (iH a b) o))) [c6,none,none];have e2:mU .tuple1 [.lst .ow (ag d5)]=ok (.tup (ag d5)):=by
   show ok (D.tup (au aO (ag d5)))=_;rw[bP]
  have e3:∀f,Φ 1043 [.tup (ag d5),.lst f (c_ rs)]=ok (.bl (decide (d5∉rs.map (·.2)))):=λf=>by rw[xW];exact EZ d5 f
  have e4:=λf g=>G6 a b o f g;have Vy:∃o1,LL n rs o1/\bJ Φ vf [some (.int n),some (.lst .fz (bg rs)),some (iH a b),some (.lst .ow (c_ rs)),some (.lst .ow (rl (iH a b) o)),some (.int x),c6,none,none]=ok (.nx,[some (.int n),some (.lst .fz (bg rs)),some (iH a b),some (.lst .ow (c_ rs)),some (.lst .ow (rl (iH a b) o1)),some (.int x),some (.tup (ag d5)),none,none]):=by
   by_cases hc:d5∉rs.map (·.2)
   ·have xT:decide (d5∉rs.map (·.2))=true:=aaq hc;rw[xT]at e3;cases o with
    |none =>
     refine⟨some d5,λl jq=>by cases jq;exact⟨hl,hc⟩,?_⟩;have c1:(0:Nat)<eE:=by decide
     have m1:rl (iH a b) (some d5)=[.tup [.tup (ag d5),iH a b]]:=rfl;have e5:∀f g,ej .eq (.lst f []) (.lst g [])=ok (.bl true):=λf g=>e4 f g;have e6:rl (iH a b) none=[]:=rfl;rw[m1];rw[e6]at e1 ⊢;simp[vf,e1,e2,e3,e5,c1]
    |some l0 =>
     refine⟨some l0,h,?_⟩;simp[vf,e1,e2,e3,e4]
   ·have xT:decide (d5∉rs.map (·.2))=false:=aaD hc;rw[xT]at e3;refine⟨o,h,?_⟩;simp[vf,e1,e2,e3,e4]
  obtain⟨o1,h1,g1⟩:=Vy;obtain⟨o',Hw,z9,h',ih⟩:=yo Φ xW hn rs a b xs o1 (some (.int x)) (some (.tup (ag d5))) h1;refine⟨o',Hw,z9,h',?_⟩;rw[List.map_cons];exact jM (by simp) g1 ih
theorem yj{q:Rat}{k:Nat}(hk:k<=50)(h:Sm k q):aX 1 (qD q)=true:=by
 have h:=h.mono hk;have h1:decide (q.num.natAbs<2 ^ 50)=true:=aaq h.1;have h2:decide ((q.den:Int).natAbs<2 ^ 50)=true:=aaq (by rw[Int.natAbs_natCast];exact h.2);show(decide ((2:Nat)<=16)&&((decide (q.num.natAbs<2 ^ 50))&&((decide ((q.den:Int).natAbs<2 ^ 50))&&true)))=true;rw[h1,h2];rfl
theorem oK{l:ae}(hl:l.length<=16)(h:∀x∈l,-20<=x/\x<=20):aX 1 (.tup (ag l))=true:=by
 show(decide ((ag l).length<=16)&&(ag l).all (aX 0))=true;rw[decide_eq_true (by unfold ag;simpa using hl),Bool.true_and,List.all_eq_true];intro d hd;obtain⟨x,hx,rfl⟩:=List.mem_map.mp hd;have:=h x hx;exact aaq (aar (by left:x.natAbs<=20) (by decide))
theorem mP{n:Nat}(hn:n<=12){l:ae}(h:o_ n l):aX 1 (.tup (ag l))=true:=by
 refine oK (aas h.len (by left)) λx hx=>?_;have:=h.2 x hx;left
theorem eO{n:Nat}{x y:D}(hx:aX n x=true)(hy:aX n y=true):aX (n+1) (.tup [x,y])=true:=by
 show(decide ((2:Nat)<=16)&&(aX n x&&(aX n y&&true)))=true;rw[hx,hy];rfl
theorem yi{n:Nat}{rs:aJ}(I:Dr 6 n rs){r:Row}(hr:r∈rs):aX 2 (rD r)=true:=eO (yj (by decide) (I.sm r hr)) (mP I.n2 (I.d5 r hr))
theorem Dp.x_{n:Nat}{rs:aJ}(I:Dr 6 n rs):rs.length<=10:=by have:=I.zF;left
theorem Dp.ne{P:ae->Prop}{k n:Nat}{rs:aJ}(I:Dp P k n rs):rs≠[]:=by
 rintro rfl;have:=I.one;simp at this
def oU(m:aH):Prop:=∀(n:Nat) (rs:aJ) (a b:Int),n<=5->Dr 6 n rs->(a=0/\b=1\/a = -1/\b=2)->∃f ds,m [.int n,.lst .fz (bg rs),iH a b]=ok (.lst f ds)/\fK f=false/\ds.length<=16/\∀d∈ds,aX 2 d=true
theorem Dh{f g:Fl}{B:aa}(hf:fK f=false)(hg:fK g=false)(hA:au aO A=A)(hB:au aO B=B)(hl:A.length+B.length<=1000):bZ .add (.lst f A) (.lst g B)=ok (.lst .ow (A++B)):=by
 show(if fK f=false/\fK g=false/\A.length+B.length<=eE then ok (D.lst .ow (au aO (A++B)))else none)=_;rw[if_pos ⟨hf,hg,Nat.le_trans hl (by decide)⟩,aM,List.map_append,<- aM,<- aM,hA,hB]
noncomputable def A9(rs:aJ):List j0:=rs.map λr=>(r.2,[r.1.num,(r.1.den:Int)])
@[simp]theorem rq(g:Fl->Fl)(c:j0):aw g (cJ c)=cJ c:=by
 show D.tup [.tup (au g (ag c.1)),.tup (au g (ag c.2))]=_;rw[bP,bP];rfl
@[simp]theorem xU(g:Fl->Bool)(c:j0):aY g (cJ c)=false:=by
 show(aP g (ag c.1)||(aP g (ag c.2)||false))=false;rw[di,di];rfl
theorem jh(g:Fl->Fl)(cs:List j0):au g (cs.map cJ)=cs.map cJ:=dq g (rq g) cs
theorem zw(g:Fl->Bool)(cs:List j0):aP g (cs.map cJ)=false:=du g (xU g) cs
theorem LD(Φ:bh)(ko:Φ 1020=cutD true){rs:aJ}(h:rs.length<=1000)(a:aU)(r:a_):bp Φ yd (a::some (.lst .fz (bg rs))::r)=ok (.lst .ow ((A9 rs.tail).map cJ)):=by
 have e1:Φ 1020 [.lst .fz (bg rs),.int 1]=ok (.lst .ow (bg rs.tail)):=by
  rw[ko];show ok (D.lst .ow (au aO ((bg rs).drop 1)))=_;rw[List.drop_one];unfold bg;rw[<- List.map_tail];exact aaN (λx=>ok (D.lst .ow x)) (bC aO rs.tail)
 have t1:aO .fz=.fz:=rfl;unfold yd;rw[cU (xs:=[.lst .ow (bg rs.tail)]) (items:=bg rs.tail) (ds:=rs.tail.map λr=>cJ (r.2,[r.1.num,(r.1.den:Int)])) (by simp[t1,e1]) (by rw[eK];simp) (cI λr hr=>?_) (by rw[List.length_map,List.length_tail];exact cm (by left))]
 ·unfold A9;rw[List.map_map];exact aaN (λx=>ok (D.lst .ow x)) (dq d8 (λr=>rq d8 _) rs.tail)
 ·exact⟨[some (qD r.1),some (.tup (ag r.2))],by simp[bE,rD],by simp,by simp[cJ,bS,ag,qD]⟩
theorem Gq(Φ:bh)(Cp:Φ 1019=kQ){cs:List j0}(k8:(cs.map (·.1)).Nodup)(hl:cs.length<64)(a b c d e f g h:aU):bp Φ rW [a,b,c,d,e,f,g,h,some (.lst .ow (cs.map cJ))]=ok (.lst .ow ((dF cs).map λc=>.tup [bS c.2,bS c.1])):=by
 have e1:Φ 1019 [.lst .al (cs.map cJ)]=ok (.lst .ow ((dF cs).map cJ)):=by
  rw[Cp];show(match pB (cs.map cJ)with|some (cs:List j0)=>if (cs.map (λ(c:j0)=>c.1)).Nodup/\cs.length<64 then ok (D.lst .ow ((dF cs).map cJ))else none|none=>none)=_;rw[tO];exact aaQ ⟨k8,hl⟩
 have hsl:(dF cs).length=cs.length:=by
  unfold dF;rw[List.length_map];exact(aaG _ _).length_eq.trans (abd _)
 have t1:aO .ow=.al:=rfl;unfold rW;rw[cU (xs:=[.lst .ow ((dF cs).map cJ)]) (items:=(dF cs).map cJ) (ds:=(dF cs).map λc=>.tup [bS c.2,bS c.1]) (by simp[t1,jh,e1]) (by rw[eK,jh]) (cI λc hc=>?_) (by rw[List.length_map];exact cm (by left))]
 ·exact aaN (λx=>ok (D.lst .ow x)) (dq d8 (λc=>rq d8 (c.2,c.1)) (dF cs))
 ·refine⟨[some (bS c.1),some (bS c.2)],?_,by simp,?_⟩
  ·have hp:aP dW [bS c.1,bS c.2]=false:=by
    show(aP dW (ag c.1)||(aP dW (ag c.2)||false))=false;rw[di,di];rfl
   show(if aP dW [bS c.1,bS c.2]then none else eT [0,1] [bS c.1,bS c.2] (bE 2 [] _))=_;rw[hp];rfl
  ·have m1:∀l,aw aO (bS l)=bS l:=λl=>by
    show D.tup (au aO (ag l))=_;rw[bP];rfl
   simp[m1]
theorem yO{cs:List j0}(k8:(cs.map (·.1)).Nodup):∀c∈dF cs,c∈cs:=by
 intro c hc;obtain⟨n,hn,rfl⟩:=List.mem_map.mp hc;have hn:=(aaG _ _).mem_iff.mp hn;obtain⟨z,hz,rfl⟩:=List.mem_map.mp hn;rw[nA k8 hz];exact hz
theorem X5(x:D)(xs:aa):mn (x::xs) 0=ok (aw aO x):=by simp[mn,kZ]
theorem AU(Φ:bh)(rO:uK (Φ 202))(Cp:Φ 1019=kQ)(ko:Φ 1020=cutD true)(xW:Φ 1043=Rp):oU (mk Φ 3 9 i8):=by
 intro n rs a b hn I ql;have DP:=I.x_;obtain⟨r0,iw,rfl⟩:∃r0 iw,rs=r0::iw:=by
  cases rs with
  |nil=>exact absurd rfl I.ne
  |cons r rs=>exact⟨r,rs,rfl⟩
 have e1:=λx r=>QF Φ (rs:=r0::iw) (by left) x r;have FE:bZ .shl (.int 1) (.int n)=ok (.int ((2 ^ n:Nat):Int)):=by
  have hp:jw 1 (n:Int)=true:=by
   unfold jw;rw[decide_eq_true (by left:(0:Int)<=n),decide_eq_true (by left:(n:Int)<=1000000)];decide
  show(if jw 1 (n:Int)then ok (D.int (1*2 ^ (n:Int).toNat))else none)=_;rw[if_pos hp,Int.toNat_natCast,Int.one_mul];simp
 have h32:2 ^ n<=32:=aaw (n:=2) (by decide) hn;generalize 2 ^ n=T at *;obtain⟨o,c5,c6,ho,el⟩:=yo Φ xW (n:=n) (by left) (r0::iw) a b (List.range T) none none none (λl h=>nomatch h);have hit:fg Φ (.jZ (.bin .shl (.int 1) (.v 0))) [some (.int n),some (.lst .fz (bg (r0::iw))),some (iH a b),some (.lst .ow (c_ (r0::iw))),some (.lst .ow (rl (iH a b) none)),none,none,none,none]=ok ((List.range T).map λ(i:Nat)=>D.int (i:Int),[some (.int n),some (.lst .fz (bg (r0::iw))),some (iH a b),some (.lst .ow (c_ (r0::iw))),some (.lst .ow (rl (iH a b) none)),none,none,none,none]):=by
  rw[JY (n:=(T:Int)) (by simp[FE]) (by left) (by left),Int.toNat_natCast]
 have hf:=lA (Φ:=Φ) (t:=.nm 5) (b:=vf) hit el;rw[show rl (iH a b) none=[] from rfl]at hf;have Gi:=λf g=>G6 a b o f g;cases o with
 |none =>
  refine⟨.fz,bg (r0::iw),?_,rfl,by rw[dN];left,λd hd=>by obtain⟨r,hr,rfl⟩:=List.mem_map.mp hd;exact yi I hr⟩;simp[mk_eq,i8,DJ Φ uq _ rfl,e1,hf,Gi]
 |some l =>
  obtain⟨hl,UY⟩:=ho l rfl;obtain⟨q,hq,eq⟩:∃q,Sm 10 q/\Φ 202 [qD r0.1,.tup [.int (0 - a),.int b]]=ok (qD q):=by
   have s0:=I.sm r0 aah;rcases ql with ⟨rfl,rfl⟩|⟨rfl,rfl⟩
   ·have e:D.tup [.int (0 - 0),.int 1]=qD 0:=rfl;refine⟨r0.1+0,(s0.add (Sm.zero 2 (by decide))).mono (by decide),?_⟩;rw[e];exact rO _ _ (s0.mono (by decide)) (Sm.zero _ (by decide))
   ·have e:D.tup [.int (0 - -1),.int 2]=qD (1 / 2):=by
     have z1:(1 / 2:Rat).num=1:=by decide +kernel
     have z2:(1 / 2:Rat).den=2:=by decide +kernel
     unfold qD;rw[z1,z2];rfl
    have s1:Sm 2 (1 / 2:Rat):=by constructor<;>decide +kernel
    refine⟨r0.1+1 / 2,(s0.add s1).mono (by decide),?_⟩;rw[e];exact rO _ _ (s0.mono (by decide)) (s1.mono (by decide))
  let cs:List j0:=(l,[a,b])::(r0.2,[q.num,(q.den:Int)])::A9 iw
  have hcl:cs.length<=11:=by show(A9 iw).length+1+1<=11;unfold A9;rw[List.length_map];have:iw.length+1<=10:=DP;left
  have U9:cs.map (·.1)=l::(r0::iw).map (·.2):=by
   show l::r0.2::(A9 iw).map (·.1)=_;unfold A9;rw[List.map_map];rfl
  have k8:(cs.map (·.1)).Nodup:=by
   rw[U9];exact List.nodup_cons.mpr ⟨UY,I.rise.imp λ{x y} h e=>by rw[e]at h;have:=kY _ _ h;rw[h]at this;cases this⟩
  have e2:=Gq Φ Cp k8 (by left);have e3:=λx r=>LD Φ ko (rs:=r0::iw) (by left) x r;have i1:∀f,kI (.lst f (bg (r0::iw))) (.int 0)=ok (rD r0):=λf=>by
   show mn (rD r0::bg iw) 0=_;rw[X5,rn]
  have i2:kI (rD r0) (.int 0)=ok (qD r0.1):=rfl;have i3:kI (iH a b) (.int 0)=ok (.int a):=rfl;have i4:kI (iH a b) (.int 1)=ok (.int b):=rfl;have i5:∀f,kI (.lst f (c_ (r0::iw))) (.int 0)=ok (.tup (ag r0.2)):=λf=>by
   show mn (.tup (ag r0.2)::c_ iw) 0=_;rw[X5];simp
  have m1:rl (iH a b) (some l)=[cJ (l,[a,b])]:=rfl;have c1:bZ .add (.lst .al (rl (iH a b) (some l))) (.lst .ow [.tup [.tup (ag r0.2),qD q]])=ok (.lst .ow [cJ (l,[a,b]),cJ (r0.2,[q.num,(q.den:Int)])]):=by
   rw[Dh rfl rfl (BC _ _ _ _) (by simp[au]) (by rw[m1];show 1+1<=1000;decide)];rfl
  have c2:bZ .add (.lst .ow [cJ (l,[a,b]),cJ (r0.2,[q.num,(q.den:Int)])]) (.lst .ow ((A9 iw).map cJ))=ok (.lst .ow (cs.map cJ)):=by
   rw[show[cJ (l,[a,b]),cJ (r0.2,[q.num,(q.den:Int)])]=[(l,[a,b]),(r0.2,[q.num,(q.den:Int)])].map cJ from rfl];have sL:cs.length=2+(A9 iw).length:=by show(A9 iw).length+1+1=_;left
   rw[Dh rfl rfl (jh _ _) (jh _ _) (by rw[List.length_map,List.length_map];show 2+_<=_;left),<- List.map_append];rfl
  have h0:=zw;refine⟨.ow,(dF cs).map λc=>.tup [bS c.2,bS c.1],?_,rfl,?_,λd hd=>?_⟩
  ·have na:∀g,aP g ((dF cs).map λc=>D.tup [bS c.2,bS c.1])=false:=λg=>du g (λ(c:j0)=>(xU g (c.2,c.1):aY g (D.tup [bS c.2,bS c.1])=false)) (dF cs);have Lq:∀x r,bp Φ yd (x::some (.lst .fz (bg (r0::iw)))::r)=ok (.lst .ow ((A9 iw).map cJ)):=e3;rw[Int.zero_sub]at eq
   clear_value cs
   simp[mk_eq,i8,DJ Φ uq _ rfl,DJ Φ rW _ rfl,e1,hf,Gi,i1,i2,i3,i4,i5,eq,c1,Lq,c2,h0,e2,na]
  ·rw[List.length_map];unfold dF;rw[List.length_map];have:(bO (cs.map (·.1))).length=cs.length:=(aaG _ _).length_eq.trans (abd _);left
  ·obtain⟨c,hc,rfl⟩:=List.mem_map.mp hd;have hc:=yO k8 c hc;have key:aX 1 (bS c.2)=true/\aX 1 (bS c.1)=true:=by
    rcases List.mem_cons.mp hc with rfl|hc
    ·refine⟨?_,mP I.n2 hl⟩;rcases ql with ⟨rfl,rfl⟩|⟨rfl,rfl⟩
     ·exact(by decide +kernel:aX 1 (bS [0,1])=true)
     ·exact(by decide +kernel:aX 1 (bS [-1,2])=true)
    ·rcases List.mem_cons.mp hc with rfl|hc
     ·exact⟨yj (by decide) hq,mP I.n2 (I.d5 r0 aah)⟩
     ·obtain⟨r,hr,rfl⟩:=List.mem_map.mp hc;exact⟨yj (by decide) (I.sm r (aag _ hr)),mP I.n2 (I.d5 r (aag _ hr))⟩
   exact eO key.1 key.2
noncomputable def Jl:aq:=[.unp [2,3] (.call 215 [(.v 0)]),.asg (.nm 4) (.bin .mod (.bin .fdiv (.v 1) (.int 32)) (.bf .len [(.v 3)])),.asg (.tp [5,6]) (.ix (.v 3) (.v 4))]
noncomputable def Cz:az:=[(.tup [(.v 5)]),(.tup [(.v 5),(.v 6),(.int 0)]),(.lst [(.v 5),(.v 6)]),.bu,(.tup [(.v 5),(.bf .list1 [(.v 6)])]),(.tup [(.v 6),(.v 5)]),(.tup [(.tup [(.int 0),(.int 1)]),(.v 6)])]
noncomputable def Le:az:=[(.tup [(.tup [(.bin .mul (.int 2) (.ix (.v 5) (.int 0))),(.bin .mul (.int 2) (.ix (.v 5) (.int 1)))]),(.v 6)]),(.tup [(.tup [(.neg (.int 1)),(.int 2)]),(.v 6)]),(.tup [(.tup [(.int 1),(.int 0)]),(.v 6)]),(.tup [(.int 1),(.v 6)])]
noncomputable def zI:CE:=.tup [(.ix (.lst [(.tup [(.bl true),(.int 1)]),(.tup [(.int 1),(.bl true)])]) (.bin .mod (.bin .fdiv (.v 1) (.int 4096)) (.int 2))),(.v 6)]
noncomputable def zJ:CE:=.ix (.lst [(.tup [(.int 1),(.int 7)]),(.tup [(.int 1),(.bin .pow (.int 10) (.int 10))])]) (.bin .mod (.bin .fdiv (.v 1) (.int 8192)) (.int 2))
noncomputable def Ld:az:=[(.tup [(.call 202 [(.v 5),(.v 8)]),(.v 6)]),(.tup [(.v 5),(.bin .add (.v 6) (.tup [(.v 2)]))]),(.tup [(.v 5),(.bin .add (.tup [(.neg (.int 1))]) (.v 6))]),(.tup [(.v 5),(.bin .add (.v 6) (.v 6))])]
noncomputable def Lc:az:=[(.tup [(.v 5),(.bU 1028 [(.v 6),(.neg (.int 1))])]),(.tup [(.v 5),(.tup [(.bl true)])]),(.tup [(.v 5),(.tup [(.str "0")])]),(.tup [(.v 5),(.int 0)])]
noncomputable def Dc(es:az):CS:=.asg (.nm 7) (.bin .add (.v 7) (.lst es))
def Jk:aq:=[.lsn 7 Cz,Dc Le,.app 7 zI,.asg (.nm 8) zJ,Dc Ld,Dc Lc,.asg (.nm 9) (.bin .mod (.v 1) (.int 32))]
noncomputable def Hv:CS:=.ifs (.cmp .lt (.v 9) (.int 20)) [.setI 3 (.v 4) (.ix (.v 7) (.v 9)),.ret (.tup [(.v 2),(.v 3)])] []
def Jj:aq:=[Hv,.ifs (.cmp .eq (.v 9) (.int 20)) [.ret (.tup [(.v 2),(.bU 1026 [(.v 3),(.neg (.int 1))])])] [],.ifs (.cmp .eq (.v 9) (.int 21)) [.ret (.tup [(.v 2),(.bin .add (.v 3) (.lst [(.ix (.v 3) (.neg (.int 1)))]))])] [],.ifs (.cmp .eq (.v 9) (.int 22)) [.ret (.tup [(.v 2),(.bin .add (.bU 1021 [(.v 3),(.v 4)]) (.bU 1020 [(.v 3),(.bin .add (.v 4) (.int 1))]))])] [],.ifs (.cmp .lt (.v 9) (.int 25)) [.ret (.tup [(.v 2),(.call 220 [(.v 2),(.v 3),(.ix (.lst [(.tup [(.int 0),(.int 1)]),(.tup [(.neg (.int 1)),(.int 2)])]) (.bin .sub (.v 9) (.int 23)))])])] [],.asg (.nm 10) (.lst [(.tup [(.int 0),(.v 3)]),(.tup [(.int 13),(.v 3)]),(.tup [(.bl true),(.v 3)]),(.tup [(.int 12),(.v 3)]),(.tup [(.v 2),(.bf .tuple1 [(.v 3)])]),(.lst [(.v 2),(.v 3)]),.bu]),.ret (.ix (.bin .add (.v 10) (.lst [(.tup [(.v 2),(.lst [])]),(.tup [(.v 2)]),(.tup [(.v 3),(.v 2)])])) (.bin .mod (.bin .fdiv (.v 1) (.int 32)) (.int 10)))]
def oQ:aq:=Jl++(Jk++Jj)
def oX(n:Nat)(d:D):Prop:=aX n d=true/\aw aL d=d
theorem oX.pl{n:Nat}{d:D}(h:aX n d=true)(hm:∀g,aw g d=d):oX n d:=⟨h,hm _⟩
theorem KA{n:Nat}(h:∀d∈A,oX n d):au aL A=A:=by
 rw[aM];exact(aay λd hd=>(h d hd).2).trans (List.map_id _)
theorem sD{n:Nat}(h:∀d∈A,oX n d):au aO A=A:=by
 rw[aM];exact(aay λd hd=>eY (h d hd).2).trans (List.map_id _)
theorem Bw{n:Nat}(h:∀d∈A,oX n d):aP bN A=false:=by
 have:aY bN (.tup A)=false:=l_ (by rw[aw,KA h]);exact this
variable {Φ:bh}
theorem uU{es:az}{r0 r1 r2 r3 r4 r5 r6:aU}{r:a_}(he:bK Φ es (r0::r1::r2::r3::r4::r5::r6::some (.lst .ow A)::r)=ok xs)(hA:∀d∈A,oX 2 d)(hx:∀d∈xs,oX 2 d)(hl:A.length+xs.length<=1000):
  hZ Φ (Dc es) (r0::r1::r2::r3::r4::r5::r6::some (.lst .ow A)::r)=ok (.nx,r0::r1::r2::r3::r4::r5::r6::some (.lst .ow (A++xs))::r):=by
 have e2:bZ .add (.lst .al A) (.lst .ow xs)=ok (.lst .ow (A++xs)):=Dh rfl rfl (sD hA) (sD hx) hl;have t1:aO .ow=.al:=rfl;have na:aP bN (A++xs)=false:=Bw (n:=2) λd hd=>(List.mem_append.mp hd).elim (hA d) (hx d);simp[Dc,he,t1,sD hA,e2,na]
theorem mH(d:D):aw aL (aw aL d)=aw aL d:=by
 rw[ji];congr 1;funext f;cases f<;>rfl
theorem oX.fz{n:Nat}{d:D}(h:aX n d=true):oX n (aw aL d):=⟨by rw[cS _ (λf=>by cases f<;>rfl)];exact h,mH d⟩
structure Pl(n:Nat)(d:D):Prop where
 dec:aX n d=true
 map:∀g,aw g d=d
 has:∀p,aY p d=false
theorem Ju(Φ:bh){C L L1 L2 L3 L4 L5:D}{a b z:Int}{n:Nat}(pC:Pl 1 C)(pL:Pl 1 L)(iC0:kI C (.int 0)=ok (.int a))(iC1:kI C (.int 1)=ok (.int b))(ha:a.natAbs<64)(hb:b.natAbs<64)
  (l1:mU .list1 [L]=ok L1) (d1:aX 1 L1=true) (l2:bZ .add L (.tup [.int n])=ok L2) (p2:Pl 1 L2) (l3:bZ .add (.tup [.int (-1)]) L=ok L3) (p3:Pl 1 L3) (l4:bZ .add L L=ok L4) (p4:Pl 1 L4) (l5:Φ 1028 [L,.int (-1)]=ok L5) (p5:Pl 1 L5)
  (q1:∃Q,Φ 202 [C,.tup [.int 1,.int 7]]=ok Q/\Pl 1 Q) (q2:∃Q,Φ 202 [C,.tup [.int 1,.int 10000000000]]=ok Q/\Pl 1 Q) (r0 r3 r4:aU) :
  ∃odd M,bJ Φ Jk [r0,some (.int z),some (.int n),r3,r4,some C,some L,none,none,none,none]=ok (.nx,[r0,some (.int z),some (.int n),r3,r4,some C,some L,some (.lst .ow odd),some M,some (.int (z.fmod 32)),none])/\odd.length=20/\∀d∈odd,oX 2 d:=by
 obtain⟨dC,mC,hC⟩:=pC;obtain⟨dL,mL,hL⟩:=pL;have e0:bK Φ Cz [r0,some (.int z),some (.int n),r3,r4,some C,some L,none,none,none,none]=ok [.tup [C],.tup [C,L,.int 0],.lst .ow [C,L],.bu,.tup [C,L1],.tup [L,C],.tup [.tup [.int 0,.int 1],L]]:=by
  simp[Cz,mC,mL,l1]
 have i0:∀i:Int,aX 0 (.int i)=decide (i.natAbs<2 ^ 50):=λ_=>rfl;have i1:∀i:Int,aX 1 (.int i)=decide (i.natAbs<2 ^ 50):=λ_=>rfl;have tp:∀(k:Nat) (ds:aa),ds.length<=16->(∀d∈ds,aX k d=true)->aX (k+1) (.tup ds)=true:=λk ds h1 h2=>by
  show(decide (ds.length<=16)&&ds.all (aX k))=true;rw[decide_eq_true h1,List.all_eq_true.mpr h2];rfl
 have tl:∀(k:Nat) (ds:aa),ds.length<=16->(∀d∈ds,aX k d=true)->aX (k+1) (.lst .ow ds)=true:=λk ds h1 h2=>by
  show(true&&(decide (ds.length<=16)&&ds.all (aX k)))=true;rw[decide_eq_true h1,List.all_eq_true.mpr h2];rfl
 have Zg:aX 1 (.tup [.int 0,.int 1])=true:=by decide +kernel
 have hz:aX 1 (.int 0)=true:=by decide +kernel
 have f0:∀d∈au aL [.tup [C],.tup [C,L,.int 0],.lst .ow [C,L],.bu,.tup [C,L1],.tup [L,C],.tup [.tup [.int 0,.int 1],L]],oX 2 d:=by
  intro d hd;rw[aM]at hd;obtain⟨x,hx,rfl⟩:=List.mem_map.mp hd;refine oX.fz ?_;simp only[List.mem_cons,List.not_mem_nil,or_false]at hx;rcases hx with rfl|rfl|rfl|rfl|rfl|rfl|rfl
  ·exact tp 1 _ (by simp) (by simp[dC])
  ·exact tp 1 _ (by simp) (by simp[dC,dL,hz])
  ·exact tl 1 _ (by simp) (by simp[dC,dL])
  ·rfl
  ·exact tp 1 _ (by simp) (by simp[dC,d1])
  ·exact tp 1 _ (by simp) (by simp[dC,dL])
  ·exact tp 1 _ (by simp) (by simp[Zg,dL])
 have s0:hZ Φ (.lsn 7 Cz) [r0,some (.int z),some (.int n),r3,r4,some C,some L,none,none,none,none]=ok (.nx,[r0,some (.int z),some (.int n),r3,r4,some C,some L,some (.lst .ow (au aL [.tup [C],.tup [C,L,.int 0],.lst .ow [C,L],.bu,.tup [C,L1],.tup [L,C],.tup [.tup [.int 0,.int 1],L]])),none,none,none]):=by
  have fv:cO Cz=[5,5,6,5,6,5,6,6,5,6]:=rfl;rw[ME,e0,Fg (by simp),fv];simp[om,mC,mL]
 generalize hA:au aL [.tup [C],.tup [C,L,.int 0],.lst .ow [C,L],.bu,.tup [C,L1],.tup [L,C],.tup [.tup [.int 0,.int 1],L]]=A at s0 f0;have hAl:A.length=7:=by rw[<- hA];rfl
 have two:∀{x:D},aX 1 x=true->(∀g,aw g x=x)->oX 2 (.tup [x,L]):=λ{x} h hm=>⟨tp 1 _ (by simp) (by simp[h,dL]),by simp[aw,au,hm,mL]⟩
 have u0:∀{x:D},aX 1 x=true->(∀g,aw g x=x)->oX 2 (.tup [C,x]):=λ{x} h hm=>⟨tp 1 _ (by simp) (by simp[h,dC]),by simp[aw,au,hm,mC]⟩
 have e1:∀r,bK Φ Le (r0::some (.int z)::some (.int n)::r3::r4::some C::some L::r)=ok [.tup [.tup [.int (2*a),.int (2*b)],L],.tup [.tup [.int (-1),.int 2],L],.tup [.tup [.int 1,.int 0],L],.tup [.int 1,L]]:=λr=>by
  simp[Le,mC,mL,iC0,iC1,vD]
 have f1:∀d∈[D.tup [.tup [.int (2*a),.int (2*b)],L],.tup [.tup [.int (-1),.int 2],L],.tup [.tup [.int 1,.int 0],L],.tup [.int 1,L]],oX 2 d:=by
  intro d hd;simp only[List.mem_cons,List.not_mem_nil,or_false]at hd;rcases hd with rfl|rfl|rfl|rfl
  ·refine two (tp 0 _ (by simp) λd hd=>?_) (by simp[aw,au]);simp only[List.mem_cons,List.not_mem_nil,or_false]at hd;rcases hd with rfl|rfl
   ·exact aaq (aar (by left:(2*a).natAbs<=128) (by decide))
   ·exact aaq (aar (by left:(2*b).natAbs<=128) (by decide))
  ·exact two (by decide +kernel) (λ_=>rfl)
  ·exact two (by decide +kernel) (λ_=>rfl)
  ·exact two (by decide +kernel) (λ_=>rfl)
 obtain⟨g1,g2⟩:=eL (z.fdiv 4096) (b:=2) (by decide);obtain⟨g3,g4⟩:=eL (z.fdiv 8192) (b:=2) (by decide);obtain⟨B,eB,fB⟩:∃B,oX 2 B/\∀r,bp Φ zI (r0::some (.int z)::some (.int n)::r3::r4::some C::some L::r)=ok B:=by
  rcases(by left:(z.fdiv 4096).fmod 2=0\/(z.fdiv 4096).fmod 2=1)with h|h
  ·exact⟨.tup [.tup [.bl true,.int 1],L],two (by decide +kernel) (λ_=>rfl),λr=>by simp[zI,mL,h,kI,mn,kZ]⟩
  ·exact⟨.tup [.tup [.int 1,.bl true],L],two (by decide +kernel) (λ_=>rfl),λr=>by simp[zI,mL,h,kI,mn,kZ]⟩
 have WI:bZ .pow (.int 10) (.int 10)=ok (.int 10000000000):=by
  rw[Di (by decide)];rfl
 obtain⟨M,Q,eM,mM,hM,eQ,pQ⟩:∃M Q,(∀r,bp Φ zJ (r0::some (.int z)::some (.int n)::r3::r4::some C::some L::r)=ok M)/\(∀g,aw g M=M)/\(∀p,aY p M=false)/\Φ 202 [C,M]=ok Q/\Pl 1 Q:=by
  rcases(by left:(z.fdiv 8192).fmod 2=0\/(z.fdiv 8192).fmod 2=1)with h|h
  ·obtain⟨Q,a1,a2⟩:=q1;exact⟨.tup [.int 1,.int 7],Q,λr=>by simp[zJ,WI,h,kI,mn,kZ],λ_=>rfl,λ_=>rfl,a1,a2⟩
  ·obtain⟨Q,a1,a2⟩:=q2;exact⟨.tup [.int 1,.int 10000000000],Q,λr=>by simp[zJ,WI,h,kI,mn,kZ],λ_=>rfl,λ_=>rfl,a1,a2⟩
 have e2:∀r7 r,bK Φ Ld (r0::some (.int z)::some (.int n)::r3::r4::some C::some L::r7::some M::r)=ok [.tup [Q,L],.tup [C,L2],.tup [C,L3],.tup [C,L4]]:=λr7 r=>by
  simp[Ld,mC,mL,mM,eQ,pQ.map,l2,l3,l4,vD]
 have f2:∀d∈[D.tup [Q,L],.tup [C,L2],.tup [C,L3],.tup [C,L4]],oX 2 d:=by
  intro d hd;simp only[List.mem_cons,List.not_mem_nil,or_false]at hd;rcases hd with rfl|rfl|rfl|rfl
  ·exact two pQ.dec pQ.map
  ·exact u0 p2.dec p2.map
  ·exact u0 p3.dec p3.map
  ·exact u0 p4.dec p4.map
 have e3:∀r7 r8 r,bK Φ Lc (r0::some (.int z)::some (.int n)::r3::r4::some C::some L::r7::r8::r)=ok [.tup [C,L5],.tup [C,.tup [.bl true]],.tup [C,.tup [.str "0"]],.tup [C,.int 0]]:=λr7 r8 r=>by
  simp[Lc,mC,mL,l5,vD]
 have f3:∀d∈[D.tup [C,L5],.tup [C,.tup [.bl true]],.tup [C,.tup [.str "0"]],.tup [C,.int 0]],oX 2 d:=by
  intro d hd;simp only[List.mem_cons,List.not_mem_nil,or_false]at hd;rcases hd with rfl|rfl|rfl|rfl
  ·exact u0 p5.dec p5.map
  ·exact u0 (by decide +kernel) (λ_=>rfl)
  ·exact u0 (by decide +kernel) (λ_=>rfl)
  ·exact u0 (by decide +kernel) (λ_=>rfl)
 generalize Z9:[D.tup [.tup [.int (2*a),.int (2*b)],L],.tup [.tup [.int (-1),.int 2],L],.tup [.tup [.int 1,.int 0],L],.tup [.int 1,L]]=X1 at e1 f1;generalize Z8:[D.tup [Q,L],.tup [C,L2],.tup [C,L3],.tup [C,L4]]=X2 at e2 f2;generalize Z7:[D.tup [C,L5],.tup [C,.tup [.bl true]],.tup [C,.tup [.str "0"]],.tup [C,.int 0]]=X3 at e3 f3;have n1:X1.length=4:=by rw[<- Z9];rfl
 have n2:X2.length=4:=by rw[<- Z8];rfl
 have n3:X3.length=4:=by rw[<- Z7];rfl
 have mem:∀{P R:aa},(∀d∈P,oX 2 d)->(∀d∈R,oX 2 d)->∀d∈P++R,oX 2 d:=λh1 h2 d hd=>(List.mem_append.mp hd).elim (h1 d) (h2 d);have hB1:∀d∈[B],oX 2 d:=λd hd=>by cases List.mem_singleton.mp hd;exact eB
 have s1:=uU (Φ:=Φ) (r:=[none,none,none]) (e1 _) f0 f1 (by left);have m1:=mem f0 f1;have s2:hZ Φ (.app 7 zI) [r0,some (.int z),some (.int n),r3,r4,some C,some L,some (.lst .ow (A++X1)),none,none,none]=ok (.nx,[r0,some (.int z),some (.int n),r3,r4,some C,some L,some (.lst .ow (A++X1++[B])),none,none,none]):=by
  rw[MF,DJ Φ zI _ rfl,fB,d6 (l_ eB.2),Gr (ds:=A++X1) rfl (by rw[List.length_append,hAl,n1];decide)];rfl
 have m2:=mem m1 hB1;have s3:hZ Φ (.asg (.nm 8) zJ) [r0,some (.int z),some (.int n),r3,r4,some C,some L,some (.lst .ow (A++X1++[B])),none,none,none]=ok (.nx,[r0,some (.int z),some (.int n),r3,r4,some C,some L,some (.lst .ow (A++X1++[B])),some M,none,none]):=by
  rw[m6,DJ Φ zJ _ rfl,eM,d6 (hM _)];rfl
 have s4:=uU (Φ:=Φ) (r:=[some M,none,none]) (e2 _ _) m2 f2 (by simp;left);have m3:=mem m2 f2;have s5:=uU (Φ:=Φ) (r:=[some M,none,none]) (e3 _ _ _) m3 f3 (by simp;left);have m4:=mem m3 f3;refine⟨_,M,?_,?_,m4⟩
 ·simp only[Jk,c9,s0,s1,s2,s3,s4,s5,fE];simp
 ·simp;left
theorem wJ(Φ:bh):∀(a b:aq) (ρ ρ':a_),bJ Φ a ρ=ok (.nx,ρ')->bJ Φ (a++b) ρ=bJ Φ b ρ'
 |[],b,ρ,ρ',h=>by cases h;rfl
 |s::a,b,ρ,ρ',h=>by
  obtain⟨⟨f,ρ1⟩,h1,h2⟩:=aB (show bd (hZ Φ s ρ) _=_ from h);show bd (hZ Φ s ρ) _=_;rw[h1];cases f with
  |nx=>exact wJ Φ a b ρ1 ρ' h2
  |rt d=>cases h2
def Dz(m:aH):Prop:=∀(n:Nat) (rs:aJ) (z:Int),n<=5->Dr 6 n rs->∃d,m [mj n rs,.int z]=ok d/\aX 4 d=true
theorem Ue{i:Nat}{x:D}(h:xs[i]?=some x)(hx:aw aO x=x):mn xs (i:Int)=ok x:=by
 have hl:=(List.getElem?_eq_some_iff.mp h).1;have:kZ xs.length (i:Int)=some i:=by
  unfold kZ;rw[if_pos (by left),if_pos (by left),Int.toNat_natCast]
 unfold mn;rw[this];show(match xs[i]? with|some d=>_|none=>_)=_;rw[h];show ok (aw aO x)=_;rw[hx]
theorem QH(Φ:bh)(Ks:Dy (Φ 215)){n:Nat}{rs:aJ}(z:Int)(h0:rs≠[])(hl:rs.length<=10):∃(k:Nat) (r:Row),rs[k]?=some r/\bJ Φ Jl [some (mj n rs),some (.int z),none,none,none,none,none,none,none,none,none] =
  ok (.nx,[some (mj n rs),some (.int z),some (.int n),some (.lst .ow (bg rs)),some (.int k),some (qD r.1),some (.tup (ag r.2)),none,none,none,none]):=by
 have hp:0<rs.length:=List.length_pos_iff.mpr h0;obtain⟨g1,g2⟩:=eL (z.fdiv 32) (b:=(rs.length:Int)) (by left);obtain⟨k,hk⟩:∃k:Nat,(z.fdiv 32).fmod rs.length=(k:Int):=⟨((z.fdiv 32).fmod rs.length).toNat,by left⟩
 have RE:k<rs.length:=by left
 refine⟨k,rs[k],aak RE,?_⟩;have e1:=Ks n rs;have md:∀g,g .fz=.fz->aw g (mj n rs)=mj n rs:=λg hg=>by
  show D.tup [.int n,.lst (g .fz) (au g (bg rs))]=_;rw[hg,bC];rfl
 have Za:=md aO rfl;have Y_:=md aL rfl;have e2:∀f,kI (.lst f (bg rs)) (.int k)=ok (rD rs[k]):=λf=>Ue (xs:=bg rs) (by unfold bg;rw[List.getElem?_map,List.getElem?_eq_getElem RE];rfl) (rn _ _);have e3:mU .len [.lst .al (bg rs)]=ok (.int rs.length):=by
  show ok (D.int ((bg rs).length:Int))=_;rw[dN]
 have hm:bZ .mod (.int (z.fdiv 32)) (.int rs.length)=ok (.int k):=by rw[Dj (by left),hk]
 have t1:d8 .ow=.ow:=rfl;have t2:aO .ow=.al:=rfl;have u1:MN [2,3] (ok (.tup [.int n,.lst .ow (bg rs)],[some (mj n rs),some (.int z),none,none,none,none,none,none,none,none,none]))=ok (.nx,[some (mj n rs),some (.int z),some (.int n),some (.lst .ow (bg rs)),none,none,none,none,none,none,none]):=rfl;have hr:rD rs[k]=.tup [qD rs[k].1,.tup (ag rs[k].2)]:=rfl;rw[hr]at e2;simp[Jl,Za,Y_,e1,t1,t2,u1,e2,e3,hm]
theorem tF{n:Nat}{rs:aJ}(I:Dr 6 n rs){f:Fl}(hf:fK f=false):aX 3 (.lst f (bg rs))=true:=by
 have:=I.x_;show(!fK f&&(decide ((bg rs).length<=16)&&(bg rs).all (aX 2)))=true;rw[hf,decide_eq_true (by rw[dN];left),List.all_eq_true.mpr λd hd=>by obtain⟨r,hr,rfl⟩:=List.mem_map.mp hd;exact yi I hr];rfl
theorem oJ{f:Fl}(hf:fK f=false)(hl:ds.length<=16)(h:∀d∈ds,aX 2 d=true):aX 3 (.lst f ds)=true:=by
 show(!fK f&&(decide (ds.length<=16)&&ds.all (aX 2)))=true;rw[hf,decide_eq_true hl,List.all_eq_true.mpr h];rfl
theorem lh{n:Nat}(hn:n<=12){x:D}(h:aX 3 x=true):aX 4 (.tup [.int n,x])=true:=eO (aaq (by rw[Int.natAbs_natCast];exact aar hn (by decide))) h
variable {ρ ρ':a_}
theorem kT{e:CE}{d:D}(hk:W7 e=false)(he:bp Φ e ρ=ok d)(h:aX 4 d=true):∃d' ρ',hZ Φ (.ret e) ρ=ok (.rt d',ρ')/\aX 4 d'=true:=by
 rw[GD,DJ Φ e ρ hk,he];cases ha:aY bN d with
 |false=>rw[d6 ha];exact⟨_,_,rfl,h⟩
 |true =>
  rw[kl ha];exact⟨_,_,rfl,by rw[cS _ (λf=>by cases f<;>rfl)];exact h⟩
theorem kL{c:CE}{a rest:aq}(h:bp Φ c ρ=ok (.bl false)):bJ Φ (.ifs c a []::rest) ρ=bJ Φ rest ρ:=by
 rw[c9,Ae,h];rfl
theorem m5{c:CE}{a rest:aq}{d:D}(h:bp Φ c ρ=ok (.bl true))(ha:bJ Φ a ρ=ok (.rt d,ρ')):bJ Φ (.ifs c a []::rest) ρ=ok (.rt d,ρ'):=by
 rw[c9,Ae,h];show pY Φ rest (bJ Φ a ρ)=_;rw[ha];rfl
theorem pS{s:CS}{rest:aq}{d:D}(h:hZ Φ s ρ=ok (.rt d,ρ')):bJ Φ (s::rest) ρ=ok (.rt d,ρ'):=by
 rw[c9,h];rfl
theorem QG(Φ:bh)(Kr:oU (Φ 220))(ko:Φ 1020=cutD true)(Co:Φ 1021=cutD false)(Cn:Φ 1026=tG){n k:Nat}{rs:aJ}(hn:n<=5)(I:Dr 6 n rs)(hk:k<rs.length)(z w:Int)(hw:0<=w/\w<32)(C L M:D){odd:aa}(ho:odd.length=20)(hf:∀d∈odd,oX 2 d):
  ∃d ρ',bJ Φ Jj [some (mj n rs),some (.int z),some (.int n),some (.lst .ow (bg rs)),some (.int k),some C,some L,some (.lst .ow odd),some M,some (.int w),none]=ok (.rt d,ρ')/\aX 4 d=true:=by
 have DP:=I.x_;have zp:=I.n2;generalize hS:[some (mj n rs),some (.int z),some (.int n),some (.lst .ow (bg rs)),some (.int k),some C,some L,some (.lst .ow odd),some M,some (.int w),none]=ρ;have v1:bp Φ (.v 1) ρ=ok (.int z):=by rw[<- hS];rfl
 have v2:bp Φ (.v 2) ρ=ok (.int n):=by rw[<- hS];rfl
 have v3:bp Φ (.v 3) ρ=ok (.lst .al (bg rs)):=by rw[<- hS];show ok (D.lst .al (au aO (bg rs)))=_;rw[bC]
 have v4:bp Φ (.v 4) ρ=ok (.int k):=by rw[<- hS];rfl
 have v9:bp Φ (.v 9) ρ=ok (.int w):=by rw[<- hS];rfl
 have R5:∀j:Int,bp Φ (.cmp .lt (.v 9) (.int j)) ρ=ok (.bl (decide (w<j))):=λj=>by rw[Hn,v9];rfl
 have Gi:∀j:Int,bp Φ (.cmp .eq (.v 9) (.int j)) ρ=ok (.bl (decide (w=j))):=λj=>by rw[Hn,v9];rfl
 have dr:∀d∈bg rs,aX 2 d=true:=λd hd=>by obtain⟨r,hr,rfl⟩:=List.mem_map.mp hd;exact yi I hr
 have XY:∀{A:aa},(∀d∈A,aX 2 d=true)->∀d∈au aO A,aX 2 d=true:=λ{A} h d hd=>by
  rw[aM]at hd;obtain⟨x,hx,rfl⟩:=List.mem_map.mp hd;rw[cS _ (λf=>by cases f<;>rfl)];exact h x hx
 unfold Jj;by_cases Wt:w<20
 ·obtain⟨j,rfl⟩:∃j:Nat,w=(j:Int):=⟨w.toNat,by left⟩
  have hj:j<odd.length:=by left
  have fo:=hf _ (aa0 hj);have e1:bp Φ (.ix (.v 7) (.v 9)) ρ=ok odd[j]:=by
   rw[wd,v9,<- hS];show LZ (ok (.lst .al (au aO odd))) (ok (.int j))=_;rw[sD hf];exact Ue (aak hj) (eY fo.2)
  have s1:hZ Φ (.setI 3 (.v 4) (.ix (.v 7) (.v 9))) ρ=ok (.nx,ρ.set 3 (some (.lst .ow ((bg rs).set k odd[j])))):=by
   show bd (iK Φ (.ix (.v 7) (.v 9)) ρ) _=_;rw[Ub,e1,d6 (l_ fo.2)];show bd (bd (bp Φ (.v 4) ρ) intD) _=_;rw[v4];have hx:kZ (bg rs).length (k:Int)=some k:=by
    unfold kZ;rw[dN,if_pos (by left),if_pos (by left),Int.toNat_natCast]
   show(match vB ρ[3]? with|some ds=>(match kZ ds.length (k:Int)with|some j'=>ok (Fo.nx,ρ.set 3 (some (.lst .ow (ds.set j' odd[j]))))|none=>none)|none=>none)=_;rw[show ρ[3]?=some (some (.lst .ow (bg rs))) by rw[<- hS];rfl];show(match kZ (bg rs).length (k:Int)with|some j'=>ok (Fo.nx,ρ.set 3 (some (.lst .ow ((bg rs).set j' odd[j]))))|none=>none)=_;rw[hx]
  have e2:bp Φ (.tup [(.v 2),(.v 3)]) (ρ.set 3 (some (.lst .ow ((bg rs).set k odd[j]))))=ok (.tup [.int n,.lst .al (au aO ((bg rs).set k odd[j]))]):=by
   rw[<- hS];rfl
  have hd:∀d∈(bg rs).set k odd[j],aX 2 d=true:=λd hd=>by
   rcases List.mem_or_eq_of_mem_set hd with h|rfl
   ·exact dr d h
   ·exact fo.1
  obtain⟨d',ρ',e3,e4⟩:=kT rfl e2 (lh zp (oJ rfl (by rw[aM,List.length_map,List.length_set,dN];left) (XY hd)));refine⟨d',ρ',m5 (by rw[R5,decide_eq_true Wt]) ?_,e4⟩;rw[c9,s1];exact pS e3
 rw[show(Hv=.ifs (.cmp .lt (.v 9) (.int 20)) _ []) from rfl,kL (by rw[R5,decide_eq_false Wt])];by_cases w0:w=20
 ·have e1:bp Φ (.tup [(.v 2),(.bU 1026 [(.v 3),(.neg (.int 1))])]) ρ=ok (.tup [.int n,.lst .ow ((bg rs).map (aw aO)).reverse]):=by
   have:Φ 1026 [.lst .al (bg rs),.int (-1)]=ok (.lst .ow ((bg rs).map (aw aO)).reverse):=by rw[Cn];rfl
   rw[qv,bQ,v2,bQ,CG,bQ,v3,lO];show yw _ (dA _ (dA (yw (Φ 1026) (ok [.lst .al (bg rs),.int (-1)])) (ok [])))=_;rw[oR,this];rfl
  obtain⟨d',ρ',e3,e4⟩:=kT rfl e1 (lh zp (oJ rfl (by rw[List.length_reverse,List.length_map,dN];left) λd hd=>XY dr d (by rw[aM];exact List.mem_reverse.mp hd)));exact⟨d',ρ',m5 (by rw[Gi,decide_eq_true w0]) (pS e3),e4⟩
 rw[kL (by rw[Gi,decide_eq_false w0])];by_cases w1:w=21
 ·obtain⟨r,hr⟩:∃r,r∈rs/\kI (.lst .al (bg rs)) (.int (-1))=ok (rD r):=by
   have hl:rs.length - 1<rs.length:=by left
   refine⟨rs[rs.length - 1],aa0 hl,?_⟩;show(match(kZ (bg rs).length (-1)).bind λj=>(bg rs)[j]? with|some d=>ok (aw aO d)|none=>none)=_;have hx:kZ (bg rs).length (-1)=some (rs.length - 1):=by
    unfold kZ;rw[dN,if_neg (by decide),if_pos (by left)];congr 1;left
   have hy:(bg rs)[rs.length - 1]?=some (rD rs[rs.length - 1]):=by unfold bg;rw[List.getElem?_map,List.getElem?_eq_getElem hl];rfl
   rw[hx];show(match(bg rs)[rs.length - 1]? with|some d=>ok (aw aO d)|none=>none)=_;rw[hy];show ok (aw aO (rD _))=_;rw[rn]
  have e1:bp Φ (.tup [(.v 2),(.bin .add (.v 3) (.lst [(.ix (.v 3) (.neg (.int 1)))]))]) ρ=ok (.tup [.int n,.lst .ow (bg rs++[rD r])]):=by
   have c:bZ .add (.lst .al (bg rs)) (.lst .ow [rD r])=ok (.lst .ow (bg rs++[rD r])):=Dh rfl rfl (bC _ _) (by simp[au]) (by rw[dN];simp;left);rw[qv,bQ,v2,bQ,oE,v3,CH,bQ,wd,v3,lO];show yw _ (dA _ (dA (LG .add (ok (.lst .al (bg rs))) (yw _ (dA (kI (.lst .al (bg rs)) (.int (-1))) (ok [])))) (ok [])))=_;rw[hr.2];show yw _ (dA _ (dA (bZ .add (.lst .al (bg rs)) (.lst .ow [rD r])) (ok [])))=_;rw[c];rfl
  obtain⟨d',ρ',e3,e4⟩:=kT rfl e1 (lh zp (oJ rfl (by rw[List.length_append,dN];show _+1<=16;left) λd hd=>(List.mem_append.mp hd).elim (dr d) λh=>by cases List.mem_singleton.mp h;exact yi I hr.1));exact⟨d',ρ',m5 (by rw[Gi,decide_eq_true w1]) (pS e3),e4⟩
 rw[kL (by rw[Gi,decide_eq_false w1])];by_cases w2:w=22
 ·have c1:Φ 1021 [.lst .al (bg rs),.int k]=ok (.lst .ow (au aO ((bg rs).take k))):=by
   rw[Co];show(if (0:Int)<=k then ok (D.lst .ow (au aO (ml false (k:Int).toNat (bg rs))))else none)=_;rw[if_pos (by left),Int.toNat_natCast];rfl
  have c2:Φ 1020 [.lst .al (bg rs),.int ((k:Int)+1)]=ok (.lst .ow (au aO ((bg rs).drop (k+1)))):=by
   rw[ko];show(if (0:Int)<=(k:Int)+1 then ok (D.lst .ow (au aO (ml true ((k:Int)+1).toNat (bg rs))))else none)=_;rw[if_pos (by left),show((k:Int)+1).toNat=k+1 by left];rfl
  have tk:au aO ((bg rs).take k)=(bg rs).take k:=by unfold bg;rw[<- List.map_take];exact bC _ _
  have dk:au aO ((bg rs).drop (k+1))=(bg rs).drop (k+1):=by unfold bg;rw[<- List.map_drop];exact bC _ _
  rw[tk]at c1;rw[dk]at c2;have c3:bZ .add (.lst .ow ((bg rs).take k)) (.lst .ow ((bg rs).drop (k+1)))=ok (.lst .ow ((bg rs).take k++(bg rs).drop (k+1))):=Dh rfl rfl tk dk (by rw[List.length_take,List.length_drop,dN];left);have e1:bp Φ (.tup [(.v 2),(.bin .add (.bU 1021 [(.v 3),(.v 4)]) (.bU 1020 [(.v 3),(.bin .add (.v 4) (.int 1))]))]) ρ=ok (.tup [.int n,.lst .ow ((bg rs).take k++(bg rs).drop (k+1))]):=by
   have a1:bK Φ [(.v 3),(.v 4)] ρ=ok [.lst .al (bg rs),.int k]:=by rw[bQ,v3,bQ,v4];rfl
   have a2:bK Φ [(.v 3),(.bin .add (.v 4) (.int 1))] ρ=ok [.lst .al (bg rs),.int ((k:Int)+1)]:=by rw[bQ,v3,bQ,oE,v4];rfl
   rw[qv,bQ,v2,bQ,oE,CG,a1,CG,a2,oR,oR,c1,c2,sx,c3];rfl
  obtain⟨d',ρ',e3,e4⟩:=kT rfl e1 (lh zp (oJ rfl (by rw[List.length_append,List.length_take,List.length_drop,dN];left) λd hd=>(List.mem_append.mp hd).elim (λh=>dr d (List.mem_of_mem_take h)) λh=>dr d (List.mem_of_mem_drop h)));exact⟨d',ρ',m5 (by rw[Gi,decide_eq_true w2]) (pS e3),e4⟩
 rw[kL (by rw[Gi,decide_eq_false w2])];by_cases w3:w<25
 ·obtain⟨a,b,ql,i1⟩:∃a b:Int,(a=0/\b=1\/a = -1/\b=2)/\kI (.lst .ow [.tup [.int 0,.int 1],.tup [.int (-1),.int 2]]) (.int (w - 23))=ok (iH a b):=by
   rcases(by left:w=23\/w=24)with rfl|rfl
   ·exact⟨0,1,.inl ⟨rfl,rfl⟩,rfl⟩
   ·exact⟨-1,2,.inr ⟨rfl,rfl⟩,rfl⟩
  obtain⟨f,ds,e0,hs,hl,hd⟩:=Kr n rs a b hn I ql;have e1:bp Φ (.tup [(.v 2),(.call 220 [(.v 2),(.v 3),(.ix (.lst [(.tup [(.int 0),(.int 1)]),(.tup [(.neg (.int 1)),(.int 2)])]) (.bin .sub (.v 9) (.int 23)))])]) ρ=ok (.tup [.int n,aw d8 (.lst f ds)]):=by
   have a1:bK Φ [(.v 2),(.v 3),(.ix (.lst [(.tup [(.int 0),(.int 1)]),(.tup [(.neg (.int 1)),(.int 2)])]) (.bin .sub (.v 9) (.int 23)))] ρ=ok [.int n,.lst .al (bg rs),iH a b]:=by
    rw[bQ,v2,bQ,v3,bQ,wd,oE,v9];show dA _ (dA _ (dA (kI (.lst .ow [.tup [.int 0,.int 1],.tup [.int (-1),.int 2]]) (.int (w - 23))) _))=_;rw[i1];rfl
   have a2:au aL [.int n,.lst .al (bg rs),iH a b]=[.int n,.lst .fz (bg rs),iH a b]:=by
    show[D.int n,.lst .fz (au aL (bg rs)),iH a b]=_;rw[bC]
   rw[qv,bQ,v2,bQ,rV,a1,iZ,a2,e0];rfl
  have h3:aX 3 (aw d8 (.lst f ds))=true:=by
   rw[cS _ (λf=>by cases f<;>rfl)];exact oJ hs hl hd
  obtain⟨d',ρ',e3,e4⟩:=kT rfl e1 (lh zp h3);exact⟨d',ρ',m5 (by rw[R5,decide_eq_true w3]) (pS e3),e4⟩
 rw[kL (by rw[R5,decide_eq_false w3])];obtain⟨g1,g2⟩:=eL (z.fdiv 32) (b:=10) (by decide);obtain⟨j,hj⟩:∃j:Nat,(z.fdiv 32).fmod 10=(j:Int):=⟨((z.fdiv 32).fmod 10).toNat,by left⟩
 let R:D:=.lst .fz (bg rs)
 let T:D:=.tup (bg rs)
 have t1:mU .tuple1 [.lst .al (bg rs)]=ok T:=by
  show ok (D.tup (au aO (bg rs)))=_;rw[bC]
 let A:aa:=[.tup [.int 0,R],.tup [.int 13,R],.tup [.bl true,R],.tup [.int 12,R],.tup [.int n,T],.lst .fz [.int n,R],.bu]
 have mR:aw aO R=R:=by show D.lst .fz (au aO (bg rs))=_;rw[bC]
 have mT:∀g,aw g T=T:=λg=>by show D.tup (au g (bg rs))=_;rw[bC]
 have s1:∃ρ',hZ Φ (.asg (.nm 10) (.lst [(.tup [(.int 0),(.v 3)]),(.tup [(.int 13),(.v 3)]),(.tup [(.bl true),(.v 3)]),(.tup [(.int 12),(.v 3)]),(.tup [(.v 2),(.bf .tuple1 [(.v 3)])]),(.lst [(.v 2),(.v 3)]),.bu])) ρ=ok (.nx,ρ')/\bp Φ (.v 1) ρ'=ok (.int z)/\bp Φ (.v 2) ρ'=ok (.int n)/\bp Φ (.v 3) ρ'=ok R/\bp Φ (.v 10) ρ'=ok (.lst .fz A):=by
  have e1:bp Φ (.lst [(.tup [(.int 0),(.v 3)]),(.tup [(.int 13),(.v 3)]),(.tup [(.bl true),(.v 3)]),(.tup [(.int 12),(.v 3)]),(.tup [(.v 2),(.bf .tuple1 [(.v 3)])]),(.lst [(.v 2),(.v 3)]),.bu]) ρ=ok (.lst .ow [.tup [.int 0,.lst .al (bg rs)],.tup [.int 13,.lst .al (bg rs)],.tup [.bl true,.lst .al (bg rs)],.tup [.int 12,.lst .al (bg rs)],.tup [.int n,T],.lst .ow [.int n,.lst .al (bg rs)],.bu]):=by
   simp only[CH,bQ,qv,lO,uo,VT,Qq,Qr,v2,v3,uz,oR,t1]
  have ha:aY bN (.lst .ow [.tup [.int 0,.lst .al (bg rs)],.tup [.int 13,.lst .al (bg rs)],.tup [.bl true,.lst .al (bg rs)],.tup [.int 12,.lst .al (bg rs)],.tup [.int n,T],.lst .ow [.int n,.lst .al (bg rs)],.bu])=true:=rfl;have hz:aw aL (.lst .ow [.tup [.int 0,.lst .al (bg rs)],.tup [.int 13,.lst .al (bg rs)],.tup [.bl true,.lst .al (bg rs)],.tup [.int 12,.lst .al (bg rs)],.tup [.int n,T],.lst .ow [.int n,.lst .al (bg rs)],.bu])=.lst .fz A:=by
   show D.lst .fz [.tup [.int 0,.lst .fz (au aL (bg rs))],.tup [.int 13,.lst .fz (au aL (bg rs))],.tup [.bl true,.lst .fz (au aL (bg rs))],.tup [.int 12,.lst .fz (au aL (bg rs))],.tup [.int n,aw aL T],.lst .fz [.int n,.lst .fz (au aL (bg rs))],.bu]=_;rw[bC,mT]
  rw[m6,Oz,e1,kl ha,hz,<- hS];refine⟨_,rfl,rfl,rfl,?_,?_⟩
  ·show ok (D.lst .fz (au aO (au aL (bg rs))))=_;rw[bC,bC]
  ·show ok (D.lst .fz [.tup [.int 0,aw aO R],.tup [.int 13,aw aO R],.tup [.bl true,aw aO R],.tup [.int 12,aw aO R],.tup [.int n,aw aO T],.lst .fz [.int n,aw aO R],.bu])=_;rw[mR,mT]
 obtain⟨ρ1,s1,u1,u2,u3,Yo⟩:=s1;have dR:aX 3 R=true:=tF I rfl;have dT:aX 3 T=true:=by
  show(decide ((bg rs).length<=16)&&(bg rs).all (aX 2))=true;rw[decide_eq_true (by rw[dN];left),List.all_eq_true.mpr dr];rfl
 have dn:aX 3 (.int n)=true:=aaq (by rw[Int.natAbs_natCast];exact aar zp (by decide))
 let W:aa:=A++[.tup [.int n,.lst .al []],.tup [.int n],.tup [R,.int n]]
 have e5:bp Φ (.bin .add (.v 10) (.lst [(.tup [(.v 2),(.lst [])]),(.tup [(.v 2)]),(.tup [(.v 3),(.v 2)])])) ρ1=ok (.lst .ow W):=by
  have a1:bp Φ (.lst [(.tup [(.v 2),(.lst [])]),(.tup [(.v 2)]),(.tup [(.v 3),(.v 2)])]) ρ1=ok (.lst .ow [.tup [.int n,.lst .ow []],.tup [.int n],.tup [R,.int n]]):=by
   simp only[CH,bQ,qv,lO,u2,u3,uz,oR]
  rw[oE,Yo,a1];show(if fK .fz=false/\fK .ow=false/\(7+3:Nat)<=eE then ok (D.lst .ow (au aO (A++[.tup [.int n,.lst .ow []],.tup [.int n],.tup [R,.int n]])))else none)=_;rw[if_pos ⟨rfl,rfl,by decide⟩];show ok (D.lst .ow ([.tup [.int 0,aw aO R],.tup [.int 13,aw aO R],.tup [.bl true,aw aO R],.tup [.int 12,aw aO R],.tup [.int n,aw aO T],.lst .fz [.int n,aw aO R],.bu,.tup [.int n,.lst .al []],.tup [.int n],.tup [aw aO R,.int n]]))=_;rw[mR,mT];rfl
 have hW:∀d∈W,aX 4 d=true/\aw aO d=d:=by
  intro d hd;simp only[W,A,List.cons_append,List.nil_append,List.mem_cons,List.not_mem_nil,or_false]at hd;have q1:∀{x y:D},aw aO x=x->aw aO y=y->aw aO (.tup [x,y])=.tup [x,y]:=λh1 h2=>by rw[aw,au,au,au,h1,h2]
  rcases hd with rfl|rfl|rfl|rfl|rfl|rfl|rfl|rfl|rfl|rfl
  ·exact⟨eO (by decide +kernel) dR,q1 rfl mR⟩
  ·exact⟨eO (by decide +kernel) dR,q1 rfl mR⟩
  ·exact⟨eO (by decide +kernel) dR,q1 rfl mR⟩
  ·exact⟨eO (by decide +kernel) dR,q1 rfl mR⟩
  ·exact⟨eO dn dT,q1 rfl (mT _)⟩
  ·refine⟨?_,?_⟩
   ·show(true&&(decide ((2:Nat)<=16)&&(aX 3 (.int n)&&(aX 3 R&&true))))=true;rw[dn,dR];rfl
   ·rw[aw,au,au,au,mR];rfl
  ·exact⟨rfl,rfl⟩
  ·exact⟨eO dn rfl,q1 rfl rfl⟩
  ·refine⟨?_,rfl⟩;show(decide ((1:Nat)<=16)&&(aX 3 (.int n)&&true))=true;rw[dn];rfl
  ·exact⟨eO dR dn,q1 mR rfl⟩
 have U5:j<W.length:=by show j<10;left
 have e6:bp Φ (.ix (.bin .add (.v 10) (.lst [(.tup [(.v 2),(.lst [])]),(.tup [(.v 2)]),(.tup [(.v 3),(.v 2)])])) (.bin .mod (.bin .fdiv (.v 1) (.int 32)) (.int 10))) ρ1=ok W[j]:=by
  rw[wd,e5];have:bp Φ (.bin .mod (.bin .fdiv (.v 1) (.int 32)) (.int 10)) ρ1=ok (.int j):=by
   rw[oE,oE,u1,uo,uo,sx,Dk (by decide) (by decide),sx,Dj (by decide),hj]
  rw[this];exact Ue (aak U5) (hW _ (aa0 U5)).2
 obtain⟨d',ρ',e3,e4⟩:=kT rfl e6 (hW _ (aa0 U5)).1;refine⟨d',ρ',?_,e4⟩;rw[c9,s1];exact pS e3
theorem kf{l:ae}(hl:l.length<=16)(h:∀x∈l,-20<=x/\x<=20):Pl 1 (.tup (ag l)) :=
 ⟨oK hl h,λg=>by rw[aw,bP],λp=>by show aP p (ag l)=false;rw[di]⟩
theorem NH{q:Rat}{k:Nat}(hk:k<=50)(h:Sm k q):Pl 1 (qD q):=⟨yj hk h,λ_=>rfl,λ_=>rfl⟩
theorem HZ{a b:ae}(h:a.length+b.length<=1000):bZ .add (.tup (ag a)) (.tup (ag b))=ok (.tup (ag (a++b))):=by
 show(if (ag a).length+(ag b).length<=eE then ok (D.tup (au aO (ag a++ag b)))else none)=_;have e:ag a++ag b=ag (a++b):=by unfold ag;rw[List.map_append]
 rw[if_pos (by unfold ag;rw[List.length_map,List.length_map];exact Nat.le_trans h (by decide)),e,bP]
theorem NA(t b:Int)(q:Rat)(h1:q.num=t)(h2:(q.den:Int)=b):D.tup [.int t,.int b]=qD q:=by
 unfold qD;rw[h1,h2]
theorem IP(Φ:bh)(rO:uK (Φ 202))(Ks:Dy (Φ 215))(Kr:oU (Φ 220))(ko:Φ 1020=cutD true)(Co:Φ 1021=cutD false)(Cn:Φ 1026=tG)(P_:Φ 1028=w6):Dz (mk Φ 2 11 oQ):=by
 intro n rs z hn I;have DP:=I.x_;obtain⟨k,r,hk,e1⟩:=QH Φ Ks (n:=n) z I.ne DP;have RE:=(List.getElem?_eq_some_iff.mp hk).1;have hr:r∈rs:=aap hk;have FH:=I.d5 r hr;have hlen:r.2.length<=5:=aas FH.len hn;have zq:∀x∈r.2,-20<=x/\x<=20:=λx hx=>by have:=FH.2 x hx;left
 have sq:=I.sm r hr;have pL:Pl 1 (.tup (ag r.2)):=kf (by left) zq;have hb:(r.1.den:Int).natAbs<64:=by rw[Int.natAbs_natCast];exact sq.2
 have l1:mU .list1 [.tup (ag r.2)]=ok (.lst .ow (ag r.2)):=by
  show ok (D.lst .ow (au aO (ag r.2)))=_;rw[bP]
 have d1:aX 1 (.lst .ow (ag r.2))=true:=oK (by left) zq;have l2:bZ .add (.tup (ag r.2)) (.tup [.int n])=ok (.tup (ag (r.2++[(n:Int)]))):=HZ (b:=[(n:Int)]) (by simp;left);have l3:bZ .add (.tup [.int (-1)]) (.tup (ag r.2))=ok (.tup (ag (-1::r.2))):=HZ (a:=[-1]) (by simp;left);have l4:bZ .add (.tup (ag r.2)) (.tup (ag r.2))=ok (.tup (ag (r.2++r.2))):=HZ (by left);have l5:Φ 1028 [.tup (ag r.2),.int (-1)]=ok (.tup (ag r.2.reverse)):=by
  rw[P_];show(if (-1:Int) = -1/\aP anyF (ag r.2)=false then ok (D.tup (ag r.2).reverse)else none)=_;rw[if_pos ⟨rfl,di _ _⟩];unfold ag;rw[List.map_reverse]
 have qq:∀(t b:Int) (q:Rat),q.num=t->(q.den:Int)=b->Sm 35 q->∃Q,Φ 202 [qD r.1,.tup [.int t,.int b]]=ok Q/\Pl 1 Q:=λt b q a1 a2 a3=>by
  rw[NA t b q a1 a2];exact⟨_,rO _ _ (sq.mono (by decide)) (a3.mono (by decide)),NH (by decide) (sq.add a3)⟩
 obtain⟨odd,M,e2,ho,hf⟩:=Ju Φ (z:=z) (n:=n) (NH (by decide) sq) pL (iC0:=rfl) (iC1:=rfl) sq.1 hb l1 d1 l2 (kf (by simp;left) λx hx=>by
   rcases List.mem_append.mp hx with h|h
   ·exact zq x h
   ·cases List.mem_singleton.mp h;left) l3 (kf (by simp;left) λx hx=>by
   rcases List.mem_cons.mp hx with rfl|h
   ·decide
   ·exact zq x h) l4 (kf (by simp;left) λx hx=>(List.mem_append.mp hx).elim (zq x) (zq x)) l5 (kf (by simp;left) λx hx=>zq x (List.mem_reverse.mp hx))
   (qq 1 7 (1 / 7) (by decide +kernel) (by decide +kernel) (by constructor<;>decide +kernel)) (qq 1 10000000000 (1 / 10000000000) (by decide +kernel) (by decide +kernel) (by constructor<;>decide +kernel)) (some (mj n rs)) (some (.lst .ow (bg rs))) (some (.int k))
 obtain⟨d,ρ',e3,hd⟩:=QG Φ Kr ko Co Cn hn I RE z (z.fmod 32) (eL z (by decide)) (qD r.1) (.tup (ag r.2)) M ho hf;refine⟨d,?_,hd⟩;rw[mk_eq (ar:=2) (ds:=[mj n rs,.int z]) rfl];show mi (bJ Φ oQ [some (mj n rs),some (.int z),none,none,none,none,none,none,none,none,none])=_;unfold oQ;rw[wJ Φ _ _ _ _ e1,wJ Φ _ _ _ _ e2,e3];rfl
end DI
end
section
set_option maxHeartbeats 1000000
namespace DI
open PySem PySem.Spec PyProof.Rows L2
noncomputable def pG:Nat->Nat
 |0=>20
 |n+1=>16*(pG n+2)+4
theorem tQ{L:Nat}:∀{ts:aj},(∀t∈ts,t.length<=L)->piled ts<=ts.length*(L+2)
 |[],_=>by rw[piled_nil];left
 |t::ts,h=>by
  rw[piled_cons,List.length_cons,Nat.add_mul];have:=tQ (ts:=ts) λx hx=>h x (aag _ hx);have:=h t aah;left
theorem tW:∀ts:aj,(listText ts).length<=piled ts+2
 |[]=>by decide +kernel
 |t::r=>by
  have h:=textFrom_length_pos r 1 (("[" : Str)++(if (0:Nat)>0 then ", " else "" : String)++t) (Nat.succ_pos 0);have e:((("[" : Str)++(if (0:Nat)>0 then ", " else "" : String)++t)).length=1+t.length:=by
   rw[strLen_append,strLen_append];rfl
  have hX:(listText (t::r)).length=(textFrom 0 "[" (t::r)).length+1:=by
   show(textFrom 0 "[" (t::r) ++ "]").length=_;rw[strLen_append];rfl
  have hY:(textFrom 0 "[" (t::r)).length=(textFrom 1 (("[" : Str)++(if (0:Nat)>0 then ", " else "" : String)++t) r).length:=rfl;rw[hX,hY,h,e,piled_cons];left
theorem qK(ts:aj):(tupleText ts).length<=piled ts+3:=by
 unfold tupleText;rw[strLen_append,strLen_append];have h1:(("(" : Str)).length=1:=by decide +kernel
 have h2:((if ts.length==1 then ",)" else ")" : String):Str).length<=2:=by split<;>decide +kernel
 have h3:(Str.join ", " ts).length<=piled ts:=by
  cases ts with
  |nil=>exact aai _
  |cons t ts=>have:=join_length_add (t::ts) (by simp);left
 left
theorem lD:∀ds:aa,PyData.shownAll (eu ds)=ds.map λd=>(toPy d).shown
 |[]=>by rw[eu,PyData.shownAll];rfl
 |d::ds=>by rw[eu,PyData.shownAll,lD ds];rfl
theorem showableAll_of:∀{ds:aa},(∀d∈ds,(toPy d).showable=true)->PyData.showableAll (eu ds)=true
 |[],_=>by rw[eu,PyData.showableAll]
 |d::ds,h=>by rw[eu,PyData.showableAll,h d List.mem_cons_self,showableAll_of λx hx=>h x (List.mem_cons_of_mem _ hx)];rfl
theorem lQ{n:Nat}:∀{ds:aa},(∀d∈ds,(toPy d).depth<=n)->PyData.depthAll (eu ds)<=n
 |[],_=>by rw[eu,PyData.depthAll];left
 |d::ds,h=>by
  rw[eu,PyData.depthAll];exact Nat.max_le.mpr ⟨h d aah,lQ λx hx=>h x (aag _ hx)⟩
theorem En{i:Int}(h:decide (i.natAbs<2 ^ 50)=true):(toPy (.int i)).showable=true/\(toPy (.int i)).shown.length<=20:=by
 have h:=aab h;rw[toPy,PyData.showable,PyData.shown];have h2:i.natAbs<10 ^ 16:=aaj h (by decide);refine⟨aaq ?_,?_⟩
 ·by_cases z:i.natAbs=0
  ·rw[z];decide
  ·exact aaj ((Nat.log2_lt z).mpr h) (by decide)
 ·have:=int_text_length_le10 (a:=i) (k:=16) (by decide) h2;show(Str.ofString (toString i)).length<=20;rw[ofString_len];left
theorem za(n:Nat):20<=pG n:=by cases n<;>(unfold pG;left)
theorem Eo:∀(n:Nat) (d:D),aX n d=true->dX n d=true/\(toPy d).depth<=n/\(toPy d).showable=true/\(toPy d).shown.length<=pG n:=by
 intro n;have hb:∀b:Bool,((toPy (.bl b)).shown).length<=20:=λb=>by cases b<;>(rw[toPy,PyData.shown];decide +kernel)
 have hn:((toPy .bu).shown).length<=20:=by rw[toPy,PyData.shown];decide +kernel
 have hs:((toPy (.str "0")).shown).length<=20:=by rw[toPy,PyData.shown];decide +kernel
 have leaf:∀(m:Nat) (d:D),aX m d=true->gG d=true->dX m d=true/\(toPy d).depth<=m/\(toPy d).showable=true/\(toPy d).shown.length<=pG m:=λm d h hf=>by
  have hm:=za m;cases d<;>first | (cases hf;done)|skip
  ·exact⟨by cases m<;>rfl,by rw[toPy,PyData.depth];left,by rw[toPy,PyData.showable],aas hn hm⟩
  ·exact⟨by cases m<;>rfl,by rw[toPy,PyData.depth];left,by rw[toPy,PyData.showable],aas (hb _) hm⟩
  ·obtain⟨a,b⟩:=En (by cases m<;>exact h);exact⟨by cases m<;>rfl,by rw[toPy,PyData.depth];left,a,aas b hm⟩
  ·rename_i t;have:t = "0":=by cases m<;>exact beq_iff_eq.mp h
   subst this;exact⟨by cases m<;>rfl,by rw[toPy,PyData.depth];left,by rw[toPy,PyData.showable],aas hs hm⟩
 induction n with
 |zero =>
  intro d h;cases d<;>first|exact leaf _ _ h rfl|cases h
 |succ n ih =>
  intro d h;have sub:∀ds:aa,ds.length<=16->(∀d∈ds,aX n d=true)->piled (PyData.shownAll (eu ds))<=16*(pG n+2)/\PyData.depthAll (eu ds)<=n/\PyData.showableAll (eu ds)=true/\ds.all (dX n)=true:=λds hl hd=>by
   refine⟨?_,lQ λd hx=>(ih d (hd d hx)).2.1,showableAll_of λd hx=>(ih d (hd d hx)).2.2.1,List.all_eq_true.mpr λd hx=>(ih d (hd d hx)).1⟩;rw[lD];refine aas (tQ (L:=pG n) λt ht=>?_) (Nat.mul_le_mul_right _ (by simpa using hl));obtain⟨d,hx,rfl⟩:=List.mem_map.mp ht;exact(ih d (hd d hx)).2.2.2
  cases d<;>first|exact leaf _ _ h rfl | (cases h;done)|skip
  ·obtain⟨m,e,h1,h2⟩:=b8 h;obtain rfl:n=m:=by left
   obtain⟨a,b,c,e⟩:=sub _ h1 h2;refine⟨e,by rw[toPy,PyData.depth];left,by rw[toPy,PyData.showable];exact c,?_⟩;rw[toPy,PyData.shown];refine aas (qK _) ?_;show _<=16*(pG n+2)+4;left
  ·obtain⟨m,e,h1,h2,_⟩:=gI h;obtain rfl:n=m:=by left
   obtain⟨a,b,c,e⟩:=sub _ h1 h2;refine⟨e,by rw[toPy,PyData.depth];left,by rw[toPy,PyData.showable];exact c,?_⟩;rw[toPy,PyData.shown];refine aas (tW _) ?_;show _<=16*(pG n+2)+4;left
theorem Iy{d:D}(h:aX 4 d=true):vm d=true:=by
 obtain⟨a,b,c,e⟩:=Eo 4 d h;have h4:pG 4<=sizeLine:=by rw[sizeLine_eq];decide
 have up:∀(k m:Nat) (d:D),dX m d=true->dX (m+k) d=true:=λk=>by
  induction k with
  |zero=>intro m d h;exact h
  |succ k ih =>
   intro m d h;have:∀(m:Nat) (d:D),dX m d=true->dX (m+1) d=true:=by
    intro m;induction m with
    |zero=>intro d h;cases d<;>first|rfl|cases h
    |succ m ih =>
     intro d h;cases d<;>first|rfl | (cases h;done)|skip
     ·exact List.all_eq_true.mpr λd hd=>ih d (List.all_eq_true.mp h d hd)
     ·exact List.all_eq_true.mpr λd hd=>ih d (List.all_eq_true.mp h d hd)
   exact this _ _ (ih m d h)
 unfold vm;rw[up 16 4 d a,decide_eq_true (by left:(toPy d).depth<=60),c,decide_eq_true (Nat.le_trans e h4)];rfl
end DI
end
section
set_option maxHeartbeats 1000000
namespace DI
open PySem (Str)
def mX(m:aH):Prop:=∀d,aX 8 d=true->aw aL d=d->m [d]=ok (.bl (cX d))
theorem qw{d:D}(h:bY d=true):∃(n:Nat) (f:Fl) (rows:aa),d=.tup [.int n,.lst f rows]/\1<=n/\n<=12/\rows.all (fV n)=true/\fH ((rows.map bL).map (·.2))=true/\(eA (rows.map bL)).sum=1:=by
 unfold bY at h;split at h
 ·rename_i m f rows;cases m with
  |int n =>
   have h:(decide (1<=n)&&(decide (n<=12)&&iW n rows))=true:=h;rw[Bool.and_eq_true,Bool.and_eq_true]at h;obtain⟨h1,h2,h3⟩:=h;have h1:=aab h1;have h2:=aab h2;obtain⟨n',rfl⟩:∃n':Nat,n=(n':Int):=⟨n.toNat,by left⟩
   unfold iW at h3;rw[Bool.and_eq_true,Bool.and_eq_true]at h3;exact⟨n',f,rows,rfl,by left,by left,h3.1,h3.2.1,aab h3.2.2⟩
  |_=>cases h
 ·cases h
theorem Dt(n:Int)(rs:aJ):(rs.map λr=>dB (.tup (ag r.2)) n).all id=(bg rs).all (kX n):=by
 unfold bg;rw[List.all_map,List.all_map];rfl
theorem Ex(Φ:bh)(h11:uL (Φ 11))(h45:uM (Φ 45)):mX (mk Φ 1 1 d_):=by
 intro d hd hz;have e1:=h45 d hd hz;have al:=eY hz;cases hB:bY d with
 |false =>
  rw[hB]at e1;have:cX d=false:=by unfold cX;rw[hB];rfl
  rw[this];simp[mk_eq,d_,al,hz,e1]
 |true =>
  rw[hB]at e1;obtain⟨n,f,rows,rfl,n1,n2,ha,hr,hs⟩:=qw hB;have Pf:cX (.tup [.int n,.lst f rows])=rows.all (kX n):=by unfold cX;rw[hB];rfl
  rw[Pf];have OU:=qQ ha;have B0:=dH (D.tup.inj hz);obtain⟨k,hk,_,hd2⟩:=b8 hd;obtain rfl:k=7:=by left
  obtain⟨k,RF,hlen,Hg,FF⟩:=gI (hd2 (.lst f rows) (by simp));obtain⟨rfl,He⟩:=rP (B0 (.lst f rows) (by simp)) FF
  let rs:=rows.map bL
  have OT:rows=bg rs:=OU;have e2:bp Φ wg [some (.tup [.int n,.lst .fz rows])]=ok (.lst .ow (mm (rs.map λr=>dB (.tup (ag r.2)) n))):=by
   unfold wg;rw[cU (xs:=[.lst .fz rows]) (items:=rs.map rD) (ds:=rs.map λr=>.bl (dB (.tup (ag r.2)) n)) ?_ (by rw[eK,He,OT];rfl) (cI λr hr=>?_) (by simp[rs];exact cm (by left))]
   ·simp[mm,aM]
   ·rw[bQ,wd,Qp,lO];show dA (LZ (ok (aw aO (.tup [.int n,.lst .fz rows]))) (ok (.int 1))) (ok [])=_;rw[al];show dA (ok (aw aO (.lst .fz rows))) (ok [])=_;rw[eY (B0 (.lst .fz rows) (by simp))];rfl
   ·have e:=h11 (.tup (ag r.2)) n (by
     obtain⟨d,hU,rfl⟩:=List.mem_map.mp hr;obtain⟨e1,_,e3⟩:=kb (List.all_eq_true.mp ha d hU);have:=Hg d hU;rw[e1]at this;obtain⟨m,hm,_,h'⟩:=b8 this;exact ux (h' (.tup (ag (bL d).2)) (by simp)))
    have ez:aw aL (.tup [.int n,.lst .fz rows])=.tup [.int n,.lst .fz rows]:=hz;refine⟨[some (qD r.1),some (.tup (ag r.2)),some (.tup [.int n,.lst .fz rows])],?_,by simp,?_⟩
    ·show cY (.tp [0,1]) (rD r) [none,none,some (aw aL (.tup [.int n,.lst .fz rows]))]=_;rw[ez];simp[rD]
    ·rw[rV,bQ,bQ,lO,wd,Qp,Qp];show jB (Φ 11) (dA (ok (aw aO (.tup (ag r.2)))) (dA (LZ (ok (aw aO (.tup [.int n,.lst .fz rows]))) (ok (.int 0))) (ok [])))=_;rw[al];show jB (Φ 11) (dA (ok (aw aO (.tup (ag r.2)))) (dA (ok (.int n)) (ok [])))=_;simp[e]
  have e3:mU .all1 [.lst .ow (mm (rs.map λr=>dB (.tup (ag r.2)) n))]=ok (.bl (rows.all (kX n))):=by
   show(match i6 (mm (rs.map λr=>dB (.tup (ag r.2)) n))with|some bs=>ok (D.bl (bs.all id))|none=>none)=_;unfold mm;rw[ll];show ok (D.bl ((rs.map λr=>dB (.tup (ag r.2)) n).all id))=_;rw[Dt,<- OT]
  have ez:aw aL (.tup [.int n,.lst .fz rows])=.tup [.int n,.lst .fz rows]:=hz;unfold d_;rw[mk_eq (ar:=1) (ds:=[_]) rfl];show mi (bJ Φ [.ret (.and [(.call 45 [(.v 0)]),(.bf .all1 [wg])])] [some (.tup [.int n,.lst .fz rows])])=_;have c45:bp Φ (.call 45 [(.v 0)]) [some (.tup [.int n,.lst .fz rows])]=ok (.bl true):=by
   rw[rV,bQ,Qp,lO];show jB (Φ 45) (dA (ok (aw aO (.tup [.int n,.lst .fz rows]))) (ok []))=_;rw[al];show DQ (Φ 45 [aw aL (.tup [.int n,.lst .fz rows])])=_;rw[ez,e1];rfl
  have call:bp Φ (.bf .all1 [wg]) [some (.tup [.int n,.lst .fz rows])]=ok (.bl (rows.all (kX n))):=by
   rw[Qr,bQ,e2,lO];exact e3
  rw[c9,GD];have:iK Φ (.and [(.call 45 [(.v 0)]),(.bf .all1 [wg])]) [some (.tup [.int n,.lst .fz rows])]=ok (.bl (rows.all (kX n)),[some (.tup [.int n,.lst .fz rows])]):=by
   show cW _ _ (bp Φ (.and [(.call 45 [(.v 0)]),(.bf .all1 [wg])]) _)=_;rw[Qs,Lo,c45,Lp,call];rfl
  rw[this];rfl
def HC(m:aH):Prop:=∀d,aX 8 d=true->aw aL d=d->m [d]=if cX d then ok .bu else some (.error 1)
theorem Nm(Φ:bh)(PZ:mX (Φ 16)):HC (mk Φ 1 1 bD):=by
 intro d hd hz;have e1:=PZ d hd hz;have al:=eY hz;cases h:cX d with
 |true=>rw[h]at e1;simp[mk_eq,bD,al,hz,e1]
 |false=>rw[h]at e1;simp[mk_eq,bD,al,hz,e1]
noncomputable def lR(g h:Int)(r:Row):Bool:=decide (g∈r.2)&&decide (h∈r.2)
theorem t7(h:Int):∀ns:ae,inD (.int h) (ag ns)=decide (h∈ns)
 |[]=>rfl
 |x::xs=>by
  show(ia (.int x) (.int h)||inD (.int h) (ag xs))=_;rw[mJ,t7 h xs];by_cases e:h=x<;>simp[e,eq_comm]
theorem qt:∀ns:ae,(ag ns).all gG=true
 |[]=>rfl
 |x::xs=>by show(gG (.int x)&&(ag xs).all gG)=true;rw[qt xs];rfl
theorem Qz(h:Int)(ns:ae):ej .Hb (.int h) (.tup (ag ns))=ok (.bl (decide (h∈ns))):=by
 show(if gG (.int h)&&(ag ns).all gG then ok (D.bl (inD (.int h) (ag ns)))else none)=_;rw[qt,t7];rfl
noncomputable def F4:CE:=.comp 2 (.tp [0,1]) [1,2] .seq [(.ix (.v 0) (.int 1))] [(.and [(.cmp .Hb (.v 2) (.v 1)),(.cmp .Hb (.v 3) (.v 1))])] (.v 0)
def mV:aq:=[.asg (.nm 3) F4,.ret (.call 2 [(.bf .lZ [(.v 3)]),(.ix (.v 0) (.int 0))])]
noncomputable def F2:CE:=.comp 1 (.nm 0) [1] .jZ [(.ix (.v 0) (.int 0))] [] (.call 19 [(.v 1),(.v 0),(.v 0)])
def eV:aq:=[.ex (.call 17 [(.v 0)]),.asg (.nm 1) (.call 14 [(.ix (.v 0) (.int 1))]),.ret F2]
def QP(m:aH):Prop:=∀(rs:aJ) (b:Nat) (g h:Int),0<b->b<2 ^ 9000->rs.length<=1000->∃q:Rat,m [.tup [.int b,.lst .fz (uO b rs)],.int g,.int h]=ok (qD q)
theorem Td(Φ:bh)(h2:jF (Φ 2)):QP (mk Φ 3 4 mV):=by
 intro rs b g h b0 b1 hl;have k1:∀a,bp Φ F4 [some (.tup [.int b,.lst .fz (uO b rs)]),some (.int g),some (.int h),a]=ok (.lst .ow (ag ((eA (rs.filter (lR g h))).map (dS b)))):=λa=>by
  unfold F4;rw[cU (xs:=[.lst .fz (uO b rs)]) (items:=rs.map λr=>.tup [.int (dS b r.1),.tup (ag r.2)]) (ds:=(rs.filter (lR g h)).map λr=>.int (dS b r.1)) (by simp) (by rw[eK,BB];rfl) (dj λr hr=>⟨[some (.int (dS b r.1)),some (.tup (ag r.2)),some (.int g),some (.int h)],by simp[bE],by
   by_cases hg:g∈r.2<;>by_cases hh:h∈r.2<;>simp[Qz,lR,hg,hh],λ_=>by simp⟩) ?_]
  ·simp[ag,aM,eA]
  ·have:=aaP (lR g h) rs;rw[List.length_map];exact cm (by left)
 have k4:∀f,mU .lZ [.lst f (ag ((eA (rs.filter (lR g h))).map (dS b)))]=ok (.int ((eA (rs.filter (lR g h))).map (dS b)).sum):=λf=>by
  show(match intsOf (ag ((eA (rs.filter (lR g h))).map (dS b)))with|some ns=>ok (D.int ns.sum)|none=>none)=_;unfold ag;rw[bw]
 have k3:=h2.1 ((eA (rs.filter (lR g h))).map (dS b)).sum b (by left) (by rw[Int.natAbs_natCast];exact b1);exact⟨_,by simp[mk_eq,mV,DJ Φ F4 _ rfl,k1,k4,k3];rfl⟩
def HB(m:aH):Prop:=∀d,aX 8 d=true->aw aL d=d->(cX d=true->∃r,m [d]=ok r)/\(cX d=false->m [d]=some (.error 1))
theorem Nk(Φ:bh)(Vx:lq (Φ 14))(h17:HC (Φ 17))(h19:QP (Φ 19)):HB (mk Φ 1 2 eV):=by
 intro d hd hz;have e1:=h17 d hd hz;have al:=eY hz;refine⟨λhg=>?_,λhg=>?_⟩
 ·rw[hg,if_pos rfl]at e1;have hB:bY d=true:=by unfold cX at hg;rw[Bool.and_eq_true]at hg;exact hg.1
  obtain⟨n,f,rows,rfl,n1,n2,ha,hr,hs⟩:=qw hB;have OU:=qQ ha;have B0:=dH (D.tup.inj hz);obtain⟨k,hk,_,hd2⟩:=b8 hd;obtain rfl:k=7:=by left
  obtain⟨k,RF,hlen,Hg,FF⟩:=gI (hd2 (.lst f rows) (by simp));obtain⟨rfl,He⟩:=rP (B0 (.lst f rows) (by simp)) FF;have hl:(rows.map bL).length<=16:=by simpa using hlen
  have sm:z_ 50 (eA (rows.map bL)):=uw (n:=k) hl (λr UL=>by
   obtain⟨d,hU,rfl⟩:=List.mem_map.mp UL;have:=(kb (List.all_eq_true.mp ha d hU)).1;rw[<- this];exact Hg d hU)
  generalize rows.map bL=rs at *;subst OU;have e2:=Vx rs 50 sm;have hb:=sm.lcm;have RK:=sm.Ot;have hU:D.tup [.int n,.lst .fz (bg rs)]=mj n rs:=rfl;have m2:aw aO (mj n rs)=mj n rs:=by simp[mj]
  have m1:aw aL (mj n rs)=mj n rs:=by simp[mj]
  have x0:kI (mj n rs) (.int 0)=ok (.int n):=by rw[<- hU];simp
  have x1:kI (mj n rs) (.int 1)=ok (.lst .fz (bg rs)):=by rw[<- hU];simp
  rw[hU]at e1 ⊢;generalize jo (eA rs)=b at *;have ch:∀k:Nat,∃q:Rat,Φ 19 [.tup [.int b,.lst .fz (uO b rs)],.int k,.int k]=ok (qD q):=λk=>h19 rs b k k hb.1 (aaj RK (aaw (by decide) (by decide))) (by left);obtain⟨g,RI⟩:∃g:Nat->Rat,∀k:Nat,Φ 19 [.tup [.int b,.lst .fz (uO b rs)],.int k,.int k]=ok (qD (g k)):=⟨λk=>Classical.choose (ch k),λk=>Classical.choose_spec (ch k)⟩
  have k1:bp Φ F2 [some (mj n rs),some (.tup [.int b,.lst .ow (uO b rs)])]=ok (.lst .ow (jn ((List.range n).map g))):=by
   unfold F2;rw[cU (xs:=[.int n]) (ds:=(List.range n).map λ(k:Nat)=>qD (g k)) (by simp[m2,x0]) (rH Φ (by omega) (by omega)) (cI λk' hk=>?_) (by simp;exact cm (by omega))]
   ·simp[jn,aM]
   ·exact⟨[some (.int k'),some (.tup [.int b,.lst .fz (uO b rs)])],by simp[bE],by simp,by simp[RI]⟩
  exact⟨.lst .ow (jn ((List.range n).map g)),by simp[mk_eq,eV,DJ Φ F2 _ rfl,m1,m2,x1,e1,e2,k1]⟩
 ·rw[hg,if_neg Bool.false_ne_true]at e1;simp[mk_eq,eV,al,hz,e1]
def Bz(ds:aa):Prop:=∃d,ds=[d]/\aX 8 d=true/\aw aL d=d/\cX d=false
variable {ds:aa}{Φ:bh}
theorem Qm{Ψ:Nat->aa->Prop}(PZ:mX (Φ 16))(hm:Bz ds):ds.length=1/\Er Φ Ψ 1 bD (ds.map some++List.replicate (1 - ds.length) none):=by
 obtain⟨d,rfl,hd,hz,hg⟩:=hm;have e1:=PZ d hd hz;rw[hg]at e1;have al:=eY hz;exact⟨rfl,.hd (.Ut (by simp[al,hz,e1]) (.hd .rs))⟩
theorem Ql{Ψ:Nat->aa->Prop}(Y5:∀ds,Bz ds->Ψ 17 ds)(hm:Bz ds):ds.length=1/\Er Φ Ψ 1 eV (ds.map some++List.replicate (2 - ds.length) none):=by
 obtain⟨d,rfl,hd,hz,hg⟩:=hm;have al:=eY hz;exact⟨rfl,.hd (.ex (xs:=[d]) (by simp[al]) (Y5 _ ⟨d,by simp[au,hz],hd,hz,hg⟩))⟩
end DI
end
section
set_option maxHeartbeats 1000000
namespace DI
open PySem (Str)
noncomputable def dJ:aq:=[.ifs (.or [(.not (.o8 (.v 0) .tuple)),(.cmp .ne (.bf .len [(.v 0)]) (.int 2)),(.not (.call 216 [(.ix (.v 0) (.int 0))])),(.not (.call 216 [(.ix (.v 0) (.int 1))]))]) [.ret (.bl false)] [],.ret (.and [(.cmp .gt (.ix (.v 0) (.int 0)) (.int 0)),(.cmp .gt (.ix (.v 0) (.int 1)) (.int 0)),(.cmp .eq (.call 201 [(.ix (.v 0) (.int 0)),(.ix (.v 0) (.int 1))]) (.v 0))])]
def oT(m:aH):Prop:=∀d n,aX n d=true->aw aL d=d->m [d]=ok (.bl (cB d&&pE d))
theorem CU{n:Nat}{i:Int}(h:aX n (.int i)=true):i.natAbs<2 ^ 50:=by
 cases n<;>exact aab h
theorem zO(a b:Int):(decide (0<a)&&(decide (0<b)&&ia (qD (Rat.divInt a b)) (.tup [.int a,.int b])))=(cB (.tup [.int a,.int b])&&pE (.tup [.int a,.int b])):=by
 show _=(cB (.tup [.int a,.int b])&&decide (0<a))
 by_cases ha:0<a
 ·rw[decide_eq_true ha,Bool.true_and,Bool.and_true];by_cases hb:0<b
  ·rw[decide_eq_true hb,Bool.true_and,Bool.eq_iff_iff];refine⟨λh=>?_,λh=>?_⟩
   ·have h':((Rat.divInt a b).num==a&&(((Rat.divInt a b).den:Int)==b&&true))=true:=h;rw[Bool.and_true,Bool.and_eq_true,beq_iff_eq,beq_iff_eq]at h';have:D.tup [.int a,.int b]=qD (Rat.divInt a b):=by
     unfold qD;rw[h'.1,h'.2]
    rw[this];exact FR _
   ·obtain⟨q,hq⟩:=kz h;have e1:a=q.num:=by unfold qD at hq;cases hq;rfl
    have e2:b=q.den:=by unfold qD at hq;cases hq;rfl
    subst e1;subst e2;rw[gi];show(q.num==q.num&&((q.den:Int)==q.den&&true))=true;simp
  ·rw[decide_eq_false hb,Bool.false_and];cases hf:cB (.tup [.int a,.int b])with
   |false=>rfl
   |true =>
    obtain⟨q,hq⟩:=kz hf;have e2:b=q.den:=by unfold qD at hq;cases hq;rfl
    have:=A5 q;left
 ·rw[decide_eq_false ha,Bool.false_and,Bool.and_false]
theorem AS(Φ:bh)(ug:cE (Φ 216))(Kt:kG (Φ 201)):oT (mk Φ 1 1 dJ):=by
 intro d n hd hz;have ty:∀ds,cL .tuple (.tup ds)=true:=λ_=>rfl;cases d with
 |tup ds =>
  by_cases hl:ds.length=2
  ·obtain⟨x,y,rfl⟩:=j7 hl;have B1:=dH (D.tup.inj hz);have zx:=B1 x (by simp);have zy:=B1 y (by simp);have ax:=eY zx;have ay:=eY zy;have ex:=ug x;have ey:=ug y;cases hx:bX x with
   |false =>
    rw[hx]at ex;rw[jj (.inl hx)];simp[mk_eq,dJ,ty,ax,ay,zx,zy,ex]
   |true =>
    rw[hx]at ex;cases hy:bX y with
    |false =>
     rw[hy]at ey;rw[jj (.inr hy)];simp[mk_eq,dJ,ty,ax,ay,zx,zy,ex,ey]
    |true =>
     rw[hy]at ey;obtain⟨a,rfl⟩:=dQ hx;obtain⟨b,rfl⟩:=dQ hy;obtain⟨m,_,_,hU⟩:=b8 hd;have hb:=CU (hU (.int b) (by simp));rw[<- zO];by_cases h1:0<a
     ·by_cases h2:0<b
      ·have e:=Kt a b (by left) (aaj hb (aaw (by decide) (by decide)));have ce:ej .eq (qD (Rat.divInt a b)) (.tup [.int a,.int b])=ok (.bl (ia (qD (Rat.divInt a b)) (.tup [.int a,.int b]))):=rfl;simp[mk_eq,dJ,ty,ex,ey,h1,h2,e,ce]
      ·simp[mk_eq,dJ,ty,ex,ey,h1,h2]
     ·simp[mk_eq,dJ,ty,ex,ey,h1]
  ·have jq:¬ (ds.length:Int)=2:=by left
   rw[qr hl];simp[mk_eq,dJ,ty,jq,aM]
 |_=>simp[mk_eq,dJ,cL,cB]
theorem lg:∀(l m:ae),(l.foldl (λ(m:ae) (k:Int)=>if m.any (· == k)then m else m++[k]) m).length<=m.length+l.length/\((l.foldl (λ(m:ae) (k:Int)=>if m.any (· == k)then m else m++[k]) m).length=m.length+l.length->l.Nodup/\∀x∈l,x∉m)
 |[],m=>by simp
 |x::l,m=>by
  rw[List.foldl_cons];by_cases h:m.any (· == x)=true
  ·rw[if_pos h];obtain⟨h1,_⟩:=lg l m;refine⟨by rw[List.length_cons];left,λe=>?_⟩;rw[List.length_cons]at e;left
  ·rw[if_neg h];obtain⟨h1,h2⟩:=lg l (m++[x]);rw[List.length_append]at h1 h2;simp only[List.length_cons,List.length_nil]at h1 h2 ⊢;refine⟨by left,λe=>?_⟩;obtain⟨a,b⟩:=h2 (by left);have hx:x∉m:=λz=>h (List.any_eq_true.mpr ⟨x,z,by simp⟩);refine⟨List.nodup_cons.mpr ⟨λz=>b x z (by simp),a⟩,λy hy=>?_⟩;rcases List.mem_cons.mp hy with rfl|hy
   ·exact hx
   ·exact λz=>b y hy (aat _ z)
theorem xD{n:Nat}{l:ae}(h:dB (.tup (ag l)) n=true):o_ n l:=by
 unfold dB at h;rw[Bool.and_eq_true]at h;obtain⟨h1,h2⟩:=h;have h1:((ag l).all (b9 n)&&decide ((oI (numsOf (ag l))).length=(ag l).length))=true:=h1;have h2:decide (numsOf (ag l)=sortI (numsOf (ag l)))=true:=h2;rw[dY]at h1 h2;rw[Bool.and_eq_true]at h1;have h2:=aab h2;have hn:=(lg l []).2 (by have:=aab h1.2;unfold oI at this;simpa using this);have hs:(sortI l).Pairwise (λa b=>decide (a<=b)=true):=aby (by intro a b c;simp;left) (by intro a b;simp;left) _;rw[<- h2]at hs;refine⟨?_,λx hx=>?_⟩
 ·have:=hs.and hn.1;exact this.imp λ{a b} z=>by have:=aab z.1;have:=z.2;left
 ·have:=List.all_eq_true.mp h1.1 (.int x) (aba hx);have:(decide (0<=x)&&decide (x<(n:Int)))=true:=this;rw[Bool.and_eq_true]at this;exact⟨aab this.1,aab this.2⟩
end DI
end
section
set_option maxHeartbeats 1000000
namespace DI
open PySem (Str)
noncomputable def Ky:CE:=.comp 1 (.nm 0) [] .seq [(.v 0)] [(.not (.call 216 [(.v 0)]))] (.v 0)
noncomputable def Kx:CE:=.comp 1 (.nm 0) [1] .seq [(.v 0)] [(.or [(.cmp .lt (.v 0) (.int 0)),(.cmp .ge (.v 0) (.v 1))])] (.v 0)
noncomputable def Kw:CE:=.comp 1 (.nm 0) [0] .l9 [(.int 1),(.bf .len [(.v 0)])] [(.cmp .le (.ix (.v 1) (.v 0)) (.ix (.v 1) (.bin .sub (.v 0) (.int 1))))] (.v 0)
def i7:aq:=[.ifs (.or [(.not (.o8 (.v 0) .tuple)),(.cmp .gt (.bf .len [Ky]) (.int 0))]) [.ret (.bl false)] [],.ifs (.cmp .gt (.bf .len [Kx]) (.int 0)) [.ret (.bl false)] [],.ret (.cmp .eq (.bf .len [Kw]) (.int 0))]
def wH(m:aH):Prop:=∀d k (n:Nat),aX k d=true->aw aL d=d->m [d,.int n]=ok (.bl (dB d n))
theorem QD(Φ:bh)(ug:cE (Φ 216)){ds:aa}(hl:ds.length<=16)(hz:au aL ds=ds)(r:a_):bp Φ Ky (some (.tup ds)::r)=ok (.lst .ow (au d8 (ds.filter λx=>!bX x))):=by
 have ha:au aO ds=ds:=by
  have:=eY (d:=.tup ds) (by rw[aw,hz]);exact D.tup.inj this
 unfold Ky;rw[cU (xs:=[.tup ds]) (items:=ds.map id) (ds:=(ds.filter λx=>!bX x).map id) ?_ (by rw[rG,hz,List.map_id]) (dj λx hx=>?_) ?_]
 ·rw[List.map_id]
 ·show dA (ok (aw aO (.tup ds))) (ok [])=_;rw[aw,ha];rfl
 ·have:=aaP (λx=>!bX x) ds;rw[List.map_id];exact cm (by left)
 ·have zx:=dH hz x hx;have ax:=eY zx;have e:=ug x;exact⟨[some x],rfl,by simp[ax,zx,e],λ_=>by simp[ax]⟩
theorem QC(Φ:bh){l:ae}(hl:l.length<=16)(n:Int):bp Φ Kx [some (.tup (ag l)),some (.int n)]=ok (.lst .ow (ag (l.filter λx=>decide (x<0)||decide (n<=x)))):=by
 unfold Kx;rw[cU (xs:=[.tup (ag l)]) (items:=l.map D.int) (ds:=(l.filter λx=>decide (x<0)||decide (n<=x)).map D.int) (by simp) (by rw[rG];simp[ag]) (dj λx hx=>?_) ?_]
 ·simp[ag,aM]
 ·have:=aaP (λx=>decide (x<0)||decide (n<=x)) l;rw[List.length_map];exact cm (by left)
 ·refine⟨[some (.int x),some (.int n)],by simp[bE],?_,λ_=>by simp⟩;by_cases h1:x<0<;>by_cases h2:n<=x<;>simp[h1,h2]
noncomputable def Jy(l:ae)(k:Nat):Bool:=decide (l.getD (k+1) 0<=l.getD k 0)
theorem QB(Φ:bh){l:ae}(hl:l.length<=16)(c1:aU):∃ks:ae,bp Φ Kw [some (.tup (ag l)),c1]=ok (.lst .ow (ag ks))/\ks.length=((List.range (l.length - 1)).filter (Jy l)).length:=by
 refine⟨((List.range (l.length - 1)).filter (Jy l)).map λ(k:Nat)=>(1:Int)+k,?_,by simp⟩;unfold Kw;have it:dU Φ .l9 [.int 1,.int l.length]=ok ((List.range (l.length - 1)).map λ(k:Nat)=>D.int ((1:Int)+(k:Int))):=by
  show(if (l.length:Int)<=(eE:Int) /\ -(eE:Int)<=(l.length:Int)/\(1:Int)<=(eE:Int) /\ -(eE:Int)<=(1:Int)then _ else _)=_;have:(eE:Int)=1000000:=rfl;rw[if_pos (by left),show((l.length:Int) - 1).toNat=l.length - 1 by left]
 rw[cU (xs:=[.int 1,.int l.length]) (items:=(List.range (l.length - 1)).map λ(k:Nat)=>D.int ((1:Int)+(k:Int))) (ds:=((List.range (l.length - 1)).filter (Jy l)).map λ(k:Nat)=>D.int ((1:Int)+(k:Int))) (by simp) it (dj λk hk=>?_) ?_]
 ·simp[ag,aM]
 ·have:=aaP (Jy l) (List.range (l.length - 1));rw[List.length_map];simp at this;exact cm (by left)
 ·have hk:=List.mem_range.mp hk;have g1:mn (ag l) ((1:Int)+k)=ok (.int (l.getD (k+1) 0)):=by
   rw[at_of (by left) (d:=.int (l.getD (k+1) 0)) (by
    rw[show((1:Int)+k).toNat=k+1 by left,k7,List.getElem?_eq_getElem (by left)];simp[List.getD,show k+1<l.length by left])]
   simp
  have g2:mn (ag l) ((1:Int)+k - 1)=ok (.int (l.getD k 0)):=by
   rw[at_of (by left) (d:=.int (l.getD k 0)) (by
    rw[show((1:Int)+k - 1).toNat=k by left,k7,List.getElem?_eq_getElem (by left)];simp[List.getD,show k<l.length by left])]
   simp
  exact⟨[some (.int ((1:Int)+k)),some (.tup (ag l))],by simp[bE],by simp[g1,g2,Jy],λ_=>by simp⟩
theorem GV:∀(l:ae),(∀k,k<l.length - 1->l.getD k 0<l.getD (k+1) 0)->l.Pairwise (· < ·)
 |[],_=>.nil
 |[a],_=>by simp
 |a::b::l,h=>by
  have ih:=GV (b::l) λk hk=>by
   have:=h (k+1) (by simp at hk ⊢;left);simpa using this
  refine List.pairwise_cons.mpr ⟨λx hx=>?_,ih⟩;have h0:a<b:=by simpa using h 0 (by simp)
  rcases List.mem_cons.mp hx with rfl|hx
  ·exact h0
  ·have:=(List.pairwise_cons.mp ih).1 x hx;left
theorem BH{n:Nat}{l:ae}:o_ n l ↔ (l.filter λx=>decide (x<0)||decide ((n:Int)<=x))=[]/\((List.range (l.length - 1)).filter (Jy l)).length=0:=by
 rw[List.filter_eq_nil_iff,List.length_eq_zero_iff,List.filter_eq_nil_iff];refine⟨λh=>⟨λx hx z=>?_,λk hk z=>?_⟩,λh=>⟨GV l λk hk=>?_,λx hx=>?_⟩⟩
 ·have:=h.2 x hx;simp at z;left
 ·have hk:=List.mem_range.mp hk;have:=aab z;have hp:=List.pairwise_iff_getElem.mp h.1 k (k+1) (by left) (by left) (by left);simp[List.getD,show k<l.length by left,show k+1<l.length by left]at this;left
 ·have:=h.2 k (List.mem_range.mpr hk);unfold Jy at this;simp only[decide_eq_true_eq]at this;left
 ·have:=h.1 x hx;simp at this;left
theorem IJ(Φ:bh)(ug:cE (Φ 216)):wH (mk Φ 2 2 i7):=by
 intro d k n hd hz;have ty:∀ds,cL .tuple (.tup ds)=true:=λ_=>rfl;have ln:∀f ds,mU .len [.lst f ds]=ok (.int ds.length):=λ_ _=>rfl;cases d with
 |tup ds =>
  obtain⟨m,_,hlen,hU⟩:=b8 hd;have Xc:au aL ds=ds:=D.tup.inj hz;have al:=eY hz;have e1:=QD Φ ug hlen Xc [some (.int n)];by_cases hw:(ds.filter λx=>!bX x)=[]
  ·rw[hw]at e1;have FO:∀x∈ds,bX x=true:=λx hx=>by
    have:=List.filter_eq_nil_iff.mp hw x hx;simpa using this
   obtain⟨l,rfl⟩:∃l:ae,ds=ag l:=by
    clear e1 hz Xc hd hU al hw hlen;induction ds with
    |nil=>exact⟨[],rfl⟩
    |cons x ds ih =>
     obtain⟨l,rfl⟩:=ih λy hy=>FO y (aag _ hy);obtain⟨i,rfl⟩:=dQ (FO x aah);exact⟨i::l,rfl⟩
   have O_:l.length<=16:=by simpa using hlen
   have e2:=QC Φ O_ n;obtain⟨ks,e3,k3⟩:=QB Φ O_ (some (.int n));have hL:=BH (n:=n) (l:=l);by_cases hf:(l.filter λx=>decide (x<0)||decide ((n:Int)<=x))=[]
   ·rw[hf]at e2;have:dB (.tup (ag l)) n=decide (ks.length=0):=by
     rw[Bool.eq_iff_iff,decide_eq_true_iff,k3];exact⟨λz=>(hL.mp (xD z)).2,λz=>(hL.mpr ⟨hf,z⟩).dB⟩
    rw[this];by_cases h0:ks.length=0
    ·have:ks=[]:=List.length_eq_zero_iff.mp h0;subst this;simp[mk_eq,i7,ty,e1,e2,e3,ln]
    ·have h0':¬ (ks.length:Int)=0:=by left
     simp[mk_eq,i7,ty,e1,e2,e3,ln,h0,h0']
   ·have:dB (.tup (ag l)) n=false:=by
     cases z:dB (.tup (ag l)) n with
     |false=>rfl
     |true=>exact absurd (hL.mp (xD z)).1 hf
    rw[this];have hp:(0:Int)<(l.filter λx=>decide (x<0)||decide ((n:Int)<=x)).length:=by
     have:=List.length_pos_iff.mpr hf;left
    clear hL;generalize (l.filter λx=>decide (x<0)||decide ((n:Int)<=x))=F at *;have uQ:0<F.length:=by left
    simp[mk_eq,i7,ty,e1,e2,ln,uQ]
  ·have:dB (.tup ds) n=false:=by
    have:ds.all (b9 n)=false:=by
     rw[List.all_eq_false];obtain⟨x,hx⟩:=abl _ hw;obtain⟨Xe,UC⟩:=List.mem_filter.mp hx;refine⟨x,Xe,?_⟩;cases x<;>first | (simp[b9];done)|exact absurd UC (by show ¬ (!true)=true;decide)
    simp[dB,bB,this]
   rw[this];have hp:(0:Int)<(ds.filter λx=>!bX x).length:=by
    have:=List.length_pos_iff.mpr hw;left
   generalize (ds.filter λx=>!bX x)=F at *;have uQ:0<F.length:=by left
   simp[mk_eq,i7,ty,e1,ln,aM,uQ]
 |_=>simp[mk_eq,i7,cL,dB,bB]
end DI
end
section
set_option maxHeartbeats 1000000
namespace DI
open PySem (Str)
noncomputable def gg:aq:=[.ifs (.or [(.not (.o8 (.v 3) .tuple)),(.cmp .ne (.bf .len [(.v 3)]) (.int 2)),(.not (.call 217 [(.ix (.v 3) (.int 0))])),(.not (.call 218 [(.ix (.v 3) (.int 1)),(.ix (.v 0) (.int 0))]))]) [.ret (.bl false)] [],.ifs (.and [(.cmp .pF (.v 2) .bu),(.bU 1025 [(.ix (.v 3) (.int 1)),(.v 2)])]) [.ret (.bl false)] [],.asg (.nm 2) (.ix (.v 3) (.int 1)),.asg (.nm 1) (.call 202 [(.v 1),(.ix (.v 3) (.int 0))])]
def fS:aq:=[.ifs (.or [(.not (.o8 (.v 0) .tuple)),(.cmp .ne (.bf .len [(.v 0)]) (.int 2)),(.not (.call 216 [(.ix (.v 0) (.int 0))])),(.not (.o8 (.ix (.v 0) (.int 1)) .list))]) [.ret (.bl false)] [],.ifs (.or [(.cmp .lt (.ix (.v 0) (.int 0)) (.int 1)),(.cmp .gt (.ix (.v 0) (.int 0)) (.int 12))]) [.ret (.bl false)] [],.asg (.nm 1) (.tup [(.int 0),(.int 1)]),.asg (.nm 2) .bu,.fr (.nm 3) (.seq (.ix (.v 0) (.int 1))) gg,.ret (.cmp .eq (.v 1) (.tup [(.int 1),(.int 1)]))]
def qR(n:Int)(d:D):Bool:=match d with
 |.tup [c,l]=>(cB c&&pE c)&&dB l n
 |_=>false
theorem wY(n:Int)(d:D):qR n d=(fV n d&&kX n d):=by
 unfold qR fV kX;split
 ·rename_i c l;show((cB c&&pE c)&&dB l n)=((bB l n&&(cB c&&pE c))&&dB l n)
  have:dB l n=true->bB l n=true:=λh=>by unfold dB at h;rw[Bool.and_eq_true]at h;exact h.1
  cases hl:dB l n with
  |false=>rw[Bool.and_false,Bool.and_false]
  |true=>rw[this hl,Bool.true_and]
 ·simp
theorem QM(n:Int)(rows:aa):rows.all (qR n)=(rows.all (fV n)&&rows.all (kX n)):=by
 induction rows with
 |nil=>rfl
 |cons d rows ih =>
  rw[List.all_cons,List.all_cons,List.all_cons,ih,wY];cases fV n d<;>cases kX n d<;>cases rows.all (fV n)<;>cases rows.all (kX n)<;>rfl
def iR:Option (ae)->D
 |none=>.bu
 |some l=>.tup (ag l)
def lF(last:Option (ae))(ls:aF):Bool:=match last with
 |none=>fH ls
 |some l=>fH (l::ls)
def Jn(last:Option (ae))(l:ae):Bool:=match last with
 |none=>true
 |some m=>HT.lexLt m l
theorem EA{n:Nat}{d:D}(h:qR n d=true):d=rD (bL d)/\dB (.tup (ag (bL d).2)) n=true:=by
 have h':=h;rw[wY,Bool.and_eq_true]at h;obtain⟨e,_,_⟩:=kb h.1;refine⟨e,?_⟩;have h2:=h.2;rw[e]at h2;exact h2
theorem qp(Φ:bh)(Cm:oT (Φ 217))(Ck:wH (Φ 218))(rO:uK (Φ 202))(xX:Φ 1025=BK){n:Nat}{r0:D}(DK:aw aL (.tup [.int n,r0])=.tup [.int n,r0]):∀(rows:aa) (last:Option (ae)) (q:Rat) (j:Nat) (c3:aU),(∀d∈rows,aX 6 d=true/\aw aL d=d)->Sm j q->j+51*rows.length<=3900 ->
  ∃ρ',fW (λd ρ=>cY (.nm 3) d ρ) (λρ=>bJ Φ gg ρ) rows [some (.tup [.int n,r0]),some (qD q),some (iR last),c3]=ok (if rows.all (qR n)&&lF last (rows.map λd=>(bL d).2)then .nx else .rt (.bl false),ρ') /\
   (rows.all (qR n)=true->lF last (rows.map λd=>(bL d).2)=true->∃R7 LC,ρ'=[some (.tup [.int n,r0]),some (qD (q+(eA (rows.map bL)).sum)),R7,LC])
 |[],last,q,j,c3,_,_,_=>by
  have hr:lF last []=true:=by cases last<;>rfl
  exact⟨_,by rw[List.map_nil,hr];rfl,λ_ _=>⟨some (iR last),c3,by simp[eA,Rat.add_zero]⟩⟩
 |d::rows,last,q,j,c3,h,hs,hj=>by
  obtain⟨h1,hz⟩:=h d aah;have ty:∀ds,cL .tuple (.tup ds)=true:=λ_=>rfl;have al:=eY hz;have al0:=eY DK;have z0:=dH (D.tup.inj DK);have Sd:=eY (z0 r0 (by simp));cases hG:qR n d with
  |false =>
   refine⟨[some (.tup [.int n,r0]),some (qD q),some (iR last),some d],?_,λz=>by rw[List.all_cons,hG]at z;cases z⟩;rw[List.all_cons,hG,Bool.false_and,Bool.false_and];refine rS (ρ1:=[some (.tup [.int n,r0]),some (qD q),some (iR last),some d]) (by simp) ?_;cases d with
   |tup ds =>
    by_cases hl:ds.length=2
    ·obtain⟨c,l,rfl⟩:=j7 hl;have B1:=dH (D.tup.inj hz);obtain⟨m,hm,_,hU⟩:=b8 h1;have zc:=B1 c (by simp);have zl:=B1 l (by simp);have ac:=eY zc;have X6:=eY zl;have e1:=Cm c m (hU c (by simp)) zc;have e2:=Ck l m n (hU l (by simp)) zl;have PQ:((cB c&&pE c)&&dB l n)=false:=hG;cases hf:(cB c&&pE c)with
     |false=>rw[hf]at e1;simp[gg,ty,ac,X6,zc,zl,e1]
     |true =>
      rw[hf]at e1;rw[hf,Bool.true_and]at PQ;rw[PQ]at e2;simp[gg,ty,ac,X6,zc,zl,Sd,e1,e2]
    ·have jq:¬ (ds.length:Int)=2:=by left
     simp[gg,ty,jq,aM]
   |_=>simp[gg,cL]
  |true =>
   obtain⟨er,FH⟩:=EA hG;generalize hr:bL d=r at *;subst er;have e1:Φ 217 [qD r.1]=ok (.bl true):=by
    obtain⟨m,hm,_,hU⟩:=b8 h1;have:=Cm (qD r.1) m (hU (qD r.1) (by simp)) (by simp);have PQ:((cB (qD r.1)&&pE (qD r.1))&&dB (.tup (ag r.2)) n)=true:=hG;rw[Bool.and_eq_true]at PQ;rw[PQ.1]at this;exact this
   have e2:Φ 218 [.tup (ag r.2),.int n]=ok (.bl true):=by
    obtain⟨m,hm,_,hU⟩:=b8 h1;have:=Ck (.tup (ag r.2)) m n (hU _ (by simp)) (by simp);rw[FH]at this;exact this
   have sr:Sm 50 r.1:=by
    obtain⟨m,hm,_,hU⟩:=b8 h1;exact yk (hU (qD r.1) (by simp))
   rw[List.length_cons]at hj;have e3:=rO q r.1 (hs.mono (by left)) (sr.mono (by decide));have sq:Sm (j+51) (q+r.1):=(hs.add sr).mono (by left);have eD:rD r=.tup [qD r.1,.tup (ag r.2)]:=rfl;have le:∀l:ae,Φ 1025 [.tup (ag r.2),.tup (ag l)]=ok (.bl (!HT.lexLt l r.2)):=λl=>by
    rw[xX];show(match intsOf (ag r.2)with|some ns=>(match intsOf (ag l)with|some ms=>ok (D.bl (!HT.lexLt ms ns))|none=>none)|none=>none)=_;unfold ag;rw[bw,bw]
   have xR:lF last ((rD r::rows).map λd=>(bL d).2)=(Jn last r.2&&lF (some r.2) (rows.map λd=>(bL d).2)):=by
    rw[List.map_cons,hr];cases last with
    |none=>rfl
    |some l=>rfl
   obtain⟨ρ',ih,Us⟩:=qp Φ Cm Ck rO xX DK rows (some r.2) (q+r.1) (j+51) (some (rD r)) (λs L_=>h s (aag _ L_)) sq (by left);have c0:∀(x:Option (ae)),ej .pF (iR x) .bu=ok (.bl x.isSome):=λx=>by cases x<;>rfl
   by_cases ho:Jn last r.2=true
   ·refine⟨ρ',?_,λz1 z2=>?_⟩
    ·rw[List.all_cons,hG,Bool.true_and,xR,ho,Bool.true_and,<- ih];refine jM (ρ1:=[some (.tup [.int n,r0]),some (qD q),some (iR last),some (rD r)]) (by simp) (ρ2:=[some (.tup [.int n,r0]),some (qD (q+r.1)),some (.tup (ag r.2)),some (rD r)]) ?_ rfl;cases last with
     |none =>
      have cn:ej .pF .bu .bu=ok (.bl false):=rfl;simp[gg,eD,ty,Sd,e1,e2,e3,iR,cn]
     |some l =>
      have ho:HT.lexLt l r.2=true:=ho;have Oq:=le l;rw[ho]at Oq;have cn:ej .pF (.tup (ag l)) .bu=ok (.bl true):=rfl;simp[gg,eD,ty,Sd,e1,e2,e3,iR,Oq,cn]
    ·rw[xR,ho,Bool.true_and]at z2;rw[List.all_cons,hG,Bool.true_and]at z1;obtain⟨R7,LC,rfl⟩:=Us z1 z2;refine⟨R7,LC,?_⟩;rw[List.map_cons,hr];show[_,some (qD (q+r.1+(eA (rows.map bL)).sum)),_,_]=[_,some (qD (q+(r.1+(eA (rows.map bL)).sum))),_,_]
     rw[Rat.add_assoc]
   ·have ho:Jn last r.2=false:=by simpa using ho
    refine⟨[some (.tup [.int n,r0]),some (qD q),some (iR last),some (rD r)],?_,λz1 z2=>by rw[xR,ho]at z2;cases z2⟩;rw[xR,ho,Bool.false_and,Bool.and_false];refine rS (ρ1:=[some (.tup [.int n,r0]),some (qD q),some (iR last),some (rD r)]) (by simp) ?_;cases last with
    |none=>exact Bool.noConfusion (show true=false from ho)
    |some l =>
     have ho:HT.lexLt l r.2=false:=ho;have Oq:=le l;rw[ho]at Oq;have cn:ej .pF (.tup (ag l)) .bu=ok (.bl true):=rfl;simp[gg,eD,ty,Sd,e1,e2,iR,Oq,cn]
def Dx(m:aH):Prop:=∀d,aX 8 d=true->aw aL d=d->m [d]=ok (.bl (cX d))
theorem IL(Φ:bh)(ug:cE (Φ 216))(Cm:oT (Φ 217))(Ck:wH (Φ 218))(rO:uK (Φ 202))(xX:Φ 1025=BK):Dx (mk Φ 1 4 fS):=by
 intro d hd hz;have ty:∀ds,cL .tuple (.tup ds)=true:=λ_=>rfl;have tl:∀f ds,cL .list (.lst f ds)=true:=λ_ _=>rfl;cases d with
 |tup ds =>
  by_cases hl:ds.length=2
  ·obtain⟨m,r,rfl⟩:=j7 hl;obtain⟨k,hk,_,hd⟩:=b8 hd;obtain rfl:k=7:=by left
   have B1:=dH (D.tup.inj hz);have zm:=B1 m (by simp);have zr:=B1 r (by simp);have am:=eY zm;have ar:=eY zr;have e0:=ug m;cases hw:bX m with
   |false =>
    rw[hw]at e0;have:cX (.tup [m,r])=false:=by
     have:bY (.tup [m,r])=false:=by
      unfold bY;cases r<;>first|rfl|skip
      cases m<;>first|rfl|exact Bool.noConfusion (show true=false from hw)
     unfold cX;rw[this];rfl
    rw[this];simp[mk_eq,fS,ty,am,ar,zm,zr,e0]
   |true =>
    obtain⟨n,rfl⟩:=dQ hw;rw[hw]at e0;have hr:=hd r (by simp);by_cases hL:∃f rows,r=.lst f rows
    ·obtain⟨f,rows,rfl⟩:=hL;obtain⟨k,hk,hlen,Hg,FF⟩:=gI hr;obtain rfl:k=6:=by left
     obtain⟨rfl,He⟩:=rP zr FF;have UM:=dH He;have hB:cX (.tup [.int n,.lst .fz rows])=((decide (1<=n)&&(decide (n<=12)&&iW n rows))&&rows.all (kX n)):=rfl;by_cases n1:n<1
     ·rw[hB,decide_eq_false (by left:¬ 1<=n)];simp[mk_eq,fS,ty,tl,ar,e0,n1]
     ·by_cases n2:12<n
      ·rw[hB,decide_eq_false (by left:¬ n<=12)];simp[mk_eq,fS,ty,tl,ar,e0,n1,n2]
      ·obtain⟨n',rfl⟩:∃n':Nat,n=(n':Int):=⟨n.toNat,by left⟩
       obtain⟨ρ',el,VQ⟩:=qp Φ Cm Ck rO xX hz rows none 0 1 none (λd hU=>⟨Hg d hU,UM d hU⟩) (Sm.zero _ (by decide)) (by left);have hB2:cX (.tup [.int n',.lst .fz rows])=((rows.all (qR n')&&lF none (rows.map λd=>(bL d).2))&&decide ((eA (rows.map bL)).sum=1)):=by
        rw[hB,decide_eq_true (by left:1<=(n':Int)),decide_eq_true (by left:(n':Int)<=12),QM];unfold iW lF;rw[List.map_map];show _=(_&&fH (rows.map ((λx=>x.2)∘bL))&&_)
        cases rows.all (fV n')<;>cases rows.all (kX n')<;>cases fH (rows.map ((λx=>x.2)∘bL))<;>cases decide ((eA (rows.map bL)).sum=1)<;>rfl
       rw[hB2];have hit:fg Φ (.seq (.ix (.v 0) (.int 1))) [some (.tup [.int n',.lst .fz rows]),some (qD 0),some .bu,none]=ok (rows,[some (.tup [.int n',.lst .fz rows]),some (qD 0),some .bu,none]):=by
        have e1:bp Φ (.ix (.v 0) (.int 1)) [some (.tup [.int n',.lst .fz rows]),some (qD 0),some .bu,none]=ok (.lst .fz rows):=by
         rw[wd,Qp];show LZ (ok (aw aO (.tup [.int n',.lst .fz rows]))) (ok (.int 1))=_;rw[eY hz];show ok (aw aO (.lst .fz rows))=_;rw[ar]
        have na:(bN Fl.fz||aP bN rows)=false:=l_ zr;rw[J0 e1,He,na];rfl
       have hf:=lA (Φ:=Φ) (t:=.nm 3) (b:=gg) hit el;have q0:D.tup [.int 0,.int 1]=qD 0:=rfl;have q1:D.tup [.int 1,.int 1]=qD 1:=rfl;cases hc:(rows.all (qR n')&&lF none (rows.map λd=>(bL d).2))with
       |false =>
        rw[hc]at hf;simp at hf;simp[mk_eq,fS,ty,tl,ar,e0,n1,n2,q0,hf]
       |true =>
        rw[Bool.and_eq_true]at hc;obtain⟨R7,LC,rfl⟩:=VQ hc.1 hc.2;rw[hc.1,hc.2]at hf;simp only[Bool.and_self,if_true]at hf;have ce:∀p q:Rat,ej .eq (qD p) (qD q)=ok (.bl (decide (p=q))):=λp q=>by rw[<- Qn];rfl
        simp[mk_eq,fS,ty,tl,ar,e0,n1,n2,q0,q1,hf,ce,Rat.zero_add]
    ·have Vk:cL .list r=false:=by
      cases r<;>first|rfl|exact absurd ⟨_,_,rfl⟩ hL
     have:cX (.tup [.int n,r])=false:=by
      have:bY (.tup [.int n,r])=false:=by
       unfold bY;cases r<;>first|rfl|exact absurd ⟨_,_,rfl⟩ hL
      unfold cX;rw[this];rfl
     rw[this];simp[mk_eq,fS,ty,ar,e0,Vk]
  ·have jq:¬ (ds.length:Int)=2:=by left
   have:cX (.tup ds)=false:=by
    have:bY (.tup ds)=false:=by
     unfold bY
     match ds,hl with
     |[],_=>rfl
     |[_],_=>rfl
     |[_,_],h=>exact absurd rfl h
     |_::y::_::_,_=>cases y<;>rfl
    unfold cX;rw[this];rfl
   rw[this];simp[mk_eq,fS,ty,jq,aM]
 |_=>simp[mk_eq,fS,cL,cX,bY]
end DI
end
section
namespace DI
open PySem PySem.Spec PyProof.Rows L2
variable {B C:Addr}{base h:Heap}
theorem Cy{M:Model}{A:aG}{E:aA}{nm q Y6 q':Str}{N N':Addr}{bs bm bs' V8:ai}{hdct Pn:Bool}{sn YI:aj}{sub S9:ai}{ab ab':Bool}{col V4:Option Bool}{dd V1:Option Addr}{k0 k1 k2 k3 k5 l0 l1 l2 l3 l5:Option Value}{newId JB:String}
   {g:Array GenState} {d:Drawn} {t:Nat} {os:OsState} {e:Addr} {oe:Obj} {Q:Bool->Shared->Prop}
  (hC:h.get? C=some (excClassObj nm q C N bs bm hdct sn sub ab col dd k0 k1 k2 k3 k5 newId)) (hB:h.get? B=some (excClassObj Y6 q' B N' bs' V8 Pn YI S9 ab' V4 V1 l0 l1 l2 l3 l5 JB)) (he:h.get? e=some oe) (Cb:oe.cls=.ref C) (uf:V8.contains (.type "BaseException")=true) (zq:bm.contains (.ref B)=true)
  (hq:Q true ⟨h,g,d,t,os⟩):wpAny M A (excMatches (.ref e) (.ref B)) Q E ⟨h,g,d,t,os⟩:=by
 have ZX:(Value.ref B::V8).contains (.type "BaseException")=true:=by rw[List.contains_cons,uf,Bool.or_true]
 have ZW:(Value.ref C::bm).contains (.ref B)=true:=by rw[List.contains_cons,zq,Bool.or_true]
 have f:=tc_notTuple;unfold excMatches
 repeat (first | (with_reducible refine aaV he ?_;rw[Cb])|with_reducible refine aaV hB ?_ | (with_reducible refine wpAny_isSubtype_exc hB ?_;rw[ZX]) | (with_reducible refine wpAny_isSubtype_exc hC ?_;rw[ZW])|wp_step)
 exact hq
def oW(C B:Addr)(h:Heap):Prop:=∃(nm q:Str) (N:Addr) (bs bm:ai) (hdct:Bool) (sn:aj) (sub:ai) (ab:Bool) (col:Option Bool) (dd:Option Addr) (k0 k1 k2 k3 k5:Option Value) (newId:String),h.get? C=some (excClassObj nm q C N bs bm hdct sn sub ab col dd k0 k1 k2 k3 k5 newId)/\bm.contains (.ref B)=true
variable {hpos np p1 p2 p3 pos:Pos}
section
variable {X:Cx}{C B:Addr}{x n y:Str}{i j:Nat}{E1:XK}
theorem EH{body:aS}{tb:TS}(OP:X.stack=X.env::X.outer)(Me:X.env.frame=some X.env.locals)(O:pP x B X.mg X.base)(OS:oW C B X.base)(hg:Gl X x)(hd:(x==("__debug__" : Str))=false)
  (nd:X.N.Nodup) (hi:X.N[i]?=some n) (hj:X.N[j]?=some y) (Uz:y≠n) (FI:X.env.scope.names.lookup n=some .local) (Xk:X.env.scope.names.lookup y=some .local) (dn:(n==("__debug__" : Str))=false) (dc:(n==("__classdict__" : Str))=false)
  (FD:swapsWith (.Name n p2) (some (.Name y p1)) p3.line (X.env)=pure false)
  (hb:∀pn D3,Passes (sI X.prog X.w C) (Cx.lW X pn D3) E1->ig (Cx.lW X pn D3) body tb) :
  PS X (.Try body [.ExceptHandler (some (.Name x np)) (some n) [.Assign [.Name y p1] (.Name n p2) p3] hpos] [] [] pos)
   (λD σ H=>tb D σ H/\∀ea H',E1 (.ref C) none H'->H' ea=none->D.nx (only X.N.length j (.ref ea)) (upd H' ea (.ext (DS ea C)))):=by
 intro pins s σ H D I hw;obtain⟨ZZ,hh⟩:=hw;have ok:=I.ok;refine wpAny_Try_except ?_;refine aau (hb pins _ ?_ [] s σ H D (Fy I (λe s₁=>wpAny (model X.prog X.w) X.A (noteFrame e X.env) (λ_ s₂=>wpAny (model X.prog X.w) X.A (setFlight e none) (λ_ s₃=>wpAny (model X.prog X.w) X.A (handleBy e X.env [.ExceptHandler (some (.Name x np)) (some n) [.Assign [.Name y p1] (.Name n p2) p3] hpos]) (SP X pins D) X.xe s₃) X.xe s₂) X.xe s₁)) ZZ) (λf s₁ q=>?_) (λ_ _ q=>q)
 ·intro Bb σ1 H1 s1 e s2 I1 hx;obtain⟨ea,H',rfl,fl,he⟩:=hx;obtain⟨n1,n2⟩:=fl.new;obtain⟨⟨t,B,fw,DR⟩,os,bare,un,cC⟩:=fl;have I1:Inv X pins σ1 H1 s1:=gD I1;have fw:Heap.FlyingW B (X.env::X.outer) ea (.ref C) (.ref t) s2.heap:=OP▸fw;have VC:X.A.frames=some (X.env::X.outer):=OP▸I1.ok.frames;show wpAny (model X.prog X.w) X.A (noteFrame (.ref ea) X.env) _ X.xe s2;refine wpAny_looks_onW VC Me fw λh4 held YM=>?_;refine wpAny_landsW held λh5 VB YL=>?_;obtain⟨Wx,O2,V2⟩:=moved un cC DR I1.stack I1.j9 VB.1 (YM.trans YL);have I5:Inv X pins σ1 H' { s2 with heap:=h5 }:=I1.yn (ch:=[]) os Wx O2 bare λ_ z=>nomatch z;refine wpAny_handleBy_cons (codeAny_handlers_test (abf I5.ok.kind hg (Calls.loadGlobal_global (by rw[I5.ok.glob];exact I5.mod.glob.keeps I5.bk) O.bound ?_) hd)) (by intro q;cases q);obtain⟨bm,nsA,nm,qn,bs,hdct,sn,sub,ab,col,dd,k0,k1,k2,k3,k5,mN,hB,_,_,TL⟩:=(O.keeps I5.bk).obj;obtain⟨nm2,q2,N2,bs2,bm2,Xp,sn2,YH,ab2,aaK,rZ,l0,l1,l2,l3,l5,id2,hC,zq⟩:=OS;have hC:=I5.bk _ _ hC;obtain⟨ob,Zz,UX⟩:=VB.there;refine Cy hC hB Zz UX (TL.hasType (by decide +kernel)) zq (codeAny_handlers_suite_as ?_);refine lands_againW VB λh6 XD YK=>?_;obtain⟨Ym,UR,aaJ⟩:=moved Wx O2 V2 I1.stack I1.j9 XD.1 YK;obtain⟨Yk,UQ⟩:=tracked (C:=C) Ym UR n1 n2 XD.there;have I7:Inv X pins σ1 (upd H' ea (.ext (DS ea C))) { s2 with heap:=h6 }:=I1.yn (s':={ s2 with heap:=h6 }) (ch:=[]) os Yk UQ bare λ_ z=>nomatch z;have iL:i<σ1.length:=by rw[I7.len];exact(List.getElem?_eq_some_iff.mp hi).1
  have Pb:j<σ1.length:=by rw[I7.len];exact(List.getElem?_eq_some_iff.mp hj).1
  refine gw I7 nd hi (.inl FI) (v:=.ref ea) (u:=.ref ea) rfl (λs8 I8=>?_) (.inr FI)
  let X2:Cx:={ X with A:=X.A.mark (some (.ref ea)),calm:=false,xe:=AsSuiteRaised (model X.prog X.w) (X.A.mark (some (.ref ea))) X.env n hpos (notedBy (model X.prog X.w) (X.A.mark (some (.ref ea))) X.env (cameBackBy (model X.prog X.w) X.A X.env X.xe)) }
  have ps:ig X2 [.Assign [.Name y p1] (.Name n p2) p3] _:=jf (vq (X:=X2) (i:=j) nd hj (.inl Xk) (EJ (X:=X2) (i:=i) (pos:=p2) hi (.inl FI) dn dc) FD (hf:=.inr Xk));refine aau (ps pins s8 _ _ { nx:=λσ' jG=>jG=upd H' ea (.ext (DS ea C))/\σ'[j]?=some (some (.ref ea)),rt:=λ_ _=>False } (BY I8 _ _) ⟨.ref ea,by rw[List.getElem?_set_self iL],rfl,by rw[List.getElem?_set_self (by simpa using Pb)]⟩) (λf s9 q9=>?_) (λ_ _ q=>q);cases f with
  |next =>
   obtain⟨σ9,H9,I9,rfl,e9⟩:=q9;have I9:=vO ok I9;exact vE I9 FI Uz nd hj e9 λs10 I10=>⟨_,_,I10,hh ea H' he n1⟩
  |ret v=>obtain⟨_,_,_,_,_,z⟩:=q9;exact z.elim
  |brk=>obtain⟨_,_,_,z⟩:=q9;exact z.elim
  |cont=>obtain⟨_,_,_,z⟩:=q9;exact z.elim
 ·cases f with
  |next=>obtain⟨σ',H',I',q⟩:=q;exact abi ⟨σ',H',gD I',q⟩
  |ret v=>obtain⟨v,σ',H',I',r,q⟩:=q;exact⟨v,σ',H',gD I',r,q⟩
  |brk=>obtain⟨σ',H',I',q⟩:=q;exact⟨σ',H',gD I',q⟩
  |cont=>obtain⟨σ',H',I',q⟩:=q;exact⟨σ',H',gD I',q⟩
end
variable {st Ax:Stmt}
section
variable {X:Cx}{S:Sx}{k n:Nat}{Φ:bh}{Ψ:Nat->aa->Prop}{F:ah}{C B:Addr}
noncomputable def J4:CE->Bool
 |.call _ _=>true
 |_=>false
def J2:CS->Bool
 |.ex e=>J4 e
 |_=>false
def HX:CS->Bool
 |.ex e=>J4 e
 |.ifs _ a b=>br (one a) λx=>br (one b) λy=>J2 x&&J2 y
 |_=>false
theorem xM{e:CE}(h:J4 e=true):∃g es,e=.call g es:=by
 cases e<;>first|exact(aac h).elim|exact⟨_,_,rfl⟩
theorem xK{c:CS}(h:J2 c=true):∃g es,c=.ex (.call g es):=by
 cases c<;>first|exact(aac h).elim|skip
 obtain⟨g,es,rfl⟩:=xM h;exact⟨g,es,rfl⟩
theorem Hl(L:Lk X S k Φ)(hx:Passes (sI X.prog X.w C) X (λc _ H'=>c=.ref C/\aK X.H₀ H'))(fe:∀g x,S.fn g=some x->(∃ds,Ψ g ds)->jt X.prog X.w X.K X.mg X.base k C x (Ψ g)){g:Nat}{es:az}(h:pJ S (.ex (.call g es)) st=true):PS X st (nh X F (sM Φ Ψ n (.ex (.call g es)))):=by
 obtain⟨v,v1,q1⟩:=bj h;obtain⟨pos,rfl⟩:=m_ v1;obtain⟨h1,h2⟩:=aD q1;exact PS.imp (Hm (uk (F:=F) L hx fe h1) (fR h1 (fm h2) _ _ _)) λD σ H bF=>by obtain⟨R,τ,ρ,Si,hb⟩:=bF;cases hb with|ex a b=>exact⟨R,τ,ρ,Si,_,a,b⟩
theorem Qj(L:Lk X S k Φ)(hx:Passes (sI X.prog X.w C) X (λc _ H'=>c=.ref C/\aK X.H₀ H'))(fe:∀g x,S.fn g=some x->(∃ds,Ψ g ds)->jt X.prog X.w X.K X.mg X.base k C x (Ψ g)){c:CS}(ht:HX c=true)(h:pJ S c st=true):PS X st (nh X F (sM Φ Ψ n c)):=by
 cases c<;>first|exact(aac ht).elim|skip
 ·obtain⟨g,es,rfl⟩:=xM ht;exact Hl L hx fe h
 ·obtain⟨ca,va,ha⟩:=bj ht;obtain⟨cb,vb,hb⟩:=bj ha;obtain⟨xa,xb⟩:=aD hb;obtain⟨_,_,rfl⟩:=xK xa;obtain⟨_,_,rfl⟩:=xK xb;cases bI va;cases bI vb;obtain⟨⟨t,x,z⟩,v1,q1⟩:=bj h;obtain⟨pos,rfl⟩:=qJ v1;obtain⟨q2,h3⟩:=aD q1;obtain⟨h1,h2⟩:=aD q2;have one:∀{g:Nat} {es:az} {o5:aS},iE S [.ex (.call g es)] o5=true->ig X o5 (nh X F (Er Φ Ψ n [.ex (.call g es)])):=λ{g es o5} hc=>by
   cases o5 with
   |nil=>exact(aac hc).elim
   |cons s0 rest =>
    have hc:=aD hc;cases rest with
    |cons _ _=>exact(aac hc.2).elim
    |nil =>
     refine ig.imp (jf (Hl (F:=F) (n:=n) L hx fe hc.1)) λD σ H ⟨R,τ,ρ,Si,hb⟩=>?_;cases hb with
     |hd e=>exact⟨R,τ,ρ,Si,e⟩
     |tl _ e=>cases e
  refine PS.imp (w9 (pos:=pos) (gh (F:=F) L _ t h1).2 (one h2) (one h3)) λD σ H hq=>?_;obtain⟨R,τ,ρ,Si,hb⟩:=hq;cases hb with
  |Ut e1 e2=>exact⟨R,τ,ρ,true,Si,e1,λH2 es=>JU ⟨R,τ,ρ,Si.go es,e2⟩⟩
  |iff e1 e2=>exact⟨R,τ,ρ,false,Si,e1,λH2 es=>JV ⟨R,τ,ρ,Si.go es,e2⟩⟩
end
def Df(K:ao)(x:Str)(st:Stmt):Prop:=∃f fd,DD K x x st f fd/\PySem.W.nsIn K mainGlobals x=some (some (.ref f))
variable {K:ao}
theorem dmk{x:Str}{f:Addr}{oc:Value}{od an:Option Addr}{sl:Array (Option Value)}{kV dc pm cd ct:Value}(a:PySem.W.nsIn K mainGlobals x=some (some (.ref f)))(l:K.lookup f=some ⟨oc,od,.func (PySem.W.fnOf x x (eN st) (bG st) (aQ st) .none kV dc pm an cd ct),sl⟩)(c:PySem.W.codeIn K cd x=true)(k:PySem.W.keepIn K (.ref f)=true):Df K x st:=⟨f,_,KD l c k,a⟩
noncomputable def RS(N P:aj)(sc:Scope):Bool:=decide (sc.kind=.function)&&(!sc.isCoroutine&&(!sc.isGenerator&&(decide N.Nodup&&(decide (N.take P.length=P)&&(P.all (λx=>decide (sc.names.lookup x=some .local\/sc.names.lookup x=some .cell))&&sc.names.all λy=>decide (y.2≠.free))))))
theorem x4{N P:aj}{sc:Scope}(h:RS N P sc=true):gf N P sc:=by
 obtain⟨h1,h⟩:=aD h;obtain⟨h2,h⟩:=aD h;obtain⟨h3,h⟩:=aD h;obtain⟨h4,h⟩:=aD h;obtain⟨h5,h⟩:=aD h;obtain⟨h6,h7⟩:=aD h;exact⟨aab h1,fm h2,fm h3,aab h4,aab h5,λx hx=>aab (List.all_eq_true.mp h6 x hx),λy hy=>aab (List.all_eq_true.mp h7 y hy)⟩
def LA(st:Stmt)(N ps:aj)(tb:List (Nat×Str))(bl:aj)(cs:List (Str×GK))(px:Px)(b:aq):Bool:=RS N ps (aQ st)&&iE ⟨aQ st,N,λn=>List.lookup n tb,bl,cs,px⟩ b (bG st)
theorem u1{α:Type}{P:List α->Prop}(h:∀a,P [a])(us:List α)(e:us.length=1):P us:=by obtain⟨a,rfl⟩:=Oo e;exact h a
theorem u2{α:Type}{P:List α->Prop}(h:∀a b,P [a,b])(us:List α)(e:us.length=2):P us:=by obtain⟨a,b,rfl⟩:=Om e;exact h a b
theorem u3{α:Type}{P:List α->Prop}(h:∀a b c,P [a,b,c])(us:List α)(e:us.length=3):P us:=by obtain⟨a,b,c,rfl⟩:=Ol e;exact h a b c
theorem u4{α:Type}{P:List α->Prop}(h:∀a b c d,P [a,b,c,d])(us:List α)(e:us.length=4):P us:=by obtain⟨a,b,c,d,rfl⟩:=T8 e;exact h a b c d
theorem u5{α:Type}{P:List α->Prop}(h:∀a b c d e,P [a,b,c,d,e])(us:List α)(e:us.length=5):P us:=by
 match us,e with
 |[a,b,c,d,e],_=>exact h a b c d e
variable {P:aE}{k':Nat}{mg:Str->Option Value}{w:World}
theorem Ent.u{k:Nat}{y:Str}{m:aH}(h:Ent P w K mg base k y m)(hk:k<=k':=by decide):Ent P w K mg base k' y m:=h.up hk
theorem en(X:K.In h)(G:h.Ns mainGlobals mg)⦃x:Str⦄⦃st:Stmt⦄⦃N ps bl:aj⦄⦃tb:List (Nat×Str)⦄⦃cs:List (Str×GK)⦄⦃px:Px⦄⦃b:aq⦄(k:Nat)(Φ:bh)(m:aH)(d:Df K x st)(hc:LA st N ps tb bl cs px b=true)
  (hp:pO px Φ/\DT px Φ) (ue:bW (λy=>mg y=none) bl) (lN:bW (λp:Str×GK=>∃u,mg p.1=some u/\yA K p.2 u) cs)
  (hf:bW (λp:Nat×Str=>Ent P w K mg base k p.2 (Φ p.1)) tb) (hm:∀ds r,m ds=ok r->ds.length=ps.length/\qP Φ N.length b ds=ok r) (hb:∀(kV doc pm:Value) (an:Option Addr) (fX ct:Value) (us:ai),us.length=ps.length->bindArgs (PySem.W.fnOf x x (eN st) (bG st) (aQ st) .none kV doc pm an fX ct) ⟨us,[]⟩=pure (ps.zip us):=by first|exact λ_ _ _ _ _ _=>u1 λ_=>rfl|exact λ_ _ _ _ _ _=>u2 λ_ _=>rfl|exact λ_ _ _ _ _ _=>u3 λ_ _ _=>rfl|exact λ_ _ _ _ _ _=>u4 λ_ _ _ _=>rfl|exact λ_ _ _ _ _ _=>u5 λ_ _ _ _ _=>rfl):Ent P w K mg base (k+1) x m:=by
 obtain⟨f,fd,Fu,a⟩:=d;obtain⟨h1,h2⟩:=aD hc;exact ent Fu (abb X G a) (Fu.binds hb) (x4 h1) h2 hp.1 hp.2 (bW.mem ue) (bW.two (P:=λy i=>∃u,mg y=some u/\yA K i u) lN) (bW.tab (P:=λg y=>Ent P w K mg base k y (Φ g)) hf) hm
noncomputable def xm(PT F:bh)(i:Nat)(m:aH):bh:=λn=>bif Nat.ble 1000 n then PT n else bif Nat.beq n i then m else F n
theorem W_{α:Type}{Q:Nat->Prop}(p:Nat){k:Nat}{a b c:α}(h:(if p=k then a else b)=c)(h1:a=c->Q k)(h2:b=c->Q p):Q p:=by
 by_cases e:p=k
 ·subst e;rw[if_pos rfl]at h;exact h1 h
 ·rw[if_neg e]at h;exact h2 h
variable {F:Addr->Prop}{Z:Cx}{cs:az}{Φ:bh}
theorem vR{α:Type}{e:Expr}{p k:Nat}{a b c:α}(h:(if p=k then a else b)=c)(h1:a=c->PE Z e (tD Z F Φ (.bU k cs))/\L2.PT Z e (fZ Z F Φ (.bU k cs)))(h2:b=c->PE Z e (tD Z F Φ (.bU p cs))/\L2.PT Z e (fZ Z F Φ (.bU p cs))):PE Z e (tD Z F Φ (.bU p cs))/\L2.PT Z e (fZ Z F Φ (.bU p cs)):=W_ (Q:=λp=>PE Z e (tD Z F Φ (.bU p cs))/\L2.PT Z e (fZ Z F Φ (.bU p cs))) p h h1 h2
theorem Zj{α:Type}{i p k:Nat}{a b c:α}(h:(if p=k then a else b)=c)(h1:a=c->PS Z st (o4 Z F Φ (.mut k i cs)))(h2:b=c->PS Z st (o4 Z F Φ (.mut p i cs))):PS Z st (o4 Z F Φ (.mut p i cs)):=W_ (Q:=λp=>PS Z st (o4 Z F Φ (.mut p i cs))) p h h1 h2
theorem TZ{A:Prop}(h:∃_:aa,False):A:=h.elim λ_ z=>z.elim
theorem gv:True:=trivial
theorem bW.nn{K:ao}{h:Heap}{mg:aV}(X:K.In h)(G:h.Ns mainGlobals mg):∀{l:aj},bW (λy=>PySem.W.nsIn K mainGlobals y=some none) l->bW (λy=>mg y=none) l
 |[],_=>trivial
 |_::_,z=>⟨PySem.W.mg_none_of X G z.1,bW.nn X G z.2⟩
theorem en7{P:aE}{w:World}{K:ao}{h base:Heap}{mg:aV}{bl:aj}{cs:List (Str×GK)}{px:Px}{PT:bh}(X:K.In h)(G:h.Ns mainGlobals mg)(hp:∀F i m,pO px (xm PT F i m)/\DT px (xm PT F i m))(ue:bW (λy=>mg y=none) bl)(lN:bW (λp:Str×GK=>∃u,mg p.1=some u/\yA K p.2 u) cs)
  ⦃x:Str⦄ ⦃st:Stmt⦄ (k:Nat) (Φ:bh) (d:Df K x st) (N:aj) (a:Nat) (tb:List (Nat×Str)) (b:aq)
  (hf:bW (λp:Nat×Str=>Ent P w K mg base k p.2 (Φ p.1)) tb) (hc:LA st N (N.take a) tb bl cs px b=true:=by decide +kernel) (e:∃F i m,Φ=xm PT F i m:=by exact⟨_,_,_,rfl⟩) (ha:(N.take a).length=a:=by rfl) (hb:∀(kV doc pm:Value) (an:Option Addr) (fX ct:Value) (us:ai),us.length=a->bindArgs (PySem.W.fnOf x x (eN st) (bG st) (aQ st) .none kV doc pm an fX ct) ⟨us,[]⟩=pure ((N.take a).zip us):=by first|exact λ_ _ _ _ _ _=>u1 λ_=>rfl|exact λ_ _ _ _ _ _=>u2 λ_ _=>rfl|exact λ_ _ _ _ _ _=>u3 λ_ _ _=>rfl|exact λ_ _ _ _ _ _=>u4 λ_ _ _ _=>rfl|exact λ_ _ _ _ _ _=>u5 λ_ _ _ _ _=>rfl):Ent P w K mg base (k+1) x (mk Φ a N.length b):=by
 obtain⟨F,i,m,e⟩:=e;exact en X G k Φ _ d hc (e▸hp F i m) ue lN hf (λds r q=>⟨(vG ds r q).1.trans ha.symm,(vG ds r q).2⟩) (λkV doc pm an fX ct us hu=>hb kV doc pm an fX ct us (hu.trans ha))
theorem enL{x:Str}{N ps bl:aj}{tb:List (Nat×Str)}{cs:List (Str×GK)}{px:Px}{b:aq}{f:Addr}{fd:FuncData}(k:Nat)(Φ:bh)(m:aH)(Fu:DD K x x st f fd)(hc:LA st N ps tb bl cs px b=true)
  (hp:pO px Φ/\DT px Φ) (ue:bW (λy=>mg y=none) bl) (lN:bW (λp:Str×GK=>∃u,mg p.1=some u/\yA K p.2 u) cs)
  (hf:bW (λp:Nat×Str=>Ent P w K mg base k p.2 (Φ p.1)) tb) (hm:∀ds r,m ds=ok r->ds.length=ps.length/\qP Φ N.length b ds=ok r):gQ P w K mg base zX (k+1) f fd ps (Ek K ps.length m):=by
 obtain⟨h1,h2⟩:=aD hc;exact uh Fu (x4 h1) h2 hp.1 hp.2 (bW.mem ue) (bW.two (P:=λy i=>∃u,mg y=some u/\yA K i u) lN) (λg y h=>(bW.tab (P:=λg y=>Ent P w K mg base k y (Φ g)) hf g y h).ex) hm
theorem jt.up{k:Nat}{y:Str}{mr:aa->Prop}(h:jt P w K mg base k C y mr)(hk:k<=k'):jt P w K mg base k' C y mr:=by
 obtain⟨f,fd,ps,h1,h2⟩:=h.ex;exact⟨f,fd,ps,h1.mono hk,h2⟩
theorem jt.u{k:Nat}{y:Str}{mr:aa->Prop}(h:jt P w K mg base k C y mr)(hk:k<=k':=by decide):jt P w K mg base k' C y mr:=h.up hk
theorem y4(X:K.In h)(q:PySem.W.excIn K C HM "ValueError.__new__" = true)(m:PySem.W.mroIn K C (.ref B)=some true)(ne:C≠B):oW C B h:=by
 obtain⟨dd,nm,bs,bm,ns,qn,hd,sn,sub,ab,col,k0,k1,k2,k3,k5,ho,_,_,_⟩:=ya q;refine⟨_,_,_,_,_,_,_,_,_,_,_,_,_,_,_,_,_,X _ _ ho,?_⟩;unfold PySem.W.mroIn PySem.W.clsIn at m;rw[ho]at m;have m:some ((Value.ref C::bm).contains (.ref B))=some true:=m;have m:=aao m;rw[List.contains_cons,Bool.or_eq_true]at m;rcases m with m|m
 ·have:=beq_iff_eq.mp m;cases this;exact absurd rfl ne
 ·exact m
section
variable {P:aE}{w:World}{K:ao}{h base:Heap}{mg:aV}(X:K.In h)(G:h.Ns mainGlobals mg){C:Addr}⦃x:Str⦄⦃st:Stmt⦄⦃N ps bl:aj⦄⦃tb:List (Nat×Str)⦄⦃cs:List (Str×GK)⦄⦃px:Px⦄
include X G
theorem XI{y:Str}(O:pP y C mg base)⦃b:aq⦄(n k:Nat)(Φ:bh)(Ψ:Nat->aa->Prop)(mr:aa->Prop)(d:Df K x st)(hc:LA st N ps tb bl cs px b=true)(UB:zY (iI (aQ st) y&&!(y==("__debug__" : Str))) n y b (bG st)=true)
  (hp:pO px Φ/\DT px Φ) (ue:bW (λy=>mg y=none) bl) (lN:bW (λp:Str×GK=>∃u,mg p.1=some u/\yA K p.2 u) cs)
  (hf:bW (λp:Nat×Str=>Ent P w K mg base k p.2 (Φ p.1)) tb) (Kg:bW (λp:Nat×Str=>(∃ds,Ψ p.1 ds)->jt P w K mg base k C p.2 (Ψ p.1)) tb)
  (hm:∀ds,mr ds->ds.length=ps.length/\Er Φ Ψ n b (ds.map some++List.replicate (N.length - ds.length) none)) (hb:∀(kV doc pm:Value) (an:Option Addr) (fX ct:Value) (us:ai),us.length=ps.length->bindArgs (PySem.W.fnOf x x (eN st) (bG st) (aQ st) .none kV doc pm an fX ct) ⟨us,[]⟩=pure (ps.zip us):=by first|exact λ_ _ _ _ _ _=>u1 λ_=>rfl|exact λ_ _ _ _ _ _=>u2 λ_ _=>rfl|exact λ_ _ _ _ _ _=>u3 λ_ _ _=>rfl|exact λ_ _ _ _ _ _=>u4 λ_ _ _ _=>rfl|exact λ_ _ _ _ _ _=>u5 λ_ _ _ _ _=>rfl):jt P w K mg base (k+1) C x mr:=by
 obtain⟨f,fd,Fu,a⟩:=d;obtain⟨h1,h2⟩:=aD hc;exact⟨f,fd,ps,Lb Fu (x4 h1) h2 UB hp.1 hp.2 (bW.mem ue) (bW.two (P:=λy i=>∃u,mg y=some u/\yA K i u) lN) (bW.tab (P:=λg y=>Ent P w K mg base k y (Φ g)) hf) (bW.tab (P:=λg y=>(∃ds,Ψ g ds)->jt P w K mg base k C y (Ψ g)) Kg) O hm,abb X G a,Fu.kp,Fu.binds hb,λds q=>(hm ds q).1⟩
end
noncomputable def Q4(share ex kept:Str)(Ax:Stmt)(a b c:Expr)(j1 j2 j3:Nat)(q1 q2 q3 np p1 p2 p3 hpos pos c1 c2 c3 c4 c5 c6 u1 u2 u3:Pos):aS :=
 [.Assign [.Name kept q1] (.Constant .none j1 q2) q3,.Try [Ax] [.ExceptHandler (some (.Name share np)) (some ex) [.Assign [.Name kept p1] (.Name ex p2) p3] hpos] [] [] pos,.If (.Compare (.Name kept c1) [.Is] [.Constant .none j2 c2] c3) [.Return (some (.Constant .none j3 c4)) c5] [] c6,.Return (some (.BoolOp .And [a,b,.UnaryOp .Not c u1] u2)) u3]
variable {share:Str}
section
variable {X:Cx}{S:Sx}{k n:Nat}{Φ:bh}{F:ah}{C B:Addr}{E1:XK}
theorem sW{ex kept:Str}{cl:Str->Option Bool}{i j:Nat}{a b c:Expr}{tb:TS}{good:St->Hp->Prop}{nrm:Prop}(L:Lk X S k Φ)(hk:X.stack=X.env::X.outer)(hf:X.env.frame=some X.env.locals)(O:pP share B X.mg X.base)(OS:oW C B X.base)(gs:Gl X share)(ds:(share==("__debug__" : Str))=false)
  (hi:X.N[i]?=some ex) (hj:X.N[j]?=some kept) (sJ:kept≠ex) (lx:X.env.scope.names.lookup ex=some .local) (lk:X.env.scope.names.lookup kept=some .local) (dx:CV ex=true) (dk:CV kept=true)
  (hb:∀pn D3,Passes (sI X.prog X.w C) (Cx.lW X pn D3) E1->ig (Cx.lW X pn D3) [Ax] tb) (Zt:∀D σ H,good σ H->(∀σ' H',σ'[j]?=some (some .bu)->aK X.H₀ H'->nrm->D.nx σ' H')->tb D σ H) (Z:QS X C cl) (ha:pI kept cl a=some true) (Py:pI kept cl b=some true) (ZY:pI kept cl c=some false) :
  ∀{j1 j2 j3:Nat} {q1 q2 q3 np p1 p2 p3 hpos pos c1 c2 c3 c4 c5 c6 u1 u2 u3:Pos},ig X (Q4 share ex kept Ax a b c j1 j2 j3 q1 q2 q3 np p1 p2 p3 hpos pos c1 c2 c3 c4 c5 c6 u1 u2 u3)
   (λD σ H=>good (σ.set j (some .bu)) H/\(nrm->∀H',aK X.H₀ H'->D.rt .bu H')/\∀H',E1 (.ref C) none H'->∀jG,aK H' jG->D.rt (.bl true) jG):=by
 intro j1 j2 j3 q1 q2 q3 np p1 p2 p3 hpos pos c1 c2 c3 c4 c5 c6 u1 u2 u3;unfold CV at dx dk;simp only[Bool.and_eq_true,Bool.not_eq_true']at dx dk;unfold Q4;have he:∀p,PE X (.Name kept p) (vg j):=λp=>nK (pos:=p) hj (.inl lk) dk.1 dk.2;have S1:=vq (X:=X) (pos:=q3) (pos':=q1) (i:=j) L.nd hj (.inl lk) (vy (j:=j1) (pos:=q2)) (hf:=.inr lk);have S2:=EH (X:=X) (C:=C) (B:=B) (body:=[Ax]) (tb:=tb) (i:=i) (j:=j) (E1:=E1) (np:=np) (p1:=p1) (p2:=p2) (p3:=p3) (hpos:=hpos) (pos:=pos) hk hf O OS gs ds L.nd hi hj sJ lx lk dx.1 dx.2 rfl hb;have S3:=w9 (X:=X) (pos:=c6) (I_ (pos:=c3) (Ji (j:=j2) (pos':=c2) (he c1))) (jf (qU (X:=X) (pos:=c5) (vy (j:=j3) (pos:=c4)))) w8;have S4:=qU (X:=X) (pos:=u3) (vA (pos:=u2) (rest:=[.UnaryOp .Not c u1]) (vz Z he ha).1 (vA (pos:=u2) (rest:=[]) (vz Z he Py).1 (vx (pos:=u2) (Bj (pos:=u1) (vz Z he ZY).1))));refine ig.imp (gx S1 (gx S2 (gx S3 (jf S4)))) λD σ H hq=>?_;obtain⟨hg,q1,q2⟩:=hq;refine⟨Zt _ _ _ hg λσ' H' e1 sm nr=>⟨.bu,e1,true,rfl,JU (q1 nr H' sm)⟩,λea H' he hn=>?_⟩;have RG:j<X.N.length:=(List.getElem?_eq_some_iff.mp hj).1;have hg:(only X.N.length j (.ref ea))[j]?=some (some (.ref ea)):=by
  unfold only;rw[List.getElem?_set_self (by rw[List.length_replicate];exact RG)]
 refine⟨.ref ea,hg,false,rfl,JV ?_⟩;refine⟨ea,hg,aZ,true,rfl,?_⟩;refine⟨ea,hg,aZ,true,rfl,?_⟩;exact⟨ea,hg,aZ,false,rfl,q2 H' he _ (aK.upd hn)⟩
end
noncomputable def Hs(l:List (Str×Bool)):Str->Option Bool:=λx=>if x = "ValueError" then some true else l.lookup x
theorem bW.G7{P:Str->Bool->Prop}:∀{l:List (Str×Bool)},bW (λp=>P p.1 p.2) l->∀x b,l.lookup x=some b->P x b/\(x,b)∈l
 |[],_,x,b,h=>nomatch h
 | (y,c)::l,a,x,b,h=>by
  rw[List.lookup_cons]at h;by_cases e:x=y
  ·subst e;rw[beq_self_eq_true]at h;cases h;exact⟨a.1,aah⟩
  ·rw[beq_eq_false_iff_ne.mpr e]at h;obtain⟨h1,h2⟩:=bW.G7 a.2 x b h;exact⟨h1,aag _ h2⟩
def gN(sc:Scope)(x:Str):Bool:=iI sc x&&!(x==("__debug__" : Str))
def WO(sc:Scope)(N:aj)(share ex kept:Str)(i j:Nat)(l:List (Str×Bool)):Bool:=gN sc share&&(decide (N[i]?=some ex)&&(decide (N[j]?=some kept)&&(decide (kept≠ex)&&(decide (sc.names.lookup ex=some .local)&&(decide (sc.names.lookup kept=some .local)&&(CV ex&&(CV kept&&(iI sc "isinstance" && (gN sc "ValueError" && l.all λp=>gN sc p.1)))))))))
noncomputable def yV(N:aj)(j:Nat)(ds:aa):a_:=(ds.map some++List.replicate (N.length - ds.length) none).set j (some .bu)
section
variable {P:aE}{w:World}{K:ao}{h base:Heap}{mg:aV}(X:K.In h)(G:h.Ns mainGlobals mg){C:Addr}⦃x:Str⦄⦃st:Stmt⦄⦃N ps bl:aj⦄⦃tb:List (Nat×Str)⦄⦃cs:List (Str×GK)⦄⦃px:Px⦄
include X G
theorem enN{ex kept:Str}{l:List (Str×Bool)}(hO:pP share B mg base)(OS:oW C B base)(xc:XC K C)(hl:bW (λp:Str×Bool=>∃g,PySem.W.nsIn K mainGlobals p.1=some (some (.ref g))/\PySem.W.kitOne K (.ref C) (.ref g)=some p.2) l)(vv:PySem.W.kitOne K (.ref C) (.type "ValueError")=some true)(ni:mg "isinstance" = none)(nv:mg "ValueError" = none)
   {ea eb ec:Expr} {j1 j2 j3:Nat} {q1 q2 q3 c1 c2 c3 c4 c5 c6 u1 u2 u3:Pos} {c:CS} (n i j k:Nat) (Φ:bh) (Ψ:Nat->aa->Prop) (m:aH) (d:Df K x st) (FF:RS N ps (aQ st)=true)
  (FE:bG st=Q4 share ex kept Ax ea eb ec j1 j2 j3 q1 q2 q3 np p1 p2 p3 hpos pos c1 c2 c3 c4 c5 c6 u1 u2 u3/\(WO (aQ st) N share ex kept i j l&&(decide (pI kept (Hs l) ea=some true)&&(decide (pI kept (Hs l) eb=some true)&&(decide (pI kept (Hs l) ec=some false)&&(pJ ⟨aQ st,N,λn=>List.lookup n tb,bl,cs,px⟩ c Ax&&HX c)))))=true)
  (hp:pO px Φ/\DT px Φ) (ue:bW (λy=>mg y=none) bl) (lN:bW (λp:Str×GK=>∃u,mg p.1=some u/\yA K p.2 u) cs)
  (hf:bW (λp:Nat×Str=>Ent P w K mg base k p.2 (Φ p.1)) tb) (Kg:bW (λp:Nat×Str=>(∃ds,Ψ p.1 ds)->jt P w K mg base k C p.2 (Ψ p.1)) tb)
  (hm:∀ds r,m ds=ok r->ds.length=ps.length/\((r=.bu/\∃ρ',hZ Φ c (yV N j ds)=ok (.nx,ρ')/\ρ'[j]?=some (some .bu))\/r=.bl true/\sM Φ Ψ n c (yV N j ds))) (hb:∀(kV doc pm:Value) (an:Option Addr) (fX ct:Value) (us:ai),us.length=ps.length->bindArgs (PySem.W.fnOf x x (eN st) (bG st) (aQ st) .none kV doc pm an fX ct) ⟨us,[]⟩=pure (ps.zip us):=by first|exact λ_ _ _ _ _ _=>u1 λ_=>rfl):Ent P w K mg base (k+1) x m:=by
 obtain⟨f,fd,Fu,a⟩:=d;obtain⟨FE,hn⟩:=FE;obtain⟨hn,hs⟩:=aD hn;obtain⟨s1,hs⟩:=aD hs;obtain⟨s2,hs⟩:=aD hs;obtain⟨s3,hs⟩:=aD hs;obtain⟨s4,s5⟩:=aD hs;obtain⟨n1,hn⟩:=aD hn;obtain⟨n2,hn⟩:=aD hn;obtain⟨n3,hn⟩:=aD hn;obtain⟨n4,hn⟩:=aD hn;obtain⟨n5,hn⟩:=aD hn;obtain⟨n6,hn⟩:=aD hn;obtain⟨n7,hn⟩:=aD hn;obtain⟨n8,hn⟩:=aD hn;obtain⟨n9,hn⟩:=aD hn;obtain⟨T5,Y8⟩:=aD hn;obtain⟨n1,WT⟩:=aD n1;obtain⟨T5,T4⟩:=aD T5;have hj:=aab n3;have Sc:=x4 FF;refine⟨f,fd,ps,Fu.ok (N:=N) Sc (λvs H Q E ⟨_,_,_,h,_⟩=>h) λfX A outer s H vs Q E hr uP=>?_,abb X G a,Fu.kp,Fu.binds hb,λds r q=>(hm ds r q).1⟩;obtain⟨F,ds,r,hlq,rs,er,hq⟩:=uP;obtain⟨Xo,Pr⟩:=hm ds r er;have B7:=hp.1;have J9:=hp.2;have ue:=bW.mem ue;have lN:=bW.two (P:=λy i=>∃u,mg y=some u/\yA K i u) lN;have xQ:=bW.tab (P:=λg y=>Ent P w K mg base k y (Φ g)) hf;have Kg:=bW.tab (P:=λg y=>(∃ds,Ψ g ds)->jt P w K mg base k C y (Ψ g)) Kg
 let X':=(iY zX P w K mg base N x (aQ st) f fX A outer s H E).xw
 have L:Lk X' ⟨aQ st,N,λn=>List.lookup n tb,bl,cs,px⟩ k Φ:=⟨rfl,rfl,Sc.nd,rfl,hr,ue,λg y h=>⟨(xQ g y h).ex⟩,lN,B7⟩
 have Z:QS X' C (Hs l):=⟨xc,L.gl n9,ni,λy b hy p=>by
  unfold Hs at hy;by_cases e:y = "ValueError"
  ·subst e;rw[if_pos rfl]at hy;cases hy;exact⟨.ty "ValueError",.type "ValueError",xo (L.gl T5) nv (by decide +kernel) rfl (by decide +kernel) (fm T4),λu z=>z,vv⟩
  ·rw[if_neg e]at hy;obtain⟨⟨g,h1,h2⟩,h3⟩:=bW.G7 (P:=λy b=>∃g,PySem.W.nsIn K mainGlobals y=some (some (.ref g))/\PySem.W.kitOne K (.ref C) (.ref g)=some b) hl y b hy;obtain⟨h4,h5⟩:=aD (List.all_eq_true.mp Y8 _ h3);exact⟨.ref g,.ref g,xl (L.gl h4) (abb X G h1) rfl (fm h5),λu z=>z,h2⟩⟩
 have hpl:ps.length<=N.length:=by have:=aaN List.length Sc.pre;rw[List.length_take]at this;left
 have Si:=tj (X:=X') (F:=F) (N:=N) (vs:=vs) (ds:=ds) (H:=H) rfl (by left) rs;have RG:j<N.length:=(List.getElem?_eq_some_iff.mp hj).1;obtain⟨τ1,wD⟩:=Si.set (i:=j) (v:=.bu) (d:=.bu) ⟨λ_=>none,λ_ _ h=>by simp at h,.bu⟩ (by simp;left);rw[FE];rcases Pr with ⟨rfl,ρ',e1,e2⟩|⟨rfl,e1⟩
 ·refine⟨_,sW (X:=X') (nrm:=True) (E1:=λ_ _ _=>False) (good:=λσ H=>∃R τ ρ ρ1,SI X' F R τ ρ σ H/\hZ Φ c ρ=ok (.nx,ρ1)/\ρ1[j]?=some (some .bu))
   (tb:=λD σ H=>∃R τ ρ ρ1,SI X' F R τ ρ σ H/\hZ Φ c ρ=ok (.nx,ρ1)/\∀σ' H' R' τ',SI X' F R' τ' ρ1 σ' H'->D.nx σ' H') L rfl rfl hO OS (L.gl n1) (fm WT) (aab n2) hj (aab n4) (aab n5) (aab n6) n7 n8 (λpn D3 _=>?_) (λD σ H' hg hd=>?_) Z (aab s1) (aab s2) (aab s3),⟨_,_,_,_,wD,e1,e2⟩,λ_ H' sm=>?_,λ_ z=>z.elim⟩
  ·have Lt:lr (Cx.lW X' pn D3).xw ⟨aQ st,N,λn=>List.lookup n tb,bl,cs,px⟩ k Φ:=⟨⟨L.sc,L.N,L.nd,L.calm,L.room,L.bl,λf x h=>⟨(L.fn f x h).ex⟩,L.cs,L.pr⟩,λ_=>rfl,PassesOwn.never,Sc.kind,J9⟩
   refine ig.imp (jf (PS.xw (vj (F:=F) Lt c Ax s4))) λD σ H ⟨R,τ,ρ,ρ1,Si,ev,hq⟩=>⟨R,τ,ρ,_,Si.lW.xw,ev,λσ' H' R' τ' fb _=>hq σ' H' R' τ' (by have S:=fb.MO;exact⟨S.len,S.rep,S.rt,S.rh,S.rf,S.th,S.t0,S.same⟩)⟩
  ·obtain⟨R,τ,ρ,ρ1,Si,ev,f2⟩:=hg;refine⟨R,τ,ρ,ρ1,Si,ev,λσ' H' R' τ' fb=>?_⟩;obtain⟨v1,g1,r1⟩:=fb.rep j _ f2;cases r1;exact hd σ' H' g1 fb.same trivial
  ·exact hq .bu H' sm ⟨λ_=>none,λ_ _ h=>by simp at h,.bu⟩
 ·refine⟨_,sW (X:=X') (nrm:=False) (E1:=λc _ H'=>c=.ref C/\aK X'.H₀ H') (good:=λσ H=>∃R τ ρ,SI X' F R τ ρ σ H/\sM Φ Ψ n c ρ)
   (tb:=nh X' F (sM Φ Ψ n c)) L rfl rfl hO OS (L.gl n1) (fm WT) (aab n2) hj (aab n4) (aab n5) (aab n6) n7 n8 (λpn D3 hx=>?_) (λD σ H' hg hd=>hg) Z (aab s1) (aab s2) (aab s3),⟨_,_,_,wD,e1⟩,λz=>z.elim,λH' hE jG sm=>?_⟩
  ·exact ig.imp (jf (Qj (X:=Cx.lW X' pn D3) (F:=F) (n:=n) ⟨L.sc,L.N,L.nd,L.calm,L.room,L.bl,λf x h=>⟨(L.fn f x h).ex⟩,L.cs,L.pr⟩ hx Kg s5 s4)) λD σ H ⟨R,τ,ρ,Si,hb⟩=>⟨R,τ,ρ,Si.lW,hb⟩
  ·exact hq (.bl true) jG (hE.2.trans sm) ⟨λ_=>none,λ_ _ h=>by simp at h,.bl true⟩
end
def Uv(xs:aa):O D:=match one xs with
 |some d=>ok d
 |none=>none
noncomputable def Ht(_:Scope)(_:aj)(e:Expr):Option (av):=match e with
 |.Name _ _=>some [e]
 |_=>none
theorem NZ{n:Nat}(hΦ:Φ n=Uv){X:Cx}{sc:Scope}{bl:aj}{k:Nat}(L:PX X sc bl k){e:Expr}{args:av}(he:Ht sc bl e=some args)(hs:lT X F Φ cs args):PE X e (tD X F Φ (.bU n cs))/\PT X e (fZ X F Φ (.bU n cs)):=by
 cases e<;>first | (cases he;done)|skip
 cases he;rename_i id pos;cases cs with
 |nil=>exact hs.elim
 |cons c cs=>cases cs with
  |cons _ _=>exact hs.2.2.2.elim
  |nil =>
   have this:PE X (.Name id pos) (tD X F Φ (.bU n [c])):=by
    refine PE.imp hs.1 λσ H Q hq=>?_;obtain⟨R,τ,ρ,d,Si,ev,hq⟩:=hq;obtain⟨xs,b7,ev⟩:=aB ev;rw[hΦ]at ev;obtain⟨x,ex,b7⟩:=aB b7;cases b7;cases ev;have e:iJ (CE.bU n [c])=iJ c:=List.append_nil _;exact⟨R,τ,ρ,_,Si,ex,λv H' s r=>hq v H' s (by rw[e];exact r)⟩
   exact⟨this,cG this λ_=>rfl⟩
end DI
end
section
namespace DI
open PySem (Str)
open Classical in
noncomputable def yW(Φ:bh)(ds:aa):O D:=if Bz ds then ok (.bl true)else if ∃d r,ds=[d]/\aw aL d=d/\Φ 20 [d]=ok r then ok .bu else none
noncomputable def uF:CS:=.ex (.call 20 [(.v 0)])
variable {Φ:bh}
theorem ZH{Ψ:Nat->aa->Prop}(hΨ:∀ds,Bz ds->Ψ 20 ds){N:aj}(hN:N.length=3)(ds:aa)(r:D)(h:yW Φ ds=ok r):ds.length=1/\((r=.bu/\∃ρ',hZ Φ uF (yV N 1 ds)=ok (.nx,ρ')/\ρ'[1]?=some (some .bu))\/r=.bl true/\sM Φ Ψ 1 uF (yV N 1 ds)):=by
 unfold yW at h;by_cases hm:Bz ds
 ·rw[if_pos hm]at h;cases h;obtain⟨d,rfl,h1,h2,h3⟩:=id hm;refine⟨rfl,.inr ⟨rfl,.ex (xs:=[aw aO d]) ?_ (hΨ _ ?_)⟩⟩
  ·unfold yV;rw[hN];rfl
  ·show Bz [aw aL (aw aO d)];rw[eY h2,h2];exact hm
 ·rw[if_neg hm]at h;by_cases hx:∃d r,ds=[d]/\aw aL d=d/\Φ 20 [d]=ok r
  ·rw[if_pos hx]at h;cases h;obtain⟨d,r,rfl,h1,h2⟩:=hx;refine⟨rfl,.inl ⟨rfl,[some d,some .bu,none],?_,rfl⟩⟩;unfold yV;rw[hN];show hZ Φ uF [some d,some .bu,none]=_;have e:bp Φ (.call 20 [(.v 0)]) [some d,some .bu,none]=ok (aw d8 r):=by
    show jB (Φ 20) (ok [aw aO d])=_;rw[iZ];show DQ (Φ 20 [aw aL (aw aO d)])=_;rw[eY h1,h1,h2];rfl
   show bd (bp Φ (.call 20 [(.v 0)]) [some d,some .bu,none]) _=_;rw[e];rfl
  ·rw[if_neg hx]at h;cases h
def Dw(m:aH):Prop:=∀d,aX 8 d=true->aw aL d=d->m [d]=ok (if cX d=true then .bu else .bl true)
theorem II(Φ:bh)(h20:HB (Φ 20)):Dw (yW Φ):=by
 intro d h1 h2;obtain⟨a,b⟩:=h20 d h1 h2;unfold yW;cases hg:cX d with
 |true =>
  obtain⟨r,hr⟩:=a hg;rw[if_neg (λ⟨d',e,_,_,e'⟩=>by cases e;rw[hg]at e';cases e'),if_pos ⟨d,r,rfl,h2,hr⟩,if_pos rfl]
 |false=>rw[if_pos ⟨d,rfl,h1,h2,hg⟩,if_neg (by decide)]
noncomputable def yM:aq:=[.asg (.nm 3) (.call 221 [(.v 1),(.call 200 [(.v 0),(.bin .add (.int 8) (.v 2))])]),.ifs (.cmp .eq (.v 2) (.int 0)) [.asg (.nm 3) (.bU 1082 [(.v 1)])] []]
noncomputable def Eg:aq:=[.asg (.nm 4) (.bU 1080 [(.v 3)]),.asg (.nm 5) (.call 219 [(.v 3)]),.asg (.nm 6) (.call 16 [(.v 3)]),.ifs (.or [(.not (.o8 (.v 6) .bool)),(.cmp .ne (.v 6) (.v 5)),(.cmp .ne (.bU 1080 [(.v 3)]) (.v 4))]) [.ret (.bl false)] [],.ifs (.cmp .ne (.call 211 [(.v 3)]) (.ix (.lst [(.bl true),.bu]) (.bf .vP [(.v 5)]))) [.ret (.bl false)] []]
def S7:aq:=yM++Eg
def kE:aq:=[.asg (.nm 1) (.call 212 [(.v 0),(.int 0),(.int 5)]),.fr (.nm 2) (.jZ (.int 8)) S7,.ret (.bl true)]
structure Sg(Φ:bh):Prop where
 PZ:mX (Φ 16)
 vY:sG (Φ 200)
 Vw:Dw (Φ 211)
 Vv:qH (Φ 212)
 Vu:Dx (Φ 219)
 Vt:Dz (Φ 221)
 P2:Φ 1080=tJ
 P1:Φ 1082=Uv
def jz(f:Fl)(n:Nat)(rs:aJ):D:=.tup [.int n,.lst f (bg rs)]
theorem gA(g:Fl->Fl)(f:Fl)(n:Nat)(rs:aJ):aw g (jz f n rs)=jz (g f) n rs:=by
 show D.tup [.int n,.lst (g f) (au g (bg rs))]=_;rw[bC];rfl
theorem CT{d:D}(h:aX 4 d=true):aX 8 d=true:=ib (ib (ib (ib h)))
theorem M8(T:Sg Φ){n:Nat}{rs:aJ}(hn:n<=5)(I:Dr 6 n rs)(ns:ae){f:Fl}(hf:aL f=.fz)(k:Nat)(c3 c4 c5 c6:aU):
  ∃f' d,aL f'=.fz/\aX 4 d=true/\bJ Φ yM [some (.lst .sc (ag ns)),some (jz f n rs),some (.int k),c3,c4,c5,c6]=ok (.nx,[some (.lst .sc (ag ns)),some (jz f' n rs),some (.int k),some d,c4,c5,c6]):=by
 have VY:=T.vY ns (8+(k:Int)) (by left);obtain⟨d,VX,hd⟩:=T.Vt n rs (bR ns (8+(k:Int))) hn I;have ms:∀g,g .sc=.sc->aw g (.lst .sc (ag ns))=.lst .sc (ag ns):=λg hg=>by rw[aw,hg,bP]
 have ev:bp Φ (.call 221 [(.v 1),(.call 200 [(.v 0),(.bin .add (.int 8) (.v 2))])]) [some (.lst .sc (ag ns)),some (jz f n rs),some (.int k),c3,c4,c5,c6]=ok (aw d8 d):=by
  have a1:bp Φ (.call 200 [(.v 0),(.bin .add (.int 8) (.v 2))]) [some (.lst .sc (ag ns)),some (jz f n rs),some (.int k),c3,c4,c5,c6]=ok (.int (bR ns (8+(k:Int)))):=by
   show jB (Φ 200) (ok [aw aO (.lst .sc (ag ns)),.int (8+(k:Int))])=_;rw[iZ];show DQ (Φ 200 [aw aL (aw aO (.lst .sc (ag ns))),.int (8+(k:Int))])=_;rw[ms aO rfl,ms aL rfl,VY];rfl
  rw[rV,bQ,bQ,a1];show jB (Φ 221) (ok [aw aO (jz f n rs),.int (bR ns (8+(k:Int)))])=_;rw[iZ];show DQ (Φ 221 [aw aL (aw aO (jz f n rs)),.int (bR ns (8+(k:Int)))])=_;rw[Hi,gA,hf];show DQ (Φ 221 [mj n rs,_])=_;rw[VX];rfl
 have Xr:aX 4 (aw d8 d)=true:=by rw[cS _ (λf=>by cases f<;>rfl)];exact hd
 have sa:∃f' d',aL f'=.fz/\aX 4 d'=true/\hZ Φ (.asg (.nm 3) (.call 221 [(.v 1),(.call 200 [(.v 0),(.bin .add (.int 8) (.v 2))])])) [some (.lst .sc (ag ns)),some (jz f n rs),some (.int k),c3,c4,c5,c6]=ok (.nx,[some (.lst .sc (ag ns)),some (jz f' n rs),some (.int k),some d',c4,c5,c6]):=by
  rw[m6,BR,ev];cases ha:aY bN (aw d8 d)with
  |false=>rw[d6 ha];exact⟨f,_,hf,Xr,rfl⟩
  |true =>
   rw[kl ha];refine⟨.fz,_,rfl,(by rw[cS _ (λf=>by cases f<;>rfl)];exact Xr:aX 4 (aw aL (aw d8 d))=true),?_⟩;show ok (Fo.nx,[some (aw aL (.lst .sc (ag ns))),some (aw aL (jz f n rs)),some (.int k),some (aw aL (aw d8 d)),c4,c5,c6])=_;rw[ms aL rfl,gA,hf]
 obtain⟨f1,d1,Ph,Ve,sa⟩:=sa;by_cases hk:k=0
 ·subst hk;have cq:bp Φ (.cmp .eq (.v 2) (.int 0)) [some (.lst .sc (ag ns)),some (jz f1 n rs),some (.int (0:Nat)),some d1,c4,c5,c6]=ok (.bl true):=rfl;have e2:bp Φ (.bU 1082 [(.v 1)]) [some (.lst .sc (ag ns)),some (jz f1 n rs),some (.int (0:Nat)),some d1,c4,c5,c6]=ok (jz (aO f1) n rs):=by
   show yw (Φ 1082) (ok [aw aO (jz f1 n rs)])=_;rw[T.P1,gA];rfl
  have dd:∀f,fK f=false->aX 4 (jz f n rs)=true:=λf hs=>lh I.n2 (tF I hs);have sb:∃f',aL f'=.fz/\∃d',aX 4 d'=true/\hZ Φ (.asg (.nm 3) (.bU 1082 [(.v 1)])) [some (.lst .sc (ag ns)),some (jz f1 n rs),some (.int (0:Nat)),some d1,c4,c5,c6]=ok (.nx,[some (.lst .sc (ag ns)),some (jz f' n rs),some (.int (0:Nat)),some d',c4,c5,c6]):=by
   rw[m6,Oy,e2];cases ha:aY bN (jz (aO f1) n rs)with
   |false=>rw[d6 ha];exact⟨f1,Ph,_,dd _ (by cases f1<;>first|rfl|cases Ph),rfl⟩
   |true =>
    rw[kl ha];refine⟨.fz,rfl,jz .fz n rs,dd _ rfl,?_⟩;show ok (Fo.nx,[some (.lst .sc (ag ns)),some (aw aL (jz f1 n rs)),some (.int (0:Nat)),some (aw aL (jz (aO f1) n rs)),c4,c5,c6])=_;rw[gA,gA,Ph,show aL (aO f1)=.fz by cases f1<;>first|rfl|cases Ph]
  obtain⟨f2,ZS,d2,hd2,sb⟩:=sb;refine⟨f2,d2,ZS,hd2,?_⟩;show bJ Φ yM _=_;unfold yM;rw[c9,sa,fE,c9,Ae,cq];show pY Φ [] (bJ Φ [.asg (.nm 3) (.bU 1082 [(.v 1)])] _)=_;rw[c9,sb];rfl
 ·refine⟨f1,d1,Ph,Ve,?_⟩;have cq:bp Φ (.cmp .eq (.v 2) (.int 0)) [some (.lst .sc (ag ns)),some (jz f1 n rs),some (.int k),some d1,c4,c5,c6]=ok (.bl false):=by
   show ok (D.bl ((k:Int)==0))=_;rw[beq_eq_false_iff_ne.mpr (by left)]
  unfold yM;rw[c9,sa,fE,kL cq];rfl
theorem M7(T:Sg Φ)(a b c c4 c5 c6:aU){d:D}(hd:aX 4 d=true):
  ∃R6 Hw z9,bJ Φ Eg [a,b,c,some d,c4,c5,c6]=ok (.nx,[a,b,c,some d,R6,Hw,z9]):=by
 have dz:aX 8 (aw aL d)=true:=by rw[cS _ (λf=>by cases f<;>rfl)];exact CT hd
 have da:aX 4 (aw aO d)=true:=by rw[cS _ (λf=>by cases f<;>rfl)];exact hd
 have eg:=T.Vu _ dz (mH d);have ef:=T.PZ _ dz (mH d);have er:=T.Vw _ dz (mH d);have XU:Φ 1080 [aw aO d]=ok (.str (toPy (aw aO d)).shown):=by
  rw[T.P2];show(if vm (aw aO d)=true then ok (D.str (toPy (aw aO d)).shown)else none)=_;rw[if_pos (Iy da)]
 have fz2:=Hi d;generalize (toPy (aw aO d)).shown=s at XU;generalize cX (aw aL d)=g at eg ef er;refine⟨some (.str s),some (.bl g),some (.bl g),?_⟩;have n1:ej .ne (.bl g) (.bl g)=ok (.bl false):=by cases g<;>rfl
 have n2:ej .ne (.str s) (.str s)=ok (.bl false):=by
  show ok (D.bl (!(s==s)))=_;rw[beq_self_eq_true];rfl
 have n3:∀r,Φ 211 [aw aL d]=ok r->ej .ne (aw d8 r) (if g=true then .bu else .bl true)=ok (.bl false):=λr hr=>by
  rw[er]at hr;cases hr;cases g<;>rfl
 have n4:kI (.lst .ow [.bl true,.bu]) (.int (if g=true then 1 else 0))=ok (if g=true then .bu else .bl true):=by cases g<;>rfl
 have n5:mU .vP [.bl g]=ok (.int (if g=true then 1 else 0)):=rfl;have n6:aw d8 (if g=true then D.bu else .bl true)=(if g=true then D.bu else .bl true):=by cases g<;>rfl
 have n7:=n3 _ er;rw[n6]at n7;have n8:cL .bool (.bl g)=true:=rfl;simp[Eg,XU,eg,ef,er,fz2,n1,n2,n4,n5,n6,n7,n8]
theorem Oh{Φ:bh}(T:Sg Φ){n:Nat}{rs:aJ}(hn:n<=5)(I:Dr 6 n rs)(ns:ae):∀(ks:aN) (f:Fl) (c2 c3 c4 c5 c6:aU),aL f=.fz ->
  ∃ρ',fW (λd ρ=>cY (.nm 2) d ρ) (λρ=>bJ Φ S7 ρ) (ks.map λ(i:Nat)=>D.int (i:Int)) [some (.lst .sc (ag ns)),some (jz f n rs),c2,c3,c4,c5,c6]=ok (.nx,ρ')
 |[],f,c2,c3,c4,c5,c6,_=>⟨_,rfl⟩
 |k::ks,f,c2,c3,c4,c5,c6,hf=>by
  obtain⟨f',d,Vb,hd,ea⟩:=M8 T hn I ns hf k c3 c4 c5 c6;obtain⟨R6,Hw,z9,eb⟩:=M7 T (some (.lst .sc (ag ns))) (some (jz f' n rs)) (some (.int k)) c4 c5 c6 hd;obtain⟨ρ',ih⟩:=Oh T hn I ns ks f' (some (.int k)) (some d) R6 Hw z9 Vb;refine⟨ρ',?_⟩;rw[List.map_cons];refine jM (ρ1:=[some (.lst .sc (ag ns)),some (jz f n rs),some (.int k),c3,c4,c5,c6]) (by simp) (ρ2:=[some (.lst .sc (ag ns)),some (jz f' n rs),some (.int k),some d,R6,Hw,z9]) ?_ ih;show bJ Φ (yM++Eg) _=_;rw[wJ Φ _ _ _ _ ea,eb]
theorem Ou(Φ:bh)(T:Sg Φ)(ns:ae):mk Φ 1 7 kE [.lst .sc (ag ns)]=ok (.bl true):=by
 obtain⟨n,rs,hn,I,_,e1⟩:=T.Vv ns 0 5 (by decide) (by decide) (by decide);obtain⟨ρ',el⟩:=Oh T hn I ns (List.range 8) .ow none none none none none rfl;have hit:fg Φ (.jZ (.int 8)) [some (.lst .sc (ag ns)),some (jz .ow n rs),none,none,none,none,none]=ok ((List.range 8).map λ(i:Nat)=>D.int (i:Int),[some (.lst .sc (ag ns)),some (jz .ow n rs),none,none,none,none,none]):=by
  rw[JY (n:=8) (by simp) (by decide) (by decide)];rfl
 have hf:=lA (Φ:=Φ) (t:=.nm 2) (b:=S7) hit el;have ms:∀g,g .sc=.sc->aw g (.lst .sc (ag ns))=.lst .sc (ag ns):=λg hg=>by rw[aw,hg,bP]
 have e2:bp Φ (.call 212 [(.v 0),(.int 0),(.int 5)]) [some (.lst .sc (ag ns)),none,none,none,none,none,none]=ok (jz .ow n rs):=by
  show jB (Φ 212) (ok [aw aO (.lst .sc (ag ns)),.int 0,.int 5])=_;rw[iZ];show DQ (Φ 212 [aw aL (aw aO (.lst .sc (ag ns))),.int 0,.int 5])=_;rw[ms aO rfl,ms aL rfl];show DQ (Φ 212 [.lst .sc (ag ns),.int 0,.int ((5:Nat):Int)])=_;rw[e1,KC];exact aaN ok (gA d8 .ow n rs)
 have na:aY bN (jz .ow n rs)=false:=by
  show(false||(false||aP bN (bg rs)||false))=false;rw[Cd];rfl
 have s1:hZ Φ (.asg (.nm 1) (.call 212 [(.v 0),(.int 0),(.int 5)])) [some (.lst .sc (ag ns)),none,none,none,none,none,none]=ok (.nx,[some (.lst .sc (ag ns)),some (jz .ow n rs),none,none,none,none,none]):=by
  rw[m6,BR,e2,d6 na];rfl
 rw[mk_eq (ar:=1) (ds:=[.lst .sc (ag ns)]) rfl];show mi (bJ Φ kE [some (.lst .sc (ag ns)),none,none,none,none,none,none])=_;unfold kE;rw[c9,s1,fE,c9,hf,fE];rfl
end DI
end
namespace PySem.W.Fast
def tw15311201102269622127:=0
def tw12526010764556171665:=0
def tw14056606010926906880:=0
def tw17549876386435343596:=0
def tw6661631683204217231:=0
def tw17232352874504752816:=0
def tw16422624200045547750:=0
def tw8646658874103365469:=0
def tw8477247506278526246:=0
def tw16207724171044345857:=0
def tw17022116751278782269:=0
def tw8219941817519206649:=0
def tw3919555381262048638:=0
def tw14399316064352751376:=0
def tw6002966814967933950:=0
def tw12266076032491115781:=0
def tw3578961389585928545:=0
def tw3589677678807133954:=0
def tw8110963876126704705:=0
def tw17357561829547138882:=0
def tw4124265762873902955:=0
def tw4665998003959410014:=0
def tw3846947083171467406:=0
def tw12651842882834643621:=0
def tw8345105605607317670:=0
def tw7441466014389154666:=0
def tw3491373144725120942:=0
def tw12517149617893577383:=0
def tw1574453587153965567:=0
def tw1584804438066242772:=0
def tw10484186726421570376:=0
def tw4039728877244888296:=0
def tw12707819999239464156:=0
def tw4667212862469661671:=0
def tw7554586406558377780:=0
def tw1777891529910731796:=0
def tw2392357975038516207:=0
def tw6595290634775811086:=0
def tw4830613731772810792:=0
def tw10840219830387779466:=0
def tw2314996184348343445:=0
def tw16076049062606890362:=0
def tw3465802809061413091:=0
def tw17524550001275066910:=0
def tw10889210205530474363:=0
def tw11943373431405786482:=0
def tw12481618017314418802:=0
def tw8364522396869466190:=0
def tw3197282302131109218:=0
def tw9397270276131596619:=0
def tw4183388221089917546:=0
def tw2609658791474157794:=0
def tw9622734022968241697:=0
def tw17139481616380706343:=0
def tw16433057212712502070:=0
def tw9420672756284623060:=0
def tw4385460578067823284:=0
def tw15485149923759845268:=0
def tw8393730472051213837:=0
def tw2416363357091984758:=0
def tw9681995848733002038:=0
def tw8993487031252944388:=0
def tw14608351171453375206:=0
def tw5999549579301323777:=0
def tw11657614947120409061:=0
def tw18234336357879806157:=0
def tw10518646812491692041:=0
def tw5340309238743750471:=0
def tw16565663031064139478:=0
def tw12315743296009691464:=0
def tw7311784106028430648:=0
def tw8149021581488417673:=0
def tw6869711886952893202:=0
def tw6570908910883334741:=0
def tw5760698427759339837:=0
def tw10265431583615235708:=0
def tw16667368968086867100:=0
def tw12266506121035466855:=0
def tw6969295278715314694:=0
def tw6019457433283699963:=0
def tw8361047713259976699:=0
def tw11113724252499294293:=0
def tw8305951884603395521:=0
def tw2542157343880256504:=0
def tw16772195782738181217:=0
def tw8067576866042661039:=0
def tw6103247600920161518:=0
def tw11847441872658011156:=0
def tw818001615239987113:=0
def tw12693810898614503247:=0
def tw15254092992045272765:=0
def tw14677148587161278204:=0
def tw11579105443617173648:=0
def tw12310727105596913996:=0
def tw18041897135180919680:=0
def tw3529983566902882722:=0
def tw9271788178070427755:=0
def tw3393426848840698466:=0
def tw1211451043320344341:=0
def tw676863628726194768:=0
def tw14540379661991867525:=0
def tw3263204427015732700:=0
def tw17540147798727519573:=0
def tw9458865546241458553:=0
def tw6880134413063738028:=0
def tw3105733329001936347:=0
def tw10185100623790921202:=0
def tw13215947741093307058:=0
def tw7999722345000666413:=0
def tw15443333752444805206:=0
def tw2880508622987674089:=0
def tw3440823270417771449:=0
def tw2268118037046327377:=0
def tw16429385993221718184:=0
def tw17476269172048564415:=0
end PySem.W.Fast
namespace Asm
open PySem PySem.Spec PyProof.Rows L2 DI
noncomputable def top(i:Nat):Stmt:=PySem.Challenge.pw_sharesample_k06_what_is_a_drawing.main.body.getD i (.Pass ⟨0,0,0,0⟩)
def px:Px:=⟨λn sc bl e=>if n=1019 then jR "sorted" sc bl e else if n=1020 then sj true sc bl e else if n=1021 then sj false sc bl e else if n=1022 then C9 sc bl e else if n=1025 then C5 sc bl e else if n=1026 then se sc bl e else if n=1028 then se sc bl e else if n=1030 then sg sc bl e else if n=1031 then si sc bl e else if n=1032 then wu sc bl e else if n=1035 then jR "sorted" sc bl e else if n=1040 then C7 sc bl e else if n=1043 then Gh false sc bl e else if n=1080 then jR "repr" sc bl e else if n=1082 then Ht sc bl e else none,λn sc bl e=>if n=1000 then oO sc bl e else if n=1100 then C_ sc bl e else none,λn sc bl e=>if n=1033 then sf sc bl e else none⟩
noncomputable def PT:bh
 |1000=>D0
 |1019=>kQ
 |1020=>(cutD true)
 |1021=>(cutD false)
 |1022=>Mj
 |1025=>BK
 |1026=>tG
 |1028=>w6
 |1030=>CK
 |1031=>uv
 |1032=>CO
 |1033=>uu
 |1035=>oF
 |1040=>Oe
 |1043=>Rp
 |1080=>tJ
 |1082=>Uv
 |1100=>oG
 |_=>λ_=>none
theorem pr(F:bh)(i:Nat)(m:aH):pO px (xm PT F i m)/\DT px (xm PT F i m):=⟨⟨(λX sc bl k L p e args he F cs hs=>vR he (λhe=>AF rfl L he hs) λhe=>vR he (λhe=>CW rfl L he hs) λhe=>vR he (λhe=>CW rfl L he hs) λhe=>vR he (λhe=>Qc rfl L he hs) λhe=>vR he (λhe=>JK rfl L he hs) λhe=>vR he (λhe=>EC rfl L he hs) λhe=>vR he (λhe=>EB rfl L he hs) λhe=>vR he (λhe=>F8 rfl L he hs) λhe=>vR he (λhe=>Ga rfl L he hs) λhe=>vR he (λhe=>Lv rfl L he hs) λhe=>vR he (λhe=>CJ rfl L he hs) λhe=>vR he (λhe=>Od rfl L he hs) λhe=>vR he (λhe=>NV rfl L he hs) λhe=>vR he (λhe=>ED rfl L he hs) λhe=>vR he (λhe=>NZ rfl L he hs) λhe=>nomatch he),(λX sc bl k L p e args he F cs tg ht hs pins s σ H R τ ρ xs d items I Si b7 ed ei Rr hR=>by
  dsimp only[px]at he;by_cases hp:p=1000
  ·subst hp;rw[if_pos rfl]at he;exact HF rfl L he ht hs I Si b7 ed ei Rr hR
  rw[if_neg hp]at he;clear hp;by_cases hp:p=1100
  ·subst hp;rw[if_pos rfl]at he;exact CL rfl L he ht hs I Si b7 ed ei Rr hR
  rw[if_neg hp]at he;clear hp;cases he)⟩,⟨(λX sc bl k L hN xQ p st x pos args he i hi hl pe F cs hs=>Zj he (λhe=>F7 rfl L hN xQ he hi hl pe hs) λhe=>nomatch he)⟩⟩
noncomputable def xt(F:bh)(i a b:Nat)(c:aq):bh:=xm PT F i (mk F a b c)
noncomputable def BL:aj:=["ValueError","abs","all","bool","int","isinstance","len","list","range","repr","set","sorted","sum","tuple","zip"]
noncomputable def CC:List (Str×GK):=[("MOST_HOUSES",GK.i 12)]
noncomputable def jT:bh:=xm PT PT 0 λ_=>none
noncomputable def lz:bh:=xt jT 201 2 4 (kD)
noncomputable def iq:bh:=xt lz 202 2 2 (yq 201)
noncomputable def il:bh:=xt iq 220 3 9 (i8)
noncomputable def jV:bh:=xt il 215 1 1 (yr)
noncomputable def jU:bh:=xt jV 221 2 11 (oQ)
noncomputable def gn:bh:=xt jU 200 2 4 (fh)
noncomputable def ja:bh:=xt gn 212 3 10 (jl)
noncomputable def ip:bh:=xt ja 216 1 1 (eG)
noncomputable def lu:bh:=xt ip 217 1 1 (dJ)
noncomputable def jS:bh:=xt lu 218 2 2 (i7)
noncomputable def jW:bh:=xt jS 219 1 4 (fS)
noncomputable def iu:bh:=xt jW 0 1 1 (eG)
noncomputable def eI:bh:=xt iu 43 2 2 (dw)
noncomputable def gq:bh:=xt eI 1 2 3 (dv)
noncomputable def oZ:bh:=xt gq 3 1 1 (cf)
noncomputable def i_:bh:=xt oZ 12 2 2 (eX)
noncomputable def fj:bh:=xt i_ 44 1 3 (eW)
noncomputable def i9:bh:=xt fj 9 1 3 (cP)
noncomputable def fU:bh:=xt i9 10 2 2 (gc)
noncomputable def gm:bh:=xt fU 14 1 4 (jk)
noncomputable def jX:bh:=xt gm 15 1 2 (eP)
noncomputable def o3:bh:=xt jX 45 1 4 (ck)
noncomputable def ir:bh:=xt o3 11 2 2 (gM)
noncomputable def cQ:bh:=xt ir 16 1 1 (d_)
noncomputable def gu:bh:=xt cQ 17 1 1 (bD)
noncomputable def gp:bh:=xt gu 2 2 3 (cT)
noncomputable def eh:bh:=xt gp 19 3 4 (mV)
noncomputable def dM:bh:=xt eh 20 1 2 (eV)
noncomputable def DE:bh:=xm PT dM 211 (yW dM)
def Mv:Nat->aa->Prop
 |17=>Bz
 |20=>Bz
 |_=>λ_=>False
def Ih:=Ew jT
def Ig:=Nj lz (f:=201) Ih
def SS:=AU iq Ig rfl rfl rfl
def SX:=Nl il
def SR:=IP jV Ig SX SS rfl rfl rfl rfl
def M4:=IM jU
def SY:=yU gn ⟨rfl,rfl,rfl,rfl,rfl,rfl⟩ M4 Ih
def Ie:=nE ja
def SW:=AS ip Ie Ih
def SV:=IJ lu Ie
def SU:=IL jS Ie SW SV Ig rfl
def t0:=nE jW
def WB:=qO iu t0
def t1:=kS eI
def t3:=pz gq t0 t1
def YE:=IH oZ t3 WB
def Yz:=Eu i_ rfl rfl rfl
def t9:=l8 fj t1
def YG:=tx i9
def WC:=yT fU t9 YG rfl
def YD:=IG gm WC
def Yy:=AR jX t0 YE YD Yz
def YF:=AQ o3 WB
def S5:=Ex ir YF Yy
def YC:=Nm cQ S5
def t2:=pA gu t1
def YB:=Td gp t2
def YA:=Nk eh WC YC YB
def S0:=II dM YA
theorem zd:∀ns:ae,(mk DE 1 7 (kE)) [.lst .sc (ag ns)]=ok (.bl true):=Ou DE ⟨S5,M4,S0,SY,SU,SR,rfl,rfl⟩
theorem kK:zY (iI (aQ (top 22)) "NoDrawing" && !(("NoDrawing" : Str)==("__debug__" : Str))) 1 "NoDrawing" (bD) (bG (top 22))=true:=by decide +kernel
theorem gK:LA (top 22) ["thing"] (List.take 1 ["thing"]) [(16,"is_drawing")] BL CC px (bD)=true:=by decide +kernel
theorem pd:zY (iI (aQ (top 24)) "NoDrawing" && !(("NoDrawing" : Str)==("__debug__" : Str))) 1 "NoDrawing" (eV) (bG (top 24))=true:=by decide +kernel
theorem jA:LA (top 24) ["drawing","weighed"] (List.take 1 ["drawing","weighed"]) [(14,"weighed_lots"),(17,"check_drawing"),(19,"joint_share")] BL CC px (eV)=true:=by decide +kernel
noncomputable def LN:List (Str×Bool):=[("NoDrawing",true),("NoShares",false)]
theorem oj:RS ["_law_thing","_law_kept","e"] ["_law_thing"] (aQ (top 37))=true:=by decide +kernel
theorem oN:∃Ax ea eb ec j1 j2 j3 q1 q2 q3 np p1 p2 p3 hpos pos c1 c2 c3 c4 c5 c6 u1 u2 u3,bG (top 37)=Q4 "ShareError" "e" "_law_kept" Ax ea eb ec j1 j2 j3 q1 q2 q3 np p1 p2 p3 hpos pos c1 c2 c3 c4 c5 c6 u1 u2 u3/\(WO (aQ (top 37)) ["_law_thing","_law_kept","e"] "ShareError" "e" "_law_kept" 2 1 LN&&(decide (pI "_law_kept" (Hs LN) ea=some true)&&(decide (pI "_law_kept" (Hs LN) eb=some true)&&(decide (pI "_law_kept" (Hs LN) ec=some false)&&(pJ ⟨aQ (top 37),["_law_thing","_law_kept","e"],λn=>List.lookup n [(20,"lot_shares")],BL,CC,px⟩ uF Ax&&HX uF)))))=true:=⟨_,_,_,_,_,_,_,_,_,_,_,_,_,_,_,_,_,_,_,_,_,_,_,_,_,rfl,by decide +kernel⟩
theorem Lz:LA (top 38) ["_law_script","_law_drawing_here","_law_k","_law_thing","_law_kept","_law_good_here","_law_found"] ["_law_script"] [(16,"is_drawing"),(200,"_law_cell"),(211,"_law_refused"),(212,"_law_drawing"),(219,"_law_good"),(221,"_law_bent")] BL CC px (kE)=true:=by decide +kernel
theorem all_mk{l:PySem.W.OpenLaw}{w:World}{K:ao}{h:Heap}{mg:aV}{fa gB gC gS:Addr}{Wv:Value}(X:K.In h)(G:h.Ns mainGlobals mg)(ZR:mg "law" = some (.ref fa))
  (a0:Df K "_law_frac" (top 27))
  (a1:Df K "_law_add" (top 28))
  (a2:Df K "_law_beside" (top 35))
  (a3:Df K "_law_copied" (top 30))
  (a4:Df K "_law_bent" (top 36))
  (a5:Df K "_law_cell" (top 26))
  (a6:Df K "_law_drawing" (top 29))
  (a7:Df K "_law_whole" (top 31))
  (a8:Df K "_law_chance" (top 32))
  (a9:Df K "_law_lot" (top 33))
  (a10:Df K "_law_good" (top 34))
  (a11:Df K "is_whole" (top 6))
  (a12:Df K "are_houses" (top 14))
  (a13:Df K "common_divisor" (top 7))
  (a14:Df K "is_fraction" (top 9))
  (a15:Df K "is_row" (top 16))
  (a16:Df K "rows_rise" (top 17))
  (a17:Df K "common_bottom" (top 10))
  (a18:Df K "tops_over" (top 11))
  (a19:Df K "weighed_lots" (top 18))
  (a20:Df K "sums_to_one" (top 19))
  (a21:Df K "is_drawn" (top 20))
  (a22:Df K "is_lot" (top 15))
  (a23:Df K "is_drawing" (top 21))
  (a24:Df K "check_drawing" (top 22))
  (a25:Df K "fraction_of" (top 8))
  (a26:Df K "joint_share" (top 23))
  (a27:Df K "lot_shares" (top 24))
  (a28:Df K "_law_refused" (top 37))
  (a29:Df K "law" (top 38))
  (z:bW (λy=>PySem.W.nsIn K mainGlobals y=some none) BL)
  (q0:PySem.W.nsIn K mainGlobals "MOST_HOUSES" = some (some Wv)) (r0:RelV (.int 12) Wv)
  (eB:PySem.W.nsIn K mainGlobals "ShareError" = some (some (.ref gB))) (eC:PySem.W.nsIn K mainGlobals "NoDrawing" = some (some (.ref gC))) (xB:PySem.W.excIn K gB HM "ValueError.__new__" = true) (xC:PySem.W.excIn K gC HM "ValueError.__new__" = true) (mC:PySem.W.mroIn K gC (.ref gB)=some true) (nC:gC≠gB) (vC:PySem.W.kitOne K (.ref gC) (.ref gC)=some true)
  (w1:PySem.W.findIn K (.ref gC) "__getattribute__" = some (some (.builtin "BaseException.__getattribute__"))) (w2:PySem.W.findIn K (.ref gC) "__getattr__" = some none) (w3:PySem.W.findIn K (.ref gC) "__class__" = some (some (.builtin "object.__class__"))) (w4:PySem.W.mroIn K gC (.type "BaseException")=some true) (w5:PySem.W.mroIn K gC (.type "object")=some true)
  (eS:PySem.W.nsIn K mainGlobals "NoShares" = some (some (.ref gS))) (vS:PySem.W.kitOne K (.ref gC) (.ref gS)=some false) (vv:PySem.W.kitOne K (.ref gC) (.type "ValueError")=some true) :
  ∃fd:FuncData,(∀(s:Shared) (v:Value),BindsTo s fd ⟨[v],[]⟩ [("_law_script",v)])/\∀base:Heap,K.In base->base.Ns mainGlobals mg->gQ l.prog w K mg base zX 31 fa fd ["_law_script"] (Ek K 1 rA):=by
 obtain⟨f,fd,Fu,a⟩:=a29;have e:=ZR.symm.trans (abb X G a);cases e;obtain⟨oc,od,kV,dc,pm,an,cd,ct,sl,rfl,_,_⟩:=id Fu.ex;have Y:=bW.nn X G z;have x0:∃u,mg "MOST_HOUSES" = some u/\yA K (GK.i 12) u:=⟨_,abb X G q0,r0⟩
 refine⟨PySem.W.fnOf "law" "law" (eN (top 38)) (bG (top 38)) (aQ (top 38)) .none kV dc pm an cd ct,λs v=>.of_eq rfl,λbase KB GB=>?_⟩;have N:=@en7 l.prog w K h base mg BL CC px PT X G pr Y ⟨x0,gv⟩;have xc:XC K gC:=⟨w1,w2,w3,w4,w5,by
  unfold PySem.W.mroIn at w5;cases q:PySem.W.clsIn K gC with
  |none=>rw[q]at w5;cases w5
  |some _=>rfl⟩
 have O:pP "NoDrawing" gC mg base:=xp KB GB eC xC;have OB:pP "ShareError" gB mg base:=xp KB GB eB xB;have OS:oW gC gB base:=y4 KB xC mC nC;have E0:=N 1 jT a0 ["_law_top","_law_bottom","_law_one","_law_other"] 2 [] (kD) gv;have E1:=N 2 lz a1 ["_law_one","_law_other"] 2 [(201,"_law_frac")] (yq 201) ⟨E0.u,gv⟩;have E2:=N 3 iq a2 ["_law_many","_law_rows","_law_share","_law_lots","_law_more","_law_code","_law_lot_here","_law_chance_here","_law_some"] 3 [(202,"_law_add")] (i8) ⟨E1.u,gv⟩;have E3:=N 4 il a3 ["_law_drawing_here"] 1 [] (yr) gv;have E4:=N 5 jV a4 ["_law_drawing_here","_law_number","_law_many","_law_rows","_law_at","_law_chance_here","_law_lot_here","_law_odd","_law_more","_law_way","_law_other"] 2 [(202,"_law_add"),(215,"_law_copied"),(220,"_law_beside")] (oQ) ⟨E1.u,E3.u,E2.u,gv⟩;have E5:=N 6 jU a5 ["_law_script","_law_k","_law_cell_here","_law_number"] 2 [] (fh) gv;have E6:=N 7 gn a6 ["_law_script","_law_at","_law_most","_law_number","_law_many","_law_lots","_law_k","_law_other","_law_lot_here","_law_whole_here"] 3 [(200,"_law_cell"),(201,"_law_frac")] (jl) ⟨E5.u,E0.u,gv⟩;have E7:=N 8 ja a7 ["_law_thing"] 1 [] (eG) gv;have E8:=N 9 ip a8 ["_law_thing"] 1 [(201,"_law_frac"),(216,"_law_whole")] (dJ) ⟨E0.u,E7.u,gv⟩;have E9:=N 10 lu a9 ["_law_thing","_law_many"] 2 [(216,"_law_whole")] (i7) ⟨E7.u,gv⟩;have E10:=N 11 jS a10 ["_law_thing","_law_total","_law_last","_law_row"] 1 [(202,"_law_add"),(216,"_law_whole"),(217,"_law_chance"),(218,"_law_lot")] (fS) ⟨E1.u,E7.u,E8.u,E9.u,gv⟩;have Wq:=N 12 jW a11 ["thing"] 1 [] (eG) gv;have Yb:=N 13 iu a12 ["thing","many"] 2 [(0,"is_whole")] (dw) ⟨Wq.u,gv⟩;have Wo:=N 14 eI a13 ["one","other","rest"] 2 [] (dv) gv;have E14:=N 15 gq a14 ["thing"] 1 [(0,"is_whole"),(1,"common_divisor")] (cf) ⟨Wq.u,Wo.u,gv⟩;have E15:=N 16 oZ a15 ["thing","many"] 2 [(3,"is_fraction"),(43,"are_houses")] (eX) ⟨E14.u,Yb.u,gv⟩;have E16:=N 17 i_ a16 ["rows","ahead","behind"] 1 [] (eW) gv;have E17:=N 18 fj a17 ["some","bottom","part"] 1 [(1,"common_divisor")] (cP) ⟨Wo.u,gv⟩;have E18:=N 19 i9 a18 ["some","bottom"] 2 [] (gc) gv;have Wn:=N 20 fU a19 ["rows","chances","lots","bottom"] 1 [(9,"common_bottom"),(10,"tops_over")] (jk) ⟨E17.u,E18.u,gv⟩;have E20:=N 21 gm a20 ["rows","weighed"] 1 [(14,"weighed_lots")] (eP) ⟨Wn.u,gv⟩;have E21:=N 22 jX a21 ["thing","many","rows","row"] 1 [(0,"is_whole"),(12,"is_row"),(15,"sums_to_one"),(44,"rows_rise")] (ck) ⟨Wq.u,E15.u,E20.u,E16.u,gv⟩;have E22:=N 23 o3 a22 ["thing","many"] 2 [(43,"are_houses")] (gM) ⟨Yb.u,gv⟩;have Wm:=N 24 ir a23 ["thing"] 1 [(11,"is_lot"),(45,"is_drawn")] (d_) ⟨E22.u,E21.u,gv⟩;have Ya:=N 25 cQ a24 ["thing"] 1 [(16,"is_drawing")] (bD) ⟨Wm.u,gv⟩ gK;have X24:=XI (P:=l.prog) (w:=w) X G O 1 25 cQ Mv Bz a24 gK kK (pr _ _ _) Y ⟨x0,gv⟩ ⟨Wm.u,gv⟩ ⟨TZ,gv⟩ (λds h=>Qm (Φ:=cQ) (Ψ:=Mv) S5 h);have E25:=N 26 gu a25 ["top","bottom","divisor"] 2 [(1,"common_divisor")] (cT) ⟨Wo.u,gv⟩;have X_:=N 27 gp a26 ["weighed","one","other","having"] 3 [(2,"fraction_of")] (mV) ⟨E25.u,gv⟩;have E27:=N 28 eh a27 ["drawing","weighed"] 1 [(14,"weighed_lots"),(17,"check_drawing"),(19,"joint_share")] (eV) ⟨Wn.u,Ya.u,X_.u,gv⟩ jA;have X27:=XI (P:=l.prog) (w:=w) X G O 1 28 eh Mv Bz a27 jA pd (pr _ _ _) Y ⟨x0,gv⟩ ⟨Wn.u,Ya.u,X_.u,gv⟩ ⟨TZ,λ_=>X24.u,TZ,gv⟩ (λds h=>Ql (Φ:=eh) (Ψ:=Mv) (λ_ h=>h) h);obtain⟨_,_,_,_,_,_,_,_,_,_,_,_,_,_,_,_,_,_,_,_,_,_,_,_,_,hT⟩:=oN;have E28:=enN (P:=l.prog) (w:=w) (l:=LN) X G OB OS xc ⟨⟨_,eC,vC⟩,⟨_,eS,vS⟩,gv⟩ vv (Y.mem _ (by decide)) (Y.mem _ (by decide)) 1 2 1 29 dM Mv (yW dM) a28 oj hT (pr _ _ _) Y ⟨x0,gv⟩ ⟨E27.u,gv⟩ ⟨λ_=>X27.u,gv⟩ (ZH (Ψ:=Mv) (λ_ h=>h) rfl);exact enL 30 DE rA Fu Lz (pr _ _ _) Y ⟨x0,gv⟩ ⟨Wm.u,E5.u,E28.u,E6.u,E10.u,E4.u,gv⟩ (BF λns _=>(vG _ _ (zd ns)).2)
theorem walk{l:PySem.W.OpenLaw}{q:aE}{loose:aj}{XP:(aV)->Heap->Prop}{YP:World->Heap->Prop}{d:DefRec}{K:Params->ao}(hn:l.most=some 63)(Pk:d.params.defaults=[])
  (hY:∀(w:World) (h:Heap),YP w h->(K w.params).In h)
  (F:∀(w:World) (mg:aV) (fa:Addr) (h:Heap),(K w.params).In h->h.Ns mainGlobals mg->mg d.name=some (.ref fa) ->
   ∃fd:FuncData,(∀(s:Shared) (u:Value),BindsTo s fd ⟨[u],[]⟩ [("_law_script",u)])/\∀base:Heap,(K w.params).In base->base.Ns mainGlobals mg->gQ l.prog w (K w.params) mg base zX 31 fa fd ["_law_script"] (Ek (K w.params) 1 rA)) :
  PySem.W.WalkO q loose XP YP l.row.toRowW d [] (λf vs=>PySem.call f vs) :=
 L2.D4 (n:=63) (k:=31) (x:="_law_script") (CX:=λ_=>zX) (sp:=λw=>Ek (K w.params) 1 rA) hn (by decide) Pk ⟨rfl,by decide,by decide,rfl⟩ hY F (λw H a ns hl hO hS=>JL (K w.params) H a ns rA (Ff hl) hO hS) λ_ _ _ _ _ z=>z
end Asm
end
open PySem PySem.W PyProof.Rows
set_option maxRecDepth 100000 in
set_option maxHeartbeats 0 in
theorem PySem.Challenge.cw_sharesample_k06_what_is_a_drawing_holds : PySem.Challenge.rw_sharesample_k06_what_is_a_drawing.Holds := by
 w_on;o_law;k_head;(case hw=>w_witness2)
 k_fill
 refine Asm.walk (l:=PySem.Challenge.rw_sharesample_k06_what_is_a_drawing) rfl rfl (fun w h Y=>PySem.W.kIn_of Y) ?F
 case F =>
  intro w mg fa h KX G hmg
  refine' Asm.all_mk KX G hmg ?a0 ?a1 ?a2 ?a3 ?a4 ?a5 ?a6 ?a7 ?a8 ?a9 ?a10 ?a11 ?a12 ?a13 ?a14 ?a15 ?a16 ?a17 ?a18 ?a19 ?a20 ?a21 ?a22 ?a23 ?a24 ?a25 ?a26 ?a27 ?a28 ?a29 ?zz ?q0 ?r0 ?eB ?eC ?xB ?xC ?mC ?nC ?vC ?w1 ?w2 ?w3 ?w4 ?w5 ?eS ?vS ?vv
  case a0 | a1 | a2 | a3 | a4 | a5 | a6 | a7 | a8 | a9 | a10 | a11 | a12 | a13 | a14 | a15 | a16 | a17 | a18 | a19 | a20 | a21 | a22 | a23 | a24 | a25 | a26 | a27 | a28 | a29 =>
   refine' DI.dmk ?x ?y ?z ?w
   case x | y | z | w=>k_is
  (case zz=>refine' ⟨?_,?_,?_,?_,?_,?_,?_,?_,?_,?_,?_,?_,?_,?_,?_,trivial⟩ <;> show PySem.W.nsIn _ _ _ = some none <;> k_is)
  (case q0=>k_is);(case r0=>exact ⟨_,rfl⟩)
  (case eB=>k_is)
  (case eC=>k_is)
  (case xB=>k_exc)
  (case xC=>k_exc)
  (case mC=>k_is)
  (case nC=>decide)
  (case vC=>kit_is)
  (case w1=>k_is)
  (case w2=>k_is)
  (case w3=>k_is)
  (case w4=>k_is)
  (case w5=>k_is)
  (case eS=>k_is)
  (case vS=>kit_is)
  (case vv=>kit_is)
