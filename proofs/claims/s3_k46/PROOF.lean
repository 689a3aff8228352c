import PyProof.Rows.All
import Wide.All
import OpenK.AllK
import Wide.FinOn
import Lean
import PyProof.EqAt
import PyProof.EqKinds
import PyProof.TupleCall
import PyProof.NeKinds
import KE.BitLaws
import PyProof.SumWalkG
import PyProof.ConsumeWalk
import PyProof.WalksMore
import KE.KSortedM
import PyProof.Rows.SetFrom
import PyProof.CompUse
import PyProof.ZipIter
import PyProof.EnumMake
import KE.KSortTup
import PyProof.ListRange
import PyProof.SliceList
import PyProof.DictIter
import PyProof.Rows.DictUnroll
import KE.KDictSum
import KE.KSortAsk
import PyProof.DictRoadsH
import PyProof.DictKinds
import PyProof.TupleOfGen
import PyProof.TupleOfSeq
import PyProof.DictItems
import PyProof.DictItemsLoops
import PyProof.Rows.TupDisplay
import KE.KDictList
import PyProof.DictValues
import PyProof.DictWalks
import PyProof.NsDelKeeps
import PyProof.ExcBaseAll.ValueError
import PyProof.ExcAttrAll.ValueError
import PySem.Challenge.RW_sharesample_k46_drawings_within
set_option tactic.hygienic false
set_option bootstrap.genMatcherCode false
set_option genSizeOf false
set_option genSizeOfSpec false
set_option Elab.async false
set_option linter.all false
set_option maxRecDepth 100000
local macro_rules | `(tactic| left) => `(tactic| first | assumption | exact Nat.zero_le _ | exact Int.natCast_nonneg _ | exact Int.ofNat_lt.mpr (by assumption) | exact Nat.le_of_lt (by assumption) | exact Nat.le_trans (by assumption) (by assumption) | exact Nat.lt_of_lt_of_le (by assumption) (by assumption) | lia | omega)
noncomputable section
abbrev aaa:=@PySem.wpAny_bind
abbrev aab:=@of_decide_eq_true
abbrev aac:=@PySem.wpAny_pure
abbrev aad:=@List.mem_cons_of_mem
abbrev aae:=@Bool.false_ne_true
abbrev aaf:=@List.mem_cons_self
abbrev aai:=@PySem.Heap.get?_push_of_some
abbrev aaj:=@PySem.Heap.lt_size
abbrev aak:=@PyProof.Rows.wpS_pure
abbrev aal:=@Nat.le_refl
abbrev aam:=@PyProof.Rows.wpS_bind
abbrev aan:=@List.mem_append_right
abbrev aao:=@Nat.ne_of_lt
abbrev aaD:=@PySem.Heap.get?_push_size
abbrev aaG:=@Nat.lt_of_lt_of_le
abbrev aaH:=@List.getElem?_eq_getElem
abbrev aaI:=@Option.some.inj
abbrev aaJ:=@List.mem_of_getElem?
abbrev aaK:=@List.mem_append_left
abbrev aaL:=@PySem.wpAny_mono
abbrev aaM:=@Nat.ne_of_gt
abbrev aaN:=@PyProof.Rows.wpS_forRange
abbrev aaO:=@Nat.lt_irrefl
abbrev aaP:=@List.map_congr_left
abbrev aaQ:=@Nat.lt_succ_of_lt
abbrev aaR:=@Nat.le_trans
abbrev aaS:=@Nat.pow_le_pow_right
abbrev aaU:=@List.getElem_mem
abbrev aaV:=@List.mergeSort_perm
abbrev aaW:=@PyProof.Rows.callWith_type1
abbrev aaY:=@PySem.wpAny_call_entry
abbrev aaZ:=@Nat.zero_le
abbrev aa0:=@PySem.wpAny_newObj_type
abbrev aa1:=@List.mem_map_of_mem
abbrev aa2:=@if_pos
abbrev aa3:=@List.length_map
abbrev aa4:=@PySem.Heap.get?_update_self
abbrev aa5:=@congrArg
abbrev aa6:=@Nat.lt_of_le_of_lt
abbrev aa8:=@Int.le_trans
abbrev aa9:=@PySem.wpAny_holding
abbrev aa_:=@decide_eq_true
abbrev aba:=@PySem.wpAny_callSpecial?_slot
abbrev abb:=@PySem.F.slot_dict_keyiterator_next
abbrev abc:=@PySem.Heap.SameBut.update
abbrev abd:=@PySem.Heap.get?_update_other
abbrev abe:=@PySem.W.mg_of
abbrev abf:=@Nat.lt_succ_self
abbrev abg:=@Array.getElem?_eq_getElem
abbrev abh:=@Int.le_of_lt
abbrev abi:=@PySem.F.slot_dict_valueiterator_next
abbrev abj:=@PySem.wpAny_truthy_bool
abbrev abk:=@PySem.wpAny_dictEntries
abbrev abl:=@PySem.wpAny_typeNameOfWhole_keyiter
abbrev abm:=@PySem.wpAny_typeNameOfWhole_valiter
abbrev abn:=@PySem.mem_of_lookup
abbrev abo:=@List.nodup_nil
abbrev abp:=@PyProof.Rows.wpS_mono
abbrev abq:=@PySem.wpAny_rule
abbrev abr:=@PySem.sizeLine_eq
abbrev abt:=@PySem.wpAny_Call_Name_kw
abbrev abu:=@List.idxOf_lt_length_of_mem
abbrev abv:=@PySem.wpAny_passesOwn
abbrev abw:=@decide_eq_false
abbrev abB:=@PySem.W.kia_one
abbrev abC:=@PyProof.Rows.wpS_modify
abbrev abD:=@Int.le_refl
abbrev abE:=@List.ext_getElem
abbrev abF:=@PySem.wpAny_typeNameOf_keyiter
abbrev abG:=@Int.mul_fdiv_cancel_left
abbrev abH:=@PySem.wpAny_typeNameOf_valiter
abbrev abI:=@PySem.F.plainAttrs_list
abbrev abJ:=@PySem.wpAny_attempt
abbrev abK:=@PyProof.Rows.wpS_get
abbrev abQ:=@PySem.codeAny_builtin
abbrev abR:=@PySem.wpAny_dictEpoch
abbrev abS:=@Bool.false_eq_true
abbrev abT:=@PySem.tupleKind_room_in1
abbrev abU:=@PyProof.Rows.subscriptTail_builtinR
abbrev abV:=@PySem.Calls.callWith_builtin
abbrev abW:=@PySem.wpAny_loadPart_at
abbrev abX:=@PySem.F.slot_zip_next
abbrev abY:=@List.Perm.append_left
abbrev abZ:=@PySem.Calls.evalArgs_plain
abbrev ab0:=@List.mem_of_mem_take
abbrev ab1:=@PySem.Calls.Name_function_global
abbrev ab2:=@List.cons.inj
abbrev ab3:=@PySem.wpAny_field
abbrev ab4:=@PySem.wpAny_execs_nil
abbrev ab5:=@PySem.codeAny_mono
abbrev ab6:=@PySem.F.args_tuple_add_2
abbrev ab7:=@PySem.F.slot_list_append
abbrev ab8:=@Nat.lt_trans
abbrev ab_:=@List.getElem_idxOf
abbrev aca:=@PySem.F.entry_tuple_add
abbrev acb:=@PySem.F.plainAttrs_dict
abbrev acd:=@PySem.F.slot_tuple_add
abbrev ace:=@List.getElem?_set_self
abbrev acf:=@List.drop_eq_nil_of_le
abbrev acg:=@PySem.wpAny_nextOf_list_item
abbrev ach:=@List.Perm.append_right
abbrev aci:=@Int.fmod_nonneg_of_pos
abbrev acj:=@beq_self_eq_true
abbrev ack:=@Ne.symm
abbrev acm:=@PySem.F.slot_tuple_lt
abbrev acn:=@PySem.wpAny_notOrdered_dict
abbrev aco:=@List.perm_append_comm
abbrev acp:=@List.take_append_drop
abbrev acq:=@Eq.symm
abbrev acs:=@PySem.wpAny_isOneOf_valiter
abbrev acu:=@PySem.F.typeOf_object_class
abbrev acv:=@PySem.SeqAt.EqAt.same
abbrev acw:=@PySem.codeAny_call_builtin
abbrev acx:=@PySem.wpAny_updateSeq
abbrev acy:=@getElem?_pos
abbrev acz:=@List.mem_of_mem_drop
abbrev acA:=@Nat.add_le_add_left
abbrev acB:=@Array.length_toList
abbrev acC:=@Nat.mul_le_mul_left
abbrev acD:=@PySem.wpAny_fieldsOf
abbrev acE:=@PySem.wpAny_setField
abbrev acF:=@PySem.Calls.spliced_cons
abbrev acG:=@PySem.SeqAt.EqAt.int_int
abbrev acH:=@PySem.Code.quiet_builtin
abbrev acI:=@Int.fmod_lt_of_pos
abbrev acJ:=@PySem.wpAny_newList
abbrev acK:=@PySem.Calls.spliced_nil
abbrev acL:=@Nat.le_succ_of_le
abbrev acM:=@List.ext_getElem?
abbrev acN:=@PySem.wpAny_Call_method
abbrev acO:=@PySem.call_meets
abbrev acP:=@List.getElem_inj
abbrev acQ:=@if_neg
abbrev acR:=@Int.mul_ne_zero
abbrev acT:=@Nat.le_succ
abbrev acU:=@if_false
abbrev az:=List (List Int)
abbrev ae:=List Int
abbrev aN:=List Nat
abbrev ak:=List PySem.Str
abbrev aw:=List PySem.Value
abbrev aq:=List PySem.Expr
abbrev aX:=List PySem.Addr
abbrev aO:=List PySem.Stmt
abbrev bw:=List Rat
abbrev bg:=Array PySem.Value
abbrev av:=PySem.W.Frag
abbrev au:=PySem.Value->PySem.Shared->Prop
abbrev ao:=List (PySem.Addr×PySem.Obj)
abbrev ai:=PySem.Addr->Prop
abbrev aU:=PySem.Str->Option PySem.Value
abbrev aC:=PySem.Program
abbrev aB:=PySem.Around
namespace L2
open PySem PySem.Spec PyProof.Rows
end L2
namespace L2
open PySem PySem.Spec PyProof.Rows
inductive V where
 |cF|bl (b:Bool)|int (i:Int)|str (x:Str)|UL (b:Array UInt8)|UA (b:UInt64)|ref (a:Addr)|ty (n:String)
 deriving DecidableEq
abbrev ah:=List V
def RelV:V->Value->Prop
 |.cF,u=>u=Value.none
 |.bl b,u=>u=Value.bool b
 |.int i,u=>∃t,u=Value.int i t
 |.str x,u=>∃t,u=Value.str x t
 |.UL b,u=>∃t,u=Value.bytes b t
 |.UA b,u=>∃t,u=Value.float b t
 |.ref a,u=>u=Value.ref a
 |.ty n,u=>u=Value.type n
abbrev Vals:ah->aw->Prop:=Paired RelV
theorem Vals.length{xs:ah}{a:aw}(r:Vals xs a):xs.length=a.length:=Paired.length r
theorem Vals.get:∀{xs:ah} {a:aw} {i:Nat} {x:V},Vals xs a->xs[i]?=some x->∃u,a[i]?=some u/\RelV x u
 |_,_,_,_,.nil,e=>by simp at e
 |_,_,0,_,.cons r _,e=>by simp at e;subst e;exact⟨_,rfl,r⟩
 |_,_,i+1,x,.cons _ t,e=>by
  obtain⟨u,c,b⟩:=Vals.get (i:=i) (x:=x) t (by simpa using e);exact⟨u,by simpa using c,b⟩
theorem Vals.append:∀{xs ys:ah} {a ws:aw},Vals xs a->Vals ys ws->Vals (xs++ys) (a++ws)
 |_,_,_,_,.nil,s=>s
 |_,_,_,_,.cons r t,s=>.cons r (Vals.append t s)
theorem Vals.take:∀{xs:ah} {a:aw} (n:Nat),Vals xs a->Vals (xs.take n) (a.take n)
 |_,_,0,_=>.nil
 |_,_,_+1,.nil=>.nil
 |_,_,n+1,.cons r t=>.cons r (Vals.take n t)
theorem Vals.drop:∀{xs:ah} {a:aw} (n:Nat),Vals xs a->Vals (xs.drop n) (a.drop n)
 |_,_,0,r=>r
 |_,_,_+1,.nil=>.nil
 |_,_,n+1,.cons _ t=>Vals.drop n t
def qu:Option V->Option Value->Prop
 |some v,some u=>RelV v u
 |none,none=>True
 |_,_=>False
inductive HO where
 |lst (xs:ah)|tup (xs:ah)|lY (lo hi:Int)|jY (o:Obj) (u:HO)|ext (φ:Heap->Prop)
abbrev Hp:=Addr->Option HO
noncomputable def upd(H:Hp)(a:Addr)(o:HO):Hp:=λb=>if b=a then some o else H b
theorem aY{H:Hp}{a:Addr}{o:HO}:upd H a o a=some o:=by unfold upd;rw[if_pos rfl]
theorem bq{H:Hp}{a b:Addr}{o:HO}(h:b≠a):upd H a o b=H b:=by unfold upd;rw[if_neg h]
theorem dK{H:Hp}{a b:Addr}{o:HO}(h:H a=some o)(h':H b=none):a≠b:=by
 intro e;subst e;rw[h]at h';cases h'
section
def cK(H:Hp)(h:Heap)(a:Addr):HO->Prop
 |.lst b=>b.length<=sizeLine/\∃(c:aw) (n:Nat),Vals b c/\h.get? a=some { cls:=.type "list",data:=.seq c.toArray n }
 |.tup b=>b.length<=sizeLine/\∃c:aw,Vals b c/\IsTup h a c.toArray
 |.lY g i=>∃t u v,h.get? a=some { cls:=.type "range",data:=.fields #[.int g t,.int i u,.int 1 v] }
 |.jY o u=>h.get? a=some o/\cK H h a u
 |.ext d=>d h/\(∃o,h.get? a=some o)/\∀f e:Heap,d f->(∀o,f.get? a=some o->e.get? a=some o)->d e
def jM(H:Hp)(h:Heap):Prop:=∀a o,H a=some o->cK H h a o
end
section
variable {P:aC}{w:World}{H H':Hp}{h h':Heap}{a:Addr}{o:HO}
theorem gb(x:cK H h a o):∃u,h.get? a=some u:=by
 cases o with
 |lst b=>obtain⟨_,_,_,_,e⟩:=x;exact⟨_,e⟩
 |tup b=>obtain⟨_,_,_,o,e,_⟩:=x;exact⟨_,e⟩
 |lY d f=>obtain⟨_,_,_,e⟩:=x;exact⟨_,e⟩
 |jY o u=>exact⟨_,x.1⟩
 |ext c=>exact x.2.1
theorem cK.lt(x:cK H h a o):a<h.objs.size:=(gb x).elim λ_ e=>aaj e
theorem cK.kM(x:cK H h a o)(k:∀u,h.get? a=some u->h'.get? a=some u):cK H' h' a o:=by
 induction o with
 |lst f=>obtain⟨z,b,n,r,e⟩:=x;exact⟨z,b,n,r,k _ e⟩
 |tup f=>obtain⟨z,b,r,d,e,c⟩:=x;exact⟨z,b,r,d,k _ e,c⟩
 |lY j l=>obtain⟨t,u,v,e⟩:=x;exact⟨t,u,v,k _ e⟩
 |jY d u g=>exact⟨k _ x.1,g x.2⟩
 |ext i=>exact⟨x.2.2 _ _ x.1 k,x.2.1.imp k,x.2.2⟩
theorem jM.lt(x:jM H h)(e:H a=some o):a<h.objs.size:=(x a o e).lt
theorem jM.fresh(x:jM H h)(e:h.objs.size<=a):H a=none:=by
 cases q:H a with
 |none=>rfl
 |some u=>exact absurd (aaG (x.lt q) e) (aaO _)
theorem jM.kept(x:jM H h)(k:∀b u,h.get? b=some u->h'.get? b=some u):jM H h':=λa o e =>
 (x a o e).kM (k a)
theorem jM.laid(x:jM H h)(k:∀b u,h.get? b=some u->h'.get? b=some u)(d:h.objs.size<=a)(new:cK (upd H a o) h' a o):jM (upd H a o) h':=λb u e=>by
 have f:=x.fresh d;by_cases c:b=a
 ·subst c;rw[aY]at e;cases e;exact new
 ·rw[bq c]at e;exact(x b u e).kM (k b)
end
def Rd(H:Hp)(a:Addr)(u:HO):Prop:=H a=some u\/∃o,H a=some (.jY o u)
variable {h:Heap}
theorem Rd.ok{H:Hp}{a:Addr}{u:HO}(r:Rd H a u)(x:jM H h):cK H h a u:=by
 rcases r with r|⟨o,r⟩
 ·exact x a u r
 ·obtain⟨_,q⟩:=x a _ r;exact q
def YK:Option HO->Prop
 |some (.lst _)=>True
 |some (.ext _)=>True
 |_=>False
section
variable {P:aC}{w:World}{H:Hp}{h h':Heap}{x e:Addr}{o':HO}
theorem jM.write(ok:jM H h)(k:∀b u,b≠x->h.get? b=some u->h'.get? b=some u)
  (new:cK (upd H x o') h' x o'):jM (upd H x o') h':=λb u q=>by
 by_cases a:b=x
 ·subst a;rw[aY]at q;cases q;exact new
 ·rw[bq a]at q;exact(ok b u q).kM λv=>k b v a
end
structure Un(fs ex:aX)(H H':Hp)(h h':Heap):Prop where
 keep:∀b o,h.get? b=some o->H b=none->b∉fs->b∉ex->h'.get? b=some o
 slot:∀b o,h.get? b=some o->H b=none->b∈fs->b∉ex->∃sl,h'.get? b=some { o with slots:=sl }
 free:∀b o,h.get? b=some o->H b=none->b∉ex->H' b=none
 there:∀b o,h.get? b=some o->b∉ex->∃o',h'.get? b=some o'
 m9:∀b xs,H b=some (.tup xs)->H' b=some (.tup xs)
 mj:∀b o u,H b=some (.jY o u)->H' b=some (.jY o u)
section
variable {fs fs' ex X3:aX}{H H1 H2:Hp}{h h1 h2 h':Heap}{a x e:Addr}{o:HO}
theorem Un.any(u:Un fs ex H H1 h h1){b:Addr}{c:Obj}(q:h.get? b=some c)(n:H b=none)(d:b∉ex):∃g,h1.get? b=some { c with slots:=g }:=by
 by_cases f:b∈fs
 ·exact u.slot b c q n f d
 ·exact⟨c.slots,u.keep b c q n f d⟩
theorem Un.kept(k:∀b u,h.get? b=some u->h'.get? b=some u):Un fs ex H H h h' :=
 ⟨λb c q _ _ _=>k b c q,λb c q _ _ _=>⟨c.slots,k b c q⟩,λ_ _ _ n _=>n,λb c q _=>⟨c,k b c q⟩,λ_ _ q=>q,λ_ _ _ q=>q⟩
theorem Un.refl:Un fs ex H H h h:=Un.kept λ_ _ q=>q
theorem Un.laid(k:∀b u,h.get? b=some u->h'.get? b=some u)(f:h.objs.size<=a)(c:H a=none):Un fs ex H (upd H a o) h h' where
 keep:=λb u q _ _ _=>k b u q
 slot:=λb u q _ _ _=>⟨u.slots,k b u q⟩
 free:=λb u q n _=>by rw[bq (Nat.ne_of_lt (Nat.lt_of_lt_of_le (Heap.lt_size q) f))];exact n
 there:=λb u q _=>⟨u,k b u q⟩
 m9:=λb d q=>by rw[bq (dK q c)];exact q
 mj:=λb u d q=>by rw[bq (dK q c)];exact q
theorem Un.write(c:YK (H x))(k:∀b u,b≠x->h.get? b=some u->h'.get? b=some u)(l:∃u,h'.get? x=some u):Un fs ex H (upd H x o) h h':=by
 have d:∀b,H b=none->b≠x:=λb n z=>by subst z;rw[n]at c;exact c
 have f:∀b u,H b=some u->¬ YK (some u)->b≠x:=λb u q j z=>by subst z;rw[q]at c;exact j c
 refine⟨λb u q n _ _=>k b u (d b n) q,λb u q n _ _=>⟨u.slots,k b u (d b n) q⟩,λb u q n _=>by rw[bq (d b n)];exact n,λb u q _=>?_,
  λb i q=>by rw[bq (f b _ q λz=>z)];exact q,λb u i q=>by rw[bq (f b _ q λz=>z)];exact q⟩
 by_cases g:b=x
 ·subst g;exact l
 ·exact⟨u,k b u g q⟩
end
noncomputable def TB(h:Heap)(H:Hp):aX:=(List.range h.objs.size).filter λa=>(H a).isSome
def sI(h:Heap)(H:Hp):Heap:=PySem.W.hideAll h (TB h H)
theorem Ay(h:Heap)(H:Hp):(sI h H).objs.size=h.objs.size:=PySem.W.hideAll_size _ _
variable {o:Obj}
theorem DV{H:Hp}{b:Addr}(e:h.get? b=some o)(n:H b=none):(sI h H).get? b=some o :=
 PySem.W.hideAll_get _ e λa=>by
  have q:(H b).isSome=true:=(List.mem_filter.mp a).2;rw[n]at q;simp at q
theorem Hr{H:Hp}{b:Addr}(e:(sI h H).get? b=some o):h.get? b=some o/\H b=none:=by
 have a:h.get? b=some o:=PySem.W.of_hideAll (TB h H) e;refine⟨a,?_⟩;cases q:H b with
 |none=>rfl
 |some x =>
  have c:b∈TB h H:=List.mem_filter.mpr ⟨List.mem_range.mpr (aaj a),by simp[q]⟩;have z:(sI h H).get? b=none:=PySem.W.hideAll_none (TB h H) c;rw[z]at e;cases e
end L2
namespace L2
open PySem PySem.Spec PyProof.Rows
structure Mod(K:av)(mg:aU)(base:Heap):Prop where
 V9:K.In base
 glob:base.Ns mainGlobals mg
 blt:∃mb,base.Ns builtinsNs mb/\∀x:Str,x ≠ "__name__" -> mb x=bootBuiltins x
 nolimit:base.NoLimit
structure Cx where
 prog:aC
 w:World
 K:av
 mg:aU
 base:Heap
 A:aB
 N:ak
 s₀:Shared
 H₀:Hp
 env:Env
 outer:List Env
 stack:List Env
 ex:aX
 fn:Str->Bool
 calm:Bool
 pn:ao
 xe:au
noncomputable def mn(l:List Env):aX:=l.filterMap (·.frame)
abbrev Cx.fs(X:Cx):aX:=mn X.outer
def KH(sc:Scope)(x:Str):Prop:=sc.names.lookup x=some .local\/sc.names.lookup x=some .cell\/sc.names.lookup x=some .free
def Loc(sc:Scope)(x:Str):Prop:=sc.names.lookup x=some .local\/sc.names.lookup x=some .cell
def Look(env:Env)(h:Heap)(m:aU)(x:Str)(u:Value):Prop :=
 (env.kindOf x=some .local/\m x=some u)\/((env.kindOf x=some .cell\/env.kindOf x=some .free)/\∃c,env.cells.lookup x=some c/\h.IsCell c (some u))
structure Cx.Ok(X:Cx):Prop where
 mod:Mod X.K X.mg X.base
 kind:X.env.scope.kind=.function
 glob:X.env.globals=mainGlobals
 blt:X.env.builtins=builtinsNs
 above:X.s₀.heap.objs.size<=X.env.locals
 inj:∀x y c,X.env.cells.lookup x=some c->X.env.cells.lookup y=some c->x=y
 has:∀x,(X.env.kindOf x=some .cell\/X.env.kindOf x=some .free)->∃c,X.env.cells.lookup x=some c
 Kw:∀x c,X.fn x=true->X.env.cells.lookup x=some c->X.s₀.heap.objs.size<=c
 hd:X.calm=true->X.A.handled=none
 frames:X.A.frames=some X.stack
 Ll:X.stack=X.outer\/(X.stack=X.env::X.outer/\X.env.frame=some X.env.locals)
 Sn:∀b∈X.ex,b≠X.env.locals/\∀x c,X.env.cells.lookup x=some c->c≠b
 bs:∀b o,X.base.get? b=some o->X.s₀.heap.get? b=some o/\X.H₀ b=none
 EX:X.base.objs.size<=X.s₀.heap.objs.size
 uv:∀b o,X.base.get? b=some o->b∉X.ex
 xh:∀b∈X.ex,b∉X.fs
 kg:X.s₀.heap.FunFrames X.base X.outer
 Bj:∀b∈X.fs,X.H₀ b=none
structure Inv(X:Cx)(pins:ao)(σ:List (Option V))(H:Hp)(s:Shared):Prop where
 ok:X.Ok
 os:s.os=X.s₀.os
 bare:AllBare s.gens
 base:Un X.fs X.ex X.H₀ H X.s₀.heap s.heap
 loc:∃m,s.heap.Ns X.env.locals m/\∀(i:Nat) (x:Str) (v:V),X.N[i]?=some x->σ[i]?=some (some v)->KH X.env.scope x->∃u,RelV v u/\Look X.env s.heap m x u
 cell:∀x c,X.env.cells.lookup x=some c->∃v,s.heap.IsCell c v
 free:H X.env.locals=none
 fN:∀x c,X.env.cells.lookup x=some c->H c=none
 pin:∀p∈X.pn++pins,s.heap.get? p.1=some p.2/\H p.1=none/\p.1≠X.env.locals/\p.1∉X.fs/\∀v,p.2.data≠.cell v
 cJ:jM H s.heap
 len:σ.length=X.N.length
variable {A:aB}{E:Value->Shared->Prop}{Q:Unit->Shared->Prop}{ch:aX}{t':Nat}
section
variable {X:Cx}{pins:ao}{σ:List (Option V)}{H H':Hp}{s:Shared}{h':Heap}
theorem Cx.Ok.V2(ok:X.Ok){b:Addr}{o:Obj}(e:X.base.get? b=some o):b∉X.fs:=λa=>by
 have:=(ok.kg.mem a).1;rw[e]at this;cases this
theorem Inv.bs(I:Inv X pins σ H s):∀b o,X.base.get? b=some o->s.heap.get? b=some o/\H b=none:=λb o e =>
 ⟨I.base.keep b o (I.ok.bs b o e).1 (I.ok.bs b o e).2 (I.ok.V2 e) (I.ok.uv b o e),I.base.free b o (I.ok.bs b o e).1 (I.ok.bs b o e).2 (I.ok.uv b o e)⟩
theorem Inv.bk(I:Inv X pins σ H s):∀b o,X.base.get? b=some o->s.heap.get? b=some o:=λb o e=>(I.bs b o e).1
theorem Inv.mod(I:Inv X pins σ H s):Mod X.K X.mg X.base:=I.ok.mod
theorem Inv.Dt(I:Inv X pins σ H s):X.K.In s.heap:=I.ok.mod.V9.keeps I.bk
theorem Inv.lt(I:Inv X pins σ H s):X.env.locals<s.heap.objs.size:=let ⟨_,hn,_⟩:=I.loc;hn.lt
theorem Inv.sz(I:Inv X pins σ H s):X.s₀.heap.objs.size<=s.heap.objs.size:=aaR I.ok.above (Nat.le_of_lt I.lt)
theorem Inv.Me(I:Inv X pins σ H s){a:Addr}(h:s.heap.objs.size<=a):a∉X.fs:=λc=>by
 obtain⟨_,o,b,_⟩:=I.ok.kg.mem c;exact absurd (aaG (aaj b) (aaR I.sz h)) (aaO _)
theorem Inv.IQ(I:Inv X pins σ H s):∀x c,X.env.cells.lookup x=some c->c≠X.env.locals:=λx c e z=>by
 obtain⟨v,o,a,hd⟩:=I.cell x c e;obtain⟨m,⟨f,g,h,b,d,_⟩,_⟩:=I.loc;rw[z,b]at a;cases a;rw[d]at hd;cases hd
theorem Inv.kg(I:Inv X pins σ H s):s.heap.FunFrames X.base X.outer:=by
 have all:∀(l:List Env),(∀b∈mn l,b∈X.fs)->X.s₀.heap.FunFrames X.base l->s.heap.FunFrames X.base l:=by
  intro l;induction l with
  |nil=>intro _ _;trivial
  |cons n r g =>
   intro f k;obtain⟨m,⟨L,o,a,j,i,hd⟩,h⟩:=k;have d:L∈X.fs:=f L (by unfold mn;rw[List.filterMap_cons,a];exact aaf);obtain⟨p,e⟩:=I.base.slot L o i (I.ok.Bj L d) d λz=>I.ok.xh L z d;exact⟨m,⟨L,_,a,j,e,hd⟩,g (λb c=>f b (by unfold mn;rw[List.filterMap_cons,a];exact aad _ c)) h⟩
 exact all X.outer (λ_ c=>c) I.ok.kg
theorem Inv.stack(I:Inv X pins σ H s):s.heap.FunFrames X.base X.stack:=by
 rcases I.ok.Ll with e|⟨e,b⟩
 ·rw[e];exact I.kg
 ·rw[e];obtain⟨m,a,_⟩:=I.loc;refine .cons (by rw[I.ok.kind];decide) b a ?_ I.kg;exact Heap.get?_none_of_le (aaR I.ok.EX I.ok.above)
theorem Inv.j_(I:Inv X pins σ H s):∀b∈mn X.stack,b∈X.env.locals::X.fs:=λb a=>by
 rcases I.ok.Ll with e|⟨e,c⟩
 ·rw[e]at a;exact aad _ a
 ·rw[e]at a;unfold mn at a;rw[List.filterMap_cons,c]at a;exact a
theorem Inv.kL(I:Inv X pins σ H s):∀b∈mn X.stack,H b=none:=λb a=>by
 rcases List.mem_cons.mp (I.j_ b a)with e|a
 ·rw[e];exact I.free
 ·obtain⟨_,o,c,_⟩:=I.ok.kg.mem a;exact I.base.free b o c (I.ok.Bj b a) λz=>I.ok.xh b z a
theorem Inv.step{g':Array GenState}{d':Drawn}(I:Inv X pins σ H s)
  (w:∀b∈ch,(b∈X.ex\/X.s₀.heap.objs.size<=b)/\b≠X.env.locals/\(∀x c,X.env.cells.lookup x=some c->c≠b)/\∀p∈X.pn++pins,p.1≠b)
  (keep:∀b o,b≠X.env.locals->b∉X.fs->b∉ch->s.heap.get? b=some o->H b=none->h'.get? b=some o)
  (slot:∀b o,b≠X.env.locals->b∈X.fs->b∉ch->s.heap.get? b=some o->H b=none->∃B,h'.get? b=some { o with slots:=B }) (free:∀b o,b∉ch->s.heap.get? b=some o->H b=none->H' b=none)
  (there:∀b o,b∉ch->s.heap.get? b=some o->∃j,h'.get? b=some j)
  (K:∀b f,H b=some (.tup f)->H' b=some (.tup f)) (J:∀b o u,H b=some (.jY o u)->H' b=some (.jY o u))
  (ns:∀m,s.heap.Ns X.env.locals m->h'.Ns X.env.locals m) (P:jM H' h') (N:AllBare g') :
  Inv X pins σ H' { s with heap:=h',gens:=g',drawn:=d',toks:=t' }:=by
 have G:∀b o,X.s₀.heap.get? b=some o->b≠X.env.locals:=λb o e=>aao (aaG (aaj e) I.ok.above);have y:∀b o,X.s₀.heap.get? b=some o->b∉X.ex->b∉ch:=λb o e a g=>by
  rcases(w b g).1 with z|z
  ·exact a z
  ·exact absurd (aaG (aaj e) z) (aaO _)
 have cellK:∀x c,X.env.cells.lookup x=some c->∀v,s.heap.IsCell c v->h'.IsCell c v:=λx c e v O=>by
  obtain⟨o,h,hd⟩:=O;have t:c∉ch:=λz=>(w c z).2.2.1 x c e rfl;by_cases F:c∈X.fs
  ·obtain⟨B,q⟩:=slot c o (I.IQ x c e) F t h (I.fN x c e);exact⟨_,q,hd⟩
  ·exact⟨o,keep c o (I.IQ x c e) F t h (I.fN x c e),hd⟩
 refine⟨I.ok,I.os,N,⟨λb o e n g a=>?_,λb o e n g a=>?_,λb o e n a=>?_,λb o e a=>?_,λb f e=>K b f (I.base.m9 b f e),λb o f e=>J b o f (I.base.mj b o f e)⟩,?_,λx c e=>?_,?_,λx c e=>?_,λp D=>?_,P,I.len⟩
 ·exact keep b o (G b o e) g (y b o e a) (I.base.keep b o e n g a) (I.base.free b o e n a)
 ·obtain⟨B,e1⟩:=I.base.slot b o e n g a;obtain⟨R,e2⟩:=slot b _ (G b o e) g (y b o e a) e1 (I.base.free b o e n a);exact⟨R,e2⟩
 ·obtain⟨j,e1⟩:=I.base.there b o e a;exact free b j (y b o e a) e1 (I.base.free b o e n a)
 ·obtain⟨j,e1⟩:=I.base.there b o e a;exact there b j (y b o e a) e1
 ·obtain⟨m,L,M⟩:=I.loc;refine⟨m,ns m L,λi x v e1 e2 e3=>?_⟩;obtain⟨u,r,l⟩:=M i x v e1 e2 e3;refine⟨u,r,?_⟩;rcases l with l|⟨k,c,e,z⟩
  ·exact .inl l
  ·exact .inr ⟨k,c,e,cellK x c e _ z⟩
 ·obtain⟨v,z⟩:=I.cell x c e;exact⟨v,cellK x c e v z⟩
 ·obtain⟨m,⟨o,_,_,h,_⟩,_⟩:=I.loc;exact free _ o (λz=>(w _ z).2.1 rfl) h I.free
 ·obtain⟨v,o,h,hd⟩:=I.cell x c e;exact free c o (λz=>(w c z).2.2.1 x c e rfl) h (I.fN x c e)
 ·obtain⟨e,n,ne,C,d⟩:=I.pin p D;have t:p.1∉ch:=λz=>(w p.1 z).2.2.2 p D rfl;exact⟨keep p.1 p.2 ne C t e n,free p.1 p.2 t e n,ne,C,d⟩
theorem Inv.un(I:Inv X pins σ H s)(u:Un X.fs [] H H' s.heap h')(j:jM H' h'):Inv X pins σ H' { s with heap:=h',toks:=t' }:=by
 obtain⟨m,⟨o,t,v,c,r⟩,_⟩:=id I.loc;obtain⟨l,i⟩:=u.any c I.free (by simp);exact I.step (g':=s.gens) (d':=s.drawn) (ch:=[]) (λ_ z=>nomatch z) (λb o _ a _ e n=>u.keep b o e n a (by simp)) (λb o _ a _ e n=>u.slot b o e n a (by simp)) (λb o _ e n=>u.free b o e n (by simp)) (λb o _ e=>u.there b o e (by simp)) u.m9 u.mj (λq h=>by
  obtain⟨p,k,g,d,f⟩:=h;rw[c]at d;cases d;exact⟨_,k,g,i,f⟩) j I.bare
theorem Inv.call{g':Array GenState}{d':Drawn}(I:Inv X pins σ H s)(u:Un (mn X.stack) ch H H' s.heap h')(t:jM H' h')(l:AllBare g')
  (h:∀b∈ch,(b∈X.ex\/X.s₀.heap.objs.size<=b)/\b≠X.env.locals/\(∀x c,X.env.cells.lookup x=some c->c≠b)/\∀p∈X.pn++pins,p.1≠b) :
  Inv X pins σ H' { s with heap:=h',gens:=g',drawn:=d',toks:=t' }:=by
 obtain⟨m,⟨o,C,D,f,r⟩,_⟩:=id I.loc;obtain⟨w,d⟩:=u.any f I.free λz=>(h _ z).2.1 rfl;exact I.step (ch:=ch) h (λb o d q a e n=>u.keep b o e n (λz=>(List.mem_cons.mp (I.j_ b z)).elim d q) a) (λb o _ _ a e n=>u.any e n a) (λb o a e n=>u.free b o e n a) (λb o a e=>u.there b o e a) u.m9 u.mj (λB k=>by
  obtain⟨y,v,j,g,i⟩:=k;rw[f]at g;cases g;exact⟨_,v,j,d,i⟩) t l
theorem Inv.turned{it:Addr}(I:Inv X pins σ H s)(k:∀b o,b≠it->s.heap.get? b=some o->h'.get? b=some o)(g:H it=none)(d:it≠X.env.locals)
  (q:it∈X.ex\/X.s₀.heap.objs.size<=it) (l:∀x c,X.env.cells.lookup x=some c->c≠it) (j:∀p∈X.pn++pins,p.1≠it):Inv X pins σ H { s with heap:=h',toks:=t' }:=by
 have y:∀b u,H b=some u->b≠it:=λb u e z=>by rw[z,g]at e;cases e
 refine I.step (g':=s.gens) (d':=s.drawn) (ch:=[it]) (λb i=>?_) (λb o _ _ a e _=>k b o (λz=>a (by simp[z])) e) (λb o _ _ a e _=>⟨o.slots,k b o (λz=>a (by simp[z])) e⟩) (λ_ _ _ _ n=>n)
  (λb o a e=>⟨o,k b o (λz=>a (by simp[z])) e⟩) (λ_ _ e=>e) (λ_ _ _ e=>e) (λm h=>?_) (λb u e=>?_) I.bare
 ·have e:b=it:=by simpa using i
  subst e;exact⟨q,d,l,j⟩
 ·obtain⟨o,t,w,f,r⟩:=h;exact⟨o,t,w,k _ o (ack d) f,r⟩
 ·exact(I.cJ b u e).kM λv=>k b v (y b u e)
theorem Inv.tok(I:Inv X pins σ H s)(t:Nat):Inv X pins σ H { s with toks:=t }:=I.un (h':=s.heap) (t':=t) Un.refl I.cJ
theorem Inv.kept{t':Nat}(I:Inv X pins σ H s)(k:∀b u,s.heap.get? b=some u->h'.get? b=some u):Inv X pins σ H { s with heap:=h',toks:=t' }:=I.un (Un.kept k) (I.cJ.kept k)
theorem Inv.laid{a:Addr}{o:HO}{t':Nat}(I:Inv X pins σ H s)(k:∀b u,s.heap.get? b=some u->h'.get? b=some u)(c:s.heap.objs.size<=a)(new:cK (upd H a o) h' a o):
  Inv X pins σ (upd H a o) { s with heap:=h',toks:=t' }:=I.un (Un.laid k c (I.cJ.fresh c)) (I.cJ.laid k c new)
theorem Inv.write{x:Addr}{o:HO}{t':Nat}(I:Inv X pins σ H s)(a:YK (H x))(k:∀b u,b≠x->s.heap.get? b=some u->h'.get? b=some u)(c:∃u,h'.get? x=some u)
  (new:cK (upd H x o) h' x o):Inv X pins σ (upd H x o) { s with heap:=h',toks:=t' }:=I.un (Un.write a k c) (I.cJ.write k new)
theorem Inv.jE{a:ao}(I:Inv X pins σ H s)(h:∀p∈a,s.heap.get? p.1=some p.2/\H p.1=none/\p.1≠X.env.locals/\p.1∉X.fs/\∀v,p.2.data≠.cell v):Inv X a σ H s :=
 ⟨I.ok,I.os,I.bare,I.base,I.loc,I.cell,I.free,I.fN,λp b=>(List.mem_append.mp b).elim (λz=>I.pin p (aaK _ z)) (h p),I.cJ,I.len⟩
theorem uw{N:ak}(c:N.Nodup){i j:Nat}{x:Str}(a:N[i]?=some x)(b:N[j]?=some x):i=j:=by
 obtain⟨e,e1⟩:=List.getElem?_eq_some_iff.mp a;obtain⟨d,e2⟩:=List.getElem?_eq_some_iff.mp b;exact(acP c).mp (e1.trans e2.symm)
theorem zW{M:Model}{i:Nat}{x:Str}{v:V}{u:Value}(I:Inv X pins σ H s)(Y:X.N.Nodup)(C:X.N[i]?=some x)(g:Loc X.env.scope x)(r:RelV v u)
  (h:∀L,Inv X pins (σ.set i (some v)) H L->(∃a,Heap.SameBut a s.heap L.heap/\(a=X.env.locals\/X.env.cells.lookup x=some a))->Q () L) (hf:X.fn x=true\/X.env.scope.names.lookup x=some .local:=by first|exact .inl rfl|exact .inr rfl|assumption):wpAny M A (storeName X.env x u) Q E s:=by
 obtain⟨m,U,W⟩:=id I.loc;have MW:(X.env.scope.kind==.class||(X.env.scope.kind==.module&&X.env.locals != X.env.globals))=false:=by rw[I.ok.kind];rfl
 have RD:i<σ.length:=by rw[I.len];exact(List.getElem?_eq_some_iff.mp C).1
 have IQ:=I.IQ;have tracked:∀{a:Addr} {h':Heap},(∃o,s.heap.get? a=some o/\H a=none)->Heap.SameBut a s.heap h'->jM H h':=λ{a h'} ha f b ob e=>by
  obtain⟨_,_,RG⟩:=ha;exact(I.cJ b ob e).kM λD q=>(f.2 b (by rintro rfl;rw[RG]at e;cases e)).trans q
 rcases g with t|t
 ·refine wpAny_storeName_local t U (λh' Ax f=>?_) MW;obtain⟨oL,_,_,Rx,_⟩:=id U;refine h _ ⟨I.ok,I.os,I.bare,⟨λb o e n B g=>?_,λb o e n B g=>?_,I.base.free,λb o e g=>?_,I.base.m9,I.base.mj⟩,⟨_,Ax,λj y G e1 e2 e3=>?_⟩,λy c e=>?_,I.free,I.fN,λp T=>?_,tracked ⟨oL,Rx,I.free⟩ f,by simpa using I.len⟩ ⟨_,f,.inl rfl⟩
  ·exact(f.2 b (aao (aaG (aaj e) I.ok.above))).trans (I.base.keep b o e n B g)
  ·obtain⟨K,e1⟩:=I.base.slot b o e n B g;exact⟨K,(f.2 b (aao (aaG (aaj e) I.ok.above))).trans e1⟩
  ·obtain⟨P,e1⟩:=I.base.there b o e g;exact⟨P,(f.2 b (aao (aaG (aaj e) I.ok.above))).trans e1⟩
  ·by_cases w:j=i
   ·subst w;rw[C]at e1;cases e1;rw[List.getElem?_set_self RD]at e2;cases e2;exact⟨u,r,.inl ⟨t,by simp⟩⟩
   ·rw[List.getElem?_set_ne (Ne.symm w)]at e2;obtain⟨J,O,q⟩:=W j y G e1 e2 e3;refine⟨J,O,?_⟩;rcases q with ⟨k,e⟩|⟨k,c,e,z⟩
    ·refine .inl ⟨k,?_⟩;have:y≠x:=λe=>w (uw Y e1 (e▸C));simp[this,e]
    ·exact .inr ⟨k,c,e,z.sameBut f (IQ y c e)⟩
  ·obtain⟨D,z⟩:=I.cell y c e;exact⟨D,z.sameBut f (IQ y c e)⟩
  ·obtain⟨e,n,ne,R,d⟩:=I.pin p T;exact⟨(f.2 p.1 ne).trans e,n,ne,R,d⟩
 ·have S:X.fn x=true:=by
   rcases hf with z|z
   ·exact z
   ·rw[z]at t;cases t
  obtain⟨c,l⟩:=I.ok.has x (.inl t);obtain⟨D,z⟩:=I.cell x c l;refine wpAny_storeName_cell I.ok.kind t l z (λh' Bg f=>?_);obtain⟨oc,Z,WN⟩:=id z;refine h { s with heap:=h' } ⟨I.ok,I.os,I.bare,⟨λb o e n B g=>?_,λb o e n B g=>?_,I.base.free,λb o e g=>?_,I.base.m9,I.base.mj⟩,⟨m,U.sameBut f (ack (IQ x c l)),λj y G e1 e2 e3=>?_⟩,λy F e=>?_,I.free,I.fN,λp T=>?_,tracked ⟨oc,Z,I.fN x c l⟩ f,by simpa using I.len⟩ ⟨c,f,.inr l⟩
  ·exact(f.2 b (aao (aaG (aaj e) (I.ok.Kw x c S l)))).trans (I.base.keep b o e n B g)
  ·obtain⟨K,e1⟩:=I.base.slot b o e n B g;exact⟨K,(f.2 b (aao (aaG (aaj e) (I.ok.Kw x c S l)))).trans e1⟩
  ·obtain⟨P,e1⟩:=I.base.there b o e g;exact⟨P,(f.2 b (aao (aaG (aaj e) (I.ok.Kw x c S l)))).trans e1⟩
  ·by_cases w:j=i
   ·subst w;rw[C]at e1;cases e1;rw[List.getElem?_set_self RD]at e2;cases e2;exact⟨u,r,.inr ⟨.inl t,c,l,Bg⟩⟩
   ·rw[List.getElem?_set_ne (Ne.symm w)]at e2;obtain⟨J,O,q⟩:=W j y G e1 e2 e3;refine⟨J,O,?_⟩;rcases q with q|⟨k,F,e,z'⟩
    ·exact .inl q
    ·refine .inr ⟨k,F,e,z'.sameBut f ?_⟩;rintro rfl;exact w (uw Y e1 (I.ok.inj _ _ _ e l▸C))
  ·by_cases Xg:F=c
   ·subst Xg;exact⟨_,Bg⟩
   ·obtain⟨w2,z2⟩:=I.cell y F e;exact⟨w2,z2.sameBut f Xg⟩
  ·obtain⟨e,n,ne,R,d⟩:=I.pin p T;refine⟨(f.2 p.1 ?_).trans e,n,ne,R,d⟩;intro q;rw[q,Z]at e;have q':oc=p.2:=aaI e;exact d D (by rw[<- q'];exact WN)
theorem gK{M:Model}{i:Nat}{x:Str}{v:V}{u:Value}(I:Inv X pins σ H s)(d:X.N.Nodup)(c:X.N[i]?=some x)(b:Loc X.env.scope x)(r:RelV v u)
  (h:∀a,Inv X pins (σ.set i (some v)) H a->Q () a) (hf:X.fn x=true\/X.env.scope.names.lookup x=some .local:=by first|exact .inl rfl|exact .inr rfl|assumption):wpAny M A (storeName X.env x u) Q E s :=
 zW I d c b r (λa e _=>h a e) hf
theorem Inv.zA{s':Shared}(I:Inv X pins σ H s)(g:s'.os=s.os)(u:Un (mn X.stack) ch H H' s.heap s'.heap)(i:jM H' s'.heap)(h:AllBare s'.gens)
  (j:∀b∈ch,(b∈X.ex\/X.s₀.heap.objs.size<=b)/\b≠X.env.locals/\(∀x c,X.env.cells.lookup x=some c->c≠b)/\∀p∈X.pn++pins,p.1≠b):Inv X pins σ H' s':=by
 obtain⟨h',a,d,t',f⟩:=s';have e:f=s.os:=g;subst e;exact I.call (g':=a) (t':=t') (d':=d) u i h j
end
abbrev XK:=Value->Option Addr->Hp->Prop
abbrev St:=List (Option V)
abbrev VK:=V->Hp->Prop
abbrev TE:=St->Hp->VK->Prop
abbrev TT:=St->Hp->(Bool->Hp->Prop)->Prop
abbrev TA:=St->Hp->(ah->Hp->Prop)->Prop
structure Ends where
 nx:St->Hp->Prop
 rt:VK
 bk:St->Hp->Prop:=λ_ _=>False
 ct:St->Hp->Prop:=λ_ _=>False
abbrev TS:=Ends->St->Hp->Prop
def EP(X:Cx)(pins:ao)(b:St)(Q:VK)(u:Value)(s':Shared):Prop:=∃v a,Inv X pins b a s'/\RelV v u/\Q v a
def TP(X:Cx)(pins:ao)(c:St)(Q:Bool->Hp->Prop)(b:Bool)(s':Shared):Prop:=∃a,Inv X pins c a s'/\Q b a
def AP(X:Cx)(pins:ao)(c:St)(Q:ah->Hp->Prop)(d:aw)(s':Shared):Prop:=∃a b,Inv X pins c b s'/\Vals a d/\Q a b
def SP(X:Cx)(pins:ao)(D:Ends)(f:Flow)(s':Shared):Prop :=
 match f with
 |.next=>∃a b,Inv X pins a b s'/\D.nx a b
 |.brk=>∃a b,Inv X pins a b s'/\D.bk a b
 |.cont=>∃a b,Inv X pins a b s'/\D.ct a b
 |.ret u=>∃v a b,Inv X pins a b s'/\RelV v u/\D.rt v b
def PE(X:Cx)(e:Expr)(t:TE):Prop :=
 ∀(pins:ao) (s:Shared) (a:St) (H:Hp) (Q:VK),Inv X pins a H s->t a H Q->wpAny (model X.prog X.w) X.A (eval e X.env) (EP X pins a Q) X.xe s
def PT(X:Cx)(e:Expr)(t:TT):Prop :=
 ∀(pins:ao) (s:Shared) (a:St) (H:Hp) (Q:Bool->Hp->Prop),Inv X pins a H s->t a H Q->wpAny (model X.prog X.w) X.A (isTrue e X.env (eval e X.env)) (TP X pins a Q) X.xe s
def PW(X:Cx)(e:Expr)(t:TT):Prop :=
 ∀(whole:Sem Value) (pins:ao) (s:Shared) (a:St) (H:Hp) (Q:Bool->Hp->Prop),Inv X pins a H s->t a H Q->wpAny (model X.prog X.w) X.A (isTrue e X.env whole) (TP X pins a Q) X.xe s
theorem PW.pt{X:Cx}{e:Expr}{t:TT}(h:PW X e t):PT X e t:=h _
def PA(X:Cx)(es:aq)(t:TA):Prop :=
 ∀(pos:Pos) (pins:ao) (s:Shared) (a:St) (H:Hp) (Q:ah->Hp->Prop),Inv X pins a H s->t a H Q->wpAny (model X.prog X.w) X.A (spliced (backTo pos (starEach es X.env))) (AP X pins a Q) X.xe s
def PS(X:Cx)(st:Stmt)(t:TS):Prop :=
 ∀(pins:ao) (s:Shared) (a:St) (H:Hp) (D:Ends),Inv X pins a H s->t D a H->wpAny (model X.prog X.w) X.A (exec st X.env) (SP X pins D) X.xe s
def iY(X:Cx)(st:aO)(t:TS):Prop :=
 ∀(pins:ao) (s:Shared) (a:St) (H:Hp) (D:Ends),Inv X pins a H s->t D a H->wpAny (model X.prog X.w) X.A (execs st X.env) (SP X pins D) X.xe s
theorem dF{b:Type}{t:Sem b}{Q c:b->Shared->Prop}{M:Model}{s:Shared}(h:wpAny M A t Q E s)(d:∀a s,Q a s->c a s):wpAny M A t c E s:=aaL h d λ_ _ x=>x
end L2
namespace L2
open PySem PySem.Spec PyProof.Rows
variable {E Q:Value->Shared->Prop}{pos:Pos}{σ:L2.St}
section
variable {X:Cx}
def jP(i:Nat):TE:=λσ H Q=>∃v,σ[i]?=some (some v)/\Q v H
def tC(v:V):TE:=λ_ H Q=>Q v H
theorem ji{i:Nat}{x:Str}(o:X.N[i]?=some x)(g:KH X.env.scope x)(hd:(x==("__debug__" : Str))=false:=by decide)(f:(x==("__classdict__" : Str))=false:=by decide):PE X (.Name x pos) (jP i):=by
 intro pins s σ H Q I h;obtain⟨v,e,h⟩:=h;obtain⟨m,j,n⟩:=I.loc;obtain⟨u,r,l⟩:=n i x v o e g;have fin:EP X pins σ Q u s:=⟨v,H,I,r,h⟩
 rcases l with ⟨b,k⟩|⟨b,c,d,a⟩
 ·exact wpAny_Name (wpAny_loadName_local I.ok.kind b j k fin) hd
 ·rcases b with b|b
  ·exact wpAny_Name (wpAny_loadName_cell I.ok.kind b d a fin) hd
  ·exact wpAny_Name (wpAny_loadName_free I.ok.kind b d a fin f) hd
theorem L3{i j pos}:PE X (.Constant (.int i) j pos) (tC (.int i)):=λ_ _ _ H _ I h=>wpAny_Constant_int ⟨.int i,H,I.tok _,⟨_,rfl⟩,h⟩
theorem JU{b j pos}:PE X (.Constant (.bool b) j pos) (tC (.bl b)):=λ_ _ _ H _ I h=>Constant_bool ⟨.bl b,H,I,rfl,h⟩
theorem CB{j pos}:PE X (.Constant .none j pos) (tC .cF):=λ_ _ _ H _ I h=>Constant_none ⟨.cF,H,I,rfl,h⟩
theorem LZ{x j pos}:PE X (.Constant (.str x) j pos) (tC (.str x)):=λ_ _ _ H _ I h=>Calls.Constant_str ⟨.str x,H,I.tok _,⟨_,rfl⟩,h⟩
def Gl(X:Cx)(x:Str):Prop:=X.env.kindOf x=some .globalImplicit
theorem sE{pins:ao}{s:Shared}{H:Hp}{x:Str}{u:Value}(I:Inv X pins σ H s)(b:Gl X x)(a:X.mg x=some u)(h:Q u s)
  (hd:(x==("__debug__" : Str))=false:=by decide):wpAny (model X.prog X.w) X.A (eval (.Name x pos) X.env) Q E s :=
 ab1 I.ok.kind b (Calls.loadGlobal_global (by rw[I.ok.glob];exact I.mod.glob.keeps I.bk) a h) hd
theorem iz{pins:ao}{s:Shared}{H:Hp}{x:Str}{u:Value}(I:Inv X pins σ H s)(d:Gl X x)(c:X.mg x=none)(a:bootBuiltins x=some u)(h:Q u s)
  (b:x ≠ "__name__":=by decide) (hd:(x==("__debug__" : Str))=false:=by decide):wpAny (model X.prog X.w) X.A (eval (.Name x pos) X.env) Q E s:=by
 obtain⟨g,f,e⟩:=I.mod.blt;exact ab1 I.ok.kind d (Calls.loadGlobal_builtin (by rw[I.ok.glob];exact I.mod.glob.keeps I.bk) c (by rw[I.ok.blt];exact f.keeps I.bk) ((e x b).trans a) h) hd
theorem yx{x:Str}{v:V}{u:Value}(b:Gl X x)(a:X.mg x=some u)(r:RelV v u)(hd:(x==("__debug__" : Str))=false:=by decide):PE X (.Name x pos) (tC v) :=
 λ_ _ _ H _ I h=>sE I b a ⟨v,H,I,r,h⟩ hd
theorem yA{x:Str}{v:V}{u:Value}(d:Gl X x)(c:X.mg x=none)(a:bootBuiltins x=some u)(r:RelV v u)(b:x ≠ "__name__":=by decide)(hd:(x==("__debug__" : Str))=false:=by decide):PE X (.Name x pos) (tC v) :=
 λ_ _ _ H _ I h=>iz I d c a ⟨v,H,I,r,h⟩ b hd
variable {a b:Expr}{ta tb:TE}{pos:Pos}
def PC(X:Cx)(op:CmpOp)(a b:Expr)(t:TE):Prop :=
 ∀(pins:ao) (s:Shared) (σ:St) (H:Hp) (Q:VK),Inv X pins σ H s->t σ H Q ->
  wpAny (model X.prog X.w) X.A (eval a X.env) (λv d=>wpAny (model X.prog X.w) X.A (eval b X.env) (λu c=>wpAny (model X.prog X.w) X.A (compareOp op v u) (EP X pins σ Q) X.xe c) X.xe d) X.xe s
theorem CV(b:Expr){op:CmpOp}(h:op≠.In)(c:op≠.NotIn):behindInMarks op b=false:=by
 have e1:(op==CmpOp.In)=false:=by cases op<;>first|rfl|exact absurd rfl h
 have e2:(op==CmpOp.NotIn)=false:=by cases op<;>first|rfl|exact absurd rfl c
 cases b<;>simp[behindInMarks,e1,e2]
def PQ(ta:TE):TE:=λσ H Q=>ta σ H λx c=>Q (.bl (!decide (x=.cF))) c
theorem RelV.CQ{x:V}{v:Value}(r:RelV x v):(v==Value.none)=decide (x=.cF):=by
 cases x with
 |cF=>cases r;rfl
 |bl _=>cases r;rfl
 |int _=>obtain⟨t,rfl⟩:=r;rfl
 |str _=>obtain⟨t,rfl⟩:=r;rfl
 |UL _=>obtain⟨t,rfl⟩:=r;rfl
 |UA _=>obtain⟨t,rfl⟩:=r;rfl
 |ref _=>cases r;rfl
 |ty _=>cases r;rfl
theorem Hh{j pos'}(c:PE X a ta):PC X .IsNot a (.Constant .none j pos') (PQ ta):=by
 intro pins s σ H Q I h;refine dF (c pins s σ H _ I h) λv g d=>?_;obtain⟨x,f,e,r1,q1⟩:=d;exact Constant_none (isnot_none_gen ⟨.bl _,f,e,by rw[r1.CQ];rfl,q1⟩)
def tB(t:TE):TT:=λσ H Q=>t σ H λx d=>∃c,x=.bl c/\Q c d
theorem L4{op:CmpOp}{t:TE}(h:PC X op a b t)(c:behindInMarks op b=false:=by first|exact CV _ (by decide) (by decide)|rfl):PE X (.Compare a [op] [b] pos) t:=λpins s σ H Q I hw=>wpAny_Compare1 (h pins s σ H Q I hw) c
theorem wB{e:Expr}{t:TE}(h:PE X e t)(he:∀whole,isTrue e X.env whole=(do let v <- whole;standAt e.pos;holding [v] (truthy v)):=by intro _;rfl):PT X e (tB t):=by
 intro pins s σ H Q I hw;refine isTrue_plain (dF (h pins s σ H _ I hw) λv i c=>?_) (he _);obtain⟨x,g,f,r1,q1⟩:=c;obtain⟨d,rfl,q⟩:=q1;cases r1;exact abj ⟨g,f,q⟩
variable {tA TH:TT}{rest:aq}
def P4(t u:TT):TT:=λσ H Q=>t σ H λc d=>if c=true then u σ d Q else Q false d
def Y8(t u:TT):TT:=λσ H Q=>t σ H λc d=>if c=true then Q true d else u σ d Q
def U8(t:TT):TT:=λσ H Q=>t σ H λc d=>Q (!c) d
theorem G4(d:PT X a tA):PW X (.BoolOp .And [a] pos) tA:=by
 intro f pins s σ H Q I h;refine isTrue_and (dF (d pins s σ H Q I h) λc g e=>?_);cases c with
 |true=>exact isTrue_and_nil e
 |false=>exact e
theorem Cj(d:PT X a tA):PW X (.BoolOp .Or [a] pos) tA:=by
 intro f pins s σ H Q I h;refine isTrue_or (dF (d pins s σ H Q I h) λc g e=>?_);cases c with
 |false=>exact isTrue_or_nil e
 |true=>exact e
theorem LQ(j:PT X a tA)(i:PW X (.BoolOp .And (b::rest) pos) TH):PW X (.BoolOp .And (a::b::rest) pos) (P4 tA TH):=by
 intro f pins s σ H Q I h;refine isTrue_and (dF (j pins s σ H _ I h) λc g ⟨e,d,q1⟩=>?_);cases c with
 |true=>exact i f pins g σ e Q d q1
 |false=>exact⟨e,d,q1⟩
theorem JE(j:PT X a tA)(i:PW X (.BoolOp .Or (b::rest) pos) TH):PW X (.BoolOp .Or (a::b::rest) pos) (Y8 tA TH):=by
 intro f pins s σ H Q I h;refine isTrue_or (dF (j pins s σ H _ I h) λc g ⟨e,d,q1⟩=>?_);cases c with
 |true=>exact⟨e,d,q1⟩
 |false=>exact i f pins g σ e Q d q1
theorem wC(d:PT X a tA):PT X (.UnaryOp .Not a pos) (U8 tA):=by
 intro pins s σ H Q I h;exact isTrue_not (d pins s σ H (λc e=>Q (!c) e) I h)
def Jz(ta tb:TE):TE:=λσ H Q=>ta σ H λx d=>∃c,x=.bl c/\if c=true then tb σ d Q else Q (.bl false) d
def PM(ta tb:TE):TE:=λσ H Q=>ta σ H λx d=>∃c,x=.bl c/\if c=true then Q (.bl true) d else tb σ d Q
def PN(ta:TE):TE:=λσ H Q=>ta σ H λx d=>∃c,x=.bl c/\Q (.bl (!c)) d
theorem wH{op}{t:TE}(h:PE X a t):PE X (.BoolOp op [a] pos) t:=λpins s σ H Q I hw=>BoolOp_one (h pins s σ H Q I hw)
theorem CF(i:PE X a ta)(g:PE X (.BoolOp .And (b::rest) pos) tb):PE X (.BoolOp .And (a::b::rest) pos) (Jz ta tb):=by
 intro pins s σ H Q I h;refine BoolOp_and (dF (i pins s σ H _ I h) λv f j=>?_);obtain⟨x,e,d,r1,q1⟩:=j;obtain⟨c,rfl,q1⟩:=q1;cases r1;refine abj ?_;cases c with
 |true=>exact g pins f σ e Q d q1
 |false=>exact⟨.bl false,e,d,rfl,q1⟩
theorem QD(i:PE X a ta)(g:PE X (.BoolOp .Or (b::rest) pos) tb):PE X (.BoolOp .Or (a::b::rest) pos) (PM ta tb):=by
 intro pins s σ H Q I h;refine BoolOp_or (dF (i pins s σ H _ I h) λv f j=>?_);obtain⟨x,e,d,r1,q1⟩:=j;obtain⟨c,rfl,q1⟩:=q1;cases r1;refine abj ?_;cases c with
 |false=>exact g pins f σ e Q d q1
 |true=>exact⟨.bl true,e,d,rfl,q1⟩
theorem L0(d:PE X a ta):PE X (.UnaryOp .Not a pos) (PN ta):=by
 intro pins s σ H Q I h;refine UnaryOp_ (dF (d pins s σ H _ I h) λv i e=>?_);obtain⟨x,g,f,r1,q1⟩:=e;obtain⟨c,rfl,q1⟩:=q1;cases r1;exact not_of (abj ⟨.bl (!c),g,f,rfl,q1⟩)
end
end L2
namespace L2
open PySem PySem.Spec PyProof.Rows
def dW(K:av)(H:Hp)(a:Addr)(xs:ah):Prop :=
 Rd H a (.lst xs) \/
  ∃(o:Obj) (b:bg) (n:Nat),K.lookup a=some o/\o.cls=.type "list" /\ o.dict=none/\o.data=.seq b n/\b.size<=sizeLine/\Vals xs b.toList
def a_(K:av)(H:Hp)(a:Addr)(xs:ah):Prop :=
 Rd H a (.tup xs) \/
  ∃(o:Obj) (b:bg) (n:Nat),K.lookup a=some o/\o.cls=.type "tuple" /\ o.data=.seq b n/\b.size<=sizeLine/\Vals xs b.toList
noncomputable def YH:Value->Option V
 |.none=>some .cF
 |.bool b=>some (.bl b)
 |.int i _=>some (.int i)
 |.str x _=>some (.str x)
 |.bytes b _=>some (.UL b)
 |.float b _=>some (.UA b)
 |.ref a=>some (.ref a)
 |.type n=>some (.ty n)
 |_=>none
theorem RelV.abs{x:V}{u:Value}(r:RelV x u):YH u=some x:=by
 cases x with
 |cF=>cases r;rfl
 |bl _=>cases r;rfl
 |int _=>obtain⟨t,rfl⟩:=r;rfl
 |str _=>obtain⟨t,rfl⟩:=r;rfl
 |UL _=>obtain⟨t,rfl⟩:=r;rfl
 |UA _=>obtain⟨t,rfl⟩:=r;rfl
 |ref _=>cases r;rfl
 |ty _=>cases r;rfl
theorem RelV.inj{x y:V}{u:Value}(r:RelV x u)(q:RelV y u):x=y:=aaI (r.abs.symm.trans q.abs)
theorem Vals.inj:∀{xs ys:ah} {a:aw},Vals xs a->Vals ys a->xs=ys
 |_,_,_,.nil,.nil=>rfl
 |_,_,_,.cons r t,.cons r' t'=>by rw[r.inj r',Vals.inj t t']
variable {K:av}
section
variable {X:Cx}{pins:ao}{σ:St}{H:Hp}{s:Shared}{a:Addr}{xs ys:ah}
theorem dW.of(h:H a=some (.lst xs)):dW K H a xs:=.inl (.inl h)
theorem a_.of(h:H a=some (.tup xs)):a_ K H a xs:=.inl (.inl h)
theorem Inv.list(I:Inv X pins σ H s)(h:dW X.K H a xs):∃b:aw,Vals xs b/\PlainL s.heap a b.toArray/\xs.length<=sizeLine:=by
 rcases h with h|⟨o,b,n,d,f,hd,c,g,r⟩
 ·obtain⟨z,b,n,r,e⟩:=h.ok I.cJ;exact⟨b,r,⟨_,n,e,rfl,rfl,rfl⟩,z⟩
 ·refine⟨b.toList,r,⟨o,n,I.Dt a o d,f,hd,by simpa using c⟩,?_⟩;have e:=r.length;simp only[Array.length_toList]at e;left
theorem Inv.tuple(I:Inv X pins σ H s)(h:a_ X.K H a xs):∃b:aw,Vals xs b/\IsTup s.heap a b.toArray/\xs.length<=sizeLine:=by
 rcases h with h|⟨o,b,n,d,f,c,g,r⟩
 ·obtain⟨z,b,r,p⟩:=h.ok I.cJ;exact⟨b,r,p,z⟩
 ·refine⟨b.toList,r,⟨o,I.Dt a o d,f,n,by simpa using c⟩,?_⟩;have e:=r.length;simp only[Array.length_toList]at e;left
theorem Inv.kS(I:Inv X pins σ H s)(h:dW X.K H a xs)(h':dW X.K H a ys):xs=ys:=by
 obtain⟨i,r,⟨o,n,e,_,_,d⟩,_⟩:=I.list h;obtain⟨b,g,⟨j,k,c,_,_,f⟩,_⟩:=I.list h';rw[e]at c;cases c;rw[d]at f;injection f with d1 _;have:i=b:=by simpa using congrArg Array.toList d1
 subst this;exact r.inj g
theorem Inv.qC(I:Inv X pins σ H s)(h:a_ X.K H a xs)(h':a_ X.K H a ys):xs=ys:=by
 obtain⟨i,r,⟨o,e,_,n,d⟩,_⟩:=I.tuple h;obtain⟨b,g,⟨j,c,_,k,f⟩,_⟩:=I.tuple h';rw[e]at c;cases c;rw[d]at f;injection f with d1 _;have:i=b:=by simpa using congrArg Array.toList d1
 subst this;exact r.inj g
end
noncomputable abbrev Cx.oy(X:Cx)(E:au):Cx:={ X with xe:=E }
abbrev Cx.uu(X:Cx):Cx:=X.oy λ_ _=>False
theorem Cx.Ok.oy{X:Cx}(ok:X.Ok)(E:au):(X.oy E).Ok :=
 ⟨ok.mod,ok.kind,ok.glob,ok.blt,ok.above,ok.inj,ok.has,ok.Kw,ok.hd,ok.frames,ok.Ll,ok.Sn,ok.bs,ok.EX,ok.uv,ok.xh,ok.kg,ok.Bj⟩
variable {E:Value->Shared->Prop}{X:Cx}
theorem Cx.Ok.ie(ok:(X.oy E).Ok):X.Ok :=
 ⟨ok.mod,ok.kind,ok.glob,ok.blt,ok.above,ok.inj,ok.has,ok.Kw,ok.hd,ok.frames,ok.Ll,ok.Sn,ok.bs,ok.EX,ok.uv,ok.xh,ok.kg,ok.Bj⟩
section
variable {X:Cx}{pins:ao}{σ:St}{H:Hp}{s:Shared}{E:au}
theorem Inv.oy(I:Inv X pins σ H s)(E:au):Inv (X.oy E) pins σ H s:=⟨I.ok.oy E,I.os,I.bare,I.base,I.loc,I.cell,I.free,I.fN,I.pin,I.cJ,I.len⟩
theorem Inv.ie(I:Inv (X.oy E) pins σ H s):Inv X pins σ H s:=⟨I.ok.ie,I.os,I.bare,I.base,I.loc,I.cell,I.free,I.fN,I.pin,I.cJ,I.len⟩
theorem SP.ie{D:Ends}{f:Flow}{s':Shared}(h:SP (X.oy E) pins D f s'):SP X pins D f s':=by
 cases f with
 |next=>obtain⟨a,b,I,q⟩:=h;exact⟨a,b,I.ie,q⟩
 |brk=>obtain⟨a,b,I,q⟩:=h;exact⟨a,b,I.ie,q⟩
 |cont=>obtain⟨a,b,I,q⟩:=h;exact⟨a,b,I.ie,q⟩
 |ret u=>obtain⟨v,a,b,I,r,q⟩:=h;exact⟨v,a,b,I.ie,r,q⟩
theorem iY.uu{st:aO}{t:TS}(h:iY X.uu st t):iY X st t:=λpins s σ H D I hw =>
 aaL (h pins s σ H D (I.oy _) hw) (λ_ _ q=>q.ie) λ_ _ z=>False.elim z
end
variable {σ:L2.St}
section
variable {X:Cx}{st:Stmt}{rest:aO}{t u:TS}{e:Expr}{te:TE}{pos:Pos}
def PR:TS:=λD σ H=>D.nx σ H
def U5(t u:TS):TS:=λD σ H=>t { D with nx:=u D } σ H
theorem rY:iY X [] PR:=λ_ _ σ H _ I h=>ab4 ⟨σ,H,I,h⟩
theorem c_(d:PS X st t)(c:iY X rest u):iY X (st::rest) (U5 t u):=by
 intro pins s σ H D I h;refine wpAny_execs_cons (dF (d pins s σ H { D with nx:=u D } I h) λf b q=>?_);cases f with
 |next =>
  obtain⟨a,i,g,q⟩:=q;exact c pins b a i D g q
 |ret v=>exact q
 |brk=>exact q
 |cont=>exact q
theorem jD(a:PS X st t):iY X [st] t:=by
 intro pins s σ H D I h;refine wpAny_execs_cons (dF (a pins s σ H D I h) λf b q=>?_);cases f with
 |next=>exact ab4 q
 |ret v=>exact q
 |brk=>exact q
 |cont=>exact q
theorem Inv.quiet{pins:ao}{H:Hp}{s:Shared}(I:Inv X pins σ H s):interactive X.env=false:=by simp[interactive,I.ok.kind]
def PV(te:TE):TS:=λD σ H=>te σ H λ_ a=>D.nx σ a
theorem iq(he:PE X e te)(hs:swapsWith e none pos.line X.env=pure false:=by rfl):PS X (.Expr e pos) (PV te):=by
 intro pins s σ H D I h;exact wpAny_Expr_any (dF (he pins s σ H _ I h) λv c ⟨x,b,a,r1,q1⟩=>⟨σ,b,a,q1⟩) I.quiet hs
def U6(te:TE):TS:=λD σ H=>te σ H D.rt
theorem r6(he:PE X e te):PS X (.Return (some e) pos) (U6 te):=by
 intro pins s σ H D I h;exact wpAny_Return_some (dF (he pins s σ H _ I h) λv c ⟨x,b,a,r1,q1⟩=>⟨x,σ,b,a,r1,q1⟩)
def Va(c:TT)(t u:TS):TS:=λD σ H=>c σ H λb a=>if b=true then t D σ a else u D σ a
theorem Cn{c:Expr}{a b:aO}{f:TT}(k:PT X c f)(m:iY X a t)(l:iY X b u):PS X (.If c a b pos) (Va f t u):=by
 intro pins s σ H D I h;refine wpAny_If (dF (k pins s σ H _ I h) λd g ⟨j,i,q1⟩=>?_);cases d with
 |true=>exact m pins g σ j D i q1
 |false=>exact l pins g σ j D i q1
def Le:TS:=λ_ _ _=>False
end
abbrev TG:=V->St->Hp->(St->Hp->Prop)->Prop
abbrev Jn:=ah->St->Hp->(St->Hp->Prop)->Prop
def PG(X:Cx)(target:Expr)(t:TG):Prop :=
 ∀(pins:ao) (s:Shared) (σ:St) (H:Hp) (v:V) (u:Value) (Q:St->Hp->Prop),Inv X pins σ H s->RelV v u->t v σ H Q ->
  wpAny (model X.prog X.w) X.A (assign target X.env u) (λ_ c=>∃a b,Inv X pins a b c/\Q a b) X.xe s
def O5(X:Cx)(d:aq)(t:Jn):Prop :=
 ∀(pins:ao) (s:Shared) (σ:St) (H:Hp) (vs:ah) (b:aw) (Q:St->Hp->Prop),Inv X pins σ H s->Vals vs b->t vs σ H Q ->
  wpAny (model X.prog X.w) X.A (assignInOrder ((assignEach d X.env).map (·.2)) b) (λ_ e=>∃a c,Inv X pins a c e/\Q a c) X.xe s
abbrev UR:=V->V->Hp->VK->Prop
def Tr(X:Cx)(op:Operator)(t:UR):Prop :=
 ∀(pins:ao) (s:Shared) (σ:St) (H:Hp) (x y:V) (v u:Value) (Q:VK),Inv X pins σ H s->RelV x v->RelV y u->t x y H Q ->
  wpAny (model X.prog X.w) X.A (inplaceOp op v u) (EP X pins σ Q) X.xe s
variable {es:aq}{pos':Pos}{te:TE}{tg:Expr}
section
variable {X:Cx}{pos:Pos}
def ph(i:Nat):TG:=λv σ H Q=>Q (σ.set i (some v)) H
theorem r_{i:Nat}{x:Str}(c:X.N.Nodup)(b:X.N[i]?=some x)(a:Loc X.env.scope x)(hf:X.fn x=true\/X.env.scope.names.lookup x=some .local:=by first|exact .inl rfl|exact .inr rfl|assumption):PG X (.Name x pos) (ph i):=by
 intro pins s σ H v u Q I r h;exact wpAny_assign_Name (gK I c b a r (λe d=>⟨_,H,d,h⟩) hf)
def Nc:Jn:=λa σ H Q=>a=[]/\Q σ H
def D_(t:TG)(u:Jn):Jn:=λb σ H Q=>∃v r,b=v::r/\t v σ H λa c=>u r a c Q
theorem yu:O5 X [] Nc:=by
 intro pins s σ H a b Q I r h;obtain⟨e,h⟩:=h;subst e;cases r;exact assignInOrder_nil ⟨σ,H,I,h⟩
theorem uo{e:Expr}{t:TG}{u:Jn}(f:PG X e t)(d:O5 X es u)
  (hs:(assignEach (e::es) X.env).map (·.2)=assign e X.env::(assignEach es X.env).map (·.2):=by rfl):O5 X (e::es) (D_ t u):=by
 intro pins s σ H k m Q I r h;obtain⟨v,l,e1,h⟩:=h;subst e1;cases r with
 |cons r c =>
  rw[hs];refine assignInOrder_cons (dF (f pins s σ H _ _ _ I r h) λ_ b g=>?_);obtain⟨a,j,i,q1⟩:=g;exact d pins b a j _ _ Q i c q1
def XO(K:av)(n:Nat)(t:Jn):TG:=λv σ H Q=>∃a b,v=.ref a/\a_ K H a b/\b.length=n/\t b σ H Q
theorem wF{k:Nat}{t:Jn}{n:Nat}(p:X.calm=true)(h:O5 X es t)
  (l:(assignEach es X.env).length=n:=by rfl) (f:(assignEach es X.env).findIdx? (·.1)=none:=by rfl):PG X (.Tuple es k pos) (XO X.K n t):=by
 intro pins s σ H v u Q I r hw;obtain⟨a,d,e1,j,m,hw⟩:=hw;subst e1;cases r;obtain⟨y,c,i,x⟩:=I.tuple j;refine assign_Tuple_tuple (I.ok.hd p) i (by simp[l,<- m,c.length]) f λq g=>?_;have w:Inv X pins σ H { s with heap:=q }:=I.kept (t':=s.toks) λb o e=>g b o (aao (aaj e)) e;exact h pins _ σ H d _ Q w (by simpa using c) hw
def P0(te:TE)(g:TG):TS:=λD σ H=>te σ H λx a=>g x σ a D.nx
theorem Cq{e:Expr}{g:TG}(he:PE X e te)(b:PG X tg g)(hs:swapsWithSole [tg] e pos.line X.env=pure false:=by rfl)(hw:swappedStores [tg] e X.env=pure none:=by rfl)
  (c:(assignEach [tg] X.env).map (·.2)=[assign tg X.env]:=by rfl):PS X (.Assign [tg] e pos) (P0 te g):=by
 intro pins s σ H D I h;refine wpAny_Assign_stores (dF (he pins s σ H _ I h) λv a d=>?_) hs hw;obtain⟨x,i,f,r1,q1⟩:=d;rw[c];exact dF (b pins a σ i x v _ f r1 q1) λ_ j q=>q
theorem rZ{i:Nat}{x:Str}{e:Expr}(c:X.N.Nodup)(b:X.N[i]?=some x)(a:Loc X.env.scope x)(he:PE X e te)(hs:swapsWith e (some (.Name x pos')) pos.line X.env=pure false:=by rfl)(hf:X.fn x=true\/X.env.scope.names.lookup x=some .local:=by first|exact .inl rfl|exact .inr rfl|assumption):
  PS X (.Assign [.Name x pos'] e pos) (P0 te (ph i)):=by
 intro pins s σ H D I h;refine wpAny_Assign_Name (dF (he pins s σ H _ I h) λv l d=>?_) hs;obtain⟨y,j,g,r1,q1⟩:=d;exact gK g c b a r1 (λk f=>⟨_,j,f,q1⟩) hf
def U7(i j:Nat)(b:TA):TS:=λD σ H=>b σ H λa c=>∃v w,a=[v,w]/\D.nx ((σ.set i (some v)).set j (some w)) c
theorem LR{i j:Nat}{x y:Str}{a b:Expr}{f:TA}{px d pt:Pos}{kt k2 Om}(L:X.calm=true)(l:X.N.Nodup)(J:X.N[i]?=some x)(G:X.N[j]?=some y)(O:i≠j)
  (k:X.env.scope.names.lookup x=some .local) (g:X.env.scope.names.lookup y=some .local) (M:PA X [a,b] f)
  (hw:swappedStores [.Tuple [.Name x px,.Name y d] kt pt] (.Tuple [a,b] k2 Om) X.env=pure (some [x,y]))
  (hs:swapsWithSole [.Tuple [.Name x px,.Name y d] kt pt] (.Tuple [a,b] k2 Om) pos.line X.env=pure false:=by rfl) :
  PS X (.Assign [.Tuple [.Name x px,.Name y d] kt pt] (.Tuple [a,b] k2 Om) pos) (U7 i j f):=by
 intro pins s σ H D I h;rw[exec_Assign_arm];refine aaa (wpAny_standAt ?_);rw[hs];refine aaa (aac ?_);rw[if_neg (by decide)];refine aaa (Tuple_ (dF (M _ pins s σ H _ I h) λu c P=>?_));obtain⟨U,r,T,r1,q1⟩:=P;obtain⟨v,w,e1,q1⟩:=q1;subst e1;obtain⟨u1,u2,rfl,z,F⟩:∃u1 u2,u=[u1,u2]/\RelV v u1/\RelV w u2:=by
  cases r1 with
  |cons p q =>
   cases q with
   |cons C B =>
    cases B;exact⟨_,_,rfl,p,C⟩
 refine aa0 ?_ (by show 2<=sizeLine;decide);have S:Inv X pins σ r { c with heap:=c.heap.push { cls:=.type "tuple",data:=.seq [u1,u2].toArray } }:=T.kept (t':=c.toks) λb o e=>aai _ e;rw[hw];refine aaa (aac ?_);show wpAny (model X.prog X.w) X.A (do rule "assign.swapped-stores";let items <- unpackItems (.ref c.heap.objs.size) 2 none;assignInOrder [λv=>bindName X.env y v,λv=>bindName X.env x v] items.reverse;pure Flow.next) _ _ _;refine aaa (abq (aaa (unpackItems_tuple (items:=#[u1,u2]) (I.ok.hd L) (IsTup.new c.heap _) λm t=>?_)));have R:=S.kept (h':=m) (t':=c.toks) λb o e=>t b o (aao (aaj e)) e;show wpAny _ _ (assignInOrder [λv=>bindName X.env y v,λv=>bindName X.env x v] [u2,u1] >>= λ_=>pure Flow.next) _ _ _;refine aaa (assignInOrder_cons (wpAny_bindName (gK R l G (.inl g) F (λW Q=>?_) (.inr g))));refine assignInOrder_cons (wpAny_bindName (gK Q l J (.inl k) z (λV n=>assignInOrder_nil (aac ?_)) (.inr k)));rw[List.set_comm _ _ (Ne.symm O)]at n;exact⟨_,r,n,q1⟩
def Vd(i:Nat)(te:TE)(a:UR):TS:=λD σ H=>∃x,σ[i]?=some (some x)/\te σ H λy c=>a x y c λz b=>D.nx (σ.set i (some z)) b
theorem Cp{i:Nat}{x:Str}{e:Expr}{op:Operator}{n:UR}(L:X.N.Nodup)(o:X.N[i]?=some x)(g:Loc X.env.scope x)(he:PE X e te)(B:Tr X op n)(hf:X.fn x=true\/X.env.scope.names.lookup x=some .local:=by first|exact .inl rfl|exact .inr rfl|assumption):
  PS X (.AugAssign (.Name x pos') op e pos) (Vd i te n):=by
 intro pins s σ H D I h;obtain⟨v,e1,h⟩:=h;obtain⟨m,C,G⟩:=I.loc;have Tv:KH X.env.scope x:=by rcases g with k|k;exact .inl k;exact .inr (.inl k)
 obtain⟨u,r,l⟩:=G i x v o e1 Tv;refine wpAny_AugAssign_Name ?_;have go:wpAny (model X.prog X.w) X.A (eval e X.env) (λw f=>wpAny (model X.prog X.w) X.A (inplaceOp op u w) (λr d=>wpAny (model X.prog X.w) X.A (storeName X.env x r) (λ_=>SP X pins D .next) X.xe d) X.xe f) X.xe s:=by
  refine dF (he pins s σ H _ I h) λw p j=>?_;obtain⟨y,R,P,r1,q1⟩:=j;refine dF (B pins p σ R v y u w _ P r r1 q1) λz U j=>?_;obtain⟨S,Q,O,q,t⟩:=j;exact gK O L o g q (λT M=>⟨_,Q,M,t⟩) hf
 rcases l with ⟨a,F⟩|⟨a,c,J,b⟩
 ·exact wpAny_loadName_local I.ok.kind a C F go
 ·rcases a with a|a
  ·exact wpAny_loadName_cell I.ok.kind a J b go
  ·rcases g with k|k
   ·have:X.env.scope.names.lookup x=some .free:=a;rw[k]at this;cases this
   ·have:X.env.scope.names.lookup x=some .free:=a;rw[k]at this;cases this
def Wl(f:Int->Int->Int):UR:=λx y H Q=>∃i j,x=.int i/\y=.int j/\Q (.int (f i j)) H
theorem MD:Tr X .Add (Wl λi j=>i+j):=by
 intro pins s σ H x y v u Q I r1 a h;obtain⟨i,j,e1,e2,q⟩:=h;subst e1;subst e2;obtain⟨t,rfl⟩:=r1;obtain⟨b,rfl⟩:=a;exact iadd_int ⟨.int _,H,I.tok _,⟨_,rfl⟩,q⟩
theorem MB:Tr X .Sub (Wl λi j=>i - j):=by
 intro pins s σ H x y v u Q I r1 a h;obtain⟨i,j,e1,e2,q⟩:=h;subst e1;subst e2;obtain⟨t,rfl⟩:=r1;obtain⟨b,rfl⟩:=a;exact isub_int ⟨.int _,H,I.tok _,⟨_,rfl⟩,q⟩
end
section
variable {X:Cx}{pos:Pos}
def Lb(c:TT)(g:TS):TS:=λD σ H=>∃W:Nat->St->Hp->Prop,(∃m,W m σ H)/\∀m σ H,W m σ H ->
 c σ H λb e=>if b=true then ∃N:St->Hp->Prop,(∀a f,N a f->∃d,d<m/\W d a f)/\g { D with nx:=N,ct:=N,bk:=D.nx } σ e else D.nx σ e
theorem Ck{c:Expr}{body:aO}{p:TT}{q:TS}(r:PassesOwn (model X.prog X.w) X.A X.env X.xe)(L:PT X c p)(M:iY X body q):PS X (.While c body [] pos) (Lb p q):=by
 intro pins s σ H D I h;obtain⟨W,⟨J,B⟩,turn⟩:=h;refine wpAny_While (codeAny_whileLoop (λn G=>∃e z,Inv X pins e z G/\W n e z) ?_ J ⟨σ,H,I,B⟩);rintro n F ⟨d,y,O,w1⟩;refine abv r (dF (L pins F d y _ O (turn n d y w1)) λb C ⟨x,u,j⟩=>?_);cases b with
 |true =>
  obtain⟨N,t,j⟩:=j;rw[if_pos rfl];refine abv r (dF (M pins C d x _ u j) λf P i=>?_);cases f with
  |next =>
   obtain⟨a,g,o,k⟩:=i;obtain⟨l,m,w3⟩:=t a g k;exact⟨l,m,a,g,o,w3⟩
  |cont =>
   obtain⟨a,g,o,k⟩:=i;obtain⟨l,m,w3⟩:=t a g k;exact⟨l,m,a,g,o,w3⟩
  |brk=>exact i
  |ret v=>exact i
 |false =>
  rw[if_neg Bool.false_ne_true];exact ab4 ⟨d,x,u,j⟩
end
structure It where
 go:Nat->Hp->Prop
 vN:Nat->Hp->V->Hp->Prop
 stop:Nat->Hp->Prop
def pU(X:Cx)(pins:ao)(H:Hp)(b:Addr):Prop :=
 H b=none/\b≠X.env.locals/\b∉X.fs/\(b∈X.ex\/X.s₀.heap.objs.size<=b)/\(∀x c,X.env.cells.lookup x=some c->c≠b)/\∀p∈X.pn++pins,p.1≠b
theorem Inv.Ij{pins:ao}{H H':Hp}{s:Shared}{b:Addr}(I:Inv X pins σ H s)(a:s.heap.objs.size<=b)(f:H' b=none):pU X pins H' b:=by
 refine⟨f,aaM (aaG I.lt a),I.Me a,.inr (aaR I.sz a),λx c e z=>?_,λp d z=>?_⟩
 ·obtain⟨v,q⟩:=I.cell x c e;exact absurd (aaG q.lt (by rw[z];exact a)) (aaO _)
 ·exact absurd (aaG (aaj (I.pin p d).1) (by rw[z];exact a)) (aaO _)
structure Turn(P:aC)(w:World)(K:av)(tg:Expr)(J:It)(fp:aX)(it:Addr)(tn:Nat->Heap->Prop):Prop where
 mem:it∈fp
 obj:∀i h,tn i h->∀b∈fp,∃o,h.get? b=some o/\∀v,o.data≠.cell v
 keep:∀i h h',tn i h->(∀b∈fp,∀o,h.get? b=some o->h'.get? b=some o)->tn i h'
 item:∀(X:Cx),X.prog=P->X.w=w->X.K=K->X.calm=true->∀(i:Nat) (pins:ao) (s:Shared) (σ:St) (H:Hp) (E:au),Inv X pins σ H s->(∀b∈fp,pU X pins H b)->tn i s.heap->J.go i H ->
  wpAny (model P w) X.A (pyNext (.ref it)) (λr s1=>∃u,r=some u /\
   wpAny (model P w) X.A (letOwnedTupleGo tg (.ref it) u) (λ_ s2=>∃x H',Inv X pins σ H' s2/\RelV x u/\J.vN i H x H'/\tn (i+1) s2.heap/\∀b∈fp,H' b=none) E s1) E s
 done:∀(X:Cx),X.prog=P->X.w=w->X.K=K->X.calm=true->∀(i:Nat) (pins:ao) (s:Shared) (σ:St) (H:Hp) (E:au),Inv X pins σ H s->(∀b∈fp,pU X pins H b)->tn i s.heap->J.stop i H ->
  wpAny (model P w) X.A (pyNext (.ref it)) (λr s1=>r=none/\Inv X pins σ H s1) E s
 self:∀(A:aB) (i:Nat) (s:Shared) (Q:au) (E:au),tn i s.heap->Q (.ref it) s->wpAny (model P w) A (pyIter (.ref it)) Q E s
abbrev TI:=St->Hp->(It->Hp->Prop)->Prop
def FH(X:Cx)(pins:ao)(σ:St)(tg:Expr)(R:It->Hp->Prop)(c:Value)(s2:Shared):Prop :=
 ∃(it:Addr) (fp:aX) (a:Nat->Heap->Prop) (J:It) (H':Hp),c=.ref it/\Inv X pins σ H' s2/\Turn X.prog X.w X.K tg J fp it a/\a 0 s2.heap/\(∀b∈fp,pU X pins H' b)/\R J H'
def PI(X:Cx)(tg iter:Expr)(a:TI):Prop :=
 ∀(pins:ao) (s:Shared) (σ:St) (H:Hp) (R:It->Hp->Prop),Inv X pins σ H s->a σ H R ->
  wpAny (model X.prog X.w) X.A (eval iter X.env) (λv b=>wpAny (model X.prog X.w) X.A (pyIter v) (FH X pins σ tg R) X.xe b) X.xe s
theorem D7{M:Model}{A:aB}{s:Shared}{it:Addr}{u:Value}{o:Obj}{n:String}{vs:bg}{Q:Unit->Shared->Prop}(b:s.heap.get? it=some o)(d:o.cls=.type n)(hd:o.data=.fields vs)
    (c:["enumerate","zip","dict_itemiterator","dict_reverseitemiterator","odict_iterator","itertools.zip_longest","itertools.pairwise"].contains n=false) (a:Q () s):wpAny M A (letOwnedTupleGo tg (.ref it) u) Q E s:=by
  unfold letOwnedTupleGo;cases tg<;>first
    |exact aac a
    | (cases u<;>first
        |exact aac a
        | (refine aaa (wpAny_load b ?_)
           rw[d,hd];show wpAny M A (if (["enumerate","zip","dict_itemiterator","dict_reverseitemiterator","odict_iterator","itertools.zip_longest","itertools.pairwise"].contains n&&vs[0]?==some (rawInt _))=true then _ else _) Q E s;rw[if_neg (by intro h;rw[c,Bool.false_and]at h;cases h)];exact aac a))
noncomputable def O8(K:av)(a:Addr):It :=
 ⟨λi H=>∃b x,dW K H a b/\b[i]?=some x,λi H x c=>c=H/\∀b,dW K H a b->b[i]?=some x,λi H=>∃b,dW K H a b/\b.length<=i⟩
noncomputable def O7(K:av)(a:Addr):It :=
 ⟨λi H=>∃b x,a_ K H a b/\b[i]?=some x,λi H x c=>c=H/\∀b,a_ K H a b->b[i]?=some x,λi H=>∃b,a_ K H a b/\b.length<=i⟩
noncomputable def Bk(lo:Int)(n:Nat):It:=⟨λi _=>i<n,λi H x a=>a=H/\x=.int (lo+i),λi _=>n<=i⟩
variable {P:aC}{w:World}
theorem zU(a it:Addr):Turn P w K tg (O8 K a) [it] it (λi h=>h.IsListIter it a i) where
 mem:=by simp
 obj:=λi h f b g=>by
  have e:b=it:=by simpa using g
  subst e;obtain⟨o,e,c,d⟩:=f;exact⟨o,e,λv z=>by rw[d]at z;cases z⟩
 keep:=λi h m f k=>f.at λo e=>k it (by simp) o e
 item:=by
  intro X t hw y G i pins s σ H E I l f r;subst t hw y;obtain⟨L,x,j,q⟩:=r;obtain⟨U,n,p,O⟩:=I.list j;obtain⟨u,R,N⟩:=n.get q;obtain⟨F,D,S,C,B,A⟩:=l it (by simp);refine wpAny_pyNext_list_item f p.isList (x:=u) (by simpa using R) λm J M=>?_;have V:Inv X pins σ H { s with heap:=m }:=I.turned (t':=s.toks) (λb o g e=>(M.2 b g).trans e) F D C B A;obtain⟨o,e,c,d⟩:=id J;exact⟨u,rfl,D7 (s:={ s with heap:=m }) e c d (by decide) ⟨x,H,V,N,⟨rfl,λW Q=>by rw[I.kS Q j];exact q⟩,J,λb g=>(l b g).1⟩⟩
 done:=by
  intro X t hw y G i pins s σ H E I l f r;subst t hw y;obtain⟨L,j,q⟩:=r;obtain⟨U,n,p,O⟩:=I.list j;obtain⟨F,D,S,C,B,A⟩:=l it (by simp);have Y:=n.length;exact wpAny_pyNext_list_end (I.ok.hd G) f p.isList (by simp;left) λm T=>⟨rfl,I.turned (t':=s.toks) (λb o g e=>T b o g e) F D C B A⟩
 self:=λ_ _ _ _ _ f h=>wpAny_pyIter_listiter f h
theorem wd(a it:Addr):Turn P w K tg (O7 K a) [it] it (λi h=>h.IsTupleIter it a i) where
 mem:=by simp
 obj:=λi h f b g=>by
  have e:b=it:=by simpa using g
  subst e;obtain⟨o,e,c,d⟩:=f;exact⟨o,e,λv z=>by rw[d]at z;cases z⟩
 keep:=λi h m f k=>f.at λo e=>k it (by simp) o e
 item:=by
  intro X t hw y J i pins s σ H E I l f r;subst t hw y;obtain⟨M,x,j,q⟩:=r;obtain⟨G,n,p,Q⟩:=I.tuple j;obtain⟨u,S,O⟩:=n.get q;obtain⟨F,D,T,C,B,A⟩:=l it (by simp);refine wpAny_pyNext_tuple_item f (show s.heap.IsTuple a G.toArray from p) (x:=u) (by simpa using S) λm L N=>?_;have V:Inv X pins σ H { s with heap:=m }:=I.turned (t':=s.toks) (λb o g e=>(N.2 b g).trans e) F D C B A;obtain⟨o,e,c,d⟩:=id L;exact⟨u,rfl,D7 (s:={ s with heap:=m }) e c d (by decide) ⟨x,H,V,O,⟨rfl,λW R=>by rw[I.qC R j];exact q⟩,L,λb g=>(l b g).1⟩⟩
 done:=by
  intro X t hw y J i pins s σ H E I l f r;subst t hw y;obtain⟨M,j,q⟩:=r;obtain⟨G,n,p,Q⟩:=I.tuple j;obtain⟨F,D,T,C,B,A⟩:=l it (by simp);have Y:=n.length;exact wpAny_pyNext_tuple_end (I.ok.hd J) f (show s.heap.IsTuple a G.toArray from p) (by simp;left) λm U=>⟨rfl,I.turned (t':=s.toks) (λb o g e=>U b o g e) F D C B A⟩
 self:=λ_ _ _ _ _ f h=>wpAny_pyIter_tupleiter f h
theorem we(it:Addr)(lo:Int)(n:Nat):Turn P w K tg (Bk lo n) [it] it (λi h=>IsRangeIter h it (lo+(i:Nat)*1) ((n:Int) - (i:Nat)) 1) where
 mem:=by simp
 obj:=λi h a b c=>by
  have e:b=it:=by simpa using c
  subst e;exact⟨_,a,λv z=>by
   have A:Data.fields _=Data.cell v:=z;cases A⟩
 keep:=λi h f a k=>k it (by simp) _ a
 item:=by
  intro X l hw m j i pins s σ H E I d a g;subst l hw m;obtain⟨x,u,D,r,q,p⟩:=d it (by simp);have W:=Walks.range (prog:=X.prog) (w:=X.w) (I.ok.hd j) it lo 1 n;refine W.item i s _ _ g a λv f tk C y B=>?_;obtain⟨t,rfl⟩:=C;have G:Inv X pins σ H { s with heap:=f,toks:=tk }:=I.turned (λb o c e=>B b o (by simpa using c) e) x u r q p;refine⟨_,rfl,D7 (s:={ s with heap:=f,toks:=tk }) (n:="range_iterator") y rfl rfl (by decide) ⟨.int (lo+i),H,G,⟨t,?_⟩,⟨rfl,rfl⟩,y,λb c=>(d b c).1⟩⟩;rw[Int.mul_one]
 done:=by
  intro X l hw m j i pins s σ H E I d a g;subst l hw m;obtain⟨x,u,D,r,q,p⟩:=d it (by simp);exact wpAny_pyNext_range_end (I.ok.hd j) a (by have:n<=i:=g;left) λf F=>⟨rfl,I.turned (t':=s.toks) (λb o c e=>F b o c e) x u r q p⟩
 self:=λ_ _ _ _ _ a h=>wpAny_pyIter_rangeiter a h
end L2
namespace L2
open PySem PySem.Spec PyProof.Rows
variable {fp:aX}{h:Heap}{lo:Int}{pos:Pos}{σ:L2.St}
section
variable {X:Cx}{tg:Expr}
def Rf(K:av)(tl:TE):TI:=λσ H R=>tl σ H λx b=>∃a,x=.ref a/\(∃c,dW K b a c)/\R (O8 K a) b
def Wq(K:av)(tl:TE):TI:=λσ H R=>tl σ H λx b=>∃a,x=.ref a/\(∃c,a_ K b a c)/\R (O7 K a) b
theorem yt{l:Expr}{tl:TE}(g:PE X l tl):PI X tg l (Rf X.K tl):=by
 intro pins s σ H R I h;refine dF (g pins s σ H _ I h) λv c j=>?_;obtain⟨x,k,d,r1,q1⟩:=j;obtain⟨a,e,⟨m,f⟩,q⟩:=q1;subst e;cases r1;obtain⟨t,n,p,r⟩:=d.list f;refine wpAny_pyIter_list p.isList ?_;refine⟨c.heap.objs.size,[c.heap.objs.size],_,_,k,rfl,d.kept (t':=c.toks) λb o e=>aai _ e,zU a _,⟨_,aaD _ rfl,rfl,rfl⟩,λb i=>?_,q⟩;have e:b=c.heap.objs.size:=by simpa using i
 subst e;exact d.Ij (aal _) (d.cJ.fresh (aal _))
theorem Cu{l:Expr}{tl:TE}(g:PE X l tl):PI X tg l (Wq X.K tl):=by
 intro pins s σ H R I h;refine dF (g pins s σ H _ I h) λv c j=>?_;obtain⟨x,m,d,r1,q1⟩:=j;obtain⟨a,e,⟨n,f⟩,q⟩:=q1;subst e;cases r1;obtain⟨k,r,p,t⟩:=d.tuple f;refine wpAny_pyIter_tuple (show c.heap.IsTuple a k.toArray from p) ?_;refine⟨c.heap.objs.size,[c.heap.objs.size],_,_,m,rfl,d.kept (t':=c.toks) λb o e=>aai _ e,wd a _,⟨_,aaD _ rfl,rfl,rfl⟩,λb i=>?_,q⟩;have e:b=c.heap.objs.size:=by simpa using i
 subst e;exact d.Ij (aal _) (d.cJ.fresh (aal _))
theorem Cb{pins:ao}{H:Hp}{s:Shared}{R:It->Hp->Prop}{E:au}{a:Int}{t u v:Tok}{tk:Nat}(I:Inv X pins σ H s)(j:-(2 ^ 62)<=lo)(i:lo<2 ^ 62)(g:-(2 ^ 62)<=a)(f:a<2 ^ 62)
  (q:R (Bk lo (a - lo).toNat) H):wpAny (model X.prog X.w) X.A (pyIter (.ref s.heap.objs.size)) (FH X pins σ tg R) E { s with heap:=s.heap.push { cls:=.type "range",data:=.fields #[.int lo t,.int a u,.int 1 v] },toks:=tk }:=by
 refine wpAny_pyIter_range (IsRange.new ..) (small_one j i g f) ?_;have c:Inv X pins σ H { s with heap:=s.heap.push { cls:=.type "range",data:=.fields #[.int lo t,.int a u,.int 1 v] },toks:=tk }:=I.kept λb o e=>aai _ e;refine⟨(s.heap.push { cls:=.type "range",data:=.fields #[.int lo t,.int a u,.int 1 v] }).objs.size,[(s.heap.push { cls:=.type "range",data:=.fields #[.int lo t,.int a u,.int 1 v] }).objs.size],_,_,H,rfl,
  c.kept (t':=tk) λb o e=>aai _ e,we _ lo (a - lo).toNat,?_,λb d=>?_,q⟩
 ·have e1:lo+((0:Nat):Int)*1=lo:=by simp
  have e2:(((a - lo).toNat:Nat):Int) - ((0:Nat):Int)=Builtin.Range.rangeSize lo a 1:=by rw[rangeSize_one];split<;>left
  show IsRangeIter _ _ (lo+((0:Nat):Int)*1) ((((a - lo).toNat:Nat):Int) - ((0:Nat):Int)) 1;rw[e1,e2];exact aaD _ rfl
 ·have e:b=(s.heap.push { cls:=.type "range",data:=.fields #[.int lo t,.int a u,.int 1 v] }).objs.size:=by simpa using d
  subst e;exact c.Ij (aal _) (c.cJ.fresh (aal _))
def Rc(b:TA):TI:=λσ H R=>b σ H λa c=>∃j:Int,a=[.int j] /\ -(2 ^ 62)<=j/\j<2 ^ 62/\R (Bk 0 j.toNat) c
theorem qM{a:Expr}{b:TA}{p:Pos}(g:Gl X "range")(f:X.mg "range" = none)(i:PA X [a] b)(hs:starEach [a] X.env=[(false,eval a X.env)]:=by rfl):PI X tg (.Call (.Name "range" p) [a] [] pos) (Rc b):=by
 intro pins s σ H R I h;refine Call_ (iz I g f boot_range (aaW (dF (i pos pins s σ H _ I h) λn o k=>?_) hs rfl));obtain⟨m,u,l,r1,q1⟩:=k;obtain⟨j,e,q1,d,q⟩:=q1;subst e;cases r1 with
 |cons r c =>
  cases c;obtain⟨t,rfl⟩:=r;exact call_range_1 (Cb l (by left) (by left) q1 d (by simpa using q))
def Vb(e:TI)(g:TG)(f:TS):TS:=λD σ H=>e σ H λJ k=>∃W:Nat->Nat->St->Hp->Prop,(∃m,W 0 m σ k)/\∀i m σ H,W i m σ H ->
 (J.stop i H/\D.nx σ H)\/(J.go i H/\∃N:St->Hp->Prop,(∀a b,N a b->∃d,d<m/\W (i+1) d a b)/\∀x b,J.vN i H x b->g x σ b λc j=>f { D with nx:=N,ct:=N,bk:=D.nx } c j)
noncomputable def jh(fp:aX)(h:Heap):ao:=fp.filterMap λb=>(h.get? b).map λo=>(b,o)
theorem iu{b:Addr}{o:Obj}(a:b∈fp)(e:h.get? b=some o):(b,o)∈jh fp h:=List.mem_filterMap.mpr ⟨b,a,by rw[e];rfl⟩
theorem qN{p:Addr×Obj}(a:p∈jh fp h):p.1∈fp/\h.get? p.1=some p.2:=by
 obtain⟨b,c,e⟩:=List.mem_filterMap.mp a;cases q:h.get? b with
 |none=>rw[q]at e;cases e
 |some o =>
  rw[q]at e;have d:(b,o)=p:=aaI e;subst d;exact⟨c,q⟩
theorem Inv.pinned{pins:ao}{H:Hp}{s:Shared}(I:Inv X pins σ H s)(hf:∀b∈fp,pU X pins H b)(g:∀b∈fp,∃o,s.heap.get? b=some o/\∀v,o.data≠.cell v):Inv X (pins++jh fp s.heap) σ H s :=
 I.jE λp f=>(List.mem_append.mp f).elim (λz=>I.pin p (aan _ z)) λz=>by
  obtain⟨a,e⟩:=qN z;obtain⟨k,j,i,_⟩:=hf p.1 a;obtain⟨o,c,d⟩:=g p.1 a;rw[e]at c;cases c;exact⟨e,k,j,i,d⟩
theorem Inv.kJ{pins a:ao}{H:Hp}{s:Shared}(I:Inv X (pins++a) σ H s):Inv X pins σ H s:=I.jE λp b=>I.pin p (aan _ (aaK _ b))
theorem r9{iter:Expr}{body:aO}{M:TI}{g:TG}{P:TS}(z:PassesOwn (model X.prog X.w) X.A X.env X.xe)(V:X.calm=true)(hi:PI X tg iter M)(hg:PG X tg g)(k:iY X body P)
  (hs:∀x,foldedSetIterable iter X.env x=pure x:=by intro _;rfl):PS X (.For tg iter body [] pos) (Vb M g P):=by
 intro pins s σ H D I h;refine wpAny_For (dF (hi pins s σ H _ I h) λv s1 h1=>dF h1 λWd s2 h2=>?_) hs;obtain⟨it,fp,O,J,H2,e,I2,T,fV,Y,W,⟨m0,w0⟩,turn⟩:=h2;subst e;have K:∀{H':Hp},(∀b∈fp,H' b=none)->∀b∈fp,pU X pins H' b:=λhn b k=>⟨hn b k,(Y b k).2⟩
 refine codeAny_forLoop_any (λn U=>∃i j H',Inv X pins j H' U/\O i U.heap/\(∀b∈fp,H' b=none)/\W i n j H') ?_ m0 ⟨0,σ,H2,I2,fV,λb k=>(Y b k).1,w0⟩;rintro n S ⟨i,c,C,Z,Q,B,w3⟩;rcases turn i n c C w3 with ⟨stop,qn⟩|⟨go,N,hN,step⟩
 ·refine abv z (dF (T.done X rfl rfl rfl V i pins S c C X.xe Z (K B) Q stop) λr s4 t=>?_);obtain⟨G,I4⟩:=t;subst G;exact ab4 ⟨c,C,I4,qn⟩
 ·refine abv z (dF (T.item X rfl rfl rfl V i pins S c C X.xe Z (K B) Q go) λr s4 t=>?_);obtain⟨u,G,h4⟩:=t;subst G;refine abv z (dF h4 λ_ R t=>?_);obtain⟨x,H5,I5,r5,y5,L,XU⟩:=t;have YR:=I5.pinned (K XU) (T.obj _ _ L);refine abv z (dF (hg _ R c H5 x u _ YR r5 (step x H5 y5)) λ_ s6 t=>?_);obtain⟨E,H6,I6,q6⟩:=t;refine abv z (dF (k _ s6 E H6 _ I6 q6) λf F q=>?_);have again:∀{a:St} {p:Hp},Inv X (pins++jh fp R.heap) a p F->N a p->∃m,m<n/\∃i j H',Inv X pins j H' F/\O i F.heap/\(∀b∈fp,H' b=none)/\W i m j H':=λ{a p} l y=>by
   obtain⟨m',hm,w7⟩:=hN a p y;refine⟨m',hm,i+1,a,p,l.kJ,T.keep _ _ _ L λb k o e=>(l.pin (b,o) (aan _ (aan _ (iu k e)))).1,λb k=>?_,w7⟩;obtain⟨o,e,d⟩:=T.obj _ _ L b k;exact(l.pin (b,o) (aan _ (aan _ (iu k e)))).2.1
  cases f with
  |next=>obtain⟨a,p,l,y⟩:=q;exact again l y
  |cont=>obtain⟨a,p,l,y⟩:=q;exact again l y
  |brk=>obtain⟨a,p,l,q⟩:=q;exact⟨a,p,l.kJ,q⟩
  |ret v=>obtain⟨x7,a,p,l,r7,q⟩:=q;exact⟨x7,a,p,l.kJ,r7,q⟩
end
variable {K:av}{xs:ah}
theorem Ec{a:Addr}{g:TG}{k:TS}{D:Ends}{H:Hp}(b:Nat->St->Hp->Prop)(t:b 0 σ H)(r:∀i σ H,i<=xs.length->b i σ H->dW K H a xs)
  (hs:∀i x σ H,xs[i]?=some x->b i σ H->g x σ H λc j=>k { D with nx:=b (i+1),ct:=b (i+1),bk:=D.nx } c j) (hd:∀σ H,b xs.length σ H->D.nx σ H) :
  ∃W:Nat->Nat->St->Hp->Prop,(∃m,W 0 m σ H)/\∀i m σ H,W i m σ H ->
   ((O8 K a).stop i H/\D.nx σ H)\/((O8 K a).go i H/\∃N:St->Hp->Prop,(∀d f,N d f->∃l,l<m/\W (i+1) l d f)/\∀x f,(O8 K a).vN i H x f->g x σ f λc j=>k { D with nx:=N,ct:=N,bk:=D.nx } c j):=by
 refine⟨λi m σ H=>m=xs.length - i/\i<=xs.length/\b i σ H,⟨xs.length,by simp,aaZ _,t⟩,?_⟩;rintro i m σ H ⟨rfl,s,p⟩;have q:=r i σ H s p;by_cases n:i<xs.length
 ·refine .inr ⟨⟨xs,xs[i],q,by simp[n]⟩,b (i+1),λd f o=>⟨xs.length - (i+1),by left,rfl,n,o⟩,λx f y=>?_⟩;obtain⟨e,y⟩:=y;subst e;exact hs i x σ _ (y xs q) p
 ·have e:i=xs.length:=by left
  subst e;exact .inl ⟨⟨xs,q,aal _⟩,hd σ H p⟩
theorem Ik{a:Addr}{g:TG}{k:TS}{D:Ends}{H:Hp}(b:Nat->St->Hp->Prop)(t:b 0 σ H)(r:∀i σ H,i<=xs.length->b i σ H->a_ K H a xs)
  (hs:∀i x σ H,xs[i]?=some x->b i σ H->g x σ H λc j=>k { D with nx:=b (i+1),ct:=b (i+1),bk:=D.nx } c j) (hd:∀σ H,b xs.length σ H->D.nx σ H) :
  ∃W:Nat->Nat->St->Hp->Prop,(∃m,W 0 m σ H)/\∀i m σ H,W i m σ H ->
   ((O7 K a).stop i H/\D.nx σ H)\/((O7 K a).go i H/\∃N:St->Hp->Prop,(∀d f,N d f->∃l,l<m/\W (i+1) l d f)/\∀x f,(O7 K a).vN i H x f->g x σ f λc j=>k { D with nx:=N,ct:=N,bk:=D.nx } c j):=by
 refine⟨λi m σ H=>m=xs.length - i/\i<=xs.length/\b i σ H,⟨xs.length,by simp,aaZ _,t⟩,?_⟩;rintro i m σ H ⟨rfl,s,p⟩;have q:=r i σ H s p;by_cases n:i<xs.length
 ·refine .inr ⟨⟨xs,xs[i],q,by simp[n]⟩,b (i+1),λd f o=>⟨xs.length - (i+1),by left,rfl,n,o⟩,λx f y=>?_⟩;obtain⟨e,y⟩:=y;subst e;exact hs i x σ _ (y xs q) p
 ·have e:i=xs.length:=by left
  subst e;exact .inl ⟨⟨xs,q,aal _⟩,hd σ H p⟩
theorem AI{n:Nat}{g:TG}{k:TS}{D:Ends}{H:Hp}(c:Nat->St->Hp->Prop)(q:c 0 σ H)
  (hs:∀i σ H,i<n->c i σ H->g (.int (lo+i)) σ H λa j=>k { D with nx:=c (i+1),ct:=c (i+1),bk:=D.nx } a j) (hd:∀σ H,c n σ H->D.nx σ H) :
  ∃W:Nat->Nat->St->Hp->Prop,(∃m,W 0 m σ H)/\∀i m σ H,W i m σ H ->
   ((Bk lo n).stop i H/\D.nx σ H)\/((Bk lo n).go i H/\∃N:St->Hp->Prop,(∀b d,N b d->∃l,l<m/\W (i+1) l b d)/\∀x d,(Bk lo n).vN i H x d->g x σ d λa j=>k { D with nx:=N,ct:=N,bk:=D.nx } a j):=by
 refine⟨λi m σ H=>m=n - i/\i<=n/\c i σ H,⟨n,by simp,aaZ _,q⟩,?_⟩;rintro i m σ H ⟨rfl,r,p⟩;by_cases f:i<n
 ·refine .inr ⟨f,c (i+1),λb d o=>⟨n - (i+1),by left,rfl,f,o⟩,λx d y=>?_⟩;obtain⟨e,y⟩:=y;subst e y;exact hs i σ _ f p
 ·have e:i=n:=by left
  subst e;exact .inl ⟨aal _,hd σ H p⟩
end L2
namespace L2
open PySem PySem.Spec PyProof.Rows
abbrev R2:=V->V->Hp->VK->Prop
def nH(X:Cx)(f:Value->Value->Sem Value)(r:R2):Prop :=
 ∀(pins:ao) (s:Shared) (a:St) (H:Hp) (x y:V) (v u:Value) (Q:VK),Inv X pins a H s->RelV x v->RelV y u->r x y H Q ->
  wpAny (model X.prog X.w) X.A (f v u) (EP X pins a Q) X.xe s
def YI(X:Cx)(f:Value->Sem Value)(r:V->Hp->VK->Prop):Prop :=
 ∀(pins:ao) (s:Shared) (a:St) (H:Hp) (x:V) (v:Value) (Q:VK),Inv X pins a H s->RelV x v->r x H Q ->
  wpAny (model X.prog X.w) X.A (f v) (EP X pins a Q) X.xe s
def gv(X:Cx)(f:Value)(r:ah->Hp->VK->Prop):Prop :=
 ∀(pins:ao) (s:Shared) (a:St) (H:Hp) (xs:ah) (b:aw) (Q:VK),Inv X pins a H s->Vals xs b->r xs H Q ->
  wpAny (model X.prog X.w) X.A (call f b) (EP X pins a Q) X.xe s
def Jy(r:R2)(c b:TE):TE:=λa H Q=>c a H λx e=>b a e λy d=>r x y d Q
def tUn(r:V->Hp->VK->Prop)(b:TE):TE:=λa H Q=>b a H λx c=>r x c Q
def rI(C:Int->Int->Prop)(g:Int->Int->V):R2:=λx y H Q=>∃i j,x=.int i/\y=.int j/\C i j/\Q (g i j) H
def Cc(g:Int->Int->V):R2:=λx y H Q=>∃i j,x=.int i/\y=.int j/\Q (g i j) H
def rU(g:Int->V):V->Hp->VK->Prop:=λx H Q=>∃i,x=.int i/\Q (g i) H
section
variable {X:Cx}{a b c:Expr}{ta tb tc:TE}{pos:Pos}
theorem N_(q:PE X a ta)(p:PE X b tb){pins:ao}{s:Shared}{d:St}{H:Hp}{R:V->V->Hp->Prop}(I:Inv X pins d H s)
  (h:ta d H λx l=>tb d l λy e=>R x y e) {Q:au} {f:Value->Value->Sem Value}
  (hf:∀v u j x y e,Inv X pins d e j->RelV x v->RelV y u->R x y e->wpAny (model X.prog X.w) X.A (f v u) Q X.xe j) :
  wpAny (model X.prog X.w) X.A (eval a X.env) (λv i=>wpAny (model X.prog X.w) X.A (eval b X.env) (λu g=>wpAny (model X.prog X.w) X.A (f v u) Q X.xe g) X.xe i) X.xe s:=by
 refine dF (q pins s d H _ I h) λv m k=>?_;obtain⟨x,l,t,r1,q1⟩:=k;refine dF (p pins m d l _ t q1) λu j k=>?_;obtain⟨y,e,r,n,o⟩:=k;exact hf v u j x y e r r1 n o
theorem CA{op:Operator}{r:R2}(i:nH X (binaryOp op) r)(k:PE X a ta)(j:PE X b tb):PE X (.BinOp a op b pos) (Jy r ta tb):=by
 intro pins s d H Q I h;exact wpAny_BinOp (N_ k j I h λv u e x y m l g f q=>i pins e d m x y v u Q l g f q)
theorem QC{op:UnaryOp}{r:V->Hp->VK->Prop}(f:YI X (unaryOp op) r)(g:PE X a ta):PE X (.UnaryOp op a pos) (tUn r ta):=by
 intro pins s d H Q I h;exact UnaryOp_ (dF (g pins s d H _ I h) λv e ⟨x,j,i,r1,q1⟩=>f pins e d j x v Q i r1 q1)
theorem Ot{f:Value->Value->Sem Value}{C:Int->Int->Prop}{g:Int->Int->Int}
  (rule:∀(i j:Int) (t u:Tok) (s:Shared) (Q:au) (E:au),C i j->Q (.int (g i j) s.toks) { s with toks:=s.toks+1 }->wpAny (model X.prog X.w) X.A (f (.int i t) (.int j u)) Q E s) :
  nH X f (rI C λi j=>.int (g i j)):=by
 intro pins s m H x y v u Q I k e h;obtain⟨i,j,rfl,rfl,l,q⟩:=h;obtain⟨t,rfl⟩:=k;obtain⟨d,rfl⟩:=e;exact rule i j t d s _ _ l ⟨.int (g i j),H,I.tok _,⟨_,rfl⟩,q⟩
theorem VY{f:Value->Value->Sem Value}{g:Int->Int->Int}
  (rule:∀(i j:Int) (t u:Tok) (s:Shared) (Q:au) (E:au),Q (.int (g i j) s.toks) { s with toks:=s.toks+1 }->wpAny (model X.prog X.w) X.A (f (.int i t) (.int j u)) Q E s) :
  nH X f (Cc λi j=>.int (g i j)):=by
 intro pins s l H x y v u Q I k e h;obtain⟨i,j,rfl,rfl,q⟩:=h;obtain⟨t,rfl⟩:=k;obtain⟨d,rfl⟩:=e;exact rule i j t d s _ _ ⟨.int (g i j),H,I.tok _,⟨_,rfl⟩,q⟩
theorem Hq{f:Value->Value->Sem Value}{g:Int->Int->Bool}
  (rule:∀(i j:Int) (t u:Tok) (s:Shared) (Q:au) (E:au),Q (.bool (g i j)) s->wpAny (model X.prog X.w) X.A (f (.int i t) (.int j u)) Q E s) :
  nH X f (Cc λi j=>.bl (g i j)):=by
 intro pins s l H x y v u Q I k e h;obtain⟨i,j,rfl,rfl,q⟩:=h;obtain⟨t,rfl⟩:=k;obtain⟨d,rfl⟩:=e;exact rule i j t d s _ _ ⟨.bl (g i j),H,I,rfl,q⟩
theorem Ma:nH X (binaryOp .Add) (Cc λi j=>.int (i+j)):=VY λ_ _ _ _ _ _ _ q=>add_int q
theorem Hm:nH X (binaryOp .Mod) (rI (λ_ j=>j≠0) λi j=>.int (i.fmod j)):=Ot λ_ _ _ _ _ _ _ d q=>mod_int' d q
theorem unI{f:Value->Sem Value}{g:Int->Int}
  (rule:∀(i:Int) (t:Tok) (s:Shared) (Q:au) (E:au),Q (.int (g i) s.toks) { s with toks:=s.toks+1 }->wpAny (model X.prog X.w) X.A (f (.int i t)) Q E s) :
  YI X f (rU λi=>.int (g i)):=by
 intro pins s e H x v Q I d h;obtain⟨i,rfl,q⟩:=h;obtain⟨t,rfl⟩:=d;exact rule i t s _ _ ⟨.int (g i),H,I.tok _,⟨_,rfl⟩,q⟩
theorem K8:YI X (unaryOp .USub) (rU λi=>.int (-i)):=unI λ_ _ _ _ _ q=>neg_int q
end
variable {us:aw}
section
variable {X:Cx}{a b c:Expr}{ta tb tc:TE}{pos:Pos}
theorem QF:nH X (compareOp .Lt) (Cc λi j=>.bl (decide (i<j))):=Hq λ_ _ _ _ _ _ _ q=>lt_int q
theorem QG:nH X (compareOp .LtE) (Cc λi j=>.bl (decide (i<=j))):=Hq λ_ _ _ _ _ _ _ q=>le_int q
theorem QH:nH X (compareOp .Gt) (Cc λi j=>.bl (decide (j<i))):=Hq λ_ _ _ _ _ _ _ q=>gt_int q
theorem QI:nH X (compareOp .GtE) (Cc λi j=>.bl (decide (j<=i))):=Hq λ_ _ _ _ _ _ _ q=>ge_int q
theorem nH.or{f:Value->Value->Sem Value}{r i:R2}(h:nH X f r)(h':nH X f i):nH X f (λx y H Q=>r x y H Q\/i x y H Q):=by
 intro pins s d H x y v u Q I g e q;rcases q with q|q
 ·exact h pins s d H x y v u Q I g e q
 ·exact h' pins s d H x y v u Q I g e q
theorem CT(b:Expr){op:CmpOp}(h:op≠.In:=by decide)(d:op≠.NotIn:=by decide):behindInMarks op b=false:=by
 have e1:(op==CmpOp.In)=false:=by cases op<;>first|rfl|exact absurd rfl h
 have e2:(op==CmpOp.NotIn)=false:=by cases op<;>first|rfl|exact absurd rfl d
 cases b<;>simp[behindInMarks,e1,e2]
theorem yy{op:CmpOp}{r:R2}(i:nH X (compareOp op) r)(l:PE X a ta)(k:PE X b tb)(j:behindInMarks op b=false):PE X (.Compare a [op] [b] pos) (Jy r ta tb):=by
 intro pins s d H Q I h;exact wpAny_Compare1 (N_ l k I h λv u e x y n m g f q=>i pins e d n x y v u Q m g f q) j
def Jx(t:TE):TT:=λd H Q=>t d H λx e=>∃k,x=.bl k/\Q k e
theorem yp{op:CmpOp}{r:R2}(n:nH X (compareOp op) r)(q:PE X a ta)(p:PE X b tb)(o:behindInMarks op b=false):PT X (.Compare a [op] [b] pos) (Jx (Jy r ta tb)):=by
 intro pins s d H Q I h;refine wpAny_isTrue_Compare1 (dF (q pins s d H _ I h) λv g ⟨x,D,A,r1,q1⟩=>dF (p pins g d D _ A q1) λu f ⟨y,C,w,j,m⟩ =>
  dF (n pins f d C x y v u _ w r1 j m) λc E ⟨z,B,t,i,k,e,l⟩=>?_) o
 subst e;cases i;exact abj ⟨B,t,l⟩
theorem wQ:(sizeLine:Nat)<2 ^ 63:=by rw[sizeLine_eq];decide
theorem vals1{x:V}(r:Vals [x] us):∃u,us=[u]/\RelV x u:=by
 cases r with
 |cons r1 d=>cases d;exact⟨_,rfl,r1⟩
theorem vals2{x y:V}(r:Vals [x,y] us):∃u d,us=[u,d]/\RelV x u/\RelV y d:=by
 cases r with
 |cons r1 g =>
  cases g with
  |cons f e=>cases e;exact⟨_,_,rfl,r1,f⟩
theorem ET:gv X (.builtin "abs") (λd H Q=>∃i,d=[.int i]/\Q (.int (if i<0 then -i else i)) H):=by
 intro pins s e H d us Q I r h;obtain⟨i,rfl,q⟩:=h;obtain⟨u,rfl,t,rfl⟩:=vals1 r;exact call_abs_int λu tk=>⟨.int (if i<0 then -i else i),H,I.tok _,⟨_,rfl⟩,q⟩
theorem AZ:gv X (.type "int") (λd H Q=>(∃i,d=[.int i]/\Q (.int i) H)\/∃k,d=[.bl k]/\Q (.int (if k then 1 else 0)) H):=by
 intro pins s e H d us Q I r h;rcases h with ⟨i,rfl,q⟩|⟨k,rfl,q⟩
 ·obtain⟨u,rfl,t,rfl⟩:=vals1 r;exact call_int_int ⟨.int i,H,I,⟨_,rfl⟩,q⟩
 ·obtain⟨u,rfl,r1⟩:=vals1 r;cases r1;exact call_int_bool ⟨.int (if k then 1 else 0),H,I.tok _,⟨_,rfl⟩,q⟩
end
end L2
namespace L2
open PySem PySem.Spec PyProof.Rows
section
variable {prog:aC}{w:World}{A:aB}{E:au}{s:Shared}{K:av}{x dx C f:Addr}{mA:aU}{name:Str}{v:Value}
end
theorem qu.some_of{v:V}{o:Option Value}(r:qu (some v) o):∃u,o=some u/\RelV v u:=by
 cases o with
 |none=>exact(show False from r).elim
 |some u=>exact⟨u,rfl,r⟩
theorem qu.none_of{o:Option Value}(r:qu none o):o=none:=by
 cases o with
 |none=>rfl
 |some u=>exact(show False from r).elim
section
variable {P:aC}{w:World}{H H':Hp}{h h':Heap}{a C dx:Addr}{fs fs':List (Str×V)}
end
structure O9(K:av)(C:Addr):Prop where
 pg:PySem.W.plainGet K C Str.empty=true
 hd:PySem.W.hasDictIn K C=true
 po:PySem.W.plainOver K C=true
 sa:PySem.W.findIn K (.ref C) "__setattr__" = some (some (.builtin "object.__setattr__"))
section
variable {X:Cx}{pins:ao}{σ:St}{H:Hp}{s:Shared}{a C dx:Addr}{fs:List (Str×V)}{f:Str}{v:V}{A:aB}{E:au}
end
section
variable {X:Cx}{o e value:Expr}{f:Str}{pos pos' aa7:Pos}{ta tv:TE}
end
section
variable {X:Cx}{pins:ao}{σ:St}{H:Hp}{s:Shared}{A:aB}{E:au}{Q:au}{c:Value}{b:Bool}
end
end L2
namespace L2
open PySem PySem.Spec PyProof.Rows
structure fY(k:Nat)(A:aB):Prop where
 hd:A.handled=none
 dp:A.depth+3*k+5<recursionLimit
 un:A.units+16*k+200<cLine
variable {A:aB}
theorem fY.mono{j k:Nat}(r:fY k A)(h:j<=k):fY j A:=⟨r.hd,by have:=r.dp;left,by have:=r.un;left⟩
theorem fY.deeper{k:Nat}{A:aB}(r:fY (k+1) A)(env:Env):fY k (A.deeper env) :=
 ⟨r.hd,by have:=r.dp;show A.depth+1+3*k+5<_;left,by have:=r.un;show A.units+3+16*k+200<_;left⟩
theorem fY.depth{k:Nat}{A:aB}(r:fY k A):A.depth<recursionLimit:=by have:=r.dp;left
theorem fY.units{k:Nat}{A:aB}(r:fY k A):A.units+64<cLine:=by have:=r.un;left
def Ld:TA:=λ_ H Q=>Q [] H
def BJ(d:TE)(c:TA):TA:=λa H Q=>d a H λx f=>c a f λb e=>Q (x::b) e
section
variable {X:Cx}{e:Expr}{es:aq}{te:TE}{t:TA}{pos:Pos}
theorem dB:PA X [] Ld:=λ_ _ _ _ H Q I h=>acK ⟨[],H,I,.nil,h⟩
theorem cc(i:PE X e te)(g:PA X es t)(hs:starEach (e::es) X.env=(false,eval e X.env)::starEach es X.env:=by rfl):PA X (e::es) (BJ te t):=by
 intro pos pins s a H Q I h;rw[hs];show wpAny _ _ (spliced ((false,eval e X.env)::backTo pos (starEach es X.env))) _ _ s;refine acF (dF (i pins s a H _ I h) λu c j=>?_);obtain⟨x,n,l,r1,q1⟩:=j;exact dF (g pos pins c a n _ l q1) λo p ⟨b,m,k,d,f⟩=>⟨x::b,m,k,.cons r1 d,f⟩
def U4(t:TA):TE:=λc H Q=>t c H λa b=>a.length<=sizeLine/\∀p,b p=none->Q (.ref p) (upd b p (.tup a))
def U9(t:TA):TE:=λc H Q=>t c H λa b=>a.length<=sizeLine/\∀p,b p=none->Q (.ref p) (upd b p (.lst a))
theorem LX{x1}(h:PA X es t):PE X (.Tuple es x1 pos) (U4 t):=by
 intro pins s f H Q I j;refine wpAny_Tuple_spliced (dF (h pos pins s f H _ I j) λi a ⟨g,d,c,r,z,q⟩=>⟨by rw[<- r.length];exact z,?_⟩);have k:d a.heap.objs.size=none:=c.cJ.fresh (aal _);refine⟨.ref a.heap.objs.size,upd d a.heap.objs.size (.tup g),c.laid (t':=a.toks) (λb u e=>aai _ e) (aal _) ?_,rfl,q _ k⟩;exact⟨z,i,r,⟨_,aaD _ rfl,rfl,_,rfl⟩⟩
theorem se(h:PA X es t):PE X (.List es pos) (U9 t):=by
 intro pins s f H Q I j;refine wpAny_List_spliced (dF (h pos pins s f H _ I j) λi a ⟨g,d,c,r,z,q⟩=>⟨by rw[<- r.length];exact z,?_⟩);have k:d a.heap.objs.size=none:=c.cJ.fresh (aal _);refine⟨.ref a.heap.objs.size,upd d a.heap.objs.size (.lst g),c.laid (t':=a.toks) (λb u e=>aai _ e) (aal _) ?_,rfl,q _ k⟩;exact⟨z,i,0,r,aaD _ rfl⟩
end
abbrev Sp:=ah->Hp->VK->XK->Prop
abbrev vX:=List Env->Hp->Shared->XK->au
structure Jq(P:aC)(w:World)(K:av)(mg:aU)(base:Heap)(A:aB)(outer:List Env)(s:Shared)(H:Hp):Prop where
 frames:A.frames=some outer
 mod:Mod K mg base
 bs:∀b o,base.get? b=some o->s.heap.get? b=some o/\H b=none
 EX:base.objs.size<=s.heap.objs.size
 kg:s.heap.FunFrames base outer
 Bj:∀b∈mn outer,H b=none
 cJ:jM H s.heap
 bare:AllBare s.gens
def CE(outer:List Env)(P:aC)(w:World)(H:Hp)(s:Shared)(Q:VK)(u:Value)(s':Shared):Prop :=
 ∃v a,s'.os=s.os/\AllBare s'.gens/\Un (mn outer) [] H a s.heap s'.heap/\jM a s'.heap/\RelV v u/\Q v a
def CR(CX:vX)(outer:List Env)(P:aC)(w:World)(H:Hp)(s:Shared)(Q:VK)(E:XK)(r:Result)(s':Shared):Prop :=
 match r with
 |.ok (.ret u)=>CE outer P w H s Q u s'
 |.ok _=>False
 |.error e=>CX outer H s E e s'
structure dq(P:aC)(w:World)(K:av)(mg:aU)(base:Heap)(CX:vX)(k:Nat)(f:Addr)(fd:FuncData)(ps:ak)(sp:Sp):Prop where
 len:∀vs H Q E,sp vs H Q E->vs.length=ps.length
 run:∀(A:aB) (outer:List Env) (s:Shared) (H:Hp) (args:Args) (us:aw) (vs:ah) (Q:VK) (E:XK),fY k A->Jq P w K mg base A outer s H->BindsTo s fd args (ps.zip us)->Vals vs us->sp vs H Q E ->
  codeAny (model P w) A (.call (.ref f) args) (CR CX outer P w H s Q E) s
theorem dq.mono{P:aC}{w:World}{K:av}{mg:aU}{base:Heap}{CX:vX}{j k:Nat}{f:Addr}{b:FuncData}{a:ak}{sp:Sp}(F:dq P w K mg base CX j f b a sp)(h:j<=k):
  dq P w K mg base CX k f b a sp:=⟨F.len,λA outer s H args d c Q E e=>F.run A outer s H args d c Q E (e.mono h)⟩
variable {Q:VK}
section
variable {X:Cx}{pins:ao}{σ:St}{H:Hp}{s s':Shared}
theorem Inv.X9(I:Inv X pins σ H s):Jq X.prog X.w X.K X.mg X.base X.A X.stack s H :=
 ⟨I.ok.frames,I.ok.mod,I.bs,aaR I.ok.EX I.sz,I.stack,I.kL,I.cJ,I.bare⟩
theorem Inv.after{u:Value}(I:Inv X pins σ H s)(h:CE X.stack X.prog X.w H s Q u s'):EP X pins σ Q u s':=by
 obtain⟨v,i,a,bare,un,e,r,q⟩:=h;obtain⟨c,g,d,t,f⟩:=s';obtain rfl:f=s.os:=a;exact⟨v,i,I.call (h':=c) (g':=g) (d':=d) (t':=t) (ch:=[]) un e bare (λb z=>absurd z (by simp)),r,q⟩
end
def PY(sp:Sp)(fP:ah)(E:XK)(t:TA):TE:=λa H Q=>t a H λb c=>sp (b++fP) c Q E
def Binds(K:av)(c:FuncData)(b:ak)(ds:aw):Prop :=
 ∀(s:Shared) (a:aw),K.In s.heap->(a++ds).length=b.length->BindsTo s c ⟨a,[]⟩ (b.zip (a++ds))
variable {K:av}{ps:ak}
theorem Binds.all{c:FuncData}(h:∀a:aw,a.length=ps.length->bindArgs c ⟨a,[]⟩=pure (ps.zip a)):Binds K c ps []:=λs a _ b=>by
 rw[List.append_nil]at b ⊢;exact .of_eq (h a b)
def Passes(CX:vX)(X:Cx)(E:XK):Prop:=∀(pins:ao) (a:St) (H:Hp) (s:Shared) (e:Value) (s':Shared),Inv X pins a H s->CX X.stack H s E e s'->X.xe e s'
variable {us:aw}{vs:ah}
section
variable {X:Cx}{CX:vX}{k:Nat}{f C:Addr}{fd:FuncData}{ps:ak}{sp:Sp}{fP:ah}{ds:aw}{E:XK}{x m:Str}{p pos apos:Pos}{e o:Expr}{es:aq}{ta:TE}{t:TA}
theorem LH{pins:ao}{b:St}{H:Hp}{s:Shared}(F:dq X.prog X.w X.K X.mg X.base CX k f fd ps sp)(i:fY k X.A)(l:Binds X.K fd ps ds)(hd:Vals fP ds)(g:Passes CX X E)
  (I:Inv X pins b H s) (r:Vals vs us) (h:sp (vs++fP) H Q E):wpAny (model X.prog X.w) X.A (call (.ref f) us) (EP X pins b Q) X.xe s:=by
 have c:Vals (vs++fP) (us++ds):=r.append hd;have j:(us++ds).length=ps.length:=by rw[<- c.length];exact F.len _ _ _ _ h
 refine wpAny_call (ab5 (F.run X.A X.stack s H ⟨us,[]⟩ (us++ds) (vs++fP) Q E i I.X9 (l s us I.Dt j) c h) λr d a=>?_);cases r with
 |error e=>exact g pins b H s e d I a
 |ok n =>
  cases n with
  |ret u=>exact I.after a
  |next=>exact False.elim a
  |brk=>exact False.elim a
  |cont=>exact False.elim a
theorem nV(F:dq X.prog X.w X.K X.mg X.base CX k f fd ps sp)(d:fY k X.A)(j:Gl X x)(g:X.mg x=some (.ref f))(i:PySem.W.keepIn X.K (.ref f)=true)(l:Binds X.K fd ps ds)(hd:Vals fP ds)(c:Passes CX X E)
  (n:PA X (e::es) t) (u:(x==("__debug__" : Str))=false:=by decide) (he:starEach (e::es) X.env=(false,eval e X.env)::starEach es X.env:=by rfl) (hpl:(backTo pos (starEach es X.env)).any (·.1)=false:=by rfl) :
  PE X (.Call (.Name x p) (e::es) [] pos) (PY sp fP E t):=by
 intro pins s b H Q I h;refine abt (sE I j g ?_ u);refine PySem.W.callWith_K (h₀:=X.base) I.ok.mod.V9 i (dF (n pos pins s b H _ I h) λus v ⟨vs,y,a,r,q⟩=>⟨a.Dt,?_⟩) he hpl;exact LH F d l hd c a r q
end
section
variable {X:Cx}{CX:vX}{k:Nat}{f C:Addr}{fd:FuncData}{ps ks:ak}{sp:Sp}{E:XK}{x m:Str}{p pos apos abL:Pos}{e o:Expr}{es:aq}{kws:List Keyword}{te ta:TE}{t tk:TA}{nm:Option Str}
variable {g:aw->aw->aw}{gV:ah->ah->ah}
end
structure eE(N P:ak)(sc:Scope):Prop where
 kind:sc.kind=.function
 co:sc.isCoroutine=false
 gen:sc.isGenerator=false
 nd:N.Nodup
 pre:N.take P.length=P
 par:∀x∈P,sc.names.lookup x=some .local\/sc.names.lookup x=some .cell
 Mf:∀y∈sc.names,y.2≠.free
theorem rn{kindOf:Str->Option NameKind}{x:Str}:∀{binds:List (Str×Value)} {m:aU},(∀v,(x,v)∉binds)->bindL kindOf binds m x=m x
 |[],_,_=>rfl
 | (n,v)::r,m,h=>by
  unfold bindL;rw[rn λw hw=>h w (List.mem_cons_of_mem _ hw)];split
  ·have:x≠n:=by rintro rfl;exact h v aaf
   simp[this]
  ·rfl
theorem rq{kindOf:Str->Option NameKind}{x:Str}:∀{binds:List (Str×Value)} {m:aU},(∀v,(x,v)∉binds)->bindC kindOf binds m x=m x
 |[],_,_=>rfl
 | (n,v)::r,m,h=>by
  unfold bindC;rw[rq λw hw=>h w (List.mem_cons_of_mem _ hw)];split
  ·rfl
  ·have:x≠n:=by rintro rfl;exact h v aaf
   simp[this]
theorem ro{kindOf:Str->Option NameKind}{x:Str}{v:Value}:∀{P:ak} {vs:aw} {i:Nat} {m:aU},P.Nodup->P[i]?=some x->vs[i]?=some v->kindOf x=some .local ->
  bindL kindOf (P.zip vs) m x=some v
 |[],_,_,_,_,h,_,_=>by simp at h
 |_::_,[],_,_,_,_,h,_=>by simp at h
 |p::P,w::vs,0,m,nd,h1,h2,hk=>by
  simp at h1 h2;subst h1;subst h2;show bindL kindOf ((p,w)::P.zip vs) m p=_;unfold bindL;rw[rn λv a=>(List.nodup_cons.mp nd).1 (List.of_mem_zip a).1,if_pos hk];simp
 |p::P,w::vs,i+1,m,nd,h1,h2,hk=>by
  show bindL kindOf ((p,w)::P.zip vs) m x=_;unfold bindL;exact ro (i:=i) (List.nodup_cons.mp nd).2 (by simpa using h1) (by simpa using h2) hk
theorem rA{kindOf:Str->Option NameKind}{x:Str}{v:Value}:∀{P:ak} {vs:aw} {i:Nat} {m:aU},P.Nodup->P[i]?=some x->vs[i]?=some v->kindOf x≠some .local ->
  bindC kindOf (P.zip vs) m x=some v
 |[],_,_,_,_,h,_,_=>by simp at h
 |_::_,[],_,_,_,_,h,_=>by simp at h
 |p::P,w::vs,0,m,nd,h1,h2,hk=>by
  simp at h1 h2;subst h1;subst h2;show bindC kindOf ((p,w)::P.zip vs) m p=_;unfold bindC;rw[rq λv a=>(List.nodup_cons.mp nd).1 (List.of_mem_zip a).1,if_neg hk];simp
 |p::P,w::vs,i+1,m,nd,h1,h2,hk=>by
  show bindC kindOf ((p,w)::P.zip vs) m x=_;unfold bindC;exact rA (i:=i) (List.nodup_cons.mp nd).2 (by simpa using h1) (by simpa using h2) hk
noncomputable def start(N:ak)(vs:ah):St:=vs.map some++List.replicate (N.length - vs.length) none
noncomputable def iU(CX:vX)(P:aC)(w:World)(K:av)(mg:aU)(base:Heap)(N:ak)(qual:Str)(scope:Scope)(f:Addr)(a:Value)(A:aB)(outer:List Env)(s:Shared)(H:Hp)(E:XK):Cx where
 prog:=P
 w:=w
 K:=K
 mg:=mg
 base:=base
 A:=A.deeper (envOfC qual scope s.heap.objs.size f a)
 N:=N
 s₀:=s
 H₀:=H
 env:=envOfC qual scope s.heap.objs.size f a
 outer:=outer
 stack:=envOfC qual scope s.heap.objs.size f a::outer
 ex:=[]
 calm:=true
 fn:=λ_=>true
 pn:=[]
 xe:=λe c=>wpAny (model P w) (A.deeper (envOfC qual scope s.heap.objs.size f a)) (leaving (envOfC qual scope s.heap.objs.size f a) e) (λ_ b=>CX outer H s E e b) (λd b=>CX outer H s E d b) c
theorem vt{sc:Scope}{n:Nat}{x:Str}(h:sc.names.lookup x=some .cell):∃c,(cellsFrom n sc.names []).lookup x=some c:=by
 have q:=PySem.W.cellsFrom_some sc.names n [] (.inl h);exact Option.isSome_iff_exists.mp q
variable {P:aC}{base:Heap}{f:Addr}{mg:Str->Option Value}{qual:Str}{scope:Scope}{w:World}
theorem Ao{CX:vX}{N:ak}{o:Value}{outer:List Env}{s B:Shared}{H:Hp}{E:XK}  
  (S:eE N ps scope) (hd:A.handled=none) (e0:Jq P w K mg base A outer s H) (L:vs.length=ps.length) (r:Vals vs us)
  (x:InCallC s s.heap.objs.size (bindL (envOfC qual scope s.heap.objs.size f o).kindOf (ps.zip us) λ_=>none) (cellsFrom (s.heap.objs.size+1) scope.names []) (bindC (envOfC qual scope s.heap.objs.size f o).kindOf (ps.zip us) λ_=>none) B) :
  Inv (iU CX P w K mg base N qual scope f o A outer s H E) [] (start N vs) H B:=by
 have I:ps.length<=N.length:=by have:=aa5 List.length S.pre;rw[List.length_take]at this;left
 obtain⟨m,tk,rfl,D⟩:=x.done;have t:∀b:Addr,b∉(iU CX P w K mg base N qual scope f o A outer s H E).ex:=λb z=>absurd (show b∈([]:aX) from z) (by simp);refine⟨⟨e0.mod,S.kind,rfl,rfl,aal _,λy z c m d=>?_,λy g=>?_,λy c _ h=>?_,λ_=>hd,Around.frames_deeper e0.frames,.inr ⟨rfl,rfl⟩,λb z=>absurd z (t b),e0.bs,e0.EX,λb _ _=>t b,λb z=>absurd z (t b),e0.kg,e0.Bj⟩,
  rfl,e0.bare,Un.kept D,⟨_,x.toInCall.ns,λi y v m d M=>?_⟩,λy c h=>⟨_,x.cell y c h⟩,e0.cJ.fresh (aal _),λy c h=>?_,λp j=>absurd (show p∈([]:ao) from j) (by simp),e0.cJ.kept D,?_⟩
 ·exact name_of_addr x.apart (abn m) (abn d)
 ·have g:scope.names.lookup y=some .cell\/scope.names.lookup y=some .free:=g;rcases g with g|g
  ·exact vt g
  ·exact absurd rfl (S.Mf _ (abn g))
 ·exact Nat.le_of_lt (x.above y c (abn h))
 ·have l:i<vs.length:=by
   unfold start at d;by_cases l:i<vs.length
   ·exact l
   ·rw[List.getElem?_append_right (by simpa using l)]at d;rw[List.getElem?_replicate]at d;split at d<;>cases d
  have J:vs[i]?=some v:=by
   unfold start at d;rw[List.getElem?_append_left (by simpa using l),List.getElem?_map]at d;cases e:vs[i]? with
   |none=>rw[e]at d;cases d
   |some a=>rw[e]at d;cases d;rfl
  obtain⟨u,C,G⟩:=r.get J;have j:ps[i]?=some y:=by
   rw[<- S.pre,List.getElem?_take_of_lt (by left)];exact m
  have F:ps.Nodup:=by rw[<- S.pre];exact S.nd.sublist (List.take_sublist _ _)
  refine⟨u,G,?_⟩;rcases S.par y (aaJ j)with k|k
  ·exact .inl ⟨k,ro F j C k⟩
  ·obtain⟨c,e⟩:=vt (n:=s.heap.objs.size+1) k;refine .inr ⟨.inl k,c,e,?_⟩;have q:=x.cell y c e;rw[rA F j C (by show scope.names.lookup y≠_;rw[k];decide)]at q;exact q
 ·exact e0.cJ.fresh (Nat.le_of_lt (x.above y c (abn h)))
 ·unfold start;show _=N.length;rw[List.length_append,List.length_map,List.length_replicate];left
theorem Ko{CX:vX}{k:Nat}{name:Str}{params:Arguments}{body:aO}{C B g z c ct oc:Value}{D L:Option Addr}
  {CH:Array (Option Value)} {N:ak} {sp:Sp} (M:K.lookup f=some ⟨oc,L,.func (PySem.W.fnOf name qual params body scope C B g z D c ct),CH⟩) (G:PySem.W.codeIn K c qual=true) (S:eE N ps scope)
  (len:∀vs H Q E,sp vs H Q E->vs.length=ps.length)
  (F:∀(A:aB) (outer:List Env) (s:Shared) (H:Hp) (vs:ah) (Q:VK) (E:XK),fY k (A.deeper (envOfC qual scope s.heap.objs.size f c))->sp vs H Q E ->
   ∃t,iY (iU CX P w K mg base N qual scope f c A outer s H E) body t/\t { nx:=λ_ H'=>Q .cF H',rt:=Q } (start N vs) H) :
  dq P w K mg base CX (k+1) f (PySem.W.fnOf name qual params body scope C B g z D c ct) ps sp:=by
 refine⟨len,λA outer s H args us vs Q E l e0 Y r m=>?_⟩;have U:=len _ _ _ _ m;have KX:K.In s.heap:=e0.mod.V9.keeps λb o e=>(e0.bs b o e).1;have j:s.heap.NoLimit:=e0.mod.nolimit.keeps λb o e=>(e0.bs b o e).1;have RC:∀y∈ps.zip us,scope.names.lookup y.1=some .local\/(scope.names.lookup y.1=some .cell/\((cellsFrom (s.heap.objs.size+1) scope.names []).lookup y.1).isSome=true):=λ⟨n,v⟩ O=>by
  rcases S.par n (List.of_mem_zip O).1 with q|q
  ·exact .inl q
  ·exact .inr ⟨q,PySem.W.cellsFrom_some _ _ _ (.inl q)⟩
 refine codeAny_call_function l.depth (KX _ _ M) rfl S.co S.gen rfl (PySem.W.codeRec_of KX G) (Y _ _ _ _ ?_);refine wpAny_newFunctionEnv_cells S.kind RC λenv X p x=>?_;subst X;refine⟨j.keeps x.toInCall.keep,codeAny_func ?_⟩;obtain⟨t,R,T⟩:=F A outer s H vs Q E (l.deeper _) m;have I:Inv (iU CX P w K mg base N qual scope f c A outer s H E) [] (start N vs) H p:=Ao S l.hd e0 U r x;refine aaL (R [] p (start N vs) H _ I T) (λZ h d=>?_) λe h d=>d;have fin:∀{a:St} {H':Hp} {v:V} {u:Value},Inv (iU CX P w K mg base N qual scope f c A outer s H E) [] a H' h->RelV v u->Q v H'->CE outer P w H s Q u h :=
  λ{a H' v u} J i q=>⟨v,H',J.os,J.bare,J.base,J.cJ,i,q⟩
 cases Z with
 |ret u =>
  obtain⟨v,a,H',J,i,q⟩:=d;exact fin J i q
 |next =>
  obtain⟨a,H',J,q⟩:=d;exact fin (v:=V.cF) (u:=Value.none) J rfl q
 |brk =>
  obtain⟨_,_,_,q⟩:=d;exact False.elim q
 |cont =>
  obtain⟨_,_,_,q⟩:=d;exact False.elim q
end L2
namespace L2
open PySem PySem.Spec PyProof.Rows
section
variable {X:Cx}{x:Str}{p pos:Pos}{e:Expr}{es:aq}{t:TA}{id T:String}{r:ah->Hp->VK->Prop}
def PZ(r:ah->Hp->VK->Prop)(t:TA):TE:=λa H Q=>t a H λb c=>r b c Q
theorem dZ(k:gv X (.builtin id) r)(j:Gl X x)(i:X.mg x=none)(f:bootBuiltins x=some (.builtin id))(l:PA X (e::es) t)(g:x ≠ "__name__":=by decide)(m:(x==("__debug__" : Str))=false:=by decide)
  (he:starEach (e::es) X.env=(false,eval e X.env)::starEach es X.env:=by rfl) (hpl:(backTo pos (starEach es X.env)).any (·.1)=false:=by rfl):PE X (.Call (.Name x p) (e::es) [] pos) (PZ r t):=by
 intro pins s a H Q I h;refine abt (iz I j i f ?_ g m);exact PyProof.Rows.callWith_builtin1 (dF (l pos pins s a H _ I h) λc d ⟨b,o,n,r1,q1⟩=>k pins d a o b c Q n r1 q1) he hpl
theorem lZ(k:gv X (.type T) r)(j:Gl X x)(i:X.mg x=none)(f:bootBuiltins x=some (.type T))(l:PA X (e::es) t)(g:x ≠ "__name__":=by decide)(m:(x==("__debug__" : Str))=false:=by decide)
  (he:starEach (e::es) X.env=(false,eval e X.env)::starEach es X.env:=by rfl) (hpl:(backTo pos (starEach es X.env)).any (·.1)=false:=by rfl):PE X (.Call (.Name x p) (e::es) [] pos) (PZ r t):=by
 intro pins s a H Q I h;refine abt (iz I j i f ?_ g m);exact aaW (dF (l pos pins s a H _ I h) λc d ⟨b,o,n,r1,q1⟩=>k pins d a o b c Q n r1 q1) he hpl
end
end L2
namespace HT
open PySem PyProof.Rows
noncomputable def lexLt:ae->ae->Bool
 |[],[]=>false
 |[],_::_=>true
 |_::_,[]=>false
 |x::xs,y::ys=>if x=y then lexLt xs ys else decide (x<y)
theorem dM(x y:Int)(xs ys:ae):lexLt (x::xs) (y::ys)=if x=y then lexLt xs ys else decide (x<y):=rfl
theorem jX:lexLt [] []=false:=rfl
theorem oX(y:Int)(ys:ae):lexLt [] (y::ys)=true:=rfl
theorem di(x:Int)(xs:ae):lexLt (x::xs) []=false:=rfl
theorem va(A:aB)(s:Shared)(a:Int)(t:Tok)(c:Int)(u:Tok):∃e,SeqAt.EqAt A s (.int a t) (.int c u) e/\(e=true ↔ a=c) :=
 ⟨(a==c),acG a t c u,by simp⟩
theorem B_(A:aB)(s:Shared)(a:Int)(t:Tok)(c:Int)(u:Tok)(prog:aC)(w:World)(E:au)(Q:au)(h:Q (.bool (decide (a<c))) s):
  wpAny (model prog w) A (richCompare .Lt (.int a t) (.int c u)) Q E s :=
 (PyProof.Rows.lt_int h:wpAny (model prog w) A (compareOp .Lt (.int a t) (.int c u)) Q E s)
section
open PySem.SeqAt
open PySem.AutoSeq1 (wpAny_loadPart')
open PySem.MeetsSeq PySem.MeetsSeq2 PySem.MeetsSeq3
theorem jW(l b:Addr)(items j:bg)(n L:Nat)(dd I:Option Addr)(K J:Array (Option Value))(ns r:ae)(G:IntsAre items.toList ns)(F:IntsAre j.toList r):
  Meets (Builtin.«tuple.__lt__» ⟨[.ref l,.ref b],[]⟩)
   (λ_ R s=>s.heap.get? l=some { cls:=.type "tuple",dict:=dd,data:=.seq items n,slots:=K }/\s.heap.get? b=some { cls:=.type "tuple",dict:=I,data:=.seq j L,slots:=J } /\
    R (.ok (.ret (.bool (lexLt ns r)))) s) :=
 .of_wp λprog w A R s h=>by
  obtain⟨v,g,d,tk,p⟩:=s;obtain⟨M,O,h⟩:=h;have T:=AutoSeq1.sub_tuple_tuple;have S:items.size=ns.length:=by rw[<- G.length];simp
  have Q:j.size=r.length:=by rw[<- F.length];simp
  wp_walk using wpAny_loadPart' M,wpAny_loadPart' O,wpAny_forIn_list _ (λrest b C=>b.1=none/\C=⟨v,g,d,tk,p⟩/\∃(vs ws:aw) (i k:ae),rest=vs.zip ws /\
   IntsAre vs i/\IntsAre ws k/\i.length+j.size=k.length+items.size/\R (.ok (.ret (.bool (lexLt i k)))) ⟨v,g,d,tk,p⟩) _
  case turn =>
   rintro ⟨y,x⟩ rest b C ⟨B,rfl,vs,ws,i,k,f,D,z,hlen,hR⟩;cases D with
   |nil=>rw[List.zip_nil_left]at f;cases f
   |cons a t o =>
    cases z with
    |nil=>rw[List.zip_nil_right]at f;cases f
    |cons c u m =>
     rw[List.zip_cons_cons]at f;injection f with Wr DL
     injection Wr with hy hx
     subst hy hx;rw[dM]at hR;simp only[List.length_cons]at hlen;obtain⟨e,N,H⟩:=va A.in1 ⟨v,g,d,tk,p⟩ a t c u;refine aaa (N prog w _ _ ?_);cases e with
     |true =>
      rw[if_pos (H.mp rfl)]at hR
      wp_walk
      exact⟨rfl,rfl,_,_,_,_,DL,o,m,by left,hR⟩
     |false =>
      rw[if_neg (λq=>absurd (H.mpr q) Bool.false_ne_true)]at hR;have P:=B_ A.in1 ⟨v,g,d,tk,p⟩ a t c u prog w
      wp_walk using P
      exact⟨_,rfl,by simpa using hR⟩
  case fin =>
   rintro ⟨V,U⟩ C ⟨B,rfl,vs,ws,i,k,f,D,z,hlen,hR⟩;simp only at B;subst B;have E:lexLt i k=decide (items.size<j.size):=by
    cases D with
    |nil =>
     cases z with
     |nil =>
      simp only[List.length_nil]at hlen;rw[jX];exact(abw (by left)).symm
     |cons c u hw =>
      simp only[List.length_nil,List.length_cons]at hlen;rw[oX];exact(aa_ (by left)).symm
    |cons a t E =>
     cases z with
     |nil =>
      simp only[List.length_nil,List.length_cons]at hlen;rw[di];exact(abw (by left)).symm
     |cons c u hw =>
      rw[List.zip_cons_cons]at f;cases f
   rw[E]at hR
   wp_walk
   exact⟨_,rfl,by simpa [Builtin.Tuple.tupleCompareSizes]using hR⟩
  case h =>
   exact⟨rfl,rfl,items.toList,j.toList,ns,r,rfl,G,F,by left,h⟩
end
variable {Q:Value->Shared->Prop}
section
variable {prog:aC}{w:World}{A:aB}{E:au}{s:Shared}
theorem wN{l b:Addr}{items e:bg}{ns a:ae}(q:IsTup s.heap l items)(u:IsTup s.heap b e)(t:IntsAre items.toList ns)(r:IntsAre e.toList a)
  (p:A.units<cLine) (h:Q (.bool (lexLt ns a)) s):wpAny (model prog w) A (compareOp .Lt (.ref l) (.ref b)) Q E s:=by
 obtain⟨⟨y,v,data,m⟩,g,i,n,hd⟩:=id q;obtain⟨⟨z,j,data2,k⟩,f,d,o,c⟩:=id u;simp only at i hd d c;subst i hd d c;exact richCompare_meets_room (op:=.Lt) ⟨_,g,rfl⟩ ⟨_,f,rfl⟩ acm PySem.F.entry_tuple_lt (PySem.F.args_tuple_lt_2 _ _) (jW l b items e n o v j m k ns a t r)
  ⟨g,f,show Value.bool (lexLt ns a)≠Value.notImplemented/\Q (.bool (lexLt ns a)) s from⟨(λx=>nomatch x),h⟩⟩ p
theorem IV{t b:Addr}{vs ws:aw}(p:IsTup s.heap t vs.toArray)(q:IsTup s.heap b ws.toArray)(l:vs≠[])
  (u:ws=[]->Q (.ref t) s) (r:ws≠[]->Q (.ref s.heap.objs.size) { s with heap:=s.heap.push { cls:=.type "tuple",data:=.seq (vs++ws).toArray } })
  (hsz:vs.length+ws.length<=sizeLine):wpAny (model prog w) A (binaryOp .Add (.ref t) (.ref b)) Q E s:=by
 obtain⟨⟨g,o,data,j⟩,f,m,n,hd⟩:=id p;obtain⟨⟨v,h,data2,i⟩,d,c,k,a⟩:=id q;simp only at m hd c a;subst m hd c a;have e:vs.toArray++ws.toArray=(vs++ws).toArray:=by simp
 by_cases hw:ws=[]
 ·exact concat_meets ⟨_,f,rfl⟩ ⟨_,d,rfl⟩ noFill_tuple_add seq_tuple_add acd aca (ab6 _ _)
   (tuple_addW1 t b vs.toArray ws.toArray n k o h j i (by simpa using l) (by simp[hw])) ⟨f,d,u hw⟩
 ·refine concat_meets ⟨_,f,rfl⟩ ⟨_,d,rfl⟩ noFill_tuple_add seq_tuple_add acd aca (ab6 _ _)
   (tuple_addW2 t b vs.toArray ws.toArray n k o h j i (by simpa using l) (by simpa using hw) (by rw[List.size_toArray,List.size_toArray];exact hsz)) ⟨f,d,?_⟩
  rw[e];exact r hw
end
end HT
namespace L2
open PySem PySem.Spec PyProof.Rows
abbrev TO:=St->Hp->(Option Int->Hp->Prop)->Prop
def PO(X:Cx)(e:Option Expr)(t:TO):Prop :=
 ∀(pins:ao) (s:Shared) (a:St) (H:Hp) (Q:Option Int->Hp->Prop),Inv X pins a H s->t a H Q ->
  wpAny (model X.prog X.w) X.A (evalPart e X.env) (λu c=>∃o b,Inv X pins a b c/\IsPart u o/\Q o b) X.xe s
def Gq:TO:=λ_ H Q=>Q none H
def PL(t:TE):TO:=λa H Q=>t a H λx b=>∃i,x=.int i/\Q (some i) b
theorem intsAre_of{ns:ae}:∀{a:aw},Vals (ns.map V.int) a->IntsAre a ns:=by
 induction ns with
 |nil=>intro a r;rw[List.map_nil]at r;cases r;exact .nil
 |cons n ns c =>
  intro a r;rw[List.map_cons]at r;cases r with
  |cons r1 b =>
   obtain⟨t,e⟩:=r1;subst e;exact .cons n t (c b)
section
variable {X:Cx}{e:Expr}{te:TE}{lo hi:Option Expr}{tl th:TO}{pos p2:Pos}
theorem yr:PO X none Gq:=by
 intro pins s a H Q I h;rw[evalPart_none];exact aac ⟨none,H,I,.none,h⟩
theorem yq(h:PE X e te):PO X (some e) (PL te):=by
 intro pins s a H Q I hw;rw[evalPart_some];refine dF (h pins s a H _ I hw) λu f b=>?_;obtain⟨x,d,c,r1,q1⟩:=b;obtain⟨i,rfl,q⟩:=q1;obtain⟨t,rfl⟩:=r1;exact⟨some i,d,c,.int i t,q⟩
def SlR(X:Cx)(r:V->Option Int->Option Int->Hp->VK->Prop):Prop :=
 ∀(pins:ao) (s:Shared) (a:St) (H:Hp) (x:V) (v c b:Value) (lo hi:Option Int) (d:Addr) (Q:VK),Inv X pins a H s->RelV x v->s.heap.IsSliceOf d c b .none->IsPart c lo->IsPart b hi->r x lo hi H Q ->
  ∃T id,typeLookup (.type T) "__getitem__" = pure (some (.builtin id))/\s.TypeIs v T/\wpAny (model X.prog X.w) X.A (getItem v (.ref d)) (EP X pins a Q) X.xe s
def tSl(r:V->Option Int->Option Int->Hp->VK->Prop)(te:TE)(tl th:TO):TE:=λa H Q=>te a H λx d=>tl a d λl c=>th a c λu b=>r x l u b Q
theorem Cz{r:V->Option Int->Option Int->Hp->VK->Prop}(z:SlR X r)(he:PE X e te)(B:PO X lo tl)(t:PO X hi th):PE X (.Subscript e (.Slice lo hi none p2) pos) (tSl r te tl th):=by
 intro pins s c H Q I h;refine Subscript_ (dF (he pins s c H _ I h) λv k g=>?_);obtain⟨x,L,J,r1,q1⟩:=g;refine wpAny_Slice (dF (B pins k c L _ J q1) λf j ⟨l,K,G,p,n⟩=>dF (t pins j c K _ G n) λd a g=>?_);obtain⟨u,i,F,o,m⟩:=g;rw[evalPart_none];refine aac ?_;have E:Inv X pins c i { a with heap:=a.heap.push { cls:=.type "slice",data:=.fields #[f,d,.none] } }:=F.kept (t':=a.toks) λb M q=>aai _ q;obtain⟨T,id,D,y,C⟩:=z pins { a with heap:=a.heap.push { cls:=.type "slice",data:=.fields #[f,d,.none] } } c i x v f d l u a.heap.objs.size Q E r1 (Heap.IsSliceOf.new ..) p o m;show wpAny (model X.prog X.w) X.A (subscriptTail e (.Slice lo hi none p2) v (.ref a.heap.objs.size)) (EP X pins c Q) X.xe { a with heap:=a.heap.push { cls:=.type "slice",data:=.fields #[f,d,.none] } };exact tail_any (ops:=[.ref a.heap.objs.size,v]) y D C (by with_unfolding_all rfl)
def Qu(K:av):R2:=λx y H Q=>∃a b d c,x=.ref a/\y=.ref b/\a_ K H a d/\a_ K H b c/\d≠[]/\d.length+c.length<=sizeLine /\
 (c=[]->Q (.ref a) H)/\(c≠[]->∀p,H p=none->Q (.ref p) (upd H p (.tup (d++c))))
theorem Vals.sh{xs:ah}{a:aw}(r:Vals xs a):a=[] ↔ xs=[]:=by
 cases r with
 |nil=>simp
 |cons _ _=>simp
theorem Hn:nH X (binaryOp .Add) (Qu X.K):=by
 intro pins s r H x y v u Q I j i h;obtain⟨a,b,g,f,rfl,rfl,p,n,m,d,q1,k⟩:=h;cases j;cases i;obtain⟨B,r1,l,_⟩:=I.tuple p;obtain⟨A,c,p2,_⟩:=I.tuple n;refine HT.IV l p2 (λz=>m (r1.sh.mp z)) (λz=>⟨.ref a,H,I,rfl,q1 (c.sh.mp z)⟩) (λz=>?_) (by rw[<- r1.length,<- c.length];exact d);refine⟨.ref s.heap.objs.size,_,I.laid (t':=s.toks) (o:=.tup (g++f)) (λb t q=>aai _ q) (aal _) ?_,rfl,k (λw=>z (c.sh.mpr w)) _ (I.cJ.fresh (aal _))⟩;exact⟨by rw[List.length_append];exact d,_,r1.append c,IsTup.new _ _⟩
end
end L2
namespace L2
open PySem PySem.Spec PyProof.Rows
noncomputable def yM(n:Nat)(i:Int):Option Nat:=if 0<=i then(if i<n then some i.toNat else none)else if -(n:Int)<=i then some (i+n).toNat else none
def KD{a:Type}(xs:List a)(i:Int):Option a:=(yM xs.length i).bind λj=>xs[j]?
theorem HF{n:Nat}{i:Int}{j:Nat}(h:yM n i=some j):seqIndex? i n=some j/\j<n /\ -(n:Int)<=i/\i<n:=by
 unfold yM at h;by_cases b:0<=i
 ·rw[if_pos b]at h;by_cases a:i<n
  ·rw[if_pos a]at h;have e:i.toNat=j:=aaI h;exact⟨by rw[seqIndex_of b a,e],by left,by left,a⟩
  ·rw[if_neg a]at h;cases h
 ·rw[if_neg b]at h;by_cases a:-(n:Int)<=i
  ·rw[if_pos a]at h;have e:(i+n).toNat=j:=aaI h;exact⟨by rw[seqIndex_neg (by left) a,e],by left,a,by left⟩
  ·rw[if_neg a]at h;cases h
theorem zF{a:Type}{xs:List a}{i:Int}{v:a}(h:KD xs i=some v):∃j,seqIndex? i xs.length=some j/\xs[j]?=some v/\j<xs.length /\ -(xs.length:Int)<=i/\i<xs.length:=by
 unfold KD at h;cases e:yM xs.length i with
 |none=>rw[e]at h;cases h
 |some j =>
  rw[e]at h;obtain⟨f,d,c,b⟩:=HF e;exact⟨j,f,h,d,c,b⟩
def oo(b:Expr):Prop:=∀o i,subscripted b false o i=operate [o,i] (getItem o i)
def Jp(X:Cx)(r:R2):Prop :=
 ∀(value slice:Expr) (pins:ao) (s:Shared) (a:St) (H:Hp) (x y:V) (v u:Value) (Q:VK),Inv X pins a H s->RelV x v->RelV y u->r x y H Q ->
  subscripted slice false v u=operate [v,u] (getItem v u)->wpAny (model X.prog X.w) X.A (subscriptTail value slice v u) (EP X pins a Q) X.xe s
def YL(X:Cx)(id:String)(r:V->ah->Hp->VK->Prop):Prop :=
 ∀(pins:ao) (s:Shared) (a:St) (H:Hp) (x:V) (xs:ah) (v:Value) (b:aw) (Q:VK),Inv X pins a H s->RelV x v->Vals xs b->r x xs H Q ->
  wpAny (model X.prog X.w) X.A (call (.builtin id) (v::b)) (EP X pins a Q) X.xe s
section
variable {X:Cx}{a b:Expr}{ta tb:TE}{pos:Pos}
theorem Jp.or{r f:R2}(h:Jp X r)(h':Jp X f):Jp X (λx y H Q=>r x y H Q\/f x y H Q):=by
 intro value slice pins s c H x y v u Q I e d q g;rcases q with q|q
 ·exact h value slice pins s c H x y v u Q I e d q g
 ·exact h' value slice pins s c H x y v u Q I e d q g
theorem yw{r:R2}(g:Jp X r)(j:PE X a ta)(i:PE X b tb)(hs:oo b):PE X (.Subscript a b pos) (Jy r ta tb):=by
 intro pins s c H Q I h;exact Subscript_ (N_ j i I h λv u d x y l k f e q=>g a b pins d c l x y v u Q k f e q (hs _ _))
def VP(K:av):R2:=λx y H Q=>∃p c i v,x=.ref p/\y=.int i/\dW K H p c/\KD c i=some v/\Q v H
def LN(K:av):R2:=λx y H Q=>∃p c i v,x=.ref p/\y=.int i/\a_ K H p c/\KD c i=some v/\Q v H
theorem yL:Jp X (VP X.K):=by
 intro value slice pins s f H x y v u Q I o n h g;obtain⟨p,L,i,z,rfl,rfl,B,D,q⟩:=h;cases o;obtain⟨t,rfl⟩:=n;obtain⟨J,r,d,M⟩:=I.list B;obtain⟨j,c,G,O,F,E⟩:=zF D;obtain⟨w,l,A⟩:=r.get G;have C:=r.length;have N:=wQ;have fin:EP X pins f Q w s:=⟨z,H,I,A,q⟩
 by_cases k:0<=i
 ·have e:i.toNat=j:=by
   rw[seqIndex_of k E]at c;exact aaI c
  exact item_listR d.isList k (by left) (by rw[e];simpa using l) fin g
 ·have e:(i+(J.toArray.size:Int)).toNat=j:=by
   rw[seqIndex_neg (by left) F]at c;rw[List.size_toArray,<- C];exact aaI c
  exact abU (x:=w) d.isList.typeIs slot_list_getitem.lookup
   (wpAny_getItem_list_neg (Q:=λr m=>r=w/\EP X pins f Q r m) d.isList (by left) (by rw[List.size_toArray]<;>omega) (by left) (by rw[e];simpa using l) ⟨rfl,fin⟩) g
theorem Dv:Jp X (LN X.K):=by
 intro value slice pins s c H x y v u Q I g f h l;obtain⟨p,D,i,z,rfl,rfl,m,o,q⟩:=h;cases g;obtain⟨t,rfl⟩:=f;obtain⟨M,r,d,E⟩:=I.tuple m;obtain⟨j,B,A,L,J,G⟩:=zF o;obtain⟨w,C,k⟩:=r.get A;have n:=r.length;have F:=wQ;have fin:EP X pins c Q w s:=⟨z,H,I,k,q⟩
 exact abU (x:=w) d.typeIs slot_tuple_getitem.lookup
  (getItem_tuple (j:=j) (Q:=λr e=>r=w/\EP X pins c Q r e) d (by left) (by left) (by rw[List.size_toArray,<- n];exact B) (by simpa using C) ⟨rfl,fin⟩) l
theorem Inv.lst{pins:ao}{d:St}{H:Hp}{s:Shared}{p:Addr}{xs:ah}(I:Inv X pins d H s)(h:H p=some (.lst xs)):
  ∃(c:aw) (n:Nat),Vals xs c/\s.heap.get? p=some { cls:=.type "list",data:=.seq c.toArray n }/\xs.length<=sizeLine:=by
 obtain⟨z,c,n,r,e⟩:=I.cJ p _ h;exact⟨c,n,r,e,z⟩
theorem tj:gv X (.builtin "len") (λg H Q=>∃p c,g=[.ref p]/\(dW X.K H p c\/a_ X.K H p c)/\Q (.int c.length) H):=by
 intro pins s l H g m Q I r h;obtain⟨p,c,rfl,d,q⟩:=h;obtain⟨u,rfl,i⟩:=vals1 r;cases i;have n:=wQ;rcases d with d|d
 ·obtain⟨k,e,f,j⟩:=I.list d;have hlen:=e.length;exact Calls.call_len_list f.isList (by simp only[List.size_toArray]<;>omega) ⟨.int c.length,H,I.tok _,⟨s.toks+1,by rw[List.size_toArray,hlen]⟩,q⟩
 ·obtain⟨k,e,f,j⟩:=I.tuple d;have hlen:=e.length;exact len_tuple f (by simp only[List.size_toArray]<;>omega) ⟨.int c.length,H,I.tok _,⟨s.toks+1,by rw[List.size_toArray,hlen]⟩,q⟩
theorem tf:gv X (.type "list") (λw H Q=>∃p d,w=[.ref p]/\(dW X.K H p d\/a_ X.K H p d)/\∀l,H l=none->Q (.ref l) (upd H l (.lst d))):=by
 intro pins s y H w A Q I r h;obtain⟨p,d,rfl,k,q⟩:=h;obtain⟨u,rfl,z⟩:=vals1 r;cases z;have fin:∀(c:aw),Vals d c->d.length<=sizeLine->∀(h':Heap) (g:Nat),(∀b x,s.heap.get? b=some x->h'.get? b=some x) ->
   h'.get? s.heap.objs.size=some { cls:=.type "list",dict:=none,data:=.seq c.toArray g,slots:=#[] }->EP X pins y Q (.ref s.heap.objs.size) { s with heap:=h' }:=λc f j h' g i e =>
  ⟨.ref s.heap.objs.size,_,I.laid (t':=s.toks) i (aal _) (show cK _ h' _ (.lst d) from⟨j,c,g,f,e⟩),rfl,q _ (I.cJ.fresh (aal _))⟩
 rcases k with k|k
 ·obtain⟨c,f,m,j⟩:=I.list k;have hlen:=f.length;obtain⟨o,t,v,n,hd⟩:=m.isList;exact call_list_seq p (.inl rfl) t v hd (λh' g i e=>fin c f j h' g i e) (by simp only[List.size_toArray]<;>omega)
 ·obtain⟨c,f,m,j⟩:=I.tuple k;have hlen:=f.length;obtain⟨o,t,v,n,hd⟩:=m;exact call_list_seq p (.inr rfl) t v hd (λh' g i e=>fin c f j h' g i e) (by simp only[List.size_toArray]<;>omega)
theorem qr:gv X (.type "tuple") (λm H Q=>∃p c,m=[.ref p]/\((dW X.K H p c/\∀l,H l=none->Q (.ref l) (upd H l (.tup c)))\/(a_ X.K H p c/\Q (.ref p) H))):=by
 intro pins s k H m y Q I r h;obtain⟨p,c,rfl,h⟩:=h;obtain⟨u,rfl,v⟩:=vals1 r;cases v;rcases h with ⟨i,q⟩|⟨i,q⟩
 ·obtain⟨j,f,g,n⟩:=I.list i;have hlen:=f.length;refine call_tuple_list g.isList (λd w=>?_) (by simp only[List.size_toArray]<;>omega);have t:Inv X pins k H { s with heap:=d }:=I.kept (t':=s.toks) w;have x:Inv X pins k (upd H d.objs.size (.tup c)) { s with heap:=d.push { cls:=.type "tuple",data:=.seq j.toArray } } :=
   t.laid (t':=s.toks) (λb o e=>aai _ e) (aal _) (show cK _ _ _ (.tup c) from⟨n,j,f,IsTup.new _ _⟩)
  exact⟨.ref d.objs.size,_,x,rfl,q _ (t.cJ.fresh (aal _))⟩
 ·obtain⟨j,f,g,n⟩:=I.tuple i;exact call_tuple_same g ⟨.ref p,H,I,rfl,q⟩
def Tx(K:av)(T:String)(x:V)(H:Hp):Prop:=match x with
 |.ref p=>T = "list" /\ ∃c,dW K H p c
 |_=>False
theorem By{pins:ao}{h:St}{H:Hp}{s:Shared}{T:String}{x:V}{v:Value}(I:Inv X pins h H s)(r:RelV x v)(d:Tx X.K T x H):
  s.TypeIs v T/\∀a,v=.ref a->∃g,s.heap.get? a=some g/\g.dict=none:=by
 cases x with
 |ref p =>
  cases r;obtain⟨rfl,j,i⟩:=d;obtain⟨k,_,f,_⟩:=I.list i;refine⟨f.isList.typeIs,λa e=>?_⟩;cases e;obtain⟨o,n,e,c,hd,_⟩:=f;exact⟨o,e,hd⟩
 |_=>exact False.elim d
def Vc(K:av)(T:String)(r:V->ah->Hp->VK->Prop)(to:TE):TE:=λd H Q=>to d H λx c=>Tx K T x c/\r x [] c Q
def tBM(K:av)(T:String)(r:V->ah->Hp->VK->Prop)(to:TE)(t:TA):TE:=λc H Q=>to c H λx d=>Tx K T x d/\t c d λe f=>r x e f Q
variable {o e:Expr}{es:aq}{to:TE}{t:TA}{name:Str}{apos cpos:Pos}{T id:String}{r:V->ah->Hp->VK->Prop}
theorem L5(i:PlainAttrs T)(slot:Slot T name id)(p:typeOf (.builtin id)=pure (.type "method_descriptor"))(k:YL X id r)(j:PE X o to)
  (u:attributeBase o name X.env (eval o X.env)=eval o X.env:=by rfl) (hline:(apos.endLine==cpos.line)=true:=by rfl):PE X (.Call (.Attribute o name apos) [] [] cpos) (Vc X.K T r to):=by
 intro pins s c H Q I h;refine wpAny_Call_method0_late u hline (dF (j pins s c H _ I h) λv g n=>?_);obtain⟨x,q,d,r1,f,q1⟩:=n;obtain⟨m,l⟩:=By d r1 f;exact⟨T,id,i,slot,p,m,l,abV rfl (PySem.evalArgs_none (k pins g c q x [] v [] Q d r1 .nil q1))⟩
theorem CD(p:PlainAttrs T)(slot:Slot T name id)(B:typeOf (.builtin id)=pure (.type "method_descriptor"))(u:YL X id r)(q:PE X o to)(w:PA X (e::es) t)
  (G:attributeBase o name X.env (eval o X.env)=eval o X.env:=by rfl)
  (hfew:((backTo cpos (starEach (e::es) X.env)).all (λx=>!x.1)&&(backToKw cpos (keywordEach [] X.env)).all (λx=>x.1.isSome)
   && decide ((e::es).length+([]:List Keyword).length+(if ([]:List Keyword).isEmpty then 0 else 1)<30))=true:=by rfl)
  (hline:(apos.endLine==cpos.line)=true:=by rfl) (hs:starEach (e::es) X.env=(false,eval e X.env)::starEach es X.env:=by rfl) (C:(backTo cpos (starEach es X.env)).any (·.1)=false:=by rfl) :
  PE X (.Call (.Attribute o name apos) (e::es) [] cpos) (tBM X.K T r to t):=by
 intro pins s c H Q I h;refine wpAny_Call_method_late G hfew hline rfl (dF (q pins s c H _ I h) λv l A=>?_);obtain⟨x,F,f,r1,j,q1⟩:=A;obtain⟨z,y⟩:=By f r1 j;refine⟨T,id,p,slot,B,z,y,?_⟩;have d:=w cpos pins l c F _ f q1;rw[hs]at d ⊢;refine abV (by show(false||(backTo cpos (starEach es X.env)).any (·.1))=false;rw[C]<;>rfl) (abZ ?_);exact dF d λi k ⟨g,E,D,m,n⟩=>u pins k c E x g v i Q D r1 m n
/- xs.append(e),list.index on a module's tuple .. are YL facts of 06m -/
end
end L2
namespace L2
open PySem PySem.Spec PyProof.Rows
def YM(X:Cx)(id:String)(r:V->ah->Hp->VK->Prop):Prop :=
 ∀(pins:ao) (s:Shared) (a:St) (H:Hp) (x:V) (xs:ah) (v:Value) (b:aw) (Q:VK),Inv X pins a H s->RelV x v->Vals xs b->r x xs H Q ->
  wpAny (model X.prog X.w) X.A (call (.builtin id) (v::b)) (EP X pins a Q) X.xe s
theorem Vals.one:∀{x:V} {a:aw},Vals [x] a->∃u,a=[u]/\RelV x u
 |_,_,.cons r .nil=>⟨_,rfl,r⟩
theorem Vals.zero:∀{a:aw},Vals [] a->a=[]
 |_,.nil=>rfl
variable {aW:aw}{t':Nat}
section
variable {X:Cx}{pins:ao}{σ:St}{H:Hp}{s:Shared}{l b:Addr}{xs ys zs:ah}
theorem Inv.kR{its':aw}{n:Nat}{f:bg->bg}(I:Inv X pins σ H s)(g:H l=some (.lst xs))
  (e:s.heap.get? l=some { cls:=.type "list",data:=.seq aW.toArray n }) (hf:f aW.toArray=its'.toArray) (a:Vals ys its') (hz:ys.length<=sizeLine) :
  Inv X pins σ (upd H l (.lst ys)) { s with heap:=s.heap.update l (Obj.mapSeq f),toks:=t' }:=by
 have q:=PySem.IsL.update e f;rw[hf]at q;refine I.write (x:=l) (by rw[g];exact trivial) (λh u d c=>(abd s.heap (Obj.mapSeq f) (ack d)).trans c) ⟨_,q⟩ ?_;exact⟨hz,its',_,a,q⟩
theorem Inv.Q1(I:Inv X pins σ H s)(a:Vals ys aW)(hz:ys.length<=sizeLine):
  Inv X pins σ (upd H s.heap.objs.size (.lst ys)) { s with heap:=s.heap.push { cls:=.type "list",data:=.seq aW.toArray },toks:=t' } :=
 I.laid (λ_ _ q=>aai _ q) (aal _) ⟨hz,aW,0,a,aaD _ rfl⟩
theorem Inv.fresh(I:Inv X pins σ H s):H s.heap.objs.size=none:=I.cJ.fresh (aal _)
theorem Inv.Ag(I:Inv X pins σ H s)(a:H l=some (.lst xs)):xs.length<=sizeLine/\∃(aW:aw) (n:Nat),Vals xs aW/\xs.length=aW.length/\s.heap.get? l=some { cls:=.type "list",data:=.seq aW.toArray n }:=by
 obtain⟨z,aW,n,r,e⟩:=I.cJ l _ a;exact⟨z,aW,n,r,r.length,e⟩
theorem CP{n:Nat}(h:n<=sizeLine):Builtin.List.listTooLong n=false:=by
 unfold Builtin.List.listTooLong;exact abw (by left)
end
section
variable {X:Cx}
def yo:V->ah->Hp->VK->Prop:=λx b H Q=>∃l a y,x=.ref l/\b=[y]/\H l=some (.lst a)/\a.length<sizeLine/\Q .cF (upd H l (.lst (a++[y])))
theorem qP:YM X "list.append" yo:=by
 intro pins s f H x i v j Q I b c h;obtain⟨l,g,y,rfl,rfl,a,k,q⟩:=h;cases b;obtain⟨u,rfl,d⟩:=c.one;obtain⟨z,aW,n,r,m,e⟩:=I.Ag a;refine acO F.slot_list_append ⟨_,e,rfl⟩ F.entry_list_append (F.args_list_append_2 _ _) (PySem.list_append l aW.toArray n u (by rw[List.size_toArray];left)) ⟨e,?_⟩;refine⟨.cF,_,I.kR (its':=aW++[u]) a e (by simp) (r.append (.cons d .nil)) ?_,rfl,q⟩;rw[List.length_append,List.length_singleton];left
def GP:V->ah->Hp->VK->Prop:=λx d H Q=>∃l b c a,x=.ref l/\d=[.ref b]/\H l=some (.lst c)/\H b=some (.lst a)/\c.length+a.length<=sizeLine/\Q .cF (upd H l (.lst (c++a)))
theorem Ac:YM X "list.extend" GP:=by
 intro pins s p H x A v C Q I f g h;obtain⟨l,b,y,t,rfl,rfl,d,m,D,q⟩:=h;cases f;obtain⟨u,rfl,i⟩:=g.one;cases i;obtain⟨z,aW,n,r,E,e⟩:=I.Ag d;obtain⟨w,a,k,j,B,e2⟩:=I.Ag m;have c:aW.toArray.size+a.toArray.size<=sizeLine:=by rw[List.size_toArray,List.size_toArray];left
 have o:¬ (!aW.toArray.isEmpty&&Builtin.List.listTooLong (aW.toArray.size+a.toArray.size))=true:=by
  rw[CP c,Bool.and_false];exact aae
 refine acO F.slot_list_extend ⟨_,e,rfl⟩ F.entry_list_extend (F.args_list_extend_2 _ _)
  (AutoSeq1.list_extend_list_list_0 l aW.toArray n b a.toArray k o (by rw[List.size_toArray];left) (by left)) ⟨e,e2,?_⟩
 refine⟨.cF,_,I.kR (its':=aW++a) d e (by simp) (r.append j) ?_,rfl,q⟩;rw[List.length_append];left
def LP:V->ah->Hp->VK->Prop:=λx b H Q=>∃l a,x=.ref l/\b=[]/\H l=some (.lst a)/\Q .cF (upd H l (.lst []))
theorem C1:YM X "list.clear" LP:=by
 intro pins s f H x i v j Q I c d h;obtain⟨l,g,rfl,rfl,b,q⟩:=h;cases c;have a:=d.zero;subst a;obtain⟨z,aW,n,r,k,e⟩:=I.Ag b;refine acO F.slot_list_clear ⟨_,e,rfl⟩ F.entry_list_clear (F.args_list_clear_1 _) (AutoSeq1.list_clear_list_0 l aW.toArray n (by rw[List.size_toArray];left)) ⟨e,?_⟩;exact⟨.cF,_,I.kR (its':=[]) (ys:=[]) b e rfl .nil (aaZ _),rfl,q⟩
def VR:R2:=λx y H Q=>∃l b c a,x=.ref l/\y=.ref b/\H l=some (.lst c)/\H b=some (.lst a)/\c.length+a.length<=sizeLine/\∀p,H p=none->Q (.ref p) (upd H p (.lst (c++a)))
theorem L_:nH X (binaryOp .Add) VR:=by
 intro pins s k H x y v u Q I d c h;obtain⟨l,b,p,m,rfl,rfl,g,i,A,q⟩:=h;cases d;cases c;obtain⟨z,aW,n,r,B,e⟩:=I.Ag g;obtain⟨o,a,w,f,t,e2⟩:=I.Ag i;refine PySem.P.add_list e e2 ?_ (by rw[List.size_toArray,List.size_toArray];left);have j:aW.toArray++a.toArray=(aW++a).toArray:=by simp
 rw[j];exact⟨.ref _,_,I.Q1 (t':=s.toks) (r.append f) (by rw[List.length_append];left),rfl,q _ I.fresh⟩
end
section
variable {prog:aC}{w:World}{A:aB}{E:au}{s:Shared}
set_option maxRecDepth 100000 in
end
section
variable {X:Cx}
end
end L2
namespace Att
open PySem PySem.W PySem.Calls PyProof.Rows
variable {h:Heap}
theorem nj{P:Params}:∀(ns:ae) (vs:aw),WellAll P h vs (ns.map WData.int)->IntsAre vs ns:=by
 intro ns;induction ns with
 |nil =>
  intro vs w;rw[List.map_nil]at w;cases w;exact .nil
 |cons n ns c =>
  intro vs w;rw[List.map_cons]at w;cases w with
  |cons a b =>
   cases a;exact .cons _ _ (c _ b)
theorem z6{l:OpenLaw}{n:Nat}(p:l.most=some n){P:Params}{args:List WData}{vals:aw}
  (j:l.row.toRowW.claim.pre args=true) (v:WellAll P h vals args) :
  ∃a g b,vals=[Value.ref a]/\args=[WData.list (b.map WData.int)]/\h.get? a=some { cls:=.type "list",data:=.seq g.toArray }/\IntsAre g b/\b.length<=n:=by
 have k:WShape.hasAll [] args [.list .int]=true:=(pre_splitW j).1;have i:l.pre.holds [] { args:=args }=true:=(pre_splitW j).2;obtain⟨d,r,rfl,u,t⟩:=hasAllW_cons k;obtain rfl:=hasAllW_nil t;obtain⟨w,rfl,s⟩:=hasW_list u;obtain⟨b,rfl⟩:=items_int s;have hlen:b.length<=n:=by
  unfold OpenLaw.pre at i;have f:(WTm.not (.lt (.lit (.int (n:Int))) (.len (.arg 0)))).holds [] { args:=[.list (b.map .int)] }=true:=by
   have f:=(holds_andW i).1;rw[p]at f;exact f
  have e:=condW_of f (w_not (w_lt w_lit (w_len_list (w_arg rfl))));rw[List.length_map]at e;refine Nat.le_of_not_lt λq=>?_;have m:(n:Int)<((b.length:Nat):Int):=by left
  first
   | (rw[decide_eq_true m]at e;exact absurd e (by decide))
   | (simp at e;left)
 cases v with
 |cons w1 w2 =>
  cases w2;cases w1 with
  |list o c=>exact⟨_,_,b,rfl,rfl,o,nj b _ c,hlen⟩
theorem z9(l:OpenLaw)(args:List WData):l.row.toRowW.claim.post args (.bool true) args=true :=
 postW_of (r:=l.row.toRowW) (X:=(true==true))
  (show WShape.has [] (.bool true) .bool=true by first|rfl|decide|simp[WShape.has,WShape.arms,WShape.armsAll])
  (show(WTm.eq .res (.lit (.bool true))).value [] { args:=args,res:=some (.bool true),after:=args }=some (.bool (true==true)) from w_eq_bool (w_res rfl) w_lit) rfl
theorem vA{l:OpenLaw}{n:Nat}{q:aC}{loose:ak}{p:(aU)->Heap->Prop}{m:World->Heap->Prop}{d:DefRec}
  (y:l.most=some n) (I:d.params.defaults=[])
  (call:∀(w:World) (s₀ b:Shared) (mg j:aU) (fa:Addr) (o:Obj) (i g c:Value) (a:Addr) (vs:aw) (ns:ae),
   Ground q loose [] p w s₀ mg j b.heap->m w b.heap ->
   b.heap.get? fa=some o->o.data=.func (docDef d.name d.params d.body d.scope i g c)->b.heap.CodeRec g d.name->mg d.name=some (.ref fa) ->
   b.heap.get? a=some { cls:=.type "list",data:=.seq vs.toArray }->IntsAre vs ns->ns.length<=n->b.gens = #[] ->
   codeAny (model l.prog w) callerA (.call (.ref fa) ⟨[.ref a],[]⟩) (λr e=>r=.ok (.ret (.bool true))/\OldK b.heap e.heap/\e.os=b.os/\AllBare e.gens) b) :
  WalkO q loose p m l.row.toRowW d [] (λf vs=>PySem.call f vs):=by
 intro w s₀ b mg j G Y fa o i g c E t x hd s k hmg A args vals as K F u H L;obtain rfl:E=.none:=Dflts.none k I;obtain rfl:t=.none:=Dflts.noKw k;obtain⟨a,vs,ns,rfl,rfl,J,hints,hlen⟩:=z6 y K H;refine enter_call (ab5 (call w s₀ b mg j fa o i g c a vs ns G Y x (fd_plain hd) s hmg J hints hlen A) λr e v=>?_);obtain⟨rfl,D,C,B⟩:=v;exact⟨.inl ⟨.bool true,.bool true,[],rfl,λ_=>rfl,.bool true,z9 l _,λ_=>⟨List.Pairwise.nil,λ_ z=>(nomatch z)⟩⟩,D,C,B⟩
section
variable {prog:aC}{w:World}{A:aB}{E:au}{s:Shared}{K:Frag}
end
end Att
namespace L2
open PySem PySem.Spec PyProof.Rows
theorem lR:∀{vs:aw} {ns:ae},IntsAre vs ns->Vals (ns.map V.int) vs
 |_,_,.nil=>.nil
 |_,_,.cons n t h=>.cons ⟨t,rfl⟩ (lR h)
def Jo(H:Hp):Prop:=∀b,H b=none\/∃o a,H b=some (.jY o (.lst a))
theorem Dk{P:aC}{w:World}{K:av}{mg p:aU}{CX:vX}{k:Nat}{fa a:Addr}{J:FuncData}{x:Str}{sp:Sp}{c:Shared}{vs:aw}{ns:ae}
  (KX:K.In c.heap) (N:c.heap.Ns mainGlobals mg) (f:c.heap.Ns builtinsNs p) (y:∀x:Str,x ≠ "__name__" -> p x=bootBuiltins x) (W2:c.heap.NoLimit) (X:c.gens = #[])
  (j:c.heap.get? a=some { cls:=.type "list",data:=.seq vs.toArray }) (E:IntsAre vs ns) (D:ns.length<=sizeLine) (W:fY k callerA)
  (F:∀base:Heap,K.In base->base.Ns mainGlobals mg->dq P w K mg base CX k fa J [x] sp) (RQ:∀(s:Shared) (u:Value),BindsTo s J ⟨[u],[]⟩ [(x,u)])
  (Q:∀H:Hp,Jo H->dW K H a (ns.map V.int)->sp [.ref a] H (λv _=>v=.bl true) λ_ _ _=>False)
  (Xu:∀H e g,CX [] H c (λ_ _ _=>False) e g->False) :
  codeAny (model P w) callerA (.call (.ref fa) ⟨[.ref a],[]⟩) (λr g=>r=.ok (.ret (.bool true))/\OldK c.heap g.heap/\g.os=c.os/\AllBare g.gens) c:=by
 have C:=lR E;have V5:=E.length;have core:∀H:Hp,Jo H->dW K H a (ns.map V.int)->jM H c.heap->(∀b,H b≠none->b=a)->(H a≠none->K.lookup a=none) ->
   codeAny (model P w) callerA (.call (.ref fa) ⟨[.ref a],[]⟩) (λr g=>r=.ok (.ret (.bool true))/\OldK c.heap g.heap/\g.os=c.os/\AllBare g.gens) c:=by
  intro H G Y L I hK;have B:∀{b:Addr} {o:Obj},c.heap.get? b=some o->H b=none->(sI c.heap H).get? b=some o:=λe n=>DV e n;have QN:∀{b:Addr} {o:Obj} {es:Array DictEntry} {ep:Nat},c.heap.get? b=some o->o.data=.dict es ep->H b=none:=λ{b o es ep} e d=>by
   cases q:H b with
   |none=>rfl
   |some u =>
    have A:b=a:=I b (by rw[q];simp);subst A;rw[j]at e;cases e;have d':Data.seq vs.toArray _=Data.dict es ep:=d;cases d'
  have l:∀{b:Addr} {m:aU},c.heap.Ns b m->(sI c.heap H).Ns b m:=λ{b m} ⟨o,es,ep,e,d,r⟩=>⟨o,es,ep,B e (QN e d),d,r⟩
  have M:K.In (sI c.heap H):=λb o e=>B (KX b o e) (by
   cases q:H b with
   |none=>rfl
   |some u =>
    have A:b=a:=I b (by rw[q];simp);subst A;rw[hK (by rw[q];simp)]at e;cases e)
  have Z:Mod K mg (sI c.heap H):=⟨M,l N,⟨p,l f,y⟩,let ⟨mc,h1,h2⟩:=W2;⟨mc,l h1,h2⟩⟩
  have e0:Jq P w K mg (sI c.heap H) callerA [] c H:=⟨rfl,Z,λb o e=>Hr e,Nat.le_of_eq (Ay _ _),trivial,λb f=>absurd (show b∈([]:aX) from f) (by simp),L,.of_eq X⟩
  refine ab5 ((F _ M (l N)).run callerA [] c H ⟨[.ref a],[]⟩ [.ref a] [.ref a] _ _ W e0 (RQ c (.ref a)) (.cons rfl .nil) (Q H G Y)) λr g h=>?_;cases r with
  |error e=>exact(Xu H e g h).elim
  |ok fl =>
   cases fl with
   |next=>exact False.elim h
   |brk=>exact False.elim h
   |cont=>exact False.elim h
   |ret u =>
    obtain⟨v,H',T,bare,un,WM,R,q⟩:=h;have S:v=.bl true:=q;subst S;obtain rfl:u=Value.bool true:=R;refine⟨rfl,OldK.of_keep λb o e=>?_,T,bare⟩;cases q:H b with
    |none=>exact un.keep b o e q (by intro z;exact absurd (show b∈([]:aX) from z) (by simp)) (by simp)
    |some u =>
     rcases G b with z|⟨U,xs,z⟩
     ·rw[q]at z;cases z
     ·have O:=un.mj b U _ z;obtain⟨e1,_⟩:=L b _ z;obtain⟨e2,_⟩:=WM b _ O;rw[e]at e1;cases e1;exact e2
 cases t:K.lookup a with
 |some o =>
  have e:=KX a o t;rw[j]at e;cases e;refine core (λ_=>none) (λ_=>.inl rfl) (.inr ⟨_,vs.toArray,_,t,rfl,rfl,rfl,by rw[List.size_toArray,V5];exact D,by simpa using C⟩) (λb u z=>by have i:(none:Option HO)=some u:=z;cases i) (λb z=>absurd rfl z) λz=>absurd rfl z
 |none =>
  refine core (λb=>if b=a then some (.jY { cls:=.type "list",data:=.seq vs.toArray } (.lst (ns.map V.int)))else none) (λb=>?_) (.inl (.inr ⟨{ cls:=.type "list",data:=.seq vs.toArray },aa2 rfl⟩)) (λb u z=>?_) (λb z=>?_) λ_=>t
  ·by_cases f:b=a
   ·exact .inr ⟨_,_,aa2 f⟩
   ·exact .inl (acQ f)
  ·by_cases f:b=a
   ·have i:=(aa2 f).symm.trans z;cases i;subst f;exact⟨j,by rw[List.length_map];exact D,vs,_,C,j⟩
   ·have i:=(acQ f).symm.trans z;cases i
  ·by_cases f:b=a
   ·exact f
   ·exact absurd (acQ f) z
end L2
namespace L2
open PySem PySem.Spec PyProof.Rows
theorem F0{l:PySem.W.OpenLaw}{n k:Nat}{q:aC}{loose:ak}{L:(aU)->Heap->Prop}{p:World->Heap->Prop}{d:DefRec}{K:Params->av}{CX:World->vX}{sp:World->Sp}{x:Str}
  (y:l.most=some n) (M:n<=sizeLine) (N:d.params.defaults=[]) (t:fY k callerA)
  (B:∀(w:World) (h:Heap),p w h->(K w.params).In h)
  (F:∀(w:World) (mg:aU) (fa:Addr) (h:Heap),(K w.params).In h->h.Ns mainGlobals mg->mg d.name=some (.ref fa) ->
   ∃i:FuncData,(∀(s:Shared) (u:Value),BindsTo s i ⟨[u],[]⟩ [(x,u)]) /\
    ∀base:Heap,(K w.params).In base->base.Ns mainGlobals mg->dq l.prog w (K w.params) mg base (CX w) k fa i [x] (sp w))
  (r:∀(w:World) (H:Hp) (a:Addr) (ns:ae),ns.length<=n->Jo H->dW (K w.params) H a (ns.map V.int)->sp w [.ref a] H (λv _=>v=.bl true) λ_ _ _=>False)
  (J:∀(w:World) (H:Hp) (s:Shared) (e:Value) (s':Shared),CX w [] H s (λ_ _ _=>False) e s'->False) :
  PySem.W.WalkO q loose L p l.row.toRowW d [] (λf j=>PySem.call f j):=by
 refine Att.vA y N λw m c mg R fa o Q U I a j ns G Y S hd P hmg O hints hlen z=>?_;have KX:=B w _ Y;obtain⟨i,A,E⟩:=F w mg fa _ KX G.T.g hmg;exact Dk KX G.T.g G.T.b G.T.builtins G.T.nolimit z O hints (aaR hlen M) t E A (λH D C=>r w H a ns hlen D C) λH e s'=>J w H c e s'
end L2
namespace L2
open PySem PySem.Spec PyProof.Rows
noncomputable def dH(s:Stmt):Arguments:=match s with
 |.FunctionDef _ a _ _ _ _ _ _ _ _=>a
 |_=>{ posonlyargs:=[],args:=[],vararg:=none,kwonlyargs:=[],kw_defaults:=[],kwarg:=none,defaults:=[] }
noncomputable def br(s:Stmt):aO:=match s with
 |.FunctionDef _ _ b _ _ _ _ _ _ _=>b
 |_=>[]
noncomputable def aF(s:Stmt):Scope:=match s with
 |.FunctionDef _ _ _ _ _ _ a _ _ _=>a
 |_=>{ kind:=.function,names:=[],isGenerator:=false,isCoroutine:=false }
abbrev rE:vX:=λ_ _ _ _ _ _=>False
abbrev E0:XK:=λ_ _ _=>False
theorem JY{X:Cx}:Passes rE X E0:=λ_ _ _ _ _ _ _ h=>h.elim
structure zN(K:av)(x qual:Str)(st:Stmt)(f:Addr)(fd:FuncData):Prop where
 ex:∃(oc:Value) (od:Option Addr) (kV doc pm:Value) (an:Option Addr) (fc ct:Value) (CH:Array (Option Value)),
  fd=PySem.W.fnOf x qual (dH st) (br st) (aF st) .none kV doc pm an fc ct/\K.lookup f=some ⟨oc,od,.func fd,CH⟩/\PySem.W.codeIn K fc qual=true
 kp:PySem.W.keepIn K (.ref f)=true
variable {f:Addr}{ps:ak}{qual:Str}{st:Stmt}
section
variable {P:aC}{w:World}{K:av}{mg:aU}{base:Heap}
theorem zN.ok{x:Str}{b:FuncData}{N:ak}{k:Nat}{sp:Sp}(F:zN K x qual st f b)(S:eE N ps (aF st))(len:∀vs H Q E,sp vs H Q E->vs.length=ps.length)
  (c:∀(a:Value) (A:aB) (outer:List Env) (s:Shared) (H:Hp) (vs:ah) (Q:VK) (E:XK),fY k (A.deeper (envOfC qual (aF st) s.heap.objs.size f a))->sp vs H Q E ->
   ∃t,iY (iU rE P w K mg base N qual (aF st) f a A outer s H E).uu (br st) t/\t { nx:=λ_ l=>Q .cF l,rt:=Q } (start N vs) H):dq P w K mg base rE (k+1) f b ps sp:=by
 obtain⟨oc,n,o,j,m,r,a,p,u,rfl,g,d⟩:=F.ex;refine Ko g d S len λA outer s H vs Q E i e=>?_;obtain⟨t,h,q⟩:=c a A outer s H vs Q E i e;exact⟨t,h.uu,q⟩
theorem zN.binds{x:Str}{i:FuncData}(F:zN K x qual st f i)
  (h:∀(d a c:Value) (g:Option Addr) (e ct:Value) (b:aw),b.length=ps.length->bindArgs (PySem.W.fnOf x qual (dH st) (br st) (aF st) .none d a c g e ct) ⟨b,[]⟩=pure (ps.zip b)):Binds K i ps []:=by
 obtain⟨oc,k,d,a,c,g,e,ct,m,rfl,l,j⟩:=F.ex;exact .all (h d a c g e ct)
theorem Nf{x:Str}{oc:Value}{h g:Option Addr}{i:Array (Option Value)}{e a d b ct:Value}(l:K.lookup f=some ⟨oc,h,.func (PySem.W.fnOf x qual (dH st) (br st) (aF st) .none e a d g b ct),i⟩)
  (c:PySem.W.codeIn K b qual=true) (k:PySem.W.keepIn K (.ref f)=true):zN K x qual st f (PySem.W.fnOf x qual (dH st) (br st) (aF st) .none e a d g b ct):=⟨⟨oc,h,e,a,d,g,b,ct,i,rfl,l,c⟩,k⟩
end
theorem DG{A:aB}{k:Nat}(a:fY k A):A.units+1<cLine:=aa6 (acA (by decide:1<=64) _) a.units
section
variable {X:Cx}
end
theorem Wf{A B:Prop}(h:A):if true=true then A else B:=by
 rw[if_pos rfl];exact h
def aL(H H':Hp):Prop:=∀b o,H b=some o->H' b=some o
theorem aL.refl(H:Hp):aL H H:=λ_ _ h=>h
theorem aL.trans{H H1 H2:Hp}(a:aL H H1)(b:aL H1 H2):aL H H2:=λc o h=>b c o (a c o h)
variable {H':Hp}
theorem aL.free{H:Hp}(e:aL H H'){l:Addr}(h:H' l=Option.none):H l=Option.none:=by
 cases q:H l with
 |none=>rfl
 |some o =>
  rw[e l o q]at h;cases h
theorem aL.seq{K:av}{H:Hp}{a:Addr}{xs:ah}(e:aL H H')(h:dW K H a xs):dW K H' a xs:=by
 rcases h with (h|⟨o,h⟩)|h
 ·exact .inl (.inl (e _ _ h))
 ·exact .inl (.inr ⟨o,e _ _ h⟩)
 ·exact .inr h
end L2
set_option autoImplicit false
set_option linter.all false
set_option Elab.async false
set_option maxRecDepth 100000
set_option maxHeartbeats 4000000
section
namespace DI
open PySem (Str Expr Stmt Scope NameKind)
inductive Fl where|ow|fz|al|sc
 deriving DecidableEq
inductive D where
 |cF|bl (b:Bool)|int (i:Int)
 |tup (ds:List D)
 |lst (f:Fl) (ds:List D)
 |cn (f:Fl) (ks:az) (vs:List D)
abbrev aG:=Option D
abbrev aa:=List D
mutual
noncomputable def aR(g:Fl->Fl):D->D
 |.tup a=>.tup (aA g a)
 |.lst f a=>.lst (g f) (aA g a)
 |.cn f e c=>.cn (g f) e (aA g c)
 |.cF=>.cF
 |.bl b=>.bl b
 |.int i=>.int i
noncomputable def aA(g:Fl->Fl):aa->aa
 |[]=>[]
 |d::a=>aR g d::aA g a
end
theorem bu(g:Fl->Fl):∀a:aa,aA g a=a.map (aR g)
 |[]=>rfl
 |d::a=>by rw[aA,bu g a];rfl
noncomputable def bp:Fl->Fl|.ow=>.al|f=>f
noncomputable def gU:Fl->Fl|.fz=>.al|f=>f
noncomputable def aZ:Fl->Fl|.sc=>.sc|_=>.fz
noncomputable def Mz:Fl->Bool|.sc=>true|_=>false
mutual
noncomputable def aV(p:Fl->Bool):D->Bool
 |.tup a=>aP p a
 |.lst f a=>p f||aP p a
 |.cn f c b=>p f||aP p b
 |_=>false
noncomputable def aP(p:Fl->Bool):aa->Bool
 |[]=>false
 |d::a=>aV p d||aP p a
end
noncomputable def bW:Fl->Bool|.al=>true|_=>false
noncomputable def cz:Fl->Bool|.ow=>true|_=>false
noncomputable def anyF:Fl->Bool:=λ_=>true
mutual
noncomputable def nu:D->D->Bool
 |.cF,.cF=>true
 |.bl a,.bl b=>a==b
 |.bl a,.int b=>(if a then 1 else 0)==b
 |.int a,.bl b=>a==(if b then 1 else 0)
 |.int a,.int b=>a==b
 |.tup a,.tup b=>eF a b
 |.lst _ a,.lst _ b=>eF a b
 |_,_=>false
noncomputable def eF:aa->aa->Bool
 |[],[]=>true
 |a::as,b::bs=>nu a b&&eF as bs
 |_,_=>false
end
noncomputable def eU:Nat->D->Bool
 |_,.cF=>true
 |_,.bl _=>true
 |_,.int _=>true
 |n+1,.tup ds=>ds.all (eU n)
 |n+1,.lst _ ds=>ds.all (eU n)
 |_,_=>false
abbrev O(a:Type):=Option (Except Nat a)
abbrev aE:=aa->O D
noncomputable def ok{b:Type}(a:b):O b:=some (.ok a)
noncomputable def bd{d b:Type}(x:O d)(f:d->O b):O b:=match x with
 |some (.ok a)=>f a
 |some (.error c)=>some (.error c)
 |none=>none
@[simp]theorem Ud{b:Type}{a:b}:((none:O b)=ok a)=False:=by simp[ok]
@[simp]theorem wK{c:Type}{a b:c}:(ok a=ok b)=(a=b):=by simp[ok]
@[simp]theorem X5{b:Type}{a:b}{c:Nat}:((some (.error c):O b)=ok a)=False:=by simp[ok]
@[simp]theorem Kc{c:Type}{p:Prop}[Decidable p]{a b:c}:((if p then ok a else none)=ok b)=(p/\a=b):=by
 by_cases h:p<;>simp[h]
@[simp]theorem Wm{c:Type}{p:Prop}[Decidable p]{a b:c}:((if p then none else ok a)=ok b)=(¬ p/\a=b):=by
 by_cases h:p<;>simp[h]
theorem nk{b:Type}{a:b}{P:Prop}(h:(none:Option b)=some a):P:=nomatch h
theorem aJ{e d:Type}{x:O e}{f:e->O d}{b:d}(h:bd x f=ok b):∃a,x=ok a/\f a=ok b:=by
 unfold bd at h
 match x,h with
 |some (.ok a),h=>exact⟨a,rfl,h⟩
 |some (.error c),h=>cases h
 |none,h=>cases h
inductive Jr where|add|sub|mul|fdiv|mod|pow|shl
 deriving DecidableEq
inductive Bm where|eq|ne|lt|le|gt|ge
 deriving DecidableEq
inductive Ty where|int|bool|list|tuple
 deriving DecidableEq
inductive Bf where|len|abs|uM|list1|tuple1|gy|all1|il
 deriving DecidableEq
inductive Tg where|nm(i:Nat)|tp(is:aN)
 deriving DecidableEq
inductive IK where|lY|seq|cS(p:Nat)
 deriving DecidableEq
inductive GK where|i(z:Int)
 deriving DecidableEq
inductive CE where
 |cF|bl (b:Bool)|int (i:Int)|glo (x:Str) (i:Int)
 |v (i:Nat)
 |bin (op:Jr) (a b:CE)
 |neg (a:CE)|not (a:CE)|and (es:List CE)|or (es:List CE)
 |cmp (op:Bm) (a b:CE)
 |lg (a:CE) (t:Ty)
 |call (f:Nat) (es:List CE)
 |bf (f:Bf) (es:List CE)
 |ix (a b:CE)
 |kR (a:CE)
 |tup (es:List CE)|lst (es:List CE)
 |cS (p:Nat) (es:List CE)
 |comp (n:Nat) (t:Tg) (caps:aN) (ik:IK) (es bR:List CE) (elt:CE)
abbrev aH:=List CE
inductive CI where|lY(a:CE)|seq(a:CE)|LW(p:Nat)(es:aH)
inductive CS where
 |asg (t:Tg) (e:CE)|par (i j:Nat) (a b:CE)|ret (e:CE)|rs (c:Nat)|ex (e:CE)
 |mut (p i:Nat) (es:aH)|mu2 (p i:Nat) (k e:CE)|unp (is:aN) (e:CE)|app (i:Nat) (e:CE)|aug (i:Nat) (op:Bool) (e:CE)
 |ifs (c:CE) (a b:List CS)
 |KZ (c:CE) (b:List CS)
 |fr (t:Tg) (it:CI) (b:List CS)
abbrev aj:=List CS
abbrev bo:=List (aG)
abbrev bh:=Nat->aE
noncomputable def big:Nat:=2 ^ 9000
def fm(i j:Int):Bool:=decide (i.natAbs<2 ^ 64)||decide (j.natAbs<2 ^ 64)||(decide (i.natAbs<big)&&decide (j.natAbs<big))
def qZ(j:Int):Bool:=decide (j≠0)&&decide (j.natAbs<big)
noncomputable def kP(i j:Int):Bool:=decide (0<=j)&&decide (j<=1000000)&&decide (i.natAbs<2 ^ 64)
noncomputable def dz:Nat:=1000000
theorem sF{b:Type}{c:Prop}[inst:Decidable c]{v d:b}(h:(if c then ok v else none)=ok d):c/\v=d:=by
 cases inst with
 |isTrue a=>exact⟨a,Except.ok.inj (aaI h)⟩
 |isFalse a=>cases h
def cW:Jr->D->D->O D
 |.add,.int i,.int j=>ok (.int (i+j))
 |.add,.tup a,.tup b=>if a.length+b.length<=dz then ok (.tup (aA bp (a++b)))else none
 |.sub,.int i,.int j=>ok (.int (i - j))
 |.mul,.int i,.int j=>if fm i j then ok (.int (i*j))else none
 |.fdiv,.int i,.int j=>if qZ j then ok (.int (i.fdiv j))else none
 |.mod,.int i,.int j=>if j≠0 then ok (.int (i.fmod j))else none
 |.pow,.int i,.int j=>if kP i j then ok (.int (i ^ j.toNat))else none
 |.shl,.int i,.int j=>if kP i j then ok (.int (i*2 ^ j.toNat))else none
 |_,_,_=>none
def iD:Bm->D->D->O D
 |.eq,a,b=>if eU 40 a&&eU 40 b then ok (.bl (nu a b))else none
 |.ne,a,b=>if eU 40 a&&eU 40 b then ok (.bl (!nu a b))else none
 |.lt,.int i,.int j=>ok (.bl (decide (i<j)))
 |.le,.int i,.int j=>ok (.bl (decide (i<=j)))
 |.gt,.int i,.int j=>ok (.bl (decide (j<i)))
 |.ge,.int i,.int j=>ok (.bl (decide (j<=i)))
 |_,_,_=>none
noncomputable def du:Ty->D->Bool
 |.int,.int _=>true|.int,.bl _=>true
 |.bool,.bl _=>true
 |.list,.lst _ _=>true
 |.tuple,.tup _=>true
 |_,_=>false
noncomputable def yM(n:Nat)(i:Int):Option Nat:=if 0<=i then(if i<n then some i.toNat else none)else if -(n:Int)<=i then some (i+n).toNat else none
def p9(ds:aa)(i:Int):O D:=match(yM ds.length i).bind λj=>ds[j]? with
 |some d=>ok (aR bp d)
 |none=>none
def vQ:D->D->O D
 |.tup ds,.int i=>p9 ds i
 |.lst _ ds,.int i=>p9 ds i
 |_,_=>none
noncomputable def intsOf:aa->Option (ae)
 |[]=>some []
 |.int i::ds=>(intsOf ds).map (i :: ·)
 |_::_=>none
noncomputable def jq:aa->Option (List Bool)
 |[]=>some []
 |.bl i::ds=>(jq ds).map (i :: ·)
 |_::_=>none
theorem dT:∀{ds:aa} {ns:ae},intsOf ds=some ns->ds=ns.map D.int
 |[],ns,h=>by simp[intsOf]at h;subst h;rfl
 |d::ds,ns,h=>by
  cases d<;>simp[intsOf]at h;obtain⟨b,a,rfl⟩:=h;rw[dT a];rfl
theorem vy:∀{ds:aa} {bs:List Bool},jq ds=some bs->ds=bs.map D.bl
 |[],bs,h=>by simp[jq]at h;subst h;rfl
 |d::ds,bs,h=>by
  cases d<;>simp[jq]at h;obtain⟨b,a,rfl⟩:=h;rw[vy a];rfl
theorem bY:∀a:ae,intsOf (a.map D.int)=some a
 |[]=>rfl
 |n::a=>by simp[intsOf,bY a]
theorem mD:∀bs:List Bool,jq (bs.map D.bl)=some bs
 |[]=>rfl
 |b::bs=>by simp[jq,mD bs]
noncomputable def sortI(ns:ae):ae:=ns.mergeSort (λa b=>decide (a<=b))
def tY(ds:aa):O D:=match intsOf ds with
 |some a=>if a.length<64 then ok (.lst .ow ((sortI a).map D.int))else none
 |none=>none
def oi:Bf->aE
 |.len,xs=>match xs with
  |[.tup ds]=>ok (.int ds.length)
  |[.lst _ ds]=>ok (.int ds.length)
  |_=>none
 |.abs,xs=>match xs with
  |[.int i]=>ok (.int (if i<0 then -i else i))
  |_=>none
 |.uM,xs=>match xs with
  |[.bl b]=>ok (.int (if b then 1 else 0))
  |_=>none
 |.list1,xs=>match xs with
  |[.lst _ ds]=>ok (.lst .ow (aA bp ds))
  |[.tup ds]=>ok (.lst .ow (aA bp ds))
  |_=>none
 |.tuple1,xs=>match xs with
  |[.lst _ ds]=>ok (.tup (aA bp ds))
  |_=>none
 |.gy,xs=>match xs with
  |[.lst _ ds]=>(match intsOf ds with
   |some a=>ok (.int a.sum)
   |none=>none)
  |_=>none
 |.all1,xs=>match xs with
  |[.lst _ ds]=>(match jq ds with
   |some bs=>ok (.bl (bs.all id))
   |none=>none)
  |_=>none
 |.il,xs=>match xs with
  |[.tup ds]=>tY ds
  |_=>none
noncomputable def sS(ns:ae):ae:=ns.foldl (λ(m:ae) (k:Int)=>if m.any (· == k)then m else m++[k]) []
def yF:D->O D
 |.tup b=>(match intsOf b with
  |some a=>if a.length<4000 then ok (.int (sS a).length)else none
  |none=>none)
 |_=>none
noncomputable def iT:D->O Bool
 |.bl b=>ok b
 |_=>none
noncomputable def intD:D->O Int
 |.int i=>ok i
 |_=>none
noncomputable def CG:Option (aG)->Option (aa)
 |some (some (.lst .ow ds))=>some ds
 |_=>none
theorem Hj{o:Option (aG)}{ds:aa}(h:CG o=some ds):o=some (some (.lst .ow ds)):=by
 unfold CG at h;split at h<;>cases h;rfl
theorem HJ{d:D}{i:Int}(h:intD d=ok i):d=.int i:=by
 cases d<;>simp[intD]at h;rw[h]
noncomputable def Hv:D->O D
 |.int i=>ok (.int (-i))
 |_=>none
noncomputable def fj:aN->aa->bo->O bo
 |[],[],ρ=>ok ρ
 |i::is,d::ds,ρ=>if i<ρ.length then fj is ds (ρ.set i (some d))else none
 |_,_,_=>none
def cB:Tg->D->bo->O bo
 |.nm i,d,ρ=>if i<ρ.length then ok (ρ.set i (some d))else none
 |.tp is,.tup ds,ρ=>if aP cz ds then none else fj is ds ρ
 |_,_,_=>none
def ub:D->O (aa)
 |.lst _ a=>ok (aA aZ a)
 |_=>none
def e_(Φ:bh):IK->aa->O (aa)
 |.cS p,xs=>bd (Φ p xs) ub
 |.lY,[.int n]=>if n<=dz /\ -dz<=n then ok ((List.range n.toNat).map λ(k:Nat)=>D.int (k:Int))else none
 |.seq,[.tup ds]=>ok (aA aZ ds)
 |.seq,[.lst _ ds]=>ok (aA aZ ds)
 |_,_=>none
noncomputable def gW(bind:D->O bo)(test:bo->O Bool)(el:bo->O D):aa->O (aa)
 |[]=>ok []
 |x::xs=>bd (bind x) λa=>bd (test a) λb=>if b then bd (el a) λy=>bd (gW bind test el xs) λc=>ok (y::c)else gW bind test el xs
def bD(n:Nat)(caps:aN)(ρ:bo):bo:=List.replicate n none++caps.map λi=>(ρ[i]?.getD none).map (aR aZ)
def yg(o:Option (aG)):O D:=match o with
 |some (some d)=>ok (aR bp d)
 |_=>none
theorem BS{o:Option (aG)}{d:D}(h:yg o=ok d):∃a,o=some (some a)/\d=aR bp a:=by
 cases o with
 |none=>cases h
 |some z=>cases z with
  |none=>cases h
  |some z=>cases h;exact⟨z,rfl,rfl⟩
mutual
noncomputable def bz(Φ:bh):CE->bo->O D
 |.cF,_=>ok .cF
 |.bl b,_=>ok (.bl b)
 |.int i,_=>ok (.int i)
 |.glo _ i,_=>ok (.int i)
 |.v i,ρ=>yg ρ[i]?
 |.bin op a b,ρ=>bd (bz Φ a ρ) λx=>bd (bz Φ b ρ) λy=>cW op x y
 |.neg a,ρ=>bd (bz Φ a ρ) Hv
 |.not a,ρ=>bd (bd (bz Φ a ρ) iT) λb=>ok (.bl (!b))
 |.and es,ρ=>qY Φ es ρ
 |.or es,ρ=>AK Φ es ρ
 |.cmp op a b,ρ=>bd (bz Φ a ρ) λx=>bd (bz Φ b ρ) λy=>iD op x y
 |.lg a t,ρ=>bd (bz Φ a ρ) λx=>ok (.bl (du t x))
 |.call f es,ρ=>bd (b0 Φ es ρ) λg=>bd (Φ f (aA aZ g)) λr=>ok (aR gU r)
 |.bf f es,ρ=>bd (b0 Φ es ρ) λg=>oi f g
 |.ix a b,ρ=>bd (bz Φ a ρ) λx=>bd (bz Φ b ρ) λy=>vQ x y
 |.kR a,ρ=>bd (bz Φ a ρ) λx=>yF x
 |.cS p es,ρ=>bd (b0 Φ es ρ) λg=>Φ p g
 |.tup es,ρ=>bd (b0 Φ es ρ) λg=>ok (.tup g)
 |.lst es,ρ=>bd (b0 Φ es ρ) λg=>ok (.lst .ow g)
 |.comp n t caps ik es bR elt,ρ=>bd (b0 Φ es ρ) λg=>bd (e_ Φ ik g) λitems =>
   bd (gW (λd=>cB t d (bD n caps ρ)) (λh=>iQ Φ bR h) (λh=>bz Φ elt h) items) λj=>if j.length<=dz then ok (.lst .ow (aA gU j))else none
noncomputable def b0(Φ:bh):aH->bo->O (aa)
 |[],_=>ok []
 |e::es,ρ=>bd (bz Φ e ρ) λx=>bd (b0 Φ es ρ) λg=>ok (x::g)
noncomputable def iQ(Φ:bh):aH->bo->O Bool
 |[],_=>ok true
 |e::es,ρ=>bd (bd (bz Φ e ρ) iT) λb=>if b then iQ Φ es ρ else ok false
noncomputable def qY(Φ:bh):aH->bo->O D
 |[],_=>none
 |e::es,ρ=>bd (bd (bz Φ e ρ) iT) λc=>match es with
  |[]=>ok (.bl c)
  |_::_=>if c then qY Φ es ρ else ok (.bl false)
noncomputable def AK(Φ:bh):aH->bo->O D
 |[],_=>none
 |e::es,ρ=>bd (bd (bz Φ e ρ) iT) λc=>match es with
  |[]=>ok (.bl c)
  |_::_=>if c then ok (.bl true)else AK Φ es ρ
end
def u_(Φ:bh)(e:CE)(ρ:bo):O Bool:=bd (bz Φ e ρ) iT
inductive Fo where|nx|rt(d:D)
noncomputable def dk{c d:Type}(n:Nat)(step:c->O (c ⊕ d))(a:c):O d:=match n with
 |0=>none
 |n+1=>bd (step a) λr=>match r with
  |.inl e=>dk n step e
  |.inr b=>ok b
open Classical in
noncomputable def fG{b c:Type}(step:b->O (b ⊕ c))(a:b):O c :=
 if h:∃n,dk n step a≠none then dk (Classical.choose h) step a else none
theorem jj{d f:Type}(step:d->O (d ⊕ f)):∀(n m:Nat) (a:d),n<=m->dk n step a≠none->dk m step a=dk n step a
 |0,_,_,_,h=>absurd rfl h
 |n+1,0,_,hl,_=>by left
 |n+1,m+1,a,hl,h=>by
  unfold dk at h ⊢
  match e:step a with
  |none=>rw[e]at h;exact absurd rfl h
  |some (.error c)=>rfl
  |some (.ok (.inr b))=>rfl
  |some (.ok (.inl a')) =>
   rw[e]at h;exact jj step n m a' (by left) h
theorem lQ{b d:Type}{step:b->O (b ⊕ d)}{a:b}{n:Nat}{r:Except Nat d}(h:dk n step a=some r):fG step a=some r:=by
 have c:∃n,dk n step a≠none:=⟨n,by rw[h];simp⟩
 unfold fG;rw[dif_pos c];have e:=Classical.choose_spec c;rcases Nat.le_total n (Classical.choose c)with hl|hl
 ·rw[jj step _ _ a hl (by rw[h];simp),h]
 ·rw[<- jj step _ _ a hl e,h]
theorem l0{b c:Type}{step:b->O (b ⊕ c)}{a:b}{r:Except Nat c}(h:fG step a=some r):∃n,dk n step a=some r:=by
 unfold fG at h;split at h
 ·exact⟨_,h⟩
 ·cases h
theorem oA{c f:Type}{step:c->O (c ⊕ f)}{a e:c}(h:step a=ok (.inl e)):fG step a=fG step e:=by
 match d:fG step e with
 |some r =>
  obtain⟨n,b⟩:=l0 d;refine lQ (n:=n+1) ?_;unfold dk;rw[h];exact b
 |none =>
  match g:fG step a with
  |none=>rfl
  |some r =>
   obtain⟨n,b⟩:=l0 g
   match n,b with
   |n+1,b =>
    unfold dk at b;rw[h]at b;rw[lQ (n:=n) b]at d;cases d
theorem ic{c d:Type}{step:c->O (c ⊕ d)}{a:c}{b:d}(h:step a=ok (.inr b)):fG step a=ok b :=
 lQ (n:=1) (by unfold dk;rw[h];rfl)
mutual
noncomputable def iX:CE->aN
 |.v i=>[i]
 |.bin _ a b=>iX a++iX b
 |.neg a=>iX a
 |.not a=>iX a
 |.and c=>dX c
 |.or c=>dX c
 |.cmp _ a b=>iX a++iX b
 |.lg a _=>iX a
 |.call _ c=>dX c
 |.bf _ c=>dX c
 |.ix a b=>iX a++iX b
 |.kR a=>iX a
 |.tup c=>dX c
 |.lst c=>dX c
 |.cS _ c=>dX c
 |.comp _ _ d _ c _ _=>d++dX c
 |_=>[]
noncomputable def dX:aH->aN
 |[]=>[]
 |e::c=>iX e++dX c
end
def jY(is:aN)(ρ:bo):bo:=ρ.mapIdx λi d=>if i∈is then d.map (aR aZ)else d
def keep(e:CE)(d:D)(ρ:bo):D×bo:=if aV bW d then(aR aZ d,jY (iX e) ρ)else(d,ρ)
def jS(Φ:bh)(e:CE)(ρ:bo):O (D×bo):=match e with
 |.v i=>match ρ[i]? with
  |some (some d)=>if aV cz d then ok (d,ρ.set i none)else ok (d,ρ)
  |_=>none
 |_=>bd (bz Φ e ρ) λd=>ok (keep e d ρ)
def bQ(Φ:bh)(it:CI)(ρ:bo):O (aa×bo):=match it with
 |.LW p e=>bd (b0 Φ e ρ) λc=>bd (Φ p c) λd=>bd (ub d) λitems=>ok (items,if aP bW c then jY (dX e) ρ else ρ)
 |.lY a=>bd (bz Φ a ρ) λx=>match x with
  |.int n=>if n<=dz /\ -dz<=n then ok ((List.range n.toNat).map λ(k:Nat)=>D.int (k:Int),ρ)else none
  |_=>none
 |.seq a=>bd (bz Φ a ρ) λx=>match x with
  |.tup b=>ok (aA aZ b,if aV bW x then jY (iX a) ρ else ρ)
  |.lst f b=>ok (aA aZ b,if aV bW x then jY (iX a) ρ else ρ)
  |_=>none
def kY(es:aH)(xs:aa)(ρ:bo):aa×bo:=if aP bW xs then(aA aZ xs,jY (dX es) ρ)else(xs,ρ)
noncomputable def sj(Φ:bh)(p i:Nat)(r:aa×bo):O (Fo×bo):=match r.2[i]? with
 |some (some d)=>bd (Φ p (d::r.1)) λa=>ok (.nx,r.2.set i (some a))
 |_=>none
def C0(Φ:bh)(p i:Nat)(ρ:bo)(kd d:D):O (Fo×bo):=match ρ[i]? with
 |some (some x)=>if aV anyF kd=false/\aV anyF d=false then bd (Φ p [x,kd,d]) λa=>ok (.nx,ρ.set i (some a))else none
 |_=>none
def F9(is:aN)(d:D)(ρ:bo):O bo:=match d with
 |.tup a=>fj is a ρ
 |_=>none
noncomputable def dE(bind:D->bo->O bo)(body:bo->O (Fo×bo)):aa->bo->O (Fo×bo)
 |[],ρ=>ok (.nx,ρ)
 |d::ds,ρ=>bd (bind d ρ) λa=>bd (body a) λr=>match r with
  | (.nx,ρ2)=>dE bind body ds ρ2
  | (.rt d,ρ2)=>ok (.rt d,ρ2)
mutual
noncomputable def mq(Φ:bh):CS->bo->O (Fo×bo)
 |.asg t e,f=>bd (jS Φ e f) λr=>bd (cB t r.1 r.2) λg=>ok (.nx,g)
 |.par i j a b,f=>bd (bz Φ a f) λx=>bd (bz Φ b f) λy=>if aV anyF x=false/\aV anyF y=false/\i<f.length/\j<f.length then ok (.nx,(f.set i (some x)).set j (some y))else none
 |.ret e,f=>bd (jS Φ e f) λr=>ok (.rt r.1,r.2)
 |.rs c,_=>some (.error c)
 |.ex e,f=>bd (bz Φ e f) λ_=>ok (.nx,f)
 |.mut p i es,f=>bd (b0 Φ es f) λl=>sj Φ p i (kY es l f)
 |.mu2 p i k e,f=>bd (bz Φ k f) λm=>bd (bz Φ e (f.set i none)) λd=>C0 Φ p i f m d
 |.unp is e,f=>bd (jS Φ e f) λr=>bd (F9 is r.1 r.2) λg=>ok (.nx,g)
 |.app i e,f=>bd (jS Φ e f) λr=>match CG r.2[i]? with
  |some h=>if h.length<dz then ok (.nx,r.2.set i (some (.lst .ow (h++[r.1]))))else none
  |none=>none
 |.aug i op e,f=>bd (bd (bz Φ e f) intD) λb=>match f[i]? with
  |some (some (.int a))=>ok (.nx,f.set i (some (.int (if op then a+b else a - b))))
  |_=>none
 |.ifs c a b,f=>bd (u_ Φ c f) λk=>if k then bK Φ a f else bK Φ b f
 |.KZ c b,f=>fG (λf=>bd (u_ Φ c f) λk=>if k then bd (bK Φ b f) λr=>match r with
   | (.nx,g)=>ok (.inl g)
   | (.rt d,g)=>ok (.inr (.rt d,g))
  else ok (.inr (.nx,f))) f
 |.fr t it b,f=>bd (bQ Φ it f) λr=>dE (λd f=>cB t d f) (λf=>bK Φ b f) r.1 r.2
noncomputable def bK(Φ:bh):aj->bo->O (Fo×bo)
 |[],f=>ok (.nx,f)
 |s::ss,f=>bd (mq Φ s f) λr=>match r with
  | (.nx,g)=>bK Φ ss g
  |r=>ok r
end
noncomputable def rW(Φ:bh)(n:Nat)(b:aj)(ds:aa):O D:=bd (bK Φ b (ds.map some++List.replicate (n - ds.length) none)) λr=>match r.1 with
 |.nx=>ok .cF
 |.rt d=>ok d
noncomputable def FQ:aE
 |[.lst _ a,.lst _ b]=>ok (.lst .ow (List.zipWith (λx y=>.tup [x,y]) a b))
 |_=>none
end DI
end
section
namespace DI
open PySem PySem.Spec PyProof.Rows L2
abbrev bt:=aN
abbrev St:=L2.St
abbrev nF:=Addr->ah->Prop
inductive Nd where|l(xs:ah)|d(cs:az)(as:aX)(xs:ah)(ep:Nat)
abbrev h_:=bt->Addr->Nd->Fl->Prop
structure dA(T:nF)(as:aX)(cs:az):Prop where
 len:as.length=cs.length
 tup:∀(j:Nat) (a:Addr) (c:ae),as[j]?=some a->cs[j]?=some c->T a (c.map V.int)
variable {T:nF}
theorem dA.imp{T':nF}{as:aX}{cs:az}(h:dA T as cs)(d:∀p b,T p b->T' p b):dA T' as cs:=⟨h.len,λj a c f e=>d _ _ (h.tup j a c f e)⟩
mutual
inductive Rep(T:nF)(N:h_):bt->V->D->Prop where
 |cF {q:bt}:Rep T N q .cF .cF
 |bl {q:bt} (b:Bool):Rep T N q (.bl b) (.bl b)
 |int {q:bt} (i:Int):Rep T N q (.int i) (.int i)
 |tup {q:bt} {p:Addr} {xs:ah} {ds:aa} (h:T p xs) (r:aI T N q 0 xs ds):Rep T N q (.ref p) (.tup ds)
 |lst {q:bt} {p:Addr} {xs:ah} {f:Fl} {ds:aa} (h:N q p (.l xs) f) (r:aI T N q 0 xs ds):Rep T N q (.ref p) (.lst f ds)
 |cn {q:bt} {p:Addr} {cs:az} {as:aX} {xs:ah} {ep:Nat} {f:Fl} {ds:aa} (h:N q p (.d cs as xs ep) f) (k:dA T as cs) (r:aI T N q 0 xs ds):Rep T N q (.ref p) (.cn f cs ds)
inductive aI(T:nF)(N:h_):bt->Nat->ah->aa->Prop where
 |nil {q:bt} {n:Nat}:aI T N q n [] []
 |cons {q:bt} {n:Nat} {v:V} {d:D} {vs:ah} {ds:aa} (h:Rep T N (n::q) v d) (t:aI T N q (n+1) vs ds):aI T N q n (v::vs) (d::ds)
end
variable {ds ds' items:aa}
theorem Rep.F1{N:h_}{q:bt}{v:V}(h:Rep T N q v (.tup ds)):∃p c,v=.ref p/\T p c/\aI T N q 0 c ds:=by
 cases h with
 |tup a b=>exact⟨_,_,rfl,a,b⟩
variable {f:Fl}
theorem Rep.tH{N:h_}{q:bt}{v:V}(h:Rep T N q v (.lst f ds)):∃p c,v=.ref p/\N q p (.l c) f/\aI T N q 0 c ds:=by
 cases h with
 |lst a b=>exact⟨_,_,rfl,a,b⟩
mutual
theorem sL:∀d:D,aV (λ_=>false) d=false
 |.cF=>rfl
 |.bl _=>rfl
 |.int _=>rfl
 |.tup ds=>gS ds
 |.lst _ ds=>gS ds
 |.cn _ _ ds=>gS ds
theorem gS:∀ds:aa,aP (λ_=>false) ds=false
 |[]=>rfl
 |d::ds=>by show(aV _ d||aP _ ds)=false;rw[sL d,gS ds];rfl
end
theorem JZ{a b:Bool}(h:(a||b)=false):a=false/\b=false:=by cases a<;>cases b<;>first|exact⟨rfl,rfl⟩|cases h
variable {k' q':bt}{vs xs xs' ys:ah}
section
variable {T T':nF}{N N':h_}{g:Fl->Fl}{P:Fl->Bool}{C:bt->bt->Prop}{I:Nat->Nat->Prop}
mutual
theorem Rep.gen(j:∀p xs,T p xs->T' p xs)(a:I 0 0)(m:∀n n',I n n'->I (n+1) (n'+1))(o:∀k k' n n',C k k'->I n n'->C (n::k) (n'::k'))(l:∀k k' p xs f,C k k'->P f=false->N k p xs f->N' k' p xs (g f)):
  ∀{k:bt} {v:V} {d:D},Rep T N k v d->∀{k':bt},C k k'->aV P d=false->Rep T' N' k' v (aR g d)
 |_,_,_,.cF,_,_,_=>.cF
 |_,_,_,.bl b,_,_,_=>.bl b
 |_,_,_,.int i,_,_,_=>.int i
 |_,_,_,.tup h r,_,c,e=>.tup (j _ _ h) (aI.gen j a m o l r c a e)
 |_,_,_,.lst h r,_,c,e=>.lst (l _ _ _ _ _ c (JZ e).1 h) (aI.gen j a m o l r c a (JZ e).2)
 |_,_,_,.cn h k r,_,c,e=>.cn (l _ _ _ _ _ c (JZ e).1 h) (k.imp j) (aI.gen j a m o l r c a (JZ e).2)
theorem aI.gen(j:∀p xs,T p xs->T' p xs)(a:I 0 0)(m:∀n n',I n n'->I (n+1) (n'+1))(o:∀k k' n n',C k k'->I n n'->C (n::k) (n'::k'))(l:∀k k' p xs f,C k k'->P f=false->N k p xs f->N' k' p xs (g f)):
  ∀{k:bt} {n:Nat} {vs:ah} {ds:aa},aI T N k n vs ds->∀{k':bt} {n':Nat},C k k'->I n n'->aP P ds=false->aI T' N' k' n' vs (aA g ds)
 |_,_,_,_,.nil,_,_,_,_,_=>.nil
 |_,_,_,_,.cons h t,_,_,c,i,e=>.cons (Rep.gen j a m o l h (o _ _ _ _ c i) (JZ e).1) (aI.gen j a m o l t c (m _ _ i) (JZ e).2)
end
theorem Rep.map{q:bt}(b:∀p xs,T p xs->T' p xs)(i:∀c p xs f,N (c++q) p xs f->N' (c++q') p xs (g f)){k:bt}{v:V}{d:D}(h:Rep T N k v d)(c:bt)(e:k=c++q):Rep T' N' (c++q') v (aR g d) :=
 Rep.gen (P:=λ_=>false) (C:=λk k'=>∃c,k=c++q/\k'=c++q') (I:=λn a=>n=a) b rfl (λ_ _ e=>by rw[e]) (λ_ _ n _ ⟨c,e1,e2⟩ e=>⟨n::c,by rw[e1];rfl,by rw[e2,<- e];rfl⟩) (λ_ _ p xs f ⟨c,e1,e2⟩ _ h=>by subst e1;subst e2;exact i c p xs f h) h ⟨c,e,rfl⟩ (sL d)
theorem aI.map{q:bt}(b:∀p xs,T p xs->T' p xs)(d:∀c p xs f,N (c++q) p xs f->N' (c++q') p xs (g f)){k:bt}{n:Nat}(h:aI T N k n vs ds)(c:bt)(e:k=c++q):aI T' N' (c++q') n vs (aA g ds) :=
 aI.gen (P:=λ_=>false) (C:=λk k'=>∃c,k=c++q/\k'=c++q') (I:=λn a=>n=a) b rfl (λ_ _ e=>by rw[e]) (λ_ _ n _ ⟨c,e1,e2⟩ e=>⟨n::c,by rw[e1];rfl,by rw[e2,<- e];rfl⟩) (λ_ _ p xs f ⟨c,e1,e2⟩ _ h=>by subst e1;subst e2;exact d c p xs f h) h ⟨c,e,rfl⟩ rfl (gS ds)
theorem Rep.iy(a:∀p xs,T p xs->T' p xs)(b:∀k k' p xs f,N k p xs f->N' k' p xs (g f)){k:bt}{v:V}{d:D}(h:Rep T N k v d)(k':bt):Rep T' N' k' v (aR g d) :=
 Rep.gen (P:=λ_=>false) (C:=λ_ _=>True) (I:=λ_ _=>True) a trivial (λ_ _ e=>e) (λ_ _ _ _ e _=>e) (λk k' p xs f _ _ h=>b k k' p xs f h) h trivial (sL d)
theorem aI.iy(a:∀p xs,T p xs->T' p xs)(b:∀k k' p xs f,N k p xs f->N' k' p xs (g f)){k:bt}{n:Nat}(h:aI T N k n vs ds)(k':bt)(n':Nat):aI T' N' k' n' vs (aA g ds) :=
 aI.gen (P:=λ_=>false) (C:=λ_ _=>True) (I:=λ_ _=>True) a trivial (λ_ _ e=>e) (λ_ _ _ _ e _=>e) (λk k' p xs f _ _ h=>b k k' p xs f h) h trivial trivial (gS ds)
end
mutual
theorem d_:∀d:D,aR id d=d
 |.cF=>rfl
 |.bl _=>rfl
 |.int _=>rfl
 |.tup ds=>by rw[aR,eV ds]
 |.lst f ds=>by rw[aR,eV ds];rfl
 |.cn f a vs=>by rw[aR,eV vs];rfl
theorem eV:∀ds:aa,aA id ds=ds
 |[]=>rfl
 |d::ds=>by rw[aA,d_ d,eV ds]
end
section
variable {T T':nF}{N N':h_}
theorem Rep.imp{q:bt}(a:∀p xs,T p xs->T' p xs)(b:∀c p xs f,N (c++q) p xs f->N' (c++q') p xs f){v:V}{d:D}(h:Rep T N q v d):Rep T' N' q' v d:=by
 have:=Rep.map (g:=id) a b h [] rfl;rw[d_]at this;exact this
theorem aI.imp{q:bt}{n:Nat}(a:∀p xs,T p xs->T' p xs)(b:∀c p xs f,N (c++q) p xs f->N' (c++q') p xs f)(h:aI T N q n vs ds):aI T' N' q' n vs ds:=by
 have:=aI.map (g:=id) a b h [] rfl;rw[eV]at this;exact this
theorem aI.length:∀{k:bt} {n:Nat} {vs:ah} {ds:aa},aI T N k n vs ds->vs.length=ds.length
 |_,_,_,_,.nil=>rfl
 |_,_,_,_,.cons _ t=>by simp[aI.length t]
theorem aI.get:∀{k:bt} {n j:Nat} {vs:ah} {ds:aa} {d:D},aI T N k n vs ds->ds[j]?=some d->∃v,vs[j]?=some v/\Rep T N ((n+j)::k) v d
 |_,_,_,_,_,_,.nil,e=>by simp at e
 |_,_,0,_,_,_,.cons h t,e=>by simp at e;subst e;exact⟨_,rfl,h⟩
 |_,n,j+1,_,_,_,.cons h t,e=>by
  obtain⟨v,b,a⟩:=aI.get (j:=j) t (by simpa using e);refine⟨v,by simpa using b,?_⟩;have:n+1+j=n+(j+1):=by left
  rw[<- this];exact a
theorem aI.AG:∀{k:bt} {n j:Nat} {vs:ah} {ds:aa} {v:V},aI T N k n vs ds->vs[j]?=some v->∃d,ds[j]?=some d/\Rep T N ((n+j)::k) v d
 |_,_,_,_,_,_,.nil,e=>by simp at e
 |_,_,0,_,_,_,.cons h t,e=>by simp at e;subst e;exact⟨_,rfl,h⟩
 |_,n,j+1,_,_,_,.cons h t,e=>by
  obtain⟨v,b,a⟩:=aI.AG (j:=j) t (by simpa using e);refine⟨v,by simpa using b,?_⟩;have:n+1+j=n+(j+1):=by left
  rw[<- this];exact a
theorem aI.zH{k:bt}(a:∀k k' p xs f,N k p xs f->N k' p xs f):∀{n m l:Nat} {vs ws:ah} {ds es:aa},aI T N k n vs ds->aI T N k m ws es->aI T N k l (vs++ws) (ds++es)
 |_,_,_,_,_,_,_,.nil,t=>by
  have:=aI.iy (T':=T) (N':=N) (g:=id) (λ_ _ h=>h) a t;rw[eV]at this;exact this _ _
 |_,_,_,_,_,_,_,.cons h t,u=>.cons (by
  have:=Rep.iy (T':=T) (N':=N) (g:=id) (λ_ _ h=>h) a h;rw[d_]at this;exact this _) (aI.zH a t u)
end
def KL(K:av)(a:Addr)(xs:ah):Prop :=
 ∃(o:Obj) (b:bg) (n:Nat),K.lookup a=some o/\o.cls=.type "list" /\ o.dict=none/\o.data=.seq b n/\b.size<=sizeLine/\Vals xs b.toList
def DO(p:Addr)(cs:az)(as:aX)(xs:ah)(ep:Nat)(h:Heap):Prop :=
 ∃(zs:List (ae×Addr×Value)) (o:Obj) (es:Array DictEntry),zs.map (·.1)=cs/\zs.map (·.2.1)=as/\Vals xs (zs.map (·.2.2))/\h.get? p=some o/\o.ExactDict/\o.data=.dict es ep /\
  es.toList=zs.map (λz=>⟨reduceHash (Builtin.Tuple.tupleHashOf (z.1.map hashInt)),.ref z.2.1,z.2.2⟩)/\cs.Nodup/\cs.length<=sizeLine/\(p==sysModules)=false
abbrev eG(H:Hp)(p:Addr)(n:Nd):Prop:=match n with
 |.l xs=>H p=some (.lst xs)
 |.d b as xs a=>H p=some (.ext (DO p b as xs a))
theorem eG.ne{H:Hp}{p:Addr}{n:Nd}(h:eG H p n):H p≠none:=by
 cases n with
 |l xs=>intro z;rw[show H p=some (.lst xs) from h]at z;cases z
 |d b as xs a=>intro z;rw[show H p=some (.ext (DO p b as xs a)) from h]at z;cases z
variable {H' H1 H2:Hp}
theorem eG.at{H:Hp}{p:Addr}{n:Nd}(e:∀o,H p=some o->H' p=some o)(h:eG H p n):eG H' p n:=by
 cases n with
 |l xs=>exact e _ h
 |d b as xs a=>exact e _ h
theorem eG.same{H:Hp}{p:Addr}{n:Nd}(e:aL H H')(h:eG H p n):eG H' p n:=h.at (e p)
theorem eG.some{H:Hp}{p:Addr}{n:Nd}(h:eG H p n):∃o,H p=some o/\(∀xs,o≠.tup xs)/\(∀a u,o≠.jY a u):=by
 cases n with
 |l xs=>exact⟨_,h,λ_ z=>(nomatch z),λ_ _ z=>(nomatch z)⟩
 |d c as xs b=>exact⟨_,h,λ_ z=>(nomatch z),λ_ _ z=>(nomatch z)⟩
def nd(K:av)(R A:ai)(a:Addr->Option bt)(H:Hp):h_:=λq p n f=>match f with
 |.ow=>eG H p n/\a p=some q
 |.fz=>eG H p n/\R p
 |.al=>eG H p n/\A p
 |.sc=>match n with
  |.l xs=>(∃o,H p=some (.jY o (.lst xs)))\/KL K p xs
  |.d _ _ _ _=>False
variable {A F G R' R1:Addr->Prop}{K:av}{τ τ' τt:Addr->Option bt}
theorem nd.BY{R:Addr->Prop}{H:Hp}{q:bt}{p:Addr}{n:Nd}(h:nd K R A τ H q p n .sc):∃xs,n=.l xs/\((∃o,H p=some (.jY o (.lst xs)))\/KL K p xs):=by
 cases n with
 |l xs=>exact⟨xs,rfl,h⟩
 |d _ _ _ _=>exact h.elim
theorem nd.sq{R:Addr->Prop}{H:Hp}{q:bt}{p:Addr}(h:nd K R A τ H q p (.l xs) f):dW K H p xs:=by
 cases f with
 |ow=>exact dW.of h.1
 |fz=>exact dW.of h.1
 |al=>exact dW.of h.1
 |sc=>exact h.elim (λh=>.inl (.inr h)) .inr
variable {ep k1 k2 n1 t':Nat}
theorem nd.dat{R:Addr->Prop}{H:Hp}{q:bt}{p:Addr}{cs:az}{as:aX}(h:nd K R A τ H q p (.d cs as xs ep) f):H p=some (.ext (DO p cs as xs ep)):=by
 cases f with
 |ow=>exact h.1
 |fz=>exact h.1
 |al=>exact h.1
 |sc=>exact h.elim
theorem Rd.same{H:Hp}{a:Addr}{u:HO}(e:aL H H')(h:Rd H a u):Rd H' a u:=h.elim (λh=>.inl (e _ _ h)) λ⟨o,h⟩=>.inr ⟨o,e _ _ h⟩
theorem a_.same{K:av}{H H':Hp}{a:Addr}{xs:ah}(e:aL H H')(h:a_ K H a xs):a_ K H' a xs:=h.elim (λh=>.inl (Rd.same e h)) .inr
theorem nd.same{K:av}{R A:ai}{τ:Addr->Option bt}{H H':Hp}{q:bt}{p:Addr}{n:Nd}{f:Fl}(e:aL H H')(h:nd K R A τ H q p n f):nd K R A τ H' q p n f:=by
 cases f with
 |ow=>exact⟨h.1.same e,h.2⟩
 |fz=>exact⟨h.1.same e,h.2⟩
 |al=>exact⟨h.1.same e,h.2⟩
 |sc=>cases n with
  |l xs=>exact h.elim (λ⟨o,h⟩=>.inl ⟨o,e _ _ h⟩) .inr
  |d _ _ _ _=>exact h.elim
theorem aL.ne{H:Hp}(e:aL H H'){a:Addr}(h:H a≠none):H' a≠none:=by
 cases q:H a with
 |none=>exact absurd q h
 |some o=>rw[e a o q];simp
structure SI(X:Cx)(F R:ai)(τ:Addr->Option bt)(ρ:bo)(σ:St)(H:Hp):Prop where
 len:ρ.length=σ.length
 rep:∀(i:Nat) (d:D),ρ[i]?=some (some d)->∃v,σ[i]?=some (some v)/\Rep (a_ X.K H) (nd X.K R (λ_=>False) τ H) [i] v d
 rt:∀p,R p->τ p=none
 rh:∀p,R p->H p≠none
 rf:∀p,R p->F p\/X.H₀ p=none
 th:∀p q,τ p=some q->H p≠none
 t0:∀p q,τ p=some q->X.H₀ p=none
 same:aL X.H₀ H
variable {X:Cx}{ρ:bo}{σ:L2.St}
theorem SI.go{R:Addr->Prop}{H:Hp}(S:SI X F R τ ρ σ H)(e:aL H H'):SI X F R τ ρ σ H' :=
 ⟨S.len,λi d h=>let ⟨v,h1,h2⟩:=S.rep i d h;⟨v,h1,h2.imp (λ_ _ h=>a_.same e h) λ_ _ _ _ h=>nd.same e h⟩,S.rt,λp h=>aL.ne e (S.rh p h),S.rf,λp q h=>aL.ne e (S.th p q h),S.t0,S.same.trans e⟩
def j0(G:ai)(τ:Addr->Option bt)(fv:aN)(p:Addr):Prop:=G p/\∀c i,τ p=some (c++[i])->i∈fv
variable {caps fv fv' is:aN}
theorem j0.mono{p:Addr}(h:j0 G τ fv p)(hs:∀i∈fv,i∈fv'):j0 G τ fv' p:=⟨h.1,λc i e=>hs i (h.2 c i e)⟩
def gP(X:Cx)(F:ai)(p:Addr):Prop:=F p\/X.H₀ p=none
def cI(K:av)(G R:ai)(τ:Addr->Option bt)(fv:aN)(H H':Hp)(v:V)(d:D):Prop :=
 ∃τt:Addr->Option bt,(∀p q,τt p=some q->H p=none)/\Rep (a_ K H') (nd K R (j0 G τ fv) τt H') [] v d
def cN(K:av)(G R:ai)(τ:Addr->Option bt)(fv:aN)(H H':Hp)(vs:ah)(ds:aa):Prop :=
 ∃τt:Addr->Option bt,(∀p q,τt p=some q->H p=none)/\aI (a_ K H') (nd K R (j0 G τ fv) τt H') [] 0 vs ds
section
variable {K:av}{G R:ai}{τ:Addr->Option bt}{fv fv':aN}{H H1 H2:Hp}{v:V}{d:D}{vs:ah}{ds:aa}
theorem cI.go(h:cI K G R τ fv H H1 v d)(e:aL H1 H2):cI K G R τ fv H H2 v d :=
 let ⟨τt,h1,h2⟩:=h;⟨τt,h1,h2.imp (λ_ _ h=>a_.same e h) λ_ _ _ _ h=>nd.same e h⟩
theorem nd.mono{A':Addr->Prop}{τ:Addr->Option bt}{q:bt}{p:Addr}{xs:Nd}(h:nd K R A τ H q p xs f)(hR:R p->R' p)(b:A p->A' p)(a:τ p=some q->τ' p=some q'):nd K R' A' τ' H q' p xs f:=by
 cases f with
 |ow=>exact⟨h.1,a h.2⟩
 |fz=>exact⟨h.1,hR h.2⟩
 |al=>exact⟨h.1,b h.2⟩
 |sc=>exact h
theorem cI.mono(h:cI K G R τ fv H H1 v d)(hs:∀i∈fv,i∈fv'):cI K G R τ fv' H H1 v d :=
 let ⟨τt,h1,h2⟩:=h;⟨τt,h1,h2.imp (λ_ _ h=>h) λ_ _ _ _ h=>h.mono id (λh=>h.mono hs) id⟩
theorem cN.mono(h:cN K G R τ fv H H1 vs ds)(hs:∀i∈fv,i∈fv'):cN K G R τ fv' H H1 vs ds :=
 let ⟨τt,h1,h2⟩:=h;⟨τt,h1,h2.imp (λ_ _ h=>h) λ_ _ _ _ h=>h.mono id (λh=>h.mono hs) id⟩
theorem cI.old{a:Hp}(h:cI K G R τ fv H H1 v d)(e:aL a H):cI K G R τ fv a H1 v d :=
 let ⟨τt,h1,h2⟩:=h;⟨τt,λp q z=>e.free (h1 p q z),h2⟩
theorem cI.int{i:Int}:cI K G R τ fv H H1 (.int i) (.int i):=⟨λ_=>none,λ_ _ h=>by simp at h,.int i⟩
theorem cI.bl{b:Bool}:cI K G R τ fv H H1 (.bl b) (.bl b):=⟨λ_=>none,λ_ _ h=>by simp at h,.bl b⟩
theorem cI.cF:cI K G R τ fv H H1 .cF .cF:=⟨λ_=>none,λ_ _ h=>by simp at h,.cF⟩
theorem cI.isInt{i:Int}(h:cI K G R τ fv H H1 v (.int i)):v=.int i:=by obtain⟨_,_,h⟩:=h;cases h;rfl
theorem cI.An{i:Bool}(h:cI K G R τ fv H H1 v (.bl i)):v=.bl i:=by obtain⟨_,_,h⟩:=h;cases h;rfl
noncomputable def rO:bt->bt
 |[]=>[]
 |[n]=>[n+1]
 |a::b::r=>a::rO (b::r)
theorem t4(c:bt)(n:Nat):rO (c++[n])=c++[n+1]:=by
 induction c with
 |nil=>rfl
 |cons a c e =>
  cases c with
  |nil=>rfl
  |cons b c=>show a::rO (b::c++[n])=_;rw[e];rfl
theorem aI.shift{T:nF}{N N':h_}(a:∀c n p xs f,N (c++[n]) p xs f->N' (c++[n+1]) p xs f):∀{n:Nat} {vs:ah} {ds:aa},aI T N [] n vs ds->aI T N' [] (n+1) vs ds
 |_,_,_,.nil=>.nil
 |n,_,_,.cons h t=>.cons (h.imp (q:=[n]) (q':=[n+1]) (λ_ _ h=>h) λc p xs f h=>a c n p xs f h) (aI.shift a t)
theorem cN.nil:cN K G R τ fv H H1 [] []:=⟨λ_=>none,λ_ _ h=>by simp at h,.nil⟩
open Classical in
theorem cN.cons(e1:aL H H1)(e2:aL H1 H2)(h:cI K G R τ fv H H1 v d)(t:cN K G R τ fv H1 H2 vs ds):cN K G R τ fv H H2 (v::vs) (d::ds):=by
 obtain⟨a,o,l⟩:=h;obtain⟨g,m,j⟩:=t;refine⟨λp=>if H1 p=none then(g p).map rO else(a p).map (· ++ [0]),λp q i=>?_,.cons (l.imp (q':=[0]) (λ_ _ h=>a_.same e2 h) λc p xs f h=>?_) (aI.shift (λc n p xs f h=>?_) j)⟩
 ·by_cases b:H1 p=none
  ·exact e1.free b
  ·simp only[b,if_false]at i;cases q1:a p with
   |none=>rw[q1]at i;simp at i
   |some k=>exact o p k q1
 ·have e:nd K R (j0 G τ fv) a H2 (c++[]) p xs f:=nd.same e2 h;cases f with
  |ow =>
   have b:H1 p≠none:=h.1.ne;refine⟨e.1,?_⟩;simp only[b,if_false];rw[h.2];simp
  |fz=>exact e
  |al=>exact e
  |sc=>exact e
 ·cases f with
  |ow =>
   have b:H1 p=none:=m p _ h.2;refine⟨h.1,?_⟩;simp only[b,if_true];rw[h.2];simp[t4]
  |fz=>exact h
  |al=>exact h
  |sc=>exact h
end
def tD(X:Cx)(F:ai)(Φ:bh)(c:CE):TE:=λσ H Q=>∃R τ ρ d,SI X F R τ ρ σ H/\bz Φ c ρ=ok d/\∀v H',aL H H'->cI X.K (gP X F) R τ (iX c) H H' v d->Q v H'
def tT(X:Cx)(F:ai)(Φ:bh)(cs:aH):TA:=λσ H Q=>∃R τ ρ ds,SI X F R τ ρ σ H/\b0 Φ cs ρ=ok ds/\∀vs H',aL H H'->cN X.K (gP X F) R τ (dX cs) H H' vs ds->Q vs H'
def ig(X:Cx)(F:ai)(Φ:bh)(c:CE):TT:=λσ H Q=>∃R τ ρ b,SI X F R τ ρ σ H/\u_ Φ c ρ=ok b/\∀H',aL H H'->Q b H'
theorem PE.imp{e:Expr}{t t':TE}(h:PE X e t)(a:∀σ H Q,t' σ H Q->t σ H Q):PE X e t':=λpins s σ H Q I hw=>h pins s σ H Q I (a σ H Q hw)
theorem PT.imp{e:Expr}{t t':TT}(h:PT X e t)(a:∀σ H Q,t' σ H Q->t σ H Q):PT X e t':=λpins s σ H Q I hw=>h pins s σ H Q I (a σ H Q hw)
theorem PW.imp{e:Expr}{t t':TT}(h:PW X e t)(b:∀σ H Q,t' σ H Q->t σ H Q):PW X e t':=λa pins s σ H Q I hw=>h a pins s σ H Q I (b σ H Q hw)
theorem PA.imp{es:aq}{t t':TA}(h:PA X es t)(b:∀σ H Q,t' σ H Q->t σ H Q):PA X es t':=λa pins s σ H Q I hw=>h a pins s σ H Q I (b σ H Q hw)
variable {st:Stmt}
theorem PS.imp{t t':TS}(h:PS X st t)(a:∀D σ H,t' D σ H->t D σ H):PS X st t':=λpins s σ H D I hw=>h pins s σ H D I (a D σ H hw)
theorem iY.imp{st:aO}{t t':TS}(h:iY X st t)(a:∀D σ H,t' D σ H->t D σ H):iY X st t':=λpins s σ H D I hw=>h pins s σ H D I (a D σ H hw)
theorem pH:∀(as bs:aa),eF as bs=true ↔ as.length=bs.length/\∀(j:Nat) (a b:D),as[j]?=some a->bs[j]?=some b->nu a b=true
 |[],[]=>by simp[eF]
 |[],b::bs=>by simp[eF]
 |a::as,[]=>by simp[eF]
 |a::as,b::bs=>by
  rw[eF,Bool.and_eq_true,pH as bs];constructor
  ·rintro ⟨h,g,e⟩;refine⟨by simp[g],λj x y d c=>?_⟩;cases j with
   |zero=>simp at d c;subst d c;exact h
   |succ j=>exact e j x y (by simpa using d) (by simpa using c)
  ·rintro ⟨g,e⟩;exact⟨e 0 a b rfl rfl,by simpa using g,λj x y d c=>e (j+1) x y (by simpa using d) (by simpa using c)⟩
def Sw(as bs:aa)(j:Nat):Bool:=match as[j]?,bs[j]? with
 |some a,some b=>nu a b
 |_,_=>false
theorem kh(as bs:aa):((List.range (min as.length bs.length)).all (Sw as bs)&&as.length==bs.length)=eF as bs:=by
 rw[Bool.eq_iff_iff,pH,Bool.and_eq_true,List.all_eq_true,beq_iff_eq];constructor
 ·rintro ⟨g,e⟩;refine⟨e,λj a b c d=>?_⟩;have i:j<as.length:=by
   by_cases h:j<as.length
   ·exact h
   ·rw[List.getElem?_eq_none (by left)]at c;cases c
  have:=g j (by rw[List.mem_range];left);unfold Sw at this;rw[c,d]at this;exact this
 ·rintro ⟨e,g⟩;refine⟨λj i=>?_,e⟩;rw[List.mem_range]at i;unfold Sw;have c:as[j]?=some as[j]:=aaH (by left);have d:bs[j]?=some bs[j]:=aaH (by left);rw[c,d];exact g j _ _ c d
section
variable {X:Cx}{pins:ao}{σ:St}{H:Hp}{s:Shared}{N N':h_}
theorem fy{n:Nat}(h:eU n (.tup ds)=true):∃m,n=m+1/\∀d∈ds,eU m d=true:=by
 cases n with
 |zero=>cases h
 |succ m=>exact⟨m,rfl,List.all_eq_true.mp h⟩
theorem fA{n:Nat}(h:eU n (.lst f ds)=true):∃m,n=m+1/\∀d∈ds,eU m d=true:=by
 cases n with
 |zero=>cases h
 |succ m=>exact⟨m,rfl,List.all_eq_true.mp h⟩
theorem yG(I:Inv X pins σ H s){p:Addr}(h:dW X.K H p xs)(h':a_ X.K H p ys):False:=by
 obtain⟨c,_,b,_⟩:=I.list h;obtain⟨a,_,pt,_⟩:=I.tuple h';exact SeqAt.ne_of_list_tuple b.isList pt rfl
theorem BV(I:Inv X pins σ H s)(y:∀q p xs f,N q p (.l xs) f->dW X.K H p xs)(B:∀q p xs f,N' q p (.l xs) f->dW X.K H p xs):
  ∀(n:Nat) {k k':bt} {v:V} {d d':D},Rep (a_ X.K H) N k v d->Rep (a_ X.K H) N' k' v d'->eU n d=true->eU n d'=true->nu d d'=true:=by
 intro n;induction n with
 |zero =>
  intro k k' v d d' h c e g;cases h with
  |cF=>cases c;rfl
  |bl b=>cases c;exact acj b
  |int i=>cases c;exact acj i
  |tup _ _=>obtain⟨m,u,_⟩:=fy e;left
  |lst _ _=>obtain⟨m,u,_⟩:=fA e;left
  |cn _ _=>cases e
 |succ n E =>
  have t:∀{q q':bt} {xs:ah} {ds ds':aa},aI (a_ X.K H) N q 0 xs ds->aI (a_ X.K H) N' q' 0 xs ds'->(∀d∈ds,eU n d=true)->(∀d∈ds',eU n d=true)->eF ds ds'=true:=by
   intro q q' xs ds ds' r o e g;rw[pH];refine⟨by rw[<- r.length,<- o.length],λj a b x w=>?_⟩;obtain⟨v1,J,r1⟩:=r.get x;obtain⟨v2,z,C⟩:=o.get w;rw[J]at z;cases z;exact E r1 C (e a (aaJ x)) (g b (aaJ w))
  intro k k' v d d' h c e g;cases h with
  |cF=>cases c;rfl
  |bl b=>cases c;exact acj b
  |int i=>cases c;exact acj i
  |tup h r =>
   obtain⟨m,u,e⟩:=fy e;obtain rfl:n=m:=by left
   cases c with
   |tup c o =>
    obtain⟨m,u,g⟩:=fy g;obtain rfl:n=m:=by left
    obtain rfl:=I.qC h c;exact t r o e g
   |lst c o=>exact(yG I (B _ _ _ _ c) h).elim
   |cn _ _=>cases g
  |lst h r =>
   obtain⟨m,u,e⟩:=fA e;obtain rfl:n=m:=by left
   cases c with
   |tup c o=>exact(yG I (y _ _ _ _ h) c).elim
   |lst c o =>
    obtain⟨m,u,g⟩:=fA g;obtain rfl:n=m:=by left
    obtain rfl:=I.kS (y _ _ _ _ h) (B _ _ _ _ c);exact t r o e g
   |cn _ _=>cases g
  |cn _ _=>cases e
structure Alike(A:aB)(s:Shared)(u u':Value)(b:Bool):Prop where
 eq:SeqAt.EqAt A s u u' b
 rc:SeqAt.RcAt A s u u' b
 ne:SeqAt.RcNeAt A s u u' (!b)
theorem alike(I:Inv X pins σ H s)(hN:∀q p xs f,N q p (.l xs) f->dW X.K H p xs)(P:∀q p xs f,N' q p (.l xs) f->dW X.K H p xs):
  ∀(n:Nat) (A:aB) {k k':bt} {v Z:V} {u u':Value} {d d':D},Rep (a_ X.K H) N k v d->Rep (a_ X.K H) N' k' Z d'->eU n d=true->eU n d'=true->RelV v u->RelV Z u'->A.units+n<cLine ->
   Alike A s u u' (nu d d'):=by
 intro n;induction n with
 |zero =>
  intro A k k' v Z u u' d d' h g E o r e hu;cases h with
  |tup _ _=>obtain⟨m,y,_⟩:=fy E;left
  |lst _ _=>obtain⟨m,y,_⟩:=fA E;left
  |cn _ _=>cases E
  |cF =>
   cases r;cases g with
   |tup _ _=>obtain⟨m,y,_⟩:=fy o;left
   |lst _ _=>obtain⟨m,y,_⟩:=fA o;left
   |cn _ _=>cases o
   |cF=>cases e;exact⟨acv _,SeqAt.RcAt.none_none,SeqAt.RcNeAt.none_none⟩
   |bl b=>cases e;exact⟨SeqAt.EqAt.none_bool b,SeqAt.RcAt.none_bool b,SeqAt.RcNeAt.none_bool b⟩
   |int b=>obtain⟨t,rfl⟩:=e;exact⟨SeqAt.EqAt.none_int b t,SeqAt.RcAt.none_int b t,SeqAt.RcNeAt.none_int b t⟩
  |bl a =>
   cases r;cases g with
   |tup _ _=>obtain⟨m,y,_⟩:=fy o;left
   |lst _ _=>obtain⟨m,y,_⟩:=fA o;left
   |cn _ _=>cases o
   |cF=>cases e;exact⟨SeqAt.EqAt.bool_none a,SeqAt.RcAt.bool_none a,SeqAt.RcNeAt.bool_none a⟩
   |bl b=>cases e;exact⟨SeqAt.EqAt.bool_bool a b,SeqAt.RcAt.bool_bool a b,SeqAt.RcNeAt.bool_bool a b⟩
   |int b=>obtain⟨t,rfl⟩:=e;exact⟨SeqAt.EqAt.bool_int a b t,SeqAt.RcAt.bool_int a b t,SeqAt.RcNeAt.bool_int a b t⟩
  |int a =>
   obtain⟨t',rfl⟩:=r;cases g with
   |tup _ _=>obtain⟨m,y,_⟩:=fy o;left
   |lst _ _=>obtain⟨m,y,_⟩:=fA o;left
   |cn _ _=>cases o
   |cF=>cases e;exact⟨SeqAt.EqAt.int_none a t',SeqAt.RcAt.int_none a t',SeqAt.RcNeAt.int_none a t'⟩
   |bl b=>cases e;exact⟨SeqAt.EqAt.int_bool a t' b,SeqAt.RcAt.int_bool a t' b,SeqAt.RcNeAt.int_bool a t' b⟩
   |int b=>obtain⟨t,rfl⟩:=e;exact⟨acG a t' b t,SeqAt.RcAt.int_int a t' b t,SeqAt.RcNeAt.int_int a t' b t⟩
 |succ n ih =>
  intro A k k' v Z u u' d d' h g E o r e hu;have c:A.units<cLine:=by left
  have Wx:A.in1.units+n<cLine:=by show A.units+1+n<cLine;left
  have S:∀{q q':bt} {xs xs':ah} {ds ds':aa} {w its':aw},aI (a_ X.K H) N q 0 xs ds->aI (a_ X.K H) N' q' 0 xs' ds'->(∀d∈ds,eU n d=true)->(∀d∈ds',eU n d=true)->Vals xs w->Vals xs' its' ->
    ∀(j:Nat) (h1:j<w.toArray.size) (h2:j<its'.toArray.size),SeqAt.EqAt A.in1 s w.toArray[j] its'.toArray[j] (Sw ds ds' j):=by
   intro q q' xs xs' ds ds' w its' z B hd HV J M j h1 h2;have L:ds.length=w.length:=by rw[<- z.length,J.length]
   have Q:ds'.length=its'.length:=by rw[<- B.length,M.length]
   simp only[List.size_toArray]at h1 h2;have ea:ds[j]?=some ds[j]:=aaH (by left);have eb:ds'[j]?=some ds'[j]:=aaH (by left);obtain⟨w1,g1,p1⟩:=z.get ea;obtain⟨w2,g2,p2⟩:=B.get eb;obtain⟨u1,k1,z1⟩:=J.get g1;obtain⟨u2,k2,z2⟩:=M.get g2;have:=(ih A.in1 p1 p2 (hd _ (aaU _)) (HV _ (aaU _)) z1 z2 Wx).eq;unfold Sw;rw[ea,eb];rw[List.getElem?_eq_getElem h1]at k1;rw[List.getElem?_eq_getElem h2]at k2;cases k1;cases k2;simpa using this
  cases h with
  |cF =>
   cases r;cases g with
   |cn _ _=>cases o
   |cF=>cases e;exact⟨acv _,SeqAt.RcAt.none_none,SeqAt.RcNeAt.none_none⟩
   |bl b=>cases e;exact⟨SeqAt.EqAt.none_bool b,SeqAt.RcAt.none_bool b,SeqAt.RcNeAt.none_bool b⟩
   |int b=>obtain⟨t,rfl⟩:=e;exact⟨SeqAt.EqAt.none_int b t,SeqAt.RcAt.none_int b t,SeqAt.RcNeAt.none_int b t⟩
   |tup g O=>cases e;obtain⟨w,_,pt,_⟩:=I.tuple g;exact⟨SeqAt.EqAt.none_tuple pt c,SeqAt.RcAt.none_tuple pt c,SeqAt.RcNeAt.none_tuple pt c⟩
   |lst g O=>cases e;obtain⟨w,_,pt,_⟩:=I.list (P _ _ _ _ g);exact⟨SeqAt.EqAt.none_list pt.isList c,SeqAt.RcAt.none_list pt.isList c,SeqAt.RcNeAt.none_list pt.isList c⟩
  |bl a =>
   cases r;cases g with
   |cn _ _=>cases o
   |cF=>cases e;exact⟨SeqAt.EqAt.bool_none a,SeqAt.RcAt.bool_none a,SeqAt.RcNeAt.bool_none a⟩
   |bl b=>cases e;exact⟨SeqAt.EqAt.bool_bool a b,SeqAt.RcAt.bool_bool a b,SeqAt.RcNeAt.bool_bool a b⟩
   |int b=>obtain⟨t,rfl⟩:=e;exact⟨SeqAt.EqAt.bool_int a b t,SeqAt.RcAt.bool_int a b t,SeqAt.RcNeAt.bool_int a b t⟩
   |tup g O=>cases e;obtain⟨w,_,pt,_⟩:=I.tuple g;exact⟨SeqAt.EqAt.bool_tuple a pt c,SeqAt.RcAt.bool_tuple a pt c,SeqAt.RcNeAt.bool_tuple a pt c⟩
   |lst g O=>cases e;obtain⟨w,_,pt,_⟩:=I.list (P _ _ _ _ g);exact⟨SeqAt.EqAt.bool_list a pt.isList c,SeqAt.RcAt.bool_list a pt.isList c,SeqAt.RcNeAt.bool_list a pt.isList c⟩
  |int a =>
   obtain⟨t',rfl⟩:=r;cases g with
   |cn _ _=>cases o
   |cF=>cases e;exact⟨SeqAt.EqAt.int_none a t',SeqAt.RcAt.int_none a t',SeqAt.RcNeAt.int_none a t'⟩
   |bl b=>cases e;exact⟨SeqAt.EqAt.int_bool a t' b,SeqAt.RcAt.int_bool a t' b,SeqAt.RcNeAt.int_bool a t' b⟩
   |int b=>obtain⟨t,rfl⟩:=e;exact⟨acG a t' b t,SeqAt.RcAt.int_int a t' b t,SeqAt.RcNeAt.int_int a t' b t⟩
   |tup g O=>cases e;obtain⟨w,_,pt,_⟩:=I.tuple g;exact⟨SeqAt.EqAt.int_tuple a t' pt c,SeqAt.RcAt.int_tuple a t' pt c,SeqAt.RcNeAt.int_tuple a t' pt c⟩
   |lst g O=>cases e;obtain⟨w,_,pt,_⟩:=I.list (P _ _ _ _ g);exact⟨SeqAt.EqAt.int_list a t' pt.isList c,SeqAt.RcAt.int_list a t' pt.isList c,SeqAt.RcNeAt.int_list a t' pt.isList c⟩
  | @tup _ p xs ds h z =>
   cases r;obtain⟨w,J,pt,_⟩:=I.tuple h;have pt:s.heap.IsTuple p w.toArray:=pt;cases g with
   |cn _ _=>cases o
   |cF=>cases e;exact⟨SeqAt.EqAt.tuple_none pt c,SeqAt.RcAt.tuple_none pt c,SeqAt.RcNeAt.tuple_none pt c⟩
   |bl b=>cases e;exact⟨SeqAt.EqAt.tuple_bool b pt c,SeqAt.RcAt.tuple_bool b pt c,SeqAt.RcNeAt.tuple_bool b pt c⟩
   |int b=>obtain⟨t,rfl⟩:=e;exact⟨SeqAt.EqAt.tuple_int b t pt c,SeqAt.RcAt.tuple_int b t pt c,SeqAt.RcNeAt.tuple_int b t pt c⟩
   |lst g O=>cases e;obtain⟨its',_,i,_⟩:=I.list (P _ _ _ _ g);exact⟨SeqAt.EqAt.tuple_list pt i.isList c,SeqAt.RcAt.tuple_list pt i.isList c,SeqAt.RcNeAt.tuple_list pt i.isList c⟩
   | @tup _ C xs' ds' g B =>
    cases e;obtain⟨m,y,Kf⟩:=fy E;obtain rfl:n=m:=by left
    obtain⟨m,y,sG⟩:=fy o;obtain rfl:n=m:=by left
    obtain⟨its',M,T7,_⟩:=I.tuple g;have T7:s.heap.IsTuple C its'.toArray:=T7;have x:=S z B Kf sG J M;have L:ds.length=w.toArray.size:=by rw[List.size_toArray,<- z.length,J.length]
    have Q:ds'.length=its'.toArray.size:=by rw[List.size_toArray,<- B.length,M.length]
    have rc:SeqAt.RcAt A s (.ref p) (.ref C) (nu (.tup ds) (.tup ds')):=by
     have:=SeqAt.RcAt.tuples pt T7 c x;rw[<- L,<- Q,kh]at this;exact this
    refine⟨?_,rc,?_⟩
    ·by_cases W:p=C
     ·subst W;rw[BV I hN P (n+1) (Rep.tup h z) (Rep.tup g B) E o];exact acv _
     ·exact SeqAt.EqAt.of_refs W rc
    ·have:=SeqAt.RcNeAt.tuples pt T7 c x;rw[<- L,<- Q,kh]at this;exact this
  | @lst _ p xs f ds h z =>
   cases r;obtain⟨w,J,i,_⟩:=I.list (hN _ _ _ _ h);have i:=i.isList;cases g with
   |cn _ _=>cases o
   |cF=>cases e;exact⟨SeqAt.EqAt.list_none i c,SeqAt.RcAt.list_none i c,SeqAt.RcNeAt.list_none i c⟩
   |bl b=>cases e;exact⟨SeqAt.EqAt.list_bool b i c,SeqAt.RcAt.list_bool b i c,SeqAt.RcNeAt.list_bool b i c⟩
   |int b=>obtain⟨t,rfl⟩:=e;exact⟨SeqAt.EqAt.list_int b t i c,SeqAt.RcAt.list_int b t i c,SeqAt.RcNeAt.list_int b t i c⟩
   |tup g O=>cases e;obtain⟨its',_,pt,_⟩:=I.tuple g;exact⟨SeqAt.EqAt.list_tuple i pt c,SeqAt.RcAt.list_tuple i pt c,SeqAt.RcNeAt.list_tuple i pt c⟩
   | @lst _ C xs' f' ds' g B =>
    cases e;obtain⟨m,y,Kf⟩:=fA E;obtain rfl:n=m:=by left
    obtain⟨m,y,sG⟩:=fA o;obtain rfl:n=m:=by left
    obtain⟨its',M,R,_⟩:=I.list (P _ _ _ _ g);have R:=R.isList;have x:=S z B Kf sG J M;have L:ds.length=w.toArray.size:=by rw[List.size_toArray,<- z.length,J.length]
    have Q:ds'.length=its'.toArray.size:=by rw[List.size_toArray,<- B.length,M.length]
    have two:SeqAt.RcAt A s (.ref p) (.ref C) (nu (.lst f ds) (.lst f' ds'))/\SeqAt.RcNeAt A s (.ref p) (.ref C) (!nu (.lst f ds) (.lst f' ds')):=by
     show SeqAt.RcAt A s (.ref p) (.ref C) (eF ds ds')/\SeqAt.RcNeAt A s (.ref p) (.ref C) (!eF ds ds');rw[<- kh];by_cases Y:ds.length=ds'.length
     ·have e1:(ds.length==ds'.length)=true:=by simp[Y]
      rw[e1,Bool.and_true,<- Y,Nat.min_self];have U:w.toArray.size=its'.toArray.size:=by rw[<- L,<- Q,Y]
      refine⟨?_,?_⟩
      ·have:=SeqAt.RcAt.lists i R U c x;rw[<- L]at this;exact this
      ·have:=SeqAt.RcNeAt.lists i R U c x;rw[<- L]at this;exact this
     ·have e1:(ds.length==ds'.length)=false:=by simp[Y]
      rw[e1,Bool.and_false];have U:(w.toArray.size != its'.toArray.size)=true:=by rw[<- L,<- Q];simp[Y]
      exact⟨SeqAt.RcAt.lists_lengths i R U c,SeqAt.RcNeAt.lists_lengths i R U c⟩
    refine⟨?_,two.1,two.2⟩;by_cases W:p=C
    ·subst W;rw[BV I hN P (n+1) (Rep.lst h z) (Rep.lst g B) E o];exact acv _
    ·exact SeqAt.EqAt.of_refs W two.1
  |cn _ _=>cases E
end
structure Px where
 pe:Nat->Scope->ak->Expr->Option (aq)
 pi:Nat->Scope->ak->Expr->Option (aq)
 pm:Nat->Scope->ak->Stmt->Option (Expr×aq)
 p2:Nat->Scope->ak->Stmt->Option (Expr×aq):=λ_ _ _ _=>none
structure Sx where
 sc:Scope
 N:ak
 fn:Nat->Option Str
 bl:ak
 cs:List (Str×GK)
 px:Px
noncomputable def QJ:Jr->Operator
 |.add=>.Add|.sub=>.Sub|.mul=>.Mult|.fdiv=>.FloorDiv|.mod=>.Mod|.pow=>.Pow|.shl=>.LShift
noncomputable def VZ:Bm->CmpOp
 |.eq=>.Eq|.ne=>.NotEq|.lt=>.Lt|.le=>.LtE|.gt=>.Gt|.ge=>.GtE
noncomputable def tyName:Ty->String
 |.int=>"int" |.bool=>"bool" |.list=>"list" |.tuple=>"tuple"
noncomputable def tm:Bf->String
 |.len=>"len" |.abs=>"abs" |.uM=>"int" |.list1=>"list" |.tuple1=>"tuple" |.gy=>"sum" |.all1=>"all" |.il=>"sorted"
noncomputable def K0(sc:Scope)(x:Str):Bool:=decide (sc.names.lookup x=some .local)||decide (sc.names.lookup x=some .cell)||decide (sc.names.lookup x=some .free)
noncomputable def iB(sc:Scope)(x:Str):Bool:=decide (sc.names.lookup x=some .globalImplicit)
noncomputable def oR(x:Str):Bool:=!(x==("__debug__" : Str))&&!(x==("__classdict__" : Str))&&decide (x≠("__name__" : Str))
noncomputable def qO:Expr->Bool
 |.Set _ _ _=>false
 |_=>true
noncomputable def uh(sc outer:Scope):Scope :=
 { sc with names:=sc.names.map λ(n,k)=>if (k==.free&&outer.kind==.function&&outer.names.lookup n==some .cell)then(n,.cell)else(n,k) }
noncomputable def cA:Expr->ak
 |.Name x _=>[x]
 |.Tuple a _ _=>a.filterMap λe=>match e with|.Name x _=>some x|_=>none
 |_=>[]
noncomputable def gA(S:Sx)(caps:aN):ak:=caps.filterMap λi=>S.N[i]?
def Sx.inner(S:Sx)(target:Expr)(caps:aN)(sc:Scope):Sx:=⟨uh sc S.sc,cA target++gA S caps,S.fn,S.bl,S.cs,S.px⟩
noncomputable def jk:Expr->Bool
 |.Tuple _ _ _=>true
 |_=>false
noncomputable def isNm(e:Expr):Bool:=decide (e.ctorIdx=23)
theorem kZ{e:Expr}(h:isNm e=true):∃x p,e=.Name x p:=Expr.Name.elim (motive_1:=λe=>∃x p,e=.Name x p) e (aab h) λx p=>⟨x,p,rfl⟩
noncomputable def prE:Expr->Bool
 |.Call ..=>true
 |.BinOp ..=>true
 |.Subscript ..=>true
 |.Compare ..=>true
 |.Dict ..=>true
 |_=>false
noncomputable def T9:Expr->Bool
 |.Call ..=>true
 |.Name ..=>true
 |_=>false
theorem aM{a b:Bool}(h:(a&&b)=true):a=true/\b=true:=by
 cases a<;>cases b<;>first|exact⟨rfl,rfl⟩|cases h
noncomputable def bG{b:Type}(o:Option b)(f:b->Bool):Bool:=match o with
 |some a=>f a
 |none=>false
theorem bF{b:Type}{o:Option b}{f:b->Bool}(h:bG o f=true):∃a,o=some a/\f a=true:=by
 cases o with
 |some a=>exact⟨a,rfl,h⟩
 |none=>cases h
theorem dI{a:Type}{c:Prop}[Decidable c]{f:c->Option a}{x:a}(h:(if h:c then f h else none)=some x):∃k:c,f k=some x:=by
 by_cases k:c
 ·rw[dif_pos k]at h;exact⟨k,h⟩
 ·rw[dif_neg k]at h;cases h
theorem bT{d c:Type}{o:Option d}{f:d->Option c}{b:c}(h:o.bind f=some b):∃a,o=some a/\f a=some b:=Option.bind_eq_some_iff.mp h
theorem gT{a:Type}{c:Prop}[Decidable c]{o:Option a}{b:a}(h:(if c then o else none)=some b):c/\o=some b:=by
 by_cases k:c
 ·rw[if_pos k]at h;exact⟨k,h⟩
 ·rw[if_neg k]at h;cases h
noncomputable def vC(e:Expr):Option Const:=if h:e.ctorIdx=19 then Expr.Constant.elim (motive_1:=λ_=>Option Const) e h (λc _ _=>some c)else none
theorem Bu{e:Expr}{c:Const}(h:vC e=some c):∃j p,e=.Constant c j p:=by
 obtain⟨k,h⟩:=dI h;exact Expr.Constant.elim (motive_1:=λe=>∀k:e.ctorIdx=19,Expr.Constant.elim (motive_1:=λ_=>Option Const) e k (λc _ _=>some c)=some c->∃j p,e=.Constant c j p) e k (λ_ _ _ _ h=>by cases h;exact⟨_,_,rfl⟩) k h
noncomputable def DA:Const->Bool
 |.none=>true
 |_=>false
theorem Ak{c:Const}(h:DA c=true):c=.none:=by cases c<;>first|rfl|cases h
noncomputable def Kb(b:Bool):Const->Bool
 |.bool c=>decide (b=c)
 |_=>false
theorem DC{b:Bool}{c:Const}(h:Kb b c=true):c=.bool b:=by cases c<;>first | (cases h;done)|rw[of_decide_eq_true h]
noncomputable def DB(b:Int):Const->Bool
 |.int c=>decide (b=c)
 |_=>false
theorem Al{b:Int}{c:Const}(h:DB b c=true):c=.int b:=by cases c<;>first | (cases h;done)|rw[of_decide_eq_true h]
noncomputable def K4(e:Expr):Option Str:=if h:e.ctorIdx=23 then Expr.Name.elim (motive_1:=λ_=>Option Str) e h (λx _=>some x)else none
theorem j8{e:Expr}{x:Str}(h:K4 e=some x):∃p,e=.Name x p:=by
 obtain⟨k,h⟩:=dI h;exact Expr.Name.elim (motive_1:=λe=>∀k:e.ctorIdx=23,Expr.Name.elim (motive_1:=λ_=>Option Str) e k (λx _=>some x)=some x->∃p,e=.Name x p) e k (λ_ _ _ h=>by cases h;exact⟨_,rfl⟩) k h
noncomputable def Pu(e:Expr):Option (Expr×Operator×Expr):=if h:e.ctorIdx=2 then Expr.BinOp.elim (motive_1:=λ_=>Option (Expr×Operator×Expr)) e h (λl o r _=>some (l,o,r))else none
theorem F7{e l r:Expr}{o:Operator}(h:Pu e=some (l,o,r)):∃p,e=.BinOp l o r p:=by
 obtain⟨k,h⟩:=dI h;exact Expr.BinOp.elim (motive_1:=λe=>∀k:e.ctorIdx=2,Expr.BinOp.elim (motive_1:=λ_=>Option (Expr×Operator×Expr)) e k (λl o r _=>some (l,o,r))=some (l,o,r)->∃p,e=.BinOp l o r p) e k (λ_ _ _ _ _ h=>by cases h;exact⟨_,rfl⟩) k h
noncomputable def U1(e:Expr):Option (UnaryOp×Expr):=if h:e.ctorIdx=3 then Expr.UnaryOp.elim (motive_1:=λ_=>Option (UnaryOp×Expr)) e h (λo e _=>some (o,e))else none
theorem Br{e x:Expr}{o:UnaryOp}(h:U1 e=some (o,x)):∃p,e=.UnaryOp o x p:=by
 obtain⟨k,h⟩:=dI h;exact Expr.UnaryOp.elim (motive_1:=λe=>∀k:e.ctorIdx=3,Expr.UnaryOp.elim (motive_1:=λ_=>Option (UnaryOp×Expr)) e k (λo e _=>some (o,e))=some (o,x)->∃p,e=.UnaryOp o x p) e k (λ_ _ _ _ h=>by cases h;exact⟨_,rfl⟩) k h
noncomputable def vBool(e:Expr):Option (BoolOp×aq):=if h:e.ctorIdx=0 then Expr.BoolOp.elim (motive_1:=λ_=>Option (BoolOp×aq)) e h (λo vs _=>some (o,vs))else none
theorem tM{e:Expr}{o:BoolOp}{vs:aq}(h:vBool e=some (o,vs)):∃p,e=.BoolOp o vs p:=by
 obtain⟨k,h⟩:=dI h;exact Expr.BoolOp.elim (motive_1:=λe=>∀k:e.ctorIdx=0,Expr.BoolOp.elim (motive_1:=λ_=>Option (BoolOp×aq)) e k (λo vs _=>some (o,vs))=some (o,vs)->∃p,e=.BoolOp o vs p) e k (λ_ _ _ _ h=>by cases h;exact⟨_,rfl⟩) k h
noncomputable def one{a:Type}:List a->Option a
 |[]=>none
 |x::xs=>match xs with
  |[]=>some x
  |_::_=>none
theorem cO{a:Type}{l:List a}{x:a}(h:one l=some x):l=[x]:=by
 cases l with
 |nil=>cases h
 |cons y ys=>cases ys with
  |nil=>cases h;rfl
  |cons _ _=>cases h
def two{a:Type}:List a->Option (a×a)
 |[]=>none
 |x::xs=>(one xs).map λy=>(x,y)
theorem gx{a:Type}{l:List a}{x y:a}(h:two l=some (x,y)):l=[x,y]:=by
 cases l with
 |nil=>cases h
 |cons z b=>cases b with
  |nil=>cases h
  |cons w c=>cases c with
   |nil=>cases h;rfl
   |cons _ _=>cases h
noncomputable def U2{a:Type}:List a->Option (a×List a)
 |[]=>none
 |x::xs=>some (x,xs)
theorem Bx{a:Type}{l xs:List a}{x:a}(h:U2 l=some (x,xs)):l=x::xs:=by
 cases l with
 |nil=>cases h
 |cons y ys=>cases h;rfl
noncomputable def K6(e:Expr):Option (Expr×List CmpOp×aq):=if h:e.ctorIdx=15 then Expr.Compare.elim (motive_1:=λ_=>Option (Expr×List CmpOp×aq)) e h (λl b a _=>some (l,b,a))else none
theorem xS{e l:Expr}{b:List CmpOp}{a:aq}(h:K6 e=some (l,b,a)):∃p,e=.Compare l b a p:=by
 obtain⟨k,h⟩:=dI h;exact Expr.Compare.elim (motive_1:=λe=>∀k:e.ctorIdx=15,Expr.Compare.elim (motive_1:=λ_=>Option (Expr×List CmpOp×aq)) e k (λl b a _=>some (l,b,a))=some (l,b,a)->∃p,e=.Compare l b a p) e k (λ_ _ _ _ _ h=>by cases h;exact⟨_,rfl⟩) k h
noncomputable def Bt(e:Expr):Option (Expr×aq×List Keyword):=if h:e.ctorIdx=16 then Expr.Call.elim (motive_1:=λ_=>Option (Expr×aq×List Keyword)) e h (λf as a _=>some (f,as,a))else none
variable {args as elts:aq}
theorem zT{e f:Expr}{ks:List Keyword}(h:Bt e=some (f,as,ks)):∃p,e=.Call f as ks p:=by
 obtain⟨k,h⟩:=dI h;exact Expr.Call.elim (motive_1:=λe=>∀k:e.ctorIdx=16,Expr.Call.elim (motive_1:=λ_=>Option (Expr×aq×List Keyword)) e k (λf as ks _=>some (f,as,ks))=some (f,as,ks)->∃p,e=.Call f as ks p) e k (λ_ _ _ _ _ h=>by cases h;exact⟨_,rfl⟩) k h
def gJ(e:Expr):Option (Str×aq):=(Bt e).bind λz=>if z.2.2.isEmpty=true then(K4 z.1).bind λx=>some (x,z.2.1)else none
theorem CZ{a:Type}{l:List a}(h:l.isEmpty=true):l=[]:=List.isEmpty_iff.mp h
theorem cY{e:Expr}{x:Str}(h:gJ e=some (x,as)):∃p a,e=.Call (.Name x p) as [] a:=by
 obtain⟨⟨f,g,i⟩,b,h⟩:=bT h;obtain⟨d,h⟩:=gT h;obtain⟨y,c,h⟩:=bT h;cases h;obtain⟨a,rfl⟩:=zT b;obtain⟨p,rfl⟩:=j8 c;obtain rfl:=CZ d;exact⟨p,a,rfl⟩
noncomputable def tL(e:Expr):Option (Expr×Expr):=if h:e.ctorIdx=21 then Expr.Subscript.elim (motive_1:=λ_=>Option (Expr×Expr)) e h (λa b _=>some (a,b))else none
theorem jy{e a b:Expr}(h:tL e=some (a,b)):∃p,e=.Subscript a b p:=by
 obtain⟨k,h⟩:=dI h;exact Expr.Subscript.elim (motive_1:=λe=>∀k:e.ctorIdx=21,Expr.Subscript.elim (motive_1:=λ_=>Option (Expr×Expr)) e k (λa b _=>some (a,b))=some (a,b)->∃p,e=.Subscript a b p) e k (λ_ _ _ _ h=>by cases h;exact⟨_,rfl⟩) k h
noncomputable def zS(e:Expr):Option (aq):=if h:e.ctorIdx=25 then Expr.Tuple.elim (motive_1:=λ_=>Option (aq)) e h (λa _ _=>some a)else none
theorem jx{e:Expr}{es:aq}(h:zS e=some es):∃n p,e=.Tuple es n p:=by
 obtain⟨k,h⟩:=dI h;exact Expr.Tuple.elim (motive_1:=λe=>∀k:e.ctorIdx=25,Expr.Tuple.elim (motive_1:=λ_=>Option (aq)) e k (λes _ _=>some es)=some es->∃n p,e=.Tuple es n p) e k (λ_ _ _ _ h=>by cases h;exact⟨_,_,rfl⟩) k h
noncomputable def K5(e:Expr):Option (aq):=if h:e.ctorIdx=24 then Expr.List.elim (motive_1:=λ_=>Option (aq)) e h (λa _=>some a)else none
theorem xR{e:Expr}{es:aq}(h:K5 e=some es):∃p,e=.List es p:=by
 obtain⟨k,h⟩:=dI h;exact Expr.List.elim (motive_1:=λe=>∀k:e.ctorIdx=24,Expr.List.elim (motive_1:=λ_=>Option (aq)) e k (λes _=>some es)=some es->∃p,e=.List es p) e k (λ_ _ _ h=>by cases h;exact⟨_,rfl⟩) k h
noncomputable def Ju(e:Expr):Option (Expr×List Comprehension×Scope):=if h:e.ctorIdx=8 then Expr.ListComp.elim (motive_1:=λ_=>Option (Expr×List Comprehension×Scope)) e h (λe b a _=>some (e,b,a))else none
theorem Bs{e x:Expr}{gs:List Comprehension}{sc:Scope}(h:Ju e=some (x,gs,sc)):∃p,e=.ListComp x gs sc p:=by
 obtain⟨k,h⟩:=dI h;exact Expr.ListComp.elim (motive_1:=λe=>∀k:e.ctorIdx=8,Expr.ListComp.elim (motive_1:=λ_=>Option (Expr×List Comprehension×Scope)) e k (λe gs sc _=>some (e,gs,sc))=some (x,gs,sc)->∃p,e=.ListComp x gs sc p) e k (λ_ _ _ _ _ h=>by cases h;exact⟨_,rfl⟩) k h
theorem fI{a:Bool}(h:(!a)=true):a=false:=by cases a<;>first|rfl|cases h
def sY(S:Sx)(n:Nat)(t:Tg)(caps:aN)(target:Expr)(sc:Scope):Bool :=
 decide (sc.kind=.function)&&sc.names.all (λ(x,k)=>decide (k≠.cell)&&(decide (k≠.local)||decide (sc.names.lookup x=some .local))&&(decide (k≠.free)||decide (S.sc.names.lookup x=some .cell)||decide (S.sc.names.lookup x=some .free))) &&
 decide (n=(cA target).length)&&(cA target).all (λx=>decide (sc.names.lookup x=some .local))&&decide (cA target++gA S caps).Nodup &&
 caps.all (λi=>match S.N[i]? with|some x=>decide (sc.names.lookup x=some .free)|none=>false) &&
 (match t with
  |.nm i=>decide (i=0)&&isNm target
  |.tp is=>bG (zS target) λa=>decide (is=List.range a.length)&&a.all isNm)
mutual
noncomputable def cq(S:Sx):CE->Expr->Bool
 |.cS p es,e0=>prE e0&&bG (S.px.pe p S.sc S.bl e0) λxs=>bO S es xs
 |.cF,e0=>bG (vC e0) λc=>DA c
 |.bl b,e0=>bG (vC e0) λc=>Kb b c
 |.int i,e0=>bG (vC e0) λc=>DB i c
 |.v i,e0=>bG (K4 e0) λx=>decide (S.N[i]?=some x)&&K0 S.sc x&&oR x
 |.glo x i,e0=>bG (K4 e0) λy=>decide (y=x)&&iB S.sc x&&decide ((x,GK.i i)∈S.cs)&&!(x==("__debug__" : Str))
 |.bin op a b,e0=>bG (Pu e0) λz=>decide (z.2.1=QJ op)&&cq S a z.1&&cq S b z.2.2
 |.neg a,e0=>bG (U1 e0) λz=>decide (z.1=.USub)&&cq S a z.2
 |.not a,e0=>bG (U1 e0) λz=>decide (z.1=.Not)&&cq S a z.2
 |.and es,e0=>bG (vBool e0) λz=>decide (z.1=.And)&&bO S es z.2
 |.or es,e0=>bG (vBool e0) λz=>decide (z.1=.Or)&&bO S es z.2
 |.cmp op a b,e0=>bG (K6 e0) λz=>decide (z.2.1=[VZ op])&&cq S a z.1&&bG (one z.2.2) λr=>cq S b r&&qO r
 |.lg a t,e0=>bG (gJ e0) λz=>decide (z.1=("isinstance" : Str))&&iB S.sc z.1&&decide (z.1∈S.bl)&&bG (two z.2) λy=>cq S a y.1&&bG (K4 y.2) λx=>decide (x=(tyName t:Str))&&iB S.sc x&&decide (x∈S.bl)
 |.call f es,e0=>bG (gJ e0) λz=>decide (S.fn f=some z.1)&&iB S.sc z.1&&oR z.1&&bG (U2 z.2) λy=>bO S es (y.1::y.2)
 |.bf f es,e0=>bG (gJ e0) λz=>decide (z.1=(tm f:Str))&&iB S.sc z.1&&decide (z.1∈S.bl)&&bG (U2 z.2) λy=>bO S es (y.1::y.2)
 |.kR a,e0=>bG (gJ e0) λz=>decide (z.1=("len" : Str))&&iB S.sc z.1&&decide (z.1∈S.bl)&&bG (one z.2) λy=>bG (gJ y) λw=>decide (w.1=("set" : Str))&&iB S.sc w.1&&decide (w.1∈S.bl)&&bG (one w.2) λu=>cq S a u
 |.ix a b,e0=>bG (tL e0) λz=>cq S a z.1&&cq S b z.2
 |.tup es,e0=>bG (zS e0) λxs=>bO S es xs&&decide (es.length<=1000)
 |.lst es,e0=>bG (K5 e0) λxs=>bO S es xs&&decide (es.length<=1000)
 |.comp n t caps ik es bR elt,e0=>bG (Ju e0) λz=>bG (one z.2.1) λg=>decide (g.is_async=0)&&sY S n t caps g.target z.2.2&&qO g.iter&&decide (bR.length<=1)&&bO (S.inner g.target caps z.2.2) bR g.ifs&&cq (S.inner g.target caps z.2.2) elt z.1 &&
     (match ik with
      |.lY=>bG (gJ g.iter) λw=>decide (w.1=("range" : Str))&&iB S.sc w.1&&decide (w.1∈S.bl)&&bG (one w.2) λy=>bO S es [y]
      |.seq=>bO S es [g.iter]
      |.cS p=>T9 g.iter&&(decide (1100<=p)||jk g.target)&&bG (S.px.pi p S.sc S.bl g.iter) λxs=>bO S es xs)
noncomputable def bO(S:Sx):aH->aq->Bool
 |[],es=>match es with
  |[]=>true
  |_::_=>false
 |c::cs,es=>match es with
  |[]=>false
  |e::es=>cq S c e&&bO S cs es
end
def A4(K:av)(n:Nat)(m:aE):Sp:=λvs H Q _=>∃(F:ai) (ds:aa) (r:D),vs.length=n/\aI (a_ K H) (nd K F (λ_=>False) (λ_=>none) H) [] 0 vs ds/\m ds=ok r /\
 ∀v H',aL H H'->(∃τt:Addr->Option bt,(∀p q,τt p=some q->H p=none)/\Rep (a_ K H') (nd K (λp=>F p\/H p=none) (λ_=>False) τt H') [] v r)->Q v H'
structure Of(X:Cx)(k:Nat)(x:Str)(m:aE):Prop where
 ex:∃(f:Addr) (fd:FuncData) (ps:ak),dq X.prog X.w X.K X.mg X.base rE k f fd ps (A4 X.K ps.length m)/\X.mg x=some (.ref f)/\PySem.W.keepIn X.K (.ref f)=true/\Binds X.K fd ps []/\∀ds r,m ds=ok r->ds.length=ps.length
noncomputable def kinds:List String:=["NoneType","bool","int","str","list","tuple","dict"]
def Rb:Ty->String->Bool
 |.int,s=>s == "int" ||s == "bool"
 |t,s=>s==tyName t
theorem aL.upd{H:Hp}{p:Addr}{o:HO}(h:H p=none):aL H (upd H p o):=λb u e=>by
 rw[bq (by rintro rfl;rw[h]at e;cases e)];exact e
theorem ux{i j:Int}(h:fm i j=true):IntMulOk i j:=by
 unfold fm at h;simp only[Bool.or_eq_true,Bool.and_eq_true,decide_eq_true_eq]at h;rcases h with (h|h)|⟨c,b⟩
 ·exact .of_left (intBits_le h)
 ·exact .of_right (intBits_le h)
 ·have e:Builtin.Int.intBits i<=9000:=intBits_le c;have d:Builtin.Int.intBits j<=9000:=intBits_le b;unfold IntMulOk;have a:Builtin.Int.intTooBig ((Builtin.Int.intBits i:Int)+(Builtin.Int.intBits j:Int))=false:=by
   unfold Builtin.Int.intTooBig;have:(bitsLine:Int)=134217728:=by decide
   exact abw (by left)
  rw[a];simp
section
variable {K:av}{R:ai}{τ τt:Addr->Option bt}{fv:aN}{H H':Hp}
theorem Ho:nH X (binaryOp .Add) (λx y H Q=>∃a b xs ys,x=.ref a/\y=.ref b/\a_ X.K H a xs/\a_ X.K H b ys/\xs.length+ys.length<=sizeLine/\(xs=[]->Q (.ref b) H)/\(ys=[]->Q (.ref a) H)/\∀p,H p=none->Q (.ref p) (upd H p (.tup (xs++ys)))):=by
 intro pins s σ H x y v u Q I t r h;obtain⟨a,b,xs,ys,rfl,rfl,l,k,E,q0,q1,w⟩:=h;cases t;cases r;by_cases g:xs=[]
 ·subst g;obtain⟨N,r1,B,_⟩:=I.tuple l;obtain⟨C,M,z,_⟩:=I.tuple k;cases r1;obtain⟨⟨L,J,data,q⟩,i,j,n,hd⟩:=id B;obtain⟨⟨O,m,data2,o⟩,e,d,D,c⟩:=id z;simp only at j hd d c;subst j hd d c;exact concat_meets ⟨_,i,rfl⟩ ⟨_,e,rfl⟩ noFill_tuple_add seq_tuple_add acd aca (ab6 _ _)
   (tuple_addW0 a b [].toArray C.toArray n D J m q o rfl) ⟨i,e,⟨.ref b,H,I,rfl,q0 rfl⟩⟩
 ·exact Hn pins s σ H (.ref a) (.ref b) _ _ Q I rfl rfl ⟨a,b,xs,ys,rfl,rfl,l,k,g,E,q1,λ_=>w⟩
theorem nd.uX(k k':bt)(p:Addr)(xs:Nd)(f:Fl)(h:nd K R A (λ_=>none) H k p xs f):nd K R A (λ_=>none) H k' p xs f:=by
 cases f with
 |ow=>exact nomatch h.2
 |fz=>exact h
 |al=>exact h
 |sc=>exact h
theorem QP(b:SI X F R τ ρ σ H)(a:∀p q,τt p=some q->H p=none)(k k':bt)(p:Addr)(xs:Nd)(f:Fl)(h:nd K R (j0 (gP X F) τ fv) τt H' k p xs f):
  nd K R (j0 (gP X F) τ fv) (λ_=>none) H' k' p xs (bp f):=by
 cases f with
 |ow=>exact⟨h.1,.inr (b.same.free (a p _ h.2)),λc i e=>absurd (a p _ h.2) (b.th p _ e)⟩
 |fz=>exact h
 |al=>exact h
 |sc=>exact h
theorem aI.iR{k:bt}{n:Nat}(h:aI (a_ K H') (nd K R (j0 (gP X F) τ fv) τt H') k n xs ds)(b:SI X F R τ ρ σ H)(a:∀p q,τt p=some q->H p=none){n':Nat}:
  aI (a_ K H') (nd K R (j0 (gP X F) τ fv) (λ_=>none) H') k' n' xs (aA bp ds):=aI.iy (λ_ _ h=>h) (QP b a) h _ _
theorem Rep.iR{k:bt}{v:V}{d:D}(h:Rep (a_ K H') (nd K R (j0 (gP X F) τ fv) τt H') k v d)(b:SI X F R τ ρ σ H)(a:∀p q,τt p=some q->H p=none):
  Rep (a_ K H') (nd K R (j0 (gP X F) τ fv) (λ_=>none) H') k' v (aR bp d):=Rep.iy (λ_ _ h=>h) (QP b a) h _
theorem cI.Ab{p:Addr}(d:H p=none)(e:aL H H')(g:H' p=some (.lst xs))(r:aI (a_ K H') (nd K R (j0 G τ fv) (λ_=>none) H') [] 0 xs ds):cI K G R τ fv H H' (.ref p) (.lst .ow ds):=by
 refine⟨λq=>if q=p then some []else none,λq k b=>?_,.lst ⟨g,by simp⟩ (r.imp (λ_ _ h=>h) λc q xs f h=>?_)⟩
 ·by_cases a:q=p
  ·subst a;exact d
  ·simp[a]at b
 ·cases f with
  |ow=>exact nomatch h.2
  |fz=>exact h
  |al=>exact h
  |sc=>exact h
end
theorem HC(K:av):∀t:Ty,∀s∈kinds,PySem.W.kitOne K (.type s) (.type (tyName t))=some (Rb t s):=by
 intro t s a;simp only[kinds,List.mem_cons,List.not_mem_nil,or_false]at a;cases t<;>rcases a with rfl|rfl|rfl|rfl|rfl|rfl|rfl<;>rfl
structure PX(X:Cx)(sc:Scope)(bl:ak)(k:Nat):Prop where
 sc:X.env.scope=sc
 calm:X.calm=true
 room:fY k X.A
 bl:∀x∈bl,X.mg x=none
theorem PX.gl{sc:Scope}{bl:ak}{k:Nat}(L:PX X sc bl k){x:Str}(h:iB sc x=true):Gl X x:=by
 unfold Gl;show X.env.scope.names.lookup x=some .globalImplicit;rw[L.sc];exact aab h
def nG(X:Cx)(F:ai)(Φ:bh):aH->aq->Prop
 |[],[]=>True
 |c::cs,a::as=>PE X a (tD X F Φ c)/\(∀b,starEach (a::b) X.env=(false,eval a X.env)::starEach b X.env)/\oo a/\nG X F Φ cs as
 |_,_=>False
structure vE(K:av)(H2:Hp)(vs:ah)(xs:aa)(H':Hp):Prop where
 n0:∃R0:ai,aI (a_ K H2) (nd K R0 (λ_=>False) (λ_=>none) H2) [] 0 vs (aA aZ xs)/\∀p o,R0 p->H2 p=some o->H' p=some o
 tp:∀a ys,a_ K H2 a ys->a_ K H' a ys
structure Td(K:av)(J:It)(H2:Hp)(vs:ah)(xs items:aa):Prop where
 go:∀i H' R',vE K H2 vs xs H'->aI (a_ K H') (nd K R' (λ_=>False) (λ_=>none) H') [] 0 vs (aA aZ xs)->i<items.length->J.go i H'
 vN:∀i H' R' x jV,vE K H2 vs xs H'->aI (a_ K H') (nd K R' (λ_=>False) (λ_=>none) H') [] 0 vs (aA aZ xs)->i<items.length->J.vN i H' x jV->aL H' jV/\∃d,items[i]?=some d/\Rep (a_ K jV) (nd K R' (λ_=>False) (λ_=>none) jV) [] x d
 stop:∀i H' R',vE K H2 vs xs H'->aI (a_ K H') (nd K R' (λ_=>False) (λ_=>none) H') [] 0 vs (aA aZ xs)->items.length<=i->J.stop i H'
structure lL(px:Px)(Φ:bh):Prop where
 e:∀(X:Cx) (sc:Scope) (bl:ak) (k:Nat),PX X sc bl k->∀(p:Nat) (e:Expr) (args:aq),px.pe p sc bl e=some args->∀(F:ai) (cs:aH),nG X F Φ cs args->PE X e (tD X F Φ (.cS p cs))/\PT X e (ig X F Φ (.cS p cs))
 i:∀(X:Cx) (sc:Scope) (bl:ak) (k:Nat),PX X sc bl k->∀(p:Nat) (e:Expr) (args:aq),px.pi p sc bl e=some args->∀(F:ai) (cs:aH) (tg:Expr),(decide (1100<=p)||jk tg)=true->nG X F Φ cs args ->
  ∀(pins:ao) (s:Shared) (σ:St) (H:Hp) (R:ai) (τ:Addr->Option bt) (ρ:bo) (xs:aa) (d:D) (items:aa),Inv X pins σ H s->SI X F R τ ρ σ H->b0 Φ cs ρ=ok xs->Φ p xs=ok d->ub d=ok items->∀Rr:It->Hp->Prop,
   (∀J H2 vs,aL H H2->cN X.K (gP X F) R τ (dX cs) H H2 vs xs->Td X.K J H2 vs xs items->Rr J H2) ->
   wpAny (model X.prog X.w) X.A (eval e X.env) (λv s1=>wpAny (model X.prog X.w) X.A (pyIter v) (FH X pins σ tg Rr) X.xe s1) X.xe s
def vK(K:av):GK->Value->Prop
 |.i i,u=>RelV (.int i) u
structure Lk(X:Cx)(S:Sx)(k:Nat)(Φ:bh):Prop where
 sc:X.env.scope=S.sc
 N:X.N=S.N
 nd:X.N.Nodup
 calm:X.calm=true
 room:fY k X.A
 bl:∀x∈S.bl,X.mg x=none
 fn:∀f x,S.fn f=some x->Of X k x (Φ f)
 cs:∀x i,(x,i)∈S.cs->∃u,X.mg x=some u/\vK X.K i u
 pr:lL S.px Φ
variable {S:Sx}{Φ:bh}
theorem Lk.pX{k:Nat}(L:Lk X S k Φ):PX X S.sc S.bl k:=⟨L.sc,L.calm,L.room,L.bl⟩
variable {Q:VK}{p' pos pos':Pos}
section
variable {X:Cx}{S:Sx}{k:Nat}{F:ai}{Φ:bh}
theorem Lk.gl(L:Lk X S k Φ){x:Str}(h:iB S.sc x=true):Gl X x:=by
 unfold Gl;show X.env.scope.names.lookup x=some .globalImplicit;rw[L.sc];exact aab h
theorem Lk.Tv(L:Lk X S k Φ){x:Str}(h:K0 S.sc x=true):KH X.env.scope x:=by
 unfold KH;rw[L.sc];unfold K0 at h;rw[Bool.or_eq_true,Bool.or_eq_true]at h;rcases h with (h|h)|h
 ·exact .inl (aab h)
 ·exact .inr (.inl (aab h))
 ·exact .inr (.inr (aab h))
theorem tD.intro{c:CE}{H:Hp}{R:ai}{d:D}(a:SI X F R τ ρ σ H)(e:bz Φ c ρ=ok d)(h:∀v H',aL H H'->cI X.K (gP X F) R τ (iX c) H H' v d->Q v H'):tD X F Φ c σ H Q:=⟨R,τ,ρ,d,a,e,h⟩
theorem Vx(L:Lk X S k Φ){i:Nat}{x:Str}(h:cq S (.v i) (.Name x pos)=true):PE X (.Name x pos) (tD X F Φ (.v i)):=by
 replace h:=aM h;replace h:=And.intro (aM h.1) h.2;obtain⟨⟨o,n⟩,a⟩:=h;unfold oR at a;simp only[Bool.and_eq_true,Bool.not_eq_true']at a;refine PE.imp (ji (i:=i) (by rw[L.N];exact aab o) (L.Tv n) a.1.1 a.1.2) λσ H Q b=>?_;obtain⟨R,τ,ρ,d,g,r,b⟩:=b;obtain⟨t,hd,rfl⟩:=BS r
 ·obtain⟨v,l,m⟩:=g.rep i t hd;refine⟨v,l,b v H (aL.refl H) ⟨λ_=>none,λ_ _ h=>by simp at h,?_⟩⟩;refine Rep.map (q:=[i]) (q':=[]) (λ_ _ h=>h) (λc p xs f h=>?_) m [] rfl;cases f with
  |ow =>
   refine⟨h.1,.inr (g.t0 p _ h.2),λu j e=>?_⟩;rw[h.2]at e;have s:=aaI e;have:=aa5 List.getLast? s;simp at this;show _∈[i];simp[this]
  |fz=>exact h
  |al=>exact h.2.elim
  |sc=>exact h
theorem lH{op:Jr}{x y d:D}(a:op≠.add/\op≠.mul)(h:cW op x y=ok d):∃i j,x=.int i/\y=.int j:=by
 cases x with
 |int i=>cases y with
  |int j=>exact⟨i,j,rfl,rfl⟩
  |_=>cases op<;>first|exact nk h | (simp at a;done)
 |_=>cases op<;>first|exact nk h | (simp at a;done)
theorem LF(L:Lk X S k Φ){op:Jr}{a b:CE}{l r:Expr}(ha:PE X l (tD X F Φ a))(Z:PE X r (tD X F Φ b)):PE X (.BinOp l (QJ op) r pos) (tD X F Φ (.bin op a b)):=by
 have two:∀{σ:St} {H:Hp} {Q:VK} {J:R2},(∃R τ ρ d,SI X F R τ ρ σ H/\bz Φ (.bin op a b) ρ=ok d/\(∀v H',aL H H'->cI X.K (gP X F) R τ (iX (.bin op a b)) H H' v d->Q v H') /\
   ∀x y v u H',cW op x y=ok d->aL H H'->cI X.K (gP X F) R τ (iX (.bin op a b)) H H' v x->cI X.K (gP X F) R τ (iX (.bin op a b)) H H' u y->J v u H' Q)->Jy J (tD X F Φ a) (tD X F Φ b) σ H Q:=by
  rintro σ H Q J ⟨R,τ,ρ,d,w,B,s,hr⟩;obtain⟨x,ex,B⟩:=aJ B;obtain⟨y,ey,B⟩:=aJ B;refine tD.intro w ex λv H1 e1 r1=>tD.intro (w.go e1) ey λu H2 e2 J=>?_;exact hr x y v u H2 B (e1.trans e2) ((r1.go e2).mono λi M=>aaK _ M) ((J.old e1).mono λi M=>aan _ M)
 have E:∀{C:Int->Int->Prop} {g:Int->Int->Int},nH X (binaryOp (QJ op)) (rI C λi j=>.int (g i j))->(∀x y d,cW op x y=ok d->∃i j,x=.int i/\y=.int j/\C i j/\d=.int (g i j)) ->
   PE X (.BinOp l (QJ op) r pos) (tD X F Φ (.bin op a b)):=by
  intro C g ho hd;refine PE.imp (CA ho ha Z) λσ H Q s=>?_;obtain⟨R,τ,ρ,d,w,B,s⟩:=s;refine two ⟨R,τ,ρ,d,w,B,s,λx y v u H' D e N O=>?_⟩;obtain⟨i,j,rfl,rfl,c,rfl⟩:=hd x y d D;exact⟨i,j,N.isInt,O.isInt,c,s _ H' e .int⟩
 cases op with
 |sub =>
  refine E (C:=λ_ _=>True) (g:=λi j=>i - j) (Ot λ_ _ _ _ _ _ _ _ q=>sub_int q) λx y d h=>?_;obtain⟨i,j,rfl,rfl⟩:=lH (by simp) h;cases h;exact⟨_,_,rfl,rfl,trivial,rfl⟩
 |mod =>
  refine E (C:=λ_ j=>j≠0) (g:=λi j=>i.fmod j) Hm λx y d h=>?_;obtain⟨i,j,rfl,rfl⟩:=lH (by simp) h;obtain⟨t,h⟩:=sF h;subst h;exact⟨_,_,rfl,rfl,t,rfl⟩
 |fdiv =>
  refine E (C:=λ_ j=>qZ j=true) (g:=λi j=>i.fdiv j) (Ot λi j _ _ _ _ _ o q=>?_) λx y d h=>?_
  ·unfold qZ at o;rw[Bool.and_eq_true]at o;have t:j≠0:=aab o.1;have h2:j.natAbs<big:=aab o.2;exact floordiv_int t q (.inl (PyProof.noPylong_of_log2 ((Nat.log2_lt (by left)).mpr h2)))
  ·obtain⟨i,j,rfl,rfl⟩:=lH (by simp) h;obtain⟨t,h⟩:=sF h;subst h;exact⟨_,_,rfl,rfl,t,rfl⟩
 |pow =>
  refine E (C:=λi j=>kP i j=true) (g:=λi j=>i ^ j.toNat) (Ot λi j _ _ _ _ _ o q=>?_) λx y d h=>?_
  ·unfold kP at o;simp only[Bool.and_eq_true,decide_eq_true_eq]at o;exact pow_int_small o.1.1 o.1.2 o.2 q
  ·obtain⟨i,j,rfl,rfl⟩:=lH (by simp) h;obtain⟨t,h⟩:=sF h;subst h;exact⟨_,_,rfl,rfl,t,rfl⟩
 |shl =>
  refine E (C:=λi j=>kP i j=true) (g:=λi j=>i*2 ^ j.toNat) (Ot λi j _ _ _ _ _ o q=>?_) λx y d h=>?_
  ·unfold kP at o;simp only[Bool.and_eq_true,decide_eq_true_eq]at o;exact lshift_int_small o.1.1 o.1.2 o.2 q
  ·obtain⟨i,j,rfl,rfl⟩:=lH (by simp) h;obtain⟨t,h⟩:=sF h;subst h;exact⟨_,_,rfl,rfl,t,rfl⟩
 |mul =>
  have M:nH X (binaryOp .Mult) (rI (λi j=>fm i j=true) λi j=>.int (i*j)):=Ot λi j _ _ _ _ _ o q=>mul_int q (ux o);exact E (C:=λi j=>fm i j=true) (g:=λi j=>i*j) M λx y d h=>by
   obtain⟨i,j,rfl,rfl⟩:∃i j,x=.int i/\y=.int j:=by cases x<;>first | (cases h;done) | (cases y<;>first|exact⟨_,_,rfl,rfl⟩ | (cases h;done))
   obtain⟨t,h⟩:=sF h;subst h;exact⟨_,_,rfl,rfl,t,rfl⟩
 |add =>
  refine PE.imp (CA (Ma.or Ho) ha Z) λσ H Q s=>?_;obtain⟨R,τ,ρ,d,w,B,s⟩:=s;refine two ⟨R,τ,ρ,d,w,B,s,λx y v u H' D e N O=>?_⟩;have hz:sizeLine=16777216:=abr;have sJ:dz=1000000:=rfl;cases x with
  |int i =>
   cases y with
   |int j =>
    cases D;exact .inl ⟨i,j,N.isInt,O.isInt,s _ H' e .int⟩
   |_=>cases D
  |tup a =>
   cases y with
   |tup b =>
    obtain⟨o,D⟩:=sF D;subst D;obtain⟨τt,fr,rp⟩:=N;obtain⟨aaT,Uz,V⟩:=O;cases rp with
    | @tup _ p xs _ Y P =>
     cases V with
     | @tup _ p2 I _ Uq U =>
      have hl:=P.length;have vT:=U.length;refine .inr ⟨p,p2,xs,I,rfl,rfl,Y,Uq,by rw[hl,vT];left,λz=>?_,λz=>?_,λp' A_=>?_⟩
      ·subst z;cases P;exact s _ H' e ⟨λ_=>none,λ_ _ h=>by simp at h,.tup Uq (U.iR w Uz)⟩
      ·subst z;cases U;refine s _ H' e ⟨λ_=>none,λ_ _ h=>by simp at h,.tup Y ?_⟩;rw[List.append_nil];exact P.iR w fr
      ·have W:aL H' (upd H' p' (.tup (xs++I))):=aL.upd A_;refine s _ _ (e.trans W) ⟨λ_=>none,λ_ _ h=>by simp at h,.tup (a_.of aY) ?_⟩;rw[bu,List.map_append,<- bu,<- bu];exact(aI.zH nd.uX (n:=0) (m:=0) (P.iR w fr) (U.iR w Uz)).imp (λ_ _ h=>a_.same W h) λ_ _ _ _ h=>nd.same W h
   |_=>cases D
  |_=>cases y<;>cases D
end
section
variable {T T':nF}{N N':h_}{P:Fl->Bool}
theorem Rep.without(a:∀p xs,T p xs->T' p xs)(b:∀k k' p xs f,P f=false->N k p xs f->N' k' p xs f){k:bt}{v:V}{d:D}(h:Rep T N k v d)(e:aV P d=false)(k':bt):Rep T' N' k' v d:=by
 have:=Rep.gen (g:=id) (P:=P) (N':=N') (C:=λ_ _=>True) (I:=λ_ _=>True) a trivial (λ_ _ e=>e) (λ_ _ _ _ e _=>e) (λk k' p xs f _ e h=>b k k' p xs f e h) h (k':=k') trivial e;rw[d_]at this;exact this
theorem aI.without(a:∀p xs,T p xs->T' p xs)(b:∀k k' p xs f,P f=false->N k p xs f->N' k' p xs f){k:bt}{n:Nat}(h:aI T N k n vs ds)(e:aP P ds=false)(k':bt)(n':Nat):aI T' N' k' n' vs ds:=by
 have:=aI.gen (g:=id) (P:=P) (N':=N') (C:=λ_ _=>True) (I:=λ_ _=>True) a trivial (λ_ _ e=>e) (λ_ _ _ _ e _=>e) (λk k' p xs f _ e h=>b k k' p xs f e h) h (k':=k') (n':=n') trivial trivial e;rw[eV]at this;exact this
theorem Rep.kG(i:∀p xs,T p xs->T' p xs)(j:∀k p xs f,P f=false->N k p xs f->N' k p xs f){k:bt}{v:V}{d:D}(h:Rep T N k v d)(e:aV P d=false):Rep T' N' k v d:=by
 have:=Rep.gen (g:=id) (P:=P) (N':=N') (C:=λa b=>a=b) (I:=λa b=>a=b) i rfl (λ_ _ e=>by rw[e]) (λ_ _ _ _ a b=>by rw[a,b]) (λk k' p xs f c e h=>by subst c;exact j k p xs f e h) h rfl e;rw[d_]at this;exact this
theorem aI.kG(d:∀p xs,T p xs->T' p xs)(i:∀k p xs f,P f=false->N k p xs f->N' k p xs f){k:bt}{n:Nat}(h:aI T N k n vs ds)(e:aP P ds=false):aI T' N' k n vs ds:=by
 have:=aI.gen (g:=id) (P:=P) (N':=N') (C:=λa b=>a=b) (I:=λa b=>a=b) d rfl (λ_ _ e=>by rw[e]) (λ_ _ _ _ a b=>by rw[a,b]) (λk k' p xs f c e h=>by subst c;exact i k p xs f e h) h rfl rfl e;rw[eV]at this;exact this
end
theorem Rep.sA{R:ai}{H:Hp}{k:bt}{v:V}{d:D}(h:Rep (a_ K H) (nd K R (λ_=>False) (λ_=>none) H) k v d):Rep (a_ K H) (nd K R (λ_=>False) (λ_=>none) H) k' v d:=by
 have:=Rep.iy (g:=id) (λ_ _ h=>h) nd.uX h k';rw[d_]at this;exact this
def js(X:Cx)(R:ai)(τ:Addr->Option bt)(H:Hp)(v:V)(d:D):Prop :=
 ∃τt:Addr->Option bt,(∀p q,τt p=some q->τ p=none/\¬ R p/\X.H₀ p=none/\H p≠none)/\Rep (a_ X.K H) (nd X.K R (λ_=>False) τt H) [] v d
section
variable {X:Cx}{F R:ai}{τ:Addr->Option bt}{ρ:bo}{σ:St}{H H':Hp}
noncomputable def wm(i:Nat)(τt τ:Addr->Option bt):Addr->Option bt:=λp=>match τt p with|some q=>some (q++[i])|none=>τ p
theorem SI.Qe{i:Nat}{v:V}{d:D}(a:SI X F R τ ρ σ H)(e:∀p q,τt p=some q->τ p=none/\¬ R p/\X.H₀ p=none/\H p≠none)(o:Rep (a_ X.K H) (nd X.K R (λ_=>False) τt H) [] v d)(n:i<ρ.length):SI X F R (wm i τt τ) (ρ.set i (some d)) (σ.set i (some v)) H:=by
 refine⟨by simp[a.len],λj s g=>?_,λp m=>?_,a.rh,a.rf,λp q b=>?_,λp q b=>?_,a.same⟩
 ·by_cases l:j=i
  ·subst l;rw[List.getElem?_set_self n]at g;cases g;refine⟨v,ace (by rw[<- a.len];exact n),o.imp (q':=[j]) (λ_ _ h=>h) λc p xs f h=>?_⟩;cases f with
   |ow=>rw[List.append_nil]at h;exact⟨h.1,by simp only[wm,h.2]⟩
   |fz=>exact h
   |al=>exact h
   |sc=>exact h
  ·rw[List.getElem?_set_ne (Ne.symm l)]at g;obtain⟨w,hw,r⟩:=a.rep j s g;refine⟨w,by rw[List.getElem?_set_ne (Ne.symm l)];exact hw,r.imp (λ_ _ h=>h) λc p xs f h=>?_⟩;cases f with
   |ow =>
    refine⟨h.1,?_⟩;cases q:τt p with
    |none=>simp only[wm,q];exact h.2
    |some k=>have:=(e p k q).1;rw[h.2]at this;cases this
   |fz=>exact h
   |al=>exact h
   |sc=>exact h
 ·cases q:τt p with
  |none=>simp only[wm,q];exact a.rt p m
  |some k=>exact absurd m (e p k q).2.1
 ·cases z:τt p with
  |none=>simp only[wm,z]at b;exact a.th p q b
  |some k=>exact(e p k z).2.2.2
 ·cases z:τt p with
  |none=>simp only[wm,z]at b;exact a.t0 p q b
  |some k=>exact(e p k z).2.2.1
theorem SI.set{i:Nat}{v:V}{d:D}(e:SI X F R τ ρ σ H)(r:js X R τ H v d)(c:i<ρ.length):∃τ',SI X F R τ' (ρ.set i (some d)) (σ.set i (some v)) H:=by
 obtain⟨τt,b,a⟩:=r;exact⟨_,e.Qe b a c⟩
theorem AB{k:bt}{v:V}{d:D}(h:Rep (a_ X.K H) (nd X.K R (λ_=>False) τ H) k v d)(a:aV cz d=false):js X R τ H v d :=
 ⟨λ_=>none,λ_ _ h=>by simp at h,Rep.without (P:=cz) (λ_ _ h=>h) (λk k' p xs f b h=>by
  cases f with
  |ow=>cases b
  |fz=>exact h
  |al=>exact h.2.elim
  |sc=>exact h) h a _⟩
open Classical in
theorem SI.move{i:Nat}{d:D}(a:SI X F R τ ρ σ H)(hd:ρ[i]?=some (some d)):∃v τ',σ[i]?=some (some v)/\SI X F R τ' (ρ.set i none) σ H/\js X R τ' H v d:=by
 obtain⟨v,o,m⟩:=a.rep i d hd;refine⟨v,λp=>match τ p with|some q=>if q.getLast?=some i then none else some q|none=>none,o,⟨by simp[a.len],λj t e=>?_,λp r=>?_,a.rh,a.rf,λp q b=>?_,λp q b=>?_,a.same⟩,
  λp=>match τ p with|some q=>if q.getLast?=some i then(if H p=none then none else some q.dropLast)else none|none=>none,λp q b=>?_,m.imp (q:=[i]) (q':=[]) (λ_ _ h=>h) λc p xs f h=>?_⟩
 ·by_cases g:j=i
  ·subst g;rw[List.getElem?_set]at e;simp at e
  ·rw[List.getElem?_set_ne (Ne.symm g)]at e;obtain⟨w,hw,n⟩:=a.rep j t e;refine⟨w,hw,n.imp (q:=[j]) (q':=[j]) (λ_ _ h=>h) λc p xs f h=>?_⟩;cases f with
   |ow =>
    refine⟨h.1,?_⟩;simp only[h.2];rw[if_neg (by simp;exact g)]
   |fz=>exact h
   |al=>exact h
   |sc=>exact h
 ·simp only[a.rt p r]
 ·cases z:τ p with
  |none=>simp only[z]at b;cases b
  |some k=>exact a.th p k z
 ·cases z:τ p with
  |none=>simp only[z]at b;cases b
  |some k=>exact a.t0 p k z
 ·cases z:τ p with
  |none=>simp only[z]at b;cases b
  |some k =>
   simp only[z]at b ⊢;by_cases l:k.getLast?=some i
   ·rw[if_pos l];exact⟨rfl,(λhR=>by have:=a.rt p hR;rw[z]at this;cases this),a.t0 p k z,a.th p k z⟩
   ·rw[if_neg l]at b;cases b
 ·cases f with
  |ow =>
   refine⟨h.1,?_⟩;have s:H p≠none:=h.1.ne;simp only[h.2];rw[if_pos (by simp),if_neg s];simp
  |fz=>exact h
  |al=>exact h.2.elim
  |sc=>exact h
theorem y7(is:aN)(ρ:bo)(j:Nat)(d:D)(h:(jY is ρ)[j]?=some (some d)):∃a,ρ[j]?=some (some a)/\d=(if j∈is then aR aZ a else a):=by
 unfold jY at h;rw[List.getElem?_mapIdx]at h;cases q:ρ[j]? with
 |none=>rw[q]at h;exact nk h
 |some o =>
  rw[q]at h;cases o with
  |none=>simp at h
  |some a =>
   refine⟨a,rfl,?_⟩;by_cases b:j∈is
   ·simp[b]at h ⊢;exact h.symm
   ·simp[b]at h ⊢;exact h.symm
open Classical in
theorem y8(b:SI X F R τ ρ σ H)(es:aL H H'):
  ∃R' τ',(∀p,R p->R' p)/\SI X F R' τ' (jY fv ρ) σ H'/\∀τt:Addr->Option bt,(∀p q,τt p=some q->H p=none)->∀(k k':bt) (p:Addr) (xs:Nd) (f:Fl),nd X.K R (j0 (gP X F) τ fv) τt H' k p xs f->nd X.K R' (λ_=>False) (λ_=>none) H' k' p xs (aZ f):=by
 have g:=b.go es;have fresh:∀p,H p=none->j0 (gP X F) τ fv p:=λp a=>⟨.inr (b.same.free a),λc i e=>absurd a (b.th p _ e)⟩
 refine⟨λp=>R p\/(H' p≠none/\j0 (gP X F) τ fv p),λp=>if j0 (gP X F) τ fv p then none else τ p,λp h=>.inl h,⟨by simp[jY,b.len],λj v o=>?_,λp a=>?_,λp a=>?_,λp a=>?_,λp q d=>?_,λp q d=>?_,g.same⟩,λτt s k k' p xs f h=>?_⟩
 ·obtain⟨t,r,e0⟩:=y7 _ _ _ _ o;obtain⟨w,hw,m⟩:=g.rep j t r;refine⟨w,hw,?_⟩;by_cases l:j∈fv
  ·rw[if_pos l]at e0;subst e0;refine Rep.map (q:=[j]) (q':=[j]) (λ_ _ h=>h) (λc p xs f h=>?_) m [] rfl;cases f with
   |ow =>
    refine⟨h.1,.inr ⟨h.1.ne,.inr (b.t0 p _ h.2),λx u n=>?_⟩⟩;rw[h.2]at n;have:=aa5 List.getLast? (aaI n);simp at this;subst this;exact l
   |fz=>exact⟨h.1,.inl h.2⟩
   |al=>exact h.2.elim
   |sc=>exact h
  ·rw[if_neg l]at e0;subst e0;refine m.imp (q:=[j]) (q':=[j]) (λ_ _ h=>h) λc p xs f h=>?_;cases f with
   |ow =>
    refine⟨h.1,?_⟩;show(if j0 (gP X F) τ fv p then none else τ p)=some (c++[j]);rw[if_neg (λz=>l (z.2 c j h.2))];exact h.2
   |fz=>exact⟨h.1,.inl h.2⟩
   |al=>exact h.2.elim
   |sc=>exact h
 ·rcases a with a|a
  ·simp only[b.rt p a];split<;>rfl
  ·rw[if_pos a.2]
 ·rcases a with a|a
  ·exact g.rh p a
  ·exact a.1
 ·rcases a with a|a
  ·exact b.rf p a
  ·exact a.2.1
 ·split at d
  ·cases d
  ·exact g.th p q d
 ·split at d
  ·cases d
  ·exact b.t0 p q d
 ·cases f with
  |ow=>exact⟨h.1,.inr ⟨h.1.ne,fresh p (s p _ h.2)⟩⟩
  |fz=>exact⟨h.1,.inl h.2⟩
  |al=>exact⟨h.1,.inr ⟨h.1.ne,h.2⟩⟩
  |sc=>exact h
theorem sO{v:V}{d:D}(i:SI X F R τ ρ σ H)(es:aL H H')(r:cI X.K (gP X F) R τ fv H H' v d):
  ∃R' τ',(∀p,R p->R' p)/\SI X F R' τ' (jY fv ρ) σ H'/\Rep (a_ X.K H') (nd X.K R' (λ_=>False) (λ_=>none) H') [] v (aR aZ d):=by
 obtain⟨τt,g,a⟩:=r;obtain⟨R',τ',e,c,b⟩:=y8 (fv:=fv) i es;exact⟨R',τ',e,c,Rep.iy (λ_ _ h=>h) (b τt g) a _⟩
theorem uW(g:SI X F R τ ρ σ H)(es:aL H H')(r:cN X.K (gP X F) R τ fv H H' vs ds):
  ∃R' τ',(∀p,R p->R' p)/\SI X F R' τ' (jY fv ρ) σ H'/\aI (a_ X.K H') (nd X.K R' (λ_=>False) (λ_=>none) H') [] 0 vs (aA aZ ds):=by
 obtain⟨τt,e,a⟩:=r;obtain⟨R',τ',d,c,b⟩:=y8 (fv:=fv) g es;exact⟨R',τ',d,c,aI.iy (λ_ _ h=>h) (b τt e) a _ _⟩
theorem nU{v:V}{d:D}(h:Rep (a_ X.K H) (nd X.K R (λ_=>False) (λ_=>none) H) [] v d):js X R τ' H v d:=⟨λ_=>none,λ_ _ h=>by simp at h,h⟩
open Classical in
theorem J9{e:CE}{v:V}{d:D}(c:SI X F R τ ρ σ H)(es:aL H H')(r:cI X.K (gP X F) R τ (iX e) H H' v d):
  ∃R' τ',(∀p,R p->R' p)/\SI X F R' τ' (keep e d ρ).2 σ H'/\js X R' τ' H' v (keep e d ρ).1:=by
 unfold keep;by_cases b:aV bW d=true
 ·rw[if_pos b];obtain⟨R',τ',n,m,l⟩:=sO c es r;exact⟨R',τ',n,m,nU l⟩
 ·obtain⟨τt,o,i⟩:=r;rw[if_neg b];refine⟨R,τ,λ_ h=>h,c.go es,λp=>if H' p=none then none else τt p,λp q g=>?_,?_⟩
  ·dsimp only at g;split at g
   ·cases g
   ·rename_i j;have a:=o p q g;refine⟨?_,λhR=>c.rh p hR a,c.same.free a,j⟩;cases z:τ p with
    |none=>rfl
    |some k=>exact absurd a (c.th p k z)
  ·have s:aV bW d=false:=by simpa using b
   have st:∀{k:bt} {v:V} {d:D},Rep (a_ X.K H') (nd X.K R (j0 (gP X F) τ (iX e)) τt H') k v d->aV bW d=false->Rep (a_ X.K H') (nd X.K R (λ_=>False) (λp=>if H' p=none then none else τt p) H') k v d:=by
    intro k v d h b;exact Rep.kG (P:=bW) (λ_ _ h=>h) (λk p xs f a h=>by
     cases f with
     |ow=>exact⟨h.1,by show(if H' p=none then none else τt p)=_;rw[if_neg (h.1.ne)];exact h.2⟩
     |fz=>exact h
     |al=>cases a
     |sc=>exact h) h b
   exact st i s
open Classical in
def tK(X:Cx)(F:ai)(Φ:bh)(c:CE):TE:=λσ H Q=>∃R τ ρ r,SI X F R τ ρ σ H/\jS Φ c ρ=ok r/\∀v H' R' τ',aL H H'->(∀p,R p->R' p)->SI X F R' τ' r.2 σ H'->js X R' τ' H' v r.1->Q v H'
end
section
variable {T T':nF}{N N':h_}
theorem aI.child{q:bt}(a:∀p xs,T p xs->T' p xs)(b:∀c m p xs f,N (c++(m::q)) p xs f->N' (c++(m::q)) p xs f):∀{n:Nat} {vs:ah} {ds:aa},aI T N q n vs ds->aI T' N' q n vs ds
 |_,_,_,.nil=>.nil
 |n,_,_,.cons h t=>.cons (Rep.imp (q:=n::q) (q':=n::q) a (λc p xs f h=>b c n p xs f h) h) (aI.child a b t)
theorem aI.yf{q:bt}{v:V}{d:D}:∀{n:Nat} {vs:ah} {ds:aa},aI T N q n vs ds->Rep T N ((n+ds.length)::q) v d->aI T N q n (vs++[v]) (ds++[d])
 |n,_,_,.nil,h=>.cons (by simpa using h) .nil
 |n,_,_,.cons (ds:=ds) h t,h'=>.cons h (aI.yf t (by
   have e:n+(ds.length+1)=n+1+ds.length:=by left
   rw[List.length_cons,e]at h';exact h'))
end
variable {d0 d1:D}{n':Nd}
section
variable {X:Cx}{F R:ai}{τ:Addr->Option bt}{ρ:bo}{σ:St}{H:Hp}
theorem SI.own{i:Nat}(d:SI X F R τ ρ σ H)(c:ρ[i]?=some (some (.lst .ow ds))):∃p xs,σ[i]?=some (some (.ref p))/\H p=some (.lst xs)/\xs.length=ds.length/\τ p=some [i]/\aI (a_ X.K H) (nd X.K R (λ_=>False) τ H) [i] 0 xs ds:=by
 obtain⟨v,b,a⟩:=d.rep i _ c;cases a with
 |lst h r=>exact⟨_,_,b,h.1,r.length,h.2,r⟩
theorem lT{H:Hp}{p:Addr}{n:Nd}{o:HO}(g:eG H p n){a:Addr}(h:a_ K H a ys):a_ K (upd H p o) a ys:=by
 obtain⟨c,j,i,k⟩:=eG.some g;have b:∀a u,H a=some u->u≠c->a≠p:=λa u e h z=>by subst z;rw[j]at e;cases e;exact h rfl
 rcases h with (h|⟨d,h⟩)|h
 ·exact .inl (.inl (by rw[bq (b a _ h λz=>i _ z.symm)];exact h))
 ·exact .inl (.inr ⟨d,by rw[bq (b a _ h λz=>k _ _ z.symm)];exact h⟩)
 ·exact .inr h
theorem SI.Qz{i m:Nat}{v:V}{d:D}{p:Addr}{n:Nd}{o:HO}(g:SI X F R τ ρ σ H)(O:ρ[i]?=some (some d0))(hv:σ[i]?=some (some (.ref p)))(hp:eG H p n)(l:τ p=some [i])
  (rs:aI (a_ X.K H) (nd X.K R (λ_=>False) τ H) [i] 0 xs ds) (rk:js X R τ H v d) (Ax:eG (upd H p o) p n')
  (mk:∀{N:h_},N [i] p n' .ow->aI (a_ X.K (upd H p o)) N [i] 0 xs' ds'->Rep (a_ X.K (upd H p o)) N [i] (.ref p) d1)
  (hb:∀{N:h_},aI (a_ X.K (upd H p o)) N [i] 0 xs ds->Rep (a_ X.K (upd H p o)) N (m::[i]) v d->aI (a_ X.K (upd H p o)) N [i] 0 xs' ds') :
  ∃τ',SI X F R τ' (ρ.set i (some d1)) σ (upd H p o)/\τ' p=some [i]/\aI (a_ X.K (upd H p o)) (nd X.K R (λ_=>False) τ' (upd H p o)) [i] 0 xs' ds':=by
 obtain⟨τt,b,rp⟩:=rk;have OJ:i<ρ.length:=by
  by_cases z:i<ρ.length
  ·exact z
  ·rw[List.getElem?_eq_none (by left)]at O;cases O
 obtain⟨o0,OF,Ro,OE⟩:=eG.some hp;have E:∀a,R a->a≠p:=λa s e=>by subst e;rw[g.rt _ s]at l;cases l
 have M:∀a q,τt a=some q->a≠p:=λa q e z=>by subst z;rw[(b _ q e).1]at l;cases l
 have I:∀a u,H a=some u->u≠o0->a≠p:=λa u e h z=>by subst z;rw[OF]at e;cases e;exact h rfl
 have keep:∀a,a≠p->(upd H p o) a=H a:=λa h=>bq h;have L:∀a ys,a_ X.K H a ys->a_ X.K (upd H p o) a ys:=λa ys h=>by
  rcases h with (h|⟨C,h⟩)|h
  ·exact .inl (.inl (by rw[keep a (I a _ h λz=>Ro _ z.symm)];exact h))
  ·exact .inl (.inr ⟨C,by rw[keep a (I a _ h λz=>OE _ _ z.symm)];exact h⟩)
  ·exact .inr h
 have y:∀a (z:Nd),a≠p->eG H a z->eG (upd H p o) a z:=λa z ne h=>h.at λu e=>by rw[keep a ne];exact e
 have W:∀{B:Addr->Option bt} q q' a (z:Nd),nd X.K R (λ_=>False) B H q a z .sc->∀t,nd X.K R (λ_=>False) t (upd H p o) q' a z .sc:=λq q' a z h t=>by
  obtain⟨ys,rfl,h⟩:=h.BY;exact h.elim (λ⟨C,w⟩=>.inl ⟨C,by rw[keep a (I a _ w λz=>OE _ _ z.symm)];exact w⟩) .inr
 have P:∀q a ys f,q≠[i]->nd X.K R (λ_=>False) τ H q a ys f->nd X.K R (λ_=>False) (λa=>match τt a with|some q=>some (q++[m,i])|none=>τ a) (upd H p o) q a ys f:=λq a ys f r h=>by
  cases f with
  |ow =>
   have ne:a≠p:=λz=>by
    subst z;have:=h.2.symm.trans l;exact r (aaI this)
   refine⟨y a ys ne h.1,?_⟩;cases z:τt a with
   |none=>simp only[z];exact h.2
   |some k=>have:=(b a k z).1;rw[h.2]at this;cases this
  |fz=>exact⟨y a ys (E a h.2) h.1,h.2⟩
  |al=>exact h.2.elim
  |sc=>exact W q q a ys h _
 have Z:(match τt p with|some q=>some (q++[m,i])|none=>τ p)=some [i]:=by
  cases z:τt p with
  |none=>exact l
  |some k=>exact absurd rfl (M p k z)
 have U:aI (a_ X.K (upd H p o)) (nd X.K R (λ_=>False) (λa=>match τt a with|some q=>some (q++[m,i])|none=>τ a) (upd H p o)) [i] 0 xs' ds':=hb (aI.child L (λc n a ys f h=>P _ a ys f (λz=>by
  have:=aa5 List.length z;simp at this) h) rs) (rp.imp (q:=[]) (q':=[m,i]) L λc a ys f h=>by
  cases f with
  |ow =>
   rw[List.append_nil]at h;exact⟨y a ys (M a _ h.2) h.1,by simp only[h.2]⟩
  |fz=>exact⟨y a ys (E a h.2) h.1,h.2⟩
  |al=>exact h.2.elim
  |sc=>exact W _ _ a ys h _)
 refine⟨λa=>match τt a with|some q=>some (q++[m,i])|none=>τ a,⟨by simp[g.len],λj d' x=>?_,λa s=>?_,λa s=>?_,g.rf,λa q r=>?_,λa q r=>?_,?_⟩,Z,U⟩
 ·by_cases J:j=i
  ·subst J;rw[List.getElem?_set_self OJ]at x;cases x;exact⟨.ref p,hv,mk ⟨Ax,Z⟩ U⟩
  ·rw[List.getElem?_set_ne (Ne.symm J)]at x;obtain⟨u,hu,ru⟩:=g.rep j d' x;refine⟨u,hu,ru.imp (q:=[j]) (q':=[j]) L λc a ys f h=>P _ a ys f (λz=>?_) h⟩;have:=aa5 List.getLast? z;simp at this;exact J this
 ·cases z:τt a with
  |none=>simp only[z];exact g.rt a s
  |some k=>exact absurd s (b a k z).2.1
 ·rw[keep a (E a s)];exact g.rh a s
 ·by_cases Y:a=p
  ·subst Y;rw[aY];simp
  ·rw[keep a Y];cases z:τt a with
   |none=>simp only[z]at r;exact g.th a q r
   |some k=>exact(b a k z).2.2.2
 ·cases z:τt a with
  |none=>simp only[z]at r;exact g.t0 a q r
  |some k=>exact(b a k z).2.2.1
 ·intro a u e;have ne:a≠p:=λz=>by subst z;rw[g.t0 _ _ l]at e;cases e
  rw[keep a ne];exact g.same a u e
theorem SI.QA{i m:Nat}{v:V}{d:D}{p:Addr}{n:Nd}{o:HO}(l:SI X F R τ ρ σ H)(j:ρ[i]?=some (some d0))(c:σ[i]?=some (some (.ref p)))(g:eG H p n)(e:τ p=some [i])
  (a:aI (a_ X.K H) (nd X.K R (λ_=>False) τ H) [i] 0 xs ds) (b:js X R τ H v d) (q:eG (upd H p o) p n')
  (mk:∀{N:h_},N [i] p n' .ow->aI (a_ X.K (upd H p o)) N [i] 0 xs' ds'->Rep (a_ X.K (upd H p o)) N [i] (.ref p) d1)
  (k:∀{N:h_},aI (a_ X.K (upd H p o)) N [i] 0 xs ds->Rep (a_ X.K (upd H p o)) N (m::[i]) v d->aI (a_ X.K (upd H p o)) N [i] 0 xs' ds') :
  ∃τ',SI X F R τ' (ρ.set i (some d1)) σ (upd H p o):=(l.Qz j c g e a b q mk k).imp λ_ h=>h.1
theorem SI.put{i m:Nat}{v:V}{d:D}{g:ah->ah}{p:Addr}(q:SI X F R τ ρ σ H)(k:ρ[i]?=some (some (.lst .ow ds)))(c:σ[i]?=some (some (.ref p)))(j:H p=some (.lst xs))(e:τ p=some [i])
  (a:aI (a_ X.K H) (nd X.K R (λ_=>False) τ H) [i] 0 xs ds) (b:js X R τ H v d)
  (o:∀{N:h_},aI (a_ X.K (upd H p (.lst (g xs)))) N [i] 0 xs ds->Rep (a_ X.K (upd H p (.lst (g xs)))) N (m::[i]) v d->aI (a_ X.K (upd H p (.lst (g xs)))) N [i] 0 (g xs) ds') :
  ∃τ',SI X F R τ' (ρ.set i (some (.lst .ow ds'))) σ (upd H p (.lst (g xs))) :=
 q.QA (n:=.l xs) (n':=.l (g xs)) k c j e a b aY (λh r=>.lst h r) o
end
theorem km{env:Env}:∀(names:List (Str×NameKind)) (b:List (Str×Addr)),(∀x,(x,NameKind.free)∈names->∃c,env.cells.lookup x=some c) ->
  ∃d,(forIn names b (λ(y:Str×NameKind) (cs:List (Str×Addr))=>do
    let (name,kind):=y
    let mut cs:=cs
    if kind==.free then cs:=(name,<- cellOf env name)::cs
    pure (ForInStep.yield cs)):Sem (List (Str×Addr)))=pure d /\
   (∀x c,d.lookup x=some c->b.lookup x=some c\/(env.cells.lookup x=some c/\(x,NameKind.free)∈names))/\(∀x,((x,NameKind.free)∈names\/(∃c,b.lookup x=some c))->∃c,d.lookup x=some c)
 |[],b,_=>⟨b,rfl,λx c h=>.inl h,λx h=>h.elim (λh=>nomatch h) id⟩
 | (n,kd)::names,b,h=>by
  by_cases j:kd=.free
  ·subst j;obtain⟨c,m⟩:=h n aaf;obtain⟨d,e,l,k⟩:=km names ((n,c)::b) (λx a=>h x (aad _ a));refine⟨d,?_,λx g a=>?_,λx a=>?_⟩
   ·rw[List.forIn_cons];have e0:cellOf env n=pure c:=by unfold cellOf;rw[m]
    simp only[beq_self_eq_true,if_true,e0,pure_bind];exact e
   ·rcases l x g a with z|z
    ·by_cases i:x=n
     ·subst i;simp at z;subst z;exact .inr ⟨m,aaf⟩
     ·rw[List.lookup_cons]at z;have:(x==n)=false:=by simpa using i
      rw[this]at z;exact .inl z
    ·exact .inr ⟨z.1,aad _ z.2⟩
   ·refine k x ?_;rcases a with a|⟨g,a⟩
    ·rcases List.mem_cons.mp a with z|z
     ·cases z;exact .inr ⟨c,by simp⟩
     ·exact .inl z
    ·by_cases i:x=n
     ·subst i;exact .inr ⟨c,by simp⟩
     ·refine .inr ⟨g,?_⟩;rw[List.lookup_cons];have:(x==n)=false:=by simpa using i
      rw[this];exact a
  ·obtain⟨d,e,l,k⟩:=km names b (λx a=>h x (aad _ a));have o:(kd==NameKind.free)=false:=by simpa using j
   refine⟨d,?_,λx g a=>(l x g a).imp id λz=>⟨z.1,aad _ z.2⟩,λx a=>k x ?_⟩
   ·rw[List.forIn_cons];simp only[o,Bool.false_eq_true,if_false,pure_bind];exact e
   ·rcases a with a|a
    ·rcases List.mem_cons.mp a with z|z
     ·cases z;exact absurd rfl j
     ·exact .inl z
    ·exact .inr a
variable {env:Env}
theorem xp{sc:Scope}(h:∀x,(x,NameKind.free)∈sc.names->∃c,env.cells.lookup x=some c):
  ∃a,closureFor sc env=pure a/\(∀x c,a.lookup x=some c->env.cells.lookup x=some c)/\(∀x,(x,NameKind.free)∈sc.names->∃c,a.lookup x=some c):=by
 obtain⟨a,e,g,d⟩:=km (env:=env) sc.names [] h;refine⟨a,?_,λx c b=>(g x c b).elim (λz=>by simp at z) (·.1),λx b=>d x (.inl b)⟩;unfold closureFor;simp only[bind_pure];exact e
variable {P prog:aC}{e1 e2 jT iter o target tg:Expr}{w:World}
theorem sT{A:aB}{R:Result->Shared->Prop}{s:Shared}{q:Expr}{p:aq}{scope:Scope}{it t:Value}(I:Nat->Shared->Prop)
  (turn:∀n s,I n s->wpAny (model prog w) A (pyNext it) (λr a=>match r with
   |none=>R (.ok .next) a
   |some v=>wpAny (model prog w) A (letOwnedTupleGo target it v) (λ_ a=>wpAny (model prog w) A (assign target env v) (λ_ d =>
     wpAny (model prog w) A (forIn p true λc r=>if r=true then do let ok <- isTrue c env (eval c env);pure (ForInStep.yield ok)else pure (ForInStep.yield r)) (λok b =>
      if ok=true then wpAny (model prog w) A (eval q env) (λx j =>
       wpAny (model prog w) A (call (.builtin "list.append") [t,x]) (λ_ i=>∃m,m<n/\I m i) (λ_ _=>False) j) (λ_ _=>False) b
      else ∃m,m<n/\I m b) (λ_ _=>False) d) (λ_ _=>False) a) (λ_ _=>False) a) (λ_ _=>False) s)
  (n:Nat) (h:I n s) :
  codeAny (model prog w) A (.compLoop (.ListComp q [⟨target,iter,p,0⟩] scope pos) 0 it t env) R s:=by
 refine codeAny_loop rfl I (λn s z=>?_) n h;show wpAny _ A ((compTurn (.ListComp q [⟨target,iter,p,0⟩] scope pos) 0 it t env).onRaise (λx=>do noteFrame x env;theTreesLotGoes x)) _ _ s;refine wpAny_noted ?_;rw[compTurn_list];refine aaa (wpAny_standAt (aaa (aaL (turn n s z) (λr a l=>?_) λ_ _ g=>g.elim)));cases r with
 |none=>exact aac l
 |some v =>
  refine aaa (aaL l (λ_ d e=>?_) λ_ _ g=>g.elim);refine aaa (aaL e (λ_ d e=>aaa (aaL e (λok b k=>?_) λ_ _ g=>g.elim)) λ_ _ g=>g.elim);cases ok with
  |false=>exact aac ⟨rfl,k⟩
  |true =>
   exact aaa (aaa (aaL k (λx j y=>aaa (aaL y (λ_ i u=>aac (aac ⟨rfl,u⟩)) λ_ _ g=>g.elim)) λ_ _ g=>g.elim))
noncomputable def eK(X:Cx)(N':ak)(scope:Scope)(cl:List (Str×Addr))(C:Addr)(s₀:Shared)(H₀:Hp)(fp:aX):Cx :=
 { X with N:=N',s₀:=s₀,H₀:=H₀,env:=compEnvC scope cl C X.env,outer:=X.stack,stack:=X.stack,ex:=fp,fn:=λ_=>false,pn:=[],xe:=λ_ _=>False }
theorem fK{env:Env}:∀{names:List (Str×NameKind)} {x:Str} {kd:NameKind},(names.map λ(n,k)=>if (k==NameKind.free&&env.scope.kind==.function&&env.kindOf n==some .cell)then(n,NameKind.cell)else(n,k)).lookup x=some kd ->
  names.lookup x=some kd\/(kd=.cell/\names.lookup x=some .free)
 |[],_,_,h=>by simp at h
 | (n,k)::r,x,kd,h=>by
  rw[List.map_cons]at h;cases a:x==n with
  |true =>
   by_cases b:(k==NameKind.free&&env.scope.kind==.function&&env.kindOf n==some .cell)=true
   ·simp only[b,if_true,List.lookup_cons,a]at h;cases h;simp only[Bool.and_eq_true,beq_iff_eq]at b;refine .inr ⟨rfl,?_⟩;rw[List.lookup_cons,a,b.1.1]
   ·have c:(k==NameKind.free&&env.scope.kind==.function&&env.kindOf n==some .cell)=false:=by simpa using b
    simp only[c,Bool.false_eq_true,if_false,List.lookup_cons,a]at h;cases h;exact .inl (by rw[List.lookup_cons,a])
  |false =>
   have:List.lookup x (r.map λ(n,k)=>if (k==NameKind.free&&env.scope.kind==.function&&env.kindOf n==some .cell)then(n,NameKind.cell)else(n,k))=some kd:=by
    by_cases b:(k==NameKind.free&&env.scope.kind==.function&&env.kindOf n==some .cell)=true
    ·simp only[b,if_true,List.lookup_cons,a]at h;exact h
    ·have c:(k==NameKind.free&&env.scope.kind==.function&&env.kindOf n==some .cell)=false:=by simpa using b
     simp only[c,Bool.false_eq_true,if_false,List.lookup_cons,a]at h;exact h
   rw[List.lookup_cons,a];exact fK this
theorem dC{env:Env}:∀{names:List (Str×NameKind)} {x:Str},names.lookup x=some .free ->
  (names.map λ(n,k)=>if (k==NameKind.free&&env.scope.kind==.function&&env.kindOf n==some .cell)then(n,NameKind.cell)else(n,k)).lookup x=some .free \/
  (names.map λ(n,k)=>if (k==NameKind.free&&env.scope.kind==.function&&env.kindOf n==some .cell)then(n,NameKind.cell)else(n,k)).lookup x=some .cell
 |[],_,h=>by simp at h
 | (n,k)::r,x,h=>by
  rw[List.map_cons];cases a:x==n with
  |true =>
   rw[List.lookup_cons,a]at h;cases h;by_cases b:(NameKind.free==NameKind.free&&env.scope.kind==.function&&env.kindOf n==some .cell)=true
   ·simp only[b,if_true,List.lookup_cons,a];exact .inr trivial
   ·have c:(NameKind.free==NameKind.free&&env.scope.kind==.function&&env.kindOf n==some .cell)=false:=by simpa using b
    simp only[c,Bool.false_eq_true,if_false,List.lookup_cons,a];exact .inl trivial
  |false =>
   rw[List.lookup_cons,a]at h;by_cases b:(k==NameKind.free&&env.scope.kind==.function&&env.kindOf n==some .cell)=true
   ·simp only[b,if_true,List.lookup_cons,a];exact dC h
   ·have c:(k==NameKind.free&&env.scope.kind==.function&&env.kindOf n==some .cell)=false:=by simpa using b
    simp only[c,Bool.false_eq_true,if_false,List.lookup_cons,a];exact dC h
theorem dQ{names:List (Str×NameKind)}{x:Str}{kd:NameKind}(h:names.lookup x=some kd):(x,kd)∈names:=abn h
structure kC(S:Sx)(n:Nat)(t:Tg)(caps:aN)(target:Expr)(sc:Scope):Prop where
 kind:sc.kind=.function
 CU:∀y∈sc.names,y.2≠.cell
 loc:∀y∈sc.names,y.2=.local->sc.names.lookup y.1=some .local
 free:∀x,(x,NameKind.free)∈sc.names->S.sc.names.lookup x=some .cell\/S.sc.names.lookup x=some .free
 n:n=(cA target).length
 tl:∀x∈cA target,sc.names.lookup x=some .local
 nd:(cA target++gA S caps).Nodup
 dz:∀i∈caps,∃x,S.N[i]?=some x/\sc.names.lookup x=some .free
 tg:(∃x p,t=.nm 0/\target=.Name x p)\/(∃es k p,t=.tp (List.range es.length)/\target=.Tuple es k p/\es.all isNm=true)
set_option tactic.hygienic true in
theorem q_{n:Nat}{t:Tg}{sc:Scope}(h:sY S n t caps target sc=true):kC S n t caps target sc:=by
 unfold sY at h;simp only[Bool.and_eq_true,decide_eq_true_eq,List.all_eq_true,Bool.or_eq_true]at h;obtain⟨⟨⟨⟨⟨⟨C,b⟩,B⟩,v⟩,u⟩,s⟩,j⟩:=h;refine⟨C,λy a=>(b y a).1.1,λy a q=>?_,λx l=>?_,B,v,u,λi r=>?_,?_⟩
 ·rcases(b y a).1.2 with z|z
  ·exact absurd q z
  ·exact z
 ·rcases(b _ l).2 with (z|z)|z
  ·exact absurd rfl z
  ·exact .inl z
  ·exact .inr z
 ·have:=s i r;split at this
  ·rename_i x e;exact⟨x,e,aab this⟩
  ·cases this
 ·cases t with
  |nm i =>
   obtain⟨d,c⟩:=aM j;obtain rfl:i=0:=aab d;obtain⟨x,p,rfl⟩:=kZ c;exact .inl ⟨x,p,rfl,rfl⟩
  |tp is =>
   obtain⟨E,m,g⟩:=bF j;obtain⟨k,p,rfl⟩:=jx m;obtain⟨d,c⟩:=aM g;obtain rfl:is=_:=aab d;exact .inr ⟨E,k,p,rfl,rfl,c⟩
theorem vw{S:Sx}:∀{caps:aN},(∀i∈caps,∃x,S.N[i]?=some x)->(gA S caps).length=caps.length/\∀(j i:Nat),caps[j]?=some i->(gA S caps)[j]?=S.N[i]?
 |[],_=>⟨rfl,λj i h=>by simp at h⟩
 |i::caps,h=>by
  obtain⟨x,b⟩:=h i aaf;obtain⟨d,c⟩:=vw (caps:=caps) λj a=>h j (aad _ a);have e:gA S (i::caps)=x::gA S caps:=by unfold gA;rw[List.filterMap_cons,b]
  rw[e];refine⟨by simp[d],λj k a=>?_⟩;cases j with
  |zero=>simp at a;subst a;simp[b]
  |succ j=>simp at a ⊢;exact c j k a
variable {base h h' h₁:Heap}{ch fp:aX}
section
variable {X:Cx}{S:Sx}{k:Nat}{Φ:bh}{pins:ao}{σ:St}{H2:Hp}{s₂:Shared}
noncomputable def qe(n:Nat)(caps:aN)(σ:St):St:=List.replicate n none++caps.map λi=>σ[i]?.getD none
noncomputable def eZ(a:aw)(n:Nat):Obj:={ cls:=.type "list",data:=.seq a.toArray n }
theorem IP{n:Nat}{t:Tg}{sc:Scope}{cl:List (Str×Addr)}(L:Lk X S k Φ)(m:kC S n t caps target sc)(a:Inv X pins σ H2 s₂)
  (j:∀x c,cl.lookup x=some c->X.env.cells.lookup x=some c) (l:∀x,(x,NameKind.free)∈sc.names->∃c,cl.lookup x=some c) (i:∀b∈fp,pU X pins H2 b) (u:∀b∈fp,b<s₂.heap.objs.size) :
  (eK X (cA target++gA S caps) sc cl (s₂.heap.objs.size+1) s₂ H2 fp).Ok:=by
 have s:=a.j_;refine⟨a.ok.mod,m.kind,a.ok.glob,a.ok.blt,acT _,λx y c r q=>a.ok.inj x y c (j x c r) (j y c q),λx p=>?_,(λ_ _ z=>by cases z),a.ok.hd,a.ok.frames,.inl rfl,λb d=>⟨?_,λx c e=>(i b d).2.2.2.2.1 x c (j x c e)⟩,a.bs,aaR a.ok.EX a.sz,λb o e d=>?_,λb d z=>?_,a.stack,a.kL⟩
 ·have g:(relabel sc X.env).names.lookup x=some .cell\/(relabel sc X.env).names.lookup x=some .free:=p;rcases g with g|g
  ·rcases fK g with z|z
   ·exact absurd rfl (m.CU _ (dQ z))
   ·exact l x (dQ z.2)
  ·rcases fK g with z|z
   ·exact l x (dQ z)
   ·cases z.1
 ·exact aao (aaQ (u b d))
 ·rcases(i b d).2.2.2.1 with z|z
  ·exact a.ok.uv b o e z
  ·exact absurd (aaG (aaj e) (aaR a.ok.EX z)) (aaO _)
 ·rcases List.mem_cons.mp (s b z)with w|w
  ·exact(i b d).2.1 w
  ·exact(i b d).2.2.1 w
theorem DE{n:Nat}{t:Tg}{sc:Scope}{cl:List (Str×Addr)}{tk:Nat}(L:Lk X S k Φ)(d:kC S n t caps target sc)(a:Inv X pins σ H2 s₂)
  (y:∀x c,cl.lookup x=some c->X.env.cells.lookup x=some c) (R:∀x,(x,NameKind.free)∈sc.names->∃c,cl.lookup x=some c) (HU:∀b∈fp,pU X pins H2 b) (MV:∀b∈fp,b<s₂.heap.objs.size)
  (Ba:h₁.Ns (s₂.heap.objs.size+1) λ_=>none) (old:∀b o,s₂.heap.get? b=some o->h₁.get? b=some o) (Y:h₁.get? s₂.heap.objs.size=some (eZ [] 0)) :
  Inv (eK X (cA target++gA S caps) sc cl (s₂.heap.objs.size+1) s₂ H2 fp) [(s₂.heap.objs.size,eZ [] 0)] (qe n caps σ) H2 { s₂ with heap:=h₁,toks:=tk }:=by
 have V:∀i∈caps,∃x,S.N[i]?=some x:=λi g=>let ⟨x,e,_⟩:=d.dz i g;⟨x,e⟩;obtain⟨O,M⟩:=vw V;refine⟨IP L d a y R HU MV,rfl,a.bare,Un.kept old,⟨_,Ba,λi x v e1 e2 e3=>?_⟩,λx c e=>?_,a.cJ.fresh (acT _),λx c e=>a.fN x c (y x c e),λp Z=>?_,a.cJ.kept old,?_⟩
 ·unfold qe at e2;have g:n<=i:=by
   by_cases g:i<n
   ·rw[List.getElem?_append_left (by simpa using g),List.getElem?_replicate,if_pos g]at e2;cases e2
   ·left
  have C:(cA target++gA S caps)[i]?=some x:=e1;rw[List.getElem?_append_right (by rw[<- d.n];exact g),<- d.n]at C;rw[List.getElem?_append_right (by simpa using g),List.length_replicate,List.getElem?_map]at e2;cases B:caps[i - n]? with
  |none=>rw[B]at e2;cases e2
  |some l =>
   rw[B]at e2;rw[M _ _ B]at C;obtain⟨x',U,E⟩:=d.dz l (aaJ B);rw[U]at C;cases C;have Yn:σ[l]?=some (some v):=by
    have s:σ[l]?.getD none=some v:=aaI e2;cases q:σ[l]? with
    |none=>rw[q]at s;cases s
    |some o=>rw[q]at s;simp at s;rw[s]
   have Wv:KH X.env.scope x:=by
    unfold KH;rw[L.sc];rcases d.free x (dQ E)with z|z
    ·exact .inr (.inl z)
    ·exact .inr (.inr z)
   obtain⟨m,hn,hl⟩:=a.loc;obtain⟨u,r,W⟩:=hl l x v (by rw[L.N];exact U) Yn Wv;refine⟨u,r,.inr ⟨?_,?_⟩⟩
   ·rcases dC (env:=X.env) E with z|z
    ·exact .inr z
    ·exact .inl z
   ·have J:∃c,X.env.cells.lookup x=some c/\s₂.heap.IsCell c (some u):=by
     rcases W with ⟨z,_⟩|⟨_,z⟩
     ·have H:X.env.scope.names.lookup x=some .local:=z;rw[L.sc]at H;rcases d.free x (dQ E)with w|w<;>(rw[w]at H;cases H)
     ·exact z
    obtain⟨c,ec,o,I,hd⟩:=J;obtain⟨c',j⟩:=R x (dQ E);have:=y x c' j;rw[ec]at this;cases this;exact⟨c,j,o,old _ _ I,hd⟩
 ·obtain⟨v,o,I,hd⟩:=a.cell x c (y x c e);exact⟨v,o,old _ _ I,hd⟩
 ·have A_:p=(s₂.heap.objs.size,eZ [] 0):=by simpa [eK]using Z
  subst A_;refine⟨Y,a.cJ.fresh (aal _),aao (abf _),λz=>?_,λv z=>by cases z⟩;rcases List.mem_cons.mp (a.j_ _ z)with w|w
  ·exact absurd w (aaM a.lt)
  ·exact a.Me (aal _) w
 ·show(qe n caps σ).length=(cA target++gA S caps).length;unfold qe;rw[List.length_append,List.length_append,List.length_replicate,List.length_map,O,d.n]
end
theorem aI.snoc{T:nF}{N:h_}{k:bt}:∀{n:Nat} {vs:ah} {ds:aa} {v:V} {d:D},aI T N k n vs ds->Rep T N ((n+ds.length)::k) v d->aI T N k n (vs++[v]) (ds++[d])
 |n,_,_,_,_,.nil,h=>.cons h .nil
 |n,_,_,_,_,.cons (ds:=ds) h t,r=>.cons h (aI.snoc t (by
  have e:n+(ds.length+1)=n+1+ds.length:=by left
  rw[List.length_cons,e]at r;exact r))
open Classical in
theorem cN.snoc{K:av}{G R:ai}{τ:Addr->Option bt}{fv:aN}{H H1 H2:Hp}{v:V}{d:D}{vs:ah}{ds:aa}(e1:aL H H1)(e2:aL H1 H2)(h:cN K G R τ fv H H1 vs ds)(t:cI K G R τ fv H1 H2 v d):
  cN K G R τ fv H H2 (vs++[v]) (ds++[d]):=by
 obtain⟨b,l,j⟩:=h;obtain⟨a,k,i⟩:=t;refine⟨λp=>if H1 p=none then(a p).map (· ++ [ds.length])else b p,λp q e=>?_,aI.snoc (j.imp (q:=[]) (q':=[]) (λ_ _ h=>a_.same e2 h) λc p xs f h=>?_) ((Nat.zero_add ds.length).symm▸i.imp (q:=[]) (q':=[ds.length]) (λ_ _ h=>h) λc p xs f h=>?_)⟩
 ·dsimp only at e;by_cases g:H1 p=none
  ·exact e1.free g
  ·rw[if_neg g]at e;exact l p q e
 ·have h':=nd.same e2 h;cases f with
  |ow =>
   refine⟨h'.1,?_⟩;show(if H1 p=none then(a p).map (· ++ [ds.length])else b p)=_;rw[if_neg (h.1.ne)];exact h.2
  |fz=>exact h'
  |al=>exact h'
  |sc=>exact h'
 ·cases f with
  |ow =>
   refine⟨h.1,?_⟩;show(if H1 p=none then(a p).map (· ++ [ds.length])else b p)=_;rw[if_pos (k p _ h.2),h.2];simp
  |fz=>exact h
  |al=>exact h
  |sc=>exact h
structure Yl(K:av)(J:It)(R:ai)(H1:Hp)(items:aa):Prop where
 go:∀i H',aL H1 H'->i<items.length->J.go i H'
 vN:∀i H' x jV,aL H1 H'->i<items.length->J.vN i H' x jV->aL H' jV/\∃d,items[i]?=some d/\Rep (a_ K jV) (nd K R (λ_=>False) (λ_=>none) jV) [] x d
 stop:∀i H',aL H1 H'->items.length<=i->J.stop i H'
variable {C i1 i2 l1 l2:Addr}{s₂:Shared}
section
variable {X:Cx}{S:Sx}{k:Nat}{F:ai}{Φ:bh}
def lV(X:Cx)(F:ai)(τ:Addr->Option bt)(fv:aN)(H2:Hp)(p:Addr):Prop:=H2 p≠none/\j0 (gP X F) τ fv p
theorem wx{R:ai}{H:Hp}(a:SI X F R τ ρ σ H)(b:∀p q,τt p=some q->H p=none)(hs:∀i∈fv,i∈fv')(g d:bt)(p:Addr)(xs:Nd)(f:Fl)
  (h:nd X.K R (j0 (gP X F) τ fv) τt H2 g p xs f):nd X.K (lV X F τ fv' H2) (λ_=>False) (λ_=>none) H2 d p xs (aZ f):=by
 cases f with
 |ow=>exact⟨h.1,h.1.ne,.inr (a.same.free (b p _ h.2)),λc i e=>absurd (b p _ h.2) (a.th p _ e)⟩
 |fz=>exact⟨h.1,h.1.ne,a.rf p h.2,λc i e=>by rw[a.rt p h.2]at e;cases e⟩
 |al=>exact⟨h.1,h.1.ne,h.2.mono hs⟩
 |sc=>exact h
theorem FT{a:Addr}{R:ai}{q:bt}(j:dW X.K H1 a xs)(c:aI (a_ X.K H1) (nd X.K R (λ_=>False) (λ_=>none) H1) q 0 xs items):Yl X.K (O8 X.K a) R H1 items where
 go:=λi H' e b=>⟨xs,xs[i]'(by rw[c.length];exact b),e.seq j,aaH _⟩
 vN:=λi H' x m e b y=>by
  obtain⟨rfl,y⟩:=y;obtain⟨d,hd,l⟩:=c.AG (y xs (e.seq j));refine⟨aL.refl _,d,hd,?_⟩;have:=Rep.iy (g:=id) (λ_ _ h=>h) nd.uX l [];rw[d_]at this;exact this.imp (λ_ _ h=>a_.same e h) λ_ _ _ _ h=>nd.same e h
 stop:=λi H' e b=>⟨xs,e.seq j,by rw[c.length];exact b⟩
theorem KQ{a:Addr}{R:ai}{q:bt}(j:a_ X.K H1 a xs)(c:aI (a_ X.K H1) (nd X.K R (λ_=>False) (λ_=>none) H1) q 0 xs items):Yl X.K (O7 X.K a) R H1 items where
 go:=λi H' e b=>⟨xs,xs[i]'(by rw[c.length];exact b),a_.same e j,aaH _⟩
 vN:=λi H' x m e b y=>by
  obtain⟨rfl,y⟩:=y;obtain⟨d,hd,l⟩:=c.AG (y xs (a_.same e j));refine⟨aL.refl _,d,hd,?_⟩;have:=Rep.iy (g:=id) (λ_ _ h=>h) nd.uX l [];rw[d_]at this;exact this.imp (λ_ _ h=>a_.same e h) λ_ _ _ _ h=>nd.same e h
 stop:=λi H' e b=>⟨xs,a_.same e j,by rw[c.length];exact b⟩
theorem KR{lo:Int}{n:Nat}{R:ai}:Yl X.K (Bk lo n) R H1 ((List.range n).map λ(k:Nat)=>D.int (lo+(k:Int))) where
 go:=λi H' e a=>by simpa [Bk]using a
 vN:=λi H' x c e a y=>by
  obtain⟨rfl,rfl⟩:=y;have b:i<n:=by simpa using a
  exact⟨aL.refl _,.int (lo+i),by rw[List.getElem?_map,List.getElem?_range b];rfl,.int _⟩
 stop:=λi H' e a=>by simpa [Bk]using a
theorem BU{n:Nat}{t:Tg}{sc:Scope}{cl:List (Str×Addr)}{R:ai}(m:SI X F R τ ρ σ H2)(hs:∀i∈caps,i∈fv):
  SI (eK X (cA target++gA S caps) sc cl C s₂ H2 fp) (j0 (gP X F) τ fv) (lV X F τ fv H2) (λ_=>none) (bD n caps ρ) (qe n caps σ) H2:=by
 refine⟨by simp[bD,qe],λi d a=>?_,λ_ _=>rfl,λp h=>h.1,λp h=>.inl h.2,λ_ _ h=>by simp at h,λ_ _ h=>by simp at h,aL.refl _⟩;unfold bD at a;have j:n<=i:=by
  by_cases j:i<n
  ·rw[List.getElem?_append_left (by simpa using j),List.getElem?_replicate,if_pos j]at a;cases a
  ·left
 rw[List.getElem?_append_right (by simpa using j),List.length_replicate,List.getElem?_map]at a;cases l:caps[i - n]? with
 |none=>rw[l]at a;exact nk a
 |some b =>
  rw[l]at a;have g:(ρ[b]?.getD none).map (aR aZ)=some d:=aaI a;have u:∃d0,ρ[b]?=some (some d0)/\aR aZ d0=d:=by
   cases q:ρ[b]? with
   |none=>rw[q]at g;cases g
   |some o =>
    cases o with
    |none=>rw[q]at g;cases g
    |some d0=>rw[q]at g;exact⟨d0,rfl,aaI g⟩
  obtain⟨d0,y,rfl⟩:=u;obtain⟨v,s,r⟩:=m.rep b d0 y;refine⟨v,?_,Rep.iy (λ_ _ h=>h) (λB z p xs f h=>?_) ((r.imp (q:=[b]) (q':=[b]) (N':=λq p xs f=>nd X.K R (λ_=>False) τ H2 q p xs f/\(f=.ow->∃c,q=c++[b])) (λ_ _ h=>h) λc p xs f h=>⟨h,λ_=>⟨c,rfl⟩⟩)) [i]⟩
  ·unfold qe;rw[List.getElem?_append_right (by simpa using j),List.length_replicate,List.getElem?_map,l];simp[s]
  ·obtain⟨h,x⟩:=h;cases f with
   |ow =>
    obtain⟨c,rfl⟩:=x rfl;refine⟨h.1,h.1.ne,.inr (m.t0 p _ h.2),λH E e=>?_⟩;rw[h.2]at e;have:=aa5 List.getLast? (aaI e);simp at this;subst this;exact hs _ (aaJ l)
   |fz=>exact⟨h.1,h.1.ne,m.rf p h.2,λc i e=>by rw[m.rt p h.2]at e;cases e⟩
   |al=>exact h.2.elim
   |sc=>exact h
theorem CY:∀{es:aq},es.all isNm=true->∃xs:List (Str×Pos),es=xs.map λx=>Expr.Name x.1 x.2
 |[],_=>⟨[],rfl⟩
 |e::es,h=>by
  rw[List.all_cons,Bool.and_eq_true]at h;obtain⟨xs,rfl⟩:=CY h.2;obtain⟨x,p,rfl⟩:=kZ h.1;exact⟨(x,p)::xs,rfl⟩
theorem wo(xs:List (Str×Pos)):(xs.map λx=>Expr.Name x.1 x.2).filterMap (λe=>match e with|.Name x _=>some x|_=>none)=xs.map (·.1):=by
 induction xs with
 |nil=>rfl
 |cons x xs a=>simp[a]
def D9(i:Nat):Nat->Jn
 |0=>Nc
 |n+1=>D_ (ph i) (D9 (i+1) n)
theorem yv{X:Cx}(a:X.N.Nodup):∀(xs:List (Str×Pos)) (i:Nat),(∀(j:Nat) x,xs[j]?=some x->X.N[i+j]?=some x.1/\X.env.scope.names.lookup x.1=some .local) ->
  O5 X (xs.map λx=>Expr.Name x.1 x.2) (D9 i xs.length)/\(assignEach (xs.map λx=>Expr.Name x.1 x.2) X.env).length=xs.length/\(assignEach (xs.map λx=>Expr.Name x.1 x.2) X.env).findIdx? (·.1)=none
 |[],_,_=>⟨yu,rfl,rfl⟩
 |x::xs,i,h=>by
  obtain⟨g,e,d⟩:=yv a xs (i+1) λj y c=>by
   have:=h (j+1) y (by simpa using c)
   rwa [show i+(j+1)=i+1+j by left]at this
  obtain⟨l,b⟩:=h 0 x rfl;refine⟨uo (r_ a l (.inl b) (.inr b)) g rfl,?_,?_⟩
  ·show(_::assignEach _ X.env).length=_;rw[List.length_cons,e];rfl
  ·show(((false,assign (.Name x.1 x.2) X.env)::assignEach (xs.map λx=>Expr.Name x.1 x.2) X.env)).findIdx? (·.1)=none;rw[List.findIdx?_cons];simp[d]
end
section
variable {X:Cx}{F R:ai}{τ:Addr->Option bt}{ρ:bo}{σ σ':St}{H:Hp}
theorem SI.Qg{i:Nat}{v:V}{d:D}(a:SI X F R τ ρ σ H)(k:Rep (a_ X.K H) (nd X.K R (λ_=>False) (λ_=>none) H) [] v d)(g:i<ρ.length):SI X F R τ (ρ.set i (some d)) (σ.set i (some v)) H:=by
 refine⟨by simp[a.len],λj m b=>?_,a.rt,a.rh,a.rf,a.th,a.t0,a.same⟩;by_cases e:j=i
 ·subst e;rw[List.getElem?_set_self g]at b;cases b;refine⟨v,ace (by rw[<- a.len];exact g),k.imp (q':=[j]) (λ_ _ h=>h) λc p xs f h=>?_⟩;cases f with
  |ow=>exact nomatch h.2
  |fz=>exact h
  |al=>exact h
  |sc=>exact h
 ·rw[List.getElem?_set_ne (Ne.symm e)]at b;obtain⟨w,hw,l⟩:=a.rep j m b;exact⟨w,by rw[List.getElem?_set_ne (Ne.symm e)];exact hw,l⟩
theorem SI.sig(a:SI X F R τ ρ σ H)(c:σ'.length=σ.length)(h:∀(i:Nat) d,ρ[i]?=some (some d)->σ'[i]?=σ[i]?):SI X F R τ ρ σ' H :=
 ⟨by rw[c];exact a.len,λi d b=>let ⟨v,hv,r⟩:=a.rep i d b;⟨v,by rw[h i d b];exact hv,r⟩,a.rt,a.rh,a.rf,a.th,a.t0,a.same⟩
theorem oI{Q:St->Hp->Prop}(a:St)(c:Nat):∀{m i:Nat} {vs:ah} {ds:aa} {g:bt} {q:Nat} {σ:St} {ρ b:bo},i+m=c->aI (a_ X.K H) (nd X.K R (λ_=>False) (λ_=>none) H) g q vs ds->SI X F R τ ρ σ H->fj (List.range' i m) ds ρ=ok b ->
  σ.length=a.length->(∀j,c<=j->σ[j]?=a[j]?)->(∀σ',σ'.length=a.length->(∀j,c<=j->σ'[j]?=a[j]?)->SI X F R τ b σ' H->Q σ' H)->D9 i m vs σ H Q
 |0,_,_,_,_,_,σ,_,_,_,.nil,Si,e,h1,h2,hq=>by
  cases e;exact⟨rfl,hq σ h1 h2 Si⟩
 |0,_,_,_,_,_,_,_,_,_,.cons _ _,_,e,_,_,_=>by cases e
 |m+1,_,_,_,_,_,_,_,_,_,.nil,_,e,_,_,_=>by cases e
 |m+1,i,_,_,_,_,σ,ρ,_,him,.cons (v:=v) (d:=d) h t,Si,e,h1,h2,hq=>by
  change (if _ then _ else _)=_ at e;split at e
  ·rename_i n;have l:=Si.Qg (i:=i) (Rep.sA h) n;refine⟨_,_,rfl,oI a c (by left) t l e (by simpa using h1) (λj k=>?_) hq⟩;rw[List.getElem?_set_ne (by left)];exact h2 j k
  ·cases e
end
section
variable {X:Cx}{S:Sx}{k:Nat}{F:ai}{Φ:bh}
set_option tactic.hygienic true in
theorem La{n:Nat}{t:Tg}{sc:Scope}{cl:List (Str×Addr)}(RP:X.calm=true)(r:kC S n t caps target sc):
  ∃g,PG (eK X (cA target++gA S caps) sc cl C s₂ H2 fp) target g/\∀(B R':ai) (x:V) (d:D) (b:St) (m:Hp) (Q:St->Hp->Prop) (c ρ1:bo),
   SI (eK X (cA target++gA S caps) sc cl C s₂ H2 fp) B R' (λ_=>none) c b m->Rep (a_ X.K m) (nd X.K R' (λ_=>False) (λ_=>none) m) [] x d->aV cz d=false->cB t d c=ok ρ1 ->
   (∀l,l.length=b.length->(∀j,n<=j->l[j]?=b[j]?)->SI (eK X (cA target++gA S caps) sc cl C s₂ H2 fp) B R' (λ_=>none) ρ1 l m->Q l m)->g x b m Q:=by
 have L:∀x∈cA target,(relabel sc X.env).names.lookup x=some .local:=λx U=>lookup_relabel_local (r.tl x U);rcases r.tg with ⟨x,p,rfl,rfl⟩|⟨es,s,p,rfl,rfl,AA⟩
 ·have N:n=1:=r.n;subst N;refine⟨ph 0,r_ r.nd rfl (.inl (L x (List.mem_singleton.mpr rfl:x∈[x]))) (.inr (L x (List.mem_singleton.mpr rfl:x∈[x]))),λB R' v d b m Q c ρ1 J E _ e H=>?_⟩;simp only[cB]at e;split at e
  ·rename_i Y;cases e;refine H _ (by simp) (λj z=>?_) (J.Qg E Y);rw[List.getElem?_set_ne (by left)]
  ·cases e
 ·obtain⟨xs,rfl⟩:=CY AA;have I:cA (.Tuple (xs.map λx=>Expr.Name x.1 x.2) s p)=xs.map (·.1):=wo xs;have N:n=xs.length:=by rw[r.n,I,List.length_map]
  have:=yv (X:=eK X (cA (.Tuple (xs.map λx=>Expr.Name x.1 x.2) s p)++gA S caps) sc cl C s₂ H2 fp) r.nd xs 0 (λj y u=>by
   refine⟨?_,L y.1 (by rw[I];exact List.mem_map.mpr ⟨y,aaJ u,rfl⟩)⟩;show(cA (.Tuple (xs.map λx=>Expr.Name x.1 x.2) s p)++gA S caps)[0+j]?=_;have z:j<xs.length:=by
    by_cases z:j<xs.length
    ·exact z
    ·rw[List.getElem?_eq_none (by left)]at u;cases u
   rw[I,Nat.zero_add,List.getElem?_append_left (by simpa using z),List.getElem?_map,u];rfl)
  obtain⟨h1,h2,Z⟩:=this;refine⟨_,wF RP h1 h2 Z,λB R' v d b m Q c ρ1 J E ho e H=>?_⟩;cases d<;>try (simp[cB]at e;done)
  rename_i ds;simp only[cB]at e;split at e
  ·cases e
  ·cases E with
   | @tup _ a ys _ W M =>
    rw[List.length_map]at e;have O:fj (List.range' 0 xs.length) ds c=ok ρ1:=by rw[<- List.range_eq_range'];exact e
    refine⟨a,ys,rfl,W,?_,oI (X:=eK X (cA (.Tuple (xs.map λx=>Expr.Name x.1 x.2) s p)++gA S caps) sc cl C s₂ H2 fp) b n (by left) M J O rfl (λ_ _=>rfl) H⟩;rw[M.length];have:∀(is:aN) (ds:aa) (ρ q:bo),fj is ds ρ=ok q->ds.length=is.length:=by
     intro is;induction is with
     |nil=>intro ds ρ q e;cases ds with|nil=>rfl|cons _ _=>cases e
     |cons i is R=>intro ds ρ q e;cases ds with
      |nil=>cases e
      |cons d ds =>
       change (if _ then _ else _)=_ at e;split at e
       ·simp[R ds _ _ e]
       ·cases e
    rw[this _ _ _ _ O,List.length_range']
theorem Ze:∀f:Fl,cz (aZ f)=false:=by intro f;cases f<;>rfl
mutual
theorem Ht:∀d:D,aV cz (aR aZ d)=false
 |.cF=>by simp[aR,aV]
 |.bl _=>by simp[aR,aV]
 |.int _=>by simp[aR,aV]
 |.tup ds=>by simp[aR,aV,gO ds]
 |.lst f ds=>by simp[aR,aV,gO ds,Ze]
 |.cn f a vs=>by simp[aR,aV,gO vs,Ze]
theorem gO:∀ds:aa,aP cz (aA aZ ds)=false
 |[]=>by simp[aA,aP]
 |d::ds=>by simp[aA,aP,Ht d,gO ds]
end
theorem yT{H:Hp}{a:Addr}{o:HO}(x:jM H h)(d:H a=none)(new:cK (upd H a o) h a o):jM (upd H a o) h:=λb u e=>by
 by_cases c:b=a
 ·subst c;rw[aY]at e;cases e;exact new
 ·rw[bq c]at e;exact(x b u e).kM λ_ q=>q
structure CAt(X X':Cx)(F' R':ai)(n:Nat)(base:bo)(σ0:St)(fp:aX)(tn:Nat->Heap->Prop)(H2:Hp)(D:Addr)(items:List DI.D)(bind:DI.D->O bo)(test:bo->O Bool)(el:bo->O DI.D)(all:List DI.D)(m:Nat)(s':Shared):Prop where
 ex:∃(i:Nat) (vs:ah) (aW:aw) (nn:Nat) (σ':St) (H':Hp) (dn rest:List DI.D),m=items.length - i/\i<=items.length/\Inv X' [(D,eZ aW nn)] σ' H' s'/\tn i s'.heap/\(∀b∈fp,H' b=none)/\Vals vs aW/\aL H2 H' /\
  SI X' F' R' (λ_=>none) base σ' H'/\cN X.K (gP X' F') R' (λ_=>none) [] H2 H' vs dn/\gW bind test el (items.drop i)=ok rest/\dn++rest=all
end
theorem cN.go{R:Addr->Prop}{H:Hp}(h:cN K G R τ fv H H1 vs ds)(e:aL H1 H2):cN K G R τ fv H H2 vs ds :=
 let ⟨τt,h1,h2⟩:=h;⟨τt,h1,h2.imp (λ_ _ h=>a_.same e h) λ_ _ _ _ h=>nd.same e h⟩
theorem oQ:∀{ds:aa} {d:D},aP cz ds=false->d∈ds->aV cz d=false
 |[],_,_,h=>nomatch h
 |e::ds,d,h,hm=>by
  rw[aP,Bool.or_eq_false_iff]at h;rcases List.mem_cons.mp hm with rfl|z
  ·exact h.1
  ·exact oQ h.2 z
theorem z5{d:D}(h:ub d=ok items):∀d∈items,aV cz d=false:=by
 unfold ub at h;split at h
 ·cases h;exact λd hd=>oQ (gO _) hd
 ·cases h
theorem wU{a:IK}{xs:aa}(h:e_ Φ a xs=ok items):∀d∈items,aV cz d=false:=by
 cases a with
 |cS p=>obtain⟨d,_,h⟩:=aJ h;exact z5 h
 |lY =>
  cases xs with
  |nil=>cases h
  |cons x t=>cases x<;>first | (cases h;done) | (cases t with
   |cons _ _=>cases h
   |nil =>
    obtain⟨_,h⟩:=sF h;subst h;intro d hd;obtain⟨k,_,rfl⟩:=List.mem_map.mp hd;rfl)
 |seq =>
  cases xs with
  |nil=>cases h
  |cons x t=>cases x<;>first | (cases h;done) | (cases t with
   |cons _ _=>cases h
   |nil=>cases h;exact λd hd=>oQ (gO _) hd)
theorem wX{n:Nat}{i:Nat}{d:D}(h:(bD n caps ρ)[i]?=some (some d)):n<=i:=by
 unfold bD at h;by_cases a:i<n
 ·rw[List.getElem?_append_left (by simpa using a),List.getElem?_replicate,if_pos a]at h;cases h
 ·left
variable {c' elt:CE}{bR cs es:aH}
section
variable {X:Cx}{S:Sx}{k:Nat}{F:ai}{Φ:bh}
theorem Dg{n:Nat}{t:Tg}{sc:Scope}{cl:List (Str×Addr)}(L:Lk X S k Φ)(a:kC S n t caps target sc):
  Lk (eK X (cA target++gA S caps) sc cl C s₂ H2 fp) (S.inner target caps sc) k Φ:=by
 refine⟨?_,rfl,a.nd,L.calm,L.room,L.bl,λf x h=>⟨(L.fn f x h).ex⟩,L.cs,L.pr⟩;show relabel sc X.env=uh sc S.sc;rw[<- L.sc];rfl
theorem vm(L:Lk X S k Φ){n:Nat}{t:Tg}{ik:IK}{ifs:aq}{sc:Scope}(co:kC S n t caps target sc)(Ba:qO iter=true)
    (hE:∀(B:Cx) (Y:ai),Lk B (S.inner target caps sc) k Φ->PE B jT (tD B Y Φ elt))
    (hC:(bR=[]/\ifs=[])\/∃c e,bR=[c]/\ifs=[e]/\∀(B:Cx) (Y:ai),Lk B (S.inner target caps sc) k Φ->PT B e (ig B Y Φ c))
    (hI:∀(pins:ao) (s:Shared) (σ:St) (H:Hp) (R:ai) (τ:Addr->Option bt) (ρ:bo) (xs items:aa),Inv X pins σ H s->SI X F R τ ρ σ H->b0 Φ es ρ=ok xs->e_ Φ ik xs=ok items->∀Rr:It->Hp->Prop,
      (∀J H2,aL H H2->Yl X.K J (lV X F τ (caps++dX es) H2) H2 items->Rr J H2)->wpAny (model X.prog X.w) X.A (eval iter X.env) (λv U=>wpAny (model X.prog X.w) X.A (pyIter v) (FH X pins σ target Rr) X.xe U) X.xe s)
    {use:Option (Value->Sem Unit)} {Post:au} {pins:ao} {s:Shared} {H:Hp} {R:ai} {d:D} {XW:Pos} (I:Inv X pins σ H s) (Si:SI X F R τ ρ σ H) (ev:bz Φ (.comp n t caps ik es bR elt) ρ=ok d)
    (Rp:∀(acc C:Addr) (H1:Hp) (U:Shared) (m:aU),U.heap.Ns C m->(C≠X.env.locals/\X.s₀.heap.objs.size<=C/\(∀x c,X.env.cells.lookup x=some c->c≠C)/\(∀p∈X.pn++pins,p.1≠C)/\H1 C=none)->(∀h',Heap.SameBut C U.heap h'->Inv X pins σ H1 { U with heap:=h' })->aL H H1 ->
      cI X.K (gP X F) R τ (iX (.comp n t caps ik es bR elt)) H H1 (.ref acc) d->compPost (model X.prog X.w) X.A X.xe use Post (.ref acc) C (.ok .next) U) :
    wpAny (model X.prog X.w) X.A (comprehension (.ListComp jT [⟨target,iter,ifs,0⟩] sc pos) sc X.env XW (newList []) false (eval iter X.env) use) Post X.xe s:=by
  obtain⟨xs,cM,ev⟩:=aJ ev;obtain⟨items,xj,ev⟩:=aJ ev;obtain⟨ds,NL,ev⟩:=aJ ev;simp only[Kc]at ev;obtain⟨sJ,rfl⟩:=ev;have Rz:=wU xj;obtain⟨cl,RM,nq,w8⟩:=xp (env:=X.env) (sc:=sc) (λx hx=>I.ok.has x (by
    show X.env.scope.names.lookup x=some .cell\/X.env.scope.names.lookup x=some .free;rw[L.sc];exact co.free x hx))
  have o8:∀x,foldedSetIterable iter X.env x=pure x:=by intro x;cases iter<;>first|rfl | (cases Ba;done)
  refine wpAny_comprehension_free (use:=use) rfl o8 RM co.kind co.loc (aaL (hI pins s σ H R τ ρ xs items I Si cM xj (λJ H2=>aL H H2/\Yl X.K J (lV X F τ (caps++dX es) H2) H2 items) (λJ H2 e y=>⟨e,y⟩)) (λxv s₁ h₁=>aaL h₁ (λWd s₂ h₂=>?_) λ_ _ e=>e) λ_ _ e=>e);obtain⟨it,fp,tn,J,H2,rfl,I2,T,fV,f2,e2,yl⟩:=h₂;have vF:=Si.go e2;have MV:∀b∈fp,b<s₂.heap.objs.size:=λb l=>let ⟨o,ho,_⟩:=T.obj 0 _ fV b l;aaj ho;refine aa0 (wpAny_newFunctionEnv co.CU (by intro y hy;simp at hy) (λh₁ sH o7=>?_) co.kind);dsimp only at sH o7 ⊢;generalize Xs:s₂.heap.push { cls:=.type "list",dict:=none,data:=.seq ([]:aw).toArray }=G2 at sH o7 ⊢;have hGC:G2.objs.size=s₂.heap.objs.size+1:=by rw[<- Xs,Heap.size_push]
  have Uv:s₂.heap.objs.size≠s₂.heap.objs.size+1:=aao (abf _);rw[hGC]at sH o7;have old:∀b o,s₂.heap.get? b=some o->h₁.get? b=some o:=λb o e=>o7.extBut b o (aao (aaQ (aaj e))) (aai _ (Xs▸aai _ e));have iA:h₁.get? s₂.heap.objs.size=some (eZ [] 0):=o7.extBut _ _ Uv (aai _ (Xs▸aaD _ rfl))
  let B:=eK X (cA target++gA S caps) sc cl (s₂.heap.objs.size+1) s₂ H2 fp
  let Y:=j0 (gP X F) τ (caps++dX es)
  let R':=lV X F τ (caps++dX es) H2
  have L':Lk B (S.inner target caps sc) k Φ:=Dg L co;have I4:=λtk=>DE (h₁:=h₁) (tk:=tk) L co I2 nq w8 f2 MV (by simpa using sH) old iA;have S4:SI B Y R' (λ_=>none) (bD n caps ρ) (qe n caps σ) H2:=BU (t:=t) vF (λi hi=>by simp[hi]);obtain⟨g,hg,Az⟩:=La (X:=X) (S:=S) (cl:=cl) (fp:=fp) (s₂:=s₂) (H2:=H2) (C:=s₂.heap.objs.size+1) L.calm co;have Xt:s₂.heap.objs.size∉B.fs:=λz=>by
    rcases List.mem_cons.mp (I2.j_ _ z)with w|w
    · exact absurd w (aaM I2.lt)
    · exact I2.Me (aal _) w
  have MX:∀x c,cl.lookup x=some c->c≠s₂.heap.objs.size:=λx c e=>by
    obtain⟨v,q⟩:=I2.cell x c (nq x c e);exact aao q.lt
  have HS:∀b∈fp,b≠B.env.locals/\b∉B.fs/\(b∈B.ex\/B.s₀.heap.objs.size<=b)/\(∀x c,B.env.cells.lookup x=some c->c≠b):=λb l =>
    ⟨aao (aaQ (MV b l)),λz=>by
      rcases List.mem_cons.mp (I2.j_ b z)with w|w
      · exact(f2 b l).2.1 w
      · exact(f2 b l).2.2.1 w,.inl l,λx c e=>(f2 b l).2.2.2.2.1 x c (nq x c e)⟩
  have RH:∀b∈fp,b≠s₂.heap.objs.size:=λb l=>aao (MV b l);have fin:∀(vs:ah) (N:aw) (nn:Nat) (M:St) (H':Hp) (U:Shared),Inv B [(s₂.heap.objs.size,eZ N nn)] M H' U->Vals vs N->aL H2 H'->cN X.K (gP B Y) R' (λ_=>none) [] H2 H' vs ds ->
      compPost (model X.prog X.w) X.A X.xe use Post (.ref s₂.heap.objs.size) (s₂.heap.objs.size+1) (.ok .next) U:=by
    intro vs N nn M H' U I1 rv sm GI;obtain⟨m,hn,_⟩:=I1.loc;obtain⟨pD,nD,_,_,_⟩:=I1.pin (s₂.heap.objs.size,eZ N nn) (aan _ aaf);have bs:=I1.base;have J7:∀b o,s₂.heap.get? b=some o->b≠s₂.heap.objs.size+1:=λb o e=>aao (aaQ (aaj e));have neD:∀b o,s₂.heap.get? b=some o->b≠s₂.heap.objs.size:=λb o e=>aao (aaj e);have Y3:∀b u,H' b=some u->upd H' s₂.heap.objs.size (.lst vs) b=some u:=λb u e=>by rw[bq (dK e nD)];exact e
    have hlen:vs.length<=sizeLine:=by
      obtain⟨_,_,rr⟩:=GI;have hz:sizeLine=16777216:=abr;have hc:dz=1000000:=rfl;rw[rr.length];left
    have IX:∀h',Heap.SameBut (s₂.heap.objs.size+1) U.heap h'->Inv X pins σ (upd H' s₂.heap.objs.size (.lst vs)) { U with heap:=h' }:=λh' A8=>by
      have un:Un (mn X.stack) fp H2 (upd H' s₂.heap.objs.size (.lst vs)) s₂.heap h' :=
        ⟨λb o e n l hx=>A8.extBut b o (J7 b o e) (bs.keep b o e n l hx),
         λb o e n l hx=>let ⟨sl,q⟩:=bs.slot b o e n l hx;⟨sl,A8.extBut b _ (J7 b o e) q⟩,
         λb o e n hx=>by rw[bq (neD b o e)];exact bs.free b o e n hx,
         λb o e hx=>let ⟨o',q⟩:=bs.there b o e hx;⟨o',A8.extBut b _ (J7 b o e) q⟩,
         λb xs e=>Y3 b _ (bs.m9 b xs e),λb o u e=>Y3 b _ (bs.mj b o u e)⟩
      have WL:jM H' h':=λa o e=>(I1.cJ a o e).kM λu q=>A8.extBut a u (by
        rintro rfl;have hf:H' (s₂.heap.objs.size+1)=none:=I1.free;rw[hf]at e;cases e) q
      have WK:jM (upd H' s₂.heap.objs.size (.lst vs)) h':=yT WL nD ⟨hlen,N,nn,rv,A8.extBut _ _ Uv pD⟩;exact I2.zA (ch:=fp) I1.os un WK I1.bare λb l=>⟨(f2 b l).2.2.2.1,(f2 b l).2.1,(f2 b l).2.2.2.2.1,(f2 b l).2.2.2.2.2⟩
    have eS:aL H' (upd H' s₂.heap.objs.size (.lst vs)):=aL.upd nD;obtain⟨τt,fr,rs⟩:=GI;have V3:s₂.heap.objs.size+1≠s₂.heap.objs.size:=Nat.succ_ne_self _;refine Rp s₂.heap.objs.size (s₂.heap.objs.size+1) _ U m hn ⟨aaM (aaQ I2.lt),acL I2.sz,λx c e=>?_,λp hp=>?_,?_⟩ IX ((e2.trans sm).trans eS) ⟨λq=>if q=s₂.heap.objs.size then some []else τt q,λq z hz=>?_,.lst ⟨aY,by simp⟩ (aI.map (q:=[]) (q':=[]) (λ_ _ h=>a_.same eS h) (λc p ys f h=>?_) rs [] rfl)⟩
    · obtain⟨v,z⟩:=I2.cell x c e
      exact aao (aaQ z.lt)
    · exact aao (aaQ (aaj (I2.pin p hp).1))
    · rw[bq V3];exact I1.free
    · by_cases wZ:q=s₂.heap.objs.size
      · rw[wZ];exact e2.free (sm.free nD)
      · simp only[wZ,if_false]at hz;exact e2.free (fr q z hz)
    · have h':=nd.same eS h
      have YG:∀p,gP B Y p->j0 (gP X F) τ (caps++dX es) p:=λp hp=>hp.elim id λz=>⟨.inr (vF.same.free z),λc i e=>absurd z (vF.th p _ e)⟩
      cases f with
      |ow =>
        have wZ:p≠s₂.heap.objs.size:=by
          intro z;subst z;exact h.1.ne nD
        refine⟨h'.1,?_⟩;show(if p=s₂.heap.objs.size then some []else τt p)=_;rw[if_neg wZ];exact h'.2
      |fz=>exact⟨h'.1,h'.2.2⟩
      |al=>exact⟨h'.1,YG p h'.2.1⟩
      |sc=>exact h'
  have tst:∀(P:ao) (ρ1:bo) (b:Bool) (E:St) (H5:Hp) (s6:Shared),iQ Φ bR ρ1=ok b->Inv B P E H5 s6->SI B Y R' (λ_=>none) ρ1 E H5 ->
      wpAny (model X.prog X.w) X.A (forIn ifs true λc r=>if r=true then do let ok <- isTrue c B.env (eval c B.env);pure (ForInStep.yield ok)else pure (ForInStep.yield r)) (λV0 s7=>V0=b/\∃Z,Inv B P E Z s7/\aL H5 Z) (λ_ _=>False) s6:=by
    intro P ρ1 b E H5 s6 eb I6 S6;rcases hC with ⟨rfl,rfl⟩|⟨c,e,rfl,rfl,hPT⟩
    · rw[iQ]at eb;cases eb
      exact wpAny_tests_nil ⟨rfl,H5,I6,aL.refl _⟩
    · rw[iQ]at eb
      obtain⟨b',eb',eb⟩:=aJ eb;have l:b'=b:=by
        cases b' with
        |true=>rw[if_pos rfl,iQ]at eb;cases eb;rfl
        |false=>rw[if_neg (by simp)]at eb;cases eb;rfl
      subst l;refine wpAny_tests_one (aaL (hPT B Y L' P s6 E H5 (λb'' Z=>b''=b'/\aL H5 Z) I6 ⟨R',_,ρ1,b',S6,eb',λZ e7=>⟨rfl,e7⟩⟩) (λb'' s7 ⟨Z,I7,l,e7⟩=>⟨l,Z,I7,e7⟩) λ_ _ e=>e)
  have loop:∀tk,codeAny (model X.prog X.w) X.A (.compLoop (.ListComp jT [⟨target,iter,ifs,0⟩] sc pos) 0 (.ref it) (.ref s₂.heap.objs.size) B.env)
      (compPost (model X.prog X.w) X.A X.xe use Post (.ref s₂.heap.objs.size) (s₂.heap.objs.size+1)) { s₂ with heap:=h₁,toks:=tk }:=by
    intro tk;refine sT (CAt X B Y R' n (bD n caps ρ) (qe n caps σ) fp tn H2 s₂.heap.objs.size items (λd=>cB t d (bD n caps ρ)) (λρ'=>iQ Φ bR ρ') (λρ'=>bz Φ elt ρ') ds) ?_ items.length
      ⟨0,[],[],0,qe n caps σ,H2,[],ds,rfl,aaZ _,I4 tk,T.keep _ _ _ fV (λb _ o e=>old b o e),λb l=>(f2 b l).1,.nil,aL.refl _,S4,.nil,by rw[List.drop_zero];exact NL,rfl⟩
    rintro m s' ⟨i,vs,N,nn,M,H',dn,rest,hm,hi,I',aQ,fr',rv,sm,fW,GI,V,O⟩;have Ng:∀b∈fp,pU B [(s₂.heap.objs.size,eZ N nn)] H' b:=λb l=>⟨fr' b l,(HS b l).1,(HS b l).2.1,(HS b l).2.2.1,(HS b l).2.2.2,λp hp=>by
      have A_:p=(s₂.heap.objs.size,eZ N nn):=by simpa [B,eK]using hp
      rw[A_];exact(RH b l).symm⟩
    by_cases dv:i<items.length
    · refine aaL (T.item B rfl rfl rfl L.calm i _ s' M H' (λ_ _=>False) I' Ng aQ (yl.go i H' sm dv)) (λr U h4=>?_) λ_ _ e=>e
      obtain⟨u,hr,h4⟩:=h4;subst hr;refine aaL h4 (λ_ s5 h5=>?_) λ_ _ e=>e;obtain⟨x,H5,I5,r5,y5,Gu,XU⟩:=h5;obtain⟨e5,dd,hd,rd⟩:=yl.vN i H' x H5 sm dv y5;have YR:=I5.pinned (fp:=fp) (λb l=>⟨XU b l,(Ng b l).2⟩) (T.obj _ _ Gu);have uR:items.drop i=dd::items.drop (i+1):=by
        rw[List.drop_eq_getElem_cons dv];rw[List.getElem?_eq_getElem dv]at hd;cases hd;rfl
      rw[uR,gW]at V;obtain⟨ρ1,eb,V⟩:=aJ V;obtain⟨bb,et,V⟩:=aJ V;refine aaL (hg _ s5 M H5 x u (λE H6=>H6=H5/\E.length=M.length/\(∀j,n<=j->E[j]?=M[j]?)/\SI B Y R' (λ_=>none) ρ1 E H5) YR r5
        (Az Y R' x dd M H5 _ (bD n caps ρ) ρ1 (fW.go e5) rd (Rz dd (aaJ hd)) eb λE g1 g2 g3=>⟨rfl,g1,g2,g3⟩)) (λ_ s6 h6=>?_) λ_ _ e=>e
      obtain⟨E,H6,I6,rfl,g1,g2,S6⟩:=h6;refine aaL (tst _ ρ1 bb E H6 s6 et I6 S6) (λV0 s7 h7=>?_) λ_ _ e=>e;obtain⟨rfl,Z,I7,e7⟩:=h7;have U3:∀{P:ao} {σ3:St} {W:Hp} {s8:Shared},Inv B (P++jh fp s5.heap) σ3 W s8->tn (i+1) s8.heap/\∀b∈fp,W b=none:=λ{P σ3 W s8} I8 =>
        ⟨T.keep _ _ _ Gu λb l o e=>(I8.pin (b,o) (aan _ (aan _ (iu l e)))).1,λb l=>by
          obtain⟨o,e,_⟩:=T.obj _ _ Gu b l;exact(I8.pin (b,o) (aan _ (aan _ (iu l e)))).2.1⟩
      have Ky:∀{W:Hp},aL Z W->SI B Y R' (λ_=>none) (bD n caps ρ) E W:=λ{W} e8=>(fW.go ((e5.trans e7).trans e8)).sig g1 λj d hj=>g2 j (wX hj);cases V0 with
      |false =>
        rw[if_neg (by simp)]at V ⊢;exact⟨items.length - (i+1),by left,i+1,vs,N,nn,E,Z,dn,rest,rfl,dv,I7.kJ,(U3 I7).1,(U3 I7).2,rv,(sm.trans e5).trans e7,Ky (aL.refl _),GI.go (e5.trans e7),V,O⟩
      |true =>
        rw[if_pos rfl]at V ⊢;obtain⟨y,ey,V⟩:=aJ V;obtain⟨ys,uZ,V⟩:=aJ V;cases V;refine aaL (hE B Y L' _ s7 E Z (λv W=>aL Z W/\cI X.K (gP B Y) R' (λ_=>none) [] Z W v y) I7 ⟨R',_,ρ1,y,S6.go e7,ey,λv W e8 r8=>⟨e8,?_⟩⟩) (λu8 s8 h8=>?_) λ_ _ e=>e
        · obtain⟨τt,fr,rr⟩:=r8
          exact⟨τt,fr,rr.imp (q:=[]) (q':=[]) (λ_ _ h=>h) λc p ys f h=>h.mono id (λh=>⟨h.1,λ_ _ e=>by cases e⟩) id⟩
        · obtain⟨v8,W,I8,rv8,e8,r8⟩:=h8
          obtain⟨pD,nD,_,_,_⟩:=I8.pin (s₂.heap.objs.size,eZ N nn) (aan _ (aaK _ aaf));have hlen:N.length<=1000000:=by
            obtain⟨_,_,rr⟩:=GI;have h1:dn.length<=ds.length:=by rw[<- O,List.length_append];left
            have hc:dz=1000000:=rfl;rw[<- rv.length,rr.length];left
          have hz:sizeLine=16777216:=abr;refine acO ab7 ⟨_,pD,rfl⟩ PySem.F.entry_list_append (PySem.F.args_list_append_2 _ _) (PySem.list_append s₂.heap.objs.size N.toArray nn u8 (by rw[List.size_toArray];left)) ⟨pD,?_⟩;have q:=PySem.IsL.update pD (λx=>x.push u8);have Rn:N.toArray.push u8=(N++[u8]).toArray:=by simp
          rw[Rn]at q;obtain⟨Ue,q'⟩:∃Ue,(s8.heap.update s₂.heap.objs.size (Obj.mapSeq λx=>x.push u8)).get? s₂.heap.objs.size=some (eZ (N++[u8]) Ue):=⟨_,q⟩
          have I8d:Inv B (jh fp s5.heap) E W s8:=I8.jE λp hp=>I8.pin p (aan _ (aan _ hp));have I8t:Inv B (jh fp s5.heap) E W { s8 with heap:=s8.heap.update s₂.heap.objs.size (Obj.mapSeq λx=>x.push u8),toks:=s8.toks } :=
            I8d.turned (it:=s₂.heap.objs.size) (λb o l e=>(abd s8.heap (Obj.mapSeq λx=>x.push u8) (ack l)).trans e) nD Uv (.inr (aal _)) MX λp hp=>by
              have A_:p∈jh fp s5.heap:=by simpa [B,eK]using hp
              exact RH p.1 (qN A_).1
          have kp:=U3 (P:=[]) (by rw[List.nil_append];exact I8t);refine⟨items.length - (i+1),by left,i+1,vs++[v8],N++[u8],Ue,E,W,dn++[y],ys,rfl,dv,I8t.jE (λp hp=>?_),kp.1,kp.2,rv.append (.cons rv8 .nil),((sm.trans e5).trans e7).trans e8,Ky e8,cN.snoc ((sm.trans e5).trans e7) e8 (GI.go (e5.trans e7)) r8,uZ,by rw[List.append_assoc];exact O⟩;have A_:p=(s₂.heap.objs.size,eZ (N++[u8]) Ue):=by simpa using hp
          rw[A_];exact⟨q',nD,Uv,Xt,λv z=>by cases z⟩
    · refine aaL (T.done B rfl rfl rfl L.calm i _ s' M H' (λ_ _=>False) I' Ng aQ (yl.stop i H' sm (by left))) (λr U h1=>?_) λ_ _ e=>e
      obtain⟨hr,I1⟩:=h1;subst hr;have WU:items.drop i=[]:=acf (by left);rw[WU,gW]at V;cases V;rw[List.append_nil]at O;subst O;exact fin vs N nn M H' U I1 rv sm GI
  have key:=λtk=>codeAny_compStart_list (loop tk) (T.self X.A 0 _ _ _ (T.keep _ _ _ fV λb _ o e=>old b o e) (loop tk));rw[hGC];exact key _
theorem GD(L:Lk X S k Φ){n:Nat}{t:Tg}{p:IK}{a:aq}{sc:Scope}(M:kC S n t caps target sc)(U:qO iter=true)
  (z:∀(b:Cx) (j:ai),Lk b (S.inner target caps sc) k Φ->PE b jT (tD b j Φ elt))
  (B:(bR=[]/\a=[])\/∃c e,bR=[c]/\a=[e]/\∀(b:Cx) (j:ai),Lk b (S.inner target caps sc) k Φ->PT b e (ig b j Φ c))
  (y:∀(pins:ao) (s:Shared) (σ:St) (H:Hp) (R:ai) (τ:Addr->Option bt) (ρ:bo) (xs items:aa),Inv X pins σ H s->SI X F R τ ρ σ H->b0 Φ es ρ=ok xs->e_ Φ p xs=ok items->∀q:It->Hp->Prop,
   (∀J H2,aL H H2->Yl X.K J (lV X F τ (caps++dX es) H2) H2 items->q J H2)->wpAny (model X.prog X.w) X.A (eval iter X.env) (λv l=>wpAny (model X.prog X.w) X.A (pyIter v) (FH X pins σ target q) X.xe l) X.xe s) :
  PE X (.ListComp jT [⟨target,iter,a,0⟩] sc pos) (tD X F Φ (.comp n t caps p es bR elt)):=by
 intro pins s σ H Q I g;obtain⟨R,τ,ρ,d,N,E,g⟩:=g;rw[eval_ListComp];refine vm L M U z B y (use:=none) (Post:=EP X pins σ Q) I N E λi C H1 l m x _ O r u=>?_;exact⟨m,x,λh' V=>⟨.ref i,H1,O h' V,rfl,g _ _ r u⟩⟩
end
section
variable {X:Cx}{pins:ao}{s:Shared}{σ:L2.St}{H:Hp}
theorem uK{A:aB}{E:au}{l:Addr}{items:bg}{Q:au}{s:Shared}(a:s.heap.IsList l items)
  (h:∀s₂:Shared,s₂={ s with heap:=s.heap.push { cls:=.type "list_iterator",data:=.fields #[.ref l,.int 0 0] } }->s₂.heap.IsListIter s.heap.objs.size l 0/\s₂.heap.IsList l items->(∀b∈[s.heap.objs.size,l],b<s₂.heap.objs.size)->l≠s.heap.objs.size->Q (.ref s.heap.objs.size) s₂) :
  wpAny (model prog w) A (pyIter (.ref l)) Q E s:=by
 have c:l<s.heap.objs.size:=by obtain⟨_,e,_⟩:=a;exact aaj e
 refine wpAny_pyIter_list a (h _ rfl ⟨⟨_,aaD _ rfl,rfl,rfl⟩,a.push _⟩ (λb i=>?_) (aao c));have g:(s.heap.push { cls:=.type "list_iterator",data:=.fields #[.ref l,.int 0 0] }).objs.size=s.heap.objs.size+1:=Heap.size_push ..;have d:b=s.heap.objs.size\/b=l:=by simpa using i
 show b<_;rw[g];rcases d with e|e
 ·rw[e];exact abf _
 ·rw[e];exact aaQ c
theorem uI{a:Obj}{s:Shared}(d:∀b o,b∉[s.heap.objs.size]->(s.heap.push a).get? b=some o->h'.get? b=some o):∀b o,s.heap.get? b=some o->h'.get? b=some o:=λb o e =>
 d b o (λc=>absurd ((by simpa using c:b=s.heap.objs.size)▸aaj e) (aaO _)) (aai _ e)
theorem eO{a:Addr}{b:bg}(p:PlainL h a b):h.IsList a b:=let ⟨o,n,h1,h2,_,h4⟩:=p;⟨o,h1,h2,n,h4⟩
theorem jg(a:Nat->Int)(ns:ae)(b:∀i,a i=ns.getD i 0):∀k,k<=ns.length->preSum a k=(ns.take k).sum
 |0,_=>by simp[preSum]
 |k+1,h=>by
  have c:k<ns.length:=by left
  rw[preSum,jg a ns b k (by left),b k,List.take_add_one,List.sum_append];simp[List.getD,c]
theorem AY(t:X.calm=true):gv X (.builtin "sum") (λxs H Q=>∃(p:Addr) (ns:ae),xs=[.ref p]/\dW X.K H p (ns.map V.int)/\Q (.int ns.sum) H):=by
 intro pins s σ H xs E Q I r h;obtain⟨p,ns,rfl,l,q⟩:=h;obtain⟨u,rfl,b⟩:=r.one;cases b;obtain⟨a,d,k,g⟩:=I.list l;have hlen:a.length=ns.length:=by have:=d.length;simpa using this.symm
 refine call_sum_walkG (uK (eO k) λs₂ e st B y=>?_);subst e;refine⟨_,_,_,_,_,_,λi=>ns.getD i 0,rfl,Walks.list (A:=X.A.in1) (I.ok.hd t) _ p y a.toArray,st,B,λi v x=>?_,λh' tk t' n=>?_⟩
 ·have c:a[i]?=some v:=by simpa using x
  have J:i<a.length:=by
   by_cases z:i<a.length
   ·exact z
   ·rw[List.getElem?_eq_none (by left)]at c;cases c
  have m:(ns.map V.int)[i]?=some (.int (ns.getD i 0)):=by
   rw[List.getElem?_map,List.getElem?_eq_getElem (by left)];simp[List.getD,show i<ns.length by left]
  obtain⟨u,j,b⟩:=d.get m;rw[c]at j;cases j;exact b
 ·refine⟨.int ns.sum,H,I.kept (t':=tk) (uI n),⟨t',?_⟩,q⟩;have g:preSum (λi=>ns.getD i 0) a.toArray.size=ns.sum:=by
   rw[List.size_toArray,hlen,jg _ ns (λ_=>rfl) _ (Nat.le_refl _),List.take_length]
  rw[g]
theorem range_all{c:Type}(l:List c)(f:c->Bool)(d:Nat->Bool)(h:∀i a,l[i]?=some a->d i=f a):(List.range l.length).all d=l.all f:=by
 rw[Bool.eq_iff_iff,List.all_eq_true,List.all_eq_true];constructor
 ·intro z a g;obtain⟨i,b,e⟩:=List.mem_iff_getElem.mp g;have:=z i (List.mem_range.mpr b);rw[h i a (by rw[List.getElem?_eq_getElem b,e])]at this;exact this
 ·intro z i b;have b:=List.mem_range.mp b;rw[h i l[i] (List.getElem?_eq_getElem b)];exact z _ (aaU b)
theorem A0(t:X.calm=true):gv X (.builtin "all") (λxs H Q=>∃(p:Addr) (bs:List Bool),xs=[.ref p]/\dW X.K H p (bs.map V.bl)/\Q (.bl (bs.all id)) H):=by
 intro pins s σ H xs E Q I r h;obtain⟨p,bs,rfl,l,q⟩:=h;obtain⟨u,rfl,c⟩:=r.one;cases c;obtain⟨b,g,k,L⟩:=I.list l;have hlen:b.length=bs.length:=by have:=g.length;simpa using this.symm
 refine call_all_walk (uK (eO k) λs₂ e st O B=>?_);subst e;refine⟨_,_,_,_,_,_,λi=>bs.getD i false,rfl,Walks.list (A:=X.A.in1) (I.ok.hd t) _ p B b.toArray,st,λi v J N R y x=>?_,λh' tk n=>?_⟩
 ·have d:b[i]?=some v:=by simpa using y
  have M:i<b.length:=by
   by_cases z:i<b.length
   ·exact z
   ·rw[List.getElem?_eq_none (by left)]at d;cases d
  have m:(bs.map V.bl)[i]?=some (.bl (bs.getD i false)):=by
   rw[List.getElem?_map,List.getElem?_eq_getElem (by left)];simp[List.getD,show i<bs.length by left]
  obtain⟨u,j,c⟩:=g.get m;rw[d]at j;cases j;cases c;exact abj x
 ·refine⟨.bl (bs.all id),H,I.kept (t':=tk) (uI n),?_,q⟩;show Value.bool _=Value.bool _;rw[List.size_toArray,hlen,range_all bs id _ λi a e=>by simp[List.getD,e]]
end
variable {ns:ae}
section
variable {prog:aC}{w:World}{A:aB}{E:au}{s:Shared}
theorem pN{l:Addr}{vs:aw}{Q:aw->Shared->Prop}{o:Obj}{n:Nat}(c:s.heap.get? l=some o)(d:o.cls=.type "tuple")(hd:o.data=.seq vs.toArray n)
  (h:Q vs { s with heap:=(s.heap.push (seqObj "list" #[] 0)).update s.heap.objs.size (Obj.mapSeq (· ++ vs.toArray)) }) (hsz:vs.length<=sizeLine):wpAny (model prog w) A (collect (.ref l)) Q E s:=by
 unfold collect;refine aaa (wpAny_runValue (abQ entry_proto_collect' ?_));show wpAny _ _ (newList [] >>= λz=>again (.builtin "list.__iadd__" ⟨[z,.ref l],[]⟩)) _ _ s;refine aaa (acJ (aac ⟨acH _ (by decide +kernel),abQ entry_list_iadd' ?_⟩));have b:(s.heap.push (seqObj "list" #[] 0)).get? l=some o:=aai _ c;have a:(s.heap.push (seqObj "list" #[] 0)).get? s.heap.objs.size=some (seqObj "list" #[] 0):=aaD _ rfl;show wpAny _ _ (Builtin.List.listExtendWith (.ref s.heap.objs.size) (.ref l) (.ref s.heap.objs.size)) _ _ ({ s with heap:=s.heap.push (seqObj "list" #[] 0) }:Shared);unfold Builtin.List.listExtendWith;refine aaa (wpAny_typeOf (T:="tuple") ⟨o,b,d⟩ ?_);rw[aa2 (by rw[show(Value.type "tuple" == Value.type "tuple")=true from rfl,Bool.or_true])];refine aaa (listItems_at b hd (aaa (listItems_at a rfl ?_)));rw[if_neg (by simp)];refine aaa (listUpdate_at a rfl ?_ (aaZ _) (by
  show(#[]++vs.toArray).size<=sizeLine+1;rw[Array.size_append,List.size_toArray];exact acL (by simpa using hsz)))
 refine aac ?_;show wpAny (model prog w) A (load s.heap.objs.size >>= λo=>match o.data with
   |.seq xs _=>pure xs.toList
   |_=>unsupported "internal:collect") Q E ({ s with heap:=(s.heap.push (seqObj "list" #[] 0)).update s.heap.objs.size (Obj.mapSeq (· ++ vs.toArray)) }:Shared)
 refine aaa (wpAny_load (get?_update_seq a _) ?_);show wpAny _ _ (pure ((#[]:bg)++vs.toArray).toList) Q E _;rw[show((#[]:bg)++vs.toArray).toList=vs by simp];exact aac h
theorem qd{l:Addr}{vs:aw}{Q:au}{o:Obj}{n:Nat}(d:s.heap.get? l=some o)(e:o.cls=.type "tuple")(hd:o.data=.seq vs.toArray n)(g:IntsAre vs ns)(b:vs.length<64)
  (h:∀(out:bg) (a:ae),IntsAre out.toList a->a.Perm ns->a.Pairwise (· <= ·)->Q (.ref (s.heap.objs.size+1)) { s with heap:=sortedAll s.heap vs out }):wpAny (model prog w) A (call (.builtin "sorted") [.ref l]) Q E s:=by
 refine Calls.call_function_entry kind_sorted plain_sorted entry_sorted (args_sorted1 _) ?_;unfold Builtin.«sorted»;have c:vs.length<=sizeLine:=by rw[sizeLine_eq];left
 refine aaa (m:=checkCount "sorted" 1 1 _) (aac (aaa (pN d e hd (aaa (acJ ?_)) c)));have e1:((s.heap.push (seqObj "list" #[] 0)).update s.heap.objs.size (Obj.mapSeq (· ++ vs.toArray))).objs.size=s.heap.objs.size+1:=by rw[Heap.size_update,size_push']
 have e2:(((s.heap.push (seqObj "list" #[] 0)).update s.heap.objs.size (Obj.mapSeq (· ++ vs.toArray))).push (seqObj "list" vs.toArray 0)).get? (s.heap.objs.size+1)=some (seqObj "list" vs.toArray 0):=by
  rw[<- e1];exact aaD _ rfl
 show wpAny _ _ _ _ _ ({ s with heap:=((s.heap.push (seqObj "list" #[] 0)).update s.heap.objs.size (Obj.mapSeq (· ++ vs.toArray))).push (seqObj "list" vs.toArray 0) }:Shared);rw[e1];refine aaa (aa9 (aaY slot_list_sort ⟨_,e2,rfl⟩ entry_list_sort (list_sort_tree e2 g b λout a a1 a2 a3=>⟨_,rfl,aac ⟨_,rfl,h out a a1 a2 a3⟩⟩) (args_list_sort _)))
end
theorem sortI_perm(ns:ae):(sortI ns).Perm ns:=aaV ..
theorem BQ(ns:ae):(sortI ns).Pairwise (· <= ·):=by
 have:=List.pairwise_mergeSort (le:=λa b:Int=>decide (a<=b)) (by intro a b c;simp;left) (by intro a b;simp;left) ns;unfold sortI;simpa using this
theorem eC:∀{vs:aw} {ns:ae},Vals (ns.map V.int) vs->IntsAre vs ns
 |_,[],h=>by cases h;exact .nil
 |_,n::ns,h=>by
  cases h with
  |cons r t=>obtain⟨tk,rfl⟩:=r;exact .cons n tk (eC t)
theorem s_:gv X (.builtin "sorted") (λxs H Q=>∃(p:Addr) (ns:ae),xs=[.ref p]/\(dW X.K H p (ns.map V.int)\/a_ X.K H p (ns.map V.int))/\ns.length<64/\∀l,H l=none->Q (.ref l) (upd H l (.lst ((sortI ns).map V.int)))):=by
 intro pins s σ H xs M Q I r h;obtain⟨p,ns,rfl,d,t,q⟩:=h;obtain⟨u,rfl,v⟩:=r.one;cases v;have fin:∀(vs:aw) (out:bg) (a:ae),IntsAre out.toList a->a.Perm ns->a.Pairwise (· <= ·)->EP X pins σ Q (.ref (s.heap.objs.size+1)) { s with heap:=sortedAll s.heap vs out }:=by
  intro vs out a j i g;obtain rfl:a=sortI ns:=PySem.W.ksm_same (i.trans (sortI_perm ns).symm) g (BQ ns);obtain⟨e,J⟩:=sortedAll_at s.heap vs out;have E:H (s.heap.objs.size+1)=none:=I.cJ.fresh (acT _);refine⟨.ref (s.heap.objs.size+1),upd H (s.heap.objs.size+1) (.lst ((sortI ns).map V.int)),I.laid (t':=s.toks) (λb u z=>sortedAll_old z) (acT _) ⟨?_,out.toList,e,lR j,by simpa using J⟩,rfl,q _ E⟩;rw[List.length_map,(sortI_perm ns).length_eq,sizeLine_eq];left
 rcases d with d|d
 ·obtain⟨k,c,x,y⟩:=I.list d;have m:k.length<64:=by rw[<- c.length];simpa using t
  exact sorted_ints (eO x) (eC c) m λout a j i g=>fin k out a j i g
 ·obtain⟨k,c,⟨o,B,L,n,hd⟩,y⟩:=I.tuple d;have m:k.length<64:=by rw[<- c.length];simpa using t
  exact qd B L hd (eC c) m λout a j i g=>fin k out a j i g
theorem BA:isSubtype (.type "tuple") (.type "set")=pure false:=by rw[isSubtype_type];kernel_rfl
theorem tN:isSubtype (.type "tuple") (.type "frozenset")=pure false:=by rw[isSubtype_type];kernel_rfl
noncomputable abbrev m_(a:Bool):Obj:={ cls:=.type "set",dict:=none,data:=.set #[] 0 (.fresh 0 0 a) }
noncomputable abbrev dist(ns:ae):ae:=firstMet (λi=>ns.getD i 0) ns.length
section
variable {prog:aC}{w:World}{A:aB}{E:au}{s:Shared}
theorem wu{l:Addr}{d:aw}{Q:au}(hh:A.handled=none)(hl:s.heap.IsTuple l d.toArray)(N:IntsAre d ns)(x:d.length+1<scanBound)
  (h:∀(h':Heap) (tk:Nat),h'.SetOf (intKind prog w) s.heap.objs.size (λk=>(dist ns).any (· == k)) (dist ns).length->(∀b o,b<s.heap.objs.size->s.heap.get? b=some o->h'.get? b=some o)->Q (.ref s.heap.objs.size) { s with heap:=h',toks:=tk }) :
  wpAny (model prog w) A (call (.type "set") [.ref l]) Q E s:=by
 have H:d.length=ns.length:=N.length;obtain⟨c,tl,k1⟩:=F.called_set.mro;have k2:=F.called_set.made;have k3:=F.called_set.sub;have k4:=F.called_set.notType;have k5:=F.called_set.canCreate;have k6:=F.typeCall_set_1 (.ref l);refine wpAny_call (codeAny_of_tree (show wpAny _ _ (callAny (.type "set") _) _ _ _ from aac ⟨acH _ (by decide +kernel),abQ F.entry_type_call ?_⟩));rw[Around.under_plain (weight_type_call_type "set" [.ref l] []) rfl]
 repeat (any_goals (first|assumption|wp_step))
 refine ab5 (code_set_new_1 (.ref l) (E:=E) (Q₁:=λz g=>∃a:Bool,z=.ref s.heap.objs.size/\g={ s with heap:=s.heap.push (m_ a) }) λa=>⟨a,rfl,rfl⟩) λr g q=>?_;cases r with
 |error e=>exact q
 |ok fl =>
  cases fl with
  |next=>exact q.elim
  |brk=>exact q.elim
  |cont=>exact q.elim
  |ret z =>
   obtain⟨a,rfl,rfl⟩:=q;have O:(s.heap.push (m_ a)).get? s.heap.objs.size=some (m_ a):=aaD _ rfl;have g2:Shared.TypeIs { s with heap:=s.heap.push (m_ a) } (.ref s.heap.objs.size) "set":=⟨_,O,rfl⟩
   have g3:=F.called_set.init.lookup;have g4:=F.called_set.init.bind (.ref s.heap.objs.size)
   repeat (any_goals (first|assumption|wp_step))
   refine ab5 (acw (R:=wants (λr s₂=>r=.none/\∃h' tk,s₂={ s with heap:=h',toks:=tk }/\h'.SetOf (intKind prog w) s.heap.objs.size (λk=>(dist ns).any (· == k)) (dist ns).length/\∀b o,b<s.heap.objs.size->s.heap.get? b=some o->h'.get? b=some o) E) F.called_set.init.plain F.entry_set_init (check_set_init_1 g2 ?_)) λp s₂ n=>?_
   ·obtain⟨ot,U,V,M,W⟩:=hl;obtain⟨oc,od,odt,CH⟩:=ot;simp only at V W;subst V;subst W;have u1:(s.heap.push (m_ a)).get? l=some { cls:=.type "tuple",dict:=od,data:=.seq d.toArray M,slots:=CH }:=aai _ U;have u2:=BA;have u3:=tN;have u4:(Value.type "tuple" == Value.type "dict")=false:=by decide
    have L:(s.heap.push (m_ a)).IsTuple l d.toArray:=⟨_,u1,rfl,M,rfl⟩
    unfold Builtin.«set.__init__» noKeywords Builtin.Frozenset.updateFrom;generalize I:pyIter=PI
    wp_walk
    subst I;refine wpAny_pyIter_tuple L (aaa (wpAny_runValue ?_));have J:l<s.heap.objs.size:=aaj U;have u7:A.in1.in1.in1.handled=none:=by simp[hh]
    have B:(s.heap.push (m_ a)).objs.size=s.heap.objs.size+1:=Heap.size_push ..;have u8:l≠(s.heap.push (m_ a)).objs.size:=by rw[B];exact aao (aaQ J)
    have Z:s.heap.objs.size∉[(s.heap.push (m_ a)).objs.size,l]:=by
     rw[B];intro m;simp at m;exact absurd m (aaM J)
    have v1:∀(i:Nat) (v:Value),d.toArray[i]?=some v->∃t,v=.int ((λi=>ns.getD i 0) i) t:=λi v hv=>N.int_at i v (by simpa using hv);refine codeAny_set_update_loopS ((Walks.tuple u7 _ l u8 d.toArray).toS) s.heap.objs.size Z (λi=>ns.getD i 0) v1 (by rw[List.size_toArray];exact x) (d.toArray.size - 0) 0 _ (by left) (aaZ _) ⟨⟨_,aaD _ rfl,rfl,rfl⟩,L.push _⟩ ?hS0 ?hR
    case hS0 =>
     have Y:((s.heap.push (m_ a)).push { cls:=.type "tuple_iterator",data:=.fields #[.ref l,.int 0 0] }).get? s.heap.objs.size=some (m_ a):=aai _ O;exact SetOf_congr ((setObjOf_fresh (knd:=intKind prog w) a).setOf Y (by unfold scanBound;left)) (λ_=>rfl) rfl
    case hR =>
     intro s' u j;obtain⟨h',g',d',y,VX⟩:=s';cases (show g'=s.gens from u.gens);cases (show d'=s.drawn from u.drawn);cases (show VX=s.os from u.os);have j:h'.SetOf (intKind prog w) s.heap.objs.size (λk=>(dist ns).any (· == k)) (dist ns).length:=by
      have e:d.toArray.size=ns.length:=by rw[List.size_toArray,H]
      rw[e]at j;exact j
     refine aac (show wpAny _ _ (ret Value.none) _ _ _ from aac ⟨rfl,h',y,rfl,j,λb o x e=>u.heap b o (λm=>?_) (aai _ (aai _ e))⟩);rcases List.mem_cons.mp m with m|m
     ·exact aao x m
     ·have m:b=(s.heap.push (m_ a)).objs.size:=by simpa using m
      rw[B]at m;exact aao (aaQ x) m
   ·cases p with
    |error e=>exact n
    |ok Sg =>
     cases Sg with
     |ret r =>
      obtain⟨rfl,h',tk,rfl,j,HQ⟩:=n
      repeat (any_goals (first|assumption|wp_step))
      exact h _ _ j HQ
     |next=>exact n.elim
     |brk=>exact n.elim
     |cont=>exact n.elim
end
theorem ED(ns:ae):dist ns=sS ns:=by
 unfold dist firstMet sS;have e:(List.range ns.length).map (λi=>ns.getD i 0)=ns:=by
  refine abE (by simp) λi a b=>?_;simp at a;simp[a]
 rw[e];rfl
def rLs(K:av):ah->Hp->VK->Prop:=λxs H Q=>∃(p:Addr) (ns:ae),xs=[.ref p]/\a_ K H p (ns.map V.int)/\ns.length<4000/\Q (.int (sS ns).length) H
theorem boot_set:bootBuiltins ("set" : Str)=some (.type "set"):=by decide +kernel
theorem Hf{e:Expr}{t:TA}{p:Pos}(x:X.calm=true)(U:Gl X ("len" : Str))(V:X.mg ("len" : Str)=none)(d:Gl X ("set" : Str))(c:X.mg ("set" : Str)=none)(y:PA X [e] t)
  (l:∀es,starEach (e::es) X.env=(false,eval e X.env)::starEach es X.env):PE X (.Call (.Name ("len" : Str) p) [.Call (.Name ("set" : Str) p') [e] [] pos'] [] pos) (PZ (rLs X.K) t):=by
 intro pins s σ H Q I h;refine abt (iz I U V PySem.boot_len ?_ (by decide) (by decide));refine PyProof.Rows.callWith_builtin1 ?_ rfl rfl;show wpAny _ _ (spliced ((false,eval (.Call (.Name ("set" : Str) p') [e] [] pos') X.env)::[])) _ _ s;refine acF ?_;refine abt (iz I d c boot_set ?_ (by decide) (by decide));refine aaW (dF (y pos' pins s σ H _ I h) λW Z O=>?_) (l _) rfl;obtain⟨vs,H1,g,r1,q1⟩:=O;obtain⟨a,ns,rfl,r,hl,q⟩:=q1;obtain⟨u,rfl,k⟩:=r1.one;cases k;obtain⟨R,i,n,hz⟩:=g.tuple r;have v:R.length=ns.length:=by rw[<- i.length];simp
 refine wu (g.ok.hd x) n (eC i) (by unfold scanBound;left) λh' tk j m=>acK ?_;rw[ED]at j;obtain⟨o,es,ep,Y,N,M,L,_,_,J,E,B⟩:=j;refine call_len_set N M L E (by unfold scanBound at J;omega) ?_;exact⟨.int (sS ns).length,H1,g.kept (t':=tk+1+1) λb u z=>m b u (aaj z) z,⟨_,by rw[B]⟩,q⟩
section
variable {X:Cx}{S:Sx}{k:Nat}{F:ai}{Φ:bh}
theorem Lk.Y6(L:Lk X S k Φ):X.A.units+40<cLine:=by have:=L.room.units;left
def TY(K:av)(a:Bool):R2:=λv u H Q=>∃(d d':D) (N N':h_) (k k':bt),Rep (a_ K H) N k v d/\Rep (a_ K H) N' k' u d'/\(∀q p xs f,N q p (.l xs) f->dW K H p xs)/\(∀q p xs f,N' q p (.l xs) f->dW K H p xs)/\eU 40 d=true/\eU 40 d'=true /\
 Q (.bl (if a then !nu d d' else nu d d')) H
theorem L9(j:X.A.units+40<cLine):nH X (compareOp .Eq) (TY X.K false):=by
 intro pins s σ H x y v u Q I b a h;obtain⟨d,l,N,m,k,k',r1,c,n1,i,g,e,q⟩:=h;exact(alike I n1 i 40 X.A r1 c g e b a j).rc X.prog X.w X.xe _ ⟨.bl _,H,I,rfl,q⟩
theorem L8(j:X.A.units+40<cLine):nH X (compareOp .NotEq) (TY X.K true):=by
 intro pins s σ H x y v u Q I b a h;obtain⟨d,l,N,m,k,k',r1,c,n1,i,g,e,q⟩:=h;exact(alike I n1 i 40 X.A r1 c g e b a j).ne X.prog X.w X.xe _ ⟨.bl _,H,I,rfl,q⟩
def LO(K:av)(op:Bm):R2:=match op with
 |.eq=>TY K false
 |.ne=>TY K true
 |.lt=>Cc λi j=>.bl (decide (i<j))
 |.le=>Cc λi j=>.bl (decide (i<=j))
 |.gt=>Cc λi j=>.bl (decide (j<i))
 |.ge=>Cc λi j=>.bl (decide (j<=i))
theorem CL(L:Lk X S k Φ)(op:Bm):nH X (compareOp (VZ op)) (LO X.K op):=by
 cases op with
 |eq=>exact L9 L.Y6
 |ne=>exact L8 L.Y6
 |lt=>exact QF
 |le=>exact QG
 |gt=>exact QH
 |ge=>exact QI
theorem CW{op:CmpOp}{r:Expr}(h:qO r=true):behindInMarks op r=false:=by
 cases r<;>first|rfl | (cases h;done)
theorem n_{op:Bm}{x y d:D}(a:op=.lt\/op=.le\/op=.gt\/op=.ge)(h:iD op x y=ok d):∃i j,x=.int i/\y=.int j:=by
 cases x with
 |int i=>cases y with
  |int j=>exact⟨i,j,rfl,rfl⟩
  |_=>rcases a with rfl|rfl|rfl|rfl<;>exact nk h
 |_=>rcases a with rfl|rfl|rfl|rfl<;>exact nk h
theorem vn{op:Bm}{a b:CE}{H:Hp}(g:tD X F Φ (.cmp op a b) σ H Q):Jy (LO X.K op) (tD X F Φ a) (tD X F Φ b) σ H Q:=by
 obtain⟨R,τ,ρ,d,t,c,g⟩:=g;obtain⟨x,L,c⟩:=aJ c;obtain⟨y,J,c⟩:=aJ c;refine tD.intro t L λv H1 e1 r1=>tD.intro (t.go e1) J λu H2 e2 n=>?_;have e:=e1.trans e2;have E:=r1.go e2;have I:=n;obtain⟨B,N,s⟩:=E;obtain⟨z,M,r⟩:=I;have sq:∀{A:ai} {τ:Addr->Option bt} (q:bt) (p:Addr) (xs:ah) (f:Fl),nd X.K R A τ H2 q p (.l xs) f->dW X.K H2 p xs:=λq p xs f h=>h.sq;cases op with
 |eq =>
  obtain⟨m,c⟩:=sF c
  ·subst c;rw[Bool.and_eq_true]at m;exact⟨x,y,_,_,_,_,s,r,sq,sq,m.1,m.2,g _ H2 e .bl⟩
 |ne =>
  obtain⟨m,c⟩:=sF c
  ·subst c;rw[Bool.and_eq_true]at m;exact⟨x,y,_,_,_,_,s,r,sq,sq,m.1,m.2,g _ H2 e .bl⟩
 |lt=>obtain⟨i,j,rfl,rfl⟩:=n_ (by simp) c;cases c;exact⟨_,_,(r1.go e2).isInt,n.isInt,g _ H2 e .bl⟩
 |le=>obtain⟨i,j,rfl,rfl⟩:=n_ (by simp) c;cases c;exact⟨_,_,(r1.go e2).isInt,n.isInt,g _ H2 e .bl⟩
 |gt=>obtain⟨i,j,rfl,rfl⟩:=n_ (by simp) c;cases c;exact⟨_,_,(r1.go e2).isInt,n.isInt,g _ H2 e .bl⟩
 |ge=>obtain⟨i,j,rfl,rfl⟩:=n_ (by simp) c;cases c;exact⟨_,_,(r1.go e2).isInt,n.isInt,g _ H2 e .bl⟩
theorem BI{c:CE}{H:Hp}{Q:Bool->Hp->Prop}(h:ig X F Φ c σ H Q):tB (tD X F Φ c) σ H Q:=by
 obtain⟨R,τ,ρ,b,l,a,i⟩:=h;unfold u_ at a;obtain⟨d,j,g⟩:=aJ a;refine tD.intro l j λv H' e r=>?_;cases d<;>simp[iT]at g;cases g;exact⟨_,r.An,i H' e⟩
theorem cZ{c:CE}{e:Expr}(h:PE X e (tD X F Φ c))(he:∀whole,isTrue e X.env whole=(do let v <- whole;standAt e.pos;holding [v] (truthy v))):PT X e (ig X F Φ c) :=
 PT.imp (wB h he) λ_ _ _ h=>BI h
theorem zV{op:Bm}{a b:CE}{H:Hp}{Q:Bool->Hp->Prop}(h:ig X F Φ (.cmp op a b) σ H Q):Jx (Jy (LO X.K op) (tD X F Φ a) (tD X F Φ b)) σ H Q :=
 vn (BI h)
theorem dictAt{pins:ao}{H:Hp}{s:Shared}{p:Addr}{cs:az}{as:aX}(I:Inv X pins σ H s)(h:H p=some (.ext (DO p cs as xs ep))):∃o,s.heap.get? p=some o/\o.cls=.type "dict":=by
 obtain⟨⟨c,o,es,_,_,_,b,a,_⟩,_⟩:=(show cK H s.heap p (.ext (DO p cs as xs ep)) from I.cJ p _ h)
 exact⟨o,b,a.1⟩
theorem Ms(L:Lk X S k Φ)(t:Ty):gv X (.builtin "isinstance") (λxs H Q=>∃(x:V) (d:D) (N:h_) (k:bt),xs=[x,.ty (tyName t)]/\Rep (a_ X.K H) N k x d/\(∀q p xs f,N q p (.l xs) f->dW X.K H p xs)/\(∀q p cs as xs ep f,N q p (.d cs as xs ep) f->H p=some (.ext (DO p cs as xs ep)))/\Q (.bl (du t d)) H):=by
 intro pins s σ H xs M Q I r h;obtain⟨x,d,N,k,rfl,y,E,m,q⟩:=h;obtain⟨u,v,rfl,a,B⟩:=vals2 r;cases (show v=Value.type (tyName t) from B);have c:=HC X.K t;have fin:∀b:Bool,b=du t d->∀tk,EP X pins σ Q (.bool b) { s with toks:=tk }:=λb e tk=>⟨.bl b,H,I.tok tk,rfl,by rw[e];exact q⟩
 cases y with
 |cF=>cases a;exact abB PySem.W.kitx_none I.Dt True.intro (c "NoneType" (by simp[kinds])) (λz=>nomatch z) (fin _ (by cases t<;>rfl))
 |bl b=>cases a;exact abB PySem.W.kitx_bool I.Dt True.intro (c "bool" (by simp[kinds])) (λz=>nomatch z) (fin _ (by cases t<;>rfl))
 |int i=>obtain⟨t',rfl⟩:=a;exact abB PySem.W.kitx_int I.Dt True.intro (c "int" (by simp[kinds])) (λz=>nomatch z) (fin _ (by cases t<;>rfl))
 |tup h _ =>
  cases a;obtain⟨J,_,⟨o,j,g,_⟩,_⟩:=I.tuple h;exact abB PySem.W.kitx_tuple I.Dt ⟨o,j,g⟩ (c "tuple" (by simp[kinds])) (λz=>nomatch z) (fin _ (by cases t<;>rfl))
 |lst h _ =>
  cases a;obtain⟨J,_,⟨o,n,j,g,_⟩,_⟩:=I.list (E _ _ _ _ h);exact abB PySem.W.kitx_list I.Dt ⟨o,j,g⟩ (c "list" (by simp[kinds])) (λz=>nomatch z) (fin _ (by cases t<;>rfl))
 |cn h _ _ =>
  cases a;obtain⟨o,j,g⟩:∃o,s.heap.get? _=some o/\o.cls=.type "dict":=dictAt I (m _ _ _ _ _ _ _ h);exact abB PySem.W.kitx_dict I.Dt ⟨o,j,g⟩ (c "dict" (by simp[kinds])) (λz=>nomatch z) (fin _ (by cases t<;>rfl))
theorem I0(t:Ty):bootBuiltins (tyName t:Str)=some (.type (tyName t)):=by
 cases t<;>decide +kernel
theorem qB(t:Ty):(tyName t:Str) ≠ "__name__" /\ ((tyName t:Str)==("__debug__" : Str))=false:=by
 cases t<;>decide +kernel
theorem LD(L:Lk X S k Φ){a:CE}{t:Ty}{e:Expr}{p:Pos}(hf:iB S.sc ("isinstance" : Str)=true)(s:("isinstance" : Str)∈S.bl)(l:iB S.sc (tyName t:Str)=true)(u:(tyName t:Str)∈S.bl)
  (m:PE X e (tD X F Φ a)) (g:∀es,starEach (e::es) X.env=(false,eval e X.env)::starEach es X.env):PE X (.Call (.Name ("isinstance" : Str) p) [e,.Name (tyName t:Str) p'] [] pos) (tD X F Φ (.lg a t)):=by
 have n:PE X (.Name (tyName t:Str) p') (tC (.ty (tyName t))):=yA (L.gl l) (L.bl _ u) (I0 t) rfl (qB t).1 (qB t).2;refine PE.imp (dZ (Ms L t) (L.gl hf) (L.bl _ s) PyProof.Rows.boot_isinstance (cc m (cc n dB) (g _)) (he:=g _)) λσ H Q b=>?_;obtain⟨R,τ,ρ,d,y,c,b⟩:=b;obtain⟨x,r,c⟩:=aJ c;cases c;refine tD.intro y r λv H1 e1 r1=>?_;obtain⟨i,z,j⟩:=r1;exact⟨v,x,_,_,rfl,j,λq p xs f h=>h.sq,λq p cs as xs ep f h=>h.dat,b _ H1 e1 .bl⟩
theorem Mt:@DI.yM=@L2.yM:=rfl
set_option tactic.hygienic true in
theorem Qh(L:Lk X S k Φ){a b:CE}{e i:Expr}(U:PE X e (tD X F Φ a))(O:PE X i (tD X F Φ b))(M:oo i):PE X (.Subscript e i pos) (tD X F Φ (.ix a b)):=by
 refine PE.imp (yw (yL.or Dv) U O M) λσ H Q r=>?_;obtain⟨R,τ,ρ,d,z,c,r⟩:=r;obtain⟨x,W,c⟩:=aJ c;obtain⟨y,V,c⟩:=aJ c;refine tD.intro z W λv H1 e1 r1=>tD.intro (z.go e1) V λu H2 e2 I=>?_;have Y:=e1.trans e2;have E:=(r1.go e2).mono (fv':=iX (.ix a b)) λj N=>aaK _ N;have item:∀{q:bt} {xs:ah} {ds:aa} {τt:Addr->Option bt} {j:Int},(∀p q,τt p=some q->H p=none)->aI (a_ X.K H2) (nd X.K R (j0 (gP X F) τ (iX (.ix a b))) τt H2) q 0 xs ds->p9 ds j=ok d->∃w,L2.KD xs j=some w/\Q w H2:=by
  intro q xs ds τt j l g h;unfold p9 at h;split at h
  ·rename_i Z hd;cases h;cases n:DI.yM ds.length j with
   |none=>rw[n]at hd;cases hd
   |some m =>
    rw[n]at hd;obtain⟨w,hw,J⟩:=g.get (show ds[m]?=some Z from hd);refine⟨w,?_,r w H2 Y ⟨λ_=>none,λ_ _ h=>by simp at h,J.iR z l⟩⟩;unfold L2.KD;rw[<- Mt,g.length,n];exact hw
  ·cases h
 cases y with
 |int j =>
  obtain⟨τt,l,B⟩:=E;cases I.isInt;cases x with
  |tup ds =>
   cases B with
   | @tup _ p xs _ h g=>obtain⟨w,t,s⟩:=item l g c;exact .inr ⟨p,xs,j,w,rfl,rfl,h,t,s⟩
  |lst f ds =>
   cases B with
   | @lst _ p xs _ _ h g=>obtain⟨w,t,s⟩:=item l g c;exact .inl ⟨p,xs,j,w,rfl,rfl,h.sq,t,s⟩
  |_=>exact nk c
 |_=>cases x<;>cases c
theorem pF:∀(cs:aH) {ρ:bo} {ds:aa},b0 Φ cs ρ=ok ds->ds.length=cs.length
 |[],_,_,h=>by cases h;rfl
 |c::cs,_,_,h=>by
  obtain⟨x,_,h⟩:=aJ h;obtain⟨xs,a,h⟩:=aJ h;cases h;simp[pF cs a]
theorem Lz{es:aq}{n:Nat}(h:PA X es (tT X F Φ cs))(m:cs.length<=1000):PE X (.Tuple es n pos) (tD X F Φ (.tup cs)):=by
 refine PE.imp (LX h) λσ H Q a=>?_;obtain⟨R,τ,ρ,d,j,b,a⟩:=a;obtain⟨ds,e,b⟩:=aJ b;cases b;refine⟨R,τ,ρ,ds,j,e,λvs H1 e1 r1=>?_⟩;obtain⟨τt,i,c⟩:=r1;have l:sizeLine=16777216:=abr;refine⟨by rw[c.length,pF cs e];left,λp g=>?_⟩;have es:aL H1 (upd H1 p (.tup vs)):=aL.upd g;exact a _ _ (e1.trans es) ⟨τt,i,.tup (a_.of aY) (c.imp (λ_ _ h=>a_.same es h) λ_ _ _ _ h=>nd.same es h)⟩
theorem LC{es:aq}(h:PA X es (tT X F Φ cs))(r:cs.length<=1000):PE X (.List es pos) (tD X F Φ (.lst cs)):=by
 refine PE.imp (se h) λσ H Q a=>?_;obtain⟨R,τ,ρ,d,m,g,a⟩:=a;obtain⟨ds,j,g⟩:=aJ g;cases g;refine⟨R,τ,ρ,ds,m,j,λvs H1 e1 r1=>?_⟩;obtain⟨τt,l,i⟩:=r1;have n:sizeLine=16777216:=abr;refine⟨by rw[i.length,pF cs j];left,λp e=>?_⟩;have es:aL H1 (upd H1 p (.lst vs)):=aL.upd e;refine a _ _ (e1.trans es) ⟨λq=>if q=p then some []else τt q,λq z a=>?_,.lst ⟨aY,by simp⟩ (i.imp (λ_ _ h=>a_.same es h) λc q xs f h=>?_)⟩
 ·by_cases b:q=p
  ·subst b;exact e1.free e
  ·simp only[b,if_false]at a;exact l q z a
 ·have h':=nd.same es h;cases f with
  |ow =>
   have b:q≠p:=by
    intro z;subst z;exact h.1.ne e
   exact⟨h'.1,by simp only[b,if_false];exact h'.2⟩
  |fz=>exact h'
  |al=>exact h'
  |sc=>exact h'
theorem GF(L:Lk X S k Φ){f:Nat}{x:Str}{y:Expr}{ys:aq}{p:Pos}(hf:S.fn f=some x)(N:iB S.sc x=true)(n:oR x=true)(U:PA X (y::ys) (tT X F Φ cs))
  (E:∀es,starEach (y::es) X.env=(false,eval y X.env)::starEach es X.env) (hpl:∀pos,(backTo pos (starEach ys X.env)).any (·.1)=false):PE X (.Call (.Name x p) (y::ys) [] pos) (tD X F Φ (.call f cs)):=by
 obtain⟨a,fd,Z,Fo,I,M,O,J⟩:=(L.fn f x hf).ex;unfold oR at n;simp only[Bool.and_eq_true,Bool.not_eq_true']at n;refine PE.imp (nV Fo L.room (L.gl N) I M O .nil (JY (X:=X)) U n.1.1 (E _) (hpl _)) λσ H Q m=>?_;obtain⟨R,τ,ρ,d,j,g,m⟩:=m;obtain⟨xs,W,g⟩:=aJ g;obtain⟨r,t,g⟩:=aJ g;cases g;refine⟨R,τ,ρ,xs,j,W,λvs H1 e1 r1=>?_⟩;obtain⟨τt,V,s⟩:=r1;have fresh:∀p,H p=none->j0 (gP X F) τ (dX cs) p:=λp b=>⟨.inr (j.same.free b),λc i e=>absurd b (j.th p _ e)⟩
 have hR:∀p,R p->j0 (gP X F) τ (dX cs) p:=λp b=>⟨j.rf p b,λc i e=>by rw[j.rt p b]at e;cases e⟩
 rw[List.append_nil];refine⟨j0 (gP X F) τ (dX cs),aA aZ xs,r,by rw[s.length,<- J _ _ t,bu,List.length_map],aI.iy (λ_ _ h=>h) (λk k' p xs f h=>?_) s _ _,t,λv H2 e2 u=>?_⟩
 ·cases f with
  |ow=>exact⟨h.1,fresh p (V p _ h.2)⟩
  |fz=>exact⟨h.1,hR p h.2⟩
  |al=>exact h
  |sc=>exact h
 ·obtain⟨l,Y,B⟩:=u;refine m v H2 (e1.trans e2) ⟨l,λp q h=>e1.free (Y p q h),Rep.map (q:=[]) (q':=[]) (λ_ _ h=>h) (λc p xs f h=>?_) B [] rfl⟩;cases f with
  |ow=>exact h
  |fz=>exact⟨h.1,h.2.elim id λz=>fresh p (e1.free z)⟩
  |al=>exact h.2.elim
  |sc=>exact h
def Zc(K:av)(f:Bf):ah->Hp->VK->Prop:=match f with
 |.len=>λxs H Q=>∃p ys,xs=[.ref p]/\(dW K H p ys\/a_ K H p ys)/\Q (.int ys.length) H
 |.abs=>λxs H Q=>∃i,xs=[.int i]/\Q (.int (if i<0 then -i else i)) H
 |.uM=>λxs H Q=>(∃i,xs=[.int i]/\Q (.int i) H)\/∃k,xs=[.bl k]/\Q (.int (if k then 1 else 0)) H
 |.list1=>λxs H Q=>∃p ys,xs=[.ref p]/\(dW K H p ys\/a_ K H p ys)/\∀l,H l=none->Q (.ref l) (upd H l (.lst ys))
 |.tuple1=>λxs H Q=>∃p ys,xs=[.ref p]/\((dW K H p ys/\∀l,H l=none->Q (.ref l) (upd H l (.tup ys)))\/(a_ K H p ys/\Q (.ref p) H))
 |.gy=>λxs H Q=>∃(p:Addr) (ns:ae),xs=[.ref p]/\dW K H p (ns.map V.int)/\Q (.int ns.sum) H
 |.all1=>λxs H Q=>∃(p:Addr) (bs:List Bool),xs=[.ref p]/\dW K H p (bs.map V.bl)/\Q (.bl (bs.all id)) H
 |.il=>λxs H Q=>∃(p:Addr) (ns:ae),xs=[.ref p]/\(dW K H p (ns.map V.int)\/a_ K H p (ns.map V.int))/\ns.length<64/\∀l,H l=none->Q (.ref l) (upd H l (.lst ((sortI ns).map V.int)))
theorem aI.one{N:h_}{k:bt}{n:Nat}{d:D}(h:aI T N k n vs [d]):∃v,vs=[v]/\Rep T N (n::k) v d:=by
 cases h with
 |cons h t=>cases t;exact⟨_,rfl,h⟩
theorem aI.two{N:h_}{k:bt}{n:Nat}{d e:D}(h:aI T N k n vs [d,e]):∃v w,vs=[v,w]/\Rep T N (n::k) v d/\Rep T N ((n+1)::k) w e:=by
 cases h with
 |cons h t=>obtain⟨w,rfl,h'⟩:=t.one;exact⟨_,_,rfl,h,h'⟩
theorem aI.ints1{N:h_}{k:bt}{n:Nat}{i:Int}(h:aI T N k n vs [.int i]):vs=[.int i]:=by
 obtain⟨v,rfl,z⟩:=h.one;cases z;rfl
noncomputable def Bf.one:Bf->Bool
 |_=>true
theorem Kx{f:Bf}{xs:aa}{d:D}(hf:f.one=true)(h:oi f xs=ok d):∃x,xs=[x]:=by
 cases xs with
 |nil=>cases f<;>exact nk h
 |cons x xs=>cases xs with
  |nil=>exact⟨x,rfl⟩
  |cons y ys=>cases f<;>first | (cases hf;done) | (cases x<;>exact nk h)
theorem aI.ofInts{T:nF}{N:h_}{k:bt}:∀{ns:ae} {n:Nat} {vs:ah},aI T N k n vs (ns.map D.int)->vs=ns.map V.int
 |[],_,_,h=>by cases h;rfl
 |i::ns,_,_,h=>by
  cases h with
  |cons h t=>cases h;rw[aI.ofInts t];rfl
theorem aI.J6{T:nF}{N:h_}{k:bt}:∀{ns:List Bool} {n:Nat} {vs:ah},aI T N k n vs (ns.map D.bl)->vs=ns.map V.bl
 |[],_,_,h=>by cases h;rfl
 |i::ns,_,_,h=>by
  cases h with
  |cons h t=>cases h;rw[aI.J6 t];rfl
theorem qR{T:nF}{N:h_}{k:bt}:∀(ns:ae) {n:Nat},aI T N k n (ns.map V.int) (ns.map D.int)
 |[],_=>.nil
 |i::ns,_=>.cons (.int i) (qR ns)
set_option tactic.hygienic true in
theorem I_{f:Bf}{H:Hp}(g:tD X F Φ (.bf f cs) σ H Q):PZ (Zc X.K f) (tT X F Φ cs) σ H Q:=by
 obtain⟨R,τ,ρ,d,n,a,g⟩:=g;obtain⟨xs,t,a⟩:=aJ a;refine⟨R,τ,ρ,xs,n,t,λvs H1 e1 r1=>?_⟩;obtain⟨τt,s,m⟩:=r1;cases f with
 |len =>
  obtain⟨x,rfl⟩:=Kx rfl a;obtain⟨v,rfl,c⟩:=m.one;cases x with
  |tup ds=>cases a;obtain⟨_,_,rfl,h,r⟩:=c.F1;exact⟨_,_,rfl,.inr h,by rw[r.length];exact g _ H1 e1 .int⟩
  |lst f ds=>cases a;obtain⟨_,_,rfl,h,r⟩:=c.tH;exact⟨_,_,rfl,.inl h.sq,by rw[r.length];exact g _ H1 e1 .int⟩
  |_=>exact nk a
 |abs =>
  obtain⟨x,rfl⟩:=Kx rfl a;cases x with
  |int i=>cases a;cases m.ints1;exact⟨_,rfl,g _ H1 e1 .int⟩
  |_=>exact nk a
 |uM =>
  obtain⟨x,rfl⟩:=Kx rfl a;obtain⟨v,rfl,c⟩:=m.one;cases x with
  |bl i=>cases a;cases c;exact .inr ⟨_,rfl,g _ H1 e1 .int⟩
  |_=>exact nk a
 |list1 =>
  obtain⟨x,rfl⟩:=Kx rfl a;obtain⟨v,rfl,c⟩:=m.one;cases x with
  |tup ds =>
   cases a;obtain⟨_,_,rfl,h,r⟩:=c.F1;refine⟨_,_,rfl,.inr h,λl b=>?_⟩;exact g _ _ (e1.trans (aL.upd b)) (cI.Ab (e1.free b) (e1.trans (aL.upd b)) aY ((r.iR n s).imp (λ_ _ h=>a_.same (aL.upd b) h) λ_ _ _ _ h=>nd.same (aL.upd b) h))
  |lst f ds =>
   cases a;obtain⟨_,_,rfl,h,r⟩:=c.tH;refine⟨_,_,rfl,.inl h.sq,λl b=>?_⟩;exact g _ _ (e1.trans (aL.upd b)) (cI.Ab (e1.free b) (e1.trans (aL.upd b)) aY ((r.iR n s).imp (λ_ _ h=>a_.same (aL.upd b) h) λ_ _ _ _ h=>nd.same (aL.upd b) h))
  |_=>exact nk a
 |tuple1 =>
  obtain⟨x,rfl⟩:=Kx rfl a;obtain⟨v,rfl,c⟩:=m.one;cases x with
  |lst f ds =>
   cases a;obtain⟨_,_,rfl,h,r⟩:=c.tH;refine⟨_,_,rfl,.inl ⟨h.sq,λl b=>?_⟩⟩;exact g _ _ (e1.trans (aL.upd b)) ⟨λ_=>none,λ_ _ h=>by simp at h,.tup (a_.of aY) ((r.iR n s).imp (λ_ _ h=>a_.same (aL.upd b) h) λ_ _ _ _ h=>nd.same (aL.upd b) h)⟩
  |_=>exact nk a
 |gy =>
  obtain⟨x,rfl⟩:=Kx rfl a;obtain⟨v,rfl,c⟩:=m.one;cases x with
  |lst f ds =>
   have a:(match intsOf ds with|some ns=>ok (.int ns.sum)|none=>none)=ok d:=a;cases j:intsOf ds with
   |none=>rw[j]at a;cases a
   |some ns =>
    rw[j]at a;cases a;cases dT j;cases c with
    |lst h r=>cases r.ofInts;exact⟨_,ns,rfl,h.sq,g _ H1 e1 .int⟩
  |_=>exact nk a
 |all1 =>
  obtain⟨x,rfl⟩:=Kx rfl a;obtain⟨v,rfl,c⟩:=m.one;cases x with
  |lst f ds =>
   have a:(match jq ds with|some bs=>ok (.bl (bs.all id))|none=>none)=ok d:=a;cases j:jq ds with
   |none=>rw[j]at a;cases a
   |some ns =>
    rw[j]at a;cases a;cases vy j;cases c with
    |lst h r=>cases r.J6;exact⟨_,ns,rfl,h.sq,g _ H1 e1 .bl⟩
  |_=>exact nk a
 |il =>
  obtain⟨x,rfl⟩:=Kx rfl a;obtain⟨v,rfl,c⟩:=m.one;have fin:∀ds,tY ds=ok d->∃ns:ae,ds=ns.map D.int/\ns.length<64/\∀l,H1 l=none->Q (.ref l) (upd H1 l (.lst ((sortI ns).map V.int))):=by
   intro ds e;unfold tY at e;split at e
   ·rename_i ns j;split at e
    ·rename_i p;cases e;refine⟨ns,dT j,p,λl b=>g _ _ (e1.trans (aL.upd b)) (cI.Ab (e1.free b) (e1.trans (aL.upd b)) aY (qR _))⟩
    ·cases e
   ·cases e
  cases x with
  |tup ds =>
   obtain⟨ns,rfl,p,q⟩:=fin ds a;cases c with
   |tup h r=>cases r.ofInts;exact⟨_,ns,rfl,.inr h,p,q⟩
  |_=>exact nk a
theorem Qi(L:Lk X S k Φ){f:Bf}{y:Expr}{ys:aq}{p:Pos}(b:iB S.sc (tm f:Str)=true)(c:(tm f:Str)∈S.bl)(d:PA X (y::ys) (tT X F Φ cs))
  (a:∀es,starEach (y::es) X.env=(false,eval y X.env)::starEach es X.env) (hpl:∀pos,(backTo pos (starEach ys X.env)).any (·.1)=false):PE X (.Call (.Name (tm f:Str) p) (y::ys) [] pos) (tD X F Φ (.bf f cs)):=by
 refine PE.imp (t:=PZ (Zc X.K f) (tT X F Φ cs)) ?_ λσ H Q e=>I_ e;cases f with
 |len=>exact dZ tj (L.gl b) (L.bl _ c) PySem.boot_len d (he:=a _) (hpl:=hpl _)
 |abs=>exact dZ ET (L.gl b) (L.bl _ c) (by decide +kernel) d (he:=a _) (hpl:=hpl _)
 |uM=>exact lZ AZ (L.gl b) (L.bl _ c) (by decide +kernel) d (he:=a _) (hpl:=hpl _)
 |list1=>exact lZ tf (L.gl b) (L.bl _ c) (by decide +kernel) d (he:=a _) (hpl:=hpl _)
 |tuple1=>exact lZ qr (L.gl b) (L.bl _ c) (by decide +kernel) d (he:=a _) (hpl:=hpl _)
 |gy=>exact dZ (AY L.calm) (L.gl b) (L.bl _ c) (by decide +kernel) d (he:=a _) (hpl:=hpl _)
 |il=>exact dZ s_ (L.gl b) (L.bl _ c) (by decide +kernel) d (he:=a _) (hpl:=hpl _)
 |all1=>exact dZ (A0 L.calm) (L.gl b) (L.bl _ c) (by decide +kernel) d (he:=a _) (hpl:=hpl _)
set_option tactic.hygienic true in
theorem GC(L:Lk X S k Φ){a:CE}{e:Expr}{p:Pos}(hf:iB S.sc ("len" : Str)=true)(t:("len" : Str)∈S.bl)(n:iB S.sc ("set" : Str)=true)(u:("set" : Str)∈S.bl)
  (q:PE X e (tD X F Φ a)) (g:∀es,starEach (e::es) X.env=(false,eval e X.env)::starEach es X.env):PE X (.Call (.Name ("len" : Str) p) [.Call (.Name ("set" : Str) p') [e] [] pos'] [] pos) (tD X F Φ (.kR a)):=by
 refine PE.imp (Hf L.calm (L.gl hf) (L.bl _ t) (L.gl n) (L.bl _ u) (cc q dB (g _)) g) λσ H Q c=>?_;obtain⟨R,τ,ρ,d,y,b,c⟩:=c;obtain⟨x,s,b⟩:=aJ b;refine tD.intro y s λv H1 e1 r1=>?_;obtain⟨i,z,j⟩:=r1;cases x with
 |tup ds =>
  simp only[yF]at b;split at b
  ·rename_i ns l;split at b
   ·rename_i m;cases b;cases dT l;cases j with
    |tup h r=>cases r.ofInts;exact⟨_,ns,rfl,h,m,c _ H1 e1 .int⟩
   ·cases b
  ·cases b
 |_=>exact nk b
theorem LA{a:CE}{e:Expr}(h:PE X e (tD X F Φ a)):PE X (.UnaryOp .Not e pos) (tD X F Φ (.not a)):=by
 refine PE.imp (L0 h) λσ H Q g=>?_;obtain⟨R,τ,ρ,d,l,i,g⟩:=g;obtain⟨b,c,i⟩:=aJ i;obtain⟨x,j,c⟩:=aJ c;cases i;refine tD.intro l j λv H1 e1 r1=>?_;cases x<;>simp[iT]at c;cases c;exact⟨_,r1.An,g _ H1 e1 .bl⟩
theorem Lo{a:CE}{e:Expr}(h:PT X e (ig X F Φ a)):PT X (.UnaryOp .Not e pos) (ig X F Φ (.not a)):=by
 refine PT.imp (wC h) λσ H Q i=>?_;obtain⟨R,τ,ρ,b,n,g,i⟩:=i;unfold u_ at g;obtain⟨d,j,g⟩:=aJ g;obtain⟨c,l,j⟩:=aJ j;cases j;have m:b=!c:=by
  have e2:ok (!c)=ok b:=g;exact(Except.ok.inj (aaI e2)).symm
 subst m;exact⟨R,τ,ρ,c,n,l,λH' e=>i H' e⟩
theorem LB{a:CE}{e:Expr}(h:PE X e (tD X F Φ a)):PE X (.UnaryOp .USub e pos) (tD X F Φ (.neg a)):=by
 refine PE.imp (QC K8 h) λσ H Q c=>?_;obtain⟨R,τ,ρ,d,i,b,c⟩:=c;obtain⟨x,g,b⟩:=aJ b;refine tD.intro i g λv H1 e1 r1=>?_;cases x<;>simp[Hv]at b;cases b;exact⟨_,r1.isInt,c _ H1 e1 .int⟩
theorem Jk{c:CE}{H:Hp}(e:tD X F Φ (.and [c]) σ H Q):tD X F Φ c σ H Q:=by
 obtain⟨R,τ,ρ,d,j,g,e⟩:=e;obtain⟨b,a,g⟩:=aJ g;obtain⟨x,i,a⟩:=aJ a;cases g;refine tD.intro j i λv H1 e1 r1=>?_;cases x<;>simp[iT]at a;cases a;rw[r1.An];exact e _ H1 e1 .bl
theorem L7{c:CE}{H:Hp}(e:tD X F Φ (.or [c]) σ H Q):tD X F Φ c σ H Q:=by
 obtain⟨R,τ,ρ,d,j,g,e⟩:=e;obtain⟨b,a,g⟩:=aJ g;obtain⟨x,i,a⟩:=aJ a;cases g;refine tD.intro j i λv H1 e1 r1=>?_;cases x<;>simp[iT]at a;cases a;rw[r1.An];exact e _ H1 e1 .bl
theorem Fc{c:CE}{H:Hp}{Q:Bool->Hp->Prop}(e:ig X F Φ (.and [c]) σ H Q):ig X F Φ c σ H Q:=by
 obtain⟨R,τ,ρ,d,j,a,e⟩:=e;unfold u_ at a;obtain⟨b,g,a⟩:=aJ a;obtain⟨x,i,g⟩:=aJ g;cases g;cases a;exact⟨R,τ,ρ,_,j,i,e⟩
theorem Hk{c:CE}{H:Hp}{Q:Bool->Hp->Prop}(e:ig X F Φ (.or [c]) σ H Q):ig X F Φ c σ H Q:=by
 obtain⟨R,τ,ρ,d,j,a,e⟩:=e;unfold u_ at a;obtain⟨b,g,a⟩:=aJ a;obtain⟨x,i,g⟩:=aJ g;cases g;cases a;exact⟨R,τ,ρ,_,j,i,e⟩
theorem Fd{c:CE}{H:Hp}(g:tD X F Φ (.and (c::c'::cs)) σ H Q):Jz (tD X F Φ c) (tD X F Φ (.and (c'::cs))) σ H Q:=by
 obtain⟨R,τ,ρ,d,l,a,g⟩:=g;obtain⟨b,j,a⟩:=aJ a;obtain⟨x,n,j⟩:=aJ j;refine tD.intro l n λv H1 e1 r1=>?_;cases x<;>simp[iT]at j;cases j;refine⟨_,r1.An,?_⟩;cases b with
 |true =>
  rw[if_pos rfl]at a ⊢;exact tD.intro (l.go e1) a λv H' e r=>g v H' (e1.trans e) ((r.old e1).mono λi m=>aan _ m)
 |false =>
  rw[if_neg (by simp)]at a ⊢;cases a;exact g _ H1 e1 .bl
theorem Hl{c:CE}{H:Hp}(g:tD X F Φ (.or (c::c'::cs)) σ H Q):PM (tD X F Φ c) (tD X F Φ (.or (c'::cs))) σ H Q:=by
 obtain⟨R,τ,ρ,d,l,a,g⟩:=g;obtain⟨b,j,a⟩:=aJ a;obtain⟨x,n,j⟩:=aJ j;refine tD.intro l n λv H1 e1 r1=>?_;cases x<;>simp[iT]at j;cases j;refine⟨_,r1.An,?_⟩;cases b with
 |false =>
  rw[if_neg (by simp)]at a ⊢;exact tD.intro (l.go e1) a λv H' e r=>g v H' (e1.trans e) ((r.old e1).mono λi m=>aan _ m)
 |true =>
  rw[if_pos rfl]at a ⊢;cases a;exact g _ H1 e1 .bl
theorem A2{c:CE}{H:Hp}{Q:Bool->Hp->Prop}(g:ig X F Φ (.and (c::c'::cs)) σ H Q):P4 (ig X F Φ c) (ig X F Φ (.and (c'::cs))) σ H Q:=by
 obtain⟨R,τ,ρ,d,j,a,g⟩:=g;unfold u_ at a;obtain⟨x,l,i⟩:=aJ a;obtain⟨b,m,a⟩:=aJ l;refine⟨R,τ,ρ,b,j,m,λH1 e1=>?_⟩;cases b with
 |true =>
  rw[if_pos rfl]at a ⊢;exact⟨R,τ,ρ,d,j.go e1,by unfold u_;rw[show bz Φ (.and (c'::cs)) ρ=ok x from a];exact i,λH' e=>g H' (e1.trans e)⟩
 |false =>
  rw[if_neg (by simp)]at a ⊢;cases a;cases i;exact g H1 e1
theorem CJ{c:CE}{H:Hp}{Q:Bool->Hp->Prop}(g:ig X F Φ (.or (c::c'::cs)) σ H Q):Y8 (ig X F Φ c) (ig X F Φ (.or (c'::cs))) σ H Q:=by
 obtain⟨R,τ,ρ,d,j,a,g⟩:=g;unfold u_ at a;obtain⟨x,l,i⟩:=aJ a;obtain⟨b,m,a⟩:=aJ l;refine⟨R,τ,ρ,b,j,m,λH1 e1=>?_⟩;cases b with
 |false =>
  rw[if_neg (by simp)]at a ⊢;exact⟨R,τ,ρ,d,j.go e1,by unfold u_;rw[show bz Φ (.or (c'::cs)) ρ=ok x from a];exact i,λH' e=>g H' (e1.trans e)⟩
 |true =>
  rw[if_pos rfl]at a ⊢;cases a;cases i;exact g H1 e1
theorem nM{H:Hp}{Q:ah->Hp->Prop}(a:tT X F Φ [] σ H Q):Ld σ H Q:=by
 obtain⟨R,τ,ρ,d,c,b,a⟩:=a;cases b;exact a _ H (aL.refl H) .nil
theorem jc{c:CE}{H:Hp}{Q:ah->Hp->Prop}(b:tT X F Φ (c::cs) σ H Q):BJ (tD X F Φ c) (tT X F Φ cs) σ H Q:=by
 obtain⟨R,τ,ρ,d,g,a,b⟩:=b;obtain⟨x,l,a⟩:=aJ a;obtain⟨xs,m,a⟩:=aJ a;cases a;refine tD.intro g l λv H1 e1 r1=>⟨R,τ,ρ,xs,g.go e1,m,λvs H2 e2 j=>b _ H2 (e1.trans e2) (cN.cons e1 e2 (r1.mono λi e=>aaK _ e) (j.mono λi e=>aan _ e))⟩
theorem b_{c:CE}{e:Expr}(h:cq S c e=true)(es:aq)(env:Env):starEach (e::es) env=(false,eval e env)::starEach es env:=by
 cases e<;>first|rfl | (cases c<;>exact(aae h).elim)
theorem xq:∀{cs:aH} {es:aq},bO S cs es=true->∀(pos:Pos) (env:Env),(backTo pos (starEach es env)).any (·.1)=false
 |[],[],_,_,_=>rfl
 |[],_::_,h,_,_=>by exact(aae h).elim
 |_::_,[],h,_,_=>by exact(aae h).elim
 |c::cs,e::es,h,pos,env=>by
  replace h:=aM h;rw[b_ h.1];have:=xq h.2 pos env;unfold backTo at this ⊢;simp only[List.map_cons,List.any_cons,Bool.false_or];exact this
theorem rb{c:CE}{e:Expr}(h:cq S c e=true):oo e:=by
 intro o i;cases e<;>first|rfl | (cases c<;>exact(aae h).elim)
theorem BW{j:Nat}:PE X (.Constant .none j pos) (tD X F Φ .cF):=PE.imp CB λσ H Q c=>by obtain⟨R,τ,ρ,d,e,b,a⟩:=c;cases b;exact a _ H (aL.refl H) .cF
theorem JB{b:Bool}{j:Nat}:PE X (.Constant (.bool b) j pos) (tD X F Φ (.bl b)):=PE.imp JU λσ H Q e=>by obtain⟨R,τ,ρ,d,g,c,a⟩:=e;cases c;exact a _ H (aL.refl H) .bl
theorem BX{i:Int}{j:Nat}:PE X (.Constant (.int i) j pos) (tD X F Φ (.int i)):=PE.imp L3 λσ H Q c=>by obtain⟨R,τ,ρ,d,e,b,a⟩:=c;cases b;exact a _ H (aL.refl H) .int
theorem Mv(L:Lk X S k Φ){y:Expr}{p u:Pos}(m:iB S.sc ("range" : Str)=true)(l:("range" : Str)∈S.bl)(j:PA X [y] (tT X F Φ es))(a:bO S es [y]=true)
  (pins:ao) (s:Shared) (σ:St) (H:Hp) (R:ai) (τ:Addr->Option bt) (ρ:bo) (xs items:aa) (I:Inv X pins σ H s) (r:SI X F R τ ρ σ H) (q:b0 Φ es ρ=ok xs) (b:e_ Φ .lY xs=ok items) (d:It->Hp->Prop)
  (hR:∀J H2,aL H H2->Yl X.K J (lV X F τ (caps++dX es) H2) H2 items->d J H2) :
  wpAny (model X.prog X.w) X.A (eval (.Call (.Name ("range" : Str) p) [y] [] u) X.env) (λv e=>wpAny (model X.prog X.w) X.A (pyIter v) (FH X pins σ target d) X.xe e) X.xe s:=by
 match es,a with
 |[c],a =>
  replace a:=aM a;refine qM (L.gl m) (L.bl _ l) j (b_ a.1 _ _) pins s σ H d I ⟨R,τ,ρ,xs,r,q,λvs H1 e1 g=>?_⟩;obtain⟨τt,B,i⟩:=g;obtain⟨n,rfl⟩:∃n,xs=[.int n]:=by
   cases xs with
   |nil=>cases b
   |cons x t=>cases x<;>first | (cases b;done) | (cases t with|nil=>exact⟨_,rfl⟩|cons _ _=>cases b)
  cases i.ints1
  ·obtain⟨⟨M,E⟩,b⟩:=sF b;subst b;have z:(dz:Int)=1000000:=rfl;refine⟨n,rfl,by left,by left,hR _ H1 e1 ?_⟩;have:=KR (X:=X) (lo:=0) (n:=n.toNat) (R:=lV X F τ (caps++dX [c]) H1) (H1:=H1);simpa using this
 |[],a=>exact(aae a).elim
 |_::_::_,a=>exact(aae (aM a).2).elim
theorem Mu(L:Lk X S k Φ){c:CE}{y:Expr}(r:PE X y (tD X F Φ c))
  (pins:ao) (s:Shared) (σ:St) (H:Hp) (R:ai) (τ:Addr->Option bt) (ρ:bo) (xs items:aa) (I:Inv X pins σ H s) (d:SI X F R τ ρ σ H) (b:b0 Φ [c] ρ=ok xs) (g:e_ Φ .seq xs=ok items) (e:It->Hp->Prop)
  (hR:∀J H2,aL H H2->Yl X.K J (lV X F τ (caps++dX [c]) H2) H2 items->e J H2) :
  wpAny (model X.prog X.w) X.A (eval y X.env) (λv z=>wpAny (model X.prog X.w) X.A (pyIter v) (FH X pins σ target e) X.xe z) X.xe s:=by
 obtain⟨x,t,b⟩:=aJ b;obtain⟨xs',E,b⟩:=aJ b;cases E;cases b;have u:∀i∈iX c,i∈caps++dX [c]:=λi B=>aan _ (aaK _ B);cases x with
 |tup ds =>
  cases g;refine Cu r pins s σ H e I (tD.intro d t λv H1 e1 j=>?_);obtain⟨τt,n,m⟩:=j;cases m with
  | @tup _ p ys _ a l=>exact⟨p,rfl,⟨ys,a⟩,hR _ H1 e1 (KQ (q:=[]) a (aI.iy (λ_ _ h=>h) (wx d n u) l _ _))⟩
 |lst f ds =>
  cases g;refine yt r pins s σ H e I (tD.intro d t λv H1 e1 j=>?_);obtain⟨τt,n,m⟩:=j;cases m with
  | @lst _ p ys _ _ a l=>exact⟨p,rfl,⟨ys,a.sq⟩,hR _ H1 e1 (FT (q:=[]) a.sq (aI.iy (λ_ _ h=>h) (wx d n u) l _ _))⟩
 |_=>cases g
theorem Pb{R:ai}{H:Hp}{xs:aa}{J:It}(l:SI X F R τ ρ σ H)(hs:∀i∈fv,i∈fv')(r:cN X.K (gP X F) R τ fv H H2 vs xs)(y:Td X.K J H2 vs xs items):
  Yl X.K J (lV X F τ fv' H2) H2 items:=by
 obtain⟨τt,j,c⟩:=r;have a:∀H',aL H2 H'->aI (a_ X.K H') (nd X.K (lV X F τ fv' H2) (λ_=>False) (λ_=>none) H') [] 0 vs (aA aZ xs):=λH' e =>
  (aI.iy (T':=a_ X.K H2) (λ_ _ h=>h) (wx l j hs) c [] 0).imp (λ_ _ h=>a_.same e h) λ_ _ _ _ h=>nd.same e h
 have st:∀H',aL H2 H'->vE X.K H2 vs xs H':=λH' e=>⟨⟨_,a H2 (aL.refl H2),λp o _ h=>e p o h⟩,λ_ _ h=>a_.same e h⟩
 exact⟨λi H' e b=>y.go i H' _ (st H' e) (a H' e) b,λi H' x d e b g=>y.vN i H' _ x d (st H' e) (a H' e) b g,λi H' e b=>y.stop i H' _ (st H' e) (a H' e) b⟩
theorem Mx(L:Lk X S k Φ){p:Nat}{y:Expr}(l:S.px.pi p S.sc S.bl y=some args)(j:(decide (1100<=p)||jk target)=true)(hs:nG X F Φ es args)
  (pins:ao) (s:Shared) (σ:St) (H:Hp) (R:ai) (τ:Addr->Option bt) (ρ:bo) (xs items:aa) (I:Inv X pins σ H s) (b:SI X F R τ ρ σ H) (t:b0 Φ es ρ=ok xs) (e:e_ Φ (.cS p) xs=ok items) (a:It->Hp->Prop)
  (hR:∀J H2,aL H H2->Yl X.K J (lV X F τ (caps++dX es) H2) H2 items->a J H2) :
  wpAny (model X.prog X.w) X.A (eval y X.env) (λv g=>wpAny (model X.prog X.w) X.A (pyIter v) (FH X pins σ target a) X.xe g) X.xe s:=by
 obtain⟨d,q,n⟩:=aJ (show bd (Φ p xs) ub=ok items from e);exact L.pr.i X _ _ k L.pX p y args l F es target j hs pins s σ H R τ ρ xs d items I b t q n a λJ H2 vs e2 r c=>hR J H2 e2 (Pb b (λi m=>by simp[m]) r c)
theorem vk{i:Sx}{a:aq}(m:bR.length<=1)(g:bO i bR a=true)
  (l:∀(b:Cx) (d:ai),Lk b i k Φ->∀(j:Nat) (c:CE) (e:Expr),bR[j]?=some c->a[j]?=some e->PE b e (tD b d Φ c)/\PT b e (ig b d Φ c)) :
  (bR=[]/\a=[])\/∃c e,bR=[c]/\a=[e]/\∀(b:Cx) (d:ai),Lk b i k Φ->PT b e (ig b d Φ c):=by
 cases bR with
 |nil=>cases a with
  |nil=>exact .inl ⟨rfl,rfl⟩
  |cons _ _=>exact(aae g).elim
 |cons c cs=>cases cs with
  |cons _ _=>simp at m
  |nil=>cases a with
   |nil=>exact(aae g).elim
   |cons e a=>cases a with
    |cons _ _=>exact(aae (aM g).2).elim
    |nil=>exact .inr ⟨c,e,rfl,rfl,λb d n=>(l b d n 0 c e rfl rfl).2⟩
def SK(S:Sx)(a:IK)(es:aH)(target iter:Expr):Bool:=match a with
 |.lY=>bG (gJ iter) λw=>decide (w.1=("range" : Str))&&iB S.sc w.1&&decide (w.1∈S.bl)&&bG (one w.2) λy=>bO S es [y]
 |.seq=>bO S es [iter]
 |.cS p=>T9 iter&&(decide (1100<=p)||jk target)&&bG (S.px.pi p S.sc S.bl iter) λxs=>bO S es xs
theorem Dz(L:Lk X S k Φ){d:IK}(O:∀l,bO S es l=true->PA X l (tT X F Φ es))
  (r:∀l,bO S es l=true->∀(j:Nat) (c:CE) (e:Expr),es[j]?=some c->l[j]?=some e->PE X e (tD X F Φ c)/\PT X e (ig X F Φ c)) (g:∀l,bO S es l=true->nG X F Φ es l) (a:SK S d es target iter=true) :
  ∀(pins:ao) (s:Shared) (σ:St) (H:Hp) (R:ai) (τ:Addr->Option bt) (ρ:bo) (xs items:aa),Inv X pins σ H s->SI X F R τ ρ σ H->b0 Φ es ρ=ok xs->e_ Φ d xs=ok items->∀(m:It->Hp->Prop),
   (∀J H2,aL H H2->Yl X.K J (lV X F τ (caps++dX es) H2) H2 items->m J H2) ->
   wpAny (model X.prog X.w) X.A (eval iter X.env) (λv q=>wpAny (model X.prog X.w) X.A (pyIter v) (FH X pins σ target m) X.xe q) X.xe s:=by
 cases d with
 |lY =>
  obtain⟨⟨x,as⟩,t,a⟩:=bF a;obtain⟨p,U,rfl⟩:=cY t;obtain⟨I,i⟩:=aM a;obtain⟨M,B⟩:=aM I;obtain⟨N,E⟩:=aM M;obtain rfl:x=_:=aab N;obtain⟨y,u,b⟩:=bF i;obtain rfl:as=[y]:=cO u;exact Mv L E (aab B) (O _ b) b
 |seq =>
  have n:=r _ a;cases es with
  |nil=>exact(aae a).elim
  |cons c cs=>cases cs with
   |cons _ _=>exact(aae (aM a).2).elim
   |nil=>exact Mu L (n 0 c _ rfl rfl).1
 |cS p =>
  obtain⟨a,i⟩:=aM a;obtain⟨xs,z,b⟩:=bF i;exact Mx L z (aM a).2 (g _ b)
mutual
theorem bE:∀(c:CE) (X:Cx) (S:Sx) (F:ai) (L:Lk X S k Φ) (e:Expr),cq S c e=true->PE X e (tD X F Φ c)/\PT X e (ig X F Φ c)
 |.cS p cs,X,S,F,L,e,h=>by
  obtain⟨args,ha,hb⟩:=bF (aM h).2;exact L.pr.e X _ _ k L.pX p e args ha F cs (jB cs X S F L args hb)
 |.cF,X,S,F,L,e,h=>by
  obtain⟨c,m,h_1⟩:=bF h;obtain⟨j,p,rfl⟩:=Bu m;obtain rfl:=Ak h_1;exact⟨BW,cZ BW λ_=>rfl⟩
 |.bl b,X,S,F,L,e,h=>by
  obtain⟨c,m,h_1⟩:=bF h;obtain⟨j,p,rfl⟩:=Bu m;obtain rfl:=DC h_1;exact⟨JB,cZ JB λ_=>rfl⟩
 |.int i,X,S,F,L,e,h=>by
  obtain⟨c,m,h_1⟩:=bF h;obtain⟨j,p,rfl⟩:=Bu m;obtain rfl:=Al h_1;exact⟨BX,cZ BX λ_=>rfl⟩
 |.v i,X,S,F,L,e,h=>by
  obtain⟨x,m,h'⟩:=bF h;obtain⟨p,rfl⟩:=j8 m;have:=Vx (F:=F) L h;exact⟨this,cZ this λ_=>rfl⟩
 |.glo x i,X,S,F,L,e,h=>by
  obtain⟨y,m,h_1⟩:=bF h;obtain⟨pos,rfl⟩:=j8 m;obtain⟨h_2,E⟩:=aM h_1;obtain⟨B,s⟩:=aM h_2;obtain⟨N,q⟩:=aM B;obtain rfl:=aab N;obtain⟨u,hm,r⟩:=L.cs _ _ (aab s);have this:PE X (.Name y pos) (tD X F Φ (.glo y i)):=PE.imp (yx (v:=.int i) (L.gl q) hm r (fI E)) λσ H Q cg=>by obtain⟨R,τ,ρ,d,Si,M,hq⟩:=cg;cases M;exact hq _ H (aL.refl H) .int
  exact⟨this,cZ this λ_=>rfl⟩
 |.bin op a b,X,S,F,L,e,h=>by
  obtain⟨⟨l,o,r⟩,m,h_1⟩:=bF h;obtain⟨pos,rfl⟩:=F7 m;obtain⟨h_2,s⟩:=aM h_1;obtain⟨B,q⟩:=aM h_2;obtain rfl:o=QJ op:=aab B;have:=LF (F:=F) (pos:=pos) L (op:=op) (bE a X S F L _ q).1 (bE b X S F L _ s).1;exact⟨this,cZ this λ_=>rfl⟩
 |.neg a,X,S,F,L,e,h=>by
  obtain⟨⟨o,x⟩,m,h_1⟩:=bF h;obtain⟨pos,rfl⟩:=Br m;obtain⟨h_2,q⟩:=aM h_1;obtain rfl:o=.USub:=aab h_2;have:=LB (F:=F) (Φ:=Φ) (pos:=pos) (bE a X S F L _ q).1;exact⟨this,cZ this λ_=>rfl⟩
 |.not a,X,S,F,L,e,h=>by
  obtain⟨⟨o,x⟩,m,h_1⟩:=bF h;obtain⟨pos,rfl⟩:=Br m;obtain⟨h_2,q⟩:=aM h_1;obtain rfl:o=.Not:=aab h_2;exact⟨LA (bE a X S F L _ q).1,Lo (bE a X S F L _ q).2⟩
 |.and cs,X,S,F,L,e,h=>by
  obtain⟨⟨o,vs⟩,m,h_1⟩:=bF h;obtain⟨pos,rfl⟩:=tM m;obtain⟨h_2,q⟩:=aM h_1;obtain rfl:o=.And:=aab h_2;exact⟨(lU cs X S F L vs q pos).1,(lU cs X S F L vs q pos).2.pt⟩
 |.or cs,X,S,F,L,e,h=>by
  obtain⟨⟨o,vs⟩,m,h_1⟩:=bF h;obtain⟨pos,rfl⟩:=tM m;obtain⟨h_2,q⟩:=aM h_1;obtain rfl:o=.Or:=aab h_2;exact⟨(oH cs X S F L vs q pos).1,(oH cs X S F L vs q pos).2.pt⟩
 |.cmp op a b,X,S,F,L,e,h=>by
  obtain⟨⟨l,os,rs⟩,m,h_1⟩:=bF h;obtain⟨pos,rfl⟩:=xS m;obtain⟨h_2,s⟩:=aM h_1;obtain⟨B,q⟩:=aM h_2;obtain⟨r,hr,XD⟩:=bF s;obtain⟨R6,E⟩:=aM XD;obtain rfl:os=[VZ op]:=aab B;obtain rfl:rs=[r]:=cO hr;exact⟨PE.imp (yy (CL L op) (bE a X S F L _ q).1 (bE b X S F L _ R6).1 (CW E)) λ_ _ _ B=>vn B,PT.imp (yp (CL L op) (bE a X S F L _ q).1 (bE b X S F L _ R6).1 (CW E)) λ_ _ _ B=>zV B⟩
 |.lg a t,X,S,F,L,e,h=>by
  obtain⟨⟨f,as⟩,m,h_1⟩:=bF h;obtain⟨p,pos,rfl⟩:=cY m;obtain⟨h_2,W⟩:=aM h_1;obtain⟨B,s⟩:=aM h_2;obtain⟨N,q⟩:=aM B;obtain rfl:f=_:=aab N;obtain⟨⟨e,g⟩,hw,Ia⟩:=bF W;obtain rfl:as=[e,g]:=gx hw;obtain⟨RZ,V⟩:=aM Ia;obtain⟨x,hn,M9⟩:=bF V;obtain⟨p',rfl⟩:∃p,g=.Name x p:=j8 hn;obtain⟨M8,I⟩:=aM M9;obtain⟨M7,E⟩:=aM M8;obtain rfl:=aab M7;have:=LD (F:=F) (p:=p) (p':=p') (pos:=pos) L q (aab s) E (aab I) (bE a X S F L _ RZ).1 (λes=>b_ RZ es _);exact⟨this,cZ this λ_=>rfl⟩
 |.call f cs,X,S,F,L,e,h=>by
  obtain⟨⟨x,as⟩,m,h_1⟩:=bF h;obtain⟨p,pos,rfl⟩:=cY m;obtain⟨h_2,I⟩:=aM h_1;obtain⟨B,E⟩:=aM h_2;obtain⟨q,s⟩:=aM B;obtain⟨⟨y,ys⟩,U,J⟩:=bF I;obtain rfl:as=y::ys:=Bx U;cases cs with
  |nil=>exact(aae J).elim
  |cons c Ku =>
   have R4:=aM J;have:=GF (F:=F) (p:=p) (pos:=pos) L (aab q) s E (fH (c::Ku) X S F L (y::ys) J) (λes=>b_ R4.1 es _) (λpos=>xq R4.2 pos _);exact⟨this,cZ this λ_=>rfl⟩
 |.bf f cs,X,S,F,L,e,h=>by
  obtain⟨⟨x,as⟩,m,h_1⟩:=bF h;obtain⟨p,pos,rfl⟩:=cY m;obtain⟨h_2,I⟩:=aM h_1;obtain⟨B,E⟩:=aM h_2;obtain⟨N,s⟩:=aM B;obtain rfl:x=_:=aab N;obtain⟨⟨y,ys⟩,U,J⟩:=bF I;obtain rfl:as=y::ys:=Bx U;cases cs with
  |nil=>exact(aae J).elim
  |cons c Ku =>
   have R4:=aM J;have:=Qi (F:=F) (p:=p) (pos:=pos) L s (aab E) (fH (c::Ku) X S F L (y::ys) J) (λes=>b_ R4.1 es _) (λpos=>xq R4.2 pos _);exact⟨this,cZ this λ_=>rfl⟩
 |.kR a,X,S,F,L,e,h=>by
  obtain⟨⟨x,as⟩,m,h_1⟩:=bF h;obtain⟨p,pos,rfl⟩:=cY m;obtain⟨h_2,I⟩:=aM h_1;obtain⟨B,s⟩:=aM h_2;obtain⟨N,q⟩:=aM B;obtain rfl:x=_:=aab N;obtain⟨y,U,J⟩:=bF I;obtain rfl:as=[y]:=cO U;obtain⟨⟨z,bs⟩,hw,Y⟩:=bF J;obtain⟨p',pos',rfl⟩:=cY hw;obtain⟨Xy,W⟩:=aM Y;obtain⟨Xx,V⟩:=aM Xy;obtain⟨Xw,E⟩:=aM Xx;obtain rfl:z=_:=aab Xw;obtain⟨u,Ww,Ia⟩:=bF W;obtain rfl:bs=[u]:=cO Ww;have:=GC (F:=F) (p:=p) (p':=p') (pos:=pos) (pos':=pos') L q (aab s) E (aab V) (bE a X S F L _ Ia).1 (λes=>b_ Ia es _);exact⟨this,cZ this λ_=>rfl⟩
 |.ix a b,X,S,F,L,e,h=>by
  obtain⟨⟨l,r⟩,m,h_1⟩:=bF h;obtain⟨pos,rfl⟩:=jy m;obtain⟨q,s⟩:=aM h_1;have:=Qh (F:=F) (pos:=pos) L (bE a X S F L _ q).1 (bE b X S F L _ s).1 (rb s);exact⟨this,cZ this λ_=>rfl⟩
 |.tup cs,X,S,F,L,e,h=>by
  obtain⟨es,m,h_1⟩:=bF h;obtain⟨n,pos,rfl⟩:=jx m;obtain⟨q,s⟩:=aM h_1;have:=Lz (F:=F) (n:=n) (pos:=pos) (fH cs X S F L es q) (aab s);exact⟨this,cZ this λ_=>rfl⟩
 |.lst cs,X,S,F,L,e,h=>by
  obtain⟨es,m,h_1⟩:=bF h;obtain⟨pos,rfl⟩:=xR m;obtain⟨q,s⟩:=aM h_1;have:=LC (F:=F) (pos:=pos) (fH cs X S F L es q) (aab s);exact⟨this,cZ this λ_=>rfl⟩
 |.comp n t caps ik es bR elt,X,S,F,L,e,h=>by
  obtain⟨⟨jT,gens,sc⟩,m,h_1⟩:=bF h;obtain⟨pos,rfl⟩:=Bs m;obtain⟨⟨target,iter,O,a⟩,hg,h_2⟩:=bF h_1;obtain rfl:gens=_:=cO hg;obtain⟨B,V⟩:=aM h_2;obtain⟨N,W⟩:=aM B;obtain⟨h_5,I⟩:=aM N;obtain⟨h_6,E⟩:=aM h_5;obtain⟨h_7,s⟩:=aM h_6;obtain⟨h_8,q⟩:=aM h_7;obtain rfl:a=0:=aab h_8;have mP:=λ(X':Cx) (F':ai) (L':Lk X' (S.inner target caps sc) k Φ)=>je bR X' _ F' L' O I;have this:PE X (.ListComp jT [⟨target,iter,O,0⟩] sc pos) (tD X F Φ (.comp n t caps ik es bR elt)) :=
   GD L (q_ q) s (λX' F' L'=>(bE elt X' _ F' L' jT W).1) (vk (aab E) I mP) (Dz L (λl=>fH es X S F L l) (λl=>je es X S F L l) (λl=>jB es X S F L l) V)
  exact⟨this,cZ this λ_=>rfl⟩
theorem je:∀(cs:aH) (X:Cx) (S:Sx) (F:ai) (L:Lk X S k Φ) (es:aq),bO S cs es=true->∀(j:Nat) (c:CE) (e:Expr),cs[j]?=some c->es[j]?=some e->PE X e (tD X F Φ c)/\PT X e (ig X F Φ c)
 |[],X,S,F,L,_,_=>λj c e h _=>by simp at h
 |_::_,X,S,F,L,[],h=>by exact(aae h).elim
 |c::cs,X,S,F,L,e::es,h=>λj c' Z hc he=>by
  replace h:=aM h;cases j with
  |zero=>simp at hc he;subst hc he;exact bE c X S F L e h.1
  |succ j=>exact je cs X S F L es h.2 j c' Z (by simpa using hc) (by simpa using he)
theorem jB:∀(cs:aH) (X:Cx) (S:Sx) (F:ai) (L:Lk X S k Φ) (es:aq),bO S cs es=true->nG X F Φ cs es
 |[],X,S,F,L,[],_=>trivial
 |[],X,S,F,L,_::_,h=>by exact(aae h).elim
 |_::_,X,S,F,L,[],h=>by exact(aae h).elim
 |c::cs,X,S,F,L,e::es,h=>by
  replace h:=aM h;exact⟨(bE c X S F L e h.1).1,λl=>b_ h.1 l _,rb h.1,jB cs X S F L es h.2⟩
theorem fH:∀(cs:aH) (X:Cx) (S:Sx) (F:ai) (L:Lk X S k Φ) (es:aq),bO S cs es=true->PA X es (tT X F Φ cs)
 |[],X,S,F,L,[],_=>PA.imp dB λ_ _ _ h=>nM h
 |[],X,S,F,L,_::_,h=>by exact(aae h).elim
 |_::_,X,S,F,L,[],h=>by exact(aae h).elim
 |c::cs,X,S,F,L,e::es,h=>by
  replace h:=aM h;exact PA.imp (cc (bE c X S F L e h.1).1 (fH cs X S F L es h.2) (b_ h.1 es _)) λ_ _ _ h=>jc h
theorem lU:∀(cs:aH) (X:Cx) (S:Sx) (F:ai) (L:Lk X S k Φ) (es:aq),bO S cs es=true->∀pos,PE X (.BoolOp .And es pos) (tD X F Φ (.and cs))/\PW X (.BoolOp .And es pos) (ig X F Φ (.and cs))
 |[],X,S,F,L,_,_,pos=>⟨λ_ _ _ _ _ _ ⟨_,_,_,_,_,M,_⟩=>(by cases M),λ_ _ _ _ _ _ _ cg=>by obtain⟨_,_,_,_,_,M,_⟩:=cg;cases M⟩
 |[c],X,S,F,L,[e],h,pos=>by
  replace h:=aM h;exact⟨PE.imp (wH (bE c X S F L e h.1).1) λ_ _ _ h=>Jk h,PW.imp (G4 (bE c X S F L e h.1).2) λ_ _ _ h=>Fc h⟩
 |[_],X,S,F,L,[],h,_=>by exact(aae h).elim
 |[_],X,S,F,L,_::_::_,h,_=>by exact(aae (aM h).2).elim
 |_::_::_,X,S,F,L,[],h,_=>by exact(aae h).elim
 |_::_::_,X,S,F,L,[_],h,_=>by exact(aae (aM h).2).elim
 |c::c'::cs,X,S,F,L,e::Z::es,h,pos=>by
  replace h:=aM h;have r:=lU (c'::cs) X S F L (Z::es) h.2 pos;exact⟨PE.imp (CF (bE c X S F L e h.1).1 r.1) λ_ _ _ h=>Fd h,PW.imp (LQ (bE c X S F L e h.1).2 r.2) λ_ _ _ h=>A2 h⟩
theorem oH:∀(cs:aH) (X:Cx) (S:Sx) (F:ai) (L:Lk X S k Φ) (es:aq),bO S cs es=true->∀pos,PE X (.BoolOp .Or es pos) (tD X F Φ (.or cs))/\PW X (.BoolOp .Or es pos) (ig X F Φ (.or cs))
 |[],X,S,F,L,_,_,pos=>⟨λ_ _ _ _ _ _ ⟨_,_,_,_,_,M,_⟩=>(by cases M),λ_ _ _ _ _ _ _ cg=>by obtain⟨_,_,_,_,_,M,_⟩:=cg;cases M⟩
 |[c],X,S,F,L,[e],h,pos=>by
  replace h:=aM h;exact⟨PE.imp (wH (bE c X S F L e h.1).1) λ_ _ _ h=>L7 h,PW.imp (Cj (bE c X S F L e h.1).2) λ_ _ _ h=>Hk h⟩
 |[_],X,S,F,L,[],h,_=>by exact(aae h).elim
 |[_],X,S,F,L,_::_::_,h,_=>by exact(aae (aM h).2).elim
 |_::_::_,X,S,F,L,[],h,_=>by exact(aae h).elim
 |_::_::_,X,S,F,L,[_],h,_=>by exact(aae (aM h).2).elim
 |c::c'::cs,X,S,F,L,e::Z::es,h,pos=>by
  replace h:=aM h;have r:=oH (c'::cs) X S F L (Z::es) h.2 pos;exact⟨PE.imp (QD (bE c X S F L e h.1).1 r.1) λ_ _ _ h=>Hl h,PW.imp (JE (bE c X S F L e h.1).2 r.2) λ_ _ _ h=>CJ h⟩
end
theorem gz(L:Lk X S k Φ)(c:CE)(e:Expr)(h:cq S c e=true):PE X e (tD X F Φ c)/\PT X e (ig X F Φ c):=bE c X S F L e h
theorem kN(L:Lk X S k Φ)(cs:aH)(es:aq)(h:bO S cs es=true):nG X F Φ cs es:=jB cs X S F L es h
theorem nP(L:Lk X S k Φ)(cs:aH)(es:aq)(h:bO S cs es=true):PA X es (tT X F Φ cs):=fH cs X S F L es h
end
section
variable {X:Cx}{S:Sx}{k:Nat}{F:ai}{Φ:bh}
set_option tactic.hygienic true in
theorem rN(L:Lk X S k Φ)(c:CE)(e:Expr)(h:cq S c e=true):PE X e (tK X F Φ c):=by
 by_cases g:∃i,c=.v i
 ·obtain⟨i,rfl⟩:=g;obtain⟨x,y,E⟩:=bF h;obtain⟨p,rfl⟩:=j8 y;obtain⟨B,j⟩:=aM E;obtain⟨n,m⟩:=aM B;unfold oR at j;simp only[Bool.and_eq_true,Bool.not_eq_true']at j;refine PE.imp (ji (i:=i) (by rw[L.N];exact aab n) (L.Tv m) j.1.1 j.1.2) λσ H Q a=>?_;obtain⟨R,τ,ρ,r,l,b,a⟩:=a;simp only[jS]at b;split at b
  ·rename_i d hd;split at b
   ·cases b;obtain⟨v,τ',g,I,t⟩:=l.move hd;exact⟨v,g,a v H R τ' (aL.refl H) (λ_ h=>h) I t⟩
   ·rename_i z;cases b;obtain⟨v,g,s⟩:=l.rep i d hd;exact⟨v,g,a v H R τ (aL.refl H) (λ_ h=>h) l (AB s (by simpa using z))⟩
  ·cases b
 ·refine PE.imp (gz (F:=F) L c e h).1 λσ H Q a=>?_;obtain⟨R,τ,ρ,r,l,b,a⟩:=a;have O:bd (bz Φ c ρ) (λd=>ok (keep c d ρ))=ok r:=by
   cases c<;>first|exact b|exact absurd ⟨_,rfl⟩ g
  obtain⟨d,M,J⟩:=aJ O;cases J;refine tD.intro l M λv H' q u=>?_;obtain⟨R',τ',n,m,j⟩:=J9 l q u;exact a v H' R' τ' q n m j
end
structure Kp(R:ai)(H:Hp)(R':ai)(H':Hp):Prop where
 r:∀p,R p->R' p
 l:∀p (o:HO),R p->H p=some o->H' p=some o
 t:∀p xs,H p=some (.tup xs)->H' p=some (.tup xs)
 z:∀p o u,H p=some (.jY o u)->H' p=some (.jY o u)
theorem Kp.refl(R:ai)(H:Hp):Kp R H R H:=⟨λ_ h=>h,λ_ _ _ h=>h,λ_ _ h=>h,λ_ _ _ h=>h⟩
theorem Kp.of{R:Addr->Prop}{H:Hp}(e:aL H H')(h:∀p,R p->R' p):Kp R H R' H':=⟨h,λp xs _ h=>e _ _ h,λp xs h=>e _ _ h,λp o u h=>e _ _ h⟩
theorem Kp.trans{R R2:Addr->Prop}{H:Hp}(a:Kp R H R1 H1)(b:Kp R1 H1 R2 H2):Kp R H R2 H2 :=
 ⟨λp h=>b.r p (a.r p h),λp xs h e=>b.l p xs (a.r p h) (a.l p xs h e),λp xs h=>b.t p xs (a.t p xs h),λp o u h=>b.z p o u (a.z p o u h)⟩
theorem Kp.TM{R:Addr->Prop}{H:Hp}(a:Kp R H R' H'){p:Addr}(h:a_ K H p xs):a_ K H' p xs:=by
 rcases h with (h|⟨o,h⟩)|h
 ·exact .inl (.inl (a.t p xs h))
 ·exact .inl (.inr ⟨o,a.z p o _ h⟩)
 ·exact .inr h
theorem Kp.nd{K:av}{R R':ai}{H H':Hp}(a:Kp R H R' H'){q:bt}{p:Addr}{xs:Nd}{f:Fl}(h:DI.nd K R (λ_=>False) (λ_=>none) H q p xs f):DI.nd K R' (λ_=>False) (λ_=>none) H' q p xs f:=by
 cases f with
 |ow=>exact nomatch h.2
 |fz=>exact⟨h.1.at λo e=>a.l p o h.2 e,a.r p h.2⟩
 |al=>exact h.2.elim
 |sc =>
  obtain⟨ys,rfl,h⟩:=h.BY;exact h.elim (λ⟨o,h⟩=>.inl ⟨o,a.z p o _ h⟩) .inr
theorem Kp.rep{R:Addr->Prop}{H:Hp}(a:Kp R H R' H'){k:bt}{v:V}{d:D}(h:Rep (a_ K H) (DI.nd K R (λ_=>False) (λ_=>none) H) k v d):Rep (a_ K H') (DI.nd K R' (λ_=>False) (λ_=>none) H') k v d :=
 h.imp (λ_ _ h=>a.TM h) λ_ _ _ _ h=>a.nd h
theorem Kp.VO{R:Addr->Prop}{H:Hp}(a:Kp R H R' H'){k:bt}{n:Nat}{v:ah}{d:aa}(h:aI (a_ K H) (DI.nd K R (λ_=>False) (λ_=>none) H) k n v d):aI (a_ K H') (DI.nd K R' (λ_=>False) (λ_=>none) H') k n v d :=
 h.imp (λ_ _ h=>a.TM h) λ_ _ _ _ h=>a.nd h
def Fp(X:Cx)(F:ai)(H':Hp)(v:V)(d:D):Prop:=∃τt:Addr->Option bt,(∀p q,τt p=some q->X.H₀ p=none)/\Rep (a_ X.K H') (nd X.K (gP X F) (λ_=>False) τt H') [] v d
theorem js.ret{R:Addr->Prop}{H:Hp}{v:V}{d:D}(c:SI X F R τ ρ σ H)(h:js X R τ H v d):Fp X F H v d:=by
 obtain⟨τt,b,a⟩:=h;exact⟨τt,λp q e=>(b p q e).2.2.1,a.imp (λ_ _ h=>h) λ_ _ _ _ h=>h.mono (λh=>c.rf _ h) id id⟩
def m8(X:Cx)(F:ai)(D:Ends)(R:ai)(H:Hp):Fo×bo->Prop
 | (.nx,ρ')=>∀a H' R' τ',SI X F R' τ' ρ' a H'->Kp R H R' H'->D.nx a H'
 | (.rt d,_)=>∀v H',aL X.H₀ H'->Fp X F H' v d->D.rt v H'
def kD(X:Cx)(F:ai)(Φ:bh)(c:CS):TS:=λD σ H=>∃R τ ρ r,SI X F R τ ρ σ H/\mq Φ c ρ=ok r/\m8 X F D R H r
def qc(X:Cx)(F:ai)(Φ:bh)(cs:aj):TS:=λD σ H=>∃R τ ρ r,SI X F R τ ρ σ H/\bK Φ cs ρ=ok r/\m8 X F D R H r
noncomputable def Mo(sc:Scope)(x:Str):Bool:=decide (sc.names.lookup x=some .local)||decide (sc.names.lookup x=some .cell)
def mB(S:Sx)(i:Nat):Expr->Bool
 |.Name x _=>decide (S.N[i]?=some x)&&Mo S.sc x
 |_=>false
def Uh:Expr->Bool
 |.Name x _=>oR x
 |_=>true
def EL(S:Sx):aN->aq->Bool
 |[],es=>match es with
  |[]=>true
  |_::_=>false
 |i::is,es=>match es with
  |[]=>false
  |e::es=>mB S i e&&EL S is es
def sU(S:Sx):Tg->Expr->Bool
 |.nm i,e=>mB S i e
 |.tp is,e=>bG (zS e) λes=>EL S is es
noncomputable def jl(e:Expr):Bool:=decide (e.ctorIdx=8)
noncomputable def isTup:Expr->Bool
 |.Tuple _ _ _=>true
 |_=>false
noncomputable def Vt(S:Sx)(tg v:Expr):Bool:=match tg,v with
 |.Name x p,.ListComp _ _ sc pos=>(S.sc.names.lookup x==some .local)&&(p.line==pos.line)&&!(sc.names.any λ(n,k)=>n==x&&(k==.local||k==.cell))
 |_,_=>false
noncomputable def K3(e:Expr):Option (Str×Pos):=if h:e.ctorIdx=23 then Expr.Name.elim (motive_1:=λ_=>Option (Str×Pos)) e h (λx p=>some (x,p))else none
theorem xQ{e:Expr}{x:Str}{p:Pos}(h:K3 e=some (x,p)):e=.Name x p:=by
 obtain⟨k,h⟩:=dI h;exact Expr.Name.elim (motive_1:=λe=>∀k:e.ctorIdx=23,Expr.Name.elim (motive_1:=λ_=>Option (Str×Pos)) e k (λx p=>some (x,p))=some (x,p)->e=.Name x p) e k (λ_ _ _ h=>by cases h;rfl) k h
def EK(S:Sx)(i j:Nat)(tg v:Expr):Bool :=
 bG (zS tg) λa=>bG (two a) λt=>bG (K3 t.1) λx=>bG (K3 t.2) λy=>bG (zS v) λvs=>bG (two vs) λw =>
  decide (S.N[i]?=some x.1)&&decide (S.N[j]?=some y.1)&&decide (i≠j)&&decide (S.sc.names.lookup x.1=some .local)&&decide (S.sc.names.lookup y.1=some .local)&&decide (x.1≠y.1) &&
   decide (x.2.line=y.2.line)&&!([w.1,w.2].all (foldedForSure 8))&&!([w.1,w.2].all (constantsAlone 8))&&decide (([w.1,w.2].any λe=>match e with|.Starred ..=>true|_=>false)=false)
def SM(S:Sx)(it:CI)(e:Expr):Bool:=match it with
 |.lY a=>bG (gJ e) λw=>decide (w.1=("range" : Str))&&iB S.sc w.1&&decide (w.1∈S.bl)&&bG (one w.2) λy=>cq S a y
 |.seq a=>cq S a e&&qO e
 |.LW p es=>T9 e&&bG (S.px.pi p S.sc S.bl e) λxs=>bO S es xs
noncomputable def CO:CI->Bool
 |.LW p _=>decide (1100<=p)
 |_=>true
noncomputable def Bv(s:Stmt):Option (aq×Expr):=if h:s.ctorIdx=5 then Stmt.Assign.elim (motive_2:=λ_=>Option (aq×Expr)) s h (λa v _=>some (a,v))else none
theorem nJ{s:Stmt}{a:aq}{v:Expr}(h:Bv s=some (a,v)):∃p,s=.Assign a v p:=by
 obtain⟨k,h⟩:=dI h;exact Stmt.Assign.elim (motive_2:=λs=>∀k:s.ctorIdx=5,Stmt.Assign.elim (motive_2:=λ_=>Option (aq×Expr)) s k (λa v _=>some (a,v))=some (a,v)->∃p,s=.Assign a v p) s k (λ_ _ _ _ h=>by cases h;exact⟨_,rfl⟩) k h
noncomputable def Pp(s:Stmt):Option (Option Expr):=if h:s.ctorIdx=3 then Stmt.Return.elim (motive_2:=λ_=>Option (Option Expr)) s h (λv _=>some v)else none
theorem F3{s:Stmt}{v:Option Expr}(h:Pp s=some v):∃p,s=.Return v p:=by
 obtain⟨k,h⟩:=dI h;exact Stmt.Return.elim (motive_2:=λs=>∀k:s.ctorIdx=3,Stmt.Return.elim (motive_2:=λ_=>Option (Option Expr)) s k (λv _=>some v)=some v->∃p,s=.Return v p) s k (λ_ _ _ h=>by cases h;exact⟨_,rfl⟩) k h
noncomputable def Tw(s:Stmt):Option Expr:=if h:s.ctorIdx=24 then Stmt.Expr.elim (motive_2:=λ_=>Option Expr) s h (λv _=>some v)else none
theorem wc{s:Stmt}{v:Expr}(h:Tw s=some v):∃p,s=.Expr v p:=by
 obtain⟨k,h⟩:=dI h;exact Stmt.Expr.elim (motive_2:=λs=>∀k:s.ctorIdx=24,Stmt.Expr.elim (motive_2:=λ_=>Option Expr) s k (λv _=>some v)=some v->∃p,s=.Expr v p) s k (λ_ _ _ h=>by cases h;exact⟨_,rfl⟩) k h
noncomputable def F8(s:Stmt):Option (Expr×Operator×Expr):=if h:s.ctorIdx=7 then Stmt.AugAssign.elim (motive_2:=λ_=>Option (Expr×Operator×Expr)) s h (λo p v _=>some (o,p,v))else none
theorem xT{s:Stmt}{v:Expr}{p:Operator}(h:F8 s=some (o,p,v)):∃q,s=.AugAssign o p v q:=by
 obtain⟨k,h⟩:=dI h;exact Stmt.AugAssign.elim (motive_2:=λs=>∀k:s.ctorIdx=7,Stmt.AugAssign.elim (motive_2:=λ_=>Option (Expr×Operator×Expr)) s k (λo p v _=>some (o,p,v))=some (o,p,v)->∃q,s=.AugAssign o p v q) s k (λ_ _ _ _ _ h=>by cases h;exact⟨_,rfl⟩) k h
noncomputable def Pq(s:Stmt):Option (Expr×aO×aO):=if h:s.ctorIdx=12 then Stmt.If.elim (motive_2:=λ_=>Option (Expr×aO×aO)) s h (λt x y _=>some (t,x,y))else none
theorem F4{s:Stmt}{t:Expr}{x y:aO}(h:Pq s=some (t,x,y)):∃q,s=.If t x y q:=by
 obtain⟨k,h⟩:=dI h;exact Stmt.If.elim (motive_2:=λs=>∀k:s.ctorIdx=12,Stmt.If.elim (motive_2:=λ_=>Option (Expr×aO×aO)) s k (λt x y _=>some (t,x,y))=some (t,x,y)->∃q,s=.If t x y q) s k (λ_ _ _ _ _ h=>by cases h;exact⟨_,rfl⟩) k h
noncomputable def Po(s:Stmt):Option (Expr×aO×aO):=if h:s.ctorIdx=11 then Stmt.While.elim (motive_2:=λ_=>Option (Expr×aO×aO)) s h (λt x y _=>some (t,x,y))else none
theorem F2{s:Stmt}{t:Expr}{x y:aO}(h:Po s=some (t,x,y)):∃q,s=.While t x y q:=by
 obtain⟨k,h⟩:=dI h;exact Stmt.While.elim (motive_2:=λs=>∀k:s.ctorIdx=11,Stmt.While.elim (motive_2:=λ_=>Option (Expr×aO×aO)) s k (λt x y _=>some (t,x,y))=some (t,x,y)->∃q,s=.While t x y q) s k (λ_ _ _ _ _ h=>by cases h;exact⟨_,rfl⟩) k h
noncomputable def Pr(s:Stmt):Option (Expr×Expr×aO×aO):=if h:s.ctorIdx=9 then Stmt.For.elim (motive_2:=λ_=>Option (Expr×Expr×aO×aO)) s h (λtg a x y _=>some (tg,a,x,y))else none
theorem F5{s:Stmt}{it:Expr}{x y:aO}(h:Pr s=some (tg,it,x,y)):∃q,s=.For tg it x y q:=by
 obtain⟨k,h⟩:=dI h;exact Stmt.For.elim (motive_2:=λs=>∀k:s.ctorIdx=9,Stmt.For.elim (motive_2:=λ_=>Option (Expr×Expr×aO×aO)) s k (λtg it x y _=>some (tg,it,x,y))=some (tg,it,x,y)->∃q,s=.For tg it x y q) s k (λ_ _ _ _ _ _ h=>by cases h;exact⟨_,rfl⟩) k h
noncomputable def xU(e:Expr):Option (Expr×Str×Pos):=if h:e.ctorIdx=20 then Expr.Attribute.elim (motive_1:=λ_=>Option (Expr×Str×Pos)) e h (λo a p=>some (o,a,p))else none
theorem oD{e:Expr}{a:Str}{p:Pos}(h:xU e=some (o,a,p)):e=.Attribute o a p:=by
 obtain⟨k,h⟩:=dI h;exact Expr.Attribute.elim (motive_1:=λe=>∀k:e.ctorIdx=20,Expr.Attribute.elim (motive_1:=λ_=>Option (Expr×Str×Pos)) e k (λo a p=>some (o,a,p))=some (o,a,p)->e=.Attribute o a p) e k (λ_ _ _ _ h=>by cases h;rfl) k h
noncomputable def rH(e:Expr):Option (Expr×aq×List Keyword×Pos):=if h:e.ctorIdx=16 then Expr.Call.elim (motive_1:=λ_=>Option (Expr×aq×List Keyword×Pos)) e h (λf as a p=>some (f,as,a,p))else none
theorem lS{e f:Expr}{ks:List Keyword}{p:Pos}(h:rH e=some (f,as,ks,p)):e=.Call f as ks p:=by
 obtain⟨k,h⟩:=dI h;exact Expr.Call.elim (motive_1:=λe=>∀k:e.ctorIdx=16,Expr.Call.elim (motive_1:=λ_=>Option (Expr×aq×List Keyword×Pos)) e k (λf as ks p=>some (f,as,ks,p))=some (f,as,ks,p)->e=.Call f as ks p) e k (λ_ _ _ _ _ h=>by cases h;rfl) k h
noncomputable def isNil{a:Type}:List a->Bool
 |[]=>true
 |_::_=>false
theorem k_{a:Type}{l:List a}(h:isNil l=true):l=[]:=by cases l<;>first|rfl|cases h
noncomputable def HH:Stmt->Bool
 |.Raise _ _ _=>true
 |_=>false
theorem zr{i:Nat}{e:Expr}(h:mB S i e=true):∃x p,e=.Name x p:=by
 cases e<;>first|exact⟨_,_,rfl⟩|exact(aae h).elim
theorem Am{e:Expr}(h:jl e=true):∃x g a p,e=.ListComp x g a p:=Expr.ListComp.elim (motive_1:=λe=>∃x g a p,e=.ListComp x g a p) e (aab h) λ_ _ _ _=>⟨_,_,_,_,rfl⟩
mutual
noncomputable def SJ(S:Sx):CS->Stmt->Bool
 |.asg t e,s0=>bG (Bv s0) λz=>bG (one z.1) λtg=>cq S e z.2&&sU S t tg&&!(isTup z.2&&isTup tg)&&(!jl z.2||isNm tg)
 |.par i j a b,s0=>bG (Bv s0) λz=>bG (one z.1) λtg=>cq S (.tup [a,b]) z.2&&EK S i j tg z.2
 |.ret e,s0=>bG (Pp s0) λz=>bG z λv=>cq S e v
 |.rs _,s0=>HH s0
 |.mut p i es,s0=>bG (S.px.pm p S.sc S.bl s0) λz=>mB S i z.1&&Uh z.1&&bO S es z.2
 |.mu2 p i k e,s0=>bG (S.px.p2 p S.sc S.bl s0) λz=>mB S i z.1&&Uh z.1&&bO S [k,e] z.2
 |.unp is e,s0=>bG (Bv s0) λz=>bG (one z.1) λtg=>cq S e z.2&&sU S (.tp is) tg&&!(isTup z.2&&isTup tg)&&!jl z.2
 |.app i e,s0=>bG (Tw s0) λc=>bG (rH c) λz=>isNil z.2.2.1&&bG (xU z.1) λa=>decide (a.2.1=("append" : Str))&&mB S i a.1&&Uh a.1&&(a.2.2.endLine==z.2.2.2.line)&&bG (one z.2.1) λv=>cq S e v
 |.aug i op e,s0=>bG (F8 s0) λz=>mB S i z.1&&Uh z.1&&decide (z.2.1=if op then .Add else .Sub)&&cq S e z.2.2
 |.ex e,s0=>bG (Tw s0) λv=>cq S e v&&!jl v
 |.ifs c a b,s0=>bG (Pq s0) λz=>cq S c z.1&&fq S a z.2.1&&fq S b z.2.2
 |.KZ c b,s0=>bG (Po s0) λz=>isNil z.2.2&&cq S c z.1&&fq S b z.2.1
 |.fr t it b,s0=>bG (Pr s0) λz=>isNil z.2.2.2&&sU S t z.1&&SM S it z.2.1&&(jk z.1||CO it)&&fq S b z.2.2.1
noncomputable def fq(S:Sx):aj->aO->Bool
 |[],ss=>match ss with
  |[]=>true
  |_::_=>false
 |c::cs,ss=>match ss with
  |[]=>false
  |s::ss=>SJ S c s&&fq S cs ss
end
structure Fq(px:Px)(Φ:bh):Prop where
 m:∀(X:Cx) (sc:Scope) (bl:ak) (k:Nat),PX X sc bl k->X.N.Nodup->(∀x,X.fn x=true)->∀(p:Nat) (st:Stmt) (x:Str) (pos:Pos) (args:aq),px.pm p sc bl st=some (.Name x pos,args)->∀(i:Nat),X.N[i]?=some x->L2.Loc X.env.scope x->PE X (.Name x pos) (jP i) ->
  ∀(F:ai) (cs:aH),nG X F Φ cs args->PS X st (kD X F Φ (.mut p i cs))
 m2:∀(X:Cx) (sc:Scope) (bl:ak) (k:Nat),PX X sc bl k->X.N.Nodup->(∀x,X.fn x=true)->∀(p:Nat) (st:Stmt) (x:Str) (pos:Pos) (args:aq),px.p2 p sc bl st=some (.Name x pos,args)->∀(i:Nat),X.N[i]?=some x->L2.Loc X.env.scope x->PE X (.Name x pos) (jP i) ->
  ∀(F:ai) (c1 c2:CE),nG X F Φ [c1,c2] args->PS X st (kD X F Φ (.mu2 p i c1 c2))
structure nI(X:Cx)(S:Sx)(k:Nat)(Φ:bh):Prop extends Lk X S k Φ where
 fnT:∀x,X.fn x=true
 px:PassesOwn (model X.prog X.w) X.A X.env X.xe
 fk:S.sc.kind=.function
 pm:Fq S.px Φ
section
variable {X:Cx}{S:Sx}{k:Nat}{F:ai}{Φ:bh}
theorem nI.loc(L:nI X S k Φ){x:Str}(h:Mo S.sc x=true):L2.Loc X.env.scope x:=by
 unfold L2.Loc;rw[L.sc];unfold Mo at h;rw[Bool.or_eq_true]at h;exact h.imp aab aab
theorem JA(L:nI X S k Φ){x:Str}{p:Pos}{l:Nat}{elt:Expr}{gens:List Comprehension}{sc:Scope}:swapsWith (.ListComp elt gens sc pos) (some (.Name x p)) l X.env=pure (Vt S (.Name x p) (.ListComp elt gens sc pos)):=by
 have b:X.env.blockKind=.function:=by unfold Env.blockKind;rw[L.sc,L.fk];rfl
 have a:(X.env.kindOf x==some .local)=(S.sc.names.lookup x==some .local):=by
  unfold Env.kindOf;rw[L.sc]
 unfold swapsWith Vt;simp only[b,a];rfl
theorem pO{c:CE}{e:Expr}(h:cq S c e=true)(a:jl e=false)(t:Option Expr)(l:Nat)(env:Env):swapsWith e t l env=pure false:=by
 cases e<;>first|rfl | (cases a;done) | (cases c<;>exact(aae h).elim)
def Ux:aN->Jn
 |[]=>Nc
 |i::is=>D_ (ph i) (Ux is)
theorem Cv(L:nI X S k Φ){i:Nat}{e:Expr}(h:mB S i e=true):PG X e (ph i):=by
 cases e<;>try (exact(aae h).elim;done)
 replace h:=aM h;exact r_ L.nd (by rw[L.N];exact aab h.1) (L.loc h.2) (.inl (L.fnT _))
theorem Hu{i:Nat}{e:Expr}(h:mB S i e=true)(es:aq)(env:Env):assignEach (e::es) env=(false,assign e env)::assignEach es env:=by
 cases e<;>first|rfl | (exact(aae h).elim;done)
theorem wG(L:nI X S k Φ):∀{is:aN} {es:aq},EL S is es=true->O5 X es (Ux is)/\(assignEach es X.env).length=is.length/\(assignEach es X.env).findIdx? (·.1)=none
 |[],[],_=>⟨yu,rfl,rfl⟩
 |[],_::_,h=>by exact(aae h).elim
 |_::_,[],h=>by exact(aae h).elim
 |i::is,e::es,h=>by
  replace h:=aM h;obtain⟨d,c,b⟩:=wG L h.2;have a:=Hu h.1 es X.env;refine⟨uo (Cv L h.1) d (by rw[a];rfl),by rw[a];simp[c],?_⟩;rw[a,List.findIdx?_cons];simp[b]
theorem t5{H:Hp}{R:ai}{Q:St->Hp->Prop}:∀{is:aN} {vs:ah} {ds:aa} {c:bt} {n:Nat} {σ:St} {τ:Addr->Option bt} {ρ b:bo},aI (a_ X.K H) (nd X.K R (λ_=>False) (λ_=>none) H) c n vs ds->SI X F R τ ρ σ H->fj is ds ρ=ok b ->
  (∀a τ',SI X F R τ' b a H->Q a H)->Ux is vs σ H Q
 |[],_,_,_,_,σ,τ,_,_,.nil,Si,e,hq=>by
  cases e;exact⟨rfl,hq σ τ Si⟩
 |[],_,_,_,_,_,_,_,_,.cons _ _,_,e,_=>by cases e
 |_::_,_,_,_,_,_,_,_,_,.nil,_,e,_=>by cases e
 |i::is,_,_,_,_,σ,τ,ρ,_,.cons (v:=v) (d:=d) h t,Si,e,hq=>by
  change (if _ then _ else _)=_ at e;split at e
  ·rename_i g;obtain⟨τ',j⟩:=Si.set (i:=i) (nU (τ':=τ) (Rep.sA h)) g;exact⟨_,_,rfl,t5 t j e hq⟩
  ·cases e
noncomputable def BH(n:Nat)(τt:Addr->Option bt):Addr->Option bt:=λp=>match τt p with|some q=>if q.getLast?=some n then some q.dropLast else none|none=>none
noncomputable def BG(n:Nat)(τt:Addr->Option bt):Addr->Option bt:=λp=>match τt p with|some q=>if q.getLast?=some n then none else some q|none=>none
theorem Gi{n:Nat}{p:Addr}{q:bt}(h:BH n τt p=some q):τt p=some (q++[n]):=by
 unfold BH at h;cases e:τt p with
 |none=>rw[e]at h;cases h
 |some k =>
  rw[e]at h;by_cases c:k.getLast?=some n
  ·simp only[c,if_true]at h;cases h;obtain⟨ys,rfl⟩:=List.getLast?_eq_some_iff.mp c;simp
  ·simp only[c,if_false]at h;cases h
theorem Gh{n:Nat}{p:Addr}{q:bt}(h:BG n τt p=some q):τt p=some q/\q.getLast?≠some n:=by
 unfold BG at h;cases e:τt p with
 |none=>rw[e]at h;cases h
 |some k =>
  rw[e]at h;by_cases c:k.getLast?=some n
  ·simp only[c,if_true]at h;cases h
  ·simp only[c,if_false]at h;cases h;exact⟨rfl,c⟩
theorem qI{H:Hp}{R:ai}{τt:Addr->Option bt}{n:Nat}:∀{vs:ah} {ds:aa} {m:Nat},n<m->aI (a_ X.K H) (nd X.K R (λ_=>False) τt H) [] m vs ds->aI (a_ X.K H) (nd X.K R (λ_=>False) (BG n τt) H) [] m vs ds
 |_,_,_,_,.nil=>.nil
 |_,_,m,hm,.cons h t=>.cons (h.imp (q':=[m]) (λ_ _ h=>h) λc p xs f h=>by
   cases f with
   |ow =>
    refine⟨h.1,?_⟩;have e:=h.2;unfold BG;rw[e];have:(c++[m]).getLast?≠some n:=by rw[List.getLast?_append];simp;left
    simp only[this,if_false]
   |fz=>exact h
   |al=>exact h
   |sc=>exact h) (qI (by left) t)
theorem qF{H:Hp}{R:ai}{Q:St->Hp->Prop}:∀{is:aN} {vs:ah} {ds:aa} {n:Nat} {σ:St} {τ τt:Addr->Option bt} {ρ b:bo},(∀p q,τt p=some q->τ p=none/\¬ R p/\X.H₀ p=none/\H p≠none)->aI (a_ X.K H) (nd X.K R (λ_=>False) τt H) [] n vs ds->SI X F R τ ρ σ H->fj is ds ρ=ok b ->
  (∀a τ',SI X F R τ' b a H->Q a H)->Ux is vs σ H Q
 |[],_,_,_,σ,τ,_,_,_,_,.nil,Si,e,hq=>by
  cases e;exact⟨rfl,hq σ τ Si⟩
 |[],_,_,_,_,_,_,_,_,_,.cons _ _,_,e,_=>by cases e
 |_::_,_,_,_,_,_,_,_,_,_,.nil,_,e,_=>by cases e
 |i::is,_,_,n,σ,τ,τt,ρ,_,ht,.cons (v:=v) (d:=d) h t,Si,e,hq=>by
  change (if _ then _ else _)=_ at e;split at e
  ·rename_i l;have u:=Si.Qe (i:=i) (τt:=BH n τt) (λp q g=>ht p _ (Gi g)) (h.imp (q':=[]) (λ_ _ h=>h) λc p xs f h=>by
    cases f with
    |ow =>
     refine⟨h.1,?_⟩;have e:=h.2;unfold BH;rw[e,List.append_nil];simp
    |fz=>exact h
    |al=>exact h
    |sc=>exact h) l
   refine⟨_,_,rfl,qF (τt:=BG n τt) (λp q g=>?_) (qI (abf n) t) u e hq⟩;obtain⟨j,m⟩:=Gh g;obtain⟨s,r⟩:=ht p q j;refine⟨?_,r⟩;unfold wm BH;rw[j];simp only[m,if_false];exact s
  ·cases e
set_option tactic.hygienic true in
theorem K7(L:nI X S k Φ)(h:sU S (.tp is) tg=true):∃g,PG X tg g/\∀(v:V) (σ:St) (H:Hp) (Q:St->Hp->Prop) (R:ai) (τ:Addr->Option bt) (ρ a:bo) (d:D),SI X F R τ ρ σ H->js X R τ H v d->F9 is d ρ=ok a ->
  (∀b τ',SI X F R τ' a b H->Q b H)->g v σ H Q:=by
 obtain⟨es,n,t⟩:=bF h;obtain⟨nn,B,rfl⟩:=jx n;obtain⟨y,x,u⟩:=wG L t;refine⟨_,wF L.calm y x u,λv σ H Q R τ ρ a d z l e r=>?_⟩;cases d<;>first|exact nk e | (cases e;done)|skip
 rename_i ds;have e:fj is ds ρ=ok a:=e;obtain⟨τt,q,j⟩:=l;cases j with
 | @tup _ p xs _ s c =>
  refine⟨p,xs,rfl,s,?_,qF q c z e r⟩;rw[c.length];have:∀(is:aN) (ds:aa) (ρ a:bo),fj is ds ρ=ok a->ds.length=is.length:=by
   intro is;induction is with
   |nil=>intro ds ρ a e;cases ds with|nil=>rfl|cons _ _=>cases e
   |cons i is m=>intro ds ρ a e;cases ds with
    |nil=>cases e
    |cons d ds =>
     change (if _ then _ else _)=_ at e;split at e
     ·rw[List.length_cons,List.length_cons,m ds _ _ e]
     ·cases e
  exact this _ _ _ _ e
set_option tactic.hygienic true in
theorem BF(L:nI X S k Φ){t:Tg}(h:sU S t tg=true):∃g,PG X tg g/\∀(v:V) (σ:St) (H:Hp) (Q:St->Hp->Prop) (R:ai) (τ:Addr->Option bt) (ρ a:bo) (d:D),SI X F R τ ρ σ H->js X R τ H v d->cB t d ρ=ok a ->
  (∀b τ',SI X F R τ' a b H->Q b H)->g v σ H Q:=by
 cases t with
 |nm i =>
  refine⟨ph i,Cv L h,λv σ H Q R τ ρ a d l c e j=>?_⟩;simp only[cB]at e;split at e
  ·rename_i y;cases e;obtain⟨τ',M⟩:=l.set c y;exact j _ τ' M
  ·cases e
 |tp is =>
  obtain⟨es,s,B⟩:=bF h;obtain⟨nn,N,rfl⟩:=jx s;obtain⟨J,I,E⟩:=wG L B;refine⟨_,wF L.calm J I E,λv σ H Q R τ ρ a d l c e j=>?_⟩;cases d<;>try (simp[cB]at e;done)
  rename_i ds;simp only[cB]at e;split at e
  ·cases e
  ·rename_i x;obtain⟨τt,O,n⟩:=c;cases n with
   | @tup _ p xs _ u m =>
    have q:aI (a_ X.K H) (nd X.K R (λ_=>False) (λ_=>none) H) [] 0 xs ds:=aI.without (P:=cz) (λ_ _ h=>h) (λk k' p xs f z h=>by
     cases f with
     |ow=>cases z
     |fz=>exact h
     |al=>exact h.2.elim
     |sc=>exact h) m (by simpa using x) _ _
    refine⟨p,xs,rfl,u,?_,t5 q l e j⟩;rw[m.length];have:∀(is:aN) (ds:aa) (ρ a:bo),fj is ds ρ=ok a->ds.length=is.length:=by
     intro is;induction is with
     |nil=>intro ds ρ a e;cases ds with|nil=>rfl|cons _ _=>cases e
     |cons i is r=>intro ds ρ a e;cases ds with
      |nil=>cases e
      |cons d ds =>
       change (if _ then _ else _)=_ at e;split at e
       ·simp[r ds _ _ e]
       ·cases e
    exact this _ _ _ _ e
end
section
variable {X:Cx}{S:Sx}{k:Nat}{F:ai}{Φ:bh}
theorem BM(L:nI X S k Φ){t:Tg}{e:CE}{v:Expr}(he:cq S e v=true)(d:sU S t tg=true)(y:(isTup v&&isTup tg)=false)(I:swapsWithSole [tg] v pos.line X.env=pure false):PS X (.Assign [tg] v pos) (kD X F Φ (.asg t e)):=by
 obtain⟨g,z,M⟩:=BF (F:=F) L d;have m:(∃x p,tg=.Name x p)\/∃es n p,tg=.Tuple es n p:=by
  cases t with
  |nm i=>cases tg<;>first|exact .inl ⟨_,_,rfl⟩|exact(aae d).elim
  |tp is=>cases tg<;>first|exact .inr ⟨_,_,_,rfl⟩|exact(aae d).elim
 have each:(assignEach [tg] X.env).map (·.2)=[assign tg X.env]:=by
  rcases m with ⟨x,p,rfl⟩|⟨es,n,p,rfl⟩<;>rfl
 have hw:swappedStores [tg] v X.env=pure none:=by
  rcases m with ⟨x,p,rfl⟩|⟨es,n,p,rfl⟩
  ·first|rfl | (cases v<;>rfl)
  ·cases v<;>first|rfl|exact absurd y (by simp[isTup])
 refine PS.imp (Cq (rN (F:=F) L.toLk e v he) z I hw each) λD σ H j=>?_;obtain⟨R,τ,ρ,r,E,a,j⟩:=j;obtain⟨r1,q,a⟩:=aJ a;obtain⟨c,l,a⟩:=aJ a;cases a;exact⟨R,τ,ρ,r1,E,q,λv H' R' τ' es hR B u=>M v σ H' _ R' τ' r1.2 c r1.1 B u l λb s J=>j b H' R' s J (Kp.of es hR)⟩
theorem Lq(L:nI X S k Φ){e:CE}{v:Expr}(he:cq S e v=true)(j:sU S (.tp is) tg=true)(t:(isTup v&&isTup tg)=false)(z:swapsWithSole [tg] v pos.line X.env=pure false):PS X (.Assign [tg] v pos) (kD X F Φ (.unp is e)):=by
 obtain⟨g,u,E⟩:=K7 (F:=F) L j;have l:∃es n p,tg=.Tuple es n p:=by
  cases tg<;>first|exact⟨_,_,_,rfl⟩|exact(aae j).elim
 have each:(assignEach [tg] X.env).map (·.2)=[assign tg X.env]:=by
  obtain⟨es,n,p,rfl⟩:=l;rfl
 have hw:swappedStores [tg] v X.env=pure none:=by
  obtain⟨es,n,p,rfl⟩:=l;cases v<;>first|rfl|exact absurd t (by simp[isTup])
 refine PS.imp (Cq (rN (F:=F) L.toLk e v he) u z hw each) λD σ H d=>?_;obtain⟨R,τ,ρ,r,y,a,d⟩:=d;obtain⟨r1,m,a⟩:=aJ a;obtain⟨c,i,a⟩:=aJ a;cases a;exact⟨R,τ,ρ,r1,y,m,λv H' R' τ' es hR x s=>E v σ H' _ R' τ' r1.2 c r1.1 x s i λb q B=>d b H' R' q B (Kp.of es hR)⟩
theorem Gw(L:nI X S k Φ){i n:Nat}{t:Tg}{J:IK}{x:Str}{p Qb:Pos}{gens:List Comprehension}{sc:Scope}
  (he:cq S (.comp n t caps J es bR elt) (.ListComp jT gens sc pos)=true) (hn:mB S i (.Name x p)=true) (MI:swapsWith (.ListComp jT gens sc pos) (some (.Name x p)) Qb.line X.env=pure true) :
  PS X (.Assign [.Name x p] (.ListComp jT gens sc pos) Qb) (kD X F Φ (.asg (.nm i) (.comp n t caps J es bR elt))):=by
 intro pins s σ H D I j;obtain⟨R,τ,ρ,r,Si,M,j⟩:=j;obtain⟨r1,E,M⟩:=aJ M;obtain⟨ρ',u,M⟩:=aJ M;cases M;have E:bd (bz Φ (.comp n t caps J es bR elt) ρ) (λd=>ok (keep (.comp n t caps J es bR elt) d ρ))=ok r1:=E;obtain⟨d,ed,E⟩:=aJ E;cases E;have hg:=Cv L hn;rw[exec_Assign_Name_used _ _ _ _ MI];refine aaa (wpAny_standAt (aaa ?_));obtain⟨⟨e0,g0,s0⟩,Y,DF⟩:=bF he;cases Y;obtain⟨⟨target,iter,y,a⟩,Xb,c⟩:=bF DF;obtain rfl:gens=_:=cO Xb;obtain⟨c,h6⟩:=aM c;obtain⟨c,h5⟩:=aM c;obtain⟨c,h4⟩:=aM c;obtain⟨c,h3⟩:=aM c;obtain⟨c,h2⟩:=aM c;obtain⟨c,h1⟩:=aM c;obtain rfl:a=0:=aab c;have hC:=vk (aab h3) h4 (λ(X':Cx) (F':ai) (L':Lk X' (S.inner target caps sc) k Φ)=>je bR X' _ F' L' y h4);have W:wpAny (model X.prog X.w) X.A (comprehension (.ListComp jT [⟨target,iter,y,0⟩] sc pos) sc X.env (firstIterPos [⟨target,iter,y,0⟩] pos) (newList []) false (eval iter X.env) (some (assign (.Name x p) X.env))) (λ_ O=>SP X pins D .next O) X.xe s:=by
  refine vm (F:=F) (k:=k) L.toLk (q_ h1) h2 (λX' F' L'=>(gz (F:=F') L' elt jT h5).1) hC ?_ (use:=some (assign (.Name x p) X.env)) (Post:=λ_ O=>SP X pins D .next O) I Si ed ?_
  ·exact Dz L.toLk (λl=>nP (F:=F) L.toLk es l) (λl=>je es X S F L.toLk l) (λl=>kN L.toLk es l) h6
  ·intro g C H1 N m Ba hc IX sm rt;obtain⟨c1,c2,c3,c4,c5⟩:=hc;obtain⟨R',τ',hR,fW,rk⟩:=J9 (e:=.comp n t caps J es bR elt) Si sm rt;have I1:Inv X pins σ H1 N:=IX N.heap (.refl ..);obtain⟨U,esC,epC,hoC,Z1,Z⟩:=Ba;have cfs:C∉X.fs:=λz=>by
    obtain⟨_,o,ho,_⟩:=I1.ok.kg.mem z;exact absurd (aaG (aaj ho) c2) (aaO _)
   have I2:Inv X ((C,U)::pins) σ H1 N:=I1.jE λq j=>by
    rcases List.mem_cons.mp j with rfl|j
    ·exact⟨hoC,c5,c1,cfs,λv z=>by rw[Z1]at z;cases z⟩
    ·exact I1.pin q (aan _ j)
   simp only[cB]at u;split at u
   ·rename_i hi;cases u;obtain⟨V,vF⟩:=fW.set rk hi;show wpAny _ _ (assign (.Name x p) X.env (.ref g)) _ _ _;refine aaL (hg ((C,U)::pins) N σ H1 (.ref g) (.ref g) (λB H'=>B=σ.set i (some (.ref g))/\H'=H1) I2 rfl ⟨rfl,rfl⟩) (λ_ s2 h2=>?_) λ_ _ z=>z;obtain⟨B,H',I3,rfl,rfl⟩:=h2;have hC3:=(I3.pin (C,U) (aan _ aaf)).1;refine⟨m,⟨U,esC,epC,hC3,Z1,Z⟩,λh' A8=>?_⟩;have I4:Inv X pins (σ.set i (some (.ref g))) H' s2:=I3.jE λq j=>I3.pin q (aan _ (aad _ j));have I5:=I4.turned (t':=s2.toks) (h':=h') (it:=C) (λb o hb e=>(A8.2 b hb).trans e) c5 c1 (.inr c2) c3 c4;exact⟨_,H',I5,j _ H' R' V vF (Kp.of sm hR)⟩
   ·cases u
 exact aaa (aaL W (λ_ O h=>aac (aac h)) λ_ _ z=>z)
theorem Lr(L:nI X S k Φ){e:CE}{v:Expr}(he:cq S e v=true):PS X (.Return (some v) pos) (kD X F Φ (.ret e)):=by
 refine PS.imp (r6 (rN (F:=F) L.toLk e v he)) λD σ H a=>?_;obtain⟨R,τ,ρ,r,i,b,a⟩:=a;obtain⟨r1,d,b⟩:=aJ b;cases b;exact⟨R,τ,ρ,r1,i,d,λv H' R' τ' es hR c g=>a v H' c.same (g.ret c)⟩
theorem Qa(L:nI X S k Φ){e:CE}{v:Expr}(he:cq S e v=true)(i:jl v=false):PS X (.Expr v pos) (kD X F Φ (.ex e)):=by
 refine PS.imp (iq (gz (F:=F) L.toLk e v he).1 (pO he i _ _ _)) λD σ H a=>?_;obtain⟨R,τ,ρ,r,c,b,a⟩:=a;obtain⟨d,g,b⟩:=aJ b;cases b;exact tD.intro c g λv H' es j=>a σ H' R τ (c.go es) (Kp.of es λ_ h=>h)
theorem m8.from{D:Ends}{R:Addr->Prop}{H:Hp}{r:Fo×bo}(h:m8 X F D R H r)(c:Kp R H R1 H1):m8 X F D R1 H1 r:=by
 obtain⟨e,b⟩:=r;cases e with
 |nx=>exact λa H' R' τ' g k2=>h a H' R' τ' g (c.trans k2)
 |rt d=>exact h
theorem P_(L:nI X S k Φ){c:CE}{a b:aj}{t:Expr}{x y:aO}(i:cq S c t=true)(l:iY X x (qc X F Φ a))(j:iY X y (qc X F Φ b)):PS X (.If t x y pos) (kD X F Φ (.ifs c a b)):=by
 refine PS.imp (Cn (gz (F:=F) L.toLk c t i).2 l j) λD σ H e=>?_;obtain⟨R,τ,ρ,r,g,d,e⟩:=e;obtain⟨w,m,d⟩:=aJ d;refine⟨R,τ,ρ,w,g,m,λH1 e1=>?_⟩;cases w with
 |true=>rw[if_pos rfl]at d ⊢;exact⟨R,τ,ρ,r,g.go e1,d,e.from (Kp.of e1 λ_ h=>h)⟩
 |false=>rw[if_neg (by simp)]at d ⊢;exact⟨R,τ,ρ,r,g.go e1,d,e.from (Kp.of e1 λ_ h=>h)⟩
theorem BK(L:nI X S k Φ){c:CE}{b:aj}{t:Expr}{x:aO}(y:cq S c t=true)(z:iY X x (qc X F Φ b)):PS X (.While t x [] pos) (kD X F Φ (.KZ c b)):=by
 refine PS.imp (Ck L.px (gz (F:=F) L.toLk c t y).2 z) λD σ H l=>?_;obtain⟨R,τ,ρ,r,M,I,l⟩:=l;obtain⟨n,v⟩:=l0 I;refine⟨λm a H'=>∃R' τ' e,SI X F R' τ' e a H'/\Kp R H R' H'/\dk m _ e=ok r,⟨n,R,τ,ρ,M,Kp.refl R H,v⟩,?_⟩;rintro m p H1 ⟨R1,g,j,q,k1,e1⟩;cases m with
 |zero=>simp[dk]at e1
 |succ m =>
  rw[dk]at e1;obtain⟨st,es,e1⟩:=aJ e1;obtain⟨w,E,es⟩:=aJ es;refine⟨R1,g,j,w,q,E,λH2 e2=>?_⟩;cases w with
  |false =>
   rw[if_neg (by simp)]at es ⊢;cases es;cases e1;exact l p H2 R1 g (q.go e2) (k1.trans (Kp.of e2 λ_ h=>h))
  |true =>
   rw[if_pos rfl]at es ⊢;obtain⟨⟨s,i⟩,J,es⟩:=aJ es;refine⟨λa H'=>∃R' τ' e,SI X F R' τ' e a H'/\Kp R H R' H'/\dk m _ e=ok r,λa H' h=>⟨m,abf m,h⟩,R1,g,j,(s,i),q.go e2,J,?_⟩;have k2:Kp R H R1 H2:=k1.trans (Kp.of e2 λ_ h=>h);cases s with
   |nx=>cases es;exact λa H' R' τ' B u=>⟨R',τ',i,B,k2.trans u,e1⟩
   |rt d=>cases es;cases e1;exact l
def lM(X:Cx)(F:ai)(Φ:bh)(t:Tg)(b:aj)(R1:ai)(H1:Hp)(r:Fo×bo)(items:List DI.D)(i:Nat)(σ:St)(H:Hp):Prop :=
 ∃R' τ' a,SI X F R' τ' a σ H/\Kp R1 H1 R' H/\dE (λd ρ=>cB t d ρ) (λρ=>bK Φ b ρ) (items.drop i) a=ok r
theorem pq{g:TG}{t:Tg}{b:aj}{D:Ends}{r:Fo×bo}{items:List DI.D}{q:bt}
  (Y:∀(v:V) (σ:St) (H:Hp) (Q:St->Hp->Prop) (R:ai) (τ:Addr->Option bt) (ρ a:bo) (d:DI.D),SI X F R τ ρ σ H->js X R τ H v d->cB t d ρ=ok a->(∀c τ',SI X F R τ' a c H->Q c H)->g v σ H Q)
  (E:aI (a_ X.K H1) (nd X.K R1 (λ_=>False) (λ_=>none) H1) q 0 xs items) (M:m8 X F D R1 H1 r) (i:Nat) (x:V) (σ:St) (H:Hp) (L:xs[i]?=some x) (h:lM X F Φ t b R1 H1 r items i σ H) :
  g x σ H λp H2=>qc X F Φ b { D with nx:=lM X F Φ t b R1 H1 r items (i+1),ct:=lM X F Φ t b R1 H1 r items (i+1),bk:=D.nx } p H2:=by
 obtain⟨R',τ',a,O,s,e⟩:=h;obtain⟨d,hd,I⟩:=E.AG L;have m:i<items.length:=by
  by_cases m:i<items.length
  ·exact m
  ·rw[List.getElem?_eq_none (by left)]at hd;cases hd
 have B:items.drop i=d::items.drop (i+1):=by
  rw[List.drop_eq_getElem_cons m];rw[List.getElem?_eq_getElem m]at hd;cases hd;rfl
 rw[B,dE]at e;obtain⟨l,e1,e⟩:=aJ e;obtain⟨⟨u,j⟩,e2,e⟩:=aJ e;refine Y x σ H _ R' τ' a l d O (nU (Rep.sA (s.rep I))) e1 λc z N=>⟨R',z,l,(u,j),N,e2,?_⟩
 cases u with
 |nx=>exact λy Z U n W J=>⟨U,n,j,W,s.trans J,e⟩
 |rt d=>cases e;exact M
theorem n6{t:Tg}{b:aj}{D:Ends}{r:Fo×bo}{items:List DI.D}{n:Nat}(g:n=items.length)(e:m8 X F D R1 H1 r)(σ:St)(H:Hp)(h:lM X F Φ t b R1 H1 r items n σ H):D.nx σ H:=by
 obtain⟨R',τ',c,i,d,a⟩:=h;subst g;rw[List.drop_length,dE]at a;cases a;exact e σ H R' τ' i d
theorem y6(ρ:bo):jY [] ρ=ρ:=by
 unfold jY;apply acM;intro i;rw[List.getElem?_mapIdx];cases ρ[i]? with
 |none=>rfl
 |some o=>simp
theorem y9{R:ai}{H:Hp}{v:V}{d:DI.D}(b:SI X F R τ ρ σ H)(es:aL H H')(r:cI X.K (gP X F) R τ fv H H' v d):
  ∃R' τ',(∀p,R p->R' p)/\SI X F R' τ' (if aV bW d then jY fv ρ else ρ) σ H'/\Rep (a_ X.K H') (nd X.K R' (λ_=>False) (λ_=>none) H') [] v (aR aZ d):=by
 by_cases a:aV bW d=true
 ·rw[if_pos a];exact sO b es r
 ·rw[if_neg a];have e:cI X.K (gP X F) R τ [] H H' v d:=by
   obtain⟨τt,i,c⟩:=r;exact⟨τt,i,Rep.kG (P:=bW) (λ_ _ h=>h) (λk p xs f g h=>by
    cases f with
    |ow=>exact h
    |fz=>exact h
    |al=>cases g
    |sc=>exact h) c (by simpa using a)⟩
  have:=sO b es e;rw[y6]at this;exact this
theorem Eb{R:ai}{H:Hp}{ds:List DI.D}(b:SI X F R τ ρ σ H)(es:aL H H')(r:cN X.K (gP X F) R τ fv H H' vs ds):
  ∃R' τ',(∀p,R p->R' p)/\SI X F R' τ' (if aP bW ds then jY fv ρ else ρ) σ H'/\aI (a_ X.K H') (nd X.K R' (λ_=>False) (λ_=>none) H') [] 0 vs (aA aZ ds):=by
 by_cases a:aP bW ds=true
 ·rw[if_pos a];exact uW b es r
 ·rw[if_neg a];have d:cN X.K (gP X F) R τ [] H H' vs ds:=by
   obtain⟨τt,g,c⟩:=r;exact⟨τt,g,aI.kG (P:=bW) (λ_ _ h=>h) (λk p xs f e h=>by
    cases f with
    |ow=>exact h
    |fz=>exact h
    |al=>cases e
    |sc=>exact h) c (by simpa using a)⟩
  have:=uW b es d;rw[y6]at this;exact this
def wiP(X:Cx)(F:ai)(Φ:bh)(p:Nat)(cs:aH):TI:=λσ H a=>∃R τ ρ xs d items,SI X F R τ ρ σ H/\b0 Φ cs ρ=ok xs/\Φ p xs=ok d/\ub d=ok items /\
 ∀J H2 vs,aL H H2->cN X.K (gP X F) R τ (dX cs) H H2 vs xs->Td X.K J H2 vs xs items->a J H2
theorem Gv(L:nI X S k Φ){t:Tg}{p:Nat}{b:aj}{x:aO}(ht:sU S t tg=true)(hi:S.px.pi p S.sc S.bl iter=some args)(hc:bO S cs args=true)(yS:T9 iter=true)(V:(decide (1100<=p)||jk tg)=true)(hb:iY X x (qc X F Φ b)):PS X (.For tg iter x [] pos) (kD X F Φ (.fr t (.LW p cs) b)):=by
 obtain⟨g,hg,Az⟩:=BF (F:=F) L ht;have o8:∀y,foldedSetIterable iter X.env y=pure y:=by
  intro y;cases iter<;>first|rfl | (cases yS;done)
 have pi:PI X tg iter (wiP X F Φ p cs):=λpins s σ H Rr I ⟨R,τ,ρ,xs,d,items,B,cM,Z,e,hR⟩ =>
  L.pr.i X _ _ k L.toLk.pX p iter args hi F cs tg V (kN L.toLk cs args hc) pins s σ H R τ ρ xs d items I B cM Z e Rr hR
 refine PS.imp (r9 L.px L.calm pi hg hb o8) λD σ H W=>?_;obtain⟨R,τ,ρ,r,B,ev,W⟩:=W;obtain⟨⟨items,ρ1⟩,e,ef⟩:=aJ ev;obtain⟨xs,cM,e⟩:=aJ e;obtain⟨d,Z,e⟩:=aJ e;obtain⟨We,Y,e⟩:=aJ e;cases e;refine⟨R,τ,ρ,xs,d,items,B,cM,Z,Y,λJ H2 vs e2 GI O=>?_⟩;obtain⟨R',τ',hR,fW,rs⟩:=Eb B e2 GI;have Av:=W.from (Kp.of e2 hR);refine⟨λi m c H'=>m=items.length - i/\i<=items.length/\lM X F Φ t b R' H2 r items i c H',⟨_,rfl,aaZ _,R',τ',_,fW,Kp.refl R' H2,by rw[List.drop_zero];exact ef⟩,?_⟩;rintro i m j H1 ⟨rfl,OJ,hf⟩;obtain⟨R1,M,N,mG,k1,e1⟩:=id hf;have LJ:=k1.VO rs;have U:vE X.K H2 vs xs H1:=⟨⟨R',rs,k1.l⟩,λa ys h=>k1.TM h⟩
 by_cases z:i<items.length
 ·refine .inr ⟨O.go i H1 R1 U LJ z,λc H'=>lM X F Φ t b R' H2 r items (i+1) c H',λc H' h=>⟨items.length - (i+1),by left,rfl,z,h⟩,λv H3 hy=>?_⟩;obtain⟨e3,dd,hd,rd⟩:=O.vN i H1 R1 v H3 U LJ z hy;have uR:items.drop i=dd::items.drop (i+1):=by
   rw[List.drop_eq_getElem_cons z];rw[List.getElem?_eq_getElem z]at hd;cases hd;rfl
  rw[uR,dE]at e1;obtain⟨u,eb,e1⟩:=aJ e1;obtain⟨⟨fo,q⟩,e4,e1⟩:=aJ e1;have k3:Kp R' H2 R1 H3:=k1.trans (Kp.of e3 λ_ h=>h);refine Az v j H3 _ R1 M N u dd (mG.go e3) (nU rd) eb λc vY Fg=>⟨R1,vY,u,(fo,q),Fg,e4,?_⟩
  cases fo with
  |nx=>exact λσ3 H4 R3 E Ob k4=>⟨R3,E,q,Ob,k3.trans k4,e1⟩
  |rt d=>cases e1;exact Av
 ·exact .inl ⟨O.stop i H1 R1 U LJ (by left),n6 (n:=i) (by left) Av j H1 hf⟩
theorem aI.ints{T:nF}{N:h_}:∀(is:ae) {k:bt} {n:Nat},aI T N k n (is.map V.int) (is.map DI.D.int)
 |[],_,_=>.nil
 |i::is,_,_=>.cons (.int i) (aI.ints is)
set_option tactic.hygienic true in
theorem Lu(L:nI X S k Φ){t:Tg}{it:CI}{b:aj}{x:aO}(ht:sU S t tg=true)(B:SM S it iter=true)(hnp:(jk tg||CO it)=true)(Y:iY X x (qc X F Φ b)):PS X (.For tg iter x [] pos) (kD X F Φ (.fr t it b)):=by
 obtain⟨g,hg,Az⟩:=BF (F:=F) L ht;have o8:∀y,foldedSetIterable iter X.env y=pure y:=by
  intro y;cases iter<;>first|rfl | (cases it<;>first|exact(aae B).elim|exact(aae (aM B).2).elim)
 have lY:∀{lo:Int} {n:Nat} {D:Ends} {R:ai} {τ:Addr->Option bt} {ρ:bo} {σ:St} {H H1:Hp} {r:Fo×bo},SI X F R τ ρ σ H->aL H H1->m8 X F D R H r ->
   dE (λd ρ=>cB t d ρ) (λρ=>bK Φ b ρ) ((List.range n).map λ(k:Nat)=>DI.D.int (lo+(k:Int))) ρ=ok r ->
   ∃W:Nat->Nat->L2.St->Hp->Prop,(∃m,W 0 m σ H1)/\∀i m σ H,W i m σ H ->
    ((Bk lo n).stop i H/\D.nx σ H)\/((Bk lo n).go i H/\∃N:L2.St->Hp->Prop,(∀c H',N c H'->∃m',m'<m/\W (i+1) m' c H')/\∀x H',(Bk lo n).vN i H x H'->g x σ H' λσ2 H2=>qc X F Φ b { D with nx:=N,ct:=N,bk:=D.nx } σ2 H2):=by
  intro lo n D R τ ρ σ H H1 r l e1 u E;have q:aI (a_ X.K H1) (nd X.K R (λ_=>False) (λ_=>none) H1) [] 0 ((List.range n).map λ(k:Nat)=>V.int (lo+(k:Int))) ((List.range n).map λ(k:Nat)=>DI.D.int (lo+(k:Int))):=by
   have:=aI.ints (T:=a_ X.K H1) (N:=nd X.K R (λ_=>False) (λ_=>none) H1) ((List.range n).map λ(k:Nat)=>lo+(k:Int)) (k:=[]) (n:=0);rw[List.map_map,List.map_map]at this;exact this
  have z:=u.from (Kp.of e1 (R':=R) λ_ h=>h);refine AI (lM X F Φ t b R H1 r _) ⟨R,τ,ρ,l.go e1,Kp.refl R H1,by rw[List.drop_zero];exact E⟩ (λi c H' W7 h=>?_) (λc H' h=>n6 (by simp) z c H' h);exact pq Az q z i (.int (lo+i)) c H' (by rw[List.getElem?_map,List.getElem?_range W7];rfl) h
 intro pins s σ H D I WE;cases it with
 |LW p cs =>
  obtain⟨yS,hz⟩:=aM B;obtain⟨args,ha,OC⟩:=bF hz;exact Gv L ht ha OC yS (by rw[Bool.or_comm];exact hnp) Y pins s σ H D I WE
 |lY a =>
  obtain⟨R,τ,ρ,r,l,U,u⟩:=WE;obtain⟨⟨items,ρ1⟩,j,E⟩:=aJ U;obtain⟨⟨y,as⟩,hv,hz⟩:=bF B;obtain⟨p,MA,rfl⟩:=cY hv;obtain⟨ZI,OC⟩:=aM hz;obtain⟨hz3,h2⟩:=aM ZI;obtain⟨hz4,h1⟩:=aM hz3;obtain rfl:y=_:=aab hz4;obtain⟨e,hu,h3⟩:=bF OC;obtain rfl:as=[e]:=cO hu;have pa:PA X [e] (tT X F Φ [a]):=PA.imp (cc (gz (F:=F) L.toLk a e h3).1 dB (b_ h3 _ _)) λ_ _ _ h=>by
   have:=jc h;obtain⟨R,τ,ρ,d,l,U,u⟩:=this;exact⟨R,τ,ρ,d,l,U,λv H' e r=>nM (u v H' e r)⟩
  refine r9 L.px L.calm (qM (L.gl h1) (L.bl _ (aab h2)) pa (b_ h3 _ _)) hg Y o8 pins s σ H D I ?_;obtain⟨d,Z,j⟩:=aJ j;cases d<;>try (simp at j;done)
  rename_i n;simp at j;obtain⟨⟨c1,c2⟩,rfl,rfl⟩:=j;have sJ:(dz:Int)=1000000:=rfl;refine⟨R,τ,ρ,[.int n],l,by show bd (bz Φ a ρ) _=_;rw[Z];rfl,λvs H1 e1 J=>?_⟩;obtain⟨τt,fr,q⟩:=J;cases q.ints1
  ·refine⟨n,rfl,by left,by left,?_⟩;refine lY (lo:=0) l e1 u ?_;simpa using E
 |seq a =>
  obtain⟨R,τ,ρ,r,l,U,u⟩:=WE;obtain⟨⟨items,ρ1⟩,j,E⟩:=aJ U;replace B:=aM B;obtain⟨d,Z,j⟩:=aJ j;have pe:=(gz (F:=F) L.toLk a iter B.1).1;cases d<;>try (simp at j;done)
  ·rename_i ds;simp at j;obtain⟨rfl,rfl⟩:=j;refine r9 L.px L.calm (Cu pe) hg Y o8 pins s σ H D I (tD.intro l Z λv H1 e1 J=>?_);obtain⟨R',τ',hR,fW,M⟩:=y9 l e1 J;rw[aR]at M;cases M with
   | @tup _ p xs _ O q =>
    have z:=u.from (Kp.of e1 hR);refine⟨p,rfl,⟨xs,O⟩,Ik (xs:=xs) (lM X F Φ t b R' H1 r (aA aZ ds)) ⟨R',τ',_,fW,Kp.refl R' H1,by rw[List.drop_zero];exact E⟩ (λi c H' _ h=>?_) (λi x c H' hx h=>pq Az q z i x c H' hx h) (λc H' h=>n6 (q.length) z c H' h)⟩;obtain⟨R2,τ2,ρ2,_,kp,_⟩:=h;exact kp.TM O
  ·rename_i f ds;simp at j;obtain⟨rfl,rfl⟩:=j;refine r9 L.px L.calm (yt pe) hg Y o8 pins s σ H D I (tD.intro l Z λv H1 e1 J=>?_);obtain⟨R',τ',hR,fW,M⟩:=y9 l e1 J;rw[aR]at M;obtain⟨p,xs,rfl,O,q⟩:=M.tH;have z:=u.from (Kp.of e1 hR);refine⟨p,rfl,⟨xs,O.sq⟩,Ec (xs:=xs) (lM X F Φ t b R' H1 r (aA aZ ds)) ⟨R',τ',_,fW,Kp.refl R' H1,by rw[List.drop_zero];exact E⟩ (λi c H' _ h=>?_) (λi x c H' hx h=>pq Az q z i x c H' hx h) (λc H' h=>n6 (q.length) z c H' h)⟩;obtain⟨R2,τ2,ρ2,_,kp,_⟩:=h;exact(kp.nd O).sq
theorem kf{R:Addr->Prop}{b:bo}{H:Hp}{p:Addr}{q:bt}{n:Nd}{o:HO}(j:SI X F R' τ' b σ H1)(es:aL H H1)(hR:∀p,R p->R' p)(g:eG H1 p n)(c:τ' p=some q):Kp R H R' (upd H1 p o):=by
 obtain⟨s,d,l,m⟩:=eG.some g;exact⟨hR,λa u i e=>by
  have ne:a≠p:=λz=>by subst z;rw[j.rt _ (hR _ i)]at c;cases c
  rw[bq ne];exact es _ _ e,λa r e=>by
  have e1:=es _ _ e;have ne:a≠p:=λz=>by subst z;rw[d]at e1;cases e1;exact l _ rfl
  rw[bq ne];exact e1,λa o u e=>by
  have e1:=es _ _ e;have ne:a≠p:=λz=>by subst z;rw[d]at e1;cases e1;exact m _ _ rfl
  rw[bq ne];exact e1⟩
set_option tactic.hygienic true in
theorem Ug(L:nI X S k Φ){i:Nat}(h:mB S i o=true)(d:∀x p,o=.Name x p->oR x=true):∃x p,o=.Name x p/\X.N[i]?=some x/\L2.Loc X.env.scope x/\PE X o (jP i):=by
 cases o<;>try (exact(aae h).elim;done)
 rename_i x p;have a:=d x p rfl;replace h:=aM h;unfold oR at a;simp only[Bool.and_eq_true,Bool.not_eq_true']at a;have c:X.N[i]?=some x:=by rw[L.N];exact aab h.1
 have b:=L.loc h.2;exact⟨x,p,rfl,c,b,ji c (b.imp id .inl) a.1.1 a.1.2⟩
theorem Ip{e:CE}{r:DI.D×bo}{i:Nat}{ds:List DI.D}(h:jS Φ e ρ=ok r)(a:r.2[i]?=some (some (.lst .ow ds))):ρ[i]?=some (some (.lst .ow ds)):=by
 by_cases c:∃j,e=.v j
 ·obtain⟨j,rfl⟩:=c;simp only[jS]at h;split at h
  ·split at h
   ·cases h;by_cases g:i=j
    ·subst g;rw[List.getElem?_set]at a;simp at a
    ·rw[List.getElem?_set_ne (Ne.symm g)]at a;exact a
   ·cases h;exact a
  ·cases h
 ·have h':bd (bz Φ e ρ) (λd=>ok (keep e d ρ))=ok r:=by
   cases e<;>first|exact h|exact absurd ⟨_,rfl⟩ c
  obtain⟨d,_,m⟩:=aJ h';cases m;unfold keep at a;split at a
  ·obtain⟨n,l,b⟩:=y7 _ _ _ _ a;split at b
   ·cases n<;>simp[aR]at b;rename_i f ds';cases f<;>simp[aZ]at b
   ·rw[b];exact l
  ·exact a
set_option tactic.hygienic true in
theorem Lw(L:nI X S k Φ){i:Nat}{e:CE}{x:Str}{v:Expr}{p p1 p2:Pos}(Z:mB S i (.Name x p)=true)(Y:oR x=true)(he:cq S e v=true)(V:(p1.endLine==p2.line)=true):PS X (.Expr (.Call (.Attribute (.Name x p) ("append" : Str) p1) [v] [] p2) pos) (kD X F Φ (.app i e)):=by
 obtain⟨_,_,z,hN,hl,W⟩:=Ug L Z (λy q e=>by cases e;exact Y);cases z;refine PS.imp (iq (CD abI ab7 PySem.F.type_list_append qP W (cc (rN (F:=F) L.toLk e v he) dB (b_ he _ _)) (hfew:=by rw[b_ he];rfl) (hline:=V) (hs:=b_ he _ _))) λD σ H t=>?_;obtain⟨R,τ,ρ,r,E,b,t⟩:=t;obtain⟨r1,B,b⟩:=aJ b;split at b
 ·rename_i ds c;split at b
  ·rename_i hc;cases b;have c:=Hj c;obtain⟨a,xs,s,ha,Uk,Wz,_⟩:=E.own (Ip B c);refine⟨.ref a,s,⟨rfl,_,dW.of ha⟩,R,τ,ρ,r1,E,B,λw H1 R1 M es hR j U=>?_⟩;obtain⟨a1,Js,I,u,Wt,J,LJ⟩:=j.own c;rw[s]at I;cases I;have hz:sizeLine=16777216:=abr;have sJ:dz=1000000:=rfl;refine⟨a,Js,w,rfl,rfl,u,by left,?_⟩;obtain⟨d,N⟩:=j.put (m:=ds.length) (g:=λys=>ys++[w]) c s u J LJ U λO r=>aI.yf O (by simpa using r);exact t σ _ R1 d N (kf (n:=.l _) j es hR u J)
  ·cases b
 ·cases b
theorem Lv(L:nI X S k Φ){i:Nat}{b:Bool}{e:CE}{x:Str}{v:Expr}{p:Pos}(J:mB S i (.Name x p)=true)(I:oR x=true)(he:cq S e v=true):PS X (.AugAssign (.Name x p) (if b then .Add else .Sub) v pos) (kD X F Φ (.aug i b e)):=by
 obtain⟨_,_,z,O,M,V⟩:=Ug L J (λy q e=>by cases e;exact I);cases z;have B:Tr X (if b then .Add else .Sub) (Wl λy z=>if b then y+z else y - z):=by
  cases b
  ·exact MB
  ·exact MD
 refine PS.imp (Cp L.nd O M (gz (F:=F) L.toLk e v he).1 B (.inl (L.fnT _))) λD σ H j=>?_;obtain⟨R,τ,ρ,r,m,c,j⟩:=j;obtain⟨n,en,c⟩:=aJ c;obtain⟨d,U,en⟩:=aJ en;have en:=HJ en;subst en;split at c
 ·rename_i a l;cases c;obtain⟨w,hw,E⟩:=m.rep i _ l;cases E;have N:i<ρ.length:=by
   by_cases z:i<ρ.length
   ·exact z
   ·rw[List.getElem?_eq_none (by left)]at l;cases l
  refine⟨_,hw,tD.intro m U λu H1 e1 s=>?_⟩;cases s.isInt;refine⟨_,_,rfl,rfl,?_⟩;obtain⟨g,t⟩:=(m.go e1).set (i:=i) (v:=.int (if b then a+n else a - n)) (d:=.int (if b then a+n else a - n)) ⟨λ_=>none,λ_ _ h=>by simp at h,.int _⟩ N;exact j _ H1 R g t (Kp.of e1 λ_ h=>h)
 ·cases c
end
section
variable {X:Cx}{S:Sx}{k:Nat}{F:ai}{Φ:bh}
theorem LU(x:Str)(p:Pos):(Expr.Name x p).pos=p:=rfl
theorem wq{x y:Str}{px c pt u:Pos}{l:Nat}{a b:Expr}(q:env.scope.kind=.function)(n:env.scope.names.lookup x=some .local)(m:env.scope.names.lookup y=some .local)(g:x≠y)(p:px.line=c.line)
  (t:[a,b].all (foldedForSure 8)=false) (s:[a,b].all (constantsAlone 8)=false) (d:([a,b].any λe=>match e with|.Starred ..=>true|_=>false)=false) :
  swappedStores [.Tuple [.Name x px,.Name y c] l pt] (.Tuple [a,b] k2 u) env=pure (some [x,y]):=by
 have r:env.blockKind=.function:=by unfold Env.blockKind;rw[q];rfl
 have j:env.kindOf x=some .local:=n;have i:env.kindOf y=some .local:=m;have e1:([x,y].eraseDups.length != [x,y].length)=false:=by
  have:¬ (y==x)=true:=by simp;exact λz=>g z.symm
  have h':(y==x)=false:=by simpa using this
  simp[List.eraseDups_cons,List.filter,h',g]
 unfold swappedStores;simp only[r,d,List.filterMap_cons,List.filterMap_nil,j,i,p,LU,List.head?_cons,Option.map_some,Option.getD_some,t,s];simp only[beq_self_eq_true,Bool.and_self,if_true];rw[if_neg (by simp)];refine(acQ ?_).trans ?_
 ·intro z;exact aae (d.symm.trans z)
 rw[if_neg (by
  rw[e1];simp),if_neg Bool.false_ne_true,if_neg Bool.false_ne_true]
theorem oJ{R:Addr->Prop}{H:Hp}{a:bt}{v:V}{d:DI.D}(h:Rep (a_ X.K H) (nd X.K R A τ H) a v d)(hf:aV anyF d=false):js X R' τ' H v d :=
 ⟨λ_=>none,λ_ _ h=>by simp at h,Rep.without (P:=anyF) (λ_ _ h=>h) (λk k' p xs f hf h=>by cases hf) h hf _⟩
theorem Ls(L:nI X S k Φ){i j:Nat}{a b:CE}{v:Expr}(he:cq S (.tup [a,b]) v=true)(hp:EK S i j tg v=true):PS X (.Assign [tg] v pos) (kD X F Φ (.par i j a b)):=by
 obtain⟨ts,MG,q1⟩:=bF hp;obtain⟨kt,pt,rfl⟩:=jx MG;obtain⟨⟨t1,t2⟩,q,q2⟩:=bF q1;obtain rfl:ts=[t1,t2]:=gx q;obtain⟨⟨x,px⟩,p,q3⟩:=bF q2;obtain rfl:t1=_:=xQ p;obtain⟨⟨y,py⟩,n,q4⟩:=bF q3;obtain rfl:t2=_:=xQ n;obtain⟨vs,m,q5⟩:=bF q4;obtain⟨k2,Om,rfl⟩:=jx m;obtain⟨⟨W,V⟩,l,q6⟩:=bF q5;obtain rfl:vs=[W,V]:=gx l
 ·obtain⟨q7,U⟩:=aM q6;obtain⟨q8,t⟩:=aM q7;obtain⟨q9,u⟩:=aM q8;obtain⟨VU,z⟩:=aM q9;obtain⟨Cg,B⟩:=aM VU;obtain⟨Cf,d⟩:=aM Cg;obtain⟨Ce,e⟩:=aM Cf;obtain⟨Cd,E⟩:=aM Ce;obtain⟨J,I⟩:=aM Cd;replace J:S.N[i]?=some x:=aab J;replace I:S.N[j]?=some y:=aab I;replace E:=aab E;replace e:=aab e;replace d:=aab d;replace B:=aab B;replace z:=aab z;replace u:=fI u;replace t:=fI t;replace U:=aab U;replace he:=aM he;have pa:=nP (F:=F) L.toLk [a,b] [W,V] he.1;refine PS.imp (LR L.calm L.nd (by rw[L.N];exact J) (by rw[L.N];exact I) E (by rw[L.sc];exact e) (by rw[L.sc];exact d) pa (wq (by rw[L.sc];exact L.fk) (by rw[L.sc];exact e) (by rw[L.sc];exact d) B z u t U)) λD σ H s=>?_;obtain⟨R,τ,ρ,r,Y,c,s⟩:=s;obtain⟨d1,O,c⟩:=aJ c;obtain⟨d2,M,c⟩:=aJ c;simp only[Kc]at c;obtain⟨⟨f1,f2,l1,l2⟩,rfl⟩:=c;refine⟨R,τ,ρ,[d1,d2],Y,by show bd (bz Φ a ρ) _=_;rw[O];show bd (bd (bz Φ b ρ) _) _=_;rw[M];rfl,λvs H1 e1 rv=>?_⟩;obtain⟨τt,fr,rs⟩:=rv;obtain⟨v1,v2,rfl,r1,r2⟩:=rs.two
  ·obtain⟨Z,S1⟩:=(Y.go e1).set (i:=i) (oJ r1 f1) l1;obtain⟨g,S2⟩:=S1.set (i:=j) (oJ r2 f2) (by simpa using l2);exact⟨v1,v2,rfl,s _ H1 R g S2 (Kp.of e1 λ_ h=>h)⟩
mutual
theorem BN(L:nI X S k Φ):∀(c:CS) (st:Stmt),SJ S c st=true->PS X st (kD X F Φ c)
 |.asg t e,st,h=>by
  obtain⟨⟨O,v⟩,v1,q1⟩:=bF h;obtain⟨pos,rfl⟩:=nJ v1;obtain⟨tg,v2,l⟩:=bF q1;obtain rfl:O=[tg]:=cO v2;obtain⟨B,u⟩:=aM l;obtain⟨I,s⟩:=aM B;obtain⟨g,n⟩:=aM I;have g:cq S e v=true:=g;replace s:(isTup v&&isTup tg)=false:=fI s;cases Z:jl v with
  |false=>exact BM L g n s (pO g Z _ _ _)
  |true =>
   have u:(!jl v||isNm tg)=true:=u;rw[Z]at u;obtain⟨x,p,rfl⟩:=kZ u;obtain⟨jT,gens,sc,Pm,rfl⟩:=Am Z;cases e<;>try (exact(aae g).elim)
   cases t with
   |tp is=>exact(aae n).elim
   |nm i =>
    cases hb:Vt S (.Name x p) (.ListComp jT gens sc Pm)with
    |true=>exact Gw L g n (by rw[JA L,hb])
    |false=>exact BM L g n s (by
      show swapsWith (.ListComp jT gens sc Pm) (some (.Name x p)) pos.line X.env=_;rw[JA L,hb])
 |.par i j a b,st,h=>by
  obtain⟨⟨O,v⟩,v1,q1⟩:=bF h;obtain⟨pos,rfl⟩:=nJ v1;obtain⟨tg,v2,l⟩:=bF q1;obtain rfl:O=[tg]:=cO v2;exact Ls L (aM l).1 (aM l).2
 |.ret e,st,h=>by
  obtain⟨z,v1,q1⟩:=bF h;obtain⟨pos,rfl⟩:=F3 v1;obtain⟨v,v2,l⟩:=bF q1;obtain rfl:z=some v:=v2;exact Lr L l
 |.rs c,st,h=>λ_ _ _ _ _ _ cg=>by obtain⟨R,τ,ρ,r,V,E,J⟩:=cg;cases E
 |.ex e,st,h=>by
  obtain⟨v,v1,q1⟩:=bF h;obtain⟨pos,rfl⟩:=wc v1;exact Qa L (aM q1).1 (fI (aM q1).2)
 |.mut p i es,st,h=>by
  obtain⟨⟨o,args⟩,ha,q1⟩:=bF h;obtain⟨l,s⟩:=aM q1;obtain⟨g,n⟩:=aM l;obtain⟨x,U,rfl,hN,Y,W⟩:=Ug L g (λy q e=>by cases e;exact n);exact L.pm.m X _ _ k L.toLk.pX L.nd L.fnT p st x U args ha i hN Y W F es (kN L.toLk es args s)
 |.mu2 p i k e,st,h=>by
  obtain⟨⟨o,args⟩,ha,q1⟩:=bF h;obtain⟨l,s⟩:=aM q1;obtain⟨g,n⟩:=aM l;obtain⟨x,U,rfl,hN,Y,W⟩:=Ug L g (λy q e=>by cases e;exact n);exact L.pm.m2 X _ _ _ L.toLk.pX L.nd L.fnT p st x U args ha i hN Y W F k e (kN L.toLk [k,e] args s)
 |.unp is e,st,h=>by
  obtain⟨⟨O,v⟩,v1,q1⟩:=bF h;obtain⟨pos,rfl⟩:=nJ v1;obtain⟨tg,v2,l⟩:=bF q1;obtain rfl:O=[tg]:=cO v2;obtain⟨B,u⟩:=aM l;obtain⟨I,s⟩:=aM B;obtain⟨g,n⟩:=aM I;have g:cq S e v=true:=g;replace s:(isTup v&&isTup tg)=false:=fI s;exact Lq L g n s (pO g (fI u) _ _ _)
 |.app i e,st,h=>by
  obtain⟨c,v1,q1⟩:=bF h;obtain⟨pos,rfl⟩:=wc v1;obtain⟨⟨fn,as,ks,p2⟩,v2,l⟩:=bF q1;obtain rfl:c=_:=lS v2;obtain⟨B,I⟩:=aM l;obtain rfl:ks=[]:=k_ B;obtain⟨⟨o,a,p1⟩,v3,q5⟩:=bF I;obtain rfl:fn=_:=oD v3;obtain⟨q6,q7⟩:=aM q5;obtain⟨v,v4,u⟩:=bF q7;obtain rfl:as=[v]:=cO v4;obtain⟨q8,h5⟩:=aM q6;obtain⟨q9,n⟩:=aM q8;obtain⟨VU,g⟩:=aM q9;obtain rfl:a=_:=aab VU;obtain⟨x,p,rfl⟩:∃x p,o=.Name x p:=zr g;exact Lw L g n u h5
 |.aug i op e,st,h=>by
  obtain⟨⟨o,p,v⟩,v1,q1⟩:=bF h;obtain⟨pos,rfl⟩:=xT v1;obtain⟨l,u⟩:=aM q1;obtain⟨B,s⟩:=aM l;obtain⟨g,n⟩:=aM B;obtain rfl:p=_:=aab s;obtain⟨x,U,rfl⟩:∃x p,o=.Name x p:=zr g;exact Lv L g n u
 |.ifs c a b,st,h=>by
  obtain⟨⟨t,x,y⟩,v1,q1⟩:=bF h;obtain⟨pos,rfl⟩:=F4 v1;obtain⟨l,s⟩:=aM q1;obtain⟨g,n⟩:=aM l;exact P_ L g (jA L a _ n) (jA L b _ s)
 |.KZ c b,st,h=>by
  obtain⟨⟨t,x,y⟩,v1,q1⟩:=bF h;obtain⟨pos,rfl⟩:=F2 v1;obtain⟨l,s⟩:=aM q1;obtain⟨g,n⟩:=aM l;obtain rfl:y=[]:=k_ g;exact BK L n (jA L b _ s)
 |.fr t it b,st,h=>by
  obtain⟨⟨tg,iter,x,y⟩,v1,q1⟩:=bF h;obtain⟨pos,rfl⟩:=F5 v1;obtain⟨l,h5⟩:=aM q1;obtain⟨B,u⟩:=aM l;obtain⟨I,s⟩:=aM B;obtain⟨g,n⟩:=aM I;obtain rfl:y=[]:=k_ g;exact Lu L n s u (jA L b _ h5)
theorem jA(L:nI X S k Φ):∀(cs:aj) (N:aO),fq S cs N=true->iY X N (qc X F Φ cs)
 |[],[],_=>iY.imp rY λD σ H cg=>by obtain⟨R,τ,ρ,r,V,E,J⟩:=cg;cases E;exact J σ H R τ V (Kp.refl R H)
 |[],_::_,h=>by exact(aae h).elim
 |_::_,[],h=>by exact(aae h).elim
 |c::cs,st::N,h=>by
  replace h:=aM h;have g:PS X st (kD X F Φ c):=BN L c st h.1;have n:iY X N (qc X F Φ cs):=jA L cs N h.2;refine iY.imp (c_ g n) λD σ H J=>?_;obtain⟨R,τ,ρ,r,V,E,J⟩:=J;obtain⟨⟨fo,M⟩,e1,E⟩:=aJ E;refine⟨R,τ,ρ,(fo,M),V,e1,?_⟩;cases fo with
  |nx=>exact λσ' H' R' τ' fW kp=>⟨R',τ',M,r,fW,E,J.from kp⟩
  |rt d=>cases E;exact J
end
end
variable {mg:Str->Option Value}{ps:ak}{qual:Str}
theorem pv{x:Str}{f:Addr}{b:FuncData}{k:Nat}{N bl:ak}{cs:List (Str×GK)}{px:Px}{fnT:Nat->Option Str}{m:aE}{body:aj}
  (Fu:zN K x qual st f b) (j:eE N ps (aF st)) (U:fq ⟨aF st,N,fnT,bl,cs,px⟩ body (br st)=true) (R:lL px Φ) (MK:Fq px Φ)
  (p8:∀y∈bl,mg y=none) (mP:∀y i,(y,i)∈cs->∃u,mg y=some u/\vK K i u)
  (md:∀g y,fnT g=some y->∃(f:Addr) (b:FuncData) (ps:ak),dq P w K mg base rE k f b ps (A4 K ps.length (Φ g))/\mg y=some (.ref f)/\PySem.W.keepIn K (.ref f)=true/\Binds K b ps []/\∀ds r,Φ g ds=ok r->ds.length=ps.length)
  (hm:∀ds r,m ds=ok r->ds.length=ps.length/\rW Φ N.length body ds=ok r):dq P w K mg base rE (k+1) f b ps (A4 K ps.length m):=by
 refine Fu.ok (N:=N) j (λvs H Q E ⟨_,_,_,h,_⟩=>h) λfc A outer s H vs Q E hr V=>?_;obtain⟨F,ds,r,hl,n,er,t⟩:=V;obtain⟨RJ,e⟩:=hm ds r er
 let X:=(iU rE P w K mg base N qual (aF st) f fc A outer s H E).uu
 have L:nI X ⟨aF st,N,fnT,bl,cs,px⟩ k Φ:=⟨⟨rfl,rfl,j.nd,rfl,hr,p8,λg y h=>⟨md g y h⟩,mP,R⟩,λ_=>rfl,PassesOwn.never,j.kind,MK⟩
 refine⟨qc X F Φ body,jA L body _ U,?_⟩;unfold rW at e;obtain⟨⟨B,l⟩,eb,e⟩:=aJ e;have hpl:ps.length<=N.length:=by have:=aa5 List.length j.pre;rw[List.length_take]at this;left
 have M:vs.length=ds.length:=n.length;refine⟨λp=>F p/\H p≠none,λ_=>none,_,(B,l),⟨?_,λi d a=>?_,λ_ _=>rfl,λp h=>h.2,λp h=>.inl h.1,λ_ _ h=>by simp at h,λ_ _ h=>by simp at h,aL.refl H⟩,eb,?_⟩
 ·unfold L2.start;simp[M]
 ·have J:i<ds.length:=by
   by_cases I:i<ds.length
   ·exact I
   ·rw[List.getElem?_append_right (by simpa using I)]at a;rw[List.getElem?_replicate]at a;split at a<;>simp at a
  rw[List.getElem?_append_left (by simpa using J),List.getElem?_map]at a;have hd:ds[i]?=some d:=by
   cases q:ds[i]? with
   |none=>rw[q]at a;cases a
   |some z=>rw[q]at a;simp at a;rw[a]
  obtain⟨v,hv,Y⟩:=n.get hd;refine⟨v,?_,Y.imp (q:=[0+i]) (q':=[i]) (λ_ _ h=>h) λc p xs f h=>?_⟩
  ·unfold L2.start;rw[List.getElem?_append_left (by rw[List.length_map,M];exact J),List.getElem?_map,hv];rfl
  ·cases f with
   |ow=>exact nomatch h.2
   |fz=>exact⟨h.1,h.2,h.1.ne⟩
   |al=>exact h.2.elim
   |sc=>exact h
 ·cases B with
  |nx =>
   cases e;exact λO H' R' τ' fW kp=>t .cF H' fW.same ⟨λ_=>none,λ_ _ h=>by simp at h,.cF⟩
  |rt d =>
   cases e;exact λv H' es Z=>t v H' es Z
structure Ent(P:aC)(w:World)(K:av)(mg:aU)(base:Heap)(k:Nat)(y:Str)(m:aE):Prop where
 ex:∃(f:Addr) (fd:FuncData) (ps:ak),dq P w K mg base rE k f fd ps (A4 K ps.length m)/\mg y=some (.ref f)/\PySem.W.keepIn K (.ref f)=true/\Binds K fd ps []/\∀ds r,m ds=ok r->ds.length=ps.length
theorem Ent.up{k k':Nat}{y:Str}{m:aE}(h:Ent P w K mg base k y m)(a:k<=k'):Ent P w K mg base k' y m:=by
 obtain⟨f,d,ps,c,b⟩:=h.ex;exact⟨f,d,ps,c.mono a,b⟩
theorem ent{x:Str}{f:Addr}{a:FuncData}{k:Nat}{N bl:ak}{cs:List (Str×GK)}{px:Px}{fnT:Nat->Option Str}{m:aE}{body:aj}
  (c:zN K x qual st f a) (hmg:mg x=some (.ref f)) (p:Binds K a ps []) (q:eE N ps (aF st)) (e:fq ⟨aF st,N,fnT,bl,cs,px⟩ body (br st)=true) (d:lL px Φ) (s:Fq px Φ) (j:∀y∈bl,mg y=none) (n:∀y i,(y,i)∈cs->∃u,mg y=some u/\vK K i u)
  (l:∀g y,fnT g=some y->Ent P w K mg base k y (Φ g)) (b:∀ds r,m ds=ok r->ds.length=ps.length/\rW Φ N.length body ds=ok r):Ent P w K mg base (k+1) x m :=
 ⟨f,a,ps,pv c q e d s j n (λg y h=>(l g y h).ex) b,hmg,c.kp,p,λds r h=>(b ds r h).1⟩
def cw{b:Type}(P:b->Prop):List b->Prop
 |[]=>True
 |a::l=>P a/\cw P l
theorem cw.mem{b:Type}{P:b->Prop}:∀{l:List b},cw P l->∀a∈l,P a
 |[],_,_,h=>by cases h
 |_::_,h,_,hm=>(List.mem_cons.mp hm).elim (λe=>e▸h.1) (cw.mem h.2 _)
theorem cw.tab{c:Type}{P:Nat->c->Prop}:∀{l:List (Nat×c)},cw (λp=>P p.1 p.2) l->∀g y,l.lookup g=some y->P g y
 |[],_,_,_,h=>by cases h
 | (k,b)::l,h,g,y,e=>by
  rw[List.lookup_cons]at e;cases a:g==k with
  |true=>rw[a]at e;cases e;rw[eq_of_beq a];exact h.1
  |false=>rw[a]at e;exact cw.tab h.2 g y e
theorem cw.two{b a:Type}{P:b->a->Prop}{l:List (b×a)}(h:cw (λp=>P p.1 p.2) l)(y:b)(i:a)(c:(y,i)∈l):P y i:=cw.mem h _ c
theorem Q2{b:Type}{l:List b}(h:l.length=1):∃a,l=[a]:=List.length_eq_one_iff.mp h
theorem HB{c:Type}{l:List c}(h:l.length=2):∃a b,l=[a,b]:=by
 cases l with
 |nil=>cases h
 |cons a l=>obtain⟨b,rfl⟩:=Q2 (Nat.succ.inj h);exact⟨a,b,rfl⟩
noncomputable def o5:aa->Option (ae)
 |[]=>some []
 |.int i::ds=>(o5 ds).map (i :: ·)
 |_::_=>none
theorem o4:∀ns:ae,o5 (ns.map D.int)=some ns
 |[]=>rfl
 |n::ns=>by simp[o5,o4 ns]
theorem ur:∀{ds:aa} {ns:ae},o5 ds=some ns->ds=ns.map D.int
 |[],ns,h=>by simp[o5]at h;subst h;rfl
 |d::ds,ns,h=>by
  cases d<;>simp[o5]at h;obtain⟨b,a,rfl⟩:=h;rw[ur a];rfl
def sC:aE
 |[.lst .sc ds]=>match o5 ds with
  |some ns=>if ns.length<=63 then ok (.bl true)else none
  |none=>none
 |_=>none
theorem Hx(h:ns.length<=63):sC [.lst .sc (ns.map D.int)]=ok (.bl true):=by
 simp[sC,o4,h]
set_option tactic.hygienic true in
theorem De{n:Nat}{b:aj}(h:∀ns:ae,ns.length<=63->rW Φ n b [.lst .sc (ns.map D.int)]=ok (.bl true)):∀ds r,sC ds=ok r->ds.length=1/\rW Φ n b ds=ok r:=by
 intro ds r e
 match ds,e with
 |[.lst .sc ds],e =>
  simp only[sC]at e;split at e
  ·rename_i ns c;split at e
   ·rename_i a;cases e;obtain rfl:=ur c;exact⟨rfl,h ns a⟩
   ·cases e
  ·cases e
theorem Mr(K:av)(H:Hp)(a:Addr)(ns:ae)(m:aE)(c:m [.lst .sc (ns.map D.int)]=ok (.bl true))(e:Jo H)(d:dW K H a (ns.map V.int)):A4 K 1 m [.ref a] H (λv _=>v=.bl true) λ_ _ _=>False:=by
 refine⟨λ_=>True,_,.bl true,rfl,.cons (.lst ?_ (aI.ints ns)) .nil,c,λv H' _ g=>by obtain⟨τt,_,b⟩:=g;cases b;rfl⟩;rcases d with (h|h)|h
 ·rcases e a with z|⟨o,xs,z⟩
  ·rw[h]at z;cases z
  ·rw[h]at z;cases z
 ·exact .inl h
 ·exact .inr h
section
variable {X:Cx}{pins:ao}{σ:St}{H:Hp}{s:Shared}{h':Heap}
theorem F_(I:Inv X pins σ H s)(hf:∀b∈ch,pU X pins H b)(k:∀b u,b∉ch->s.heap.get? b=some u->h'.get? b=some u):Inv X pins σ H { s with heap:=h',toks:=t' }:=by
 have i:∀b u,H b=some u->b∉ch:=λb u e z=>by rw[(hf b z).1]at e;cases e
 refine I.step (g':=s.gens) (d':=s.drawn) (ch:=ch) (λb c=>⟨(hf b c).2.2.2.1,(hf b c).2.1,(hf b c).2.2.2.2.1,(hf b c).2.2.2.2.2⟩) (λb o _ _ a e _=>k b o a e) (λb o _ _ a e _=>⟨o.slots,k b o a e⟩) (λ_ _ _ _ n=>n)
  (λb o a e=>⟨o,k b o a e⟩) (λ_ _ e=>e) (λ_ _ _ e=>e) (λm g=>?_) (λb u e=>?_) I.bare
 ·obtain⟨o,es,ep,d,r⟩:=g;exact⟨o,es,ep,k _ o (λz=>(hf _ z).2.1 rfl) d,r⟩
 ·exact(I.cJ b u e).kM λv=>k b v (i b u e)
theorem Ga{T:Addr}{o:HO}(I:Inv X pins σ H s)(hf:∀b∈ch,pU X pins H b)(k:∀b u,b∉ch->s.heap.get? b=some u->h'.get? b=some u)(g:s.heap.objs.size<=T)(new:cK (upd H T o) h' T o):
  Inv X pins σ (upd H T o) { s with heap:=h',toks:=t' }:=by
 have l:∀b u,H b=some u->b∉ch:=λb u e z=>by rw[(hf b z).1]at e;cases e
 have d:H T=none:=I.cJ.fresh g;have ne:∀b (u:Obj),s.heap.get? b=some u->b≠T:=λb u e z=>absurd (aaj e) (by rw[z];exact Nat.not_lt.mpr g);have up:∀b u,H b=some u->upd H T o b=some u:=λb u e=>by rw[bq (dK e d)];exact e
 refine I.step (g':=s.gens) (d':=s.drawn) (ch:=ch) (λb c=>⟨(hf b c).2.2.2.1,(hf b c).2.1,(hf b c).2.2.2.2.1,(hf b c).2.2.2.2.2⟩) (λb o _ _ a e _=>k b o a e) (λb o _ _ a e _=>⟨o.slots,k b o a e⟩) (λb u _ e n=>by rw[bq (ne b u e)];exact n)
  (λb o a e=>⟨o,k b o a e⟩) (λ_ _ e=>up _ _ e) (λ_ _ _ e=>up _ _ e) (λm j=>?_) (yT (λb u e=>?_) d new) I.bare
 ·obtain⟨o,es,ep,i,r⟩:=j;exact⟨o,es,ep,k _ o (λz=>(hf _ z).2.1 rfl) i,r⟩
 ·exact(I.cJ b u e).kM λv=>k b v (l b u e)
end
def YQ(K:av)(a b:Addr):It :=
  ⟨λi H=>∃xs ys x y,dW K H a xs/\dW K H b ys/\xs[i]?=some x/\ys[i]?=some y,
   λi H v H'=>∃T x y,(∀xs,dW K H a xs->xs[i]?=some x)/\(∀ys,dW K H b ys->ys[i]?=some y)/\H T=none/\v=.ref T/\H'=upd H T (.tup [x,y]),
   λi H=>∃xs ys,dW K H a xs/\dW K H b ys/\(xs.length<=i\/ys.length<=i)⟩
theorem xX{H:Hp}{T:Addr}{x y:V}{u v:Value}(b:RelV x u)(a:RelV y v)(e:h.get? T=some { cls:=.type "tuple",data:=.seq #[u,v] }):cK H h T (.tup [x,y]) :=
 ⟨by rw[sizeLine_eq];simp,[u,v],.cons b (.cons a .nil),⟨_,e,rfl,_,rfl⟩⟩
theorem dm{a b:Addr}{o u:Obj}(e:h.get? a=some o)(c:h.get? b=some u)(d:o.cls≠u.cls):a≠b:=λz=>by
 subst z;rw[e]at c;cases c;exact d rfl
theorem Bz{tp:Pos}{a b z TI TO:Addr}(Z:TI≠TO)(Ic:i1≠i2):
  Turn P w K (.Tuple elts n1 tp) (YQ K a b) [z,TI,TO,i1,i2] z (λi h=>IsZip h z TI TO .none/\IsPair h TI (.ref i1) (.ref i2)/\(∃x y,IsPair h TO x y)/\h.IsListIter i1 a i/\h.IsListIter i2 b i):=by
 have apart:∀{h:Heap} {x y:Value} {xs ys:bg} {i:Nat},IsZip h z TI TO .none->IsPair h TI (.ref i1) (.ref i2)->IsPair h TO x y->h.IsListIter i1 a i->h.IsListIter i2 b i->h.IsList a xs->h.IsList b ys->ZipApart z TI TO i1 i2 a b:=by
  intro h x y xs ys i d l j l1 l2 ha hb;obtain⟨J,e1,t,_⟩:=l1;obtain⟨o2,e2,r,_⟩:=l2;obtain⟨oa,N,R,_⟩:=ha;obtain⟨ob,M,O,_⟩:=hb;exact⟨dm l d (by simp),dm j d (by simp),dm e1 d (by rw[t];simp),dm e2 d (by rw[r];simp),Z,dm l e1 (by rw[t];simp),dm l e2 (by rw[r];simp),dm j e1 (by rw[t];simp),dm j e2 (by rw[r];simp),Ic,
   dm N d (by rw[R];simp),dm N j (by rw[R];simp),dm N e1 (by rw[R,t];simp),dm N e2 (by rw[R,r];simp),dm M d (by rw[O];simp),dm M j (by rw[O];simp),dm M e1 (by rw[O,t];simp),dm M e2 (by rw[O,r];simp)⟩
 refine⟨by simp,λi h st c g=>?_,λi h h' st k=>?_,?_,?_,λA i s Q E st hQ=>wpAny_pyIter_zip st.1 hQ⟩
 ·obtain⟨d,l,⟨x,y,j⟩,⟨J,e1,_,d1⟩,⟨o2,e2,_,d2⟩⟩:=st;simp only[List.mem_cons,List.not_mem_nil,or_false]at g;rcases g with rfl|rfl|rfl|rfl|rfl
  ·exact⟨_,d,λv q=>by cases q⟩
  ·exact⟨_,l,λv q=>by cases q⟩
  ·exact⟨_,j,λv q=>by cases q⟩
  ·exact⟨J,e1,λv q=>by rw[d1]at q;cases q⟩
  ·exact⟨o2,e2,λv q=>by rw[d2]at q;cases q⟩
 ·obtain⟨d,l,⟨x,y,j⟩,l1,l2⟩:=st;exact⟨k z (by simp) _ d,k TI (by simp) _ l,⟨x,y,k TO (by simp) _ j⟩,l1.at λo e=>k i1 (by simp) o e,l2.at λo e=>k i2 (by simp) o e⟩
 ·intro X hP hw hK g i pins s σ H E I L st Y;subst hP hw hK;obtain⟨xs,ys,x,y,q1,B,ex,ey⟩:=Y;obtain⟨d,l,⟨x0,y0,j⟩,l1,l2⟩:=st;obtain⟨aW,V,p,_⟩:=I.list q1;obtain⟨n,A5,p',_⟩:=I.list B;obtain⟨u,hu,ru⟩:=V.get ex;obtain⟨u',MH,W⟩:=A5.get ey;have D:=apart d l j l1 l2 p.isList p'.isList;refine wpAny_pyNext_zip_item D d l j l1 l2 p.isList p'.isList (x:=u) (y:=u') (by simpa using hu) (by simpa using MH) λh1 z1 J a1 b1 t1 TK k1=>⟨_,rfl,?_⟩
  refine wpAny_letOwnedTupleGo_zip z1 λh2 z2 m=>?_;have U:s.heap.objs.size≠z:=aaM (aaj d);have kk:∀c o,c∉[z,TI,TO,i1,i2]->s.heap.get? c=some o->h2.get? c=some o:=λc o g e=>by
   simp only[List.mem_cons,List.not_mem_nil,or_false,not_or]at g;exact m.extBut c o g.1 (k1 c o g.1 g.2.2.1 g.2.2.2.1 g.2.2.2.2 e)
  have hT:h2.get? s.heap.objs.size=some { cls:=.type "tuple",data:=.seq #[u,u'] }:=m.extBut _ _ U t1;have hn:H s.heap.objs.size=none:=I.cJ.fresh (aal _);refine⟨.ref s.heap.objs.size,upd H s.heap.objs.size (.tup [x,y]),Ga (s:=s) (h':=h2) (t':=s.toks) I L kk (aal _) (xX ru W hT),rfl,⟨_,x,y,λzs d=>by rw[I.kS d q1];exact ex,λzs d=>by rw[I.kS d B];exact ey,hn,rfl,rfl⟩,⟨z2,m.extBut _ _ D.TIz (k1 _ _ D.TIz D.TITO D.TIi1 D.TIi2 l),⟨_,_,m.extBut _ _ D.TOz J⟩,a1.extBut m.extBut D.i1z,b1.extBut m.extBut D.i2z⟩,λc g=>?_⟩;rw[bq]
  ·exact(L c g).1
  ·intro z;subst z;simp only[List.mem_cons,List.not_mem_nil,or_false]at g;rcases g with e|e|e|e|e
   ·exact absurd (aaj d) (by rw[<- e];exact aaO _)
   ·exact absurd (aaj l) (by rw[<- e];exact aaO _)
   ·exact absurd (aaj j) (by rw[<- e];exact aaO _)
   ·obtain⟨_,w,_⟩:=l1;exact absurd (aaj w) (by rw[<- e];exact aaO _)
   ·obtain⟨_,w,_⟩:=l2;exact absurd (aaj w) (by rw[<- e];exact aaO _)
 ·intro X hP hw hK g i pins s σ H E I L st Y;subst hP hw hK;obtain⟨xs,ys,q1,B,hl⟩:=Y;obtain⟨d,l,⟨x0,y0,j⟩,l1,l2⟩:=st;obtain⟨aW,V,p,_⟩:=I.list q1;obtain⟨n,A5,p',_⟩:=I.list B;have e1:=V.length;have e2:=A5.length;refine wpAny_pyNext_zip_end (I.ok.hd g) (apart d l j l1 l2 p.isList p'.isList) d l j l1 l2 p.isList p'.isList (by simp;left) λh1 k1=>⟨rfl,F_ (t':=s.toks) I L λc o g e=>?_⟩
  simp only[List.mem_cons,List.not_mem_nil,or_false,not_or]at g;exact k1 c o g.1 g.2.2.1 g.2.2.2.1 g.2.2.2.2 e
variable {ta:TA}
theorem LV{l p:Pos}(E:Gl X "zip")(B:X.mg "zip" = none)(J:PA X [e1,e2] ta)(hs:∀es,starEach (e1::es) X.env=(false,eval e1 X.env)::starEach es X.env)(M:∀es,starEach (e2::es) X.env=(false,eval e2 X.env)::starEach es X.env):
  PI X (.Tuple elts n1 l) (.Call (.Name "zip" p) [e1,e2] [] pos) (λσ H R=>ta σ H λvs H1=>∃a b,vs=[.ref a,.ref b]/\(∃xs,dW X.K H1 a xs)/\(∃ys,dW X.K H1 b ys)/\R (YQ X.K a b) H1):=by
 intro pins s σ H R I h;refine Call_ (iz I E B boot_zip (aaW (dF (J pos pins s σ H _ I h) λN c L=>?_) (hs _) (by rw[M];rfl)));obtain⟨vs,H1,d,r1,q1⟩:=L;obtain⟨a,b,e,⟨xs,q1⟩,⟨ys,r⟩,q⟩:=q1;subst e;obtain⟨u,v,rfl,n,m⟩:=vals2 r1;cases n;cases m;obtain⟨O,_,y,_⟩:=d.list q1;obtain⟨i,_,x,_⟩:=d.list r;refine call_zip_2 y.isList x.isList λh' z t o l1 l2 sz k=>wpAny_pyIter_zip z ?_;refine⟨c.heap.objs.size+4,[c.heap.objs.size+4,c.heap.objs.size+2,c.heap.objs.size+3,c.heap.objs.size,c.heap.objs.size+1],_,_,H1,rfl,d.kept (t':=c.toks) k,Bz (aao (abf _)) (aao (abf _)),⟨z,t,⟨_,_,o⟩,l1,l2⟩,λb j=>?_,q⟩;have g:c.heap.objs.size<=b:=by
  simp only[List.mem_cons,List.not_mem_nil,or_false]at j;rcases j with rfl|rfl|rfl|rfl|rfl<;>first|exact Nat.le_add_right .. |exact aal _
 exact d.Ij g (d.cJ.fresh g)
def pP(sc:Scope)(bl:ak)(e:Expr):Option (aq):=(gJ e).bind λz=>(two z.2).bind λ_=>if z.1=("zip" : Str)/\iB sc z.1=true/\z.1∈bl then some z.2 else none
theorem rg{sc:Scope}{bl:ak}{e:Expr}(h:pP sc bl e=some args):∃p pos a b,e=.Call (.Name ("zip" : Str) p) [a,b] [] pos/\args=[a,b]/\iB sc ("zip" : Str)=true/\("zip" : Str)∈bl:=by
 obtain⟨⟨x,as⟩,c,h⟩:=bT h;obtain⟨⟨a,b⟩,hw,h⟩:=bT h;obtain⟨d,h⟩:=gT h;cases h;obtain⟨rfl,i,g⟩:=d;obtain⟨p,pos,rfl⟩:=cY c;obtain rfl:=gx hw;exact⟨p,pos,a,b,rfl,rfl,i,g⟩
theorem kc{a b:Expr}(h:nG X F Φ cs [a,b]):(∃c d,cs=[c,d]/\PE X a (tD X F Φ c)/\PE X b (tD X F Φ d))/\PA X [a,b] (tT X F Φ cs)/\(∀es,starEach (a::es) X.env=(false,eval a X.env)::starEach es X.env)/\(∀es,starEach (b::es) X.env=(false,eval b X.env)::starEach es X.env):=by
 match cs,h with
 |[c,d],h =>
  obtain⟨j,i,_,g,e,_,_⟩:=h;exact⟨⟨c,d,rfl,j,g⟩,PA.imp (cc j (PA.imp (cc g (PA.imp dB λ_ _ _ h=>nM h) (e _)) λ_ _ _ h=>jc h) (i _)) λ_ _ _ h=>jc h,i,e⟩
 |[],h=>exact h.elim
 |[_],h=>exact h.2.2.2.elim
 |_::_::_::_,h=>exact h.2.2.2.2.2.2.elim
theorem Rep.Y7{R:ai}{H:Hp}{k:bt}{v:V}{d:D}(e:aL H H')(h:Rep (a_ K H) (nd K R (λ_=>False) (λ_=>none) H) k v d):Rep (a_ K H') (nd K R (λ_=>False) (λ_=>none) H') k' v d :=
 (Rep.sA h (k':=k')).imp (λ_ _ h=>a_.same e h) λ_ _ _ _ h=>nd.same e h
theorem FR{p q:Addr}{g:Fl}{a b:aa}:Td K (YQ K p q) H2 [.ref p,.ref q] [.lst f a,.lst g b] (aA aZ (List.zipWith (λx y=>.tup [x,y]) a b)):=by
 have len:(aA aZ (List.zipWith (λx y=>D.tup [x,y]) a b)).length=min a.length b.length:=by rw[bu];simp
 have two:∀{H':Hp} {R':ai},aI (a_ K H') (nd K R' (λ_=>False) (λ_=>none) H') [] 0 [.ref p,.ref q] (aA aZ [.lst f a,.lst g b]) ->
   ∃xs ys,dW K H' p xs/\dW K H' q ys/\aI (a_ K H') (nd K R' (λ_=>False) (λ_=>none) H') [0] 0 xs (aA aZ a)/\aI (a_ K H') (nd K R' (λ_=>False) (λ_=>none) H') [1] 0 ys (aA aZ b):=by
  intro H' R' h;rw[aA,aR,aA,aR,aA]at h;cases h with
  |cons h t=>cases t with
   |cons h' t=>cases h with
    |lst h r=>cases h' with
     |lst h' k=>exact⟨_,_,h.sq,h'.sq,r,k⟩
 refine⟨λi H' R' _ h j=>?_,λi H' R' x I _ h j s=>?_,λi H' R' _ h j=>?_⟩
 ·obtain⟨xs,ys,e,d,r1,c⟩:=two h;rw[len]at j;have l1:=r1.length;have l2:=c.length;rw[bu,List.length_map]at l1 l2;exact⟨xs,ys,xs[i]'(by left),ys[i]'(by left),e,d,aaH _,aaH _⟩
 ·obtain⟨xs,ys,e,d,r1,c⟩:=two h;obtain⟨T,u,v,E,B,z,rfl,rfl⟩:=s;obtain⟨d1,e1,n⟩:=r1.AG (E xs e);obtain⟨H,e2,m⟩:=c.AG (B ys d);have es:aL H' (upd H' T (.tup [u,v])):=aL.upd z;refine⟨es,.tup [d1,H],?_,.tup (a_.of aY) (.cons (n.Y7 es) (.cons (m.Y7 es) .nil))⟩;rw[bu,List.getElem?_map]at e1 e2 ⊢;obtain⟨L,q1,rfl⟩:=Option.map_eq_some_iff.mp e1;obtain⟨J,l,rfl⟩:=Option.map_eq_some_iff.mp e2;rw[List.getElem?_zipWith,q1,l];simp[aR,aA]
 ·obtain⟨xs,ys,e,d,r1,c⟩:=two h;rw[len]at j;have l1:=r1.length;have l2:=c.length;rw[bu,List.length_map]at l1 l2;exact⟨xs,ys,e,d,by left⟩
theorem KO{n:Nat}(j:Φ n=FQ){sc:Scope}{bl:ak}{k:Nat}(L:PX X sc bl k){e:Expr}(he:pP sc bl e=some args)(B:jk tg=true)(hs:nG X F Φ cs args)
  {pins:ao} {s:Shared} {H:Hp} {R:ai} {xs:aa} {d:D} (I:Inv X pins σ H s) (U:SI X F R τ ρ σ H) (O:b0 Φ cs ρ=ok xs) (c:Φ n xs=ok d) (N:ub d=ok items) (l:It->Hp->Prop)
  (hR:∀J H2 vs,aL H H2->cN X.K (gP X F) R τ (dX cs) H H2 vs xs->Td X.K J H2 vs xs items->l J H2) :
  wpAny (model X.prog X.w) X.A (eval e X.env) (λv g=>wpAny (model X.prog X.w) X.A (pyIter v) (FH X pins σ tg l) X.xe g) X.xe s:=by
 obtain⟨p,pos,a,b,rfl,rfl,M,E⟩:=rg he;cases tg<;>try (cases B;done)
 obtain⟨_,x,g,q⟩:=kc hs;refine LV (L.gl M) (L.bl _ E) x g q pins s σ H l I ⟨R,τ,ρ,xs,U,O,λvs H1 e1 m=>?_⟩;have i:=m;obtain⟨τt,V,u⟩:=m;rw[j]at c;unfold FQ at c;split at c
 ·cases c;cases N;obtain⟨v,w,rfl,t,r⟩:=u.two;cases t with
  |lst z _=>cases r with
   |lst y _=>exact⟨_,_,rfl,⟨_,z.sq⟩,⟨_,y.sq⟩,hR _ H1 _ e1 i FR⟩
 ·cases c
def qT(xs:aa):O D:=match xs with
 |[]=>none
 |x::xs=>match x with
  |.int a=>match xs with
   |[]=>none
   |y::ys=>match y with
    |.int b=>match ys with
     |[]=>if fm a b then ok (.int (a*b))else none
     |_::_=>none
    |_=>none
  |_=>none
theorem uN{x y d:D}(h:qT [x,y]=ok d):∃a b,x=.int a/\y=.int b/\fm a b=true/\d=.int (a*b):=by
 cases x<;>first|exact nk h | (cases h;done) | (cases y<;>first|exact nk h | (cases h;done)|skip)
 obtain⟨e,c⟩:=sF h;exact⟨_,_,rfl,rfl,e,c.symm⟩
def oh(_:Scope)(_:ak)(st:Stmt):Option (Expr×aq):=match F8 st with
 |some z=>if z.2.1=.Mult then some (z.1,[z.2.2])else none
 |none=>none
theorem xw{sc:Scope}{bl:ak}(h:oh sc bl st=some (o,args)):∃v pos,st=.AugAssign o .Mult v pos/\args=[v]:=by
 unfold oh at h;cases a:F8 st with
 |none=>rw[a]at h;exact nk h
 |some z =>
  obtain⟨c,p,v⟩:=z;rw[a]at h;obtain⟨pos,rfl⟩:=xT a;replace h:(if p=.Mult then some (c,[v])else none)=some (o,args):=h;by_cases b:p=.Mult
  ·rw[if_pos b]at h;subst b;cases h;exact⟨v,pos,rfl,rfl⟩
  ·rw[if_neg b]at h;cases h
theorem MC:Tr X .Mult (λx y H Q=>∃i j,x=.int i/\y=.int j/\fm i j=true/\Q (.int (i*j)) H):=by
 intro pins s σ H x y v u Q I r1 a h;obtain⟨i,j,e1,e2,b,q⟩:=h;subst e1;subst e2;obtain⟨t,rfl⟩:=r1;obtain⟨t',rfl⟩:=a;exact imul_int ⟨.int _,H,I.tok _,⟨_,rfl⟩,q⟩ (ux b)
theorem HK{n:Nat}(q:Φ n=qT){sc:Scope}{bl:ak}{k:Nat}(L:PX X sc bl k)(Y:X.N.Nodup)(M:∀x,X.fn x=true){x:Str}(he:oh sc bl st=some (.Name x pos,args))
  {i:Nat} (W:X.N[i]?=some x) (V:L2.Loc X.env.scope x) (pe:PE X (.Name x pos) (jP i)) (hs:nG X F Φ cs args):PS X st (kD X F Φ (.mut n i cs)):=by
 obtain⟨v,pos',rfl,rfl⟩:=xw he;cases cs with
 |nil=>exact hs.elim
 |cons c cs=>cases cs with
  |cons _ _=>exact hs.2.2.2.elim
  |nil =>
   refine PS.imp (Cp Y W V hs.1 MC (.inl (M _))) λD σ H s=>?_;obtain⟨R,τ,ρ,r,I,e,s⟩:=s;obtain⟨xs,E,e⟩:=aJ e;obtain⟨y,Z,E⟩:=aJ E;cases E;have p:∃a b,y=.int b/\ρ[i]?=some (some (.int a))/\fm a b=true/\r=(.nx,ρ.set i (some (.int (a*b)))):=by
    have e:sj Φ n i (kY [c] [y] ρ)=ok r:=e;unfold sj at e;split at e
    ·rename_i d0 g;obtain⟨d',j,B⟩:=aJ e;rw[q]at j;unfold kY at j g B;split at j
     ·rename_i l;obtain⟨a,b,e1,e2,_,_⟩:=uN (y:=aR aZ y) j;cases y<;>first | (cases e2;done) | (cases l;done)
     ·rename_i l;obtain⟨a,b,rfl,rfl,t,rfl⟩:=uN j;rw[if_neg l]at g;rw[if_neg l]at B;cases B;exact⟨a,b,rfl,g,t,rfl⟩
    ·cases e
   obtain⟨a,b,rfl,g,t,rfl⟩:=p;obtain⟨w,hw,U⟩:=I.rep i _ g;cases U;have eX:i<ρ.length:=by
    by_cases z:i<ρ.length
    ·exact z
    ·rw[List.getElem?_eq_none (by left)]at g;cases g
   refine⟨_,hw,tD.intro I Z λu H1 e1 J=>?_⟩;cases J.isInt;refine⟨_,_,rfl,rfl,t,?_⟩;obtain⟨m,O⟩:=(I.go e1).set (i:=i) (v:=.int (a*b)) (d:=.int (a*b)) ⟨λ_=>none,λ_ _ h=>by simp at h,.int _⟩ eX;exact s _ H1 R m O (Kp.of e1 λ_ h=>h)
section
variable {X:Cx}
end
def pQ(f:Str)(sc:Scope)(bl:ak)(e:Expr):Option (aq):=(gJ e).bind λz=>(one z.2).bind λ_=>if z.1=f/\iB sc z.1=true/\z.1∈bl then some z.2 else none
theorem ri{f:Str}{sc:Scope}{bl:ak}{e:Expr}(h:pQ f sc bl e=some args):∃p pos a,e=.Call (.Name f p) [a] [] pos/\args=[a]/\iB sc f=true/\f∈bl:=by
 obtain⟨⟨x,as⟩,b,h⟩:=bT h;obtain⟨a,hw,h⟩:=bT h;obtain⟨c,h⟩:=gT h;cases h;obtain⟨rfl,g,d⟩:=c;obtain⟨p,pos,rfl⟩:=cY b;obtain rfl:=cO hw;exact⟨_,_,_,rfl,rfl,g,d⟩
section
variable {prog:aC}{w:World}{A:aB}{E:au}{s:Shared}
theorem uG{fin:Bool}{Q:Bool->Shared->Prop}:∀{d g:aw} {ns c:ae} (i:Nat),IntsAre d ns->IntsAre g c->fin=decide (d.length<g.length)->Q (HT.lexLt ns c) s->PySem.W.KatLex prog w A true fin Q (d.zip g) i s
 |_,_,_,_,i,.nil,.nil,hf,h=>by subst hf;exact h
 |_,_,_,_,i,.nil,.cons _ _ _,hf,h=>by subst hf;exact h
 |_,_,_,_,i,.cons _ _ _,.nil,hf,h=>by subst hf;exact h
 |_,_,_,_,i,.cons (ns:=ns) a t h1,.cons (ns:=c) b u h2,hf,h=>by
  rw[HT.dM]at h;refine PySem.W.kat_cons (wpAny_eqBool_int (PySem.W.kat_go (λe=>?_) λe=>?_))
  ·have e:a=b:=by simpa using e
   rw[if_pos e]at h;exact PySem.W.kat_yes (uG (i+1) h1 h2 (by rw[hf];simp) h)
  ·have e:¬ a=b:=by simpa using e
   rw[if_neg e]at h;refine PySem.W.kat_no ?_;rw[Bool.true_and];cases i==0 with
   |true=>exact oneLt_int h
   |false=>exact PySem.W.kat_one _ _ (lt_int h)
end
noncomputable def eI(ns:ae):D:=.tup (ns.map D.int)
theorem aI.Ta{T:nF}{N:h_}{q:bt}:∀{n:Nat} {vs ws:ah} {ds es:aa},aI T N q n vs ds->aI T N q (n+ds.length) ws es->aI T N q n (vs++ws) (ds++es)
 |_,_,_,_,_,.nil,h=>h
 |n,_,_,_,_,.cons (ds:=ds) h t,h'=>.cons h (aI.Ta t (by
   rw[List.length_cons,Nat.add_comm ds.length 1,<- Nat.add_assoc]at h';exact h'))
theorem f_{H:Hp}{p a:Addr}{o:HO}(b:H p=some (.lst xs))(h:a_ K H a ys):a_ K (upd H p o) a ys:=by
 rcases h with (h|⟨c,h⟩)|h
 ·exact .inl (.inl (by rw[bq (λz=>by subst z;rw[b]at h;cases h)];exact h))
 ·exact .inl (.inr ⟨c,by rw[bq (λz=>by subst z;rw[b]at h;cases h)];exact h⟩)
 ·exact .inr h
set_option tactic.hygienic true in
theorem si{n i:Nat}{xs:aa}{r:Fo×bo}(a:sj Φ n i (kY cs xs ρ)=ok r)(c:aP bW xs=false):∃d b,ρ[i]?=some (some d)/\Φ n (d::xs)=ok b/\r=(.nx,ρ.set i (some b)):=by
 unfold kY at a;rw[if_neg (by rw[c];exact Bool.false_ne_true)]at a;unfold sj at a;split at a
 ·rename_i d hd;obtain⟨b,g,e⟩:=aJ a;cases e;exact⟨d,b,hd,g,rfl⟩
 ·cases a
set_option tactic.hygienic true in
theorem wM{n i:Nat}{xs:aa}{r:Fo×bo}(a:sj Φ n i (kY cs xs ρ)=ok r)(c:aP bW xs=true):∃d b,Φ n (d::aA aZ xs)=ok b:=by
 unfold kY at a;rw[if_pos c]at a;unfold sj at a;split at a
 ·rename_i d hd;obtain⟨b,e,g⟩:=aJ a;exact⟨d,b,e⟩
 ·cases a
def yB:D->Option (aa)
 |.lst f ds=>if cz f then some ds else none
 |_=>none
set_option tactic.hygienic true in
theorem sf{d:D}(h:yB d=some ds):d=.lst .ow ds:=by
 cases d<;>first|exact nk h | (cases h;done)|skip
 rename_i f es;have h:(if cz f then some es else none)=some ds:=h;cases f<;>first | (cases h;rfl) | (cases h;done)
def AJ(xs:aa):O D:=match two xs with
 |some z=>match yB z.1 with
  |some ds=>match yB z.2 with
   |some es=>if aP anyF es=false/\ds.length+es.length<=dz then ok (.lst .ow (ds++es))else none
   |none=>none
  |none=>none
 |none=>none
theorem za{x y d:D}(h:AJ [x,y]=ok d):∃ds es,x=.lst .ow ds/\y=.lst .ow es/\aP anyF es=false/\ds.length+es.length<=dz/\d=.lst .ow (ds++es):=by
 have h:(match yB x with|some ds=>(match yB y with|some es=>if aP anyF es=false/\ds.length+es.length<=dz then ok (.lst .ow (ds++es))else none|none=>none)|none=>none)=ok d:=h;cases a:yB x with
 |none=>rw[a]at h;exact nk h
 |some ds=>cases b:yB y with
  |none=>rw[a,b]at h;cases h
  |some es =>
   rw[a,b]at h;obtain⟨⟨g,e⟩,c⟩:=sF h;exact⟨ds,es,sf a,sf b,g,e,c.symm⟩
def oB(m:Str)(st:Stmt):Option (Expr×aq):=(Tw st).bind λc=>(rH c).bind λz=>(xU z.1).bind λy=>if y.2.1=m/\z.2.2.1.isEmpty=true/\(y.2.2.endLine==z.2.2.2.line)=true then some (y.1,z.2.1)else none
theorem i_{m:Str}(h:oB m st=some (o,as)):∃d b pos,st=.Expr (.Call (.Attribute o m d) as [] b) pos/\(d.endLine==b.line)=true:=by
 obtain⟨c,j,h⟩:=bT h;obtain⟨⟨f,k,n,b⟩,i,h⟩:=bT h;obtain⟨⟨l,a,d⟩,g,h⟩:=bT h;obtain⟨e,h⟩:=gT h;cases h;obtain⟨pos,rfl⟩:=wc j;obtain rfl:=lS i;obtain rfl:=oD g;obtain rfl:=CZ e.2.1;obtain rfl:=e.1;exact⟨d,b,pos,rfl,e.2.2⟩
def ES(_:Scope)(_:ak)(st:Stmt):Option (Expr×aq):=(oB ("extend" : Str) st).bind λz=>(one z.2).bind λ_=>some z
set_option tactic.hygienic true in
theorem NJ{n:Nat}(e:Φ n=AJ){sc:Scope}{bl:ak}{k:Nat}(L:PX X sc bl k)(hN:X.N.Nodup)(md:∀x,X.fn x=true){x:Str}(he:ES sc bl st=some (.Name x pos,args))
  {i:Nat} (hi:X.N[i]?=some x) (hl:L2.Loc X.env.scope x) (pe:PE X (.Name x pos) (jP i)) (hs:nG X F Φ cs args):PS X st (kD X F Φ (.mut n i cs)):=by
 obtain⟨⟨o,as⟩,h1,he⟩:=bT he;obtain⟨v,h2,he⟩:=bT he;cases he;obtain rfl:=cO h2;obtain⟨p1,p2,pos',rfl,ql⟩:=i_ h1;cases cs with
 |nil=>exact hs.elim
 |cons c cs=>cases cs with
  |cons _ _=>exact hs.2.2.2.elim
  |nil =>
   refine PS.imp (iq (CD abI PySem.F.slot_list_extend PySem.F.type_list_extend Ac pe (cc hs.1 dB (hs.2.1 _)) (hfew:=by rw[hs.2.1];rfl) (hline:=ql) (hs:=hs.2.1 _))) λD σ H I=>?_;obtain⟨R,τ,ρ,r,O,p,I⟩:=I;obtain⟨xs,M,p⟩:=aJ p;obtain⟨y,ey,M⟩:=aJ M;cases M;have z:∃ds es,y=.lst .ow es/\ρ[i]?=some (some (.lst .ow ds))/\aP anyF es=false/\ds.length+es.length<=dz/\r=(.nx,ρ.set i (some (.lst .ow (ds++es)))):=by
    cases B:aP bW [y]with
    |true =>
     obtain⟨d,d',h⟩:=wM p B;rw[e]at h;obtain⟨ds,es,_,j,_⟩:=za h;cases y<;>first|exact nk j | (cases j;done)|skip
     rename_i f Kr;cases f<;>cases j
    |false =>
     obtain⟨d,d',h,h',rfl⟩:=si p B;rw[e]at h';obtain⟨ds,es,rfl,rfl,j,h4,rfl⟩:=za h';exact⟨ds,es,rfl,h,j,h4,rfl⟩
   obtain⟨ds,es,rfl,J,hf,hc,rfl⟩:=z;obtain⟨a,xs,E,ha,Uk,Wz,_⟩:=O.own J;refine⟨.ref a,E,⟨rfl,_,dW.of ha⟩,tD.intro O ey λu H1 e1 ru=>?_⟩;have t:=O.go e1;obtain⟨a1,Js,W,q,Wt,Y,LJ⟩:=t.own J;rw[E]at W;cases W;obtain⟨τt,fr,rp⟩:=ru;obtain⟨b,U,rfl,hb,V⟩:=rp.tH;have B:sizeLine=16777216:=abr;have sJ:dz=1000000:=rfl;have hzl:=V.length;refine⟨a,b,Js,U,rfl,rfl,q,hb.1,by left,?_⟩;obtain⟨s,Z⟩:=t.put (m:=0) (g:=λys=>ys++U) (v:=.int 0) (d:=.int 0) J E q Y LJ ⟨λ_=>none,λ_ _ h=>by simp at h,.int 0⟩ λrs _=>aI.Ta rs (V.without (P:=anyF) (λ_ _ h=>f_ q h) (λ_ _ _ _ _ h=>by cases h) hf _ _);exact I σ _ R s Z (kf (n:=.l _) t e1 (λ_ h=>h) q Y)
noncomputable def kI(J:Nat)(d:D):Nat->aa->aa
 |_,[]=>[]
 |n,x::xs=>(if n=J then d else x)::kI J d (n+1) xs
theorem aI.kI{T T':nF}{N N':h_}{q:bt}{J:Nat}{d:D}(b:∀p xs,T p xs->T' p xs)(g:∀c m p xs f,m≠J->N (c++(m::q)) p xs f->N' (c++(m::q)) p xs f):∀{n:Nat} {vs:ah} {ds:aa},aI T N q n vs ds->(∀k v,vs[k]?=some v->n+k=J->Rep T' N' (J::q) v d)->aI T' N' q n vs (DI.kI J d n ds)
 |_,_,_,.nil,_=>.nil
 |n,_,_,.cons (d:=x) h t,hj=>by
  refine .cons ?_ (aI.kI b g t λk v e z=>hj (k+1) v e (by left));by_cases a:n=J
  ·rw[if_pos a];subst a;exact hj 0 _ rfl rfl
  ·rw[if_neg a];exact h.imp (q:=n::q) (q':=n::q) b λc p xs f h=>g c n p xs f a h
section
variable {X:Cx}{F R:ai}{τ:Addr->Option bt}{ρ:bo}{σ:St}{H:Hp}
theorem SI.Ou{p a:Addr}{q q0:bt}{n:Nd}{o:HO}(j:SI X F R τ ρ σ H)(i:H p=some (.lst xs))(c:τ p=some q0)(g:q≠q0)(h:nd X.K R (λ_=>False) τ H q a n f):nd X.K R (λ_=>False) τ (upd H p o) q a n f:=by
 have b:∀{a:Addr} {z:Nd},a≠p->eG H a z->eG (upd H p o) a z:=λne h=>h.at λu e=>by rw[bq ne];exact e
 cases f with
 |ow=>exact⟨b (λz=>by subst z;exact g (aaI (h.2.symm.trans c))) h.1,h.2⟩
 |fz=>exact⟨b (λz=>by subst z;rw[j.rt _ h.2]at c;cases c) h.1,h.2⟩
 |al=>exact h.2.elim
 |sc =>
  obtain⟨ys,rfl,h⟩:=h.BY;exact h.elim (λ⟨d,w⟩=>.inl ⟨d,by rw[bq (λz=>by subst z;rw[i]at w;cases w)];exact w⟩) .inr
theorem SI.Yt{i j:Nat}{p:Addr}(b:SI X F R τ ρ σ H)(r:ρ[i]?=some (some d0))(l:H p=some (.lst xs))(k:τ p=some [j,i])
  {v:V} (s:σ[i]?=some (some v)) (t:Rep (a_ X.K (upd H p (.lst ys))) (nd X.K R (λ_=>False) τ (upd H p (.lst ys))) [i] v d1):SI X F R τ (ρ.set i (some d1)) σ (upd H p (.lst ys)):=by
 have E:i<ρ.length:=by
  by_cases z:i<ρ.length
  ·exact z
  ·rw[List.getElem?_eq_none (by left)]at r;cases r
 have there:∀a,H a≠none->upd H p (.lst ys) a≠none:=λa h=>by
  by_cases z:a=p
  ·rw[z,aY];simp
  ·rw[bq z];exact h
 refine⟨by simp[b.len],λm d g=>?_,b.rt,λa x=>there a (b.rh a x),b.rf,λa q e=>there a (b.th a q e),b.t0,λa u e=>?_⟩
 ·by_cases z:m=i
  ·subst z;rw[List.getElem?_set_self E]at g;cases g;exact⟨v,s,t⟩
  ·rw[List.getElem?_set_ne (Ne.symm z)]at g;obtain⟨v,B,y⟩:=b.rep m d g;refine⟨v,B,y.imp (q:=[m]) (q':=[m]) (λ_ _ h=>f_ l h) λc a n f h=>b.Ou l k (λe=>?_) h⟩;have:=aa5 List.getLast? e;simp at this;exact z this
 ·rw[bq (λz=>by subst z;rw[b.t0 _ _ k]at e;cases e)];exact b.same a u e
end
def ny(ds:aa)(j:Nat):Option (aa):=match ds[j]? with
 |some d=>match yB d with
  |some _=>some (kI j (.lst .ow []) 0 ds)
  |none=>none
 |none=>none
theorem zo{es:aa}{j:Nat}(h:ny ds j=some es):∃b,ds[j]?=some (.lst .ow b)/\es=kI j (.lst .ow []) 0 ds:=by
 unfold ny at h;cases c:ds[j]? with
 |none=>rw[c]at h;exact nk h
 |some d =>
  rw[c]at h;have h:(match yB d with|some _=>some (kI j (.lst .ow []) 0 ds)|none=>none)=some es:=h;cases a:yB d with
  |none=>rw[a]at h;exact nk h
  |some b =>
   rw[a]at h;cases h;exact⟨b,by rw[sf a],rfl⟩
def IT(xs:aa):O D:=match two xs with
 |some z=>match z.2 with
  |.int k=>if 0<=k then(match z.1 with
   |.tup ds=>(match ny ds k.toNat with|some es=>ok (.tup es)|none=>none)
   |.lst f ds=>if cz f then(match ny ds k.toNat with|some es=>ok (.lst f es)|none=>none)else none
   |_=>none)else none
  |_=>none
 |none=>none
set_option tactic.hygienic true in
theorem zp{x y d:D}(b:IT [x,y]=ok d):∃(k:Int) (ds gs:aa),y=.int k/\0<=k/\ds[k.toNat]?=some (.lst .ow gs)/\((x=.tup ds/\d=.tup (kI k.toNat (.lst .ow []) 0 ds))\/(x=.lst .ow ds/\d=.lst .ow (kI k.toNat (.lst .ow []) 0 ds))):=by
 cases y<;>first|exact nk b | (cases b;done)|skip
 rename_i k;by_cases c:0<=k
 ·have h:(if 0<=k then(match x with
   |.tup ds=>(match ny ds k.toNat with|some es=>ok (.tup es)|none=>none)
   |.lst f ds=>if cz f then(match ny ds k.toNat with|some es=>ok (.lst f es)|none=>none)else none
   |_=>none)else none)=ok d:=b
  rw[if_pos c]at h;clear b;cases x<;>first|exact nk h | (cases h;done)|skip
  ·rename_i ds;replace h:(match ny ds k.toNat with|some es=>ok (D.tup es)|none=>none)=ok d:=h;cases a:ny ds k.toNat with
   |none=>rw[a]at h;exact nk h
   |some es =>
    rw[a]at h;cases h;obtain⟨gs,g,rfl⟩:=zo a;exact⟨k,ds,gs,rfl,c,g,.inl ⟨rfl,rfl⟩⟩
  ·rename_i f ds;replace h:(if cz f then(match ny ds k.toNat with|some es=>ok (D.lst f es)|none=>none)else none)=ok d:=h;by_cases e:cz f=true
   ·rw[if_pos e]at h;cases a:ny ds k.toNat with
    |none=>rw[a]at h;exact nk h
    |some es =>
     rw[a]at h;cases h;obtain rfl:f=.ow:=by cases f<;>first|rfl | (cases e;done)
     obtain⟨gs,g,rfl⟩:=zo a;exact⟨k,ds,gs,rfl,c,g,.inr ⟨rfl,rfl⟩⟩
   ·rw[if_neg e]at h;cases h
 ·have h:(if 0<=k then(match x with
   |.tup ds=>(match ny ds k.toNat with|some es=>ok (.tup es)|none=>none)
   |.lst f ds=>if cz f then(match ny ds k.toNat with|some es=>ok (.lst f es)|none=>none)else none
   |_=>none)else none)=ok d:=b
  rw[if_neg c]at h;cases h
def xC(_:Scope)(_:ak)(st:Stmt):Option (Expr×aq):=(oB ("clear" : Str) st).bind λz=>if z.2.isEmpty=true then(tL z.1).bind λy=>some (y.1,[y.2])else none
theorem AV{sc:Scope}{bl:ak}(h:xC sc bl st=some (o,args)):∃k e d c pos,args=[k]/\st=.Expr (.Call (.Attribute (.Subscript o k e) ("clear" : Str) d) [] [] c) pos/\(d.endLine==c.line)=true:=by
 obtain⟨⟨b,as⟩,l,h⟩:=bT h;obtain⟨i,h⟩:=gT h;obtain⟨⟨a,k⟩,j,h⟩:=bT h;cases h;obtain rfl:=CZ i;obtain⟨e,rfl⟩:=jy j;obtain⟨d,c,pos,rfl,g⟩:=i_ l;exact⟨k,e,d,c,pos,rfl,rfl,g⟩
theorem N1{n:Nat}(q:Φ n=IT){sc:Scope}{bl:ak}{k:Nat}(L:PX X sc bl k)(hN:X.N.Nodup)(md:∀x,X.fn x=true){x:Str}(he:xC sc bl st=some (.Name x pos,args))
  {i:Nat} (hi:X.N[i]?=some x) (hl:L2.Loc X.env.scope x) (pe:PE X (.Name x pos) (jP i)) (hs:nG X F Φ cs args):PS X st (kD X F Φ (.mut n i cs)):=by
 obtain⟨ke,p0,p1,p2,pos',rfl,rfl,ql⟩:=AV he;cases cs with
 |nil=>exact hs.elim
 |cons c cs=>cases cs with
  |cons _ _=>exact hs.2.2.2.elim
  |nil =>
   refine PS.imp (iq (L5 abI PySem.F.slot_list_clear PySem.F.type_list_clear C1 (yw (yL.or Dv) pe hs.1 hs.2.2.1) (hline:=ql))) λD σ H I=>?_;obtain⟨R,τ,ρ,r,Z,O,I⟩:=I;obtain⟨xs,Y,O⟩:=aJ O;obtain⟨y,ey,Y⟩:=aJ Y;cases Y;have U:∃(k:Int) (d0 d1:DI.D) (ds gs:List DI.D),y=.int k/\ρ[i]?=some (some d0)/\0<=k/\ds[k.toNat]?=some (.lst .ow gs)/\((d0=.tup ds/\d1=.tup (kI k.toNat (.lst .ow []) 0 ds))\/(d0=.lst .ow ds/\d1=.lst .ow (kI k.toNat (.lst .ow []) 0 ds)))/\r=(.nx,ρ.set i (some d1)):=by
    cases V:aP bW [y]with
    |true =>
     obtain⟨d,d',h⟩:=wM O V;rw[q]at h;obtain⟨k,ds,gs,b,_⟩:=zp h;cases y<;>first|exact nk b | (cases b;done) | (cases V;done)
    |false =>
     obtain⟨d,d',h,h',rfl⟩:=si O V;rw[q]at h';obtain⟨k,ds,gs,rfl,b,t,h5⟩:=zp h';exact⟨k,d,d',ds,gs,rfl,h,b,t,h5,rfl⟩
   obtain⟨k,d0,d1,ds,gs,rfl,J,hk,hg,hd,rfl⟩:=U;obtain⟨v,E,_⟩:=Z.rep i _ J;refine⟨v,E,tD.intro Z ey λu H1 e1 ru=>?_⟩;cases ru.isInt;have j:=Z.go e1;obtain⟨v',Ri,rv⟩:=j.rep i _ J;rw[E]at Ri;cases Ri;have B:∀{xs:ah},aI (a_ X.K H1) (nd X.K R (λ_=>False) τ H1) [i] 0 xs ds->∃(p:Addr) (zs:ah),xs[k.toNat]?=some (.ref p)/\H1 p=some (.lst zs)/\τ p=some [k.toNat,i]/\KD xs k=some (.ref p):=by
    intro xs g;obtain⟨w,hw,iW⟩:=g.get hg;rw[Nat.zero_add]at iW;cases iW with
    | @lst _ p zs _ _ h _ =>
     refine⟨p,zs,hw,h.1,h.2,?_⟩;have dv:k.toNat<xs.length:=by
      by_cases z:k.toNat<xs.length
      ·exact z
      ·rw[List.getElem?_eq_none (by left)]at hw;cases hw
     unfold KD L2.yM;rw[if_pos hk,if_pos (by left)];exact hw
   have go:∀{xs:ah} {p:Addr} {zs:ah},aI (a_ X.K H1) (nd X.K R (λ_=>False) τ H1) [i] 0 xs ds->xs[k.toNat]?=some (.ref p)->H1 p=some (.lst zs)->τ p=some [k.toNat,i]->aI (a_ X.K (upd H1 p (.lst []))) (nd X.K R (λ_=>False) τ (upd H1 p (.lst []))) [i] 0 xs (kI k.toNat (.lst .ow []) 0 ds):=by
    intro xs p zs g hx hp ht;refine aI.kI (λ_ _ h=>f_ hp h) (λc m a n f M h=>j.Ou hp ht (λz=>?_) h) g λm w hw M=>?_
    ·have:=aa5 List.reverse z;simp at this;exact M this.1
    ·rw[Nat.zero_add]at M;subst M;rw[hx]at hw;cases hw;exact .lst ⟨aY,ht⟩ .nil
   rcases hd with ⟨rfl,rfl⟩|⟨rfl,rfl⟩
   ·cases rv with
    | @tup _ a xs _ s g =>
     obtain⟨p,zs,W,e,b,t⟩:=B g;refine .inr ⟨a,xs,k,_,rfl,rfl,s,t,⟨rfl,_,dW.of e⟩,p,zs,rfl,rfl,e,?_⟩;exact I σ _ R τ (j.Yt J e b E (.tup (f_ e s) (go g W e b))) (kf (n:=.l _) j e1 (λ_ h=>h) e b)
   ·obtain⟨a,xs,rfl,s,g⟩:=rv.tH;obtain⟨p,zs,W,e,b,t⟩:=B g;refine .inl ⟨a,xs,k,_,rfl,rfl,s.sq,t,⟨rfl,_,dW.of e⟩,p,zs,rfl,rfl,e,?_⟩;refine I σ _ R τ (j.Yt J e b E (.lst (j.Ou e b (λz=>?_) s) (go g W e b))) (kf (n:=.l _) j e1 (λ_ h=>h) e b);have:=aa5 List.length z;simp at this
abbrev tw(h:Heap)(z TI TO a:Addr)(f:Bool):Prop :=
 h.get? z=some { cls:=.type "zip",dict:=none,data:=.fields #[rawInt a,.bool f,.bool false,.ref TI,.ref TO],slots:=#[] }
variable {oa:Obj}
section
variable {prog:aC}{w:World}{A:aB}{E:au}{s:Shared}
theorem Bn{a:Addr}{o:Obj}{Q:Option Obj->Shared->Prop}(b:s.heap.get? a=some o)(h:Q (some o) s):wpAny (model prog w) A (loadIfAlive a) Q E s:=by
 have h':Q (s.heap.get? a) s:=by rw[b];exact h
 exact λ_ _ _=>h'
theorem xO{z TI TO a:Addr}{f:Bool}{Q:Bool->Shared->Prop}(hz:tw s.heap z TI TO a f)(e:s.heap.get? a=some oa)(c:∀h',tw h' z TI TO a true->Heap.SameBut z s.heap h'->Q false { s with heap:=h' }):
  wpAny (model prog w) A (Builtin.SmallTypes.ownedTupleIsFree (.ref z)) Q E s:=by
 unfold Builtin.SmallTypes.ownedTupleIsFree;refine aaa (ab3 hz rfl (x:=rawInt a) rfl ?_);show wpAny _ _ (loadIfAlive ((a:Int).toNat) >>= _) _ _ _;rw[Int.toNat_natCast];refine aaa (Bn e ?_);simp only[Option.isNone_some,Bool.false_eq_true,if_false];refine aaa (ab3 hz rfl (x:=.bool f) rfl ?_);cases f with
 |true =>
  rw[if_neg (show ¬ ((Value.bool true != Value.bool true)=true) from Bool.false_ne_true)];exact aac (c s.heap hz (Heap.SameBut.refl _ _))
 |false =>
  rw[if_pos (show(Value.bool false != Value.bool true)=true from rfl)];exact aaa (wpAny_setField_rec hz (by simp) λb g d=>aac (c b g d))
theorem tG{z TI TO a:Addr}{f:Bool}{xs ys:bg}{x y:Value}{Q:au}(D:ZipApart z TI TO i1 i2 l1 l2)
  (hz:tw s.heap z TI TO a f) (r:s.heap.get? a=some oa) (O:IsPair s.heap TI (.ref i1) (.ref i2))
  (B:s.heap.IsListIter i1 l1 k1) (u:s.heap.IsListIter i2 l2 k2) (R:s.heap.IsList l1 xs) (l:s.heap.IsList l2 ys) (p:xs[k1]?=some x) (n:ys[k2]?=some y)
  (t:∀h',tw h' z TI TO a true->h'.IsListIter i1 l1 (k1+1)->h'.IsListIter i2 l2 (k2+1)->IsPair h' s.heap.objs.size x y->h'.objs.size=s.heap.objs.size+1 ->
   (∀c o,c≠z->c≠i1->c≠i2->s.heap.get? c=some o->h'.get? c=some o)->Q (.ref s.heap.objs.size) { s with heap:=h' }) :
  wpAny (model prog w) A (Builtin.«zip.__next__» ⟨[.ref z],[]⟩) (λfin m=>∃v,fin=.done (.ret v)/\Q v m) E s:=by
 show wpAny _ _ (field (.ref z) 2 >>= _) _ _ _;refine aaa (ab3 hz rfl (x:=.bool false) rfl ?_);show wpAny _ _ (field (.ref z) 3 >>= _) _ _ _;refine aaa (ab3 hz rfl (x:=.ref TI) rfl ?_);refine aaa (wpAny_seqItems O rfl ?_);show wpAny _ _ (Builtin.SmallTypes.ownedTupleIsFree (.ref z) >>= _) _ _ _;refine aaa (xO hz r λh₁ N g=>?_);simp only[Bool.false_eq_true,if_false];refine aaa ?_;rw[<- Array.forIn_toList];simp only[List.forIn_cons,List.forIn_nil];refine aaa (aaa (aa9 ?_));show wpAny _ _ (Builtin.SmallTypes.nextOf (.ref i1) >>= _) _ _ _;refine aaa (acg (B.extBut g.extBut D.i1z) (R.extBut g.extBut D.l1z) p λk M i=>aac ?_);refine aac ?_;refine aaa (aaa (aa9 ?_));show wpAny _ _ (Builtin.SmallTypes.nextOf (.ref i2) >>= _) _ _ _;refine aaa (acg ((u.extBut g.extBut D.i2z).extBut i.extBut D.i12.symm) ((l.extBut g.extBut D.l2z).extBut i.extBut D.l2i1) n λb L j=>aac ?_);refine aac ?_;refine aac ?_;have d:b.objs.size=s.heap.objs.size:=by rw[j.1,i.1,g.1]
 refine aaa (wpAny_newTuple ?_ (by show 2<=_;rw[sizeLine_eq];decide));refine aac ⟨_,rfl,?_⟩;show Q (.ref b.objs.size) _;have U:∀{c o},b.get? c=some o->c≠b.objs.size:=λe=>aao (aaj e);have q:∀c o,c≠z->c≠i1->c≠i2->s.heap.get? c=some o->(b.push { cls:=.type "tuple",data:=.seq #[x,y] }).get? c=some o:=λc o J I H e=>aai _ (j.extBut _ _ H (i.extBut _ _ I (g.extBut _ _ J e)));rw[d];refine t _ (aai _ (j.extBut _ _ D.i2z.symm (i.extBut _ _ D.i1z.symm N))) ((M.extBut j.extBut D.i12).at λo e=>aai _ e) (L.at λo e=>aai _ e) ?_ (by rw[Heap.size_push,d]) q;rw[<- d];exact aaD _ rfl
theorem vZ{z TI TO a:Addr}{f:Bool}{xs ys:bg}{Q:Fin->Shared->Prop}(n:A.handled=none)(D:ZipApart z TI TO i1 i2 l1 l2)
  (hz:tw s.heap z TI TO a f) (H:s.heap.get? a=some oa) (J:IsPair s.heap TI (.ref i1) (.ref i2))
  (q:s.heap.IsListIter i1 l1 k1) (I:s.heap.IsListIter i2 l2 k2) (t:s.heap.IsList l1 xs) (u:s.heap.IsList l2 ys) (v:xs[k1]?=none\/ys[k2]?=none)
  (p:∀h' e,(∀c o,c≠z->c≠i1->c≠i2->s.heap.get? c=some o->h'.get? c=some o)->(∃o,h'.get? e=some o/\o.cls=.type "StopIteration")->E (.ref e) { s with heap:=h' }) :
  wpAny (model prog w) A (Builtin.«zip.__next__» ⟨[.ref z],[]⟩) Q E s:=by
 show wpAny _ _ (field (.ref z) 2 >>= _) _ _ _;refine aaa (ab3 hz rfl (x:=.bool false) rfl ?_);show wpAny _ _ (field (.ref z) 3 >>= _) _ _ _;refine aaa (ab3 hz rfl (x:=.ref TI) rfl ?_);refine aaa (wpAny_seqItems J rfl ?_);show wpAny _ _ (Builtin.SmallTypes.ownedTupleIsFree (.ref z) >>= _) _ _ _;refine aaa (xO hz H λh₁ M d=>?_);simp only[Bool.false_eq_true,if_false];refine aaa ?_;rw[<- Array.forIn_toList];simp only[List.forIn_cons,List.forIn_nil];refine aaa (aaa (aa9 ?_));show wpAny _ _ (Builtin.SmallTypes.nextOf (.ref i1) >>= _) _ _ _;cases j:xs[k1]? with
 |none =>
  refine aaa (wpAny_nextOf_list_end n (q.extBut d.extBut D.i1z) (t.extBut d.extBut D.l1z) j λb e g k=>?_);exact p b e (λc o m l r x=>g _ _ l (d.extBut _ _ m x)) k
 |some x =>
  have B:ys[k2]?=none:=by rcases v with h|h;rw[j]at h;cases h;exact h
  refine aaa (acg (q.extBut d.extBut D.i1z) (t.extBut d.extBut D.l1z) j λb L g=>aac ?_);refine aac ?_;refine aaa (aaa (aa9 ?_));show wpAny _ _ (Builtin.SmallTypes.nextOf (.ref i2) >>= _) _ _ _;refine aaa (wpAny_nextOf_list_end n ((I.extBut d.extBut D.i2z).extBut g.extBut D.i12.symm) ((u.extBut d.extBut D.l2z).extBut g.extBut D.l2i1) B λi e y k=>?_);exact p i e (λc o m l r x=>y _ _ r (g.extBut _ _ l (d.extBut _ _ m x))) k
theorem ou{z TI TO a:Addr}{f:Bool}{xs ys:bg}{x y:Value}{Q:Option Value->Shared->Prop}(D:ZipApart z TI TO i1 i2 l1 l2)
  (hz:tw s.heap z TI TO a f) (i:s.heap.get? a=some oa) (m:IsPair s.heap TI (.ref i1) (.ref i2))
  (l:s.heap.IsListIter i1 l1 k1) (k:s.heap.IsListIter i2 l2 k2) (n:s.heap.IsList l1 xs) (d:s.heap.IsList l2 ys) (g:xs[k1]?=some x) (e:ys[k2]?=some y)
  (j:∀h',tw h' z TI TO a true->h'.IsListIter i1 l1 (k1+1)->h'.IsListIter i2 l2 (k2+1)->IsPair h' s.heap.objs.size x y->h'.objs.size=s.heap.objs.size+1 ->
   (∀c o,c≠z->c≠i1->c≠i2->s.heap.get? c=some o->h'.get? c=some o)->Q (some (.ref s.heap.objs.size)) { s with heap:=h' }) :
  wpAny (model prog w) A (pyNext (.ref z)) Q E s:=by
 have b:s.TypeIs (.ref z) "zip":=⟨_,hz,rfl⟩
 unfold pyNext;exact aaa (abJ (aba (name:=Str.ofString "__next__") b abX
  (aaY abX b PySem.F.entry_zip_next
   (tG D hz i m l k n d g e λh' a1 a2 a3 a4 a5 a6=>aac (j h' a1 a2 a3 a4 a5 a6)) (PySem.F.args_zip_next_1 _))))
theorem p_{z TI TO a:Addr}{f:Bool}{xs ys:bg}{Q:Option Value->Shared->Prop}(l:A.handled=none)(D:ZipApart z TI TO i1 i2 l1 l2)
  (hz:tw s.heap z TI TO a f) (p:s.heap.get? a=some oa) (u:IsPair s.heap TI (.ref i1) (.ref i2))
  (t:s.heap.IsListIter i1 l1 k1) (r:s.heap.IsListIter i2 l2 k2) (v:s.heap.IsList l1 xs) (g:s.heap.IsList l2 ys) (i:xs[k1]?=none\/ys[k2]?=none)
  (q:∀h',(∀c o,c≠z->c≠i1->c≠i2->s.heap.get? c=some o->h'.get? c=some o)->Q none { s with heap:=h' }):wpAny (model prog w) A (pyNext (.ref z)) Q E s:=by
 have d:s.TypeIs (.ref z) "zip":=⟨_,hz,rfl⟩
 unfold pyNext;refine aaa (abJ (aba (name:=Str.ofString "__next__") d abX
  (aaY abX d PySem.F.entry_zip_next (vZ l D hz p u t r v g i λh' e k m=>?_) (PySem.F.args_zip_next_1 _))))
 obtain⟨o,j,n⟩:=m;refine aaa (wpAny_isInstance (T:="StopIteration") (b:=true) ⟨o,j,n⟩ isSubtype_stop ?_);exact aac (q _ k)
end
theorem KN:typeLookup (.type "zip") "__len__" = pure none:=by rw[typeLookup_type,builtinLookup_eq_fast];kernel_rfl
theorem Pa:typeLookup (.type "zip") "__length_hint__" = pure none:=by rw[typeLookup_type,builtinLookup_eq_fast];kernel_rfl
section
variable {prog:aC}{w:World}{A:aB}{E:au}{s:Shared}
theorem FN{z:Addr}(b:s.TypeIs (.ref z) "zip"){Q:Bool->Shared->Prop}(h:Q true s):wpAny (model prog w) A (Builtin.List.listLengthHint (.ref z)) Q E s:=by
 unfold Builtin.List.listLengthHint;refine aaa (wpAny_specialOf b KN ?_);refine wpAny_ite_split (λa=>absurd a (by decide)) (λ_=>?_);refine wpAny_ite_split (λa=>absurd a (by decide)) (λ_=>?_);refine aaa (wpAny_specialOf b Pa ?_);exact aac h
end
structure Zl(h:Heap)(z TI TO i1 i2 l1 l2 S:Addr)(xs ys:bg)(i:Nat):Prop where
 st:(IsZip h z TI TO .none/\∃a b,IsPair h TO a b)\/∃a f oa,tw h z TI TO a f/\h.get? a=some oa/\S<a
 ti:IsPair h TI (.ref i1) (.ref i2)
 w1:h.IsListIter i1 l1 i
 w2:h.IsListIter i2 l2 i
 q1:h.IsList l1 xs
 q2:h.IsList l2 ys
structure Below(z TI TO i1 i2 l1 l2 S:Addr):Prop where
 D:ZipApart z TI TO i1 i2 l1 l2
 z:z<S
 TI:TI<S
 TO:TO<S
 i1:i1<S
 i2:i2<S
 l1:l1<S
 l2:l2<S
section
variable {prog:aC}{w:World}{A:aB}{E:au}{s:Shared}{z TI TO i1 i2 l1 l2 S:Addr}{xs ys:bg}{i:Nat}
theorem Zl.keep(B:Below z TI TO i1 i2 l1 l2 S)(Z:Zl h z TI TO i1 i2 l1 l2 S xs ys i)(c:∀b o,b≠S->h.get? b=some o->h'.get? b=some o):Zl h' z TI TO i1 i2 l1 l2 S xs ys i:=by
 have n:∀{b},b<S->b≠S:=λh=>aao h;refine⟨?_,c _ _ (n B.TI) Z.ti,Z.w1.at λo e=>c _ o (n B.i1) e,Z.w2.at λo e=>c _ o (n B.i2) e,Z.q1.at λo e=>c _ o (n B.l1) e,Z.q2.at λo e=>c _ o (n B.l2) e⟩;rcases Z.st with ⟨g,a,b,d⟩|⟨a,f,oa,g,d,j⟩
 ·exact .inl ⟨c _ _ (n B.z) g,a,b,c _ _ (n B.TO) d⟩
 ·exact .inr ⟨a,f,oa,c _ _ (n B.z) g,c _ _ (aaM j) d,j⟩
theorem FK{x y:Value}{Q:Option Value->Shared->Prop}(B:Below z TI TO i1 i2 l1 l2 S)(Z:Zl s.heap z TI TO i1 i2 l1 l2 S xs ys i)(t:S<s.heap.objs.size)(p:xs[i]?=some x)(m:ys[i]?=some y)
  (r:∀h',Zl h' z TI TO i1 i2 l1 l2 S xs ys (i+1)->IsPair h' s.heap.objs.size x y->h'.objs.size=s.heap.objs.size+1->(∀c o,c≠z->c≠TO->c≠i1->c≠i2->s.heap.get? c=some o->h'.get? c=some o)->Q (some (.ref s.heap.objs.size)) { s with heap:=h' }) :
  wpAny (model prog w) A (pyNext (.ref z)) Q E s:=by
 have D:=B.D;rcases Z.st with ⟨j,a,b,I⟩|⟨a,f,oa,j,q,d⟩
 ·refine wpAny_pyNext_zip_item D j Z.ti I Z.w1 Z.w2 Z.q1 Z.q2 p m λh' g J a1 k t1 l k1=>r h' ?_ t1 l k1;exact⟨.inr ⟨s.heap.objs.size,false,_,g,t1,t⟩,k1 _ _ D.TIz D.TITO D.TIi1 D.TIi2 Z.ti,a1,k,Z.q1.at λo e=>k1 _ o D.l1z D.l1TO D.l1i1 D.l1i2 e,Z.q2.at λo e=>k1 _ o D.l2z D.l2TO D.l2i1 D.l2i2 e⟩
 ·refine ou D j q Z.ti Z.w1 Z.w2 Z.q1 Z.q2 p m λh' g a1 k t1 l k1=>r h' ?_ t1 l λc o H _ v u e=>k1 c o H v u e;have n:∀{b},b<S->a≠b:=λh=>aaM (ab8 h d);exact⟨.inr ⟨a,true,oa,g,k1 _ _ (n B.z) (n B.i1) (n B.i2) q,d⟩,k1 _ _ D.TIz D.TIi1 D.TIi2 Z.ti,a1,k,Z.q1.at λo e=>k1 _ o D.l1z D.l1i1 D.l1i2 e,Z.q2.at λo e=>k1 _ o D.l2z D.l2i1 D.l2i2 e⟩
theorem FO{Q:Option Value->Shared->Prop}(j:A.handled=none)(B:Below z TI TO i1 i2 l1 l2 S)(Z:Zl s.heap z TI TO i1 i2 l1 l2 S xs ys i)(g:xs[i]?=none\/ys[i]?=none)
  (l:∀h',(∀c o,c≠z->c≠TO->c≠i1->c≠i2->s.heap.get? c=some o->h'.get? c=some o)->Q none { s with heap:=h' }):wpAny (model prog w) A (pyNext (.ref z)) Q E s:=by
 have D:=B.D;rcases Z.st with ⟨d,a,b,t⟩|⟨a,f,oa,d,m,n⟩
 ·exact wpAny_pyNext_zip_end j D d Z.ti t Z.w1 Z.w2 Z.q1 Z.q2 g l
 ·exact p_ j D d m Z.ti Z.w1 Z.w2 Z.q1 Z.q2 g λh' k=>l h' λc o r _ q p e=>k c o r q p e
end
structure Tc(xs ys:bg)(lo:Addr)(h:Heap)(as:aX):Prop where
 above:∀a∈as,lo<a
 nd:as.Nodup
 pairs:∀(j:Nat) (a:Addr),as[j]?=some a->∃x y,xs[j]?=some x/\ys[j]?=some y/\IsPair h a x y
section
variable {prog:aC}{w:World}{A:aB}{s:Shared}{R:Result->Shared->Prop}{z TI TO i1 i2 l1 l2 S:Addr}{xs ys:bg}
theorem FJ(hh:A.handled=none)(B:Below z TI TO i1 i2 l1 l2 S)(hn:min xs.size ys.size<=sizeLine)(res:Value) 
  (hR:∀h' tk d c as,(∀b o,b≠S->b≠z->b≠TO->b≠i1->b≠i2->h₁.get? b=some o->h'.get? b=some o)->h'.get? S=some { cls:=.type "list",dict:=none,data:=.seq d c,slots:=#[] }->as.length=min xs.size ys.size->Tc xs ys S h' as ->
   d.toList=as.map Value.ref->R (.ok (.ret res)) { s with heap:=h',toks:=tk }) :
  ∀(k i:Nat) (h:Heap) (tk c:Nat) (d:bg) (as:aX),min xs.size ys.size - i=k->i<=min xs.size ys.size->Zl h z TI TO i1 i2 l1 l2 S xs ys i->(∀b o,b≠S->b≠z->b≠TO->b≠i1->b≠i2->h₁.get? b=some o->h.get? b=some o) ->
   h.get? S=some { cls:=.type "list",dict:=none,data:=.seq d c,slots:=#[] }->d.toList=as.map Value.ref->as.length=i->Tc xs ys S h as ->
   codeAny (model prog w) A (.builtin "list.extend.loop" ⟨[.ref S,.ref z,res],[]⟩) R { s with heap:=h,toks:=tk }:=by
 have U:S≠z:=aaM B.z;have V:S≠TO:=aaM B.TO;have n1:S≠i1:=aaM B.i1;have W:S≠i2:=aaM B.i2;have Y4:∀{a:Addr},S<a->a≠z/\a≠TO/\a≠i1/\a≠i2:=λh=>⟨aaM (ab8 B.z h),aaM (ab8 B.TO h),aaM (ab8 B.i1 h),aaM (ab8 B.i2 h)⟩
 intro k;induction k with
 |zero =>
  intro i h tk c d as hk hi Z O I H E l;refine abQ PySem.F.entry_extend_loop ?_;rw[Around.under_plainId PySem.F.plain_extend_loop _];show wpAny _ A.in1 (pyNext (.ref z) >>= _) _ _ _;have uQ:xs[i]?=none\/ys[i]?=none:=by
   rcases Nat.le_total xs.size ys.size with q|q
   ·exact .inl (Array.getElem?_eq_none (by left))
   ·exact .inr (Array.getElem?_eq_none (by left))
  refine aaa (FO (s:={ s with heap:=h,toks:=tk }) (A:=A.in1) hh B Z uQ λh' M=>?_);refine aac (hR h' tk d c as (λb o J v u t r e=>M b o v u t r (O b o J v u t r e)) (M S _ U V n1 W I) (by left) ⟨l.above,l.nd,λj a g=>?_⟩ H);obtain⟨x,y,e1,e2,e3⟩:=l.pairs j a g;obtain⟨a1,a2,a3,a4⟩:=Y4 (l.above a (aaJ g));exact⟨x,y,e1,e2,M a _ a1 a2 a3 a4 e3⟩
 |succ k ih =>
  intro i h tk c d as hk hi Z O I H E l;have dv:i<min xs.size ys.size:=by left
  have hx:xs[i]?=some (xs[i]'(by left)):=abg _;have Y:ys[i]?=some (ys[i]'(by left)):=abg _;have p:d.size=i:=by rw[<- Array.length_toList,H,List.length_map,E]
  have N:S<h.objs.size:=aaj I;refine abQ PySem.F.entry_extend_loop ?_;rw[Around.under_plainId PySem.F.plain_extend_loop _];show wpAny _ A.in1 (pyNext (.ref z) >>= _) _ _ _;refine aaa (FK (s:={ s with heap:=h,toks:=tk }) B Z N hx Y λh' Z' ht hz L=>?_);dsimp only at ht hz L ⊢;have AF:=L S _ U V n1 W I;have up:∀b o,b≠S->h'.get? b=some o->(h'.update S (Obj.mapSeq (·.push (Value.ref h.objs.size)))).get? b=some o:=λb o m e=>(abd _ _ (ack m)).trans e;show wpAny _ A.in1 (updateSeq S (·.push (Value.ref h.objs.size)) >>= _) _ _ _;refine aaa ?_;refine acx AF rfl (aac ⟨plainId_quiet PySem.F.plain_extend_loop _,ih (i+1) _ tk _ (d.push (Value.ref h.objs.size)) (as++[h.objs.size]) (by left) dv (Z'.keep B up)
   (λb o J v u t r e=>up b o J (L b o v u t r (O b o J v u t r e))) (aa4 _ AF rfl) (by rw[Array.toList_push,H,List.map_append];rfl) (by rw[List.length_append,E];rfl) ⟨?_,?_,?_⟩⟩) (by rw[p];left) (by show(d.push (Value.ref h.objs.size)).size<=sizeLine+1;rw[Array.size_push,p];left)
  ·intro a n;rcases List.mem_append.mp n with n|n
   ·exact l.above a n
   ·rw[List.mem_singleton.mp n];exact N
  ·refine List.nodup_append.mpr ⟨l.nd,List.nodup_cons.mpr ⟨List.not_mem_nil,abo⟩,λa n b m e=>?_⟩;rw[List.mem_singleton.mp m]at e;subst e;obtain⟨j,g⟩:=List.mem_iff_getElem?.mp n;obtain⟨_,_,_,_,e⟩:=l.pairs j _ g;exact absurd (aaj e) (aaO _)
  ·intro j b g;rcases Nat.lt_trichotomy j as.length with q|q|q
   ·rw[List.getElem?_append_left q]at g;obtain⟨x',y',e1,e2,e3⟩:=l.pairs j b g;have m:=l.above b (aaJ g);obtain⟨a1,a2,a3,a4⟩:=Y4 m;exact⟨x',y',e1,e2,up b _ (aaM m) (L b _ a1 a2 a3 a4 e3)⟩
   ·subst q;have m:h.objs.size=b:=by simpa using g
    subst m;exact⟨_,_,by rw[E];exact hx,by rw[E];exact Y,up _ _ (aaM N) ht⟩
   ·have Ry:(as++[h.objs.size])[j]?=none:=List.getElem?_eq_none (by rw[List.length_append,List.length_singleton];left);rw[Ry]at g;exact nk g
theorem zO(y:A.handled=none)(B:Below z TI TO i1 i2 l1 l2 S)(v:min xs.size ys.size<=sizeLine)(Z:Zl s.heap z TI TO i1 i2 l1 l2 S xs ys 0)(t:IsZip s.heap z TI TO .none)(res:Value)(d:Nat)(q:s.heap.get? S=some { cls:=.type "list",data:=.seq #[] d })
  (hR:∀h' tk g c as,(∀b o,b≠S->b≠z->b≠TO->b≠i1->b≠i2->s.heap.get? b=some o->h'.get? b=some o)->h'.get? S=some { cls:=.type "list",dict:=none,data:=.seq g c,slots:=#[] }->as.length=min xs.size ys.size->Tc xs ys S h' as ->
   g.toList=as.map Value.ref->R (.ok (.ret res)) { s with heap:=h',toks:=tk }) :
  wpAny (model prog w) A.in1 (Builtin.List.listExtendWith (.ref S) (.ref z) res)
   (λfin i=>match fin with|.done f=>R (.ok f) i|.again c'=>c'.quiet=true/\codeAny (model prog w) A c' R i) (λe i=>R (.error e) i) s:=by
 have k:S≠z:=aaM B.z;have p:s.TypeIs (.ref z) "zip":=⟨_,t,rfl⟩
 unfold Builtin.List.listExtendWith;refine aaa (wpAny_typeOf (T:="zip") p ?_);have l:Builtin.List.listSameRef (.ref S) (.ref z)=false:=by simp[Builtin.List.listSameRef,k]
 have I:(Value.type "zip" == Value.type "list")=false:=by decide
 have H:(Value.type "zip" == Value.type "tuple")=false:=by decide
 simp only[l,I,H,Bool.or_false,Bool.false_eq_true,if_false];refine aaa (wpAny_pyIter_zip t ?_);refine aaa (aa9 (FN p ?_));refine wpAny_ite_split (λ_=>?_) (λu=>absurd rfl u);refine aaa (abq ?_);refine aaa ?_;show wpAny _ _ (updateSeq S (·.push .none) >>= λ_=>updateSeq S (·.pop)) _ _ _;refine aaa (acx q rfl ?_);have m:=aa4 (Obj.mapSeq (·.push Value.none)) q rfl;refine acx (hz:=by seq_fits) m rfl ?_;have J:=aa4 (Obj.mapSeq (·.pop)) m rfl;have r:∀b o,b≠S->s.heap.get? b=some o->((s.heap.update S (Obj.mapSeq (·.push Value.none))).update S (Obj.mapSeq (·.pop))).get? b=some o:=λb o n e=>(abd _ _ (ack n)).trans ((abd _ _ (ack n)).trans e);refine aac ⟨plainId_quiet PySem.F.plain_extend_loop _,?_⟩;exact FJ y B v res (s:=s) (h₁:=s.heap) hR (min xs.size ys.size) 0 _ s.toks _ #[] [] (Nat.sub_zero _) (aaZ _) (Z.keep B r) (λb o l _ _ _ _ e=>r b o l e) J rfl rfl ⟨(λ_ E=>nomatch E),abo,λj a x=>by simp at x⟩
theorem FL(q:A.handled=none)(B:Below z TI TO i1 i2 l1 l2 S)(m:min xs.size ys.size<=sizeLine)(Z:Zl s.heap z TI TO i1 i2 l1 l2 S xs ys 0)(E:IsZip s.heap z TI TO .none)(g:s.heap.get? S=some { cls:=.type "list",data:=.seq #[] })
  (hR:∀h' tk a c as,(∀b o,b≠S->b≠z->b≠TO->b≠i1->b≠i2->s.heap.get? b=some o->h'.get? b=some o)->h'.get? S=some { cls:=.type "list",dict:=none,data:=.seq a c,slots:=#[] }->as.length=min xs.size ys.size->Tc xs ys S h' as ->
   a.toList=as.map Value.ref->R (.ok (.ret .none)) { s with heap:=h',toks:=tk }) :
  wpAny (model prog w) A.in1 (Builtin.«list.__init__» ⟨[.ref S,.ref z],[]⟩)
   (λfin d=>match fin with|.done f=>R (.ok f) d|.again c'=>c'.quiet=true/\codeAny (model prog w) A c' R d) (λe d=>R (.error e) d) s:=by
 show wpAny _ _ (do let old <- Builtin.List.listItems (.ref S);Builtin.List.listUpdate (.ref S) (λ_=>#[]);letGo old.toList.reverse;Builtin.List.listExtendWith (.ref S) (.ref z) .none) _ _ s;refine aaa ?_;unfold Builtin.List.listItems;refine aaa (wpAny_seqItems g rfl (aac ?_));show wpAny _ _ (updateSeq S (λ_=>#[]) >>= λ_=>letGo (#[]:bg).toList.reverse >>= λ_=>Builtin.List.listExtendWith (.ref S) (.ref z) .none) _ _ s;refine aaa (acx g rfl ?_);have k:=aa4 (Obj.mapSeq (λ_=>(#[]:bg))) g rfl;have i:∀b o,b≠S->s.heap.get? b=some o->(s.heap.update S (Obj.mapSeq (λ_=>(#[]:bg)))).get? b=some o :=
  λb o r e=>(abd _ _ (ack r)).trans e
 refine aaa (wpAny_letGo ?_);refine zO q B m (Z.keep B i) (i _ _ (aao B.z) E) .none _ k λh' tk a c as p H n t l=>?_;exact hR h' tk a c as (λb o j y x v u e=>p b o j y x v u (i b o j e)) H n t l
end
section
variable {prog:aC}{w:World}{A:aB}{E:au}{s:Shared}{z TI TO i1 i2 l1 l2:Addr}{xs ys:bg}
theorem FP{Q:au}(v:A.handled=none)(D:ZipApart z TI TO i1 i2 l1 l2)(r:min xs.size ys.size<=sizeLine)(hz:IsZip s.heap z TI TO .none)(p:IsPair s.heap TI (.ref i1) (.ref i2)){a b:Value}(n:IsPair s.heap TO a b)(m:s.heap.IsListIter i1 l1 0)(j:s.heap.IsListIter i2 l2 0)(q1:s.heap.IsList l1 xs)(k:s.heap.IsList l2 ys)
  (x:∀h' tk d c as,(∀b o,b≠z->b≠TO->b≠i1->b≠i2->s.heap.get? b=some o->h'.get? b=some o)->h'.get? s.heap.objs.size=some { cls:=.type "list",dict:=none,data:=.seq d c,slots:=#[] }->as.length=min xs.size ys.size->Tc xs ys s.heap.objs.size h' as ->
   d.toList=as.map Value.ref->Q (.ref s.heap.objs.size) { s with heap:=h',toks:=tk }) :
  wpAny (model prog w) A (call (.type "list") [.ref z]) Q E s:=by
 refine callType_codes (Q₁:=λi g=>i=.ref s.heap.objs.size/\g={ s with heap:=s.heap.push { cls:=.type "list",data:=.seq #[] } }) PySem.F.called_list (PySem.F.typeCall_list_1 _) PySem.F.entry_list_init
  (code_list_new _ ⟨rfl,rfl⟩) λi g h₁=>?_
 obtain⟨rfl,rfl⟩:=h₁;have l:(s.heap.push { cls:=.type "list",data:=.seq #[] }).get? s.heap.objs.size=some { cls:=.type "list",data:=.seq #[] }:=aaD _ rfl;have up:∀b o,s.heap.get? b=some o->(s.heap.push { cls:=.type "list",data:=.seq #[] }).get? b=some o:=λb o e=>aai _ e;have B:Below z TI TO i1 i2 l1 l2 s.heap.objs.size:=⟨D,aaj hz,aaj p,aaj n,(by obtain⟨_,e,_⟩:=m;exact aaj e),(by obtain⟨_,e,_⟩:=j;exact aaj e),(by obtain⟨_,e,_⟩:=q1;exact aaj e),(by obtain⟨_,e,_⟩:=k;exact aaj e)⟩
 refine⟨⟨_,l,rfl⟩,PySem.F.args_list_init_2 _ _,FL (A:=A.in1) v B r ⟨.inl ⟨up _ _ hz,a,b,up _ _ n⟩,up _ _ p,m.at λo e=>up _ o e,j.at λo e=>up _ o e,q1.at λo e=>up _ o e,k.at λo e=>up _ o e⟩ (up _ _ hz) l λh' tk d c as u L t y q=>?_⟩;exact⟨rfl,x h' tk d c as (λb o j J I H e=>u b o (aao (aaj e)) j J I H (up b o e)) L t y q⟩
end
theorem Inv.Q6{pins:ao}{H:Hp}{s:Shared}(I:Inv X pins σ H s)(k:∀b u,s.heap.get? b=some u->h'.get? b=some u)(up:∀b u,H b=some u->H' b=some u)
  (a:∀b u,H' b=some u->H b=some u\/(s.heap.objs.size<=b/\cK H' h' b u)):Inv X pins σ H' { s with heap:=h',toks:=t' }:=by
 refine I.step (g':=s.gens) (d':=s.drawn) (ch:=[]) (λb g=>nomatch g) (λb o _ _ _ e _=>k b o e) (λb o _ _ _ e _=>⟨o.slots,k b o e⟩) (λb u _ e n=>?_)
  (λb o _ e=>⟨o,k b o e⟩) (λ_ _ e=>up _ _ e) (λ_ _ _ e=>up _ _ e) (λm d=>?_) (λb u e=>?_) I.bare
 ·cases q:H' b with
  |none=>rfl
  |some v =>
   rcases a b v q with z|⟨z,_⟩
   ·rw[n]at z;exact nk z
   ·exact absurd (aaj e) (Nat.not_lt.mpr z)
 ·obtain⟨o,es,ep,c,r⟩:=d;exact⟨o,es,ep,k _ o c,r⟩
 ·rcases a b u e with e|⟨_,e⟩
  ·exact(I.cJ b u e).kM (k b)
  ·exact e
def qk(H:Hp):List (Addr×V×V)->Hp
 |[]=>H
 |q::r=>upd (qk H r) q.1 (.tup [q.2.1,q.2.2])
theorem kT{H:Hp}{b:Addr}{u:HO}(e:H b=some u):∀{r:List (Addr×V×V)},(∀q∈r,H q.1=none)->qk H r b=some u
 |[],_=>e
 |q::r,h=>by
  have c:b≠q.1:=λz=>by rw[z,h q List.mem_cons_self]at e;cases e
  show upd (qk H r) q.1 _ b=_;rw[bq c];exact kT e λq a=>h q (aad _ a)
theorem yK{H:Hp}:∀{r:List (Addr×V×V)},(r.map (·.1)).Nodup->∀q∈r,qk H r q.1=some (.tup [q.2.1,q.2.2])
 |[],_,_,h=>nomatch h
 |q'::r,hn,q,h=>by
  show upd (qk H r) q'.1 _ q.1=_;have a:=List.nodup_cons.mp hn;rcases List.mem_cons.mp h with rfl|h
  ·exact aY
  ·have:q.1≠q'.1:=λz=>a.1 (by show q'.1∈_;rw[<- z];exact aa1 h);rw[bq this];exact yK a.2 q h
theorem uH{H:Hp}{b:Addr}{u:HO}:∀{r:List (Addr×V×V)},qk H r b=some u->H b=some u\/∃q∈r,q.1=b/\u=.tup [q.2.1,q.2.2]
 |[],e=>.inl e
 |q::r,e=>by
  replace e:upd (qk H r) q.1 (.tup [q.2.1,q.2.2]) b=some u:=e;by_cases z:b=q.1
  ·subst z;rw[aY]at e;cases e;exact .inr ⟨q,aaf,rfl,rfl⟩
  ·rw[bq z]at e;rcases uH e with h|⟨q',c,a⟩
   ·exact .inl h
   ·exact .inr ⟨q',aad _ c,a⟩
def tLZ(K:av)(ta:TA):TE:=λσ H Q=>ta σ H λvs H1=>∃a b xs ys,vs=[.ref a,.ref b]/\dW K H1 a xs/\dW K H1 b ys /\
 ∀(l:Addr) (r:List (Addr×V×V)),H1 l=none->(∀q∈r,H1 q.1=none)->(r.map (·.1)).Nodup->l∉r.map (·.1)->r.map (·.2)=xs.zip ys->Q (.ref l) (upd (qk H1 r) l (.lst (r.map λq=>V.ref q.1)))
theorem He{p:Pos}(hc:X.calm=true)(W_:Gl X "list")(L:X.mg "list" = none)(hg:Gl X "zip")(M:X.mg "zip" = none)(ha:PA X [e1,e2] ta)(hs:∀es,starEach (e1::es) X.env=(false,eval e1 X.env)::starEach es X.env)(Fy:∀es,starEach (e2::es) X.env=(false,eval e2 X.env)::starEach es X.env):
  PE X (.Call (.Name "list" p') [.Call (.Name "zip" p) [e1,e2] [] pos] [] pos') (tLZ X.K ta):=by
 intro pins s σ H Q I h;refine abt (iz I W_ L boot_list ?_);refine aaW ?_;show wpAny _ _ (spliced ((false,eval (.Call (.Name "zip" p) [e1,e2] [] pos) X.env)::backTo pos' (starEach [] X.env))) _ _ s;refine acF ?_;refine Call_ (iz I hg M boot_zip (aaW (dF (ha pos pins s σ H _ I h) λus d cg=>?_) (hs _) (by rw[Fy];rfl)));obtain⟨vs,H1,m,r1,q1⟩:=cg;obtain⟨a,b,xs,ys,e,q1,q2,i⟩:=q1;subst e;obtain⟨u,v,rfl,ru,rv⟩:=vals2 r1;cases ru;cases rv;obtain⟨aW,rx,E,ZI⟩:=m.list q1;obtain⟨g,ry,B,OC⟩:=m.list q2;refine call_zip_2 E.isList B.isList λh' z t o l1 l2 sz k=>acK ?_;have Bb:h'.IsList a aW.toArray:=E.isList.at λo e=>k _ o e;have vT:h'.IsList b g.toArray:=B.isList.at λo e=>k _ o e;have cls:∀{x y:Addr} {o u:Obj},h'.get? x=some o->h'.get? y=some u->o.cls≠u.cls->x≠y:=λh1 h2 h3=>dm h1 h2 h3;have al:@LT.lt Nat _ a d.heap.objs.size:=by obtain⟨_,e,_⟩:=E.isList;exact aaj e
 have bl:@LT.lt Nat _ b d.heap.objs.size:=by obtain⟨_,e,_⟩:=B.isList;exact aaj e
 have D:ZipApart (d.heap.objs.size+4) (d.heap.objs.size+2) (d.heap.objs.size+3) d.heap.objs.size (d.heap.objs.size+1) a b:=by
  constructor<;>first|exact aao (by left)|exact aaM (by left)
 have lx:=rx.length;have ly:=ry.length;have hn:min aW.toArray.size g.toArray.size<=sizeLine:=by simp;left
 refine FP (s:={ d with heap:=h' }) (m.ok.hd hc) D hn z t o l1 l2 Bb vT λR tk U c as N O hl l iA=>?_;dsimp only at N O l ⊢;have hlen:as.length=(xs.zip ys).length:=by rw[hl,List.length_zip];simp;left
 have keep:∀b o,d.heap.get? b=some o->R.get? b=some o:=λb o e=>by
  have:@LT.lt Nat _ b d.heap.objs.size:=aaj e;exact N b o (aao (by left)) (aao (by left)) (aao (by left)) (aao (by left)) (k b o e)
 have fresh:∀c,d.heap.objs.size<=c->H1 c=none:=λc h=>m.cJ.fresh h;have hS5:h'.objs.size=d.heap.objs.size+5:=sz
 let r:List (Addr×V×V):=as.zip (xs.zip ys)
 have r1:r.map (·.1)=as:=List.map_fst_zip (by left);have r2:r.map (·.2)=xs.zip ys:=List.map_snd_zip (by left);have n:∀c∈as,@LT.lt Nat _ h'.objs.size c:=l.above;have W:∀q∈r,H1 q.1=none:=λq i=>fresh _ (by have:=n q.1 (by rw[<- r1];exact aa1 i);left);have ql:H1 h'.objs.size=none:=fresh _ (by left);have OH:h'.objs.size∉r.map (·.1):=by rw[r1];exact λz=>absurd (n _ z) (aaO _)
 have p7:(r.map (·.1)).Nodup:=by rw[r1];exact l.nd
 have Y:(as.map V.ref)=r.map λq=>V.ref q.1:=by rw[<- r1,List.map_map];rfl
 refine⟨.ref h'.objs.size,upd (qk H1 r) h'.objs.size (.lst (r.map λq=>V.ref q.1)),?_,rfl,i _ r ql W p7 OH r2⟩;refine Inv.Q6 (s:=d) (t':=tk) m keep (λb u e=>?_) λb u e=>?_
 ·rw[bq λz=>by rw[z,ql]at e;cases e];exact kT e W
 ·by_cases Z:b=h'.objs.size
  ·subst Z;rw[aY]at e;cases e;refine .inr ⟨by left,?_,U.toList,c,?_,by rw[Array.toArray_toList];exact O⟩
   ·rw[<- Y,List.length_map,hlen,List.length_zip];left
   ·rw[<- Y,iA];clear iA Y l hl hlen r1 n p7 r r2 W OH O N keep;induction as with
    |nil=>exact .nil
    |cons a as ih=>exact .cons rfl ih
  ·rw[bq Z]at e;rcases uH e with e|⟨q,i,rfl,rfl⟩
   ·exact .inl e
   ·have M:q.1∈as:=by rw[<- r1];exact aa1 i
    refine .inr ⟨by have:=n _ M;left,?_⟩;obtain⟨j,hj⟩:=List.mem_iff_getElem?.mp i;have yW:as[j]?=some q.1/\(xs.zip ys)[j]?=some q.2:=by
     have:=List.getElem?_zip_eq_some.mp hj;exact this
    obtain⟨x,y,ex,ey,hp⟩:=l.pairs j q.1 yW.1;obtain⟨e1,e2⟩:xs[j]?=some q.2.1/\ys[j]?=some q.2.2:=List.getElem?_zip_eq_some.mp yW.2;obtain⟨u1,Wx,VN⟩:=rx.get e1;obtain⟨u2,J,VM⟩:=ry.get e2;rw[List.getElem?_toArray,Wx]at ex;rw[List.getElem?_toArray,J]at ey;cases ex;cases ey;exact xX VN VM hp
noncomputable def pairD(x y:D):D:=.tup [x,y]
def QZ(xs:aa):O D:=match two xs with
 |some z=>match z.1 with
  |.lst _ a=>match z.2 with
   |.lst _ b=>ok (.lst .ow (aA bp (List.zipWith pairD a b)))
   |_=>none
  |_=>none
 |none=>none
theorem Mm{x y d:D}(h:QZ [x,y]=ok d):∃f a g b,x=.lst f a/\y=.lst g b/\d=.lst .ow (aA bp (List.zipWith pairD a b)):=by
 cases x<;>first|exact nk h | (cases h;done)|skip
 cases y<;>first|exact nk h | (cases h;done)|skip
 cases h;exact⟨_,_,_,_,rfl,rfl,rfl⟩
def EN(sc:Scope)(bl:ak)(e:Expr):Option (aq):=(gJ e).bind λz=>(one z.2).bind λi=>if z.1=("list" : Str)/\iB sc z.1=true/\z.1∈bl then pP sc bl i else none
theorem EM{sc:Scope}{bl:ak}{e:Expr}(h:EN sc bl e=some args):∃p pos i,e=.Call (.Name ("list" : Str) p) [i] [] pos/\iB sc ("list" : Str)=true/\("list" : Str)∈bl/\pP sc bl i=some args:=by
 obtain⟨⟨x,as⟩,c,h⟩:=bT h;obtain⟨a,hw,h⟩:=bT h;obtain⟨d,b⟩:=gT h;obtain⟨rfl,j,g⟩:=d;obtain⟨p,pos,rfl⟩:=cY c;obtain rfl:=cO hw;exact⟨p,pos,a,rfl,j,g,b⟩
theorem uf{T:nF}{N:h_}(c:∀k k' p xs f,N k p xs f->N k' p xs f):∀{r:List (Addr×V×V)} {xs ys:ah} {a b:aa} {k1 k2 k:bt} {n1 d n:Nat},aI T N k1 n1 xs a->aI T N k2 d ys b->r.map (·.2)=xs.zip ys->(∀q∈r,T q.1 [q.2.1,q.2.2])->aI T N k n (r.map λq=>V.ref q.1) (List.zipWith pairD a b)
 |[],xs,ys,a,b,_,_,_,_,_,_,r1,r2,e,_=>by
  have l1:=r1.length;have l2:=r2.length;have l:=aa5 List.length e;rw[List.length_zip]at l;have:List.zipWith pairD a b=[]:=List.eq_nil_of_length_eq_zero (by rw[List.length_zipWith];simp at l;left);rw[this];exact .nil
 |q::r,xs,ys,a,b,k1,k2,k,n1,d,n,r1,r2,e,ht=>by
  cases r1 with
  |nil=>cases e
  |cons t t1=>cases r2 with
   |nil=>cases e
   |cons s t2 =>
    have e1:q.2=(_,_):=(ab2 e).1;have e2:=(ab2 e).2;refine .cons (.tup (ht q aaf) ?_) (uf c t1 t2 e2 λq m=>ht q (aad _ m));rw[e1];have j:=Rep.iy (T':=T) (N':=N) (g:=id) (λ_ _ h=>h) c t (0::n::k);have i:=Rep.iy (T':=T) (N':=N) (g:=id) (λ_ _ h=>h) c s (1::n::k);rw[d_]at j i;exact .cons j (.cons i .nil)
theorem gh(g:Fl->Fl):∀a b:aa,aA g (List.zipWith pairD a b)=List.zipWith pairD (aA g a) (aA g b)
 |[],_=>by cases ‹aa› <;> rfl
 |_::_,[]=>rfl
 |x::a,y::b=>by
  show aR g (pairD x y)::aA g (List.zipWith pairD a b)=_;rw[gh g a b];rfl
theorem QY{n:Nat}(u:Φ n=QZ){sc:Scope}{bl:ak}{k:Nat}(L:PX X sc bl k){e:Expr}(he:EN sc bl e=some args)(hs:nG X F Φ cs args):PE X e (tD X F Φ (.cS n cs))/\PT X e (ig X F Φ (.cS n cs)):=by
 obtain⟨p,pos,i,rfl,h1,h2,B⟩:=EM he;obtain⟨p',pos',a,b,rfl,rfl,h3,h4⟩:=rg B;obtain⟨⟨c,d,rfl,_,_⟩,Z,O,N⟩:=kc hs;have this:PE X (.Call (.Name ("list" : Str) p) [.Call (.Name ("zip" : Str) p') [a,b] [] pos'] [] pos) (tD X F Φ (.cS n [c,d])):=by
  refine PE.imp (He L.calm (L.gl h1) (L.bl _ h2) (L.gl h3) (L.bl _ h4) Z O N) λσ H Q m=>?_;obtain⟨R,τ,ρ,d',I,j,m⟩:=m;obtain⟨xs,cM,j⟩:=aJ j;rw[u]at j;refine⟨R,τ,ρ,xs,I,cM,λvs H1 e1 r1=>?_⟩;obtain⟨τt,M,Y⟩:=r1;have t:∃x y,xs=[x,y]:=by
   unfold QZ at j;cases hw:two xs with
   |none=>rw[hw]at j;exact nk j
   |some z=>exact⟨z.1,z.2,gx hw⟩
  obtain⟨x,y,rfl⟩:=t;obtain⟨f,da,g,db,rfl,rfl,rfl⟩:=Mm j;obtain⟨v,w,rfl,W,U⟩:=Y.two;cases W with
  |lst hx ax=>cases U with
   |lst hy ay =>
    refine⟨_,_,_,_,rfl,hx.sq,hy.sq,λl r t J hn OH B=>m _ _ ?_ ?_⟩
    ·intro b o e;have E:=e1 b o e;rw[bq λz=>by rw[z,t]at E;cases E];exact kT E J
    ·have s:aL H1 (upd (qk H1 r) l (.lst (r.map λq=>V.ref q.1))):=λb o e=>by
      rw[bq λz=>by rw[z,t]at e;cases e];exact kT e J
     refine cI.Ab (e1.free t) (e1.trans s) aY ?_;rw[gh];refine uf nd.uX ((ax.iR I M (k':=[]) (n':=0)).imp (λ_ _ h=>a_.same s h) λ_ _ _ _ h=>nd.same s h) ((ay.iR I M (k':=[]) (n':=0)).imp (λ_ _ h=>a_.same s h) λ_ _ _ _ h=>nd.same s h) B λq m=>?_;have Av:q.1≠l:=λz=>OH (by rw[<- z];exact aa1 m);exact a_.of (by rw[bq Av];exact yK hn q m)
 exact⟨this,cZ this λ_=>rfl⟩
theorem aI.Kt{T:nF}{N:h_}{k:bt}:∀(j:Nat) {n:Nat} {vs:ah} {ds:aa},aI T N k n vs ds->aI T N k (n+j) (vs.drop j) (ds.drop j)
 |0,_,_,_,h=>h
 |j+1,_,_,_,.nil=>.nil
 |j+1,n,_,_,.cons h t=>by
  rw[show n+(j+1)=n+1+j by left];exact aI.Kt j t
theorem aI.Jw{T:nF}{N:h_}{k:bt}:∀(j:Nat) {n:Nat} {vs:ah} {ds:aa},aI T N k n vs ds->aI T N k n (vs.take j) (ds.take j)
 |0,_,_,_,_=>by rw[List.take_zero,List.take_zero];exact .nil
 |j+1,_,_,_,.nil=>.nil
 |j+1,n,_,_,.cons h t=>.cons h (aI.Jw j t)
noncomputable def qq{a:Type}(b:Bool)(k:Nat)(xs:List a):List a:=if b then xs.drop k else xs.take k
def Qt(K:av)(b:Bool):V->Option Int->Option Int->Hp->VK->Prop:=λx c d H Q=>∃(a:Addr) (xs:ah) (k:Nat),x=.ref a/\dW K H a xs/\c=(if b then some (k:Int)else none)/\d=(if b then none else some (k:Int))/\k<=xs.length/\∀p,H p=none->Q (.ref p) (upd H p (.lst (qq b k xs)))
theorem Gy(b:Bool):SlR X (Qt X.K b):=by
 intro pins s σ H x v z y E L B Q I i t m l h;obtain⟨a,xs,k,rfl,p,rfl,rfl,J,q⟩:=h;cases i;obtain⟨c,r,u,d⟩:=I.list p;have g:=eO u;have hlen:c.length=xs.length:=r.length.symm;refine⟨"list",_,slot_list_getitem.lookup,g.typeIs,wpAny_getItem_list_slice g t m l .none (by simp) ?_ (by rw[List.size_toArray,hlen];exact d)⟩;have e:slicePick c.toArray (if b then some (k:Int)else none) (if b then none else some (k:Int)) none=(qq b k c).toArray:=by
  cases b with
  |true=>exact slicePick_from c.toArray k (by simp;left)
  |false=>exact slicePick_upto c.toArray k (by simp;left)
 have j:Vals (qq b k xs) (qq b k c):=by
  cases b with
  |true=>exact r.drop k
  |false=>exact r.take k
 have n:(qq b k xs).length<=xs.length:=by
  cases b with
  |true=>show(xs.drop k).length<=_;rw[List.length_drop];left
  |false=>show(xs.take k).length<=_;rw[List.length_take];left
 rw[e];exact⟨.ref s.heap.objs.size,_,I.Q1 (t':=s.toks) j (aaR n d),rfl,q _ I.fresh⟩
def cutD(b:Bool)(xs:aa):O D:=match two xs with
 |some z=>match z.1 with
  |.lst _ ds=>match z.2 with
   |.int k=>if 0<=k/\k<=ds.length then ok (.lst .ow (aA bp (qq b k.toNat ds)))else none
   |_=>none
  |_=>none
 |none=>none
set_option tactic.hygienic true in
theorem IM{b:Bool}{x y d:D}(h:cutD b [x,y]=ok d):∃(f:Fl) (ds:aa) (k:Nat),x=.lst f ds/\y=.int k/\k<=ds.length/\d=.lst .ow (aA bp (qq b k ds)):=by
 cases x<;>first|exact nk h | (cases h;done) | (cases y<;>first|exact nk h | (cases h;done)|skip)
 obtain⟨⟨c,e⟩,a⟩:=sF h;rename_i f ds k;exact⟨f,ds,k.toNat,rfl,by rw[Int.toNat_of_nonneg c],by left,a.symm⟩
noncomputable def Pt(b:Bool)(e:Expr):Option Expr:=match e with
 |.Slice a c st _=>match st with
  |none=>match b with
   |true=>match c with
    |none=>a
    |some _=>none
   |false=>match a with
    |none=>c
    |some _=>none
  |some _=>none
 |_=>none
set_option tactic.hygienic true in
theorem F6{b:Bool}{e k:Expr}(h:Pt b e=some k):∃p,e=.Slice (if b then some k else none) (if b then none else some k) none p:=by
 cases e<;>first|exact nk h | (cases h;done)|skip
 rename_i a c st p;cases st with
 |some _=>cases h
 |none=>cases b with
  |true=>cases c with
   |some _=>cases h
   |none=>cases h;exact⟨p,rfl⟩
  |false=>cases a with
   |some _=>cases h
   |none=>cases h;exact⟨p,rfl⟩
def xB(b:Bool)(_:Scope)(_:ak)(e:Expr):Option (aq):=(tL e).bind λz=>(Pt b z.2).bind λk=>some [z.1,k]
theorem AU{b:Bool}{sc:Scope}{bl:ak}{e:Expr}(h:xB b sc bl e=some args):∃a k p pos,e=.Subscript a (.Slice (if b then some k else none) (if b then none else some k) none p) pos/\args=[a,k]:=by
 obtain⟨⟨a,s⟩,c,h⟩:=bT h;obtain⟨k,hw,h⟩:=bT h;cases h;obtain⟨pos,rfl⟩:=jy c;obtain⟨p,rfl⟩:=F6 hw;exact⟨a,k,p,pos,rfl,rfl⟩
theorem NZ{b:Bool}{n:Nat}(M:Φ n=cutD b){sc:Scope}{bl:ak}{k:Nat}(L:PX X sc bl k){e:Expr}(he:xB b sc bl e=some args)(hs:nG X F Φ cs args):PE X e (tD X F Φ (.cS n cs))/\PT X e (ig X F Φ (.cS n cs)):=by
 obtain⟨a,m,p,pos,rfl,rfl⟩:=AU he;cases cs with
 |nil=>exact hs.elim
 |cons c cs=>cases cs with
  |nil=>exact hs.2.2.2.elim
  |cons c' cs=>cases cs with
   |cons _ _=>exact hs.2.2.2.2.2.2.elim
   |nil =>
    obtain⟨h1,_,_,Y,_,_,_⟩:=hs;have this:PE X (.Subscript a (.Slice (if b then some m else none) (if b then none else some m) none p) pos) (tD X F Φ (.cS n [c,c'])):=by
     have go:∀{tl E:TO},PO X (if b then some m else none) tl->PO X (if b then none else some m) E->(∀(H1:Hp) (R:ai) (τ:Addr->Option bt) (ρ:bo) (k:Nat) (σ:St) (Q:Option Int->Option Int->Hp->Prop),SI X F R τ ρ σ H1->bz Φ c' ρ=ok (.int k)->(∀H2,aL H1 H2->Q (if b then some (k:Int)else none) (if b then none else some (k:Int)) H2)->tl σ H1 λl H2=>E σ H2 λu W=>Q l u W)->PE X (.Subscript a (.Slice (if b then some m else none) (if b then none else some m) none p) pos) (tD X F Φ (.cS n [c,c'])):=by
      intro tl E pl pu hh;refine PE.imp (Cz (Gy b) h1 pl pu) λσ H Q N=>?_;obtain⟨R,τ,ρ,d,g,z,N⟩:=N;obtain⟨xs,t,z⟩:=aJ z;obtain⟨x,ex,t⟩:=aJ t;obtain⟨ys,B,t⟩:=aJ t;cases t;obtain⟨y,ey,B⟩:=aJ B;cases B;rw[M]at z;obtain⟨f,ds,j,rfl,rfl,hj,rfl⟩:=IM z;refine tD.intro g ex λv H1 e1 r1=>hh H1 R τ ρ j σ (λl u W=>Qt X.K b v l u W Q) (g.go e1) ey λH2 e2=>?_;have r:=(r1.go e2).mono (fv':=iX (.cS n [c,c'])) λi hi=>aaK _ hi;obtain⟨τt,fr,Z⟩:=r;obtain⟨q,xs,rfl,hn,I⟩:=Z.tH;have V:=e1.trans e2;refine⟨q,xs,j,rfl,hn.sq,rfl,rfl,by rw[I.length];exact hj,λl s=>N _ _ (V.trans (aL.upd s)) (cI.Ab (V.free s) (V.trans (aL.upd s)) aY ?_)⟩;have J:∃n',aI (a_ X.K H2) (nd X.K R (j0 (gP X F) τ (iX (.cS n [c,c']))) τt H2) [] n' (qq b j xs) (qq b j ds):=by
       cases b with
       |true=>exact⟨_,I.Kt j⟩
       |false=>exact⟨_,I.Jw j⟩
      obtain⟨n',J⟩:=J;exact(J.iR g fr).imp (λ_ _ h=>a_.same (aL.upd s) h) λ_ _ _ _ h=>nd.same (aL.upd s) h
     cases b with
     |true =>
      refine go (yq Y) yr λH1 R τ ρ k σ Q g U O=>tD.intro g U λv H2 e2 r=>?_;cases r.isInt;exact⟨k,rfl,O H2 e2⟩
     |false =>
      refine go yr (yq Y) λH1 R τ ρ k σ Q g U O=>tD.intro g U λv H2 e2 r=>?_;cases r.isInt;exact⟨k,rfl,O H2 e2⟩
    exact⟨this,cZ this λ_=>by cases b<;>rfl⟩
section
open PySem.SeqAt
open PySem.AutoSeq1 (wpAny_loadPart')
open PySem.MeetsSeq PySem.MeetsSeq2 PySem.MeetsSeq3
theorem Ca(A:aB)(s:Shared)(a:Int)(t:Tok)(c:Int)(u:Tok)(prog:aC)(w:World)(E:au)(Q:au)(h:Q (.bool (decide (a ≥ c))) s):wpAny (model prog w) A (richCompare .GtE (.int a t) (.int c u)) Q E s :=
 (PyProof.Rows.ge_int h:wpAny (model prog w) A (compareOp .GtE (.int a t) (.int c u)) Q E s)
theorem Hz{vs ws:aw}{b:ae}{m n:Nat}(g:IntsAre vs ns)(e:IntsAre ws b)(hz:vs.zip ws=[])(d:ns.length+n=b.length+m):(!HT.lexLt ns b)=decide (m ≥ n):=by
 cases g with
 |nil=>cases e with
  |nil=>simp only[List.length_nil]at d;exact(aa_ (by left)).symm
  |cons c u h=>simp only[List.length_nil,List.length_cons]at d;exact(abw (by left)).symm
 |cons a t h=>cases e with
  |nil=>simp only[List.length_nil,List.length_cons]at d;exact(aa_ (by left)).symm
  |cons c u h=>rw[List.zip_cons_cons]at hz;cases hz
theorem qa(l b:Addr)(items p:bg)(n W:Nat)(dd O:Option Addr)(V U:Array (Option Value))(ns z:ae)(M:IntsAre items.toList ns)(L:IntsAre p.toList z):
  Meets (Builtin.«tuple.__ge__» ⟨[.ref l,.ref b],[]⟩) (λ_ R s=>s.heap.get? l=some { cls:=.type "tuple",dict:=dd,data:=.seq items n,slots:=V }/\s.heap.get? b=some { cls:=.type "tuple",dict:=O,data:=.seq p W,slots:=U }/\R (.ok (.ret (.bool (!HT.lexLt ns z)))) s) :=
 .of_wp λprog w A R s h=>by
  obtain⟨B,g,d,tk,v⟩:=s;obtain⟨Y,hb,h⟩:=h;have f2:=AutoSeq1.sub_tuple_tuple;have z1:items.size=ns.length:=by rw[<- M.length];simp
  have z2:p.size=z.length:=by rw[<- L.length];simp
  wp_walk using wpAny_loadPart' Y,wpAny_loadPart' hb,wpAny_forIn_list _ (λrest b H=>b.1=none/\H=⟨B,g,d,tk,v⟩/\∃(vs ws:aw) (j r:ae),rest=vs.zip ws/\IntsAre vs j/\IntsAre ws r/\j.length+p.size=r.length+items.size/\R (.ok (.ret (.bool (!HT.lexLt j r)))) ⟨B,g,d,tk,v⟩) _
  case turn =>
   rintro ⟨y,x⟩ rest b H ⟨E,rfl,vs,ws,j,r,i,I,J,hlen,hR⟩;cases I with
   |nil=>rw[List.zip_nil_left]at i;cases i
   |cons a t m=>cases J with
    |nil=>rw[List.zip_nil_right]at i;cases i
    |cons c u k =>
     rw[List.zip_cons_cons]at i;injection i with Wr DL
     injection Wr with hy hx
     subst hy hx;rw[HT.dM]at hR;simp only[List.length_cons]at hlen;obtain⟨e,Z,N⟩:=HT.va A.in1 ⟨B,g,d,tk,v⟩ a t c u;refine aaa (Z prog w _ _ ?_);cases e with
     |true =>
      rw[if_pos (N.mp rfl)]at hR
      wp_walk
      exact⟨rfl,rfl,_,_,_,_,DL,m,k,by left,hR⟩
     |false =>
      have Aw:¬ a=c:=λq=>absurd (N.mpr q) aae;rw[if_neg Aw,show(!decide (a<c))=decide (a ≥ c) by by_cases q:a<c<;>simp[q]<;>left]at hR;have WC:=Ca A.in1 ⟨B,g,d,tk,v⟩ a t c u prog w
      wp_walk using WC
      exact⟨_,rfl,by simpa using hR⟩
  case fin =>
   rintro ⟨b1,b2⟩ H ⟨E,rfl,vs,ws,j,r,i,I,J,hlen,hR⟩;simp only at E;subst E;rw[Hz I J i.symm hlen]at hR
   wp_walk
   exact⟨_,rfl,by simpa [Builtin.Tuple.tupleCompareSizes]using hR⟩
  case h=>exact⟨rfl,rfl,items.toList,p.toList,ns,z,rfl,M,L,by left,h⟩
end
def Qs(K:av):R2:=λx y H Q=>∃a b ns c,x=.ref a/\y=.ref b/\a_ K H a (ns.map V.int)/\a_ K H b (c.map V.int)/\Q (.bl (!HT.lexLt ns c)) H
theorem CK(E:X.A.units<cLine):nH X (compareOp .GtE) (Qs X.K):=by
 intro pins s σ H x y v u Q I r p h;obtain⟨a,b,ns,e,rfl,rfl,L,J,q⟩:=h;cases r;cases p;obtain⟨O,r1,⟨⟨N,M,data,m⟩,i,j,n,hd⟩,_⟩:=I.tuple L;obtain⟨z,t,⟨⟨R,k,data2,l⟩,g,d,B,c⟩,_⟩:=I.tuple J;simp only at j hd d c;subst j hd d c;exact richCompare_meets_room (op:=.GtE) ⟨_,i,rfl⟩ ⟨_,g,rfl⟩ PySem.F.slot_tuple_ge PySem.F.entry_tuple_ge (PySem.F.args_tuple_ge_2 _ _) (qa a b O.toArray z.toArray n B M k m l ns e (intsAre_of r1) (intsAre_of t))
  ⟨i,g,show Value.bool (!HT.lexLt ns e)≠Value.notImplemented/\EP X pins σ Q (.bool (!HT.lexLt ns e)) s from⟨(λx=>nomatch x),⟨.bl _,H,I,rfl,q⟩⟩⟩ E
def OQ(xs:aa):O D:=match two xs with
 |some z=>match z.1 with
  |.tup a=>match z.2 with
   |.tup b=>match intsOf a with
    |some ns=>match intsOf b with
     |some c=>ok (.bl (!HT.lexLt ns c))
     |none=>none
    |none=>none
   |_=>none
  |_=>none
 |none=>none
set_option tactic.hygienic true in
theorem Na{x y d:D}(h:OQ [x,y]=ok d):∃ns c:ae,x=.tup (ns.map D.int)/\y=.tup (c.map D.int)/\d=.bl (!HT.lexLt ns c):=by
 cases x<;>first|exact nk h | (cases h;done) | (cases y<;>first|exact nk h | (cases h;done)|skip)
 rename_i a b;have h:(match intsOf a with|some ns=>(match intsOf b with|some c=>ok (D.bl (!HT.lexLt ns c))|none=>none)|none=>none)=ok d:=h;cases e:intsOf a with
 |none=>rw[e]at h;exact nk h
 |some ns=>cases g:intsOf b with
  |none=>rw[e,g]at h;cases h
  |some c =>
   rw[e,g]at h;cases h;exact⟨ns,c,by rw[dT e],by rw[dT g],rfl⟩
def ER(_:Scope)(_:ak)(e:Expr):Option (aq):=(K6 e).bind λz=>(one z.2.2).bind λr=>if z.2.1=[.GtE]then some [z.1,r]else none
theorem EO{sc:Scope}{bl:ak}{e:Expr}(h:ER sc bl e=some args):∃l r p,e=.Compare l [.GtE] [r] p/\args=[l,r]:=by
 obtain⟨⟨l,d,c⟩,a,h⟩:=bT h;obtain⟨r,hw,h⟩:=bT h;obtain⟨b,h⟩:=gT h;cases h;obtain rfl:=b;obtain⟨p,rfl⟩:=xS a;obtain rfl:=cO hw;exact⟨l,r,p,rfl,rfl⟩
theorem Se{n:Nat}(s:Φ n=OQ){sc:Scope}{bl:ak}{k:Nat}(L:PX X sc bl k){e:Expr}(he:ER sc bl e=some args)(hs:nG X F Φ cs args):PE X e (tD X F Φ (.cS n cs))/\PT X e (ig X F Φ (.cS n cs)):=by
 obtain⟨l,r,p,rfl,rfl⟩:=EO he;have t:X.A.units<cLine:=by have:=L.room.units;left
 cases cs with
 |nil=>exact hs.elim
 |cons c cs=>cases cs with
  |nil=>exact hs.2.2.2.elim
  |cons c' cs=>cases cs with
   |cons _ _=>exact hs.2.2.2.2.2.2.elim
   |nil =>
    obtain⟨B,_,_,z,_,_,_⟩:=hs;have j:∀{σ:St} {H:Hp} {R:ai} {τ:Addr->Option bt} {ρ:bo} {d:D} {Q:VK},SI X F R τ ρ σ H->bz Φ (.cS n [c,c']) ρ=ok d->(∀b H2,d=.bl b->aL H H2->Q (.bl b) H2)->Jy (Qs X.K) (tD X F Φ c) (tD X F Φ c') σ H Q:=by
     intro σ H R τ ρ d Q i g a;obtain⟨xs,m,g⟩:=aJ g;obtain⟨x,V,m⟩:=aJ m;obtain⟨ys,q,m⟩:=aJ m;cases m;obtain⟨y,U,q⟩:=aJ q;cases q;rw[s]at g;obtain⟨ns,O,rfl,rfl,rfl⟩:=Na g;refine tD.intro i V λv H1 e1 r1=>tD.intro (i.go e1) U λu H2 e2 J=>?_;obtain⟨_,_,N⟩:=r1.go e2;obtain⟨_,_,M⟩:=J;cases N with
     |tup t1 I=>cases M with
      |tup t2 E =>
       cases I.ofInts;cases E.ofInts;exact⟨_,_,ns,O,rfl,rfl,t1,t2,a _ H2 rfl (e1.trans e2)⟩
    refine⟨PE.imp (yy (CK t) B z (CT _)) λσ H Q a=>?_,PT.imp (yp (CK t) B z (CT _)) λσ H Q a=>?_⟩
    ·obtain⟨R,τ,ρ,d,i,g,a⟩:=a;exact j i g λb H2 e es=>a _ H2 es (by subst e;exact .bl)
    ·obtain⟨R,τ,ρ,b,i,g,a⟩:=a;obtain⟨d,Y,W⟩:=aJ g;refine j i Y λZ H2 e es=>?_;subst e;cases W;exact⟨_,rfl,a H2 es⟩
end DI
end
section
namespace DI
open PySem PySem.Spec PyProof.Rows L2 PySem.W
section
end
structure Arr(p:Array Nat)(n:Nat):Prop where
 sz:p.size=n
 pm:p.toList.Perm (List.range n)
section
variable {lt:Nat->Nat->Bool}{n:Nat}{p:Array Nat}
theorem Arr.bd(h:Arr p n){i:Nat}(c:i<n):p.getD i 0<n:=by
 have a:i<p.size:=by rw[h.sz];exact c
 have:p.getD i 0=p[i]:=by simp[Array.getD,a]
 rw[this];have b:p[i]∈p.toList:=Array.getElem_mem_toList a;exact List.mem_range.mp (h.pm.mem_iff.mp b)
def Up(lt:Nat->Nat->Bool)(p:Array Nat)(k:Nat):Prop:=∀i j,i<j->j<k->lt (p.getD i 0) (p.getD j 0)=true
end
end DI
end
section
namespace DI
open PySem PySem.Spec PyProof.Rows L2
def mF(h:Heap)(vs:aw)(nss:az):Prop:=vs.length=nss.length/\∀(i:Nat) (ns:ae),nss[i]?=some ns->∃t a,vs[i]?=some (.ref t)/\IsTup h t a.toArray/\IntsAre a ns
variable {h:Heap}{nss:az}{vs:aw}
theorem mF.mono{h':Heap}(k:∀b o,h.get? b=some o->h'.get? b=some o)(t:mF h vs nss):mF h' vs nss :=
 ⟨t.1,λi c e=>let ⟨a,aW,e1,⟨o,ho,r⟩,e3⟩:=t.2 i c e;⟨a,aW,e1,⟨o,k _ _ ho,r⟩,e3⟩⟩
theorem mF.mem(t:mF h vs nss){v:Value}(e:v∈vs):∃a b d,v=.ref a/\IsTup h a b.toArray/\IntsAre b d:=by
 obtain⟨i,c⟩:=List.mem_iff_getElem?.mp e;have f:i<nss.length:=by rw[<- t.1];exact(List.getElem?_eq_some_iff.mp c).1
 obtain⟨a,b,e1,e2,e3⟩:=t.2 i _ (aaH f);rw[c]at e1;cases e1;exact⟨a,b,_,rfl,e2,e3⟩
section
variable {prog:aC}{w:World}{A:aB}{E:au}{s:Shared}
theorem pC:∀{vs:aw} {nss:az} {Q:List (Option Value)->Shared->Prop},mF s.heap vs nss->(∀fs:List (Option Value),fs.length=vs.length->(∀f∈fs,∀v,f=some v->∃n t,v=.int n t)->Q fs s)->wpAny (model prog w) A (vs.mapM firstOfTuple') Q E s
 |[],_,_,_,h=>by rw[List.mapM_nil];exact aac (h [] rfl λ_ h=>nomatch h)
 |v::vs,[],_,t,_=>by have:=t.1;simp at this
 |v::vs,ns::nss,Q,t,h=>by
  obtain⟨a,p,e,⟨o,d,k,n,hd⟩,g⟩:=t.2 0 ns rfl;cases e;rw[List.mapM_cons];refine aaa ?_;rw[PySem.W.kas_first_eq];refine aaa (PySem.W.Looks.here (show PySem.W.Looks (model prog w) s.heap (typeOf (.ref a)) o.cls from(PySem.W.Looks.ld d).andThen .now) ?_);rw[k,if_neg (by first|decide|simp)];refine aaa (listItems_at d hd (aac ?_));refine aaa (pC (vs:=vs) (nss:=nss) ⟨by simpa using t.1,λi j e=>t.2 (i+1) j e⟩ λfs m l=>aac (h _ (by simp[m]) λf c v b=>?_));rcases List.mem_cons.mp c with rfl|c
  ·cases g with
   |nil=>simp at b
   |cons q tk g=>simp at b;exact⟨_,_,b.symm⟩
  ·exact l f c v b
def Fs(a:SortKind):Prop:=a=tuples' true\/a=general'\/a=oneType'
theorem kind_any{Q:SortKind->Shared->Prop}(t:mF s.heap vs nss)(L:vs≠[])(h:∀B,Fs B->Q B s):wpAny (model prog w) A (keyKind' vs.toArray) Q E s:=by
 obtain⟨v0,d,rfl⟩:∃v0 d,vs=v0::d:=by
  cases vs with
  |nil=>exact absurd rfl L
  |cons v0 d=>exact⟨v0,d,rfl⟩
 rw[kat_kind_eq,List.mapM_toArray,map_eq_pure_bind];refine aaa (aaa (pC t λfs C D=>aac ?_));by_cases i:(fs.toArray.all λx=>x.isSome)=true
 ·rw[if_pos i];refine aaa (abq ?_);obtain⟨c,I,m⟩:∃c:aw,fs=c.map some/\∀v∈c,∃n t,v=.int n t:=by
   clear h C t;induction fs with
   |nil=>exact⟨[],rfl,λ_ h=>nomatch h⟩
   |cons f fs G =>
    simp only[List.all_toArray,List.all_cons,Bool.and_eq_true]at i;obtain⟨c,e1,e2⟩:=G (λf q=>D f (aad _ q)) (by simpa using i.2);cases f with
    |none=>simp at i
    |some v =>
     exact⟨v::c,by rw[e1];rfl,λu k=>by
      rcases List.mem_cons.mp k with rfl|k
      ·exact D _ aaf _ rfl
      ·exact e2 u k⟩
  subst I;obtain⟨g,e,rfl⟩:∃g e,c=g::e:=by
   cases c with
   |nil=>simp at C
   |cons a b=>exact⟨a,b,rfl⟩
  have p:(((g::e).map some).toArray.filterMap id)=(g::e).toArray:=by simp
  rw[p,oneTypeOnly'_eq,List.mapM_toArray,map_eq_pure_bind];refine aaa (aaa (aaa (PySem.W.kas_mapM (r:=Value.type "int") _ (λv j K l=>by
   obtain⟨n,t,rfl⟩:=m v j;exact(PySem.W.Looks.of_pure (M:=model prog w) rfl).here l) (aac ?_))))
  have z:((List.map (λ_=>Value.type "int") (g::e)).toArray.all λx=>x==Value.type "int")=true:=by
   simp only[List.all_toArray,List.all_map,List.all_eq_true];intro _ _;show(Value.type "int" == Value.type "int")=true;decide
  have y:(List.map (λ_=>Value.type "int") (g::e)).toArray[0]?=some (Value.type "int"):=by simp
  rw[y];simp only[z,if_true];exact aac (aac (h _ (.inl rfl)))
 ·rw[if_neg i];by_cases F:((fs.toArray[0]?.bind id).isSome)=true
  ·rw[if_pos F];exact aac (h _ (.inr (.inl rfl)))
  ·rw[if_neg F];rw[oneTypeOnly'_eq,List.mapM_toArray,map_eq_pure_bind];refine aaa (aaa (aaa (PySem.W.kas_mapM (r:=Value.type "tuple") _ (λv j K l=>by
    obtain⟨a,O,N,rfl,⟨o,H,J,_⟩,_⟩:=t.mem j;refine PySem.W.Looks.here (show PySem.W.Looks (model prog w) s.heap (typeOf (.ref a)) o.cls from(PySem.W.Looks.ld H).andThen .now) ?_;rw[J];exact l) (aac ?_))))
   have z:((List.map (λ_=>Value.type "tuple") (v0::d)).toArray.all λx=>x==Value.type "tuple")=true:=by
    simp only[List.all_toArray,List.all_map,List.all_eq_true];intro _ _;show(Value.type "tuple" == Value.type "tuple")=true;decide
   have y:(List.map (λ_=>Value.type "tuple") (v0::d)).toArray[0]?=some (Value.type "tuple"):=by simp
   rw[y];simp only[z,if_true];exact aac (aac (h _ (.inr (.inr rfl))))
theorem Mn{l:SortKind}(z:Fs l)(m:A.units<cLine){a b:Addr}{q r:aw}{ns f:ae}{Q:Bool->Shared->Prop}(k:IsTup s.heap a q.toArray)(j:IsTup s.heap b r.toArray)(i:IntsAre q ns)(g:IntsAre r f)(h:Q (HT.lexLt ns f) s):
  wpAny (model prog w) A (keyLt' l (.ref a) (.ref b)) Q E s:=by
 rcases z with rfl|rfl|rfl
 ·obtain⟨o,c,_,n,hd⟩:=k;obtain⟨H,B,_,I,G⟩:=j;exact PySem.W.kat_lt c hd B G (uG 0 i g (by simp) h)
 ·exact PySem.W.kat_one _ _ (HT.wN k j (by simpa using i) (by simpa using g) m h)
 ·show wpAny (model prog w) A (oneLt' true (.ref a) (.ref b)) Q E s;rw[oneLt'_eq];simp only[if_true];refine aaa (wpAny_cRoomFor m ?_);obtain⟨⟨D,C,data,v⟩,c,p,n,hd⟩:=id k;obtain⟨⟨J,t,data2,u⟩,x,e,y,d⟩:=id j;simp only at p hd e d;subst p hd e d;refine aaa (wpAny_callSpecialIfBound?_slot (name:=Str.ofString "__lt__") ⟨_,c,rfl⟩ acm (acO acm ⟨_,c,rfl⟩ PySem.F.entry_tuple_lt (PySem.F.args_tuple_lt_2 _ _) (HT.jW a b _ _ n y C t v u ns f (by simpa using i) (by simpa using g)) ⟨c,x,?_⟩));exact abj h
end
def jU(h:Heap)(d:Addr)(es:Array DictEntry)(ep:Nat):Prop:=∃o,h.get? d=some o/\o.ExactDict/\o.data=.dict es ep
section
variable {prog:aC}{w:World}{A:aB}{E:au}{s:Shared}{d it:Addr}{es:Array DictEntry}{ep i:Nat}
theorem jU.typeIs(h:jU s.heap d es ep):s.TypeIs (.ref d) "dict":=let ⟨o,ho,hx,_⟩:=h;⟨o,ho,hx.1⟩
theorem ID{Q:au}(hd:(d==sysModules)=false)(c:jU s.heap d es ep)
  (f:Q (.ref s.heap.objs.size) { s with heap:=s.heap.push { cls:=.type "dict_keyiterator",data:=.fields #[.ref d,.int 0 0,.int es.size 0,.int ep 0] } }):wpAny (model prog w) A (pyIter (.ref d)) Q E s:=by
 have a:=c.typeIs;obtain⟨o,b,g,e⟩:=c;refine wpAny_pyIter_slot a PySem.F.slot_dict_iter (aaY PySem.F.slot_dict_iter a PySem.F.entry_dict_iter ?_ (PySem.F.args_dict_iter_1 _));unfold Builtin.«dict.__iter__» Builtin.Dict.dictSlotNone;refine aaa (aaa (acn a (aac ?_)));show wpAny _ _ (Builtin.Dict.showsAll d >>= _) _ _ s;unfold Builtin.Dict.showsAll;rw[if_neg (by rw[hd];exact Bool.false_ne_true)];refine aaa (aac (aaa (abk b e (aaa (abR b e ?_)))));exact aaa (aa0 (aac ⟨_,rfl,"dict_keyiterator",_,⟨_,aaD _ rfl,rfl⟩,PySem.F.slot_dict_keyiterator_next.lookup,f⟩))
theorem IC{Q:Option Value->Shared->Prop}(a:s.heap.IsKeyIter it d i es.size ep)(j:jU s.heap d es ep)(m:i<es.size)
  (l:∀c,c.IsKeyIter it d (i+1) es.size ep->Heap.SameBut it s.heap c->Q (some es[i].key) { s with heap:=c }):wpAny (model prog w) A (pyNext (.ref it)) Q E s:=by
 obtain⟨o,b,k,hd⟩:=id a;obtain⟨p,g,n,f⟩:=j;unfold pyNext;refine aaa (abJ (aba (name:=Str.ofString "__next__") a.typeIs abb (aaY abb a.typeIs PySem.F.entry_dict_keyiterator_next ?_ (PySem.F.args_dict_keyiterator_next_1 _))));refine aaa (aac (aaa (aaa ?_)))
 first|refine aaa (abl a.typeIs (aac ?_))|refine aaa (abF a.typeIs (aac ?_))
 refine aaa (acD b hd ?_);simp only[show Builtin.Dict_items.ownsTuple "dict_keyiterator" = false by decide,abS,acU];show wpAny _ _ (if (Value.ref d==Value.none)=true then _ else _) _ _ s;rw[if_neg (show ¬ ((Value.ref d==Value.none)=true) from Bool.false_ne_true)];refine aaa (aac (aaa (abk g f ?_)));rw[if_neg (by simp)];refine aaa (aac (aaa (abR g f ?_)));rw[if_neg (by simp)];refine aac ?_;simp only[show ¬ ((i:Int)<0) from by left,if_false,Int.toNat_natCast,Array.getElem?_eq_getElem m];refine aaa ?_
 first|refine aaa (abl a.typeIs (aac ?_))|refine aaa (abF a.typeIs (aac ?_))
 refine aaa (wpAny_isOneOf_keyiter a.typeIs ?_);show wpAny _ _ (setField (.ref it) 1 (rawInt ((i:Int)+1)) >>= _) _ _ s;refine aaa (acE b hd (by simp) ?_);have e:(s.heap.update it (Obj.mapFields (·.setIfInBounds 1 (rawInt ((i:Int)+1))))).IsKeyIter it d (i+1) es.size ep :=
  ⟨_,aa4 _ b (Obj.isFreed_of_fields (Obj.data_mapFields hd _)),(Obj.cls_mapFields ..).trans k,by rw[Obj.data_mapFields hd];simp[rawInt]⟩
 refine aaa (aa9 (aaa (wpAny_isOneOf_keyiter (s:={ s with heap:=s.heap.update it (Obj.mapFields (·.setIfInBounds 1 (rawInt ((i:Int)+1)))) }) e.typeIs ?_)));show wpAny _ _ (pure es[i].key) _ _ _;exact aac (aac ⟨_,rfl,aac (l _ e (abc ..))⟩)
theorem NX{Q:Option Value->Shared->Prop}(l:A.handled=none)(c:s.heap.IsKeyIter it d i es.size ep)(k:jU s.heap d es ep)(p:es.size<=i)
  (n:∀f,Heap.ExtBut it s.heap f->Q none { s with heap:=f }):wpAny (model prog w) A (pyNext (.ref it)) Q E s:=by
 obtain⟨o,e,t,hd⟩:=id c;obtain⟨r,j,q,g⟩:=k;unfold pyNext;refine aaa (abJ (aba (name:=Str.ofString "__next__") c.typeIs abb (aaY abb c.typeIs PySem.F.entry_dict_keyiterator_next ?_ (PySem.F.args_dict_keyiterator_next_1 _))));refine aaa (aac (aaa (aaa ?_)))
 first|refine aaa (abl c.typeIs (aac ?_))|refine aaa (abF c.typeIs (aac ?_))
 refine aaa (acD e hd ?_);simp only[show Builtin.Dict_items.ownsTuple "dict_keyiterator" = false by decide,abS,acU];show wpAny _ _ (if (Value.ref d==Value.none)=true then _ else _) _ _ s;rw[if_neg (show ¬ ((Value.ref d==Value.none)=true) from Bool.false_ne_true)];refine aaa (aac (aaa (abk j g ?_)));rw[if_neg (by simp)];refine aaa (aac (aaa (abR j g ?_)));rw[if_neg (by simp)];refine aac ?_;simp only[show ¬ ((i:Int)<0) from by left,if_false,Int.toNat_natCast,Array.getElem?_eq_none p];refine aaa ?_
 first|refine aaa (abl c.typeIs (aac ?_))|refine aaa (abF c.typeIs (aac ?_))
 show wpAny _ _ (setField (.ref it) 0 .none >>= _) _ _ s;refine aaa (acE e hd (by simp) ?_);show wpAny _ _ (newExc (.type "StopIteration") [] >>= _) _ _ _;refine aaa ?_;simp only[newExc,newTuple];refine aaa (aa0 ?_ (by size_fits));refine aaa (m:=firstArgMember _ _) (wpAny_of_eq (a:=Value.none) (by first|rfl | (simp only[firstArgMember];rfl)) ?_);refine aa0 ?_ (by size_fits);simp only[raiseNew];refine aaa (wpAny_handled ?_);rw[show A.in1.handled=none from l];refine aaa (aac (wpAny_throw ?_));refine aaa (wpAny_isInstance (T:="StopIteration") (b:=true) ⟨_,aaD _ rfl,rfl⟩ isSubtype_stop ?_);exact aac (n _ (((abc ..).extBut.push _).push _))
end
theorem Dh:∀a b c:ae,HT.lexLt a b=true->HT.lexLt b c=true->HT.lexLt a c=true
 |[],[],_,h,_=>by rw[HT.jX]at h;cases h
 |[],_::_,[],_,h=>by rw[HT.di]at h;cases h
 |[],_::_,_::_,_,_=>rfl
 |_::_,[],_,h,_=>by rw[HT.di]at h;cases h
 |_::_,_::_,[],_,h=>by rw[HT.di]at h;cases h
 |x::a,y::b,z::c,h1,h2=>by
  rw[HT.dM]at *;by_cases e1:x=y
  ·subst e1;rw[if_pos rfl]at h1;by_cases e2:x=z
   ·subst e2;rw[if_pos rfl]at h2 ⊢;exact Dh a b c h1 h2
   ·rw[if_neg e2]at h2 ⊢;exact h2
  ·rw[if_neg e1]at h1;have d:x<y:=aab h1;by_cases e2:y=z
   ·subst e2;rw[if_neg (by left)];exact aa_ d
   ·rw[if_neg e2]at h2;have e:y<z:=aab h2;rw[if_neg (by left)];exact aa_ (by left)
theorem l6:∀a b:ae,HT.lexLt a b=true->HT.lexLt b a=false
 |[],[],_=>rfl
 |[],_::_,_=>rfl
 |_::_,[],h=>by rw[HT.di]at h;cases h
 |x::a,y::b,h=>by
  rw[HT.dM]at *;by_cases e:x=y
  ·subst e;rw[if_pos rfl]at h ⊢;exact l6 a b h
  ·rw[if_neg e]at h;have l:x<y:=aab h;rw[if_neg (by left)];exact abw (by left)
theorem sD:∀a b:ae,a≠b->HT.lexLt a b=true\/HT.lexLt b a=true
 |[],[],h=>absurd rfl h
 |[],_::_,_=>.inl rfl
 |_::_,[],_=>.inr rfl
 |x::a,y::b,h=>by
  rw[HT.dM,HT.dM];by_cases e:x=y
  ·subst e;rw[if_pos rfl,if_pos rfl];exact sD a b λz=>h (by rw[z])
  ·rw[if_neg e,if_neg (Ne.symm e)];rcases Int.lt_or_gt_of_ne e with l|l
   ·exact .inl (aa_ l)
   ·exact .inr (aa_ l)
def bx(nss:az):az:=nss.mergeSort λa b=>!HT.lexLt b a
def vH(nss:az):Prop:=nss.Pairwise λa b=>HT.lexLt a b=true
theorem yk:∀{l m:az},vH l->vH m->l.Perm m->l=m
 |[],m,_,_,p=>(List.perm_nil.mp p.symm).symm
 |a::l,[],_,_,p=>by have:=p.length_eq;simp at this
 |a::l,b::m,h1,h2,p=>by
  have e:a=b:=by
   have d:a∈b::m:=p.mem_iff.mp aaf;have c:b∈a::l:=p.mem_iff.mpr aaf;rcases List.mem_cons.mp d with e|d
   ·exact e
   ·rcases List.mem_cons.mp c with e|c
    ·exact e.symm
    ·have g:=(List.pairwise_cons.mp h2).1 a d;have f:=(List.pairwise_cons.mp h1).1 b c;rw[l6 _ _ g]at f;cases f
  subst e;rw[yk (List.pairwise_cons.mp h1).2 (List.pairwise_cons.mp h2).2 (List.perm_cons a |>.mp p)]
theorem ka(h:nss.Nodup):vH (bx nss):=by
 have p:(bx nss).Perm nss:=aaV _ _;have nd:(bx nss).Nodup:=p.nodup_iff.mpr h;have i:(bx nss).Pairwise λa b=>(!HT.lexLt b a)=true:=List.pairwise_mergeSort (λa b c d f=>by
  cases e:HT.lexLt c a with
  |false=>rfl
  |true =>
   exfalso;by_cases g:b=c
   ·subst g;rw[e]at d;cases d
   ·rcases sD b c g with l|l
    ·rw[Dh _ _ _ l e]at d;cases d
    ·rw[l]at f;cases f) (λa b=>by
  cases e:HT.lexLt b a with
  |false=>rfl
  |true=>rw[l6 _ _ e];rfl) nss
 exact(i.and nd).imp λ{a b} ⟨d,f⟩=>by
  rcases sD a b f with l|l
  ·exact l
  ·rw[l]at d;cases d
theorem tX{l:az}(h:nss.Nodup)(a:vH l)(p:l.Perm nss):l=bx nss:=yk a (ka h) (p.trans (aaV _ _).symm)
def ltN(nss:az)(i j:Nat):Bool:=HT.lexLt (nss.getD i []) (nss.getD j [])
theorem zY(h:nss.Nodup){p:Array Nat}(d:Arr p nss.length)(f:Up (ltN nss) p nss.length):(p.toList.map λi=>nss.getD i [])=bx nss:=by
 refine tX h ?_ ?_
 ·refine List.pairwise_iff_getElem.mpr λi j c a l=>?_;simp only[List.length_map,Array.length_toList]at c a;have:=f i j l (by rw[<- d.sz];exact a);unfold ltN at this;have e:∀k (b:k<p.size),p.getD k 0=p[k]:=λk b=>by simp[Array.getD,b]
  rw[e i c,e j a]at this;simpa using this
 ·have e:nss=(List.range nss.length).map λi=>nss.getD i []:=by
   refine abE (by simp) λi g m=>?_;simp[g]
  refine(d.pm.map λi=>nss.getD i []).trans ?_;rw[<- e]
end DI
end
section
namespace TS
open PySem PyProof.Rows
noncomputable def y4:Bool->Keyed->Array Keyed->Nat->Nat->Nat->StateT SortSt Sem (Option Nat):=sortPriv% PySem.Builtin.gallop
variable {base hi hint lo nb sa sb:Nat}
section
variable {prog:aC}{w:World}{A:aB}{E:au}{s:Shared}{κ:SortKind}{a₀:Array Keyed}{F:Keyed->Int}
def qx(prog:aC)(w:World)(A:aB)(E:au)(s:Shared)(κ:SortKind)(a₀:Array Keyed)(F:Keyed->Int):Prop:=∀x y,x∈a₀.toList->y∈a₀.toList->∀(st:SortSt) (Q:Option Bool->SortSt->Prop),kindOf st=κ->Q (some (decide (F x<F y))) st->wpS (model prog w) A E s (lt' x y) Q st
theorem bA{arr:Array Keyed}{i:Nat}{x:Keyed}{st:SortSt}{Q:Keyed->SortSt->Prop}(h:arr[i]?=some x)(a:Q x st):wpS (model prog w) A E s (elem' arr i) Q st:=by
 rw[elem'_eq,h];exact aak a
theorem v_(L:qx prog w A E s κ a₀ F){left:Bool}{d:Keyed}{arr:Array Keyed}{n:Nat}{G:Nat->Bool}{st:SortSt}{Q:Option Nat->SortSt->Prop}(N:kindOf st=κ)(M:d∈a₀.toList)(O:hint<n)
  (S:∀i,i<n->∃x,arr[base+i]?=some x/\x∈a₀.toList/\(if left then decide (F x<F d)else !decide (F d<F x))=G i)
  (mono:∀i j,i<=j->j<n->G j=true->G i=true)
  (h:∀k,k<=n->(∀i,i<k->G i=true)->(∀i,k<=i->i<n->G i=false)->Q (some k) st):wpS (model prog w) A E s (y4 left d arr base n hint) Q st:=by
 have v:∀i,i<n->∀(B:Option Bool->SortSt->Prop),B (some (G i)) st->wpS (model prog w) A E s (do let x <- elem' arr (base+i);if left then lt' x d else return (<- lt' d x).map (!·)) B st:=λi hi B D=>by
  obtain⟨x,l,u,g⟩:=S i hi;refine aam (bA l ?_);rw[<- g]at D;cases left with
  |true=>exact L x d u M st B N D
  |false=>exact aam (L d x M u st _ N (aak D))
 have z:∀i j,i<=j->j<n->G i=false->G j=false:=λi j V R e=>by
  cases U:G j with
  |false=>rfl
  |true=>rw[mono i j V R U]at e;cases e
 refine aam (v hint O _ ?_);dsimp only;cases P:G hint with
 |true =>
  rw[if_pos rfl];refine aam (abp (aaN (I:=λx c b=>st=b/\∃a of,c=(none,a,of)/\a<of/\x+1<=of/\a<n - hint/\∀i,i<=hint+a->G i=true)
   (Q:=λc b=>st=b/\∃a of,c=(none,a,of)/\a<of/\a<n - hint/\(∀i,i<=hint+a->G i=true)/\(n - hint<=of\/G (hint+of)=false)) ?_ ?_ ⟨rfl,0,1,rfl,by left,by left,by left,λi hi=>mono i hint hi O P⟩) ?_)
  ·rintro x c b _ C ⟨rfl,a,of,rfl,l,u,g,f⟩;dsimp only;by_cases t:of ≥ n - hint
   ·rw[if_pos t];exact aak ⟨rfl,a,of,rfl,l,g,f,.inl t⟩
   ·rw[if_neg t];refine aam (v (hint+of) (by left) _ ?_);dsimp only;cases e:G (hint+of)with
    |true=>exact aak ⟨rfl,of,2*of+1,rfl,by left,by left,by left,λi hi=>mono i _ hi (by left) e⟩
    |false=>exact aak ⟨rfl,a,of,rfl,l,g,f,.inr e⟩
  ·rintro c b ⟨rfl,a,of,rfl,l,u,g,f⟩;exact⟨rfl,a,of,rfl,l,g,f,.inl (by left)⟩
  ·rintro c b ⟨rfl,a,of,rfl,l,g,f,r⟩;dsimp only;refine aam (abp (aaN (I:=λx c b=>st=b/\∃lo hi,c=(none,lo,hi)/\lo<=hi/\hi<=n/\hi - lo<=n - x/\(∀i,i<lo->G i=true)/\(∀i,hi<=i->i<n->G i=false))
    (Q:=λc b=>st=b/\∃lo hi,c=(none,lo,hi)/\hi<=n/\(∀i,i<hi->G i=true)/\(∀i,hi<=i->i<n->G i=false)) ?_ ?_ ⟨rfl,_,_,rfl,by left,by left,by left,λi hi=>f i (by left),λi hi q=>?_⟩) ?_)
   ·rintro x c b _ C ⟨rfl,lo,hi,rfl,J,p,H,o,m⟩;dsimp only;by_cases y:lo ≥ hi
    ·rw[if_pos y];have:lo=hi:=by left
     subst this;exact aak ⟨rfl,lo,lo,rfl,p,o,m⟩
    ·rw[if_neg y];refine aam (v (lo+(hi - lo) / 2) (by left) _ ?_);dsimp only;cases e:G (lo+(hi - lo) / 2)with
     |true=>exact aak ⟨rfl,lo+(hi - lo) / 2+1,hi,rfl,by left,by left,by left,λi q=>mono i (lo+(hi - lo) / 2) (by left) (by left) e,m⟩
     |false=>exact aak ⟨rfl,lo,lo+(hi - lo) / 2,rfl,by left,by left,by left,o,λi q K=>z (lo+(hi - lo) / 2) i q K e⟩
   ·rintro c b ⟨rfl,lo,hi,rfl,J,p,H,o,m⟩;have:lo=hi:=by left
    subst this;exact⟨rfl,lo,lo,rfl,p,o,m⟩
   ·rcases r with r|r
    ·left
    ·by_cases W:n - hint<=of
     ·left
     ·exact z _ i (by left) q r
   ·rintro c b ⟨rfl,lo,hi,rfl,p,o,m⟩;exact aak (h hi p o m)
 |false =>
  rw[if_neg Bool.false_ne_true];refine aam (abp (aaN (I:=λx c b=>st=b/\∃a of,c=(none,a,of)/\a<of/\x+1<=of/\a<=hint/\G (hint - a)=false)
   (Q:=λc b=>st=b/\∃a of,c=(none,a,of)/\a<of/\a<=hint/\G (hint - a)=false/\(hint+1<=of\/(of<=hint/\G (hint - of)=true))) ?_ ?_ ⟨rfl,0,1,rfl,by left,by left,by left,P⟩) ?_)
  ·rintro x c b _ C ⟨rfl,a,of,rfl,l,u,g,f⟩;dsimp only;by_cases t:of ≥ hint+1
   ·rw[if_pos t];exact aak ⟨rfl,a,of,rfl,l,g,f,.inl t⟩
   ·rw[if_neg t];refine aam (v (hint - of) (by left) _ ?_);dsimp only;cases e:G (hint - of)with
    |false=>exact aak ⟨rfl,of,2*of+1,rfl,by left,by left,by left,e⟩
    |true=>exact aak ⟨rfl,a,of,rfl,l,g,f,.inr ⟨by left,e⟩⟩
  ·rintro c b ⟨rfl,a,of,rfl,l,u,g,f⟩;exact⟨rfl,a,of,rfl,l,g,f,.inl (by left)⟩
  ·rintro c b ⟨rfl,a,of,rfl,l,g,f,r⟩;dsimp only;refine aam (abp (aaN (I:=λx c b=>st=b/\∃lo hi,c=(none,lo,hi)/\lo<=hi/\hi<=n/\hi - lo<=n - x/\(∀i,i<lo->G i=true)/\(∀i,hi<=i->i<n->G i=false))
    (Q:=λc b=>st=b/\∃lo hi,c=(none,lo,hi)/\hi<=n/\(∀i,i<hi->G i=true)/\(∀i,hi<=i->i<n->G i=false)) ?_ ?_ ⟨rfl,_,_,rfl,by left,by left,by left,λi hi=>?_,λi hi q=>z _ i hi q f⟩) ?_)
   ·rintro x c b _ C ⟨rfl,lo,hi,rfl,J,p,H,o,m⟩;dsimp only;by_cases y:lo ≥ hi
    ·rw[if_pos y];have:lo=hi:=by left
     subst this;exact aak ⟨rfl,lo,lo,rfl,p,o,m⟩
    ·rw[if_neg y];refine aam (v (lo+(hi - lo) / 2) (by left) _ ?_);dsimp only;cases e:G (lo+(hi - lo) / 2)with
     |true=>exact aak ⟨rfl,lo+(hi - lo) / 2+1,hi,rfl,by left,by left,by left,λi q=>mono i (lo+(hi - lo) / 2) (by left) (by left) e,m⟩
     |false=>exact aak ⟨rfl,lo,lo+(hi - lo) / 2,rfl,by left,by left,by left,o,λi q K=>z (lo+(hi - lo) / 2) i q K e⟩
   ·rintro c b ⟨rfl,lo,hi,rfl,J,p,H,o,m⟩;have:lo=hi:=by left
    subst this;exact⟨rfl,lo,lo,rfl,p,o,m⟩
   ·rcases r with r|⟨r,T⟩
    ·left
    ·exact mono i _ (by left) (by left) T
   ·rintro c b ⟨rfl,lo,hi,rfl,p,o,m⟩;exact aak (h hi p o m)
end
noncomputable def R(F:Keyed->Int)(xs:Array Keyed)(i:Nat):Int:=match xs[i]? with
 |some p=>F p
 |none=>0
theorem gu{F:Keyed->Int}{xs ys:Array Keyed}{i j:Nat}(h:xs[i]?=ys[j]?):R F xs i=R F ys j:=by unfold R;rw[h]
def On(F:Keyed->Int)(xs:Array Keyed)(lo hi:Nat):Prop:=∀i j,lo<=i->i<=j->j<hi->R F xs i<=R F xs j
structure SB(a₀:Array Keyed)(κ:SortKind)(st:SortSt):Prop where
 perm:(arrOf st).Perm a₀
 kind:kindOf st=κ
 failed:failedOf st=none
theorem SB.size{a:Array Keyed}{b:SortKind}{st:SortSt}(h:SB a b st):(arrOf st).size=a.size:=h.perm.size_eq
theorem SB.at{a:Array Keyed}{b:SortKind}{st:SortSt}(h:SB a b st){i:Nat}(hi:i<a.size):∃x,(arrOf st)[i]?=some x/\x∈a.toList:=by
 have c:i<(arrOf st).size:=by rw[h.size];exact hi
 exact⟨(arrOf st)[i],acy _ i c,(Array.perm_iff_toList_perm.mp h.perm).mem_iff.mp (by simp)⟩
theorem fR{F:Keyed->Int}{xs:Array Keyed}{i:Nat}{x:Keyed}(h:xs[i]?=some x):R F xs i=F x:=by unfold R;rw[h]
structure A3(a₀:Array Keyed)(κ:SortKind)(lo hi:Nat)(st aQ:SortSt):Prop where
 sb:SB a₀ κ aQ
 pend:pendingOf aQ=pendingOf st
 out:∀i,i<lo\/hi<=i->(arrOf aQ)[i]?=(arrOf st)[i]?
section
variable {a₀:Array Keyed}{κ:SortKind}{F:Keyed->Int}
theorem A3.qi{st:SortSt}(h:SB a₀ κ st):A3 a₀ κ lo hi st st:=⟨h,rfl,λ_ _=>rfl⟩
theorem A3.trans{lo hi:Nat}{st a b:SortSt}(h:A3 a₀ κ lo hi st a)(h':A3 a₀ κ lo hi a b):A3 a₀ κ lo hi st b:=⟨h'.sb,h'.pend.trans h.pend,λi hi=>(h'.out i hi).trans (h.out i hi)⟩
theorem A3.arr{st:SortSt}{xs:Array Keyed}(h:SB a₀ κ st)(a:xs.Perm (arrOf st))(b:∀i,i<lo\/hi<=i->xs[i]?=(arrOf st)[i]?):A3 a₀ κ lo hi st (setArr st xs):=⟨⟨a.trans h.perm,h.kind,h.failed⟩,rfl,b⟩
theorem On.out{xs ys:Array Keyed}(h:On F xs lo hi)(e:∀i,lo<=i->i<hi->ys[i]?=xs[i]?):On F ys lo hi:=λi j hi b a=>by
 rw[gu (e i hi (by left)),gu (e j (by left) a)];exact h i j hi b a
theorem vJ{xs:Array Keyed}{a d:Nat}(hs:a<xs.size)(hd:d<=a)(k:Nat):R F (bubble xs a d) k=if k=a - d then R F xs a else if a - d<k/\k<=a then R F xs (k - 1)else R F xs k:=by
 have e:=getElem?_bubble hs d hd k;by_cases c:k=a - d
 ·rw[if_pos c]at e ⊢;exact gu e
 ·rw[if_neg c]at e ⊢;by_cases b:a - d<k/\k<=a
  ·rw[if_pos b]at e ⊢;exact gu e
  ·rw[if_neg b]at e ⊢;exact gu e
theorem vI{xs:Array Keyed}{i j:Nat}(a:j<=xs.size)(k:Nat):R F (mirror xs i j ((j - i) / 2)) k=if i<=k/\k<j then R F xs (i+j - 1 - k)else R F xs k:=by
 have e:=getElem?_mirror_all (i:=i) a k;by_cases h:i<=k/\k<j
 ·rw[if_pos h]at e ⊢;exact gu e
 ·rw[if_neg h]at e ⊢;exact gu e
end
section
variable {prog:aC}{w:World}{A:aB}{E:au}{s:Shared}{κ:SortKind}{a₀:Array Keyed}{F:Keyed->Int}(L:qx prog w A E s κ a₀ F)
include L
theorem jv{st:SortSt}{i j:Nat}{Q:Option Bool->SortSt->Prop}(a:SB a₀ κ st)(hi:i<a₀.size)(d:j<a₀.size)(h:Q (some (decide (R F (arrOf st) i<R F (arrOf st) j))) st):wpS (model prog w) A E s (ltAt' i j) Q st:=by
 obtain⟨x,e1,c⟩:=a.at hi;obtain⟨y,e2,b⟩:=a.at d;rw[fR e1,fR e2]at h;rw[ltAt'_eq];refine aam (abK (aam (bA e1 (aam (bA e2 ?_)))));exact L x y c b st Q a.kind h
theorem FZ{st:SortSt}{n ok:Nat}{Q:Bool->SortSt->Prop}(O:lo+n<=a₀.size)(P:ok<=n)(J:SB a₀ κ st)(hs:On F (arrOf st) lo (lo+ok))
  (h:∀a,A3 a₀ κ lo (lo+n) st a->On F (arrOf a) lo (lo+n)->Q true a):wpS (model prog w) A E s (binarySort' lo n ok) Q st:=by
 rw[binarySort'_eq];refine aam (abp (aaN (I:=λk c a=>c=(none,())/\A3 a₀ κ lo (lo+n) st a/\On F (arrOf a) lo (lo+min k n))
  (Q:=λc a=>c=(none,())/\A3 a₀ κ lo (lo+n) st a/\On F (arrOf a) lo (lo+n)) ?step ?fin ?init) ?post)
 case post =>
  rintro c a ⟨rfl,b,e⟩;exact aak (h a b e)
 case init =>
  refine⟨rfl,.qi J,λi j hi v D=>?_⟩;by_cases o:ok=0
  ·have:i=j:=by left
   subst this;exact abD _
  ·exact hs i j hi v (by left)
 case fin =>
  rintro c a ⟨G,b,e⟩;refine⟨G,b,?_⟩
  rwa [show min (max (max ok 1) n) n=n by left]at e
 case step =>
  rintro k c a H C ⟨rfl,b,e⟩;rw[show min k n=k by left]at e;have u:lo+k<a₀.size:=by left
  refine aam (abp (aaN (I:=λx c g=>a=g/\∃l r,c=(none,l,r)/\l<=r/\r<=k/\r - l<=k - x /\
    (∀i,i<l->R F (arrOf a) (lo+i)<=R F (arrOf a) (lo+k))/\(∀i,r<=i->i<k->R F (arrOf a) (lo+k)<R F (arrOf a) (lo+i)))
   (Q:=λc g=>a=g/\∃l r,c=(none,l,r)/\l<=k /\
    (∀i,i<l->R F (arrOf a) (lo+i)<=R F (arrOf a) (lo+k))/\(∀i,l<=i->i<k->R F (arrOf a) (lo+k)<R F (arrOf a) (lo+i))) ?istep ?ifin ?iinit) ?ipost)
  case iinit=>exact⟨rfl,0,k,rfl,by left,by left,by left,λi hi=>by left,λi o q=>by left⟩
  case ifin =>
   rintro c g ⟨rfl,l,r,rfl,N,f,B,m,d⟩;have:l=r:=by left
   subst this;exact⟨rfl,l,l,rfl,f,m,d⟩
  case istep =>
   rintro x c g _ z ⟨rfl,l,r,rfl,N,f,B,m,d⟩;dsimp only;by_cases y:l ≥ r
   ·rw[if_pos y];have:l=r:=by left
    subst this;exact aak ⟨rfl,l,l,rfl,f,m,d⟩
   ·rw[if_neg y];refine aam (jv L b.sb u (by left) ?_);by_cases p:R F (arrOf a) (lo+k)<R F (arrOf a) (lo+(l+r) / 2)
    ·simp only[p,decide_true,if_true];refine aak ⟨rfl,l,(l+r) / 2,rfl,by left,by left,by left,m,λi o q=>?_⟩;exact Int.lt_of_lt_of_le p (e _ _ (by left) (by left) (by left))
    ·simp only[p,decide_false,Bool.false_eq_true,if_false];refine aak ⟨rfl,(l+r) / 2+1,r,rfl,by left,by left,by left,λi o=>?_,d⟩;exact aa8 (e (lo+i) (lo+(l+r) / 2) (by left) (by left) (by left)) (Int.not_lt.mp p)
  case ipost =>
   rintro c g ⟨rfl,l,r,rfl,S,m,d⟩;show wpS _ _ _ _ (do moveDown' (lo+k) (lo+l);pure (ForInStep.yield (none,()))) _ _;rw[moveDown'_eq];have t:lo+k<(arrOf a).size:=by rw[b.sb.size];exact u
   refine aam (abC (aak ⟨rfl,b.trans (.arr b.sb (bubble_perm _ _ _) λi hi=>?_),?_⟩))
   ·rw[getElem?_bubble t _ (by left)];rw[if_neg (by left),if_neg (by left)]
   ·rw[show min (k+1) n=k+1 by left];intro i j hi v D;show R F (bubble (arrOf a) (lo+k) (lo+k - (lo+l))) i<=R F (bubble (arrOf a) (lo+k) (lo+k - (lo+l))) j;rw[vJ t (by left),vJ t (by left),show lo+k - (lo+k - (lo+l))=lo+l by left];have K:∀i,lo<=i->i<lo+l->R F (arrOf a) i<=R F (arrOf a) (lo+k):=λi o q=>by
     have:=m (i - lo) (by left)
     rwa [show lo+(i - lo)=i by left]at this
    have M:∀i,lo+l<=i->i<lo+k->R F (arrOf a) (lo+k)<R F (arrOf a) i:=λi o q=>by
     have:=d (i - lo) (by left) (by left)
     rwa [show lo+(i - lo)=i by left]at this
    repeat' split
    all_goals first
     | (exfalso;left)
     |exact abD _
     |exact K _ (by left) (by left)
     |exact abh (M _ (by left) (by left))
     |exact e _ _ (by left) (by left) (by left)
end
structure Ts(a₀:Array Keyed)(F:Keyed->Int):Prop where
 nd:a₀.toList.Nodup
 inj:∀x∈a₀.toList,∀y∈a₀.toList,F x=F y->x=y
theorem Ts.ne{a:Array Keyed}{F:Keyed->Int}{d:SortKind}(D:Ts a F){st:SortSt}(b:SB a d st){i j:Nat}(hi:i<a.size)(c:j<a.size)(h:i≠j):R F (arrOf st) i≠R F (arrOf st) j:=by
 obtain⟨x,e1,g⟩:=b.at hi;obtain⟨y,e2,f⟩:=b.at c;rw[fR e1,fR e2];intro z;have e:=D.inj x g y f z;subst e;have nd:(arrOf st).toList.Nodup:=(Array.perm_iff_toList_perm.mp b.perm).nodup_iff.mpr D.nd;have k:i<(arrOf st).toList.length:=by simpa [b.size]using hi
 have l:j<(arrOf st).toList.length:=by simpa [b.size]using c
 have a1:(arrOf st).toList[i]?=some x:=by simpa using e1
 have a2:(arrOf st).toList[j]?=some x:=by simpa using e2
 exact h ((List.getElem?_inj k nd).mp (a1.trans a2.symm))
section
variable {prog:aC}{w:World}{A:aB}{E:au}{s:Shared}{κ:SortKind}{a₀:Array Keyed}{F:Keyed->Int}(L:qx prog w A E s κ a₀ F)
include L
theorem zQ(D:Ts a₀ F){st:SortSt}{g:Nat}{Q:Option Nat->SortSt->Prop}(W:lo+g<=a₀.size)(M:1<=g)(l:SB a₀ κ st)
  (h:∀m d,A3 a₀ κ lo (lo+g) st d->1<=m->m<=g->On F (arrOf d) lo (lo+m)->Q (some m) d):wpS (model prog w) A E s (countRun' lo g) Q st:=by
 have grow:∀(d:SortSt) (x:Nat),1<=x->On F (arrOf d) lo (lo+x)->¬ R F (arrOf d) (lo+x)<R F (arrOf d) (lo+x - 1)->On F (arrOf d) lo (lo+(x+1)):=λd x V f B i j hi q u=>by
  by_cases H:j<lo+x
  ·exact f i j hi q H
  ·have y:j=lo+x:=by left
   subst y;by_cases C:i=lo+x
   ·subst C;exact abD _
   ·exact aa8 (f i (lo+x - 1) hi (by left) (by left)) (Int.not_lt.mp B)
 have one:∀(d:SortSt),On F (arrOf d) lo (lo+1):=λd i j hi q u=>by
  have:i=j:=by left
  subst this;exact abD _
 rw[countRun'_eq];refine aam (abp (aaN (I:=λx c d=>st=d/\c=(none,x)/\On F (arrOf st) lo (lo+x))
  (Q:=λc d=>st=d/\∃n,c=(none,n)/\1<=n/\n<=g/\On F (arrOf st) lo (lo+n)/\(n=g\/R F (arrOf st) (lo+n)<R F (arrOf st) (lo+n - 1))) ?_ ?_ ⟨rfl,rfl,one st⟩) ?_)
 ·rintro x c d v K ⟨rfl,rfl,f⟩;dsimp only;refine aam (jv L l (by left) (by left) ?_);by_cases k:R F (arrOf st) (lo+x)<R F (arrOf st) (lo+x - 1)
  ·simp only[k,decide_true,if_true];exact aak ⟨rfl,x,rfl,v,by left,f,.inr k⟩
  ·simp only[k,decide_false,Bool.false_eq_true,if_false];exact aak ⟨rfl,rfl,grow st x v f k⟩
 ·rintro c d ⟨rfl,rfl,f⟩;rw[show max 1 g=g by left]at f ⊢;exact⟨rfl,g,rfl,M,aal _,f,.inl rfl⟩
 rintro c d ⟨rfl,n,rfl,t,r,f,z⟩;dsimp only;by_cases G:n=g
 ·rw[if_pos (by simpa using G)];exact aak (h n st (.qi l) t r f)
 rw[if_neg (by simpa using G)];have S:=z.resolve_left G;by_cases N:n>1
 ·rw[if_pos N];refine aam (jv L l (by left) (by left) ?_);have P:R F (arrOf st) lo<R F (arrOf st) (lo+n - 1):=by
   have a:=f lo (lo+n - 1) (aal _) (by left) (by left);have b:=D.ne l (i:=lo) (j:=lo+n - 1) (by left) (by left) (by left);left
  simp only[P,decide_true,if_true];exact aak (h n st (.qi l) t r f)
 rw[if_neg N];have e1:n=1:=by left
 subst e1;refine aam (wpS_lift (abq ⟨rfl,?_⟩));refine aam (abp (aaN (I:=λx c d=>st=d/\c=(none,x,0)/\∀i j,lo<=i->i<j->j<lo+x->R F (arrOf st) j<R F (arrOf st) i)
  (Q:=λc d=>st=d/\∃m,c=(none,m,0)/\2<=m/\m<=g/\∀i j,lo<=i->i<j->j<lo+m->R F (arrOf st) j<R F (arrOf st) i) ?_ ?_ ⟨rfl,rfl,λi j hi q u=>?_⟩) ?_)
 ·rintro x c d v K ⟨rfl,rfl,hd⟩;dsimp only;refine aam (jv L l (by left) (by left) ?_);by_cases k:R F (arrOf st) (lo+x)<R F (arrOf st) (lo+x - 1)
  ·simp only[k,decide_true,if_true];rw[if_neg (by left)];refine aak ⟨rfl,rfl,λi j hi q u=>?_⟩;by_cases H:j<lo+x
   ·exact hd i j hi q H
   ·have y:j=lo+x:=by left
    subst y;by_cases C:i=lo+x - 1
    ·subst C;exact k
    ·exact Int.lt_trans k (hd i (lo+x - 1) hi (by left) (by left))
  ·simp only[k,decide_false,Bool.false_eq_true,if_false];refine aam (jv L l (by left) (by left) ?_);have B:R F (arrOf st) (lo+x - 1)<R F (arrOf st) (lo+x):=by
    have b:=D.ne l (i:=lo+x) (j:=lo+x - 1) (by left) (by left) (by left);left
   simp only[B,decide_true,if_true];exact aak ⟨rfl,x,rfl,by left,by left,hd⟩
 ·rintro c d ⟨rfl,rfl,hd⟩;rw[show max (1+1) g=g by left]at hd ⊢;exact⟨rfl,g,rfl,by left,aal _,hd⟩
 ·have:i=lo:=by left
  have:j=lo+1:=by left
  subst i j;exact S
 rintro c d ⟨rfl,m,rfl,U,T,hd⟩;dsimp only;rw[if_neg (by left)];have p:lo+m<=(arrOf st).size:=by rw[l.size];left
 refine aam (wpS_reverse ?_);have J:A3 a₀ κ lo (lo+g) st (setArr st (mirror (arrOf st) lo (lo+m) ((lo+m - lo) / 2))):=.arr l (mirror_perm _ _ _ _) λi hi=>by
  rw[getElem?_mirror_all p,if_neg (by left)]
 have O:On F (arrOf (setArr st (mirror (arrOf st) lo (lo+m) ((lo+m - lo) / 2)))) lo (lo+m):=λi j hi q u=>by
  show R F (mirror (arrOf st) lo (lo+m) ((lo+m - lo) / 2)) i<=R F (mirror (arrOf st) lo (lo+m) ((lo+m - lo) / 2)) j;rw[vI p,vI p,if_pos (by left),if_pos (by left)];by_cases e:i=j
  ·subst e;exact abD _
  ·exact abh (hd _ _ (by left) (by left) (by left))
 generalize setArr st (mirror (arrOf st) lo (lo+m) ((lo+m - lo) / 2))=o at J O ⊢;refine aam (abp (aaN (I:=λx c d=>o=d/\c=(none,x)/\On F (arrOf o) lo (lo+x))
  (Q:=λc d=>o=d/\∃n,c=(none,n)/\1<=n/\n<=g/\On F (arrOf o) lo (lo+n)) ?_ ?_ ⟨rfl,rfl,O⟩) ?_)
 ·rintro x c d v K ⟨rfl,rfl,f⟩;dsimp only;refine aam (jv L J.sb (by left) (by left) ?_);by_cases k:R F (arrOf o) (lo+x)<R F (arrOf o) (lo+x - 1)
  ·simp only[k,decide_true,if_true];exact aak ⟨rfl,x,rfl,by left,by left,f⟩
  ·simp only[k,decide_false,Bool.false_eq_true,if_false];exact aak ⟨rfl,rfl,grow o x (by left) f k⟩
 ·rintro c d ⟨rfl,rfl,f⟩;rw[show max m g=g by left]at f ⊢;exact⟨rfl,g,rfl,M,aal _,f⟩
 rintro c d ⟨rfl,n,rfl,t,r,f⟩;exact aak (h n o J t r f)
end
def Pw(F:Keyed->Int)(l:List Keyed):Prop:=l.Pairwise λx y=>F x<=F y
structure J(F:Keyed->Int)(la lb o:List Keyed)(ia ib:Nat):Prop where
 perm:(o++(la.drop ia++lb.drop ib)).Perm (la++lb)
 so:Pw F o
 xa:∀x∈o,∀y∈la.drop ia,F x<=F y
 xb:∀x∈o,∀y∈lb.drop ib,F x<=F y
def Res(F:Keyed->Int)(b a:List Keyed)(r:Array Keyed):Prop:=r.toList.Perm (b++a)/\Pw F r.toList
section
variable {F:Keyed->Int}{la lb o:List Keyed}{ia ib:Nat}
theorem EG(l:List Keyed)(i k:Nat):l.drop i=(l.drop i).take k++l.drop (i+k):=by
 rw[<- List.drop_drop,List.take_append_drop]
theorem Pw.dr{l:List Keyed}(h:Pw F l)(i:Nat):Pw F (l.drop i):=h.sublist (List.drop_sublist i l)
theorem J.tR(H:J F la lb o ia ib)(sa:Pw F la)(k:Nat)(d:∀x∈(la.drop ia).take k,∀y∈lb.drop ib,F x<=F y):J F la lb (o++(la.drop ia).take k) (ia+k) ib:=by
 have e:=EG la ia k;have c:=sa.dr ia;rw[e]at c;obtain⟨t1,t2,t3⟩:=List.pairwise_append.mp c;refine⟨?_,List.pairwise_append.mpr ⟨H.so,t1,λx a y b=>H.xa x a y (ab0 b)⟩,λx a y b=>?_,λx a y b=>?_⟩
 ·have:=H.perm;rw[e,List.append_assoc]at this;rw[List.append_assoc];exact this
 ·rcases List.mem_append.mp a with a|a
  ·exact H.xa x a y (by rw[e];exact aan _ b)
  ·exact t3 x a y b
 ·rcases List.mem_append.mp a with a|a
  ·exact H.xb x a y b
  ·exact d x a y b
theorem J.tQ(H:J F la lb o ia ib)(sb:Pw F lb)(k:Nat)(d:∀x∈(lb.drop ib).take k,∀y∈la.drop ia,F x<=F y):J F la lb (o++(lb.drop ib).take k) ia (ib+k):=by
 have e:=EG lb ib k;have c:=sb.dr ib;rw[e]at c;obtain⟨t1,t2,t3⟩:=List.pairwise_append.mp c;refine⟨?_,List.pairwise_append.mpr ⟨H.so,t1,λx a y b=>H.xb x a y (ab0 b)⟩,λx a y b=>?_,λx a y b=>?_⟩
 ·have:=H.perm;rw[e]at this;rw[List.append_assoc];exact(abY o (List.perm_append_comm_assoc _ _ _)).trans this
 ·rcases List.mem_append.mp a with a|a
  ·exact H.xa x a y b
  ·exact d x a y b
 ·rcases List.mem_append.mp a with a|a
  ·exact H.xb x a y (by rw[e];exact aan _ b)
  ·exact t3 x a y b
theorem J.done(H:J F la lb o ia ib)(sa:Pw F la)(sb:Pw F lb)(a:lb.drop ib=[]\/la.drop ia=[]):(o++la.drop ia++lb.drop ib).Perm (la++lb)/\Pw F (o++la.drop ia++lb.drop ib):=by
 refine⟨by rw[List.append_assoc];exact H.perm,?_⟩;rcases a with e|e
 ·rw[e,List.append_nil];exact List.pairwise_append.mpr ⟨H.so,sa.dr ia,H.xa⟩
 ·rw[e,List.append_nil];exact List.pairwise_append.mpr ⟨H.so,sb.dr ib,H.xb⟩
theorem J.last(H:J F la lb o ia ib)(sa:Pw F la)(sb:Pw F lb)(c:∀y∈lb.drop ib,∀z∈la.drop ia,F y<=F z):(o++lb.drop ib++la.drop ia).Perm (la++lb)/\Pw F (o++lb.drop ib++la.drop ia):=by
 refine⟨?_,?_⟩
 ·rw[List.append_assoc];exact(abY o aco).trans H.perm
 ·refine List.pairwise_append.mpr ⟨List.pairwise_append.mpr ⟨H.so,sb.dr ib,H.xb⟩,sa.dr ia,λx a y b=>?_⟩;rcases List.mem_append.mp a with a|a
  ·exact H.xa x a y b
  ·exact c x a y b
end
theorem take1{l:List Keyed}{i:Nat}{x:Keyed}(h:l[i]?=some x):(l.drop i).take 1=[x]:=by
 obtain⟨hi,rfl⟩:=List.getElem?_eq_some_iff.mp h;rw[List.drop_eq_getElem_cons hi];rfl
theorem oT{l:List Keyed}{i:Nat}{y:Keyed}(h:y∈l.drop i):∃j,l[i+j]?=some y:=by
 obtain⟨j,a⟩:=List.mem_iff_getElem?.mp h;exact⟨j,by rw[<- List.getElem?_drop];exact a⟩
theorem nK{l:List Keyed}{i k:Nat}{y:Keyed}(h:y∈(l.drop i).take k):∃j,j<k/\l[i+j]?=some y:=by
 obtain⟨j,a⟩:=List.mem_iff_getElem?.mp h;rw[List.getElem?_take]at a;split at a
 ·next b=>exact⟨j,b,by rw[<- List.getElem?_drop];exact a⟩
 ·cases a
structure aL(st aQ:SortSt):Prop where
 a:arrOf aQ=arrOf st
 p:pendingOf aQ=pendingOf st
 k:kindOf aQ=kindOf st
 f:failedOf aQ=failedOf st
theorem aL.qi(st:SortSt):aL st st:=⟨rfl,rfl,rfl,rfl⟩
theorem aL.trans{a b c:SortSt}(h:aL a b)(h':aL b c):aL a c:=⟨h'.a.trans h.a,h'.p.trans h.p,h'.k.trans h.k,h'.f.trans h.f⟩
theorem ext_toList(a:Array Keyed)(i j:Nat):(a.extract i j).toList=(a.toList.drop i).take (j - i):=by simp
theorem y_(a:Array Keyed)(i:Nat):(a.extract i a.size).toList=a.toList.drop i:=by
 rw[ext_toList];exact List.take_of_length_le (by simp)
noncomputable def C7:Array Keyed->Array Keyed->StateT SortSt Sem (Array Keyed):=sortPriv% PySem.Builtin.mergeLo
section
variable {F:Keyed->Int}{a b out:Array Keyed}{ia ib:Nat}
theorem fM{a:Array Keyed}{i:Nat}(h:i<a.size):∃x,a[i]?=some x/\x∈a.toList:=⟨a[i],acy a i h,by simp⟩
theorem wk{a:Array Keyed}{i:Nat}{x:Keyed}(h:a[i]?=some x):a.toList[i]?=some x:=by simpa using h
theorem Aa{a:Array Keyed}{i:Nat}{x:Keyed}(h:a.toList[i]?=some x):a[i]?=some x:=by simpa using h
theorem Pw.ix(sa:Pw F a.toList){i j:Nat}{x y:Keyed}(f:i<=j)(d:a[i]?=some x)(c:a[j]?=some y):F x<=F y:=by
 obtain⟨hi,rfl⟩:=List.getElem?_eq_some_iff.mp (wk d);obtain⟨e,rfl⟩:=List.getElem?_eq_some_iff.mp (wk c);rcases Nat.lt_or_ge i j with h|h
 ·exact List.pairwise_iff_getElem.mp sa i j hi e h
 ·have:i=j:=by left
  subst this;exact abD _
theorem Pw.hd(sa:Pw F a.toList){i:Nat}{x:Keyed}(d:a[i]?=some x):∀z∈a.toList.drop i,F x<=F z:=λz c=>by
 obtain⟨j,e⟩:=oT c;exact sa.ix (by left) d (Aa e)
theorem B7(H:J F a.toList b.toList out.toList ia ib)(sa:Pw F a.toList)(sb:Pw F b.toList)(c:b.size<=ib\/a.size<=ia):Res F a.toList b.toList (out++a.extract ia a.size++b.extract ib b.size):=by
 unfold Res;simp only[Array.toList_append,y_];exact H.done sa sb (c.imp (λh=>acf (by simpa using h)) λh=>acf (by simpa using h))
theorem GL(H:J F a.toList b.toList out.toList ia ib)(sa:Pw F a.toList)(sb:Pw F b.toList)(e:ia+1=a.size)(g:∀y∈b.toList,∀z,a[a.size - 1]?=some z->F y<=F z):Res F a.toList b.toList (out++b.extract ib b.size++a.extract ia a.size):=by
 unfold Res;simp only[Array.toList_append,y_];refine H.last sa sb λy f z d=>?_;obtain⟨j,c⟩:=oT d;have h:ia+j<a.size:=by
  obtain⟨hi,_⟩:=List.getElem?_eq_some_iff.mp c;simpa using hi
 have:ia+j=a.size - 1:=by left
 rw[this]at c;exact g y (acz f) z (Aa c)
theorem J.QB(H:J F a.toList b.toList out.toList ia ib)(sb:Pw F b.toList){y:Keyed}(c:b[ib]?=some y)(f:∀z∈a.toList.drop ia,F y<=F z):J F a.toList b.toList (out.push y).toList ia (ib+1):=by
 have:=H.tQ sb 1 λx d z e=>by
  rw[take1 (wk c),List.mem_singleton]at d;subst d;exact f z e
 rw[take1 (wk c)]at this;rw[Array.toList_push];exact this
theorem J.T8(H:J F a.toList b.toList out.toList ia ib)(sa:Pw F a.toList){x:Keyed}(d:a[ia]?=some x)(f:∀z∈b.toList.drop ib,F x<=F z):J F a.toList b.toList (out.push x).toList (ia+1) ib:=by
 have:=H.tR sa 1 λy c z e=>by
  rw[take1 (wk d),List.mem_singleton]at c;subst c;exact f z e
 rw[take1 (wk d)]at this;rw[Array.toList_push];exact this
theorem J.X1(H:J F a.toList b.toList out.toList ia ib)(sa:Pw F a.toList)(k:Nat)(g:∀i x,i<k->a[ia+i]?=some x->∀z∈b.toList.drop ib,F x<=F z):J F a.toList b.toList (out++a.extract ia (ia+k)).toList (ia+k) ib:=by
 rw[Array.toList_append,ext_toList,show ia+k - ia=k by left];exact H.tR sa k λx d z c=>by
  obtain⟨j,f,e⟩:=nK d;exact g j x f (Aa e) z c
theorem J.X0(H:J F a.toList b.toList out.toList ia ib)(sb:Pw F b.toList)(k:Nat)(g:∀i x,i<k->b[ib+i]?=some x->∀z∈a.toList.drop ia,F x<=F z):J F a.toList b.toList (out++b.extract ib (ib+k)).toList ia (ib+k):=by
 rw[Array.toList_append,ext_toList,show ib+k - ib=k by left];exact H.tQ sb k λx d z c=>by
  obtain⟨j,f,e⟩:=nK d;exact g j x f (Aa e) z c
end
section
variable {prog:aC}{w:World}{A:aB}{E:au}{s:Shared}{κ:SortKind}{a₀:Array Keyed}{F:Keyed->Int}(L:qx prog w A E s κ a₀ F)
include L
theorem fD{left:Bool}{a:Keyed}{arr:Array Keyed}{n:Nat}{st:SortSt}{Q:Option Nat->SortSt->Prop}(l:kindOf st=κ)(f:a∈a₀.toList)(o:hint<n)(u:base+n<=arr.size)(g:∀i x,base<=i->i<base+n->arr[i]?=some x->x∈a₀.toList)
  (hs:∀i j x y,base<=i->i<=j->j<base+n->arr[i]?=some x->arr[j]?=some y->F x<=F y)
  (h:∀k,k<=n->(∀i x,i<k->arr[base+i]?=some x->if left then F x<F a else F x<=F a)->(∀i x,k<=i->i<n->arr[base+i]?=some x->if left then F a<=F x else F a<F x)->Q (some k) st):wpS (model prog w) A E s (y4 left a arr base n hint) Q st:=by
 have c:∀i,i<n->∃x,arr[base+i]?=some x:=λi hi=>⟨arr[base+i]'(by left),acy _ _ _⟩
 refine v_ L (G:=λi=>if left then decide (R F arr (base+i)<F a)else !decide (F a<R F arr (base+i))) l f o (λi hi=>?_) (λi j v m e=>?_) λk t q p=>h k t (λi x hi b=>?_) λi x hi r b=>?_
 ·obtain⟨x,b⟩:=c i hi;exact⟨x,b,g _ x (by left) (by left) b,by rw[fR b]⟩
 ·obtain⟨x,b⟩:=c i (by left);obtain⟨y,d⟩:=c j m;have:=hs _ _ x y (by left) (by left) (by left) b d;rw[fR d]at e;rw[fR b];cases left<;>simp at e ⊢ <;> left
 ·have e:=q i hi;rw[fR b]at e;cases left<;>simp at e ⊢ <;> left
 ·have e:=p i hi r;rw[fR b]at e;cases left<;>simp at e ⊢ <;> left
end
theorem AQ{T G:Prop}(f:T->G)(t:T):G:=f t
section
variable {M:Model}{A:aB}{E:au}{s:Shared}{σ α:Type}{c:Prop}[Decidable c]{t e:StateT σ Sem α}{Q:α->σ->Prop}{st:σ}
theorem bB(h:c)(k:wpS M A E s t Q st):wpS M A E s (if c then t else e) Q st:=by rw[if_pos h];exact k
theorem bC(h:¬ c)(k:wpS M A E s e Q st):wpS M A E s (if c then t else e) Q st:=by rw[if_neg h];exact k
theorem jw(h:c->wpS M A E s t Q st)(k:¬ c->wpS M A E s e Q st):wpS M A E s (if c then t else e) Q st:=by
 by_cases z:c
 ·exact bB z (h z)
 ·exact bC z (k z)
theorem bV{a:Type}{x:StateT σ Sem α}{f:α->StateT σ Sem a}{R:a->σ->Prop}{u:α}{b:σ}(g:∀d:α->σ->Prop,d u b->wpS M A E s x d st)(h:wpS M A E s (f u) R b):wpS M A E s (x >>= f) R st:=aam (g _ h)
theorem lP{b:Type}{x:StateT σ Sem α}{f:α->StateT σ Sem b}{R:b->σ->Prop}(g:wpS M A E s x Q st)(h:∀a d,Q a d->wpS M A E s (f a) R d):wpS M A E s (x >>= f) R st:=aam (abp g h)
theorem rG{a:Type}{x:StateT σ Sem (Option Nat)}{f:Option Nat->StateT σ Sem a}{R:a->σ->Prop}{i g d:Nat->Prop}(j:∀b:Option Nat->σ->Prop,(∀k,i k->g k->d k->b (some k) st)->wpS M A E s x b st)(h:∀k,i k->g k->d k->wpS M A E s (f (some k)) R st):wpS M A E s (x >>= f) R st:=aam (j _ h)
theorem Bp{b:Type}{x:StateT σ Sem Unit}{f:Unit->StateT σ Sem b}{R:b->σ->Prop}{g:σ->Prop}(i:∀d:Unit->σ->Prop,(∀a,g a->d () a)->wpS M A E s x d st)(h:∀a,g a->wpS M A E s (f ()) R a):wpS M A E s (x >>= f) R st:=aam (i _ h)
end
noncomputable def Qf:Nat->StateT SortSt Sem Unit:=sortPriv% PySem.Builtin.setMinGallop
section
variable {prog:aC}{w:World}{A:aB}{E:au}{s:Shared}{κ:SortKind}{a₀:Array Keyed}{F:Keyed->Int}(L:qx prog w A E s κ a₀ F)
include L
omit L in
theorem kF{g:Nat}{st:SortSt}{Q:Unit->SortSt->Prop}(h:∀a,aL st a->Q () a):wpS (model prog w) A E s (Qf g) Q st:=by
 exact abC (h _ ⟨rfl,rfl,rfl,rfl⟩)
theorem KW{a b:Array Keyed}{st:SortSt}{Q:Array Keyed->SortSt->Prop}(hk:kindOf st=κ)(ma:∀x∈a.toList,x∈a₀.toList)(mb:∀x∈b.toList,x∈a₀.toList)(sa:Pw F a.toList)(sb:Pw F b.toList)(ha:1<=a.size)(hb:1<=b.size)
  (h0:∀y,b[0]?=some y->∀x∈a.toList,F y<=F x) (hl:∀y∈b.toList,∀z,a[a.size - 1]?=some z->F y<=F z) (h:∀r p,aL st p->Res F a.toList b.toList r->Q r p):wpS (model prog w) A E s (C7 a b) Q st:=by
 obtain⟨y0,W,Ov⟩:=fM (a:=b) (i:=0) hb;have J0:J F a.toList b.toList (#[]:Array Keyed).toList 0 0:=⟨by simp,.nil,(λ_ h=>nomatch h),(λ_ h=>nomatch h)⟩
 have J1:=J0.QB sb W λz n=>h0 y0 W z (by simpa using n);refine bV (λ_ h=>wpS_lift (abq ⟨rfl,h⟩)) ?_;refine bV (λ_=>bA W) ?_;dsimp -zeta only;by_cases e1:1=b.size
 ·refine bB (by simpa using e1) ?_;exact aak (h _ st (.qi st) (B7 J1 sa sb (.inl (by left))))
 refine bC (by simpa using e1) ?_;by_cases e2:0+1=a.size
 ·refine bB (by simpa using e2) ?_;exact aak (h _ st (.qi st) (GL J1 sa sb e2 hl))
 refine bC (by simpa using e2) ?_;refine bV (λ_=>abK) ?_;refine lP (aaN (I:=λx c p=>aL st p/\∃out f d g,c=(none,out,f,d,g)/\J F a.toList b.toList out.toList f d/\f+1<a.size/\d<b.size/\x+1<=f+d)
  (Q:=λc p=>aL st p/\∃r o f d g,c=(some r,o,f,d,g)/\Res F a.toList b.toList r) ?step ?fin ⟨.qi st,_,_,_,_,rfl,J1,by left,by left,by left⟩) ?post
 case fin =>
  rintro c p ⟨S,out,f,d,g,rfl,u,C,m,B⟩;left
 case post =>
  rintro c p ⟨S,r,o,f,d,g,rfl,hr⟩;exact aak (h r p S hr)
 case step =>
  rintro x c jz _ ME ⟨S1,out,f,d,g,rfl,u,C,m,B⟩;dsimp -zeta only;refine lP (aaN (I:=λx' c p=>jz=p/\∃out f d t q,c=(none,out,f,d,t,q)/\J F a.toList b.toList out.toList f d/\f+1<a.size/\d<b.size/\x+1+x'<=f+d)
   (Q:=λc p=>jz=p/\((∃r o f d t q,c=(some r,o,f,d,t,q)/\Res F a.toList b.toList r)\/∃out f d t q,c=(none,out,f,d,t,q)/\J F a.toList b.toList out.toList f d/\f+1<a.size/\d<b.size/\x+2<=f+d)) ?_ ?_ ⟨rfl,_,_,_,_,_,rfl,u,C,m,by left⟩) ?_
  ·rintro x' c p _ yQ ⟨rfl,out,f,d,t,q,rfl,u,C,m,B⟩;dsimp only;obtain⟨y,M,my⟩:=fM m;obtain⟨z,n,mz⟩:=fM (show f<a.size by left);refine bV (λ_=>bA M) (bV (λ_=>bA n) (bV (λ_=>L y z (mb y my) (ma z mz) jz _ (S1.k.trans hk)) ?_));by_cases dv:F y<F z
   ·refine bB (aa_ dv) ?_;have N:=u.QB sb M λv hv=>aa8 (abh dv) (sa.hd n v hv);refine bV (λ_=>bA M) ?_;by_cases eb:d+1=b.size
    ·refine bB (by simpa using eb) ?_;exact aak ⟨rfl,.inl ⟨_,_,_,_,_,_,rfl,B7 N sa sb (.inl (by left))⟩⟩
    refine bC (by simpa using eb) ?_;exact jw (λ_=>aak ⟨rfl,.inr ⟨_,_,_,_,_,rfl,N,C,by left,by left⟩⟩) (λ_=>aak ⟨rfl,_,_,_,_,_,rfl,N,C,by left,by left⟩)
   ·refine bC (by simpa using dv) ?_;have N:=u.T8 sa n λv hv=>aa8 (Int.not_lt.mp dv) (sb.hd M v hv);refine bV (λ_=>bA n) ?_;by_cases Y:f+1+1=a.size
    ·refine bB (by simpa using Y) ?_;exact aak ⟨rfl,.inl ⟨_,_,_,_,_,_,rfl,GL N sa sb Y hl⟩⟩
    refine bC (by simpa using Y) ?_;exact jw (λ_=>aak ⟨rfl,.inr ⟨_,_,_,_,_,rfl,N,by left,m,by left⟩⟩) (λ_=>aak ⟨rfl,_,_,_,_,_,rfl,N,by left,m,by left⟩)
  ·rintro c p ⟨rfl,out,f,d,t,q,rfl,u,C,m,B⟩;exact⟨rfl,.inr ⟨_,_,_,_,_,rfl,u,C,m,by left⟩⟩
  rintro c p ⟨rfl,⟨r,o,f,d,t,q,rfl,hr⟩|⟨out,f,d,t,q,rfl,u,C,m,B⟩⟩
  ·exact aak ⟨S1,_,_,_,_,_,rfl,hr⟩
  dsimp -zeta only;refine bV (λ_ h=>wpS_lift (abq ⟨rfl,h⟩)) ?_;obtain⟨R,hlw⟩:∃R,R=x+2:=⟨_,rfl⟩
  rw[<- hlw]at B;refine lP (aaN (I:=λx' c p=>aL st p/\∃out f d g t q,c=(none,out,f,d,g,t,q)/\J F a.toList b.toList out.toList f d/\f+1<a.size/\d<b.size/\R<=f+d)
   (Q:=λc p=>aL st p/\((∃r o f d g t q,c=(some r,o,f,d,g,t,q)/\Res F a.toList b.toList r)\/∃out f d g t q,c=(none,out,f,d,g,t,q)/\J F a.toList b.toList out.toList f d/\f+1<a.size/\d<b.size/\R<=f+d)) ?_ ?_ ⟨S1,_,_,_,_,_,_,rfl,u,C,m,B⟩) ?_
  ·clear u C m B S1;rintro x' c jz _ yQ ⟨S1,out0,ia0,ib0,g0,ac0,bc0,rfl,u,C,m,B⟩;dsimp -zeta only
   extract_lets -underBinder s0 out s1 f s2 d s3 g s4 t q T g9
   obtain⟨q1,X,q3,q4⟩:out=out0/\f=ia0/\d=ib0/\g=g0:=⟨rfl,rfl,rfl,rfl⟩
   clear_value out f d g t q
   clear s0 s1 s2 s3 s4;subst q1 X q3 q4;apply AQ
   ·intro l;by_cases hg:g>1
    ·refine bB hg ?_
     clear_value g9
     revert g9
     exact l
    ·refine bC hg ?_;generalize g=z
     revert z
     exact l
   intro g;dsimp -zeta only[T];clear g9 T;refine Bp (λ_=>kF) λtU S3=>?_;have O:=S1.trans S3;clear S3;obtain⟨y0,W,Ov⟩:=fM m;refine bV (λ_=>bA W) ?_;refine rG (λ_=>fD L (O.k.trans hk) (mb y0 Ov) (show 0<a.size - f by left) (by left) (λi z _ _ n=>ma z (by simpa using List.mem_of_getElem? (wk n))) (λi j z z' _ dN _ n V=>sa.ix dN n V)) λk ZT g1 g2=>?_;dsimp -zeta only
   extract_lets -underBinder ac2 T o9 i9
   obtain⟨q1,X⟩:o9=out++a.extract f (f+k)/\i9=f+k:=⟨rfl,rfl⟩
   clear_value o9 i9
   subst q1 X;simp only[Bool.false_eq_true,if_false]at g1 g2;have O6:=u.X1 sa k λi z hi n z' V=>aa8 (g1 i z hi n) (sb.hd W z' V);have As:∀y,b[d]?=some y->∀z∈a.toList.drop (f+k),F y<=F z:=λy M z n=>by
    obtain⟨j,K⟩:=oT n;have dv:f+k+j<a.size:=by
     obtain⟨hi,_⟩:=List.getElem?_eq_some_iff.mp K;simpa using hi
    have e:y=y0:=by rw[W]at M;exact(aaI M).symm
    subst e;exact abh (g2 (k+j) z (by left) (by left) (by rw[<- Nat.add_assoc];exact Aa K))
   apply AQ
   ·intro l;by_cases k0:k>0
    ·refine bB k0 ?_;by_cases NM:f+k+1=a.size
     ·refine bB (by clear l;simpa using NM) ?_;exact aak ⟨O,.inl ⟨_,_,_,_,_,_,_,rfl,GL O6 sa sb NM hl⟩⟩
     refine bC (by clear l;simpa using NM) ?_;by_cases ea1:f+k=a.size
     ·refine bB (by clear l;simpa using ea1) ?_;exact aak ⟨O,.inl ⟨_,_,_,_,_,_,_,rfl,B7 O6 sa sb (.inr (by clear l;left))⟩⟩
     refine bC (by clear l;simpa using ea1) ?_;have MU:f+k+1<a.size:=by clear l;left
     have Z:R<=f+k+d:=by clear l;left
     have G:=O6;have H:=As;generalize out++a.extract f (f+k)=P at G ⊢;generalize f+k=U at G H MU Z ⊢
     revert Z
     revert MU
     revert H
     revert G
     revert U
     revert P
     exact l
    ·refine bC k0 ?_;have z0:k=0:=by clear l;left
     have MU:f+1<a.size:=by clear l;left
     have Z:R<=f+d:=by clear l;left
     have H:=As;rw[z0,Nat.add_zero]at H;have G:=u;generalize out=P at G ⊢;generalize f=U at G H MU Z ⊢
     revert Z
     revert MU
     revert H
     revert G
     revert U
     revert P
     exact l
   intro P U J1 As MU Z;dsimp -zeta only[T];clear T;obtain⟨y,M,my⟩:=fM m;have N:=J1.QB sb M (As y M);refine bV (λ_=>bA M) ?_
   extract_lets -underBinder o3 j3
   obtain⟨q1,X⟩:o3=P.push y/\j3=d+1:=⟨rfl,rfl⟩
   clear_value o3 j3
   subst q1 X;by_cases eb:d+1=b.size
   ·refine bB (by simpa using eb) ?_;exact aak ⟨O,.inl ⟨_,_,_,_,_,_,_,rfl,B7 N sa sb (.inl (by left))⟩⟩
   refine bC (by simpa using eb) ?_;obtain⟨x,B,mx⟩:=fM (show U<a.size by left);refine bV (λ_=>bA B) ?_;refine rG (λ_=>fD L (O.k.trans hk) (ma x mx) (show 0<b.size - (d+1) by left) (by left) (λi z _ _ n=>mb z (by simpa using List.mem_of_getElem? (wk n))) (λi j z z' _ dN _ n V=>sb.ix dN n V)) λD MT g1 g2=>?_;dsimp -zeta only
   extract_lets -underBinder bc2 T o9 j9
   obtain⟨q1,X⟩:o9=P.push y++b.extract (d+1) (d+1+D)/\j9=d+1+D:=⟨rfl,rfl⟩
   clear_value o9 j9
   subst q1 X;simp only[if_true]at g1 g2;have J3:=N.X0 sb D λi z hi n z' V=>aa8 (abh (g1 i z hi n)) (sa.hd B z' V);have yP:∀z∈b.toList.drop (d+1+D),F x<=F z:=λz n=>by
    obtain⟨j,K⟩:=oT n;have dv:d+1+D+j<b.size:=by
     obtain⟨hi,_⟩:=List.getElem?_eq_some_iff.mp K;simpa using hi
    exact g2 (D+j) z (by left) (by left) (by rw[show d+1+(D+j)=d+1+D+j by left];exact Aa K)
   apply AQ
   ·intro l;by_cases k0:D>0
    ·refine bB k0 ?_;by_cases OT:d+1+D=b.size
     ·refine bB (by clear l;simpa using OT) ?_;exact aak ⟨O,.inl ⟨_,_,_,_,_,_,_,rfl,B7 J3 sa sb (.inl (by clear l;left))⟩⟩
     refine bC (by clear l;simpa using OT) ?_;have K:d+1+D<b.size:=by clear l;left
     have Fy:R<=U+(d+1+D):=by clear l;left
     have G:=J3;have H:=yP;generalize P.push y++b.extract (d+1) (d+1+D)=o2 at G ⊢;generalize d+1+D=j2 at G H K Fy ⊢
     revert Fy
     revert K
     revert H
     revert G
     revert j2
     revert o2
     exact l
    ·refine bC k0 ?_;have z0:D=0:=by clear l;left
     have K:d+1<b.size:=by clear l;left
     have Fy:R<=U+(d+1):=by clear l;left
     have H:=yP;rw[z0,Nat.add_zero]at H;have G:=N;generalize P.push y=o2 at G ⊢;generalize d+1=j2 at G H K Fy ⊢
     revert Fy
     revert K
     revert H
     revert G
     revert j2
     revert o2
     exact l
   intro o2 j2 J3 yP K Fy;dsimp only[T];clear T;have J4:=J3.T8 sa B yP;refine bV (λ_=>bA B) ?_;by_cases Y:U+1+1=a.size
   ·refine bB (by simpa using Y) ?_;exact aak ⟨O,.inl ⟨_,_,_,_,_,_,_,rfl,GL J4 sa sb Y hl⟩⟩
   refine bC (by simpa using Y) ?_;exact jw (λ_=>aak ⟨O,.inr ⟨_,_,_,_,_,_,rfl,J4,by left,by left,by left⟩⟩) (λ_=>aak ⟨O,_,_,_,_,_,_,rfl,J4,by left,by left,by left⟩)
  ·rintro c p ⟨S,out,f,d,g,t,q,rfl,u,C,m,B⟩;exact⟨S,.inr ⟨_,_,_,_,_,_,rfl,u,C,m,B⟩⟩
  rintro c p ⟨S,⟨r,o,f,d,g,t,q,rfl,hr⟩|⟨out,f,d,g,t,q,rfl,u,C,m,B⟩⟩
  ·exact aak ⟨S,_,_,_,_,_,rfl,hr⟩
  ·dsimp only;exact aam (kF λtU S3=>aak ⟨S.trans S3,_,_,_,_,rfl,u,C,m,by left⟩)
end
noncomputable def C8:Array Keyed->Array Keyed->StateT SortSt Sem (Array Keyed):=sortPriv% PySem.Builtin.mergeHi
structure H(F:Keyed->Int)(la lb o:List Keyed)(na nb:Nat):Prop where
 perm:((la.take na++lb.take nb)++o.reverse).Perm (la++lb)
 so:Pw F o.reverse
 xa:∀x∈o,∀y∈la.take na,F y<=F x
 xb:∀x∈o,∀y∈lb.take nb,F y<=F x
section
variable {F:Keyed->Int}{la lb o:List Keyed}{na nb m:Nat}
theorem Jv(l:List Keyed){m n:Nat}(h:m<=n):l.take n=l.take m++(l.take n).drop m:=by
 have:=acp m (l.take n);rw[List.take_take,Nat.min_eq_left h]at this;exact this.symm
theorem Pw.tk{l:List Keyed}(h:Pw F l)(i:Nat):Pw F (l.take i):=h.sublist (List.take_sublist i l)
theorem H.tR(H:H F la lb o na nb)(sa:Pw F la)(d:m<=na)(f:∀x∈(la.take na).drop m,∀y∈lb.take nb,F y<=F x):TS.H F la lb (o++((la.take na).drop m).reverse) m nb:=by
 have e:=Jv la d;have c:=sa.tk na;rw[e]at c;obtain⟨t1,t2,t3⟩:=List.pairwise_append.mp c;refine⟨?_,?_,λx a y b=>?_,λx a y b=>?_⟩
 ·have:=H.perm;rw[e]at this;rw[List.reverse_append,List.reverse_reverse];refine List.Perm.trans ?_ this;generalize (la.take na).drop m=T;rw[<- List.append_assoc];refine ach _ ?_;rw[List.append_assoc,List.append_assoc];exact abY _ aco
 ·rw[List.reverse_append,List.reverse_reverse];exact List.pairwise_append.mpr ⟨t2,H.so,λx a y b=>H.xa y (List.mem_reverse.mp b) x (acz a)⟩
 ·rcases List.mem_append.mp a with a|a
  ·exact H.xa x a y (by rw[e];exact aaK _ b)
  ·exact t3 y b x (List.mem_reverse.mp a)
 ·rcases List.mem_append.mp a with a|a
  ·exact H.xb x a y b
  ·exact f x (List.mem_reverse.mp a) y b
theorem H.tQ(H:H F la lb o na nb)(sb:Pw F lb)(d:m<=nb)(f:∀x∈(lb.take nb).drop m,∀y∈la.take na,F y<=F x):TS.H F la lb (o++((lb.take nb).drop m).reverse) na m:=by
 have e:=Jv lb d;have c:=sb.tk nb;rw[e]at c;obtain⟨t1,t2,t3⟩:=List.pairwise_append.mp c;refine⟨?_,?_,λx a y b=>?_,λx a y b=>?_⟩
 ·have:=H.perm;rw[e]at this;rw[List.reverse_append,List.reverse_reverse];refine List.Perm.trans ?_ this;simp only[List.append_assoc];exact .refl _
 ·rw[List.reverse_append,List.reverse_reverse];exact List.pairwise_append.mpr ⟨t2,H.so,λx a y b=>H.xb y (List.mem_reverse.mp b) x (acz a)⟩
 ·rcases List.mem_append.mp a with a|a
  ·exact H.xa x a y b
  ·exact f x (List.mem_reverse.mp a) y b
 ·rcases List.mem_append.mp a with a|a
  ·exact H.xb x a y (by rw[e];exact aaK _ b)
  ·exact t3 y b x (List.mem_reverse.mp a)
theorem H.done(H:H F la lb o na nb)(sa:Pw F la)(sb:Pw F lb)(c:na=0\/nb=0):(la.take na++lb.take nb++o.reverse).Perm (la++lb)/\Pw F (la.take na++lb.take nb++o.reverse):=by
 refine⟨H.perm,?_⟩;rcases c with rfl|rfl
 ·rw[List.take_zero,List.nil_append];exact List.pairwise_append.mpr ⟨sb.tk nb,H.so,λx b y a=>H.xb y (List.mem_reverse.mp a) x b⟩
 ·rw[List.take_zero,List.append_nil];exact List.pairwise_append.mpr ⟨sa.tk na,H.so,λx b y a=>H.xa y (List.mem_reverse.mp a) x b⟩
theorem H.first(H:H F la lb o na nb)(sa:Pw F la)(sb:Pw F lb)(c:∀y∈lb.take nb,∀z∈la.take na,F y<=F z):(lb.take nb++la.take na++o.reverse).Perm (la++lb)/\Pw F (lb.take nb++la.take na++o.reverse):=by
 refine⟨(ach _ aco).trans H.perm,?_⟩;refine List.pairwise_append.mpr ⟨List.pairwise_append.mpr ⟨sb.tk nb,sa.tk na,c⟩,H.so,λx a y b=>?_⟩;rcases List.mem_append.mp a with a|a
 ·exact H.xb y (List.mem_reverse.mp b) x a
 ·exact H.xa y (List.mem_reverse.mp b) x a
end
theorem sx{l:List Keyed}{n:Nat}{y:Keyed}(h:y∈l.take n):∃j,j<n/\l[j]?=some y:=by
 have:=nK (l:=l) (i:=0) (k:=n) (y:=y) (by simpa using h);obtain⟨j,a,e⟩:=this;exact⟨j,a,by simpa using e⟩
theorem C9{l:List Keyed}{m n:Nat}{y:Keyed}(h:y∈(l.take n).drop m):∃j,m<=j/\j<n/\l[j]?=some y:=by
 obtain⟨j,a⟩:=oT h;rw[List.getElem?_take]at a;split at a
 ·next b=>exact⟨m+j,by left,b,a⟩
 ·cases a
theorem TF{l:List Keyed}{i:Nat}{x:Keyed}(h:l[i]?=some x):(l.take (i+1)).drop i=[x]:=by
 obtain⟨hi,rfl⟩:=List.getElem?_eq_some_iff.mp h;rw[List.take_succ_eq_append_getElem hi,List.drop_append];simp;rw[Nat.min_eq_left (by left),Nat.sub_self];rfl
section
variable {F:Keyed->Int}{a b out:Array Keyed}{na nb:Nat}
theorem Sl(a:Array Keyed)(n:Nat):(a.extract 0 n).toList=a.toList.take n:=by rw[ext_toList];simp
theorem RF(K:H F a.toList b.toList out.toList na nb)(sa:Pw F a.toList)(sb:Pw F b.toList)(c:na=0\/nb=0):Res F a.toList b.toList (a.extract 0 na++b.extract 0 nb++out.reverse):=by
 unfold Res;simp only[Array.toList_append,Sl,Array.toList_reverse];exact K.done sa sb c
theorem Ut(K:H F a.toList b.toList out.toList na nb)(sa:Pw F a.toList)(sb:Pw F b.toList)(e:nb=1)(f:∀y,b[0]?=some y->∀x∈a.toList,F y<=F x):Res F a.toList b.toList (b.extract 0 nb++a.extract 0 na++out.reverse):=by
 unfold Res;simp only[Array.toList_append,Sl,Array.toList_reverse];refine K.first sa sb λy d z c=>?_;obtain⟨j,h,g⟩:=sx d;have:j=0:=by left
 subst this;exact f y (Aa g) z (ab0 c)
theorem H.T8(K:H F a.toList b.toList out.toList (na+1) nb)(sa:Pw F a.toList){x:Keyed}(d:a[na]?=some x)(f:∀z∈b.toList.take nb,F z<=F x):H F a.toList b.toList (out.push x).toList na nb:=by
 have:=K.tR sa (show na<=na+1 by left) λy c z e=>by
  rw[TF (wk d),List.mem_singleton]at c;subst c;exact f z e
 rw[TF (wk d)]at this;rw[Array.toList_push];exact this
theorem H.QB(K:H F a.toList b.toList out.toList na (nb+1))(sb:Pw F b.toList){y:Keyed}(c:b[nb]?=some y)(f:∀z∈a.toList.take na,F z<=F y):H F a.toList b.toList (out.push y).toList na nb:=by
 have:=K.tQ sb (show nb<=nb+1 by left) λx d z e=>by
  rw[TF (wk c),List.mem_singleton]at d;subst d;exact f z e
 rw[TF (wk c)]at this;rw[Array.toList_push];exact this
theorem Eg(a:Array Keyed)(m n:Nat):((a.extract m n).reverse).toList=((a.toList.take n).drop m).reverse:=by
 rw[Array.toList_reverse,ext_toList,List.drop_take]
theorem H.X1(K:H F a.toList b.toList out.toList na nb)(sa:Pw F a.toList){m:Nat}(f:m<=na)(g:∀i x,m<=i->i<na->a[i]?=some x->∀z∈b.toList.take nb,F z<=F x):H F a.toList b.toList (out++(a.extract m na).reverse).toList m nb:=by
 rw[Array.toList_append,Eg];exact K.tR sa f λx d z c=>by
  obtain⟨j,k,h,e⟩:=C9 d;exact g j x k h (Aa e) z c
theorem H.X0(K:H F a.toList b.toList out.toList na nb)(sb:Pw F b.toList){m:Nat}(f:m<=nb)(g:∀i x,m<=i->i<nb->b[i]?=some x->∀z∈a.toList.take na,F z<=F x):H F a.toList b.toList (out++(b.extract m nb).reverse).toList na m:=by
 rw[Array.toList_append,Eg];exact K.tQ sb f λx d z c=>by
  obtain⟨j,k,h,e⟩:=C9 d;exact g j x k h (Aa e) z c
theorem Pw.tl(sa:Pw F a.toList){n:Nat}{x:Keyed}(d:a[n]?=some x):∀z∈a.toList.take (n+1),F z<=F x:=λz c=>by
 obtain⟨j,f,e⟩:=sx c;exact sa.ix (by left) (Aa e) d
theorem H.pA(K:H F a.toList b.toList out.toList na nb)(sa:Pw F a.toList){x:Keyed}(e:1<=na)(c:a[na - 1]?=some x)(d:∀z∈b.toList.take nb,F z<=F x):H F a.toList b.toList (out.push x).toList (na - 1) nb:=by
 obtain⟨n,rfl⟩:∃n,na=n+1:=⟨na - 1,by left⟩
 exact K.T8 sa c d
theorem H.pB(K:H F a.toList b.toList out.toList na nb)(sb:Pw F b.toList){y:Keyed}(e:1<=nb)(c:b[nb - 1]?=some y)(d:∀z∈a.toList.take na,F z<=F y):H F a.toList b.toList (out.push y).toList na (nb - 1):=by
 obtain⟨n,rfl⟩:∃n,nb=n+1:=⟨nb - 1,by left⟩
 exact K.QB sb c d
theorem Pw.TC(sa:Pw F a.toList){n:Nat}{x:Keyed}(d:1<=n)(c:a[n - 1]?=some x):∀z∈a.toList.take n,F z<=F x:=by
 obtain⟨n,rfl⟩:∃m,n=m+1:=⟨n - 1,by left⟩
 exact sa.tl c
end
section
variable {prog:aC}{w:World}{A:aB}{E:au}{s:Shared}{κ:SortKind}{a₀:Array Keyed}{F:Keyed->Int}(L:qx prog w A E s κ a₀ F)
include L
theorem KY{a b:Array Keyed}{st:SortSt}{Q:Array Keyed->SortSt->Prop}(hk:kindOf st=κ)(ma:∀x∈a.toList,x∈a₀.toList)(mb:∀x∈b.toList,x∈a₀.toList)(sa:Pw F a.toList)(sb:Pw F b.toList)(ha:1<=a.size)(hb:1<=b.size)
  (h0:∀y,b[0]?=some y->∀x∈a.toList,F y<=F x) (hl:∀y∈b.toList,∀z,a[a.size - 1]?=some z->F y<=F z) (h:∀r m,aL st m->Res F a.toList b.toList r->Q r m):wpS (model prog w) A E s (C8 a b) Q st:=by
 obtain⟨x0,Ul,mx0⟩:=fM (a:=a) (i:=a.size - 1) (by left);have J0:H F a.toList b.toList (#[]:Array Keyed).toList a.size b.size:=⟨by simp[List.take_of_length_le],.nil,(λ_ h=>nomatch h),(λ_ h=>nomatch h)⟩
 have J1:=J0.pA sa ha Ul λz l=>hl z (ab0 l) x0 Ul;refine bV (λ_ h=>wpS_lift (abq ⟨rfl,h⟩)) ?_;refine bV (λ_=>bA Ul) ?_;dsimp -zeta only;by_cases e1:a.size - 1=0
 ·refine bB (by simpa using e1) ?_;exact aak (h _ st (.qi st) (RF J1 sa sb (.inl e1)))
 refine bC (by simpa using e1) ?_;by_cases e2:b.size=1
 ·refine bB (by simpa using e2) ?_;exact aak (h _ st (.qi st) (Ut J1 sa sb e2 h0))
 refine bC (by simpa using e2) ?_;refine bV (λ_=>abK) ?_;refine lP (aaN (I:=λx c m=>aL st m/\∃d nb out g,c=(none,d,nb,out,g)/\H F a.toList b.toList out.toList d nb/\1<=d/\2<=nb/\d<=a.size/\nb<=b.size/\x+1+d+nb<=a.size+b.size)
  (Q:=λc m=>aL st m/\∃r d nb o g,c=(some r,d,nb,o,g)/\Res F a.toList b.toList r) ?step ?fin ⟨.qi st,_,_,_,_,rfl,J1,by left,by left,by left,by left,by left⟩) ?post
 case fin =>
  rintro c m ⟨S,d,nb,out,g,rfl,q,u,C,K,J,t⟩;left
 case post =>
  rintro c m ⟨S,r,d,nb,o,g,rfl,hr⟩;exact aak (h r m S hr)
 case step =>
  rintro x c jz _ ME ⟨S1,d,nb,out,g,rfl,q,u,C,K,J,t⟩;dsimp -zeta only;refine lP (aaN (I:=λx' c m=>jz=m/\∃d nb out p n,c=(none,d,nb,out,p,n)/\H F a.toList b.toList out.toList d nb/\1<=d/\2<=nb/\d<=a.size/\nb<=b.size/\x+1+x'+d+nb<=a.size+b.size)
   (Q:=λc m=>jz=m/\((∃r d nb o p n,c=(some r,d,nb,o,p,n)/\Res F a.toList b.toList r)\/∃d nb out p n,c=(none,d,nb,out,p,n)/\H F a.toList b.toList out.toList d nb/\1<=d/\2<=nb/\d<=a.size/\nb<=b.size/\x+2+d+nb<=a.size+b.size)) ?_ ?_ ⟨rfl,_,_,_,_,_,rfl,q,u,C,K,J,by left⟩) ?_
  ·rintro x' c m _ yQ ⟨rfl,d,nb,out,p,n,rfl,q,u,C,K,J,t⟩;dsimp only;obtain⟨y,hy,my⟩:=fM (show nb - 1<b.size by left);obtain⟨z,l,mz⟩:=fM (show d - 1<a.size by left);refine bV (λ_=>bA hy) (bV (λ_=>bA l) (bV (λ_=>L y z (mb y my) (ma z mz) jz _ (S1.k.trans hk)) ?_));by_cases dv:F y<F z
   ·refine bB (aa_ dv) ?_;have N:=q.pA sa u l λv hv=>aa8 (sb.TC (by left) hy v hv) (abh dv);refine bV (λ_=>bA l) ?_;by_cases Z:d - 1=0
    ·refine bB (by simpa using Z) ?_;exact aak ⟨rfl,.inl ⟨_,_,_,_,_,_,rfl,RF N sa sb (.inl Z)⟩⟩
    refine bC (by simpa using Z) ?_;exact jw (λ_=>aak ⟨rfl,.inr ⟨_,_,_,_,_,rfl,N,by left,by left,by left,by left,by left⟩⟩) (λ_=>aak ⟨rfl,_,_,_,_,_,rfl,N,by left,by left,by left,by left,by left⟩)
   ·refine bC (by simpa using dv) ?_;have N:=q.pB sb (by left) hy λv hv=>aa8 (sa.TC u l v hv) (Int.not_lt.mp dv);refine bV (λ_=>bA hy) ?_;by_cases Y:nb - 1=1
    ·refine bB (by simpa using Y) ?_;exact aak ⟨rfl,.inl ⟨_,_,_,_,_,_,rfl,Ut N sa sb Y h0⟩⟩
    refine bC (by simpa using Y) ?_;exact jw (λ_=>aak ⟨rfl,.inr ⟨_,_,_,_,_,rfl,N,by left,by left,by left,by left,by left⟩⟩) (λ_=>aak ⟨rfl,_,_,_,_,_,rfl,N,by left,by left,by left,by left,by left⟩)
  ·rintro c m ⟨rfl,d,nb,out,p,n,rfl,q,u,C,K,J,t⟩;exact⟨rfl,.inr ⟨_,_,_,_,_,rfl,q,u,C,K,J,by left⟩⟩
  rintro c m ⟨rfl,⟨r,d,nb,o,p,n,rfl,hr⟩|⟨d,nb,out,p,n,rfl,q,u,C,K,J,t⟩⟩
  ·exact aak ⟨S1,_,_,_,_,_,rfl,hr⟩
  dsimp -zeta only;refine bV (λ_ h=>wpS_lift (abq ⟨rfl,h⟩)) ?_;obtain⟨U,hlw⟩:∃U,U=x+2:=⟨_,rfl⟩
  rw[<- hlw]at t;refine lP (aaN (I:=λx' c m=>aL st m/\∃d nb out g p n,c=(none,d,nb,out,g,p,n)/\H F a.toList b.toList out.toList d nb/\1<=d/\2<=nb/\d<=a.size/\nb<=b.size/\U+d+nb<=a.size+b.size)
   (Q:=λc m=>aL st m/\((∃r d nb o g p n,c=(some r,d,nb,o,g,p,n)/\Res F a.toList b.toList r)\/∃d nb out g p n,c=(none,d,nb,out,g,p,n)/\H F a.toList b.toList out.toList d nb/\1<=d/\2<=nb/\d<=a.size/\nb<=b.size/\U+d+nb<=a.size+b.size)) ?_ ?_ ⟨S1,_,_,_,_,_,_,rfl,q,u,C,K,J,t⟩) ?_
  ·clear q u C K J t S1;rintro x' c jz _ yQ ⟨S1,na0,nb0,out0,g0,ac0,bc0,rfl,q,u,C,K,J,t⟩;dsimp -zeta only
   extract_lets -underBinder s0 d s1 nb s2 out s3 g s4 p n V g9
   obtain⟨q1,q2,q3,q4⟩:d=na0/\nb=nb0/\out=out0/\g=g0:=⟨rfl,rfl,rfl,rfl⟩
   clear_value d nb out g p n
   clear s0 s1 s2 s3 s4;subst q1 q2 q3 q4;apply AQ
   ·intro f;by_cases hg:g>1
    ·refine bB hg ?_
     clear_value g9
     revert g9
     exact f
    ·refine bC hg ?_;generalize g=z
     revert z
     exact f
   intro g;dsimp -zeta only[V];clear g9 V;refine Bp (λ_=>kF) λtU S3=>?_;have P:=S1.trans S3;clear S3;obtain⟨y0,vR,Ov⟩:=fM (show nb - 1<b.size by left);refine bV (λ_=>bA vR) ?_;refine rG (λ_=>fD L (base:=0) (P.k.trans hk) (mb y0 Ov) (show d - 1<d by left) (by left) (λi z _ _ l=>ma z (by simpa using List.mem_of_getElem? (wk l))) (λi j z z' _ dN _ l X=>sa.ix dN l X)) λk ZT g1 g2=>?_;dsimp -zeta only
   extract_lets -underBinder kk ac2 V o9 n9
   obtain⟨q1,q2,q3⟩:kk=d - k/\o9=out++(a.extract k d).reverse/\k=n9:=⟨rfl,rfl,rfl⟩
   clear_value ac2 o9 n9
   clear_value kk
   subst q1 q2 q3;simp only[Bool.false_eq_true,if_false,Nat.zero_add]at g1 g2;have ZJ:∀z∈a.toList.take k,F z<=F y0:=λz l=>by
    obtain⟨j,hj,e⟩:=sx l;exact g1 j z hj (Aa e)
   have O6:=q.X1 sa ZT λi z h1 O l z' X=>aa8 (sb.TC (by left) vR z' X) (abh (g2 i z h1 O l));apply AQ
   ·intro f;by_cases k0:d - k>0
    ·refine bB k0 ?_;by_cases NM:k=0
     ·refine bB (by clear f;simpa using NM) ?_;exact aak ⟨P,.inl ⟨_,_,_,_,_,_,_,rfl,RF O6 sa sb (.inl NM)⟩⟩
     refine bC (by clear f;simpa using NM) ?_;have W:1<=k:=by clear f;left
     have M:k<=a.size:=by clear f;left
     have l_:U+k+nb<=a.size+b.size:=by clear f;left
     have B:=O6;have D:=ZJ;generalize out++(a.extract k d).reverse=R at B ⊢;generalize k=T at B D W M l_ ⊢
     revert l_
     revert M
     revert W
     revert D
     revert B
     revert T
     revert R
     exact f
    ·refine bC k0 ?_;have z0:k=d:=by clear f;left
     have W:1<=d:=by clear f;left
     have M:d<=a.size:=by clear f;left
     have l_:U+d+nb<=a.size+b.size:=by clear f;left
     have B:=q;have D:=ZJ;rw[z0]at D;generalize out=R at B ⊢;generalize d=T at B D W M l_ ⊢
     revert l_
     revert M
     revert W
     revert D
     revert B
     revert T
     revert R
     exact f
   intro R T J1 As W M l_;dsimp -zeta only[V];clear V
   extract_lets -underBinder m1
   obtain q1:m1=nb - 1:=rfl
   clear_value m1
   subst q1;have N:=J1.pB sb (by left) vR As;refine bV (λ_=>bA vR) ?_
   extract_lets -underBinder o3
   obtain q1:o3=R.push y0:=rfl
   clear_value o3
   subst q1;by_cases Y:nb - 1=1
   ·refine bB (by simpa using Y) ?_;exact aak ⟨P,.inl ⟨_,_,_,_,_,_,_,rfl,Ut N sa sb Y h0⟩⟩
   refine bC (by simpa using Y) ?_;obtain⟨x,t,mx⟩:=fM (show T - 1<a.size by left);refine bV (λ_=>bA t) ?_;refine rG (λ_=>fD L (base:=0) (P.k.trans hk) (ma x mx) (show nb - 1 - 1<nb - 1 by left) (by left) (λi z _ _ l=>mb z (by simpa using List.mem_of_getElem? (wk l))) (λi j z z' _ dN _ l X=>sb.ix dN l X)) λG MT g1 g2=>?_;dsimp -zeta only
   extract_lets -underBinder kk bc2 V o9 n9
   obtain⟨q1,q2,q3⟩:kk=nb - 1 - G/\o9=R.push y0++(b.extract G (nb - 1)).reverse/\G=n9:=⟨rfl,rfl,rfl⟩
   clear_value bc2 o9 n9
   clear_value kk
   subst q1 q2 q3;simp only[if_true,Nat.zero_add]at g1 g2;have yP:∀z∈b.toList.take G,F z<=F x:=λz l=>by
    obtain⟨j,hj,e⟩:=sx l;exact abh (g1 j z hj (Aa e))
   have YO:=N.X0 sb MT λi z h1 O l z' X=>aa8 (sa.TC W t z' X) (g2 i z h1 O l);apply AQ
   ·intro f;by_cases k0:nb - 1 - G>0
    ·refine bB k0 ?_;by_cases OT:G=1
     ·refine bB (by clear f;simpa using OT) ?_;exact aak ⟨P,.inl ⟨_,_,_,_,_,_,_,rfl,Ut YO sa sb OT h0⟩⟩
     refine bC (by clear f;simpa using OT) ?_;by_cases Yd:G=0
     ·refine bB (by clear f;simpa using Yd) ?_;exact aak ⟨P,.inl ⟨_,_,_,_,_,_,_,rfl,RF YO sa sb (.inr Yd)⟩⟩
     refine bC (by clear f;simpa using Yd) ?_;have O:2<=G:=by clear f;left
     have h3:G<=b.size:=by clear f;left
     have h4:U+T+G<=a.size+b.size:=by clear f;left
     have B:=YO;have D:=yP;generalize R.push y0++(b.extract G (nb - 1)).reverse=o2 at B ⊢;generalize G=m2 at B D O h3 h4 ⊢
     revert h4
     revert h3
     revert O
     revert D
     revert B
     revert m2
     revert o2
     exact f
    ·refine bC k0 ?_;have z0:G=nb - 1:=by clear f;left
     have O:2<=nb - 1:=by clear f;left
     have h3:nb - 1<=b.size:=by clear f;left
     have h4:U+T+(nb - 1)<=a.size+b.size:=by clear f;left
     have B:=N;have D:=yP;rw[z0]at D;generalize R.push y0=o2 at B ⊢;generalize nb - 1=m2 at B D O h3 h4 ⊢
     revert h4
     revert h3
     revert O
     revert D
     revert B
     revert m2
     revert o2
     exact f
   intro o2 m2 J3 yP O h3 h4;dsimp only[V];clear V;have J4:=J3.pA sa W t yP;refine bV (λ_=>bA t) ?_;by_cases Z:T - 1=0
   ·refine bB (by simpa using Z) ?_;exact aak ⟨P,.inl ⟨_,_,_,_,_,_,_,rfl,RF J4 sa sb (.inl Z)⟩⟩
   refine bC (by simpa using Z) ?_;exact jw (λ_=>aak ⟨P,.inr ⟨_,_,_,_,_,_,rfl,J4,by left,by left,by left,by left,by left⟩⟩) (λ_=>aak ⟨P,_,_,_,_,_,_,rfl,J4,by left,by left,by left,by left,by left⟩)
  ·rintro c m ⟨S,d,nb,out,g,p,n,rfl,q,u,C,K,J,t⟩;exact⟨S,.inr ⟨_,_,_,_,_,_,rfl,q,u,C,K,J,t⟩⟩
  rintro c m ⟨S,⟨r,d,nb,o,g,p,n,rfl,hr⟩|⟨d,nb,out,g,p,n,rfl,q,u,C,K,J,t⟩⟩
  ·exact aak ⟨S,_,_,_,_,_,rfl,hr⟩
  ·dsimp only;exact aam (kF λtU S3=>aak ⟨S.trans S3,_,_,_,_,rfl,q,u,C,K,J,by left⟩)
end
noncomputable def wr(o:Nat)(n:Nat)(l:List Keyed)(a:Array Keyed):Array Keyed:=(l.zipIdx n).foldl (λa (p,j)=>a.setIfInBounds (o+j) p) a
theorem FX(o n:Nat)(x:Keyed)(l:List Keyed)(a:Array Keyed):wr o n (x::l) a=wr o (n+1) l (a.setIfInBounds (o+n) x):=rfl
theorem rF(o:Nat):∀(l:List Keyed) (n:Nat) (a:Array Keyed),o+n+l.length<=a.size->(wr o n l a).size=a.size/\∀i,(wr o n l a)[i]?=if o+n<=i/\i<o+n+l.length then l[i - (o+n)]? else a[i]?
 |[],n,a,h=>⟨rfl,λi=>by rw[if_neg (by simp)];rfl⟩
 |x::l,n,a,h=>by
  rw[List.length_cons]at h;obtain⟨f,e⟩:=rF o l (n+1) (a.setIfInBounds (o+n) x) (by rw[Array.size_setIfInBounds];left);rw[FX];refine⟨by rw[f,Array.size_setIfInBounds],λi=>?_⟩;rw[e,Array.getElem?_setIfInBounds,List.length_cons];by_cases c:o+n=i
  ·subst c;rw[if_neg (by left),if_pos rfl,if_pos (by left),if_pos (by left),Nat.sub_self];rfl
  ·rw[if_neg c];by_cases b:o+(n+1)<=i/\i<o+(n+1)+l.length
   ·rw[if_pos b,if_pos (by left)];obtain⟨j,d⟩:∃j,i - (o+n)=j+1:=⟨i - (o+n) - 1,by left⟩
    rw[d,List.getElem?_cons_succ];congr 1;left
   ·rw[if_neg b,if_neg (by left)]
theorem FW{o:Nat}{l:List Keyed}{a:Array Keyed}(h:o+l.length<=a.size)(c:l.Perm ((a.toList.drop o).take l.length)):(wr o 0 l a).Perm a:=by
 obtain⟨j,d⟩:=rF o l 0 a (by left);have e:(wr o 0 l a).toList=a.toList.take o++(l++a.toList.drop (o+l.length)):=by
  refine acM λi=>?_;have g:=d i;rw[Nat.add_zero,<- Array.getElem?_toList (xs:=a),<- Array.getElem?_toList (xs:=wr o 0 l a)]at g;have f:a.toList.length=a.size:=acB;rw[g,List.getElem?_append,List.length_take,Nat.min_eq_left (by left)];by_cases b:i<o
  ·rw[if_neg (by left),if_pos b,List.getElem?_take,if_pos b]
  ·rw[if_neg b,List.getElem?_append];by_cases k:i<o+l.length
   ·rw[if_pos (by left),if_pos (by left)]
   ·rw[if_neg (by left),if_neg (by left),List.getElem?_drop];congr 1;left
 rw[Array.perm_iff_toList_perm,e];have e2:a.toList=a.toList.take o++((a.toList.drop o).take l.length++a.toList.drop (o+l.length)):=by
  rw[<- List.drop_drop,List.take_append_drop,List.take_append_drop]
 conv=>rhs;rw[e2]
 exact abY _ (ach _ c)
theorem J5{F:Keyed->Int}{xs:Array Keyed}(h:On F xs lo hi)(hs:hi<=xs.size):Pw F (xs.extract lo hi).toList:=by
 rw[ext_toList];refine List.pairwise_iff_getElem.mpr λi j b a c=>?_;rw[List.length_take,List.length_drop,Array.length_toList]at b a;rw[List.getElem_take,List.getElem_take,List.getElem_drop,List.getElem_drop,Array.getElem_toList,Array.getElem_toList];have:=h (lo+i) (lo+j) (by left) (by left) (by left);rw[fR (getElem?_pos xs (lo+i) (by left)),fR (getElem?_pos xs (lo+j) (by left))]at this;exact this
theorem jG{a:Array Keyed}{i j:Nat}{x:Keyed}(h:x∈(a.extract i j).toList):∃t,i<=t/\t<j/\a[t]?=some x:=by
 rw[ext_toList]at h;obtain⟨k,b,e⟩:=nK h;exact⟨i+k,by left,by left,Aa e⟩
theorem ext_get{a:Array Keyed}{i j t:Nat}(h:i+t<j)(b:j<=a.size):(a.extract i j)[t]?=a[i+t]?:=by
 rw[<- Array.getElem?_toList,ext_toList,List.getElem?_take,if_pos (by left),List.getElem?_drop,Array.getElem?_toList]
theorem u0{a:Array Keyed}{i j:Nat}(b:j<=a.size):(a.extract i j).size=j - i:=by simp;left
theorem FY{M:Model}{A:aB}{E:au}{s:Shared}{a:Type}{x:a}{Q:PUnit->a->Prop}{st:a}(h:Q ⟨⟩ x):wpS M A E s (set x:StateT a Sem PUnit) Q st:=by
 unfold wpS;rw[StateT.run_set];exact aac ⟨rfl,h⟩
section
variable {prog:aC}{w:World}{A:aB}{E:au}{s:Shared}{κ:SortKind}{a₀:Array Keyed}{F:Keyed->Int}(L:qx prog w A E s κ a₀ F)
include L
omit L in
theorem Ae{xs:Array Keyed}{k m:Nat}{l:List Keyed}(S:sa+k<=sb)(P:m<=nb)(hs:sb+nb<=xs.size)(y:On F xs sa sb)(x:On F xs sb (sb+nb))(Q:l.length=sb+m - (sa+k))(I:Pw F l)
  (z:∀v∈l,∃t,sa+k<=t/\t<sb+m/\xs[t]?=some v) (C:∀i,sa<=i->i<sa+k->∀t,sb<=t->t<sb+nb->R F xs i<=R F xs t) (B:∀t,sb+m<=t->t<sb+nb->∀i,sa<=i->i<sb->R F xs i<=R F xs t):On F (wr (sa+k) 0 l xs) sa (sb+nb):=by
 obtain⟨_,g⟩:=rF (sa+k) l 0 xs (by left);have rI:∀i,¬ (sa+k<=i/\i<sb+m)->R F (wr (sa+k) 0 l xs) i=R F xs i:=λi hi=>gu (by rw[g,if_neg (by left)]);have d:∀i,sa+k<=i->i<sb+m->∃v,l[i - (sa+k)]?=some v/\R F (wr (sa+k) 0 l xs) i=F v:=λi h T=>by
  have D:i - (sa+k)<l.length:=by left
  refine⟨l[i - (sa+k)],aaH D,fR ?_⟩;rw[g,if_pos (by left),Nat.add_zero,List.getElem?_eq_getElem D]
 have up:∀i,sa<=i->i<sa+k->∀v∈l,R F xs i<=F v:=λi hi J v n=>by
  obtain⟨t,t1,t2,e⟩:=z v n;rw[<- fR (F:=F) e];by_cases c:t<sb
  ·exact y i t hi (by left) c
  ·exact C i hi J t (by left) (by left)
 have K:∀j,sb+m<=j->j<sb+nb->∀v∈l,F v<=R F xs j:=λj b q v n=>by
  obtain⟨t,t1,t2,e⟩:=z v n;rw[<- fR (F:=F) e];by_cases c:t<sb
  ·exact B j b q t (by left) c
  ·exact x t j (by left) (by left) q
 intro i j hi G b;by_cases p:sa+k<=i/\i<sb+m
 ·obtain⟨v,e,r⟩:=d i p.1 p.2;rw[r];by_cases a:sa+k<=j/\j<sb+m
  ·obtain⟨u,o,f⟩:=d j a.1 a.2;rw[f];obtain⟨q1,rfl⟩:=List.getElem?_eq_some_iff.mp e;obtain⟨H,rfl⟩:=List.getElem?_eq_some_iff.mp o;by_cases c:i=j
   ·subst c;exact abD _
   ·exact List.pairwise_iff_getElem.mp I _ _ q1 H (by left)
  ·rw[rI j a];exact K j (by left) b v (aaJ e)
 ·rw[rI i p];by_cases a:sa+k<=j/\j<sb+m
  ·obtain⟨u,o,f⟩:=d j a.1 a.2;rw[f];exact up i hi (by left) u (aaJ o)
  ·rw[rI j a];by_cases O:i<sb
   ·by_cases N:j<sb
    ·exact y i j hi G N
    ·by_cases M:i<sa+k
     ·exact C i hi M j (by left) b
     ·exact B j (by left) b i hi O
   ·exact x i j (by left) G b
theorem zP{st:SortSt}{i na pw qw:Nat}{Q:Bool->SortSt->Prop}(d:SB a₀ κ st)(e1:(pendingOf st)[i]?=some (sa,na,pw))(e2:(pendingOf st)[i+1]?=some (sb,nb,qw))(A8:sb=sa+na)(vS:1<=na)(yU:1<=nb)(hs:sb+nb<=a₀.size)(B:On F (arrOf st) sa sb)(q:On F (arrOf st) sb (sb+nb))
  (h:∀O,SB a₀ κ O->pendingOf O=((pendingOf st).setIfInBounds i (sa,na+nb,pw)).eraseIdxIfInBounds (i+1)->(∀t,t<sa\/sb+nb<=t->(arrOf O)[t]?=(arrOf st)[t]?)->On F (arrOf O) sa (sb+nb)->Q true O):wpS (model prog w) A E s (mergeAt' i) Q st:=by
 have g:SB a₀ κ (setPending st (((pendingOf st).setIfInBounds i (sa,na+nb,pw)).eraseIdxIfInBounds (i+1))):=⟨d.perm,d.kind,d.failed⟩
 have sz:=d.size;refine aam (abK ?_);rw[e1,e2];dsimp only;refine aam (FY ?_);generalize Y:setPending st (((pendingOf st).setIfInBounds i (sa,na+nb,pw)).eraseIdxIfInBounds (i+1))=C at g;have P:arrOf C=arrOf st:=by rw[<- Y]
 have MM:pendingOf C=((pendingOf st).setIfInBounds i (sa,na+nb,pw)).eraseIdxIfInBounds (i+1):=by rw[<- Y]
 change wpS _ _ _ _ _ Q (setPending st (((pendingOf st).setIfInBounds i (sa,na+nb,pw)).eraseIdxIfInBounds (i+1)));rw[Y];have U:∀(t:Nat) (x:Keyed),(arrOf st)[t]?=some x->x∈a₀.toList:=λt x e=>(Array.perm_iff_toList_perm.mp d.perm).mem_iff.mp (aaJ (wk e));obtain⟨y0,W,Ov⟩:=d.at (show sb<a₀.size by left);refine aam (bA W ?_);refine aam (fD L (arr:=arrOf st) g.kind Ov (show 0<na by left) (by left) (λt x _ _ e=>U t x e) (λt u x y D o M l G=>by
  have:=B t u D o (by left)
  rwa [fR l,fR G]at this) λk hk g1 g2=>?_)
 simp only[Bool.false_eq_true,if_false]at g1 g2;have H:∀i,sa<=i->i<sa+k->∀t,sb<=t->t<sb+nb->R F (arrOf st) i<=R F (arrOf st) t:=λi hi eX t Z Rj=>by
  obtain⟨x,l,_⟩:=d.at (show i<a₀.size by left);have a1:=g1 (i - sa) x (by left) (by rw[show sa+(i - sa)=i by left];exact l);have a2:=q sb t (aal _) Z Rj;rw[fR W]at a2;rw[fR l];exact aa8 a1 a2
 dsimp only;by_cases c0:na - k=0
 ·rw[if_pos (by simpa using c0)];refine aak (h C g MM (λt _=>by rw[P]) ?_);rw[P];intro i j hi N K;by_cases ci:i<sb
  ·by_cases cj:j<sb
   ·exact B i j hi N cj
   ·exact H i hi (by left) j (by left) K
  ·exact q i j (by left) N K
 rw[if_neg (by simpa using c0)];obtain⟨z0,DF,X⟩:=d.at (show sa+k+(na - k) - 1<a₀.size by left);refine aam (bA DF ?_);refine aam (fD L (arr:=arrOf st) g.kind X (show nb - 1<nb by left) (by left) (λt x _ _ e=>U t x e) (λt u x y D o M l G=>by
  have:=q t u D o M
  rwa [fR l,fR G]at this) λm hm q1 q2=>?_)
 simp only[if_true]at q1 q2;have high:∀t,sb+m<=t->t<sb+nb->∀i,sa<=i->i<sb->R F (arrOf st) i<=R F (arrOf st) t:=λt Z Rj i hi eX=>by
  obtain⟨x,l,_⟩:=d.at (show t<a₀.size by left);have a1:=q2 (t - sb) x (by left) (by left) (by rw[show sb+(t - sb)=t by left];exact l);have a2:=B i (sa+k+(na - k) - 1) hi (by left) (by left);rw[fR DF]at a2;rw[fR l];exact aa8 a2 a1
 dsimp only;by_cases c1:m=0
 ·rw[if_pos (by simpa using c1)];refine aak (h C g MM (λt _=>by rw[P]) ?_);rw[P];intro i j hi N K;by_cases ci:i<sb
  ·by_cases cj:j<sb
   ·exact B i j hi N cj
   ·exact high j (by left) K i hi ci
  ·exact q i j (by left) N K
 rw[if_neg (by simpa using c1)];have px:Pw F ((arrOf st).extract (sa+k) sb).toList:=J5 (λi j D o M=>B i j (by left) o M) (by left);have py:Pw F ((arrOf st).extract sb (sb+m)).toList:=J5 (λi j D o M=>q i j D o (by left)) (by left);have mx:∀x∈((arrOf st).extract (sa+k) sb).toList,x∈a₀.toList:=λx I=>by
  obtain⟨t,_,_,e⟩:=jG I;exact U t x e
 have my:∀x∈((arrOf st).extract sb (sb+m)).toList,x∈a₀.toList:=λx I=>by
  obtain⟨t,_,_,e⟩:=jG I;exact U t x e
 have T:((arrOf st).extract (sa+k) sb).size=sb - (sa+k):=u0 (by left);have V:((arrOf st).extract sb (sb+m)).size=sb+m - sb:=u0 (by left);have ZW:∀y,((arrOf st).extract sb (sb+m))[0]?=some y->∀x∈((arrOf st).extract (sa+k) sb).toList,F y<=F x:=λy G x I=>by
  rw[ext_get (by left) (by left),Nat.add_zero,W]at G;obtain⟨t,t1,t2,e⟩:=jG I;have:=g2 (t - sa) x (by left) (by left) (by rw[show sa+(t - sa)=t by left];exact e);rw[<- Option.some.inj G];exact abh this
 have ZV:∀y∈((arrOf st).extract sb (sb+m)).toList,∀z,((arrOf st).extract (sa+k) sb)[((arrOf st).extract (sa+k) sb).size - 1]?=some z->F y<=F z:=λy hy z ez=>by
  rw[T,ext_get (by left) (by left),show sa+k+(sb - (sa+k) - 1)=sa+k+(na - k) - 1 by left,DF]at ez;obtain⟨t,t1,t2,e⟩:=jG hy;have:=q1 (t - sb) y (by left) (by rw[show sb+(t - sb)=t by left];exact e);rw[<- Option.some.inj ez];exact abh this
 have fin:∀(r:Array Keyed) (c:SortSt),aL C c->Res F ((arrOf st).extract (sa+k) sb).toList ((arrOf st).extract sb (sb+m)).toList r->Q true (setArr c (wr (sa+k) 0 r.toList (arrOf c))):=λr c S n=>by
  have Xo:arrOf c=arrOf st:=S.a.trans P;have hlen:r.toList.length=sb+m - (sa+k):=by
   rw[n.1.length_eq,List.length_append,Array.length_toList,Array.length_toList,T,V];left
  have Xh:((arrOf st).toList.drop (sa+k)).take r.toList.length=((arrOf st).extract (sa+k) sb).toList++((arrOf st).extract sb (sb+m)).toList:=by
   rw[ext_toList,ext_toList,hlen,show sb+m - (sa+k)=(sb - (sa+k))+(sb+m - sb) by left,List.take_add,List.drop_drop,show sa+k+(sb - (sa+k))=sb by left]
  have Rq:(wr (sa+k) 0 r.toList (arrOf st)).Perm (arrOf st):=FW (by left) (by rw[Xh];exact n.1);obtain⟨_,gw⟩:=rF (sa+k) r.toList 0 (arrOf st) (by left);refine h _ ⟨?_,S.k.trans g.kind,S.f.trans g.failed⟩ (S.p.trans MM) (λt Z=>?_) ?_
  ·show(wr (sa+k) 0 r.toList (arrOf c)).Perm a₀;rw[Xo];exact Rq.trans d.perm
  ·show(wr (sa+k) 0 r.toList (arrOf c))[t]?=_;rw[Xo,gw,if_neg (by left)]
  ·show On F (wr (sa+k) 0 r.toList (arrOf c)) sa (sb+nb);rw[Xo];refine Ae (by left) hm (by left) B q hlen n.2 (λv J=>?_) H high;rcases List.mem_append.mp (n.1.mem_iff.mp J)with J|J
   ·obtain⟨t,t1,t2,e⟩:=jG J;exact⟨t,t1,by left,e⟩
   ·obtain⟨t,t1,t2,e⟩:=jG J;exact⟨t,by left,t2,e⟩
 have Kq:∀(r:Array Keyed) (c:SortSt),aL C c->failedOf (setArr c (wr (sa+k) 0 r.toList (arrOf c)))=none:=λr c S=>S.f.trans g.failed;by_cases c2:na - k<=m
 ·rw[if_pos c2];refine aam (KW L (a:=(arrOf st).extract (sa+k) sb) (b:=(arrOf st).extract sb (sb+m)) g.kind mx my px py (by rw[T];left) (by rw[V];left) ZW ZV λr c S n=>?_);refine aam (abC (aam (abK (aak ?_))));have hf:=Kq r c S;change Q (failedOf (setArr c (wr (sa+k) 0 r.toList (arrOf c)))).isNone (setArr c (wr (sa+k) 0 r.toList (arrOf c)));rw[hf];exact fin r c S n
 ·rw[if_neg c2];refine aam (KY L (a:=(arrOf st).extract (sa+k) sb) (b:=(arrOf st).extract sb (sb+m)) g.kind mx my px py (by rw[T];left) (by rw[V];left) ZW ZV λr c S n=>?_);refine aam (abC (aam (abK (aak ?_))));have hf:=Kq r c S;change Q (failedOf (setArr c (wr (sa+k) 0 r.toList (arrOf c)))).isNone (setArr c (wr (sa+k) 0 r.toList (arrOf c)));rw[hf];exact fin r c S n
end
abbrev Run:=Nat×Nat×Nat
def Chain(F:Keyed->Int)(xs:Array Keyed):Nat->List Run->Nat->Prop
 |c,[],hi=>c=hi
 |c,r::l,hi=>r.1=c/\1<=r.2.1/\On F xs c (c+r.2.1)/\Chain F xs (c+r.2.1) l hi
section
variable {F:Keyed->Int}{xs ys:Array Keyed}
theorem Chain.le:∀{l:List Run} {c hi:Nat},Chain F xs c l hi->c+l.length<=hi
 |[],c,hi,h=>by have:c=hi:=h;simp;left
 |r::l,c,hi,h=>by
  obtain⟨_,b,_,a⟩:=h;have:=a.le;rw[List.length_cons];left
theorem Chain.out:∀{l:List Run} {c hi:Nat},Chain F xs c l hi->(∀t,c<=t->t<hi->ys[t]?=xs[t]?)->Chain F ys c l hi
 |[],_,_,h,_=>h
 |r::l,c,hi,⟨h1,h2,h3,h4⟩,e=>by
  have:=h4.le;exact⟨h1,h2,h3.out λi b d=>e i b (by left),h4.out λt h a=>e t (by left) a⟩
theorem gX:∀{l m:List Run} {c hi:Nat},Chain F xs c (l++m) hi ↔ ∃d,Chain F xs c l d/\Chain F xs d m hi
 |[],m,c,hi=>⟨λh=>⟨c,rfl,h⟩,λ⟨d,b,a⟩=>by have:c=d:=b;subst this;exact a⟩
 |r::l,m,c,hi=>by
  constructor
  ·rintro ⟨b,a,g,f⟩;obtain⟨d,e,i⟩:=gX.mp f;exact⟨d,⟨b,a,g,e⟩,i⟩
  ·rintro ⟨d,⟨b,a,g,f⟩,e⟩;exact⟨b,a,g,gX.mpr ⟨d,f,e⟩⟩
theorem Chain.push{l:List Run}{c n q:Nat}(h:Chain F xs c l lo)(b:1<=n)(a:On F xs lo (lo+n)):Chain F xs c (l++[(lo,n,q)]) (lo+n):=gX.mpr ⟨lo,h,rfl,b,a,rfl⟩
theorem Chain.Mj{f:Run->Run}(hf:∀r,(f r).1=r.1/\(f r).2.1=r.2.1):∀{l:List Run} {i c hi:Nat},Chain F xs c l hi->Chain F xs c (l.modify i f) hi
 |[],i,_,_,h=>by cases i<;>exact h
 |r::l,0,c,hi,h=>by
  obtain⟨e,d,b,a⟩:=h;rw[List.modify_zero_cons];obtain⟨e1,e2⟩:=hf r;exact⟨e1.trans e,by rw[e2];exact d,by rw[e2];exact b,by rw[e2];exact a⟩
 |r::l,i+1,c,hi,h=>by
  obtain⟨e,d,b,a⟩:=h;rw[List.modify_succ_cons];exact⟨e,d,b,a.Mj hf⟩
end
section
variable {prog:aC}{w:World}{A:aB}{E:au}{s:Shared}{κ:SortKind}{a₀:Array Keyed}{F:Keyed->Int}(L:qx prog w A E s κ a₀ F)
include L
theorem j7{st:SortSt}{i:Nat}{Q:Bool->SortSt->Prop}(z:SB a₀ κ st)(q:Chain F (arrOf st) 0 (pendingOf st).toList hi)(O:hi<=a₀.size)(P:i+1<(pendingOf st).size)
  (h:∀a,SB a₀ κ a->Chain F (arrOf a) 0 (pendingOf a).toList hi->(pendingOf a).size+1=(pendingOf st).size->(∀t,hi<=t->(arrOf a)[t]?=(arrOf st)[t]?)->Q true a):wpS (model prog w) A E s (mergeAt' i) Q st:=by
 have p:(pendingOf st).toList.length=(pendingOf st).size:=acB;obtain⟨b,x,y,post,e,g⟩:∃b x y post,(pendingOf st).toList=b++x::y::post/\b.length=i:=by
  refine⟨(pendingOf st).toList.take i,(pendingOf st).toList[i],(pendingOf st).toList[i+1],(pendingOf st).toList.drop (i+2),?_,by rw[List.length_take];left⟩;rw[<- List.drop_eq_getElem_cons,<- List.drop_eq_getElem_cons,List.take_append_drop]
 obtain⟨sa,c,j⟩:=x;obtain⟨sb,nb,n⟩:=y;rw[e]at q;obtain⟨d,v,H⟩:=gX.mp q;obtain⟨l,G,D,k,C,B,u⟩:=H;have l:sa=d:=l;have k:sb=d+c:=k;subst l;subst k;have N:sa+c+nb+post.length<=hi:=u.le;have M:=v.le;refine zP L (i:=i) (sa:=sa) (na:=c) (pw:=j) (sb:=sa+c) (nb:=nb) (qw:=n) z ?_ ?_ rfl G C (by left) D B λa K J m I=>?_
 ·rw[<- Array.getElem?_toList,e,List.getElem?_append_right (by left),g,Nat.sub_self];rfl
 ·rw[<- Array.getElem?_toList,e,List.getElem?_append_right (by left),g,show i+1 - i=1 by left];rfl
 ·have r:(pendingOf a).toList=b++(sa,c+nb,j)::post:=by
   rw[J,Array.toList_eraseIdxIfInBounds,Array.toList_setIfInBounds,e,List.set_append_right _ _ (by left),g,Nat.sub_self,List.set_cons_zero,List.eraseIdx_append_of_length_le (by left),g,show i+1 - i=1 by left];rfl
  refine h a K ?_ ?_ λt o=>m t (.inr (by left))
  ·rw[r];refine gX.mpr ⟨sa,v.out λt _ o=>m t (.inl o),rfl,?_,?_,?_⟩
   ·show 1<=c+nb;left
   ·show On F (arrOf a) sa (sa+(c+nb));rw[<- Nat.add_assoc];exact I
   ·show Chain F (arrOf a) (sa+(c+nb)) post hi;rw[<- Nat.add_assoc];exact u.out λt f _=>m t (.inr f)
  ·have f:(pendingOf a).toList.length=(pendingOf a).size:=acB;rw[r]at f;rw[e]at p;simp at f p;left
end
section
variable {prog:aC}{w:World}{A:aB}{E:au}{s:Shared}{κ:SortKind}{a₀:Array Keyed}{F:Keyed->Int}(L:qx prog w A E s κ a₀ F)
include L
theorem Bo(D:Ts a₀ F){st:SortSt}{Q:Unit->SortSt->Prop}(hB:SB a₀ κ st)(hp:pendingOf st = #[])(T:1<=a₀.size)(h:∀a,SB a₀ κ a->On F (arrOf a) 0 a₀.size->Q () a):wpS (model prog w) A E s sortRuns' Q st:=by
 rw[sortRuns'_eq];refine aam (abK ?_);dsimp only;simp only[hB.size];generalize minRun' a₀.size a₀.size 0=O;refine aam (abp (aaN (I:=λx c a=>∃lo,c=(none,lo)/\lo<=a₀.size/\x<=lo/\SB a₀ κ a/\Chain F (arrOf a) 0 (pendingOf a).toList lo)
  (Q:=λc a=>c=(none,a₀.size)/\SB a₀ κ a/\Chain F (arrOf a) 0 (pendingOf a).toList a₀.size) ?step ?fin ⟨0,rfl,by left,by left,hB,by rw[hp];rfl⟩) ?post)
 case fin =>
  rintro c a ⟨lo,rfl,l1,l2,B,C⟩;have:lo=a₀.size:=by left
  subst this;exact⟨rfl,B,C⟩
 case step =>
  rintro x c jz _ hx ⟨lo,rfl,l1,l2,B,C⟩;dsimp only;by_cases cl:lo ≥ a₀.size
  ·rw[if_pos cl];have:lo=a₀.size:=by left
   subst this;exact aak ⟨rfl,B,C⟩
  rw[if_neg cl];refine aam (zQ L D (by left) (by left) B λm v S m1 m2 O2=>?_);have g:Chain F (arrOf v) 0 (pendingOf v).toList lo:=by
   rw[S.pend];exact C.out λt _ W=>S.out t (.inl W)
  dsimp only;by_cases cm:m<O
  ·rw[if_pos cm];refine aam (wpS_lift (abq ⟨rfl,?_⟩));refine aam (FZ L (n:=min (a₀.size - lo) O) (by left) (by left) S.sb O2 λu S3 y=>?_);have G:Chain F (arrOf u) 0 (pendingOf u).toList lo:=by
    rw[S3.pend];exact g.out λt _ W=>S3.out t (.inl W)
   have j:=S3.sb;rw[if_neg (by simp)];have K:1<=min (a₀.size - lo) O:=by left
   have J:lo+min (a₀.size - lo) O<=a₀.size:=by left
   generalize min (a₀.size - lo) O=n at y K J ⊢;refine aam (abK ?_);cases Bh:(pendingOf u).back? with
   |none =>
    dsimp only;refine aam (abC (aak ⟨lo+n,rfl,J,by left,⟨j.perm,j.kind,j.failed⟩,?_⟩));show Chain F (arrOf u) 0 ((pendingOf u).push (lo,n,0)).toList (lo+n);rw[Array.toList_push];exact G.push K y
   |some r =>
    obtain⟨N,q1,w1⟩:=r;dsimp only;generalize power' a₀.size (2*N+q1) (2*N+q1+q1+n) a₀.size=H;refine aam (abp (aaN (I:=λV c a=>c=(none,())/\SB a₀ κ a/\Chain F (arrOf a) 0 (pendingOf a).toList lo/\On F (arrOf a) lo (lo+n))
     (Q:=λc a=>c=(none,())/\SB a₀ κ a/\Chain F (arrOf a) 0 (pendingOf a).toList lo/\On F (arrOf a) lo (lo+n)) ?_ (λ_ _ z=>z) ⟨rfl,j,G,y⟩) ?_)
    ·rintro V c b _ _ ⟨rfl,d,q,k⟩;refine aam (abK ?_);by_cases R:(pendingOf b).size>1
     ·rw[if_pos R];obtain⟨r,X⟩:∃r,(pendingOf b)[(pendingOf b).size - 2]?=some r:=⟨(pendingOf b)[(pendingOf b).size - 2]'(by left),acy _ _ _⟩
      rw[X];dsimp only;by_cases P:r.2.2<=H
      ·rw[if_pos P];exact aak ⟨rfl,d,q,k⟩
      ·rw[if_neg P];refine aam (j7 L d q (by left) (by left) λGu B5 C5 _ S5=>?_);rw[if_neg (by simp)];exact aak ⟨rfl,B5,C5,k.out λi T h2=>S5 i T⟩
     ·rw[if_neg R];exact aak ⟨rfl,d,q,k⟩
    ·rintro c b ⟨rfl,d,q,k⟩;dsimp only;refine aam (abC (aam (abC (aak ⟨lo+n,rfl,J,by left,⟨d.perm,d.kind,d.failed⟩,?_⟩))));show Chain F (arrOf b) 0 (((pendingOf b).modify ((pendingOf b).size - 1) λx=>(x.1,x.2.1,H)).push (lo,n,0)).toList (lo+n);rw[Array.toList_push,Array.toList_modify];exact(q.Mj (f:=λx=>(x.1,x.2.1,H)) λr=>⟨rfl,rfl⟩).push K k
  ·rw[if_neg cm];have G:=g;have j:=S.sb;have y:=O2;have K:=m1;have J:lo+m<=a₀.size:=by left
   clear g S O2;generalize ab9:v=u at G j y ⊢;generalize hmn:m=n at y K J ⊢;refine aam (abK ?_);cases Bh:(pendingOf u).back? with
   |none =>
    dsimp only;refine aam (abC (aak ⟨lo+n,rfl,J,by left,⟨j.perm,j.kind,j.failed⟩,?_⟩));show Chain F (arrOf u) 0 ((pendingOf u).push (lo,n,0)).toList (lo+n);rw[Array.toList_push];exact G.push K y
   |some r =>
    obtain⟨N,q1,w1⟩:=r;dsimp only;generalize power' a₀.size (2*N+q1) (2*N+q1+q1+n) a₀.size=H;refine aam (abp (aaN (I:=λV c a=>c=(none,())/\SB a₀ κ a/\Chain F (arrOf a) 0 (pendingOf a).toList lo/\On F (arrOf a) lo (lo+n))
     (Q:=λc a=>c=(none,())/\SB a₀ κ a/\Chain F (arrOf a) 0 (pendingOf a).toList lo/\On F (arrOf a) lo (lo+n)) ?_ (λ_ _ z=>z) ⟨rfl,j,G,y⟩) ?_)
    ·rintro V c b _ _ ⟨rfl,d,q,k⟩;refine aam (abK ?_);by_cases R:(pendingOf b).size>1
     ·rw[if_pos R];obtain⟨r,X⟩:∃r,(pendingOf b)[(pendingOf b).size - 2]?=some r:=⟨(pendingOf b)[(pendingOf b).size - 2]'(by left),acy _ _ _⟩
      rw[X];dsimp only;by_cases P:r.2.2<=H
      ·rw[if_pos P];exact aak ⟨rfl,d,q,k⟩
      ·rw[if_neg P];refine aam (j7 L d q (by left) (by left) λGu B5 C5 _ S5=>?_);rw[if_neg (by simp)];exact aak ⟨rfl,B5,C5,k.out λi T h2=>S5 i T⟩
     ·rw[if_neg R];exact aak ⟨rfl,d,q,k⟩
    ·rintro c b ⟨rfl,d,q,k⟩;dsimp only;refine aam (abC (aam (abC (aak ⟨lo+n,rfl,J,by left,⟨d.perm,d.kind,d.failed⟩,?_⟩))));show Chain F (arrOf b) 0 (((pendingOf b).modify ((pendingOf b).size - 1) λx=>(x.1,x.2.1,H)).push (lo,n,0)).toList (lo+n);rw[Array.toList_push,Array.toList_modify];exact(q.Mj (f:=λx=>(x.1,x.2.1,H)) λr=>⟨rfl,rfl⟩).push K k
 case post =>
  rintro c jz ⟨rfl,B,C⟩;dsimp only;have Z:∀(c:Prop) [Decidable c] (p:Nat),(if c then p - 1 else p)<=p:=λc _ p=>by split<;>left
  have hlen:=C.le;rw[Array.length_toList]at hlen;refine aam (abp (aaN (I:=λx c a=>c=(none,())/\SB a₀ κ a/\Chain F (arrOf a) 0 (pendingOf a).toList a₀.size/\(pendingOf a).size+x<=a₀.size+1)
   (Q:=λc a=>c=(none,())/\SB a₀ κ a/\Chain F (arrOf a) 0 (pendingOf a).toList a₀.size/\(pendingOf a).size<=1) ?_ ?_ ⟨rfl,B,C,by left⟩) ?_)
  ·rintro x c v _ hx ⟨rfl,M,g,U⟩;refine aam (abK ?_);by_cases cp:(pendingOf v).size<=1
   ·rw[if_pos cp];exact aak ⟨rfl,M,g,cp⟩
   rw[if_neg cp];refine aam (j7 L M g (aal _) (aa6 (Nat.add_le_add_right (Z _ _) 1) (by left)) λu j G z3 _=>?_);rw[if_neg (by simp)];exact aak ⟨rfl,j,G,by left⟩
  ·rintro c v ⟨rfl,M,g,U⟩;exact⟨rfl,M,g,by left⟩
  ·rintro c v ⟨rfl,M,g,U⟩;dsimp only;refine aak (h v M ?_);generalize Y:(pendingOf v).toList=pl at g;have hz:pl.length<=1:=by rw[<- Y,Array.length_toList];exact U
   cases pl with
   |nil=>have:0=a₀.size:=g;left
   |cons r l =>
    have:l=[]:=by
     cases l with
     |nil=>rfl
     |cons _ _=>simp at hz
    subst this;obtain⟨_,_,o,e⟩:=g;have e:0+r.2.1=a₀.size:=e;rw[<- e];exact o
end
end TS
end
section
namespace DI
open PySem PySem.Spec PyProof.Rows L2
theorem Cy{c j:Type}(f:c->j){l o:List j}(h:l.Perm o):∀m:List c,o=m.map f->∃q:List c,q.Perm m/\l=q.map f:=by
 induction h with
 |nil=>intro m e;exact⟨[],by rw[List.map_eq_nil_iff.mp e.symm],rfl⟩
 |cons x _ r =>
  intro m e;obtain⟨a,n,rfl,rfl,i⟩:=List.map_eq_cons_iff.mp e.symm;obtain⟨q,g,d⟩:=r n i.symm;exact⟨a::q,g.cons a,by rw[d];rfl⟩
 |swap x y l =>
  intro m e;obtain⟨a,n,rfl,rfl,i⟩:=List.map_eq_cons_iff.mp e.symm;obtain⟨b,k,rfl,rfl,e2⟩:=List.map_eq_cons_iff.mp i;exact⟨b::a::k,.swap a b k,by rw[<- e2];rfl⟩
 |trans _ _ t s =>
  intro m e;obtain⟨q,g,d⟩:=s m e;obtain⟨p,v,u⟩:=t q d;exact⟨p,v.trans g,u⟩
def G_(nss:az)(ns:ae):Int:=((bx nss).idxOf ns:Nat)
variable {nss:az}
theorem Cs(h:nss.Nodup){a b:ae}(l:a∈nss)(k:b∈nss):decide (G_ nss a<G_ nss b)=HT.lexLt a b:=by
 have j:(bx nss).Perm nss:=aaV _ _;have r:=ka h;have f:=abu (j.mem_iff.mpr l);have d:=abu (j.mem_iff.mpr k);have i:(bx nss)[(bx nss).idxOf a]=a:=ab_ f;have g:(bx nss)[(bx nss).idxOf b]=b:=ab_ d;have up:=List.pairwise_iff_getElem.mp r;unfold G_;cases e:HT.lexLt a b with
 |true =>
  refine aa_ ?_;rcases Nat.lt_trichotomy ((bx nss).idxOf a) ((bx nss).idxOf b)with c|c|c
  ·left
  ·have:a=b:=by rw[<- i,<- g];congr 1
   subst this;rw[l6 _ _ e]at e;cases e
  ·have:=up _ _ d f c;rw[i,g,l6 _ _ e]at this;cases this
 |false =>
  refine abw λc=>?_;have:=up _ _ f d (by left);rw[i,g,e]at this;cases this
theorem G9{a b:ae}(h:a∈nss)(g:b∈nss)(e:G_ nss a=G_ nss b):a=b:=by
 have c:(bx nss).Perm nss:=aaV _ _;have f:=abu (c.mem_iff.mpr h);have d:=abu (c.mem_iff.mpr g);have j:(bx nss)[(bx nss).idxOf a]=a:=ab_ f;have i:(bx nss)[(bx nss).idxOf b]=b:=ab_ d;unfold G_ at e;rw[<- j,<- i];congr 1;left
theorem yO:∀{b:aw} {ns a:ae},IntsAre b ns->IntsAre b a->ns=a
 |_,_,_,.nil,.nil=>rfl
 |_,_,_,.cons n t h,.cons _ _ h'=>by rw[yO h h']
variable {h h':Heap}{vs:aw}
theorem Gb(t:mF h vs nss){i j:Nat}(g:i<nss.length)(f:j<nss.length)(e:vs[i]?=vs[j]?):nss[i]=nss[j]:=by
 obtain⟨x,m,e1,⟨o,k,_,r,l⟩,d⟩:=t.2 i _ (aaH g);obtain⟨y,n,e2,⟨p,b,_,q,a⟩,c⟩:=t.2 j _ (aaH f);rw[e1,e2]at e;cases e;rw[k]at b;cases b;rw[l]at a;injection a with a _;have:m=n:=by simpa using a
 subst this;exact yO d c
structure Fn(vs:aw)(nss:az):Prop where
 l:vs.length=nss.length
 f:∀(i j:Nat) (hi:i<nss.length) (hj:j<nss.length),vs[i]?=vs[j]?->nss[i]=nss[j]
theorem mF.fn(t:mF h vs nss):Fn vs nss:=⟨t.1,λi j b a e=>Gb t b a e⟩
noncomputable def Oo(vs:aw)(nss:az)(x:Keyed):Int:=by
 classical
 exact if h:∃i,i<nss.length/\vs[i]?=some x.1 then G_ nss (nss.getD h.choose [])else 0
theorem oN(t:Fn vs nss){i:Nat}(c:i<nss.length){x:Keyed}(e:vs[i]?=some x.1):Oo vs nss x=G_ nss nss[i]:=by
 have b:∃i,i<nss.length/\vs[i]?=some x.1:=⟨i,c,e⟩
 have a:=b.choose_spec;unfold Oo;rw[dif_pos b];have:nss[b.choose]'a.1=nss[i]:=t.f _ _ a.1 c (a.2.trans e.symm);rw[<- this];simp[a.1]
section
variable {prog:aC}{w:World}{A:aB}{E:au}{s:Shared}
theorem Hy{k:SortKind}(p:nss.Nodup)(t:Fn vs nss)(g:∀(i j:Nat) (c:i<nss.length) (f:j<nss.length) (a b:Value) (u:au) (Q:Bool->Shared->Prop),vs[i]?=some a->vs[j]?=some b->Q (HT.lexLt nss[i] nss[j]) s->wpAny (model prog w) A (keyLt' k a b) Q u s):TS.qx prog w A E s k (pairsOf vs) (Oo vs nss):=by
 have d:∀x∈(pairsOf vs).toList,∃i,∃c:i<nss.length,vs[i]?=some x.1:=λx e=>by
  rw[pairsOf_toList]at e;obtain⟨i,c⟩:=List.mem_iff_getElem?.mp e;rw[List.getElem?_zip_eq_some]at c;have g:i<nss.length:=by
   rw[<- t.l];obtain⟨h,_⟩:=List.getElem?_eq_some_iff.mp c.1;exact h
  exact⟨i,g,c.1⟩
 intro x y e r v Q q m;obtain⟨i,c,o⟩:=d x e;obtain⟨j,f,n⟩:=d y r;rw[oN t c o,oN t f n,Cs p (List.getElem_mem c) (List.getElem_mem f)]at m;rw[lt'_eq];refine aam (abK ?_);rw[q];refine aam (wpS_lift (abJ (g i j c f x.1 y.1 _ _ o n ⟨rfl,?_⟩)));exact aak m
theorem zi(g:nss.Nodup)(t:Fn vs nss):TS.Ts (pairsOf vs) (Oo vs nss):=by
 have inj:∀x∈(pairsOf vs).toList,∃i,∃a:i<nss.length,vs[i]?=some x.1/\vs[i]?=some x.2:=λx c=>by
  rw[pairsOf_toList]at c;obtain⟨i,a⟩:=List.mem_iff_getElem?.mp c;rw[List.getElem?_zip_eq_some]at a;have o:i<nss.length:=by
   rw[<- t.l];obtain⟨h,_⟩:=List.getElem?_eq_some_iff.mp a.1;exact h
  exact⟨i,o,a.1,a.2⟩
 refine⟨?_,λx c y m e=>?_⟩
 ·rw[pairsOf_toList];refine List.pairwise_iff_getElem.mpr λi j a b p e=>?_;rw[List.length_zip,Nat.min_self]at a b;rw[List.getElem_zip,List.getElem_zip]at e;have n:vs[i]?=vs[j]?:=by rw[List.getElem?_eq_getElem a,List.getElem?_eq_getElem b];exact aa5 some (Prod.ext_iff.mp e).1
  have:=t.f i j (by rw[<- t.l];exact a) (by rw[<- t.l];exact b) n;have:=(acP g).mp this;left
 ·obtain⟨i,a,e1,e2⟩:=inj x c;obtain⟨j,b,d,k⟩:=inj y m;rw[oN t a e1,oN t b d]at e;have:=(acP g).mp (G9 (aaU a) (aaU b) e);subst this;rw[e1]at d;rw[e2]at k;exact Prod.ext (aaI d) (aaI k)
theorem B1{C:SortKind}(m:nss.Nodup)(t:Fn vs nss){b:SortSt}(B:TS.SB (pairsOf vs) C b)(O:TS.On (Oo vs nss) (arrOf b) 0 (pairsOf vs).size):∃p,Arr p vs.length/\(p.toList.map λi=>nss.getD i [])=bx nss/\(arrOf b).map (·.2)=List.toArray (p.toList.map λi=>vs.getD i Value.none)/\failedOf b=none:=by
 have F:=t.l;have e0:(pairsOf vs).toList=(List.range vs.length).map λi=>(vs.getD i Value.none,vs.getD i Value.none):=by
  rw[pairsOf_toList];refine abE (by simp) λi f G=>?_;rw[List.length_zip,Nat.min_self]at f;simp[f]
 obtain⟨q,c,z⟩:=Cy _ (Array.perm_iff_toList_perm.mp B.perm) _ e0;have J:(pairsOf vs).size=vs.length:=by rw[<- Array.length_toList,e0];simp
 have r:q.length=vs.length:=by rw[c.length_eq];simp
 have n:∀i∈q,i<vs.length:=λi a=>List.mem_range.mp (c.mem_iff.mp a);have D:=zi m t;refine⟨q.toArray,⟨by simp[r],by simpa using c⟩,?_,?_,B.failed⟩
 ·refine tX m ?_ ?_
  ·refine List.pairwise_iff_getElem.mpr λi j a d K=>?_;simp only[List.length_map]at a d;have a:i<q.length:=by simpa using a
   have d:j<q.length:=by simpa using d
   have o:=O i j (aaZ _) (by left) (by left);have ne:=D.ne B (i:=i) (j:=j) (by left) (by left) (by left);have g:∀k (u:k<q.length),∃y:q[k]<nss.length,TS.R (Oo vs nss) (arrOf b) k=G_ nss nss[q[k]]:=λk u=>by
    have y:=n q[k] (aaU u);refine⟨by left,?_⟩;have e1:(arrOf b)[k]?=some (vs.getD q[k] Value.none,vs.getD q[k] Value.none):=by
     rw[<- Array.getElem?_toList,z,List.getElem?_map,List.getElem?_eq_getElem u];rfl
    rw[TS.fR e1];exact oN t (by left) (by simp[y])
   obtain⟨x,I⟩:=g i a;obtain⟨v,H⟩:=g j d;rw[I,H]at o ne;have:=Cs m (aaU x) (aaU v);rw[decide_eq_true (by left)]at this;simp only[List.getElem_map,List.toList_toArray];simpa [x,v]using this.symm
  ·have e:nss=(List.range nss.length).map λi=>nss.getD i []:=by
    refine abE (by simp) λi f G=>?_;simp[f]
   conv=>rhs;rw[e]
   rw[F]at c;exact(by simpa using c:q.toArray.toList.Perm _).map _
 ·apply Array.toList_inj.mp;rw[Array.toList_map,z,List.map_map];simp[Function.comp_def]
theorem BO{a:Addr}{n:Nat}{P:PySem.Fin->Shared->Prop}(o:s.heap.get? a=some (seqObj "list" vs.toArray n))(S:vs.length<100000)(g:nss.Nodup)
  (k:Fn vs nss) (G:SortKind->Prop) (N:vs≠[]->∀Q:SortKind->Shared->Prop,(∀d,G d->Q d ({ s with heap:=((s.heap.update a (Obj.mapSeq λ_=>#[])).push (seqObj "tuple" vs.toArray 0)).push (seqObj "list" #[] 0) }:Shared))->wpAny (model prog w) A (keyKind' vs.toArray) Q E ({ s with heap:=((s.heap.update a (Obj.mapSeq λ_=>#[])).push (seqObj "tuple" vs.toArray 0)).push (seqObj "list" #[] 0) }:Shared))
  (L:∀d,G d->∀(i j:Nat) (U:i<nss.length) (J:j<nss.length) (C y:Value) (R:au) (Q:Bool->Shared->Prop),vs[i]?=some C->vs[j]?=some y->Q (HT.lexLt nss[i] nss[j]) ({ s with heap:=((s.heap.update a (Obj.mapSeq λ_=>#[])).push (seqObj "tuple" vs.toArray 0)).push (seqObj "list" #[] 0) }:Shared)->wpAny (model prog w) A (keyLt' d C y) Q R ({ s with heap:=((s.heap.update a (Obj.mapSeq λ_=>#[])).push (seqObj "tuple" vs.toArray 0)).push (seqObj "list" #[] 0) }:Shared))
  (h:∀p:Array Nat,Arr p vs.length->(p.toList.map λi=>nss.getD i [])=bx nss->P (.done (.ret .none)) { s with heap:=sortedHeap s.heap a vs (List.toArray (p.toList.map λi=>vs.getD i Value.none)) }) :
  wpAny (model prog w) A (Builtin.«list.sort» ⟨[.ref a],[]⟩) P E s:=by
 rw[list_sort_plain];have V:a<s.heap.objs.size:=aaj o;have f:vs.toArray.size=vs.length:=by simp
 have q:vs.length<=sizeLine:=by rw[sizeLine_eq];left
 have H:=k.l;refine aaa (listItems_at o rfl (aaa (listUpdate_at o rfl ?_ (by rw[f];exact q) (aaZ _))));obtain⟨e1,F⟩:∃e1,(s.heap.update a (Obj.mapSeq λ_=>#[])).get? a=some (seqObj "list" #[] e1):=⟨_,get?_update_seq o (λ_=>#[])⟩
 refine aaa (seqEpoch_at F rfl (aaa (wpAny_newTuple (aaa (acJ (aa9 ?_) (aaZ _))) (by simpa using q))));have D:(((s.heap.update a (Obj.mapSeq λ_=>#[])).push (seqObj "tuple" vs.toArray 0)).push (seqObj "list" #[] 0)).get? a=some (seqObj "list" #[] e1):=aai _ (aai _ F);show wpAny (model prog w) A _ P E ({ s with heap:=((s.heap.update a (Obj.mapSeq λ_=>#[])).push (seqObj "tuple" vs.toArray 0)).push (seqObj "list" #[] 0) }:Shared);dsimp only;have fin:∀(c:SortSt) (p:Array Nat),Arr p vs.length->(p.toList.map λi=>nss.getD i [])=bx nss->(arrOf c).map (·.2)=List.toArray (p.toList.map λi=>vs.getD i Value.none)->failedOf c=none->wpAny (model prog w) A (do
   let touched:=(<- seqEpoch a) != e1
   Builtin.List.listUpdate (.ref a) λ_=>(arrOf c).map (·.2)
   if let some e:=failedOf c then rule "list.sort.comparison-raised";throw e
   if touched then rule "list.sort.modified";raiseError "ValueError" "list modified during sort"
   ret .none) P E ({ s with heap:=((s.heap.update a (Obj.mapSeq λ_=>#[])).push (seqObj "tuple" vs.toArray 0)).push (seqObj "list" #[] 0) }:Shared):=by
  intro c p m t v u;refine aaa (seqEpoch_at D rfl ?_);rw[v];refine aaa (listUpdate_at D rfl ?_ (aaZ _) (by rw[List.size_toArray,List.length_map,Array.length_toList,m.sz];exact acL q));rw[u];simp only[bne_self_eq_false,Bool.false_eq_true,if_false];exact aac (h p m t)
 by_cases b:vs.toArray.size<2
 ·rw[if_pos b,if_pos b];refine aaa (aac ?_);rw[StateT.run_pure];refine aaa (aac ?_);rw[f]at b;have x:Arr (List.toArray (List.range vs.length)) vs.length:=⟨by simp,by simp⟩
  refine fin (SortSt.mk' general' (vs.toArray.zip vs.toArray) #[] 7 none) (List.toArray (List.range vs.length)) x ?_ ?_ rfl
  ·rw[H]at x ⊢;exact zY g x λi j X J=>by left
  ·apply Array.toList_inj.mp;show(Array.map (·.2) (vs.toArray.zip vs.toArray)).toList=_;rw[Array.toList_map,show(vs.toArray.zip vs.toArray)=pairsOf vs from rfl,pairsOf_toList,List.map_snd_zip (Nat.le_refl _)];refine abE (by simp) λi K b=>?_;simp[K]
 ·rw[if_neg b,if_neg b];rw[f]at b;refine aaa (N (λz=>by rw[z]at b;simp at b) _ λd I=>?_);have W:=TS.Bo (prog:=prog) (w:=w) (A:=A) (E:=E) (s:=({ s with heap:=((s.heap.update a (Obj.mapSeq λ_=>#[])).push (seqObj "tuple" vs.toArray 0)).push (seqObj "list" #[] 0) }:Shared)) (st:=SortSt.mk' d (pairsOf vs) #[] 7 none) (Q:=λ_ c=>∃p,Arr p vs.length/\(p.toList.map λi=>nss.getD i [])=bx nss/\(arrOf c).map (·.2)=List.toArray (p.toList.map λi=>vs.getD i Value.none)/\failedOf c=none) (Hy g k (L d I)) (zi g k) ⟨Array.Perm.refl _,rfl,rfl⟩ rfl (by
   have:(pairsOf vs).toList.length=vs.length:=by rw[pairsOf_toList,List.length_zip,Nat.min_self]
   rw[Array.length_toList]at this;left) λc B O=>B1 g k B O
  refine aaa (aaL W (λr T M=>?_) λ_ _ e=>e);obtain⟨e,p,m,t,v,u⟩:=M;subst e;exact fin r.2 p m t v u
theorem zZ{a:Addr}{n:Nat}{P:PySem.Fin->Shared->Prop}(o:A.units<cLine)(r:s.heap.get? a=some (seqObj "list" vs.toArray n))(e:vs.length<100000)(f:nss.Nodup)
  (b:mF (((s.heap.update a (Obj.mapSeq λ_=>#[])).push (seqObj "tuple" vs.toArray 0)).push (seqObj "list" #[] 0)) vs nss)
  (h:∀p:Array Nat,Arr p vs.length->(p.toList.map λi=>nss.getD i [])=bx nss->P (.done (.ret .none)) { s with heap:=sortedHeap s.heap a vs (List.toArray (p.toList.map λi=>vs.getD i Value.none)) }) :
  wpAny (model prog w) A (Builtin.«list.sort» ⟨[.ref a],[]⟩) P E s :=
 BO r e f b.fn Fs (λB Q z=>kind_any b B z) (λC t i j v u G D H Q d c q=>by
  obtain⟨x,F,e1,m,l⟩:=b.2 i _ (aaH v);obtain⟨y,I,e2,k,g⟩:=b.2 j _ (aaH u);rw[e1]at d;rw[e2]at c;cases d;cases c;exact Mn t o m k l g q) h
end
variable {Q:Value->Shared->Prop}{ep:Nat}
section
variable {prog:aC}{w:World}{A:aB}{E:au}{s:Shared}
theorem Ez{es:Array DictEntry}(m:A.handled=none)(I d:Addr)(p:d≠I):Walks prog w A I [I,d] [I] es.size (λi v=>∃e,es[i]?=some e/\v=e.key) (λi h=>h.IsKeyIter I d i es.size ep/\jU h d es ep) where
 sub:=λb c=>by simp at c;simp[c]
 frame:=λ_ _ _ a j=>⟨a.1.at λo e=>j I (by simp) o e,let ⟨o,ho,r⟩:=a.2;⟨o,j d (by simp) o ho,r⟩⟩
 item:=λi s Q E k a f=>IC a.1 a.2 k λh' l g=>f _ h' s.toks ⟨es[i],abg k,rfl⟩ ⟨l,let ⟨o,ho,r⟩:=a.2;⟨o,g.extBut d o p ho,r⟩⟩ λb o c e=>g.extBut b o (λh=>c (by simp[h])) e
 done:=λs Q E a f=>NX m a.1 a.2 (aal _) λh' n=>f h' s.toks λb o c e=>n b o (λh=>c (by simp[h])) e
 self:=λ_ _ _ _ a f=>wpAny_pyIter_keyiter a.1 f
theorem NW{d:Addr}{es:Array DictEntry}(lo:(d==sysModules)=false):PySem.W.KdlSrc prog w "dict" d d es.size (λi v=>∃e,es[i]?=some e/\v=e.key) (λh=>jU h d es ep) where
 type:=λ_ a=>a.typeIs
 there:=λ_ a=>let ⟨_,ho,_⟩:=a;⟨aaj ho,aaj ho⟩
 keep:=λ_ _ a c=>let ⟨o,ho,r⟩:=a;⟨o,c d (.inl rfl) o ho,r⟩
 notList:=by decide
 notTuple:=by decide
 hint:=λ_ _ _ _ a b=>PySem.W.kdl_hint_dict a.typeIs b
 iter:=λ_ _ f a=>⟨_,_,(λ_ _ b=>ID lo a b),Ez f _ d (let ⟨_,ho,_⟩:=a;aao (aaj ho)),⟨⟨_,aaD _ rfl,rfl,rfl⟩,let ⟨o,ho,r⟩:=a;⟨o,aai _ ho,r⟩⟩⟩
theorem tW{d:Addr}{es:Array DictEntry}(G:A.handled=none)(K:A.units+2<cLine)(lo:(d==sysModules)=false)(D:jU s.heap d es ep)(J:es.size<4000)(v:nss.Nodup)(z:mF s.heap (es.toList.map (·.key)) nss)
  (h:∀(S:Addr) (h':Heap) (tk e:Nat) (p:Array Nat),s.heap.get? S=none->(∀b o,s.heap.get? b=some o->h'.get? b=some o)->Arr p es.size->(p.toList.map λi=>nss.getD i [])=bx nss ->
   h'.get? S=some (seqObj "list" (List.toArray (p.toList.map λi=>(es.toList.map (·.key)).getD i Value.none)) e)->Q (.ref S) { s with heap:=h',toks:=tk }) :
  wpAny (model prog w) A (call (.builtin "sorted") [.ref d]) Q E s:=by
 refine Calls.call_function_entry kind_sorted plain_sorted entry_sorted (args_sorted1 _) ?_;unfold Builtin.«sorted»;have t:es.size<=sizeLine:=by rw[sizeLine_eq];left
 refine aaa (m:=checkCount "sorted" 1 1 _) (aac (aaa (PySem.W.kdu_collect (A:=A.in1) (NW lo) G D t λa tk c f g=>?_)));have I:c.toList=es.toList.map (·.key):=by
  refine acM λi=>?_;rw[List.getElem?_map,Array.getElem?_toList,Array.getElem?_toList];by_cases F:i<es.size
  ·have r:i<c.size:=by rw[g.1];exact F
   obtain⟨e,k,y⟩:=g.2 i c[i] (abg r);rw[Array.getElem?_eq_getElem r,k,y];rfl
  ·rw[Array.getElem?_eq_none (by rw[g.1];left),Array.getElem?_eq_none (by left)];rfl
 rw[I];generalize H:es.toList.map (·.key)=vs at *;have n:vs.length=es.size:=by rw[<- H];simp
 refine aaa (acJ ?_ (by rw[n];exact t));show wpAny _ _ _ _ _ ({ s with heap:=a.push (seqObj "list" vs.toArray 0),toks:=tk }:Shared);have l:(a.push (seqObj "list" vs.toArray 0)).get? a.objs.size=some (seqObj "list" vs.toArray 0):=aaD _ rfl;have x:∀b o,s.heap.get? b=some o->((((a.push (seqObj "list" vs.toArray 0)).update a.objs.size (Obj.mapSeq λ_=>#[])).push (seqObj "tuple" vs.toArray 0)).push (seqObj "list" #[] 0)).get? b=some o:=λb o e=>by
  refine aai _ (aai _ ?_);rw[Heap.get?_update_other _ _ (Nat.ne_of_gt (Heap.lt_size (f b o e)))];exact aai _ (f b o e)
 have j:s.heap.get? a.objs.size=none:=by
  cases q:s.heap.get? a.objs.size with
  |none=>rfl
  |some o=>exact absurd (aaj (f _ o q)) (aaO _)
 refine aaa (aa9 (aaY slot_list_sort ⟨_,l,rfl⟩ entry_list_sort (zZ (s:={ s with heap:=a.push (seqObj "list" vs.toArray 0),toks:=tk }) (nss:=nss) (show A.in1.in1.units<cLine by show A.units+1+1<cLine;left) l (by rw[n];left) v (z.mono x) λp C B=>⟨_,rfl,?_⟩) (args_list_sort _)));obtain⟨e,k⟩:=sortedHeap_at (out:=List.toArray (p.toList.map λi=>vs.getD i Value.none)) l;refine aac ⟨_,rfl,h a.objs.size _ tk e p j (λb o e=>?_) (by rw[<- n];exact C) B k⟩;have u:=aaj (f b o e);rw[sortedHeap_old (Nat.ne_of_lt u) (by rw[size_push'];exact Nat.lt_succ_of_lt u)];exact aai _ (f b o e)
end
section
variable {α β:Type}
noncomputable def bJ:az->List α->ae->Option α
 |c'::cs,v::vs,c=>if c'=c then some v else bJ cs vs c
 |_,_,_=>none
noncomputable def setC:az->List α->ae->α->List α
 |c'::cs,v'::vs,c,v=>(if c'=c then v else v')::setC cs vs c v
 |_,_,_,_=>[]
noncomputable def ba(cs:az)(c:ae):az:=if c∈cs then cs else cs++[c]
noncomputable def mE(cs:az)(as:List α)(c:ae)(a:α):List α:=if c∈cs then as else as++[a]
def bI(cs:az)(vs:List α)(c:ae)(v:α):List α:=if c∈cs then setC cs vs c v else vs++[v]
end
section
variable {zs:List (ae×Addr×Value)}{c:ae}
theorem hJ:∀(zs:List (ae×Addr×Value)) (c:ae),(atKey zs c).map (·.2)=bJ (zs.map (·.1)) (zs.map (·.2.2)) c
 |[],_=>rfl
 |z::zs,c=>by
  have a:=hJ zs c;unfold atKey at a ⊢;rw[List.find?_cons];show _=if z.1=c then some z.2.2 else bJ (zs.map (·.1)) (zs.map (·.2.2)) c
  by_cases e:z.1=c
  ·rw[decide_eq_true e,if_pos e];rfl
  ·rw[decide_eq_false e,if_neg e];exact a
theorem dU:∀(zs:List (ae×Addr×Value)) (c:ae),(atKey zs c).isSome=true ↔ c∈zs.map (·.1)
 |[],c=>by simp[atKey]
 |z::zs,c=>by
  have a:=dU zs c;unfold atKey at a ⊢;rw[List.find?_cons,List.map_cons,List.mem_cons];by_cases e:z.1=c
  ·rw[decide_eq_true e];simp[e]
  ·rw[decide_eq_false e];rw[a];exact⟨.inr,λh=>h.resolve_left λz=>e z.symm⟩
theorem fZ(a:Addr)(v:Value):(storedH zs c a v).map (·.1)=ba (zs.map (·.1)) c:=by
 unfold storedH ba;by_cases h:c∈zs.map (·.1)
 ·rw[if_pos ((dU zs c).mpr h),if_pos h,List.map_map];refine aaP λz _=>?_;show(putAt c v z).1=z.1;unfold putAt;split<;>rfl
 ·rw[if_neg (λz=>h ((dU zs c).mp z)),if_neg h,List.map_append];rfl
theorem mL(a:Addr)(v:Value):(storedH zs c a v).map (·.2.1)=mE (zs.map (·.1)) (zs.map (·.2.1)) c a:=by
 unfold storedH mE;by_cases h:c∈zs.map (·.1)
 ·rw[if_pos ((dU zs c).mpr h),if_pos h,List.map_map];refine aaP λz _=>?_;show(putAt c v z).2.1=z.2.1;unfold putAt;split<;>rfl
 ·rw[if_neg (λz=>h ((dU zs c).mp z)),if_neg h,List.map_append];rfl
theorem ui(v:Value):∀zs:List (ae×Addr×Value),(zs.map (putAt c v)).map (·.2.2)=setC (zs.map (·.1)) (zs.map (·.2.2)) c v
 |[]=>rfl
 |z::zs=>by
  show(putAt c v z).2.2::((zs.map (putAt c v)).map (·.2.2))=(if z.1=c then v else z.2.2)::setC (zs.map (·.1)) (zs.map (·.2.2)) c v;rw[ui v zs];unfold putAt;by_cases e:z.1=c
  ·rw[if_pos e,if_pos e]
  ·rw[if_neg e,if_neg e]
theorem mK(a:Addr)(v:Value):(storedH zs c a v).map (·.2.2)=bI (zs.map (·.1)) (zs.map (·.2.2)) c v:=by
 unfold storedH bI;by_cases h:c∈zs.map (·.1)
 ·rw[if_pos ((dU zs c).mpr h),if_pos h];exact ui v zs
 ·rw[if_neg (λz=>h ((dU zs c).mp z)),if_neg h,List.map_append];rfl
end
theorem tI{c:ae}{v:V}{u:Value}(r:RelV v u):∀{cs:az} {xs:ah} {a:aw},Vals xs a->Vals (setC cs xs c v) (setC cs a c u)
 |[],_,_,h=>by cases h<;>exact .nil
 |c'::cs,_,_,h=>by
  cases h with
  |nil=>exact .nil
  |cons h t =>
   refine .cons ?_ (tI r t);show RelV (if c'=c then v else _) (if c'=c then u else _);by_cases e:c'=c
   ·rw[if_pos e,if_pos e];exact r
   ·rw[if_neg e,if_neg e];exact h
theorem qA{v:V}{u:Value}(r:RelV v u):∀{xs:ah} {a:aw},Vals xs a->Vals (xs++[v]) (a++[u])
 |_,_,.nil=>.cons r .nil
 |_,_,.cons h t=>.cons h (qA r t)
theorem tJ{cs:az}{xs:ah}{a:aw}(h:Vals xs a){c:ae}{v:V}{u:Value}(r:RelV v u):Vals (bI cs xs c v) (bI cs a c u):=by
 unfold bI;by_cases e:c∈cs
 ·rw[if_pos e,if_pos e];exact tI r h
 ·rw[if_neg e,if_neg e];exact qA r h
theorem iZ:∀{cs:az} {xs:ah} {a:aw} (_:Vals xs a) (c:ae),qu (bJ cs xs c) (bJ cs a c)
 |[],_,_,_,_=>by cases ‹Vals _ _› <;> exact True.intro
 |c'::cs,_,_,h,c=>by
  cases h with
  |nil=>exact True.intro
  |cons h t =>
   show qu (if c'=c then some _ else _) (if c'=c then some _ else _);by_cases e:c'=c
   ·rw[if_pos e,if_pos e];exact h
   ·rw[if_neg e,if_neg e];exact iZ t c
variable {p1 p2 pos pos':Pos}
section
variable {X:Cx}{pins:ao}{σ:St}{H:Hp}{s:Shared}{p b:Addr}{cs:az}{as:aX}{xs:ah}{ep:Nat}{c:ae}{A:aB}{E:au}
theorem items_int:∀{c:ae} {a:aw},Vals (c.map V.int) a->ItemsAre (intKind X.prog X.w) c a
 |[],_,h=>by cases h;exact .nil
 |i::c,_,h=>by
  cases h with
  |cons h t =>
   obtain⟨d,rfl⟩:=h;exact .cons (by simp[intKind,Value.isInt]) (items_int t)
theorem l8(I:Inv X pins σ H s)(h:a_ X.K H b (c.map V.int)):(tupleKind (intKind X.prog X.w)).is s.heap c b:=by
 obtain⟨g,a,⟨o,f,e,n,d⟩,_⟩:=I.tuple h;exact⟨o,g.toArray,n,f,e,d,by simpa using items_int a⟩
theorem lD(I:Inv X pins σ H s)(h:H p=some (.ext (DO p cs as xs ep)))(k:dA (a_ X.K H) as cs):
  ∃(zs:List (ae×Addr×Value)) (o:Obj) (es:Array DictEntry),zs.map (·.1)=cs/\zs.map (·.2.1)=as/\Vals xs (zs.map (·.2.2))/\s.heap.get? p=some o/\o.ExactDict/\o.data=.dict es ep /\
   s.heap.DictOfH (tupleKind (intKind X.prog X.w)) p zs/\es.toList=zs.map (entryOfKey (tupleKind (intKind X.prog X.w)))/\cs.length<=sizeLine/\(p==sysModules)=false:=by
 obtain⟨⟨zs,o,es,e1,e2,e3,d,a,hd,f,l,m,i⟩,_⟩:=(show cK H s.heap p (.ext (DO p cs as xs ep)) from I.cJ p _ h)
 refine⟨zs,o,es,e1,e2,e3,d,a,hd,⟨o,es,ep,d,a,hd,f,λz g=>?_,by rw[e1];exact l⟩,f,m,i⟩;obtain⟨j,e⟩:=List.mem_iff_getElem?.mp g;exact l8 I (k.tup j z.2.1 z.1 (by rw[<- e2,List.getElem?_map,e];rfl) (by rw[<- e1,List.getElem?_map,e];rfl))
theorem dict_cls(I:Inv X pins σ H s)(h:H p=some (.ext (DO p cs as xs ep))):s.TypeIs (.ref p) "dict" /\ ∀b,Value.ref p=.ref b->∃a,s.heap.get? b=some a/\a.dict=none:=by
 obtain⟨⟨f,o,g,e1,e2,e3,e,d,_⟩,_⟩:=(show cK H s.heap p (.ext (DO p cs as xs ep)) from I.cJ p _ h)
 exact⟨⟨o,e,d.1⟩,λb q=>by cases q;exact⟨o,e,d.2.1⟩⟩
theorem IG{d:V}{r:Value}(m:A.units+1<cLine)(I:Inv X pins σ H s)(h:H p=some (.ext (DO p cs as xs ep)))(k:dA (a_ X.K H) as cs)(t:a_ X.K H b (c.map V.int))(l:RelV d r)(x:∀e f,Inv X pins σ H f->RelV ((bJ cs xs c).getD d) e->Q e f):
  wpAny (model X.prog X.w) A (call (.builtin "dict.get") [.ref p,.ref b,r]) Q E s:=by
 obtain⟨i,o,D,e1,e2,e3,B,z,hd,g,_,C,n⟩:=lD I h k;refine call_meetsIn PySem.F.slot_dict_get g.typeIs PySem.F.entry_dict_get (PySem.F.args_dict_get_3 _ _ _) (meetsH_dict_get_default (tupleKind (intKind X.prog X.w)) p b n r) ⟨abT m,c,i,l8 I t,g,x _ _ (I.tok _) ?_⟩;rw[hJ,e1];have a:=iZ (cs:=cs) e3 c;cases q:bJ cs xs c with
 |none =>
  rw[q]at a;rw[qu.none_of a];exact l
 |some v =>
  rw[q]at a;obtain⟨u,y,j⟩:=qu.some_of a;rw[y];exact j
theorem xo{v:V}{r:Value}{Q:Unit->Shared->Prop}(u:A.units+1<cLine)(I:Inv X pins σ H s)(h:H p=some (.ext (DO p cs as xs ep)))(k:dA (a_ X.K H) as cs)(i:a_ X.K H b (c.map V.int))(l:RelV v r)(dv:cs.length<sizeLine)
  (B:∀e j,Inv X pins σ (upd H p (.ext (DO p (ba cs c) (mE cs as c b) (bI cs xs c v) e))) j->Q () j) :
  wpAny (model X.prog X.w) A (setItem (.ref p) (.ref b) r) Q E s:=by
 obtain⟨d,o,es,e1,e2,e3,Y,W,hd,P,_,g,y⟩:=lD I h k;have t:d.length<=sizeLine:=by rw[<- e1,List.length_map]at g;exact g
 refine wpAny_setItem_heap (hsz:=t) (abT u) (l8 I i) P λh' R U=>?_;obtain⟨q,T,e,f,G,F,D,_,C⟩:=R;refine B e _ (I.write (x:=p) (by rw[h];exact True.intro) (λb q i z=>(U.2 b i).trans z) ⟨q,f⟩ ⟨⟨storedH d c b r,q,T,?_,?_,?_,f,G,F,D,?_,?_,y⟩,⟨q,f⟩,?_⟩)
 ·rw[fZ,e1]
 ·rw[mL,e1,e2]
 ·rw[mK,e1];exact tJ e3 l
 ·rw[<- e1,<- fZ (zs:=d) (c:=c) b r];exact C
 ·unfold ba;split
  ·exact g
  ·rw[List.length_append,List.length_singleton];left
 ·rintro Z XI ⟨S,m,a,O,N,M,L,J⟩ n;exact⟨S,m,a,O,N,M,n _ L,J⟩
theorem Hg:PE X (.Dict [] [] pos) (λ_ H Q=>∀p,H p=none->Q (.ref p) (upd H p (.ext (DO p [] [] [] 0)))):=λpins s σ H Q I h=>by
 have n:sysModules<s.heap.objs.size:=ab8 (by decide) (show mainGlobals<s.heap.objs.size from(I.mod.glob.keeps I.bk).lt);refine wpAny_Dict_empty ⟨.ref s.heap.objs.size,_,I.laid (a:=s.heap.objs.size) (o:=.ext (DO s.heap.objs.size [] [] [] 0)) (t':=s.toks) (λ_ _ q=>aai _ q) (aal _) ?_,rfl,h _ (I.cJ.fresh (aal _))⟩;have e:(s.heap.push { cls:=.type "dict",data:=.dict #[] }).get? s.heap.objs.size=some { cls:=.type "dict",data:=.dict #[] }:=aaD _ rfl;refine⟨⟨[],_,#[],rfl,rfl,.nil,e,⟨rfl,rfl,rfl⟩,rfl,rfl,abo,aaZ _,beq_eq_false_iff_ne.mpr (ack (aao n))⟩,⟨_,e⟩,?_⟩;rintro t u ⟨r,f,d,m,l,k,j,i⟩ g;exact⟨r,f,d,m,l,k,g _ j,i⟩
end
variable {T:nF}{k':bt}
theorem jC{N N':h_}{k:bt}{v:V}{d:D}(h:Rep T N k v d)(hf:aV anyF d=false):Rep T N' k' v d:=by
 have:=Rep.gen (T':=T) (N':=N') (g:=id) (P:=anyF) (C:=λ_ _=>True) (I:=λ_ _=>True) (λ_ _ h=>h) trivial (λ_ _ e=>e) (λ_ _ _ _ e _=>e) (λk k' p b f _ a _=>nomatch a) h (k':=k') trivial hf;rw[d_]at this;exact this
theorem kO{T:nF}{N:h_}:∀{cs:az} {k:bt} {n:Nat} {xs:ah} {ds:aa} (_:aI T N k n xs ds) (c:ae),(bJ cs xs c=none/\bJ cs ds c=none)\/∃v d k',bJ cs xs c=some v/\bJ cs ds c=some d/\Rep T N k' v d/\d∈ds
 |[],_,_,_,_,_,_=>by cases ‹aI _ _ _ _ _ _› <;> exact .inl ⟨rfl,rfl⟩
 |f::cs,_,_,_,_,r,c=>by
  cases r with
  |nil=>exact .inl ⟨rfl,rfl⟩
  | @cons _ _ v d vs ds h t =>
   by_cases e:f=c
   ·exact .inr ⟨v,d,_,aa2 e,aa2 e,h,aaf⟩
   ·have e1:∀{b:Type} (a:b) (l:List b),bJ (f::cs) (a::l) c=bJ cs l c:=λa l=>acQ e;rw[e1,e1];rcases kO (cs:=cs) t c with h|⟨g,p,k',o,m,j,i⟩
    ·exact .inl h
    ·exact .inr ⟨g,p,k',o,m,j,aad _ i⟩
theorem qU{p:Fl->Bool}:∀{ds:aa},aP p ds=false->∀d∈ds,aV p d=false
 |[],_,_,h=>nomatch h
 |d::ds,h,d',hd=>by
  have h:=JZ h;rcases List.mem_cons.mp hd with rfl|hd
  ·exact h.1
  ·exact qU h.2 d' hd
theorem ug{T:nF}{N:h_}{c:ae}{v:V}{d:D}(a:∀k,Rep T N k v d):∀{cs:az} {k:bt} {n:Nat} {xs:ah} {ds:aa},aI T N k n xs ds->aI T N k n (setC cs xs c v) (setC cs ds c d)
 |[],_,_,_,_,r=>by cases r<;>exact .nil
 |c'::cs,_,_,_,_,r=>by
  cases r with
  |nil=>exact .nil
  |cons h t =>
   refine .cons ?_ (ug a t);show Rep _ _ _ (if c'=c then v else _) (if c'=c then d else _);by_cases e:c'=c
   ·rw[if_pos e,if_pos e];exact a _
   ·rw[if_neg e,if_neg e];exact h
theorem qH{T:nF}{N:h_}{v:V}{d:D}(a:∀k,Rep T N k v d):∀{k:bt} {n:Nat} {xs:ah} {ds:aa},aI T N k n xs ds->aI T N k n (xs++[v]) (ds++[d])
 |_,_,_,_,.nil=>.cons (a _) .nil
 |_,_,_,_,.cons h t=>.cons h (qH a t)
variable {ds xs:aa}
theorem B8{N:h_}{c:ae}{v:V}{d:D}(a:∀k,Rep T N k v d){cs:az}{k:bt}{n:Nat}{xs:ah}(r:aI T N k n xs ds):aI T N k n (bI cs xs c v) (bI cs ds c d):=by
 unfold bI;by_cases e:c∈cs
 ·rw[if_pos e,if_pos e];exact ug a r
 ·rw[if_neg e,if_neg e];exact qH a r
variable {as:aX}
theorem oZ{cs:az}(k:dA T as cs){b:Addr}{c:ae}(l:T b (c.map V.int)):dA T (mE cs as c b) (ba cs c):=by
 unfold mE ba;by_cases e:c∈cs
 ·rw[if_pos e,if_pos e];exact k
 ·rw[if_neg e,if_neg e];refine⟨by rw[List.length_append,List.length_append,k.len];rfl,λj a n d f=>?_⟩;by_cases i:j<as.length
  ·rw[List.getElem?_append_left i]at d;rw[List.getElem?_append_left (by rw[<- k.len];exact i)]at f;exact k.tup j a n d f
  ·rw[List.getElem?_append_right (by left)]at d;rw[List.getElem?_append_right (by rw[<- k.len];left),<- k.len]at f;cases g:j - as.length with
   |zero =>
    rw[g]at d f;cases d;cases f;exact l
   |succ m=>rw[g]at d;cases d
variable {K:av}{τ:Addr->Option bt}
theorem cI.newD{G R:ai}{fv:aN}{H H':Hp}{p:Addr}(e:H p=none)(f:H' p=some (.ext (DO p [] [] [] 0))):cI K G R τ fv H H' (.ref p) (.cn .ow [] []):=by
 refine⟨λq=>if q=p then some []else none,λq k d=>?_,.cn (ep:=0) (as:=[]) (xs:=[]) ⟨f,by simp⟩ ⟨rfl,λj a c h=>by simp at h⟩ .nil⟩;by_cases b:q=p
 ·subst b;exact e
 ·simp[b]at d
noncomputable def Ey(xs:aa):O D:=match xs with
 |[]=>ok (.cn .ow [] [])
 |_::_=>none
noncomputable def sW(_:Scope)(_:ak)(e:Expr):Option (aq):=match e with
 |.Dict [] [] _=>some []
 |_=>none
variable {F:Addr->Prop}{X:Cx}{args:aq}{cs:aH}{Φ:bh}
theorem IB{n:Nat}(b:Φ n=Ey){sc:Scope}{bl:ak}{k:Nat}(L:PX X sc bl k){e:Expr}(he:sW sc bl e=some args)(hs:nG X F Φ cs args):PE X e (tD X F Φ (.cS n cs))/\PT X e (ig X F Φ (.cS n cs)):=by
 have g:∃pos,e=.Dict [] [] pos/\args=[]:=by
  unfold sW at he;split at he
  ·cases he;exact⟨_,rfl,rfl⟩
  ·cases he
 obtain⟨pos,rfl,rfl⟩:=g;cases cs with
 |cons _ _=>exact hs.elim
 |nil =>
  have this:PE X (.Dict [] [] pos) (tD X F Φ (.cS n [])):=by
   refine PE.imp (Hg (X:=X) (pos:=pos)) λi H Q c p f=>?_;obtain⟨R,τ,j,d,l,a,c⟩:=c;have a:Φ n []=ok d:=a;rw[b]at a;cases a;exact c _ _ (aL.upd f) (cI.newD f aY)
  exact⟨this,cZ this λ_=>rfl⟩
noncomputable def three{d:Type}:List d->Option (d×d×d)
 |[a,b,c]=>some (a,b,c)
 |_=>none
theorem tO{e:Type}{l:List e}{z:e×e×e}(h:three l=some z):l=[z.1,z.2.1,z.2.2]:=by
 rcases l with _|⟨a,_|⟨b,_|⟨c,_|⟨d,l⟩⟩⟩⟩<;>cases h;rfl
noncomputable def eY:D->Option (az×aa)
 |.cn _ cs vs=>some (cs,vs)
 |_=>none
def keyOf:D->Option (ae)
 |.tup a=>intsOf a
 |_=>none
theorem jn{d:D}{z:az×aa}(h:eY d=some z):∃f,d=.cn f z.1 z.2:=by
 cases d<;>first | (cases h;done) | (cases h;exact⟨_,rfl⟩)
theorem kW{d:D}{c:ae}(h:keyOf d=some c):d=.tup (c.map D.int):=by
 cases d<;>first | (cases h;done)|skip
 rw[dT (show intsOf _=some c from h)]
def EC(xs:aa):O D:=match two xs with
 |some z=>match eY z.1 with
  |some d=>match keyOf z.2 with
   |some c=>match bJ d.1 d.2 c with
    |some v=>if aV anyF v=false then ok v else none
    |none=>none
   |none=>none
  |none=>none
 |none=>none
theorem IE{r:D}(h:EC xs=ok r):∃f cs vs c,xs=[.cn f cs vs,.tup (c.map D.int)]/\bJ cs vs c=some r/\aV anyF r=false:=by
 unfold EC at h;cases g:two xs with
 |none=>rw[g]at h;cases h
 |some z =>
  rw[g]at h;have h:(match eY z.1 with|some d=>(match keyOf z.2 with|some c=>(match bJ d.1 d.2 c with|some v=>if aV anyF v=false then ok v else none|none=>none)|none=>none)|none=>none)=ok r:=h;cases e:eY z.1 with
  |none=>rw[e]at h;cases h
  |some d =>
   rw[e]at h;have h:(match keyOf z.2 with|some c=>(match bJ d.1 d.2 c with|some v=>if aV anyF v=false then ok v else none|none=>none)|none=>none)=ok r:=h;cases b:keyOf z.2 with
   |none=>rw[b]at h;cases h
   |some c =>
    rw[b]at h;have h:(match bJ d.1 d.2 c with|some v=>if aV anyF v=false then ok v else none|none=>none)=ok r:=h;cases a:bJ d.1 d.2 c with
    |none=>rw[a]at h;cases h
    |some v =>
     rw[a]at h;obtain⟨i,rfl⟩:=sF (show(if aV anyF v=false then ok v else none)=ok r from h);obtain⟨f,e1⟩:=jn e;exact⟨f,d.1,d.2,c,by rw[gx g,e1,kW b],a,i⟩
def VQ(K:av):R2:=λx y H Q=>∃p b cs as xs ep c v,x=.ref p/\y=.ref b/\H p=some (.ext (DO p cs as xs ep))/\dA (a_ K H) as cs/\a_ K H b (c.map V.int)/\bJ cs xs c=some v/\Q v H
theorem HE(m:X.A.units+1<cLine):Jp X (VQ X.K):=by
 intro value slice pins s f H x y v u Q I k j h n;obtain⟨p,b,cs,as,xs,ep,c,w,rfl,rfl,t,z,C,B,q⟩:=h;cases k;cases j;obtain⟨g,o,M,e1,e2,e3,J,G,hd,d,_,L,N⟩:=lD I t z;have e:=iZ (cs:=cs) e3 c;rw[B]at e;obtain⟨u,E,l⟩:=qu.some_of e;have:(atKey g c).map (·.2)=some u:=by rw[hJ,e1];exact E
 obtain⟨a,D,rfl⟩:=Option.map_eq_some_iff.mp this;exact abU (x:=a.2) d.typeIs PySem.F.slot_dict_getitem.lookup
  (wpAny_getItem_heap (Q:=λr i=>r=a.2/\EP X pins f Q r i) (abT m) (l8 I C) d D ⟨rfl,w,H,I.tok _,l,q⟩) n
def mC(_:Scope)(_:ak)(e:Expr):Option (aq):=match tL e with
 |some z=>some [z.1,z.2]
 |none=>none
theorem NY{n:Nat}(g:Φ n=EC){sc:Scope}{bl:ak}{k:Nat}(L:PX X sc bl k){e:Expr}(he:mC sc bl e=some args)(hs:nG X F Φ cs args):PE X e (tD X F Φ (.cS n cs))/\PT X e (ig X F Φ (.cS n cs)):=by
 unfold mC at he;cases j:tL e with
 |none=>rw[j]at he;cases he
 |some z =>
  rw[j]at he;cases he;obtain⟨pos,rfl⟩:=jy j;obtain⟨⟨q,p,rfl,p1,p2⟩,_⟩:=kc hs;have this:PE X (.Subscript z.1 z.2 pos) (tD X F Φ (.cS n [q,p])):=by
   refine PE.imp (yw (HE (DG L.room)) p1 p2 hs.2.2.2.2.2.1) λY H Q i=>?_;obtain⟨R,τ,Z,d,r,b,i⟩:=i;obtain⟨xs,a,b⟩:=aJ b;rw[g]at b;obtain⟨f,cs,vs,c,rfl,m,J⟩:=IE b;obtain⟨x,P,a⟩:=aJ a;obtain⟨ys,A,a⟩:=aJ a;obtain⟨y,O,S⟩:=aJ A;cases S;cases a;refine tD.intro r P λv W e1 r1=>tD.intro (r.go e1) O λu V e2 B=>?_;obtain⟨t,f1,q1⟩:=r1;obtain⟨s,f2,C⟩:=B;cases q1 with
   |cn G I E=>cases C with
    |tup D U =>
     cases U.ofInts;rcases kO E c with ⟨_,l⟩|⟨w,d',k',N,o,M,_⟩
     ·rw[m]at l;cases l
     ·rw[m]at o;cases o;refine⟨_,_,_,_,_,_,c,w,rfl,rfl,e2 _ _ G.dat,I.imp λ_ _ h=>a_.same e2 h,D,N,i w V (e1.trans e2) ⟨λ_=>none,λ_ _ h=>by simp at h,?_⟩⟩;exact(jC (N':=nd X.K R (j0 (gP X F) τ (iX (.cS n [q,p]))) (λ_=>none) W) (k':=[]) M J).imp (λ_ _ h=>a_.same e2 h) λ_ _ _ _ h=>nd.same e2 h
  exact⟨this,cZ this λ_=>rfl⟩
def mV(xs:aa):O D:=match three xs with
 |some z=>match eY z.1 with
  |some d=>match keyOf z.2.1 with
   |some c=>if aP anyF d.2=false/\aV anyF z.2.2=false then ok ((bJ d.1 d.2 c).getD z.2.2)else none
   |none=>none
  |none=>none
 |none=>none
theorem EE{r:D}(h:mV xs=ok r):∃f cs vs c x,xs=[.cn f cs vs,.tup (c.map D.int),x]/\aP anyF vs=false/\aV anyF x=false/\r=(bJ cs vs c).getD x:=by
 unfold mV at h;cases e:three xs with
 |none=>rw[e]at h;cases h
 |some z =>
  rw[e]at h;have h:(match eY z.1 with|some d=>(match keyOf z.2.1 with|some c=>if aP anyF d.2=false/\aV anyF z.2.2=false then ok ((bJ d.1 d.2 c).getD z.2.2)else none|none=>none)|none=>none)=ok r:=h;cases b:eY z.1 with
  |none=>rw[b]at h;cases h
  |some d =>
   rw[b]at h;have h:(match keyOf z.2.1 with|some c=>if aP anyF d.2=false/\aV anyF z.2.2=false then ok ((bJ d.1 d.2 c).getD z.2.2)else none|none=>none)=ok r:=h;cases a:keyOf z.2.1 with
   |none=>rw[a]at h;cases h
   |some c =>
    rw[a]at h;obtain⟨⟨i,g⟩,rfl⟩:=sF (show(if aP anyF d.2=false/\aV anyF z.2.2=false then ok ((bJ d.1 d.2 c).getD z.2.2)else none)=ok r from h);obtain⟨f,e1⟩:=jn b;exact⟨f,d.1,d.2,c,z.2.2,by rw[tO e,e1,kW a],i,g,rfl⟩
def sX(_:Scope)(_:ak)(e:Expr):Option (aq):=(oB ("get" : Str) (.Expr e ⟨0,0,0,0⟩)).bind λz=>(two z.2).bind λy=>if isNm z.1=true then some [z.1,y.1,y.2]else none
theorem xA{sc:Scope}{bl:ak}{e:Expr}(h:sX sc bl e=some args):∃x p p1 p2 a b,e=.Call (.Attribute (.Name x p) ("get" : Str) p1) [a,b] [] p2/\args=[.Name x p,a,b]/\(p1.endLine==p2.line)=true:=by
 obtain⟨⟨o,as⟩,g,h⟩:=bT h;obtain⟨⟨a,b⟩,f,h⟩:=bT h;obtain⟨c,h⟩:=gT h;cases h;obtain⟨x,p,rfl⟩:=kZ c;obtain rfl:=gx f;obtain⟨p1,p2,pos,e1,d⟩:=i_ g;cases e1;exact⟨x,p,p1,p2,a,b,rfl,rfl,d⟩
variable {ta:TA}{td:TE}
theorem z_{x:Str}{p:Pos}{a b:Expr}(B:X.A.units+1<cLine)(C:PE X (.Name x p) td)(J:PA X [a,b] ta)(m:∀f,starEach (a::f) X.env=(false,eval a X.env)::starEach f X.env)(s2:∀f,starEach (b::f) X.env=(false,eval b X.env)::starEach f X.env)(D:(p1.endLine==p2.line)=true):
  PE X (.Call (.Attribute (.Name x p) ("get" : Str) p1) [a,b] [] p2) (λe H Q=>td e H λv g=>∃q cs as xs ep,v=.ref q/\g q=some (.ext (DO q cs as xs ep))/\ta e g λl d=>∃k c z,l=[.ref k,z]/\d q=some (.ext (DO q cs as xs ep))/\dA (a_ X.K d) as cs/\a_ X.K d k (c.map V.int)/\Q ((bJ cs xs c).getD z) d):=by
 intro pins s e H Q I h;refine acN rfl (by rw[m,s2];rfl) D acb PySem.F.slot_dict_get PySem.F.type_dict_get (dF (C pins s e H _ I h) λu O j=>?_);obtain⟨v,g,o,r,q,cs,as,xs,ep,M,hd,q1⟩:=j;subst M;obtain rfl:u=Value.ref q:=r;obtain⟨t1,t2⟩:=dict_cls o hd;refine⟨t1,t2,?_⟩;have n:=J p2 pins O e g _ o q1;rw[m]at n ⊢;refine abV (by show(false||(backTo p2 (starEach [b] X.env)).any (·.1))=false;rw[s2];rfl) (abZ ?_);refine dF n λW Z j=>?_;obtain⟨l,d,S,t,k,c,z,L,i,E,G,w⟩:=j;subst L;obtain⟨w1,w2,rfl,N,P⟩:=vals2 t;cases N;exact IG B S i E G P λU Y R y=>⟨_,d,R,y,w⟩
theorem IF{n:Nat}(j:Φ n=mV){sc:Scope}{bl:ak}{k:Nat}(L:PX X sc bl k){e:Expr}(he:sX sc bl e=some args)(hs:nG X F Φ cs args):PE X e (tD X F Φ (.cS n cs))/\PT X e (ig X F Φ (.cS n cs)):=by
 obtain⟨x,p,p1,p2,a,b,rfl,rfl,U⟩:=xA he;cases cs with
 |nil=>exact hs.elim
 |cons t cs =>
  obtain⟨Y,_,_,N⟩:=hs;obtain⟨⟨s,r,rfl,_,_⟩,M,G,E⟩:=kc N;have this:PE X (.Call (.Attribute (.Name x p) ("get" : Str) p1) [a,b] [] p2) (tD X F Φ (.cS n [t,s,r])):=by
   refine PE.imp (z_ (DG L.room) Y M G E U) λσ H Q l=>?_;obtain⟨R,τ,C,d,u,i,l⟩:=l;obtain⟨xs,g,i⟩:=aJ i;rw[j]at i;obtain⟨f,cs,vs,c,y,rfl,W,O,rfl⟩:=EE i;obtain⟨x0,ex,g⟩:=aJ g;obtain⟨ys,D,g⟩:=aJ g;cases g;refine tD.intro u ex λv H1 e1 r1=>?_;obtain⟨B,f1,q1⟩:=r1;cases q1 with
   |cn q V S =>
    refine⟨_,_,_,_,_,rfl,q.dat,R,τ,C,_,u.go e1,D,λus z e2 I=>?_⟩;obtain⟨A,f2,J⟩:=I;obtain⟨u1,u2,rfl,VN,VM⟩:=J.two;obtain⟨_,_,rfl,P,Rm⟩:=VN.F1;cases Rm.ofInts;refine⟨_,c,u2,rfl,e2 _ _ q.dat,V.imp λ_ _ h=>a_.same e2 h,P,?_⟩;refine l _ z (e1.trans e2) ⟨λ_=>none,λ_ _ h=>by simp at h,?_⟩;rcases kO S c with ⟨o,m⟩|⟨w,d',k',o,m,g3,Z⟩
    ·rw[o,m];exact jC (T:=a_ X.K z) VM O
    ·rw[o,m];exact(jC (N':=nd X.K R (j0 (gP X F) τ (iX (.cS n [t,s,r]))) (λ_=>none) H1) (k':=[]) g3 (qU W _ Z)).imp (λ_ _ h=>a_.same e2 h) λ_ _ _ _ h=>nd.same e2 h
  exact⟨this,cZ this λ_=>rfl⟩
def vh(xs:aa):O D:=match three xs with
 |some z=>match z.1 with
  |.cn f cs vs=>match keyOf z.2.2 with
   |some c=>if cz f=true/\aV anyF z.2.1=false/\cs.length<dz then ok (.cn .ow (ba cs c) (bI cs vs c z.2.1))else none
   |none=>none
  |_=>none
 |none=>none
set_option tactic.hygienic true in
theorem vg{d:D}{r:D}(h:vh (d::xs)=ok r):∃cs vs c x,d=.cn .ow cs vs/\xs=[x,.tup (c.map D.int)]/\aV anyF x=false/\cs.length<dz/\r=.cn .ow (ba cs c) (bI cs vs c x):=by
 unfold vh at h;cases b:three (d::xs)with
 |none=>rw[b]at h;cases h
 |some z =>
  rw[b]at h;have e0:=tO b;obtain⟨j,x,y⟩:=z;obtain⟨rfl,rfl⟩:d=j/\xs=[x,y]:=ab2 e0;cases d<;>first | (cases h;done)|skip
  rename_i f cs vs;have h:(match keyOf y with|some c=>if cz f=true/\aV anyF x=false/\cs.length<dz then ok (D.cn .ow (ba cs c) (bI cs vs c x))else none|none=>none)=ok r:=h;cases a:keyOf y with
  |none=>rw[a]at h;cases h
  |some c =>
   rw[a]at h;obtain⟨⟨i,e,g⟩,rfl⟩:=sF (show(if cz f=true/\aV anyF x=false/\cs.length<dz then ok (D.cn .ow (ba cs c) (bI cs vs c x))else none)=ok r from h);cases f<;>first | (cases i;done)|exact⟨cs,vs,c,x,rfl,by rw[kW a],e,g,rfl⟩
def sV(_:Scope)(_:ak)(st:Stmt):Option (Expr×aq):=(Bv st).bind λz=>(one z.1).bind λt=>(tL t).bind λy=>some (y.1,[z.2,y.2])
variable {o value:Expr}{st:Stmt}
theorem xy{sc:Scope}{bl:ak}(h:sV sc bl st=some (o,args)):∃v i pos' pos,st=.Assign [.Subscript o i pos'] v pos/\args=[v,i]:=by
 obtain⟨⟨d,v⟩,c,h⟩:=bT h;obtain⟨t,b,h⟩:=bT h;obtain⟨⟨e,i⟩,a,h⟩:=bT h;cases h;obtain rfl:=cO b;obtain⟨pos,rfl⟩:=nJ c;obtain⟨pos',rfl⟩:=jy a;exact⟨v,i,pos',pos,rfl,rfl⟩
mutual
theorem any_map(g:Fl->Fl):∀d:D,aV anyF (aR g d)=aV anyF d
 |.cF=>rfl
 |.bl _=>rfl
 |.int _=>rfl
 |.tup ds=>vD g ds
 |.lst _ ds=>rfl
 |.cn _ _ ds=>rfl
theorem vD(g:Fl->Fl):∀ds:aa,aP anyF (aA g ds)=aP anyF ds
 |[]=>rfl
 |d::ds=>by show(aV _ _||aP _ _)=(aV _ d||aP _ ds);rw[any_map g d,vD g ds]
end
mutual
theorem xN:∀d:D,aV anyF d=false->aV bW d=false
 |.cF,_=>rfl
 |.bl _,_=>rfl
 |.int _,_=>rfl
 |.tup ds,h=>zI ds h
 |.lst _ ds,h=>nomatch h
 |.cn _ _ ds,h=>nomatch h
theorem zI:∀ds:aa,aP anyF ds=false->aP bW ds=false
 |[],_=>rfl
 |d::ds,h=>by
  have h:=JZ h;show(aV _ d||aP _ ds)=false;rw[xN d h.1,zI ds h.2];rfl
end
theorem any_ints:∀c:ae,aP anyF (c.map D.int)=false
 |[]=>rfl
 |i::c=>any_ints c
theorem Lh{i:Expr}{l:Nat}{env:Env}:swapsWith value (some (.Subscript o i pos')) l env=pure false:=by
 unfold swapsWith;cases value<;>rfl
theorem Co{x:Str}{l:Pos}{i:Expr}{j to k:TE}(G:X.A.units+1<cLine)(E:PE X value j)(J:PE X (.Name x l) to)(N:PE X i k):
  PS X (.Assign [.Subscript (.Name x l) i pos'] value pos) (λD a H=>j a H λv g=>to a g λo f=>k a f λy d=>∃q b cs as xs ep c,o=.ref q/\y=.ref b/\d q=some (.ext (DO q cs as xs ep))/\dA (a_ X.K d) as cs/\a_ X.K d b (c.map V.int)/\cs.length<sizeLine /\
   ∀e,D.nx a (upd d q (.ext (DO q (ba cs c) (mE cs as c b) (bI cs xs c v) e)))):=by
 intro pins s a H D I h;refine wpAny_Assign_Subscript (dF (E pins s a H _ I h) λr n ⟨v,g,Z,w,q1⟩=>dF (J pins n a g _ Z q1) λu m ⟨o,f,Y,t,B⟩=>dF (N pins m a f _ Y B) λC s3 S=>?_) Lh;obtain⟨y,d,W,p,q,b,cs,as,xs,ep,c,R,P,hd,M,O,L,z⟩:=S;subst R P;obtain rfl:u=Value.ref q:=t;obtain rfl:C=Value.ref b:=p;exact xo G W hd M O w L λe s4 U=>⟨a,_,U,z e⟩
variable {ρ:bo}{σ:L2.St}
theorem SI.L6{R:Addr->Prop}{H:Hp}{i:Nat}{cs:az}(d:SI X F R τ ρ σ H)(c:ρ[i]?=some (some (.cn .ow cs ds))):
  ∃p as xs ep,σ[i]?=some (some (.ref p))/\H p=some (.ext (DO p cs as xs ep))/\τ p=some [i]/\dA (a_ X.K H) as cs/\aI (a_ X.K H) (nd X.K R (λ_=>False) τ H) [i] 0 xs ds:=by
 obtain⟨v,b,a⟩:=d.rep i _ c;cases a with
 |cn h k r=>exact⟨_,_,_,_,b,h.1,h.2,k,r⟩
theorem IA{n:Nat}(j:Φ n=vh){sc:Scope}{bl:ak}{k:Nat}(L:PX X sc bl k)(W:X.N.Nodup)(md:∀x,X.fn x=true){x:Str}(he:sV sc bl st=some (.Name x pos,args))
  {i:Nat} (hi:X.N[i]?=some x) (hl:L2.Loc X.env.scope x) (pe:PE X (.Name x pos) (jP i)) (hs:nG X F Φ cs args):PS X st (kD X F Φ (.mut n i cs)):=by
 obtain⟨v,ix,p1,p2,rfl,rfl⟩:=xy he;obtain⟨⟨c1,c2,rfl,h1,h2⟩,_⟩:=kc hs;refine PS.imp (Co (DG L.room) h1 pe h2) λD σ H I=>?_;obtain⟨R,τ,ρ,r,z,t,I⟩:=I;obtain⟨xs,q,t⟩:=aJ t;obtain⟨y,ey,q⟩:=aJ q;obtain⟨ys,uZ,q⟩:=aJ q;cases q;obtain⟨a,ek,Sk⟩:=aJ uZ;cases Sk;have E:∃cs vs c,a=.tup (c.map DI.D.int)/\ρ[i]?=some (some (.cn .ow cs vs))/\aV anyF y=false/\cs.length<dz/\r=(.nx,ρ.set i (some (.cn .ow (ba cs c) (bI cs vs c y)))):=by
  cases l:aP bW [y,a]with
  |true =>
   obtain⟨d,d',h⟩:=wM t l;rw[j]at h;obtain⟨cs,vs,c,O,_,e1,e2,_⟩:=vg h;have e3:aR aZ y=O/\aR aZ a=.tup (c.map DI.D.int):=by
    have:=ab2 e1;exact⟨this.1,(ab2 this.2).1⟩
   have a1:aV bW y=false:=xN y (by rw[<- any_map aZ y,e3.1];exact e2);have a2:aV bW a=false:=xN a (by rw[<- any_map aZ a,e3.2];exact any_ints c);have:aP bW [y,a]=false:=by show(aV bW y||(aV bW a||false))=false;rw[a1,a2];rfl
   rw[this]at l;cases l
  |false =>
   obtain⟨d,d',h,h',rfl⟩:=si t l;rw[j]at h';obtain⟨cs,vs,c,O,rfl,e1,e2,e3,rfl⟩:=vg h';cases e1;exact⟨cs,vs,c,rfl,h,e2,e3,rfl⟩
 obtain⟨cs,vs,c,rfl,J,M,hc,rfl⟩:=E;obtain⟨p,as,g,ep,G,hd,S,U,C⟩:=z.L6 J;refine tD.intro z ey λu H1 e1 ru=>⟨.ref p,G,tD.intro (z.go e1) ek λw Z e2 iW=>?_⟩
 obtain⟨τ1,f1,q1⟩:=ru;obtain⟨τ2,f2,q2⟩:=iW;cases q2 with
 | @tup _ b _ _ V Rm =>
  cases Rm.ofInts;have f:=e1.trans e2;have B:=z.go f;have e:=f _ _ hd;have sJ:dz=1000000:=rfl;have l:sizeLine=16777216:=abr;refine⟨p,b,cs,as,g,ep,c,rfl,rfl,e,U.imp λ_ _ h=>a_.same f h,V,by left,λP=>?_⟩;have s:eG Z p (.d cs as g ep):=e;have rk:js X R τ Z u y:=oJ ((jC (N':=nd X.K R (λ_=>False) τ H1) (k':=[]) q1 M).imp (λ_ _ h=>a_.same e2 h) λ_ _ _ _ h=>nd.same e2 h) M;obtain⟨p',as',Og,ada,Y,HV,Rj,HQ,nS⟩:=B.L6 J;rw[G]at Y;cases Y;rw[e]at HV;obtain⟨A,Ob⟩:=B.QA (m:=0) (n':=.d (ba cs c) (mE cs as c b) (bI cs g c u) P) (o:=.ext (DO p (ba cs c) (mE cs as c b) (bI cs g c u) P)) (d1:=.cn .ow (ba cs c) (bI cs vs c y)) (xs':=bI cs g c u) (ds':=bI cs vs c y) J G s S (C.imp (λ_ _ h=>a_.same f h) λ_ _ _ _ h=>nd.same f h) rk aY
   (λW r=>.cn W (oZ ((U.imp λ_ _ h=>a_.same f h).imp λ_ _ h=>lT s h) (lT s V)) r) (λC r=>B8 (λk=>jC r M) C)
  exact I σ _ R A Ob (kf B f (λ_ h=>h) s S)
theorem Inv.Q5{pins:ao}{H:Hp}{s:Shared}{t':Nat}{a:Addr}{o:HO}(I:Inv X pins σ H s)(k:∀b u,s.heap.get? b=some u->h'.get? b=some u)(f:s.heap.get? a=none)(new:cK (upd H a o) h' a o):
  H a=none/\Inv X pins σ (upd H a o) { s with heap:=h',toks:=t' }:=by
 have d:H a=none:=by
  cases q:H a with
  |none=>rfl
  |some u =>
   obtain⟨z,c⟩:=gb (I.cJ a u q);rw[f]at c;exact nk c
 have up:∀b u,H b=some u->upd H a o b=some u:=λb u e=>by rw[bq (dK e d)];exact e
 refine⟨d,I.step (g':=s.gens) (d':=s.drawn) (ch:=[]) (λb j=>nomatch j) (λb o _ _ _ e _=>k b o e) (λb o _ _ _ e _=>⟨o.slots,k b o e⟩) (λb u _ e n=>?_)
  (λb o _ e=>⟨o,k b o e⟩) (λ_ _ e=>up _ _ e) (λ_ _ _ e=>up _ _ e) (λm i=>?_) (λb u e=>?_) I.bare⟩
 ·rw[bq λz=>by rw[z,f]at e;cases e];exact n
 ·obtain⟨o,l,ep,g,r⟩:=i;exact⟨o,l,ep,k _ o g,r⟩
 ·by_cases z:b=a
  ·subst z;rw[aY]at e;cases e;exact new
  ·rw[bq z]at e;exact(I.cJ b u e).kM (k b)
section
variable {X:Cx}{pins:ao}{σ:St}{H:Hp}{s:Shared}{d:Addr}{cs:az}{as:aX}{xs:ah}{ep:Nat}
theorem LM(I:Inv X pins σ H s)(h:H d=some (.ext (DO d cs as xs ep))):∃a:Array DictEntry,jU s.heap d a ep/\a.size=as.length/\a.toList.map (·.key)=as.map Value.ref/\cs.Nodup/\as.length=cs.length/\(d==sysModules)=false:=by
 obtain⟨⟨i,o,a,e1,e2,e3,f,c,hd,b,g,j,e⟩,_⟩:=(show cK H s.heap d (.ext (DO d cs as xs ep)) from I.cJ d _ h)
 refine⟨a,⟨o,f,c,hd⟩,?_,?_,g,?_,e⟩
 ·rw[<- Array.length_toList,b,<- e2,List.length_map,List.length_map]
 ·rw[b,<- e2,List.map_map,List.map_map];rfl
 ·rw[<- e1,<- e2,List.length_map,List.length_map]
end
def Yo(xs:aa):O D:=match one xs with
 |some d=>match eY d with
  |some z=>ok (.lst .ow (z.1.map eI))
  |none=>none
 |none=>none
theorem gg(g:Fl->Fl):∀cs:az,aA g (cs.map eI)=cs.map eI
 |[]=>rfl
 |c::cs=>by
  show aR g (eI c)::aA g (cs.map eI)=_;rw[gg g cs];have:∀c:ae,aA g (c.map D.int)=c.map D.int:=λc=>by
   induction c with
   |nil=>rfl
   |cons i c a=>show D.int i::aA g (c.map D.int)=_;rw[a];rfl
  show D.tup (aA g (c.map D.int))::_=_;rw[this];rfl
theorem GN{N:h_}{k:bt}{a:Addr}{c:ae}(h:T a (c.map V.int)):Rep T N k (.ref a) (eI c):=.tup h (aI.ints c)
theorem xF(P:X.calm=true)(J:X.A.units+2<cLine):gv X (.builtin "sorted") (λxs H Q=>∃(d:Addr) (cs:az) (as:aX) (ys:ah) (ep:Nat),xs=[.ref d]/\H d=some (.ext (DO d cs as ys ep))/\dA (a_ X.K H) as cs/\cs.length<4000 /\
  ∀(l:Addr) (bs:aX),H l=none->dA (a_ X.K H) bs (bx cs)->Q (.ref l) (upd H l (.lst (bs.map V.ref)))):=by
 intro pins s σ H xs us Q I r h;obtain⟨d,cs,as,ys,ep,rfl,hd,w,x,q⟩:=h;obtain⟨u,rfl,z⟩:=r.one;cases z;obtain⟨U,DM,G,v,Y,hlen,Au⟩:=LM I hd;have L:mF s.heap (U.toList.map (·.key)) cs:=by
  rw[v];refine⟨by rw[List.length_map,hlen],λi C e=>?_⟩;have f:i<as.length:=by rw[hlen];exact(List.getElem?_eq_some_iff.mp e).1
  obtain⟨Du,B,D,_⟩:=I.tuple (w.tup i as[i] C (aaH f) e);exact⟨as[i],Du,by rw[List.getElem?_map,List.getElem?_eq_getElem f];rfl,D,eC B⟩
 refine tW (I.ok.hd P) J Au DM (by rw[G,hlen];exact x) Y L λS h' tk e p R OI g N k=>?_;rw[v]at k;have Z:(p.toList.map λi=>(as.map Value.ref).getD i Value.none)=(p.toList.map λi=>as.getD i 0).map Value.ref:=by
  rw[List.map_map];refine aaP λi f=>?_;have t:i<as.length:=by
   have:=List.mem_range.mp (g.pm.mem_iff.mp f);left
  simp[t]
 rw[Z]at k;have W:dA (a_ X.K H) (p.toList.map λi=>as.getD i 0) (bx cs):=by
  rw[<- N];refine⟨by simp,λj a c b n=>?_⟩;rw[List.getElem?_map]at b n;cases m:p.toList[j]? with
  |none=>rw[m]at b;exact nk b
  |some i =>
   rw[m]at b n;have t:i<as.length:=by
    have:=List.mem_range.mp (g.pm.mem_iff.mp (aaJ m));left
   cases b;cases n;exact w.tup i _ _ (by simp[t]) (by simp[show i<cs.length by left])
 have y:∀l:aX,Vals (l.map V.ref) (l.map Value.ref):=λl=>by
  induction l with
  |nil=>exact .nil
  |cons a l E=>exact .cons rfl E
 have M:sizeLine=16777216:=abr;obtain⟨O,I'⟩:=Inv.Q5 (t':=tk) (o:=.lst ((p.toList.map λi=>as.getD i 0).map V.ref)) I OI R ⟨by rw[List.length_map,List.length_map,Array.length_toList,g.sz];left,_,e,y _,k⟩;exact⟨.ref S,_,I',rfl,q S _ O W⟩
def pK(xs:aa):O D:=match one xs with
 |some d=>match eY d with
  |some z=>if z.1.length<4000 then ok (.lst .ow ((bx z.1).map eI))else none
  |none=>none
 |none=>none
theorem AO{r:D}(h:pK xs=ok r):∃f cs vs,xs=[.cn f cs vs]/\cs.length<4000/\r=.lst .ow ((bx cs).map eI):=by
 unfold pK at h;cases b:one xs with
 |none=>rw[b]at h;exact nk h
 |some d =>
  rw[b]at h;have h:(match eY d with|some z=>if z.1.length<4000 then ok (D.lst .ow ((bx z.1).map eI))else none|none=>none)=ok r:=h;cases a:eY d with
  |none=>rw[a]at h;exact nk h
  |some z =>
   rw[a]at h;obtain⟨c,rfl⟩:=sF (show(if z.1.length<4000 then ok (D.lst .ow ((bx z.1).map eI))else none)=ok r from h);obtain⟨f,e⟩:=jn a;exact⟨f,z.1,z.2,by rw[cO b,e],c,rfl⟩
theorem qJ{T:nF}{N:h_}:∀{bs:aX} {cs:az} {k:bt} {n:Nat},dA T bs cs->aI T N k n (bs.map V.ref) (cs.map eI)
 |[],[],_,_,_=>.nil
 |[],_::_,_,_,h=>by have:=h.len;simp at this
 |_::_,[],_,_,h=>by have:=h.len;simp at this
 |b::bs,c::cs,_,_,h=>.cons (GN (h.tup 0 b c rfl rfl)) (qJ ⟨by have:=h.len;simpa using this,λj a f e d=>h.tup (j+1) a f e d⟩)
theorem Ew{n:Nat}(i:Φ n=pK){sc:Scope}{bl:ak}{k:Nat}(L:PX X sc bl k){e:Expr}(he:pQ ("sorted" : Str) sc bl e=some args)(hs:nG X F Φ cs args):PE X e (tD X F Φ (.cS n cs))/\PT X e (ig X F Φ (.cS n cs)):=by
 obtain⟨p,pos,a,rfl,rfl,B,z⟩:=ri he;cases cs with
 |nil=>exact hs.elim
 |cons c cs=>cases cs with
  |cons _ _=>exact hs.2.2.2.elim
  |nil =>
   have s:PA X [a] (tT X F Φ [c]):=PA.imp (cc hs.1 (PA.imp dB λ_ _ _ h=>nM h) (hs.2.1 _)) λ_ _ _ h=>jc h;have u:X.A.units+2<cLine:=aa6 (acA (by decide:2<=64) _) L.room.units;have this:PE X (.Call (.Name ("sorted" : Str) p) [a] [] pos) (tD X F Φ (.cS n [c])):=by
    refine PE.imp (dZ (xF L.calm u) (L.gl B) (L.bl _ z) (by decide +kernel) s (he:=hs.2.1 _)) λσ H Q j=>?_;obtain⟨R,τ,ρ,d,E,g,j⟩:=j;obtain⟨xs,C,g⟩:=aJ g;rw[i]at g;obtain⟨f,t,vs,rfl,x,rfl⟩:=AO g;refine⟨R,τ,ρ,_,E,C,λG M e1 r1=>?_⟩;obtain⟨m,J,r⟩:=r1;obtain⟨v,rfl,q⟩:=r.one;cases q with
    |cn w y I =>
     refine⟨_,t,_,_,_,rfl,w.dat,y,x,λl bs b D=>j _ _ (e1.trans (aL.upd b)) (cI.Ab (e1.free b) (e1.trans (aL.upd b)) aY ?_)⟩;exact qJ (D.imp λ_ _ h=>a_.same (aL.upd b) h)
   exact⟨this,cZ this λ_=>rfl⟩
section
variable {prog:aC}{w:World}{A:aB}{E:au}{s:Shared}
end
section
variable {prog:aC}{w:World}{K:Type}[DecidableEq K]{knd:HeapKind prog w K}{A:aB}{E:au}{s:Shared}
theorem t7{d a:Addr}{xs:List (K×Addr×Value)}{k:K}{v:Value}(q:knd.room A)(i:knd.is s.heap k a)(u:s.heap.DictOfH knd d xs)
  (B:∀p,atKey xs k=some p->Q p.2 { s with toks:=s.toks+knd.draws k })
  (m:atKey xs k=none->∀h',h'.DictOfH knd d (storedH xs k a v)->Heap.SameBut d s.heap h'->Q v { s with heap:=h',toks:=s.toks+knd.draws k })
  (hsz:xs.length<=sizeLine):wpAny (model prog w) A (dictSetDefault d (.ref a) v) Q E s:=by
 obtain⟨o,D,ep,c,z,hd,g,t,l⟩:=u;unfold dictSetDefault
 try with_reducible refine aa9 ?_
 refine aaa (knd.pyHash q i ?_);refine aaa (wpAny_dictFind_heap (s:={ s with toks:=s.toks+knd.draws k }) q i c hd g t l ?_ ?_)
 ·intro f;have C:k∉xs.map (·.1):=not_mem_keys_of_get f;have m:=m (atKey_none_of_get f);refine aaa (abq (aaa (wpAny_updateDictKeys (hz:=by have e:=size_of_entries g;left) (s:={ s with toks:=s.toks+knd.draws k }) c hd (aac (m _ ⟨_,_,ep+1,aa4 _ c (Obj.isFreed_of_dict (Obj.data_mapDictKeys hd _)),
   z.mapDictKeys _,Obj.data_mapDictKeys hd _,?_,?_,?_⟩ (abc ..))))))
  ·rw[storedH_new (atKey_none_of_get f)];simp[g,entryOfKey]
  ·rw[storedH_new (atKey_none_of_get f)];intro x b;rcases List.mem_append.mp b with b|b
   ·exact knd.keeps (t x b) c hd (abc ..)
   ·simp only[List.mem_singleton]at b;subst b;exact knd.keeps i c hd (abc ..)
  ·rw[storedH_new (atKey_none_of_get f)];rw[List.map_append,List.nodup_append];refine⟨l,by simp,?_⟩;intro x b y n;simp only[List.map_cons,List.map_nil,List.mem_singleton]at n;subst n;exact λe=>C (e▸b)
 ·intro j p r;refine aaa (abk (s:={ s with toks:=s.toks+knd.draws k }) c hd ?_);rw[entry_at g j,r];exact aaa (abq (aac (B p (atKey_of_get l r))))
theorem rQ(d a:Addr)(hd:(d==sysModules)=false)(v:Value):
  MeetsIn prog w (Builtin.«dict.setdefault» ⟨[.ref d,.ref a,v],[]⟩) (λA R s=>knd.room A.in1/\∃k xs,knd.is s.heap k a/\s.heap.DictOfH knd d xs/\xs.length<=sizeLine /\
   (∀p,atKey xs k=some p->R (.ok (.ret p.2)) { s with toks:=s.toks+knd.draws k }) /\
   (atKey xs k=none->∀h',h'.DictOfH knd d (storedH xs k a v)->Heap.SameBut d s.heap h'->R (.ok (.ret v)) { s with heap:=h',toks:=s.toks+knd.draws k })) :=
 .of_wp λA R s n=>by
  obtain⟨g,k,xs,c,b,f,m,l⟩:=n;unfold Builtin.«dict.setdefault»;refine aaa ?_;unfold Builtin.Dict.keyAndDefault;refine aaa (acn b.typeIs ?_);show wpAny _ _ (pure (d,Value.ref a,some v)) _ _ s;refine aac ?_;show wpAny _ _ (if (d==sysModules)=true then _ else(dictSetDefault d (.ref a) v >>= _)) _ _ s;rw[if_neg (by rw[hd];exact Bool.false_ne_true)];exact aaa (t7 g c b (λp i=>aac ⟨p.2,rfl,m p i⟩) (λj h' q e=>aac ⟨v,rfl,l j h' q e⟩) f)
end
section
variable {X:Cx}{pins:ao}{σ:St}{H:Hp}{s:Shared}{p b:Addr}{cs:az}{as:aX}{xs:ah}{ep:Nat}{c:ae}{A:aB}{E:au}
end
theorem DH{A:aB}{k:Nat}(a:fY k A):A.units+2<cLine:=aa6 (acA (by decide:2<=64) _) a.units
noncomputable def oO:Fl->Bool
 |.fz=>false
 |_=>true
theorem LK{R A A':ai}{τ':Addr->Option bt}{H:Hp}{k:bt}{v:V}{d:D}(h:Rep (a_ K H) (nd K R A τ H) k v d)(hf:aV oO d=false):Rep (a_ K H) (nd K R A' τ' H) k' v d:=by
 have:=Rep.gen (T':=a_ K H) (N':=nd K R A' τ' H) (g:=id) (P:=oO) (C:=λ_ _=>True) (I:=λ_ _=>True) (λ_ _ h=>h) trivial (λ_ _ e=>e) (λ_ _ _ _ e _=>e) (λk k' p xs f _ a h=>by
  cases f<;>first | (cases a;done)|exact h) h (k':=k') trivial hf
 rw[d_]at this;exact this
def lW:az->aa->ae->D->Option (aa)
 |[],vs,_,d=>if vs.length=0 then some [.lst .ow [d]]else none
 |c'::cs,vs,c,d=>match vs with
  |[]=>none
  |v::vs=>if c'=c then(match yB v with
    |some a=>if a.length<dz then some (.lst .ow (a++[d])::vs)else none
    |none=>none)else(lW cs vs c d).map (v :: ·)
theorem y2{a:Type}{c:ae}:∀{cs:az} {xs:List a},c∉cs->bJ cs xs c=none
 |[],_,_=>by unfold bJ;rfl
 |c'::cs,[],_=>rfl
 |c'::cs,x::xs,h=>by
  show(if c'=c then some x else bJ cs xs c)=none;rw[if_neg (λe:c'=c=>h (e▸List.mem_cons_self)),y2 λz=>h (List.mem_cons_of_mem _ z)]
theorem xV{d:D}:∀{vs:aa} {j n m:Nat},kI (j+m) d (n+m) vs=kI j d n vs
 |[],_,_,_=>rfl
 |v::vs,j,n,m=>by
  show(if n+m=j+m then d else v)::kI (j+m) d (n+m+1) vs=(if n=j then d else v)::kI j d (n+1) vs;rw[show n+m+1=n+1+m by left,xV];by_cases e:n=j
  ·rw[if_pos e,if_pos (by left)]
  ·rw[if_neg e,if_neg (by left)]
theorem Bw{d:D}:∀{vs:aa} {j n:Nat},j<n->kI j d n vs=vs
 |[],_,_,_=>rfl
 |v::vs,j,n,h=>by
  show(if n=j then d else v)::kI j d (n+1) vs=_;rw[if_neg (by left),Bw (by left)]
theorem rR{c:ae}{d:D}:∀{cs:az} {vs ws:aa},lW cs vs c d=some ws->(c∉cs/\cs.length=vs.length/\ws=vs++[.lst .ow [d]])\/∃j a,vs[j]?=some (.lst .ow a)/\a.length<dz/\c∈cs/\(∀(xs:ah),xs.length=vs.length->bJ cs xs c=xs[j]?)/\ws=kI j (.lst .ow (a++[d])) 0 vs
 |[],vs,ws,h=>by
  unfold lW at h;by_cases g:vs.length=0
  ·rw[if_pos g]at h;cases h;obtain rfl:=List.length_eq_zero_iff.mp g;exact .inl ⟨by simp,rfl,rfl⟩
  ·rw[if_neg g]at h;exact nk h
 |c'::cs,[],ws,h=>nk h
 |c'::cs,v::vs,ws,h=>by
  have h:(if c'=c then(match yB v with|some a=>if a.length<dz then some (D.lst .ow (a++[d])::vs)else none|none=>none)else(lW cs vs c d).map (v :: ·))=some ws:=h;by_cases e:c'=c
  ·rw[if_pos e]at h;cases b:yB v with
   |none=>rw[b]at h;exact nk h
   |some a =>
    rw[b]at h;have h:(if a.length<dz then some (D.lst .ow (a++[d])::vs)else none)=some ws:=h;by_cases i:a.length<dz
    ·rw[if_pos i]at h;cases h;refine .inr ⟨0,a,by rw[sf b];rfl,i,e▸aaf,λxs f=>?_,?_⟩
     ·cases xs with
      |nil=>cases f
      |cons x xs=>exact aa2 e
     ·show _=(if 0=0 then _ else v)::kI 0 _ 1 vs;rw[if_pos rfl,Bw (by left)]
    ·rw[if_neg i]at h;exact nk h
  ·rw[if_neg e]at h;obtain⟨p,b,rfl⟩:=Option.map_eq_some_iff.mp h;rcases rR b with ⟨l,k,rfl⟩|⟨j,a,l,k,n,m,rfl⟩
   ·exact .inl ⟨λz=>(List.mem_cons.mp z).elim (λq=>e q.symm) l,by rw[List.length_cons,List.length_cons,k],rfl⟩
   ·refine .inr ⟨j+1,a,l,k,aad _ n,λxs f=>?_,?_⟩
    ·cases xs with
     |nil=>cases f
     |cons x xs =>
      show(if c'=c then some x else bJ cs xs c)=_;rw[if_neg e,m xs (Nat.succ.inj f)];rfl
    ·show _=(if 0=j+1 then _ else v)::kI (j+1) _ (0+1) vs;rw[if_neg (by left),xV]
def YY(e:Expr):Option (Expr×Expr):=(rH e).bind λz=>(xU z.1).bind λy=>(two z.2.1).bind λw=>(K5 w.2).bind λl =>
 if y.2.1=("setdefault" : Str)/\z.2.2.1.isEmpty=true/\(y.2.2.endLine==z.2.2.2.line)=true/\l.isEmpty=true then some (y.1,w.1)else none
theorem K2{e k:Expr}(h:YY e=some (o,k)):∃p1 p2 d,e=.Call (.Attribute o ("setdefault" : Str) p1) [k,.List [] d] [] p2/\(p1.endLine==p2.line)=true:=by
 obtain⟨⟨f,as,q,p2⟩,m,h⟩:=bT h;obtain⟨⟨n,p,p1⟩,j,h⟩:=bT h;obtain⟨⟨a,b⟩,i,h⟩:=bT h;obtain⟨l,g,h⟩:=bT h;obtain⟨c,h⟩:=gT h;cases h;obtain rfl:=lS m;obtain rfl:=oD j;obtain rfl:=gx i;obtain⟨d,rfl⟩:=xR g;obtain rfl:=CZ c.2.1;obtain rfl:=CZ c.2.2.2;obtain rfl:=c.1;exact⟨p1,p2,d,rfl,c.2.2.1⟩
def xu(_:Scope)(_:ak)(st:Stmt):Option (Expr×aq):=(oB ("append" : Str) st).bind λz=>(one z.2).bind λe=>(YY z.1).bind λy=>some (y.1,[y.2,e])
theorem AS{sc:Scope}{bl:ak}(h:xu sc bl st=some (o,args)):∃k e p1 p2 c a d pos,args=[k,e]/\st=.Expr (.Call (.Attribute (.Call (.Attribute o ("setdefault" : Str) p1) [k,.List [] d] [] p2) ("append" : Str) c) [e] [] a) pos/\(p1.endLine==p2.line)=true/\(c.endLine==a.line)=true:=by
 obtain⟨⟨b,as⟩,l,h⟩:=bT h;obtain⟨e,j,h⟩:=bT h;obtain⟨⟨m,k⟩,i,h⟩:=bT h;cases h;obtain rfl:=cO j;obtain⟨p1,p2,d,rfl,g⟩:=K2 i;obtain⟨c,a,pos,rfl,f⟩:=i_ l;exact⟨k,e,p1,p2,c,a,d,pos,rfl,rfl,g,f⟩
variable {kd:D}
set_option tactic.hygienic true in
theorem Mi{n i:Nat}{d:D}{r:Fo×bo}(h:C0 Φ n i ρ kd d=ok r):∃x a,ρ[i]?=some (some x)/\aV anyF kd=false/\aV anyF d=false/\Φ n [x,kd,d]=ok a/\r=(.nx,ρ.set i (some a)):=by
 unfold C0 at h;split at h
 ·rename_i x c;split at h
  ·rename_i b;obtain⟨a,f,e⟩:=aJ h;cases e;exact⟨x,a,c,b.1,b.2,f,rfl⟩
  ·cases h
 ·cases h
section
variable {X:Cx}{F R:ai}{τ:Addr->Option bt}{ρ:bo}{σ:St}{H:Hp}
theorem SI.drop(i:Nat)(S:SI X F R τ ρ σ H):SI X F R τ (ρ.set i none) σ H:=by
 refine⟨by simp[S.len],λj d a=>?_,S.rt,S.rh,S.rf,S.th,S.t0,S.same⟩;have b:i≠j:=by
  rintro rfl;by_cases h:i<ρ.length
  ·rw[List.getElem?_set_self h]at a;cases a
  ·rw[List.getElem?_eq_none (by rw[List.length_set];left)]at a;cases a
 rw[List.getElem?_set_ne b]at a;exact S.rep j d a
end
section
variable {X:Cx}{pins:ao}{σ:St}{H:Hp}{s:Shared}{p b:Addr}{cs:az}{as:aX}{xs:ah}{ep:Nat}{c:ae}{A:aB}{E:au}
theorem Ex{r:Value}{v:V}{t:Nat}{zs:List (ae×Addr×Value)}(I:Inv X pins σ H s)(h:H p=some (.ext (DO p cs as xs ep)))(e1:zs.map (·.1)=cs)(e2:zs.map (·.2.1)=as)(e3:Vals xs (zs.map (·.2.2)))(M:cs.length<sizeLine)(hs:(p==sysModules)=false)(f:RelV v r)
  (dd:h'.DictOfH (tupleKind (intKind X.prog X.w)) p (storedH zs c b r)) (sb:Heap.SameBut p s.heap h'):∃d,Inv X pins σ (upd H p (.ext (DO p (ba cs c) (mE cs as c b) (bI cs xs c v) d))) { s with heap:=h',toks:=t }:=by
 obtain⟨q,L,d,e,n,m,l,_,k⟩:=dd;refine⟨d,I.write (x:=p) (by rw[h];exact True.intro) (λb q j z=>(sb.2 b j).trans z) ⟨q,e⟩ ⟨⟨storedH zs c b r,q,L,?_,?_,?_,e,n,m,l,?_,?_,hs⟩,⟨q,e⟩,?_⟩⟩
 ·rw[fZ,e1]
 ·rw[mL,e1,e2]
 ·rw[mK,e1];exact tJ e3 f
 ·rw[<- e1,<- fZ (zs:=zs) (c:=c) b r];exact k
 ·unfold ba;split
  ·left
  ·rw[List.length_append,List.length_singleton];left
 ·rintro N O ⟨J,g,a,G,C,B,y,u⟩ i;exact⟨J,g,a,G,C,B,i _ y,u⟩
theorem AN{z:V}{r:Value}(S:A.units+2<cLine)(I:Inv X pins σ H s)(h:H p=some (.ext (DO p cs as xs ep)))(k:dA (a_ X.K H) as cs)(G:a_ X.K H b (c.map V.int))(u:RelV z r)(M:cs.length<sizeLine)
  (L:∀v i d,bJ cs xs c=some v->Inv X pins σ H d->RelV v i->Q i d)
  (J:c∉cs->∀g d,Inv X pins σ (upd H p (.ext (DO p (ba cs c) (mE cs as c b) (bI cs xs c z) g))) d->Q r d) :
  wpAny (model X.prog X.w) A (call (.builtin "dict.setdefault") [.ref p,.ref b,r]) Q E s:=by
 obtain⟨a,o,W,e1,e2,e3,U,R,hd,m,_,l,j⟩:=lD I h k;have x:a.length<=sizeLine:=by rw[<- e1,List.length_map]at l;exact l
 refine call_meetsIn PySem.F.slot_dict_setdefault m.typeIs PySem.F.entry_dict_setdefault (PySem.F.args_dict_setdefault_3 _ _ _) (rQ (knd:=tupleKind (intKind X.prog X.w)) p b j r) ⟨abT (by left),c,a,l8 I G,m,x,λq y=>?_,λB h' N n=>?_⟩
 ·have e:=iZ (cs:=cs) e3 c;have:(atKey a c).map (·.2)=bJ cs (a.map (·.2.2)) c:=by rw[hJ,e1]
  rw[y]at this;rw[<- this]at e;cases f:bJ cs xs c with
  |none=>rw[f]at e;exact e.elim
  |some v=>rw[f]at e;exact L v _ _ f (I.tok _) e
 ·have O:c∉cs:=λC=>by
   have:=(dU a c).mpr (by rw[e1];exact C);rw[B]at this;cases this
  obtain⟨g,P⟩:=Ex (t:=s.toks+(tupleKind (intKind X.prog X.w)).draws c) I h e1 e2 e3 M j u N n;exact J O g _ P
end
theorem LY{x:Str}{p:Pos}{a b:Expr}(M:X.A.units+2<cLine)(N:PE X (.Name x p) td)(U:PA X [a,b] ta)(n:∀e,starEach (a::e) X.env=(false,eval a X.env)::starEach e X.env)(s2:∀e,starEach (b::e) X.env=(false,eval b X.env)::starEach e X.env)(P:(p1.endLine==p2.line)=true):
  PE X (.Call (.Attribute (.Name x p) ("setdefault" : Str) p1) [a,b] [] p2) (λσ H Q=>td σ H λv f=>∃q cs as xs ep,v=.ref q/\f q=some (.ext (DO q cs as xs ep))/\ta σ f λm d=>∃k c z,m=[.ref k,z]/\d q=some (.ext (DO q cs as xs ep))/\dA (a_ X.K d) as cs/\a_ X.K d k (c.map V.int)/\cs.length<sizeLine/\(∀u,bJ cs xs c=some u->Q u d)/\(c∉cs->∀g,Q z (upd d q (.ext (DO q (ba cs c) (mE cs as c k) (bI cs xs c z) g))))):=by
 intro pins s σ H Q I h;refine acN rfl (by rw[n,s2];rfl) P acb PySem.F.slot_dict_setdefault PySem.F.type_dict_setdefault (dF (N pins s σ H _ I h) λu VJ j=>?_);obtain⟨v,f,w,B,q,cs,as,xs,ep,Y,hd,q1⟩:=j;subst Y;obtain rfl:u=Value.ref q:=B;obtain⟨t1,t2⟩:=dict_cls w hd;refine⟨t1,t2,?_⟩;have r:=U p2 pins VJ σ f _ w q1;rw[n]at r ⊢;refine abV (by show(false||(backTo p2 (starEach [b] X.env)).any (·.1))=false;rw[s2];rfl) (abZ ?_);refine dF r λus s3 j=>?_;obtain⟨m,d,I2,E,k,c,z,W,i,R,S,Z,J,G⟩:=j;subst W;obtain⟨w1,w2,rfl,VL,t⟩:=vals2 E;cases VL;exact AN M I2 i R S t Z (λv w' y L l C=>⟨v,d,l,C,J v L⟩) λO g y l=>⟨z,_,l,t,G O g⟩
theorem xY{N:h_}{k:bt}{v:V}{d:D}{c:ae}(a:keyOf d=some c)(r:Rep T N k v d):∃b,v=.ref b/\T b (c.map V.int):=by
 rw[kW a]at r;obtain⟨b,xs,rfl,e,r1⟩:=r.F1;cases r1.ofInts;exact⟨b,rfl,e⟩
def xk(xs:aa):O D:=match two xs with
 |some z=>match eY z.1 with
  |some d=>match keyOf z.2 with
   |some c=>match bJ d.1 d.2 c with
    |some v=>if aV oO v=false then ok v else none
    |none=>none
   |none=>none
  |none=>none
 |none=>none
theorem Iv{r:D}(h:xk xs=ok r):∃f cs vs c kd,xs=[.cn f cs vs,kd]/\keyOf kd=some c/\bJ cs vs c=some r/\aV oO r=false:=by
 unfold xk at h;cases g:two xs with
 |none=>rw[g]at h;cases h
 |some z =>
  rw[g]at h;have h:(match eY z.1 with|some d=>(match keyOf z.2 with|some c=>(match bJ d.1 d.2 c with|some v=>if aV oO v=false then ok v else none|none=>none)|none=>none)|none=>none)=ok r:=h;cases e:eY z.1 with
  |none=>rw[e]at h;cases h
  |some d =>
   rw[e]at h;have h:(match keyOf z.2 with|some c=>(match bJ d.1 d.2 c with|some v=>if aV oO v=false then ok v else none|none=>none)|none=>none)=ok r:=h;cases b:keyOf z.2 with
   |none=>rw[b]at h;cases h
   |some c =>
    rw[b]at h;have h:(match bJ d.1 d.2 c with|some v=>if aV oO v=false then ok v else none|none=>none)=ok r:=h;cases a:bJ d.1 d.2 c with
    |none=>rw[a]at h;cases h
    |some v =>
     rw[a]at h;obtain⟨i,rfl⟩:=sF (show(if aV oO v=false then ok v else none)=ok r from h);obtain⟨f,e1⟩:=jn e;exact⟨f,d.1,d.2,c,z.2,by rw[gx g,e1],b,a,i⟩
def LN(K:av):R2:=λx y H Q=>∃p b cs as xs ep c v,x=.ref p/\y=.ref b/\H p=some (.ext (DO p cs as xs ep))/\dA (a_ K H) as cs/\a_ K H b (c.map V.int)/\bJ cs xs c=some v/\Q v H
theorem Dx(G:X.A.units+2<cLine):Jp X (LN X.K):=by
 intro value slice pins s σ H x y v u Q I j i h l;obtain⟨p,b,cs,as,xs,ep,c,w,rfl,rfl,m,n,z,t,q⟩:=h;cases j;cases i;obtain⟨f,o,M,e1,e2,e3,J,E,hd,d,_,L,N⟩:=lD I m n;have e:=iZ (cs:=cs) e3 c;rw[t]at e;obtain⟨u,C,k⟩:=qu.some_of e;have:(atKey f c).map (·.2)=some u:=by rw[hJ,e1];exact C
 obtain⟨a,B,rfl⟩:=Option.map_eq_some_iff.mp this;exact abU (x:=a.2) d.typeIs PySem.F.slot_dict_getitem.lookup
  (wpAny_getItem_heap (knd:=tupleKind (intKind X.prog X.w)) (Q:=λr g=>r=a.2/\EP X pins σ Q r g) (abT (by left)) (l8 I z) d B ⟨rfl,w,H,I.tok _,k,q⟩) l
theorem NQ{n:Nat}(i:Φ n=xk){sc:Scope}{bl:ak}{k:Nat}(L:PX X sc bl k){e:Expr}(he:mC sc bl e=some args)(hs:nG X F Φ cs args):PE X e (tD X F Φ (.cS n cs))/\PT X e (ig X F Φ (.cS n cs)):=by
 unfold mC at he;cases l:tL e with
 |none=>rw[l]at he;cases he
 |some z =>
  rw[l]at he;cases he;obtain⟨pos,rfl⟩:=jy l;obtain⟨⟨s,r,rfl,p1,p2⟩,_⟩:=kc hs;have this:PE X (.Subscript z.1 z.2 pos) (tD X F Φ (.cS n [s,r])):=by
   refine PE.imp (yw (Dx (DH L.room)) p1 p2 hs.2.2.2.2.2.1) λσ H Q j=>?_;obtain⟨R,τ,ρ,d,t,g,j⟩:=j;obtain⟨xs,a,g⟩:=aJ g;rw[i]at g;obtain⟨f,cs,vs,c,kd,rfl,W,p,N⟩:=Iv g;obtain⟨x,V,a⟩:=aJ a;obtain⟨ys,C,a⟩:=aJ a;obtain⟨y,U,Y⟩:=aJ C;cases Y;cases a;refine tD.intro t V λv H1 e1 r1=>tD.intro (t.go e1) U λu Z e2 E=>?_;obtain⟨B,f1,q1⟩:=r1;obtain⟨A,f2,G⟩:=E;obtain⟨b,rfl,O⟩:=xY W G;cases q1 with
   |cn J M I =>
    rcases kO I c with ⟨_,m⟩|⟨w,d',k',S,q,P,_⟩
    ·rw[p]at m;cases m
    ·rw[p]at q;cases q;refine⟨_,b,_,_,_,_,c,w,rfl,rfl,e2 _ _ J.dat,M.imp λ_ _ h=>a_.same e2 h,O,S,j w Z (e1.trans e2) ⟨λ_=>none,λ_ _ h=>by simp at h,?_⟩⟩;exact(LK (A':=j0 (gP X F) τ (iX (.cS n [s,r]))) (τ':=λ_=>none) (k':=[]) P N).imp (λ_ _ h=>a_.same e2 h) λ_ _ _ _ h=>nd.same e2 h
  exact⟨this,cZ this λ_=>rfl⟩
def wg(xs:aa):O D:=match three xs with
 |some z=>match z.1 with
  |.cn f cs vs=>match keyOf z.2.1 with
   |some c=>match lW cs vs c z.2.2 with
    |some a=>if cz f=true/\cs.length<dz then ok (.cn .ow (ba cs c) a)else none
    |none=>none
   |none=>none
  |_=>none
 |none=>none
set_option tactic.hygienic true in
theorem Gd{x d r:D}(h:wg [x,kd,d]=ok r):∃cs vs c a,x=.cn .ow cs vs/\keyOf kd=some c/\lW cs vs c d=some a/\cs.length<dz/\r=.cn .ow (ba cs c) a:=by
 cases x<;>first|exact nk h | (cases h;done)|skip
 rename_i f cs vs;replace h:(match keyOf kd with|some c=>(match lW cs vs c d with|some a=>if cz f=true/\cs.length<dz then ok (D.cn .ow (ba cs c) a)else none|none=>none)|none=>none)=ok r:=h;cases e:keyOf kd with
 |none=>rw[e]at h;exact nk h
 |some c =>
  rw[e]at h;replace h:(match lW cs vs c d with|some a=>if cz f=true/\cs.length<dz then ok (D.cn .ow (ba cs c) a)else none|none=>none)=ok r:=h;cases b:lW cs vs c d with
  |none=>rw[b]at h;exact nk h
  |some a =>
   rw[b]at h;obtain⟨⟨i,g⟩,rfl⟩:=sF (show(if cz f=true/\cs.length<dz then ok (D.cn .ow (ba cs c) a)else none)=ok r from h);cases f<;>first | (cases i;done)|exact⟨cs,vs,c,a,rfl,rfl,b,g,rfl⟩
section
variable {X:Cx}{F R:ai}{τ:Addr->Option bt}{ρ:bo}{σ:St}{H:Hp}
theorem SI.YB{i j:Nat}{cs:az}{vs gs:aa}{d:D}{u:V}{p q:Addr}{xs:ah}(l:SI X F R τ ρ σ H)(E:ρ[i]?=some (some (.cn .ow cs vs)))(B:σ[i]?=some (some (.ref q)))(C:H q=some (.ext (DO q cs as xs ep)))(r:τ q=some [i])(G:dA (a_ X.K H) as cs)
  (t:aI (a_ X.K H) (nd X.K R (λ_=>False) τ H) [i] 0 xs vs) (x:xs[j]?=some (.ref p)) (I:vs[j]?=some (.lst .ow gs)) {N:h_} {k:bt} (A:Rep (a_ X.K H) N k u d) (hf:aV anyF d=false) :
  ∃e,H p=some (.lst e)/\e.length=gs.length/\τ p=some [j,i]/\SI X F R τ (ρ.set i (some (.cn .ow cs (kI j (.lst .ow (gs++[d])) 0 vs)))) σ (upd H p (.lst (e++[u]))):=by
 obtain⟨w,hw,v⟩:=t.get I;rw[Nat.zero_add]at v;rw[x]at hw;cases hw;cases v with
 | @lst _ _ e _ _ b s =>
 refine⟨e,b.1,s.length,b.2,l.Yt E b.1 b.2 B (.cn (as:=as) (ep:=ep) (xs:=xs) (l.Ou (n:=.d cs as xs ep) (f:=.ow) b.1 b.2 (λz=>?_) ⟨C,r⟩) (G.imp λ_ _ h=>f_ b.1 h) (aI.kI (λ_ _ h=>f_ b.1 h) (λc m a n f g h=>l.Ou b.1 b.2 (λz=>?_) h) t λm w y g=>?_))⟩
 ·have:=aa5 List.length z;simp at this
 ·have:=aa5 List.reverse z;simp at this;exact g this.1
 ·rw[Nat.zero_add]at g;subst g;rw[x]at y;cases y;refine .lst ⟨aY,b.2⟩ (aI.yf (aI.child (λ_ _ h=>f_ b.1 h) (λc n a J f h=>l.Ou b.1 b.2 (λz=>?_) h) s) ((jC (N':=nd X.K R (λ_=>False) τ (upd H p (.lst (e++[u])))) A hf).imp (q:=(0+gs.length)::[m,i]) (λ_ _ h=>f_ b.1 h) λ_ _ _ _ h=>h))
  ·have:=aa5 List.length z;simp at this
end
theorem K9{n:Nat}(hΦ:Φ n=wg){sc:Scope}{bl:ak}{k:Nat}(L:PX X sc bl k)(hN:X.N.Nodup)(md:∀x,X.fn x=true){x:Str}(he:xu sc bl st=some (.Name x pos,args))
  {i:Nat} (hi:X.N[i]?=some x) (hl:L2.Loc X.env.scope x) (pe:PE X (.Name x pos) (jP i)) {c1 c2:CE} (hs:nG X F Φ [c1,c2] args):PS X st (kD X F Φ (.mu2 n i c1 c2)):=by
 obtain⟨ke,ve,p1,p2,p3,p4,pl,pos',rfl,rfl,Bb,vT⟩:=AS he;obtain⟨⟨a1,a2,e0,h1,h2⟩,_,s1,s2⟩:=kc hs;cases e0;refine PS.imp (iq (CD abI ab7 PySem.F.type_list_append qP (LY (DH L.room) pe (cc h1 (cc (se dB) dB) (s1 _)) s1 (λ_=>rfl) Bb) (cc h2 dB (s2 _)) (hfew:=by rw[s2];rfl) (hline:=vT) (hs:=s2 _))) λD σ H hq=>?_;obtain⟨R,τ,ρ,r,s,G,hq⟩:=hq;obtain⟨kd,ekd,G⟩:=aJ G;obtain⟨d,ed,G⟩:=aJ G;obtain⟨x0,x',B,hfk,hfd,yQ,rfl⟩:=Mi G;rw[hΦ]at yQ;obtain⟨cs,vs,c,ws,rfl,hkc,ZN,sJ,rfl⟩:=Gd yQ;obtain⟨q,as,xs,ep,hv,hd,ht,hk,g⟩:=s.L6 B;have hc0:dz=1000000:=rfl;have DF:sizeLine=16777216:=abr;have OJ:i<ρ.length:=by
  by_cases z:i<ρ.length
  ·exact z
  ·rw[List.getElem?_eq_none (by left)]at B;cases B
 have fin:∀{H':Hp} {τ':Addr->Option bt} {ρ1:bo} {t:az} {YA:aX} {U:ah} {I:Nat} {vs1 gs:List DI.D} {j:Nat} {u:V},SI X F R τ' ρ1 σ H'->Kp R H R H'->ρ1[i]?=some (some (.cn .ow t vs1))->ρ1.set i none=ρ.set i none->vs1[j]?=some (.lst .ow gs)->gs.length<dz->t=ba cs c->ws=kI j (.lst .ow (gs++[d])) 0 vs1 ->
   H' q=some (.ext (DO q t YA U I))->τ' q=some [i]->dA (a_ X.K H') YA t->aI (a_ X.K H') (nd X.K R (λ_=>False) τ' H') [i] 0 U vs1->U[j]?=some u->Tx X.K "list" u H'/\BJ (tD X F Φ c2) Ld σ H' λxs H2=>yo u xs H2 λ_ H3=>D.nx σ H3:=by
  intro H' τ' ρ1 t YA U I vs1 gs j u fW kp Kf Rl hj hg ek ew HV Rj HQ nS ZL;have J:=fW.drop i;rw[Rl]at J;obtain⟨w,hw,iW⟩:=nS.get hj;rw[ZL]at hw;cases hw;obtain⟨l,zs,rfl,O,rz⟩:=iW.tH;refine⟨⟨rfl,_,dW.of O.1⟩,tD.intro J ed λy H3 e3 r3=>?_⟩;obtain⟨Y,f3,q3⟩:=r3;obtain⟨Z,C,g5,g6,M⟩:=(fW.go e3).YB Kf hv (e3 _ _ HV) Rj (HQ.imp λ_ _ h=>a_.same e3 h) (nS.imp (λ_ _ h=>a_.same e3 h) λ_ _ _ _ h=>nd.same e3 h) ZL hj q3 hfd;refine⟨l,Z,y,rfl,rfl,C,by left,?_⟩;have er:ρ1.set i (some (.cn .ow t (kI j (.lst .ow (gs++[d])) 0 vs1)))=ρ.set i (some (.cn .ow (ba cs c) ws)):=by
   rw[ek,<- ew];have:=aa5 (λz:bo=>z.set i (some (.cn .ow (ba cs c) ws))) Rl;simpa using this
  rw[er]at M;exact hq σ _ R τ' M (kp.trans (kf (n:=.l _) (fW.go e3) e3 (λ_ h=>h) C g6))
 refine⟨.ref q,hv,q,cs,as,xs,ep,rfl,hd,tD.intro s ekd λu f e1 ru=>⟨by simp,λl O=>?_⟩⟩;obtain⟨τ1,f1,r1⟩:=ru;obtain⟨b,rfl,hb⟩:=xY hkc r1;have e2:aL f (upd f l (.lst [])):=aL.upd O;have e:=e1.trans e2;have vF:=s.go e;have S:=hk.imp λ_ _ h=>a_.same e h;have Xl:a_ X.K (upd f l (.lst [])) b (c.map V.int):=a_.same e2 hb;have LI:aI (a_ X.K (upd f l (.lst []))) (nd X.K R (λ_=>False) τ (upd f l (.lst []))) [i] 0 xs vs:=g.imp (λ_ _ h=>a_.same e h) λ_ _ _ _ h=>nd.same e h;refine⟨b,c,.ref l,rfl,e _ _ hd,S,Xl,by left,λw hw=>?_,λhn lB=>?_⟩
 ·rcases rR ZN with ⟨W,_,_⟩|⟨j,gs,g1,g2,g3,C,g5⟩
  ·rw[y2 W]at hw;exact nk hw
  ·rw[C xs g.length]at hw;exact fin vF (Kp.of e λ_ h=>h) B rfl g1 g2 (by unfold ba;rw[if_pos g3]) g5 (e _ _ hd) ht S LI hw
 ·rcases rR ZN with ⟨W,hlen,hws⟩|⟨j,gs,g1,g2,g3,C,g5⟩
  ·have p:H l=none:=e1.free O;have hlq:l≠q:=λz=>by rw[z,hd]at p;cases p
   have rk:js X R τ (upd f l (.lst [])) (.ref l) (.lst .ow []):=⟨λa=>if a=l then some []else none,λa z hz=>by
    by_cases ha:a=l
    ·subst ha;refine⟨?_,λhr=>s.rh a hr p,?_,by rw[aY];simp⟩
     ·cases Wz:τ a with
      |none=>rfl
      |some z=>exact absurd p (s.th a z Wz)
     ·cases P:X.H₀ a with
      |none=>rfl
      |some o=>rw[s.same a o P]at p;cases p
    ·simp[ha]at hz,.lst ⟨aY,by simp⟩ .nil⟩
   have A:eG (upd f l (.lst [])) q (.d cs as xs ep):=e _ _ hd;have ekc:ba cs c=cs++[c]:=by unfold ba;rw[if_neg W]
   have E:bI cs xs c (.ref l)=xs++[.ref l]:=by unfold bI;rw[if_neg W]
   obtain⟨Y,Ob,ht3,rs3⟩:=vF.Qz (m:=vs.length) (n':=.d (ba cs c) (mE cs as c b) (bI cs xs c (.ref l)) lB) (o:=.ext (DO q (ba cs c) (mE cs as c b) (bI cs xs c (.ref l)) lB)) (d1:=.cn .ow (ba cs c) (vs++[.lst .ow []])) (xs':=bI cs xs c (.ref l)) (ds':=vs++[.lst .ow []]) B hv A ht LI rk aY
    (λhN r=>.cn hN (oZ (S.imp λ_ _ h=>lT A h) (lT A Xl)) r) (λg r=>by have h:=aI.yf g (by simpa using r);rw[<- E]at h;exact h)
   refine fin (vs1:=vs++[.lst .ow []]) (gs:=[]) (j:=vs.length) Ob (kf vF e (λ_ h=>h) A ht) (by rw[List.getElem?_set_self OJ]) (by simp) (by simp) (by simp;left) rfl ?_ aY ht3 (oZ (S.imp λ_ _ h=>lT A h) (lT A Xl)) rs3 (by rw[E,List.getElem?_append_right (by rw[g.length];exact Nat.le_refl _),g.length];simp);rw[hws];have:∀(vs:List DI.D) (n:Nat),kI (n+vs.length) (.lst .ow [d]) n (vs++[.lst .ow []])=vs++[.lst .ow [d]]:=λvs=>by
    induction vs with
    |nil=>intro n;show(if n=n+0 then _ else _)::kI _ _ _ []=_;rw[if_pos (by left)];rfl
    |cons v vs ih =>
     intro n;show(if n=n+(vs.length+1)then _ else v)::kI (n+(vs.length+1)) _ (n+1) (vs++[.lst .ow []])=_;rw[if_neg (by left),show n+(vs.length+1)=n+1+vs.length by left,ih];rfl
   have P:=this vs 0;rw[Nat.zero_add]at P;exact P.symm
  ·exact absurd g3 hn
end DI
end
section
namespace DI
open PySem PySem.Spec PyProof.Rows L2
open AutoSeq1 (wpAny_loadPart')
section
variable {prog:aC}{w:World}{A:aB}{E:au}{s:Shared}
end
end DI
end
section
namespace DI
open PySem (Str)
section
variable {α β:Type}
@[simp]theorem cQ(a:α)(f:α->O β):bd (ok a) f=f a:=rfl
@[simp]theorem UN(c:Nat)(f:α->O β):bd (some (.error c)) f=some (.error c):=rfl
noncomputable def KG(f:α->O β)(x:O α):O β:=bd x f
@[simp]theorem YC(f:α->O β)(a:α):KG f (ok a)=f a:=rfl
@[simp]theorem UQ(f:α->O β)(c:Nat):KG f (some (.error c))=some (.error c):=rfl
end
def SW(op:Jr)(x y:O D):O D:=bd x λx=>bd y λy=>cW op x y
@[simp]theorem UM(op:Jr)(x y:D):SW op (ok x) (ok y)=cW op x y:=rfl
def SF(op:Bm)(x y:O D):O D:=bd x λx=>bd y λy=>iD op x y
@[simp]theorem UK(op:Bm)(x y:D):SF op (ok x) (ok y)=iD op x y:=rfl
def ZE(x y:O D):O D:=bd x λx=>bd y λy=>vQ x y
@[simp]theorem Wc(x y:D):ZE (ok x) (ok y)=vQ x y:=rfl
def QM(x:O D):O D:=bd (bd x iT) λb=>ok (.bl (!b))
@[simp]theorem Uc(b:Bool):QM (ok (.bl b))=ok (.bl (!b)):=rfl
@[simp]theorem PH(b:Bool):iT (.bl b)=ok b:=rfl
def wj(x:O D):O Bool:=bd x iT
@[simp]theorem Tz(b:Bool):wj (ok (.bl b))=ok b:=rfl
@[simp]theorem PF(c:Nat):wj (some (.error c))=some (.error c):=rfl
def ZF(t:Ty)(x:O D):O D:=bd x λx=>ok (.bl (du t x))
@[simp]theorem Wk(t:Ty)(x:D):ZF t (ok x)=ok (.bl (du t x)):=rfl
def EU(m:aE)(xs:O (aa)):O D:=bd xs λxs=>bd (m (aA aZ xs)) λr=>ok (aR gU r)
def XR(x:O D):O D:=bd x λr=>ok (aR gU r)
@[simp]theorem XQ(r:D):XR (ok r)=ok (aR gU r):=rfl
@[simp]theorem Uy(c:Nat):XR (some (.error c))=some (.error c):=rfl
@[simp]theorem SQ(m:aE)(xs:aa):EU m (ok xs)=XR (m (aA aZ xs)):=rfl
@[simp]theorem OZ(m:aE)(c:Nat):EU m (some (.error c))=some (.error c):=rfl
noncomputable def zk(x:O D)(xs:O (aa)):O (aa):=bd x λx=>bd xs λxs=>ok (x::xs)
@[simp]theorem SE(x:D)(xs:aa):zk (ok x) (ok xs)=ok (x::xs):=rfl
@[simp]theorem OX(c:Nat)(xs:O (aa)):zk (some (.error c)) xs=some (.error c):=rfl
@[simp]theorem N0(x:D)(c:Nat):zk (ok x) (some (.error c))=some (.error c):=rfl
noncomputable def Q_(x:O Bool)(a b:O D):O D:=bd x λk=>if k then a else b
@[simp]theorem Wi(a b:O D):Q_ (ok true) a b=a:=rfl
@[simp]theorem Wj(a b:O D):Q_ (ok false) a b=b:=rfl
def Jl(x y:O D):O D:=bd (bd x iT) λc=>if c then y else ok (.bl false)
@[simp]theorem YD(y:O D):Jl (ok (.bl true)) y=y:=rfl
@[simp]theorem YE(y:O D):Jl (ok (.bl false)) y=ok (.bl false):=rfl
@[simp]theorem YF(a b:Bool):Jl (ok (.bl a)) (ok (.bl b))=ok (.bl (a&&b)):=by cases a<;>rfl
def T_(x y:O D):O D:=bd (bd x iT) λc=>if c then ok (.bl true)else y
@[simp]theorem Zf(y:O D):T_ (ok (.bl true)) y=ok (.bl true):=rfl
@[simp]theorem Zg(y:O D):T_ (ok (.bl false)) y=y:=rfl
@[simp]theorem Zh(a b:Bool):T_ (ok (.bl a)) (ok (.bl b))=ok (.bl (a||b)):=by cases a<;>rfl
def Dl(x:O D):O D:=bd (bd x iT) λc=>ok (.bl c)
@[simp]theorem Q4(c:Bool):Dl (ok (.bl c))=ok (.bl c):=rfl
@[simp]theorem Qd(d:D):yg (some (some d))=ok (aR bp d):=rfl
section
variable (Φ:bh)(ρ:bo)
@[simp]theorem aau:bz Φ .cF ρ=ok .cF:=rfl
@[simp]theorem adn(b:Bool):bz Φ (.bl b) ρ=ok (.bl b):=rfl
@[simp]theorem Ks(i:Int):bz Φ (.int i) ρ=ok (.int i):=rfl
@[simp]theorem aaz(x:Str)(i:Int):bz Φ (.glo x i) ρ=ok (.int i):=rfl
@[simp]theorem e_v(i:Nat):bz Φ (.v i) ρ=yg ρ[i]?:=rfl
@[simp]theorem aaB(op:Jr)(a b:CE):bz Φ (.bin op a b) ρ=SW op (bz Φ a ρ) (bz Φ b ρ):=rfl
@[simp]theorem aaA(op:Bm)(a b:CE):bz Φ (.cmp op a b) ρ=SF op (bz Φ a ρ) (bz Φ b ρ):=rfl
@[simp]theorem aaw(a:CE):bz Φ (.neg a) ρ=KG Hv (bz Φ a ρ):=rfl
@[simp]theorem aat(a:CE):bz Φ (.not a) ρ=QM (bz Φ a ρ):=rfl
@[simp]theorem aay(a:CE)(t:Ty):bz Φ (.lg a t) ρ=ZF t (bz Φ a ρ):=rfl
@[simp]theorem Yg(f:Nat)(es:aH):bz Φ (.call f es) ρ=EU (Φ f) (b0 Φ es ρ):=rfl
@[simp]theorem ado(f:Bf)(es:aH):bz Φ (.bf f es) ρ=KG (oi f) (b0 Φ es ρ):=rfl
@[simp]theorem aaq(f:Nat)(es:aH):bz Φ (.cS f es) ρ=KG (Φ f) (b0 Φ es ρ):=rfl
@[simp]theorem adm(a b:CE):bz Φ (.ix a b) ρ=ZE (bz Φ a ρ) (bz Φ b ρ):=rfl
@[simp]theorem Ye(a:CE):bz Φ (.kR a) ρ=KG yF (bz Φ a ρ):=rfl
@[simp]theorem aap(es:aH):bz Φ (.tup es) ρ=KG (λa=>ok (.tup a)) (b0 Φ es ρ):=rfl
@[simp]theorem aax(es:aH):bz Φ (.lst es) ρ=KG (λa=>ok (.lst .ow a)) (b0 Φ es ρ):=rfl
@[simp]theorem aaC(es:aH):bz Φ (.and es) ρ=qY Φ es ρ:=rfl
@[simp]theorem adl(es:aH):bz Φ (.or es) ρ=AK Φ es ρ:=rfl
@[simp]theorem Yi(e:CE):qY Φ [e] ρ=Dl (bz Φ e ρ):=rfl
@[simp]theorem Yh(e a:CE)(es:aH):qY Φ (e::a::es) ρ=Jl (bz Φ e ρ) (qY Φ (a::es) ρ):=rfl
@[simp]theorem aas(e:CE):AK Φ [e] ρ=Dl (bz Φ e ρ):=rfl
@[simp]theorem aar(e a:CE)(es:aH):AK Φ (e::a::es) ρ=T_ (bz Φ e ρ) (AK Φ (a::es) ρ):=rfl
@[simp]theorem aav:b0 Φ [] ρ=ok []:=rfl
@[simp]theorem Yf(e:CE)(es:aH):b0 Φ (e::es) ρ=zk (bz Φ e ρ) (b0 Φ es ρ):=rfl
@[simp]theorem e_T(e:CE):u_ Φ e ρ=wj (bz Φ e ρ):=rfl
theorem Ym(e:CE):bd (bz Φ e ρ) iT=wj (bz Φ e ρ):=rfl
@[simp]theorem Yk:iQ Φ [] ρ=ok true:=rfl
@[simp]theorem Yj(e:CE):iQ Φ [e] ρ=wj (bz Φ e ρ):=by
 rw[iQ,Ym];cases h:wj (bz Φ e ρ)with
 |none=>rfl
 |some r=>cases r with
  |error c=>rfl
  |ok b=>cases b<;>simp[iQ,bd,ok]
end
def lr(is:aN):Nat->bo->bo
 |_,[]=>[]
 |n,d::ρ=>(if n∈is then d.map (aR aZ)else d)::lr is (n+1) ρ
theorem Kn(is:aN):∀(ρ:bo) (n:Nat),ρ.mapIdx (λi d=>if i+n∈is then d.map (aR aZ)else d)=lr is n ρ
 |[],_=>rfl
 |d::ρ,n=>by
  rw[List.mapIdx_cons,lr,<- Kn is ρ (n+1)];simp only[Nat.zero_add,Nat.add_assoc,Nat.add_comm 1 n]
theorem xg(is:aN)(ρ:bo):jY is ρ=lr is 0 ρ:=by rw[<- Kn];rfl
@[simp]theorem Sf(is:aN)(n:Nat):lr is n []=[]:=rfl
@[simp]theorem OS(is:aN)(n:Nat)(d:aG)(ρ:bo):lr is n (d::ρ)=(if n∈is then d.map (aR aZ)else d)::lr is (n+1) ρ:=rfl
def dj(e:CE)(ρ:bo)(x:O D):O (D×bo):=bd x λd=>ok (keep e d ρ)
variable {ρ ρ1:bo}
@[simp]theorem uJ{e:CE}{d:D}(h:aV bW d=false):dj e ρ (ok d)=ok (d,ρ):=by
 show ok (keep e d ρ)=_;rw[keep,h];rfl
@[simp]theorem Q7{e:CE}{d:D}(h:aV bW d=true):dj e ρ (ok d)=ok (aR aZ d,lr (iX e) 0 ρ):=by
 show ok (keep e d ρ)=_;rw[keep,h,<- xg];rfl
@[simp]theorem OA(e:CE)(ρ:bo)(c:Nat):dj e ρ (some (.error c))=some (.error c):=rfl
def C6(i:Nat)(ρ:bo)(o:Option (aG)):O (D×bo):=match o with
 |some (some d)=>if aV cz d then ok (d,ρ.set i none)else ok (d,ρ)
 |_=>none
@[simp]theorem QR{i:Nat}{d:D}(h:aV cz d=true):C6 i ρ (some (some d))=ok (d,ρ.set i none):=aa2 h
@[simp]theorem QS{i:Nat}{d:D}(h:aV cz d=false):C6 i ρ (some (some d))=ok (d,ρ):=acQ (by rw[h];exact aae)
@[simp]theorem k_v(Φ:bh)(i:Nat)(ρ:bo):jS Φ (.v i) ρ=C6 i ρ ρ[i]?:=rfl
noncomputable def isV:CE->Bool
 |.v _=>true
 |_=>false
@[simp]theorem Zz(Φ:bh)(ρ:bo)(op:Jr)(a b:CE):jS Φ (.bin op a b) ρ=dj (.bin op a b) ρ (bz Φ (.bin op a b) ρ):=rfl
@[simp]theorem Zy(Φ:bh)(ρ:bo)(op:Bm)(a b:CE):jS Φ (.cmp op a b) ρ=dj (.cmp op a b) ρ (bz Φ (.cmp op a b) ρ):=rfl
@[simp]theorem Wb(Φ:bh)(ρ:bo)(f:Nat)(es:aH):jS Φ (.call f es) ρ=dj (.call f es) ρ (bz Φ (.call f es) ρ):=rfl
@[simp]theorem abP(Φ:bh)(ρ:bo)(f:Bf)(es:aH):jS Φ (.bf f es) ρ=dj (.bf f es) ρ (bz Φ (.bf f es) ρ):=rfl
@[simp]theorem Zs(Φ:bh)(ρ:bo)(f:Nat)(es:aH):jS Φ (.cS f es) ρ=dj (.cS f es) ρ (bz Φ (.cS f es) ρ):=rfl
@[simp]theorem abN(Φ:bh)(ρ:bo)(a b:CE):jS Φ (.ix a b) ρ=dj (.ix a b) ρ (bz Φ (.ix a b) ρ):=rfl
@[simp]theorem Zr(Φ:bh)(ρ:bo)(es:aH):jS Φ (.tup es) ρ=dj (.tup es) ρ (bz Φ (.tup es) ρ):=rfl
@[simp]theorem Zw(Φ:bh)(ρ:bo)(es:aH):jS Φ (.lst es) ρ=dj (.lst es) ρ (bz Φ (.lst es) ρ):=rfl
@[simp]theorem J_(Φ:bh)(ρ:bo)(i:Int):jS Φ (.int i) ρ=dj (.int i) ρ (bz Φ (.int i) ρ):=rfl
@[simp]theorem abO(Φ:bh)(ρ:bo)(i:Bool):jS Φ (.bl i) ρ=dj (.bl i) ρ (bz Φ (.bl i) ρ):=rfl
@[simp]theorem Zu(Φ:bh)(ρ:bo): jS Φ (.cF) ρ=dj (.cF) ρ (bz Φ (.cF) ρ):=rfl
@[simp]theorem Zv(Φ:bh)(ρ:bo)(a:CE):jS Φ (.neg a) ρ=dj (.neg a) ρ (bz Φ (.neg a) ρ):=rfl
@[simp]theorem Zt(Φ:bh)(ρ:bo)(a:CE):jS Φ (.not a) ρ=dj (.not a) ρ (bz Φ (.not a) ρ):=rfl
@[simp]theorem ZA(Φ:bh)(ρ:bo)(es:aH):jS Φ (.and es) ρ=dj (.and es) ρ (bz Φ (.and es) ρ):=rfl
@[simp]theorem abM(Φ:bh)(ρ:bo)(es:aH):jS Φ (.or es) ρ=dj (.or es) ρ (bz Φ (.or es) ρ):=rfl
@[simp]theorem Wa(Φ:bh)(ρ:bo)(n:Nat)(t:Tg)(caps:aN)(b:IK)(es c:aH)(a:CE):jS Φ (.comp n t caps b es c a) ρ=dj (.comp n t caps b es c a) ρ (bz Φ (.comp n t caps b es c a) ρ):=rfl
@[simp]theorem Zx(Φ:bh)(ρ:bo)(a:CE)(t:Ty):jS Φ (.lg a t) ρ=dj (.lg a t) ρ (bz Φ (.lg a t) ρ):=rfl
@[simp]theorem V_(Φ:bh)(ρ:bo)(a:CE):jS Φ (.kR a) ρ=dj (.kR a) ρ (bz Φ (.kR a) ρ):=rfl
theorem Q8(Φ:bh)(e:CE)(ρ:bo)(h:isV e=false):jS Φ e ρ=dj e ρ (bz Φ e ρ):=by cases e<;>first|rfl|cases h
@[simp]theorem Oj(ρ:bo):fj [] [] ρ=ok ρ:=rfl
variable {ds xs:aa}{is:aN}
@[simp]theorem Ly{i:Nat}{d:D}(h:i<ρ.length):fj (i::is) (d::ds) ρ=fj is ds (ρ.set i (some d)):=aa2 h
@[simp]theorem TQ{i:Nat}{d:D}(h:i<ρ.length):cB (.nm i) d ρ=ok (ρ.set i (some d)):=aa2 h
@[simp]theorem TN(h:aP cz ds=false):cB (.tp is) (.tup ds) ρ=fj is ds ρ:=acQ (by rw[h];exact aae)
def Oa(i:Nat)(r:O (D×bo)):O (Fo×bo):=bd r λr=>bd (cB (.nm i) r.1 r.2) λa=>ok (.nx,a)
@[simp]theorem zG{i:Nat}{d:D}(h:i<ρ.length):Oa i (ok (d,ρ))=ok (.nx,ρ.set i (some d)):=by
 show bd (cB (.nm i) d ρ) _=_;rw[cB,if_pos h];rfl
@[simp]theorem S9(i:Nat)(c:Nat):Oa i (some (.error c))=some (.error c):=rfl
def S8(is:aN)(r:O (D×bo)):O (Fo×bo):=bd r λr=>bd (cB (.tp is) r.1 r.2) λa=>ok (.nx,a)
@[simp]theorem UP(h:aP cz ds=false):S8 is (ok (.tup ds,ρ))=bd (fj is ds ρ) λa=>ok (.nx,a):=by
 show bd (cB (.tp is) (.tup ds) ρ) _=_;rw[cB,h];rfl
noncomputable def retS(r:O (D×bo)):O (Fo×bo):=bd r λr=>ok (.rt r.1,r.2)
@[simp]theorem TX(d:D)(ρ:bo):retS (ok (d,ρ))=ok (.rt d,ρ):=rfl
@[simp]theorem Qp(c:Nat):retS (some (.error c))=some (.error c):=rfl
noncomputable def XZ(ρ:bo)(x:O D):O (Fo×bo):=bd x λ_=>ok (.nx,ρ)
@[simp]theorem XY(ρ:bo)(d:D):XZ ρ (ok d)=ok (.nx,ρ):=rfl
@[simp]theorem UH(ρ:bo)(c:Nat):XZ ρ (some (.error c))=some (.error c):=rfl
noncomputable def tP(Φ:bh)(a:aj)(r:O (Fo×bo)):O (Fo×bo):=bd r λr=>match r with
 | (.nx,ρ')=>bK Φ a ρ'
 |r=>ok r
@[simp]theorem dG(Φ:bh)(a:aj)(ρ:bo):tP Φ a (ok (.nx,ρ))=bK Φ a ρ:=rfl
@[simp]theorem PK(Φ:bh)(a:aj)(d:D)(ρ:bo):tP Φ a (ok (.rt d,ρ))=ok (.rt d,ρ):=rfl
@[simp]theorem Oh(Φ:bh)(a:aj)(c:Nat):tP Φ a (some (.error c))=some (.error c):=rfl
noncomputable def HG(Φ:bh)(a b:aj)(ρ:bo)(x:O Bool):O (Fo×bo):=bd x λk=>if k then bK Φ a ρ else bK Φ b ρ
@[simp]theorem Wg(Φ:bh)(a b:aj)(ρ:bo):HG Φ a b ρ (ok true)=bK Φ a ρ:=rfl
@[simp]theorem Wh(Φ:bh)(a b:aj)(ρ:bo):HG Φ a b ρ (ok false)=bK Φ b ρ:=rfl
@[simp]theorem Q9(Φ:bh)(a b:aj)(ρ:bo)(c:Nat):HG Φ a b ρ (some (.error c))=some (.error c):=rfl
def S_(i:Nat)(r:O (D×bo)):O (Fo×bo):=bd r λr=>match CG r.2[i]? with
  |some ds=>if ds.length<dz then ok (.nx,r.2.set i (some (.lst .ow (ds++[r.1]))))else none
  |none=>none
@[simp]theorem Jj{i:Nat}{d:D}(h:ρ[i]?=some (some (.lst .ow ds)))(a:ds.length<dz):S_ i (ok (d,ρ))=ok (.nx,ρ.set i (some (.lst .ow (ds++[d])))):=by
 show(match CG ρ[i]? with|some ds=>_|none=>_)=_;rw[h];exact aa2 a
section
variable (Φ:bh)(ρ:bo)
@[simp]theorem Pg:bK Φ [] ρ=ok (.nx,ρ):=rfl
@[simp]theorem bX(s:CS)(a:aj):bK Φ (s::a) ρ=tP Φ a (mq Φ s ρ):=rfl
@[simp]theorem Jt(i:Nat)(e:CE):mq Φ (.asg (.nm i) e) ρ=Oa i (jS Φ e ρ):=rfl
@[simp]theorem U0(is:aN)(e:CE):mq Φ (.asg (.tp is) e) ρ=S8 is (jS Φ e ρ):=rfl
@[simp]theorem Pe(e:CE):mq Φ (.ret e) ρ=retS (jS Φ e ρ):=rfl
theorem qz(c:CE)(b:aj):mq Φ (.KZ c b) ρ=fG (λρ=>bd (u_ Φ c ρ) λk=>if k then bd (bK Φ b ρ) λr=>match r with
   | (.nx,ρ')=>ok (.inl ρ')
   | (.rt d,ρ')=>ok (.inr (.rt d,ρ'))
  else ok (.inr (.nx,ρ))) ρ:=rfl
theorem Pf(i j:Nat)(a b:CE):mq Φ (.par i j a b) ρ=bd (bz Φ a ρ) λx=>bd (bz Φ b ρ) λy=>if aV anyF x=false/\aV anyF y=false/\i<ρ.length/\j<ρ.length then ok (.nx,(ρ.set i (some x)).set j (some y))else none:=rfl
@[simp]theorem aaX(c:Nat):mq Φ (.rs c) ρ=some (.error c):=rfl
@[simp]theorem UZ(e:CE):mq Φ (.ex e) ρ=XZ ρ (bz Φ e ρ):=rfl
@[simp]theorem Pj(c:CE)(a b:aj):mq Φ (.ifs c a b) ρ=HG Φ a b ρ (wj (bz Φ c ρ)):=rfl
def Py(is:aN)(r:O (D×bo)):O (Fo×bo):=bd r λr=>bd (F9 is r.1 r.2) λa=>ok (.nx,a)
@[simp]theorem YW(is:aN)(e:CE):mq Φ (.unp is e) ρ=Py is (jS Φ e ρ):=rfl
@[simp]theorem Pl(i:Nat)(e:CE):mq Φ (.app i e) ρ=S_ i (jS Φ e ρ):=rfl
end
noncomputable def mk(Φ:bh)(ar n:Nat)(b:aj):aE:=λds=>if ds.length=ar then rW Φ n b ds else none
noncomputable def pI(r:O (Fo×bo)):O D:=bd r λr=>match r.1 with
 |.nx=>ok .cF
 |.rt d=>ok d
@[simp]theorem UJ(ρ:bo):pI (ok (.nx,ρ))=ok .cF:=rfl
@[simp]theorem UI(d:D)(ρ:bo):pI (ok (.rt d,ρ))=ok d:=rfl
@[simp]theorem Sv(c:Nat):pI (some (.error c))=some (.error c):=rfl
variable {ar:Nat}{Φ:bh}
theorem mk_eq{n:Nat}{b:aj}(h:ds.length=ar):mk Φ ar n b ds=pI (bK Φ b (ds.map some++List.replicate (n - ds.length) none)):=aa2 h
theorem oS{n:Nat}{b:aj}(ds:aa)(r:D)(h:mk Φ ar n b ds=ok r):ds.length=ar/\rW Φ n b ds=ok r:=by
 unfold mk at h;split at h
 ·rename_i a;exact⟨a,h⟩
 ·cases h
theorem Ea(i:Nat):iX (.v i)=[i]:=acq rfl
theorem Int.beq_eq_decide_eq(i j:Int):(i==j)=decide (i=j):=rfl
section
variable (g:Fl->Fl)(p:Fl->Bool)
@[simp]theorem Hw(b:Bool):aR g (.bl b)=.bl b:=rfl
@[simp]theorem Dd(b:Int):aR g (.int b)=.int b:=rfl
@[simp]theorem QV:aR g .cF=.cF:=rfl
@[simp]theorem C_(ds:aa):aR g (.tup ds)=.tup (aA g ds):=rfl
@[simp]theorem QW(f:Fl)(ds:aa):aR g (.lst f ds)=.lst (g f) (aA g ds):=rfl
@[simp]theorem QX(f:Fl)(ks:az)(vs:aa):aR g (.cn f ks vs)=.cn (g f) ks (aA g vs):=rfl
@[simp]theorem Ow:aA g []=[]:=rfl
@[simp]theorem fJ(d:D)(ds:aa):aA g (d::ds)=aR g d::aA g ds:=rfl
@[simp]theorem Oy(a b:aa):aA g (a++b)=aA g a++aA g b:=by simp only[bu,List.map_append]
@[simp]theorem Ox(ds:aa):(aA g ds).length=ds.length:=by rw[bu,List.length_map]
theorem eJ{a:Type}{e:a->D}(h:∀x,aR g (e x)=e x)(xs:List a):aA g (xs.map e)=xs.map e:=by
 rw[bu,List.map_map];exact aaP λx _=>h x
theorem cT{a:Type}{e:a->D}(h:∀x,aV p (e x)=false):∀xs:List a,aP p (xs.map e)=false
 |[]=>by rw[List.map_nil,aP]
 |x::xs=>by rw[List.map_cons,aP,h x,cT h xs];rfl
@[simp]theorem HZ(b:Bool):aV p (.bl b)=false:=acq rfl
@[simp]theorem pd(b:Int):aV p (.int b)=false:=acq rfl
@[simp]theorem RT:aV p .cF=false:=acq rfl
@[simp]theorem D0(ds:aa):aV p (.tup ds)=aP p ds:=acq rfl
@[simp]theorem D1(f:Fl)(ds:aa):aV p (.lst f ds)=(p f||aP p ds):=acq rfl
@[simp]theorem RU(f:Fl)(ks:az)(vs:aa):aV p (.cn f ks vs)=(p f||aP p vs):=acq rfl
@[simp]theorem OO:aP p []=false:=acq rfl
@[simp]theorem M0(d:D)(ds:aa):aP p (d::ds)=(aV p d||aP p ds):=acq rfl
@[simp]theorem AE:∀a b:aa,aP p (a++b)=(aP p a||aP p b)
 |[],b=>by simp
 |d::a,b=>by simp[AE a b,Bool.or_assoc]
@[simp]theorem iw(ns:ae):aA g (ns.map D.int)=ns.map D.int:=eJ g (Dd g) ns
@[simp]theorem w_(ns:ae):aP p (ns.map D.int)=false:=cT p (pd p) ns
@[simp]theorem Af(ns:List Bool):aA g (ns.map D.bl)=ns.map D.bl:=eJ g (Hw g) ns
@[simp]theorem AD(ns:List Bool):aP p (ns.map D.bl)=false:=cT p (HZ p) ns
@[simp]theorem OB(t:Ty)(d:D):du t (aR g d)=du t d:=by cases d<;>cases t<;>rfl
end
@[simp]theorem Nm:bp .ow=.al:=rfl
@[simp]theorem Nn:bp .fz=.fz:=rfl
@[simp]theorem Np:bp .al=.al:=rfl
@[simp]theorem Nl:bp .sc=.sc:=rfl
@[simp]theorem Ni:aZ .ow=.fz:=rfl
@[simp]theorem Nj:aZ .fz=.fz:=rfl
@[simp]theorem Nk:aZ .al=.fz:=rfl
@[simp]theorem Nh:aZ .sc=.sc:=rfl
@[simp]theorem NF:gU .ow=.ow:=rfl
@[simp]theorem NG:gU .fz=.al:=rfl
@[simp]theorem NH:gU .al=.al:=rfl
@[simp]theorem ND:gU .sc=.sc:=rfl
@[simp]theorem NA:bW .ow=false:=rfl
@[simp]theorem NB:bW .fz=false:=rfl
@[simp]theorem NC:bW .al=true:=rfl
@[simp]theorem Nz:bW .sc=false:=rfl
@[simp]theorem Nw:cz .ow=true:=rfl
@[simp]theorem Nx:cz .fz=false:=rfl
@[simp]theorem Ny:cz .al=false:=rfl
@[simp]theorem Nv:cz .sc=false:=rfl
@[simp]theorem Nq:Mz .ow=false:=rfl
@[simp]theorem Nt:Mz .fz=false:=rfl
@[simp]theorem Nu:Mz .al=false:=rfl
noncomputable def ag(ns:ae):aa:=ns.map D.int
noncomputable def nC(ns:List Bool):aa:=ns.map D.bl
@[simp]theorem jI(ns:ae):(ag ns).length=ns.length:=aa3 ..
@[simp]theorem SV(ns:List Bool):(nC ns).length=ns.length:=aa3 ..
@[simp]theorem Ap:ag []=[]:=rfl
@[simp]theorem o6(n:Int)(ns:ae):ag (n::ns)=.int n::ag ns:=rfl
@[simp]theorem wW(ns:ae)(n:Int):ag ns++[.int n]=ag (ns++[n]):=by simp[ag]
@[simp]theorem qS(ns:ae)(i:Nat):(ag ns)[i]?=ns[i]?.map D.int:=List.getElem?_map ..
@[simp]theorem dS(g:Fl->Fl)(ns:ae):aA g (ag ns)=ag ns:=iw g ns
@[simp]theorem Ki(p:Fl->Bool)(ns:ae):aP p (ag ns)=false:=w_ p ns
@[simp]theorem Mk(g:Fl->Fl)(ns:List Bool):aA g (nC ns)=nC ns:=Af g ns
@[simp]theorem M1(p:Fl->Bool)(ns:List Bool):aP p (nC ns)=false:=AD p ns
@[simp]theorem aaF(i j:Int):cW .add (.int i) (.int j)=ok (.int (i+j)):=rfl
@[simp]theorem aaE(i j:Int):cW .sub (.int i) (.int j)=ok (.int (i - j)):=rfl
theorem jZ{i j:Int}(h:fm i j=true):cW .mul (.int i) (.int j)=ok (.int (i*j)):=aa2 h
theorem ko{i j:Int}(h:qZ j=true):cW .fdiv (.int i) (.int j)=ok (.int (i.fdiv j)):=aa2 h
@[simp]theorem S0{i j:Int}(h:j≠0):cW .mod (.int i) (.int j)=ok (.int (i.fmod j)):=aa2 h
theorem SY{i j:Int}(h:kP i j=true):cW .shl (.int i) (.int j)=ok (.int (i*2 ^ j.toNat)):=aa2 h
theorem Kz{i j:Int}(h:kP i j=true):cW .pow (.int i) (.int j)=ok (.int (i ^ j.toNat)):=aa2 h
@[simp]theorem Zn(i:Int):Hv (.int i)=ok (.int (-i)):=rfl
theorem mulOk_of{i j:Int}(h:i.natAbs<2 ^ 9000)(h':j.natAbs<2 ^ 9000):fm i j=true:=by
 simp only[fm,big,h,h',decide_true,Bool.and_self,Bool.or_true]
theorem oV{n:Nat}(h:n<2 ^ 64):n<2 ^ 9000:=aaG h (aaS (by decide) (by decide))
theorem su{i:Int}(j:Int)(h:i.natAbs<2 ^ 64):fm i j=true:=by simp only[fm,h,decide_true,Bool.true_or]
theorem yD{j:Int}(i:Int)(h:j.natAbs<2 ^ 64):fm i j=true:=by simp only[fm,h,decide_true,Bool.true_or,Bool.or_true]
theorem fQ{j:Int}(a:j≠0)(h:j.natAbs<2 ^ 9000):qZ j=true:=by
 simp only[qZ,big,h,decide_true,Bool.and_true,decide_eq_true_eq];exact a
@[simp]theorem Jb{i j:Int}(h:j.natAbs<2 ^ 64):cW .mul (.int i) (.int j)=ok (.int (i*j)):=jZ (yD i h)
@[simp]theorem UO{i j:Int}(h:i.natAbs<2 ^ 64):cW .mul (.int i) (.int j)=ok (.int (i*j)):=jZ (su j h)
@[simp]theorem S7{i j:Int}(a:j≠0)(h:j.natAbs<2 ^ 64):cW .fdiv (.int i) (.int j)=ok (.int (i.fdiv j)):=ko (fQ a (oV h))
theorem SR{a b:D}(d:eU 40 a=true)(c:eU 40 b=true):iD .eq a b=ok (.bl (nu a b)):=by
 show(if eU 40 a&&eU 40 b then _ else _)=_;rw[d,c];rfl
theorem N8{a b:D}(d:eU 40 a=true)(c:eU 40 b=true):iD .ne a b=ok (.bl (!nu a b)):=by
 show(if eU 40 a&&eU 40 b then _ else _)=_;rw[d,c];rfl
@[simp]theorem ir(n:Nat)(i:Int):eU n (.int i)=true:=by cases n<;>rfl
@[simp]theorem V1(n:Nat)(i:Bool):eU n (.bl i)=true:=by cases n<;>rfl
@[simp]theorem Ua(n:Nat):eU n .cF=true:=by cases n<;>rfl
@[simp]theorem sg(n:Nat)(ds:aa):eU (n+1) (.tup ds)=ds.all (eU n):=rfl
@[simp]theorem yC(n:Nat)(f:Fl)(ds:aa):eU (n+1) (.lst f ds)=ds.all (eU n):=rfl
@[simp]theorem VT(i j:Int):iD .eq (.int i) (.int j)=ok (.bl (decide (i=j))):=by rw[SR (ir _ _) (ir _ _)];show ok (D.bl (i==j))=_;rw[Int.beq_eq_decide_eq]
@[simp]theorem VS(i j:Int):iD .ne (.int i) (.int j)=ok (.bl (!decide (i=j))):=by rw[N8 (ir _ _) (ir _ _)];show ok (D.bl (!(i==j)))=_;rw[Int.beq_eq_decide_eq]
@[simp]theorem abx(i j:Int):iD .lt (.int i) (.int j)=ok (.bl (decide (i<j))):=rfl
@[simp]theorem aby(i j:Int):iD .le (.int i) (.int j)=ok (.bl (decide (i<=j))):=rfl
@[simp]theorem abz(i j:Int):iD .gt (.int i) (.int j)=ok (.bl (decide (j<i))):=rfl
@[simp]theorem abA(i j:Int):iD .ge (.int i) (.int j)=ok (.bl (decide (j<=i))):=rfl
@[simp]theorem ZG(ds:aa)(i:Int):vQ (.tup ds) (.int i)=p9 ds i:=rfl
@[simp]theorem ZH(f:Fl)(ds:aa)(i:Int):vQ (.lst f ds) (.int i)=p9 ds i:=rfl
theorem tu{n:Nat}{d:D}(h:ds[n]?=some d):p9 ds (n:Int)=ok (aR bp d):=by
 have a:n<ds.length:=(List.getElem?_eq_some_iff.mp h).1;have e:yM ds.length (n:Int)=some n:=by unfold yM;rw[if_pos (by left),if_pos (by left)];rfl
 unfold p9;rw[e,Option.bind_some,h]
theorem at_of{i:Int}{d:D}(a:0<=i)(h:ds[i.toNat]?=some d):p9 ds i=ok (aR bp d):=by
 have:=tu h
 rwa [show((i.toNat:Nat):Int)=i by left]at this
@[simp]theorem Yz(d:D)(ds:aa):p9 (d::ds) 0=ok (aR bp d):=tu (n:=0) rfl
@[simp]theorem Yy(a d:D)(ds:aa):p9 (a::d::ds) 1=ok (aR bp d):=tu (n:=1) rfl
@[simp]theorem adz(a b d:D)(ds:aa):p9 (a::b::d::ds) 2=ok (aR bp d):=tu (n:=2) rfl
@[simp]theorem UC(ds:aa):oi .len [.tup ds]=ok (.int ds.length):=rfl
@[simp]theorem UD(f:Fl)(ds:aa):oi .len [.lst f ds]=ok (.int ds.length):=rfl
@[simp]theorem aah(i:Int):oi .abs [.int i]=ok (.int i.natAbs):=by
 show ok (D.int (if i<0 then -i else i))=_;congr 2;split<;>left
@[simp]theorem Sj(f:Fl)(ds:aa):oi .list1 [.lst f ds]=ok (.lst .ow (aA bp ds)):=rfl
@[simp]theorem Sh(ds:aa):oi .list1 [.tup ds]=ok (.lst .ow (aA bp ds)):=rfl
@[simp]theorem UB(f:Fl)(ds:aa):oi .tuple1 [.lst f ds]=ok (.tup (aA bp ds)):=rfl
@[simp]theorem pE(f:Fl)(ns:ae):oi .gy [.lst f (ag ns)]=ok (.int ns.sum):=by
 show(match intsOf (ns.map D.int)with|some ns=>_|none=>_)=_;rw[bY]
@[simp]theorem aag(f:Fl)(bs:List Bool):oi .all1 [.lst f (nC bs)]=ok (.bl (bs.all id)):=by
 show(match jq (bs.map D.bl)with|some ns=>_|none=>_)=_;rw[mD]
variable {ns:ae}
@[simp]theorem Im(h:ns.length<64):oi .il [.tup (ag ns)]=ok (.lst .ow (ag (sortI ns))):=by
 show tY _=_;unfold tY ag;rw[bY];exact aa2 h
@[simp]theorem NI(h:ns.length<4000):yF (.tup (ag ns))=ok (.int (sS ns).length):=by
 show(match intsOf (ns.map D.int)with|some ns=>_|none=>_)=_;rw[bY];exact aa2 h
@[simp]theorem sQ(i j:Int):nu (.int i) (.int j)=decide (i=j):=by show(i==j)=_;rw[Int.beq_eq_decide_eq]
@[simp]theorem X7(i j:Bool):nu (.bl i) (.bl j)=(i==j):=rfl
@[simp]theorem ze(a b:aa):nu (.tup a) (.tup b)=eF a b:=rfl
@[simp]theorem lA(f g:Fl)(a b:aa):nu (.lst f a) (.lst g b)=eF a b:=rfl
@[simp]theorem Ek:eF [] []=true:=rfl
@[simp]theorem cU(a b:D)(as bs:aa):eF (a::as) (b::bs)=(nu a b&&eF as bs):=rfl
theorem pG:∀{as bs:aa},eF as bs=true->as.length=bs.length
 |[],[],_=>rfl
 |[],_::_,h=>(aae h).elim
 |_::_,[],h=>(aae h).elim
 |a::as,b::bs,h=>by
  replace h:(_&&_)=true:=h;rw[Bool.and_eq_true]at h;rw[List.length_cons,List.length_cons,pG h.2]
theorem lz{b:Type}{e:b->D}[DecidableEq b](h:∀x y,nu (e x) (e y)=decide (x=y)):∀xs a:List b,eF (xs.map e) (a.map e)=decide (xs=a)
 |[],[]=>by simp
 |[],y::a=>by
  cases z:eF ([].map e) ((y::a).map e)with
  |true=>have:=pG z;simp at this
  |false=>simp
 |x::xs,[]=>by
  cases z:eF ((x::xs).map e) ([].map e)with
  |true=>have:=pG z;simp at this
  |false=>simp
 |x::xs,y::a=>by
  rw[List.map_cons,List.map_cons,cU,h,lz h xs a];by_cases e1:x=y<;>by_cases e2:xs=a<;>simp[e1,e2]
theorem jF{a:Type}{e:a->D}{n:Nat}(h:∀x,eU n (e x)=true)(xs:List a):(xs.map e).all (eU n)=true:=by
 rw[List.all_map];exact List.all_eq_true.mpr λx _=>h x
theorem bP{bind:D->O bo}{test:bo->O Bool}{el:bo->O D}{a:Type}{e:a->D}{g:a->D}:∀{xs:List a},(∀x∈xs,∃ρ,bind (e x)=ok ρ/\test ρ=ok true/\el ρ=ok (g x))->gW bind test el (xs.map e)=ok (xs.map g)
 |[],_=>rfl
 |x::xs,h=>by
  obtain⟨ρ,i,f,d⟩:=h x (aaf ..);have b:=bP (xs:=xs) λy c=>h y (aad _ c);rw[List.map_cons,gW,i,cQ,f,cQ,if_pos rfl,d,cQ,b];rfl
theorem jo{bind:D->O bo}{test:bo->O Bool}{el:bo->O D}{a:Type}{e:a->D}{g:a->D}{t:a->Bool}:∀{xs:List a},(∀x∈xs,∃ρ,bind (e x)=ok ρ/\test ρ=ok (t x)/\(t x=true->el ρ=ok (g x)))->gW bind test el (xs.map e)=ok ((xs.filter t).map g)
 |[],_=>rfl
 |x::xs,h=>by
  obtain⟨ρ,j,i,f⟩:=h x (aaf ..);have b:=jo (xs:=xs) λy c=>h y (aad _ c);rw[List.map_cons,gW,j,cQ,i,cQ,List.filter_cons];cases d:t x with
  |true=>rw[if_pos rfl,f d,cQ,b,if_pos rfl];rfl
  |false=>rw[if_neg Bool.false_ne_true,b,if_neg Bool.false_ne_true]
section
variable {Φ:bh}{n:Nat}{t:Tg}{caps:aN}{ik:IK}{es bR:aH}{elt:CE}{ρ:bo}{xs items ds:aa}
theorem cH(f:b0 Φ es ρ=ok xs)(e:e_ Φ ik xs=ok items)
  (c:gW (λd=>cB t d (bD n caps ρ)) (λa=>iQ Φ bR a) (λa=>bz Φ elt a) items=ok ds) (b:ds.length<=dz):bz Φ (.comp n t caps ik es bR elt) ρ=ok (.lst .ow (aA gU ds)):=by
 show bd (b0 Φ es ρ) _=_;rw[f,cQ,e,cQ,c,cQ,if_pos b]
end
theorem jH(Φ:bh)(ds:aa):e_ Φ .seq [.tup ds]=ok (aA aZ ds):=rfl
theorem dt(Φ:bh)(f:Fl)(ds:aa):e_ Φ .seq [.lst f ds]=ok (aA aZ ds):=rfl
theorem yN(Φ:bh){n:Int}(a:0<=n)(h:n<=1000000):e_ Φ .lY [.int n]=ok ((List.range n.toNat).map λ(k:Nat)=>D.int (k:Int)):=by
 show(if n<=(dz:Int) /\ -(dz:Int)<=n then _ else _)=_;have:(dz:Int)=1000000:=rfl;rw[if_pos (by left)]
theorem cf{n:Nat}(h:n<=1000000):n<=dz:=h
theorem cX{t:Tg}{it:CI}{b:aj}{items:aa}{r:O (Fo×bo)}(h:bQ Φ it ρ=ok (items,ρ1))(h':dE (λd ρ=>cB t d ρ) (λρ=>bK Φ b ρ) items ρ1=r):mq Φ (.fr t it b) ρ=r:=by
 show bd (bQ Φ it ρ) _=_;rw[h];exact h'
theorem gn(bind:D->bo->O bo)(body:bo->O (Fo×bo))(ρ:bo):dE bind body [] ρ=ok (.nx,ρ):=rfl
theorem bZ{bind:D->bo->O bo}{body:bo->O (Fo×bo)}{x:D}{ρ2:bo}{r:O (Fo×bo)}(c:bind x ρ=ok ρ1)(b:body ρ1=ok (.nx,ρ2))(a:dE bind body xs ρ2=r):dE bind body (x::xs) ρ=r:=by
 rw[dE,c,cQ,b];exact a
theorem Mw{a:CE}{n:Int}(h:bz Φ a ρ=ok (.int n))(c:0<=n)(b:n<=1000000):bQ Φ (.lY a) ρ=ok ((List.range n.toNat).map λ(k:Nat)=>D.int (k:Int),ρ):=by
 show bd (bz Φ a ρ) _=_;rw[h];show(if n<=(dz:Int) /\ -(dz:Int)<=n then _ else _)=_;have:(dz:Int)=1000000:=rfl;rw[if_pos (by left)]
theorem Ra{a:CE}(h:bz Φ a ρ=ok (.tup ds)):bQ Φ (.seq a) ρ=ok (aA aZ ds,if aP bW ds then lr (iX a) 0 ρ else ρ):=by
 show bd (bz Φ a ρ) _=_;rw[h,<- xg];show ok (_,if aV bW (.tup ds)then _ else _)=_;rw[D0]
theorem jR{a:CE}{f:Fl}(h:bz Φ a ρ=ok (.lst f ds)):bQ Φ (.seq a) ρ=ok (aA aZ ds,if (bW f||aP bW ds)then lr (iX a) 0 ρ else ρ):=by
 show bd (bz Φ a ρ) _=_;rw[h,<- xg];show ok (_,if aV bW (.lst f ds)then _ else _)=_;rw[D1]
noncomputable def fP(t b:Int):Int:=if b<0 then -(Int.gcd t b:Int)else(Int.gcd t b:Int)
def Mc(t b:Int):Int:=t.fdiv (fP t b)
def Md(t b:Int):Int:=b.fdiv (fP t b)
theorem y3{t b:Int}(h:b≠0):0<Int.gcd t b:=Int.gcd_pos_of_ne_zero_right t h
theorem ki{t b:Int}(h:b≠0):fP t b≠0:=by
 have:=y3 (t:=t) h;unfold fP;split<;>left
theorem Nb{t b:Int}(h:b≠0):Int.gcd t b<=b.natAbs:=Nat.le_of_dvd (by left) (Nat.gcd_dvd_right _ _)
theorem Iw{t b:Int}(h:b≠0):(fP t b).natAbs<=b.natAbs:=by
 have:=Nb (t:=t) h;unfold fP;split<;>left
theorem oP{t b:Int}(h:b≠0):∃f d:Int,t=fP t b*f/\b=fP t b*d/\Mc t b=f/\Md t b=d/\1<=d/\Int.gcd f d=1:=by
 have m:=y3 (t:=t) h;obtain⟨t1,g⟩:(Int.gcd t b:Int)∣t:=Int.gcd_dvd_left ..;obtain⟨a,i⟩:(Int.gcd t b:Int)∣b:=Int.gcd_dvd_right ..;have l:Int.gcd t1 a=1:=by
  have e:Int.gcd ((Int.gcd t b:Int)*t1) ((Int.gcd t b:Int)*a)=Int.gcd t b*Int.gcd t1 a:=by
   rw[Int.gcd_mul_left];simp
  rw[<- g,<- i]at e;have:Int.gcd t b*1=Int.gcd t b*Int.gcd t1 a:=by rw[Nat.mul_one];exact e
  exact(Nat.eq_of_mul_eq_mul_left m this).symm
 by_cases k:b<0
 ·have c:fP t b = -(Int.gcd t b:Int):=by simp[fP,k]
  have e1:t=fP t b*(-t1):=by rw[c,Int.neg_mul_neg];exact g
  have e2:b=fP t b*(-a):=by rw[c,Int.neg_mul_neg];exact i
  refine⟨-t1,-a,e1,e2,?_,?_,?_,by rw[Int.gcd_neg,Int.neg_gcd];exact l⟩
  ·unfold Mc
   conv=>lhs;arg 1;rw[e1]
   exact abG _ (ki h)
  ·unfold Md
   conv=>lhs;arg 1;rw[e2]
   exact abG _ (ki h)
  ·have:a<0:=by
    by_cases j:a<0
    ·exact j
    ·have:0<=(Int.gcd t b:Int)*a:=Int.mul_nonneg (by left) (by left);left
   left
 ·have c:fP t b=(Int.gcd t b:Int):=by simp[fP,k]
  have e1:t=fP t b*t1:=by rw[c];exact g
  have e2:b=fP t b*a:=by rw[c];exact i
  refine⟨t1,a,e1,e2,?_,?_,?_,l⟩
  ·unfold Mc
   conv=>lhs;arg 1;rw[e1]
   exact abG _ (ki h)
  ·unfold Md
   conv=>lhs;arg 1;rw[e2]
   exact abG _ (ki h)
  ·have:0<a:=by
    by_cases j:0<a
    ·exact j
    ·have:(Int.gcd t b:Int)*a<=0:=Int.mul_nonpos_of_nonneg_of_nonpos (by left) (by left);left
   left
noncomputable def qD(q:Rat):D:=.tup [.int q.num,.int q.den]
@[simp]theorem Dc(g:Fl->Fl)(q:Rat):aR g (qD q)=qD q:=by unfold qD;simp
@[simp]theorem o_(g:Fl->Bool)(q:Rat):aV g (qD q)=false:=by unfold qD;simp
noncomputable def eT(qs:bw):aa:=qs.map qD
@[simp]theorem T4(qs:bw):(eT qs).length=qs.length:=aa3 ..
@[simp]theorem T3:eT []=[]:=rfl
@[simp]theorem Qw(q:Rat)(qs:bw):eT (q::qs)=qD q::eT qs:=rfl
@[simp]theorem Qv(qs:bw)(q:Rat):eT qs++[qD q]=eT (qs++[q]):=by simp[eT]
@[simp]theorem T5(qs:bw)(i:Nat):(eT qs)[i]?=qs[i]?.map qD:=List.getElem?_map ..
@[simp]theorem TZ(qs:bw)(i:Nat)(q:Rat):(eT qs).set i (qD q)=eT (qs.set i q):=by unfold eT;rw[List.map_set]
@[simp]theorem QU(g:Fl->Fl)(qs:bw):aA g (eT qs)=eT qs:=eJ g (Dc g) qs
@[simp]theorem RS(g:Fl->Bool)(qs:bw):aP g (eT qs)=false:=cT g (o_ g) qs
theorem QK(n:Nat)(q:Rat):eU (n+1) (qD q)=true:=by
 unfold qD;rw[sg,List.all_cons,List.all_cons,ir,ir];rfl
theorem Su(p q:Rat):nu (qD p) (qD q)=decide (p=q):=by
 unfold qD;rw[ze,cU,cU,Ek,sQ,sQ,Bool.and_true];by_cases h:p=q
 ·subst h;simp
 ·rw[decide_eq_false h];cases e1:decide (p.num=q.num)with
  |false=>rfl
  |true =>
   cases e2:decide ((p.den:Int)=(q.den:Int))with
   |false=>rfl
   |true =>
    refine absurd (Rat.ext (by simpa using e1) ?_) h;have:(p.den:Int)=q.den:=by simpa using e2
    left
@[simp]theorem ZD(q:Rat):vQ (qD q) (.int 0)=ok (.int q.num):=by unfold qD;simp
@[simp]theorem ZC(q:Rat):vQ (qD q) (.int 1)=ok (.int q.den):=by unfold qD;simp
theorem sP{t b:Int}(f:b≠0):t.fdiv (fP t b)=(Rat.divInt t b).num/\b.fdiv (fP t b)=((Rat.divInt t b).den:Int):=by
 obtain⟨a,c,e1,e2,k,j,l,i⟩:=oP (t:=t) f;have hd:=ki (t:=t) f;have e:Rat.divInt t b=Rat.divInt a c:=by
  generalize fP t b=d at *;rw[e1,e2];exact Rat.divInt_mul_left hd
 obtain⟨n,rfl⟩:∃n:Nat,c=(n:Int):=⟨c.toNat,by left⟩
 have h:a.natAbs.Coprime n:=by
  have:Nat.gcd a.natAbs n=1:=by simpa [Int.gcd]using i
  exact this
 have g:n≠0:=by left
 have e3:Rat.divInt a (n:Int)=⟨a,n,g,h⟩:=Rat.mk_eq_divInt.symm;rw[e,e3];exact⟨k,j⟩
theorem qj(q:Rat):(q.den:Int)≠0:=by have:=q.den_pos;left
theorem Qx(q:Rat):(1:Int)<=q.den:=by have:=q.den_pos;left
theorem oK(q:Rat):Rat.divInt q.num q.den=q:=Rat.num_divInt_den q
theorem rX{t b:Int}(a:b≠0):(Rat.divInt t b).num.natAbs<=t.natAbs/\(Rat.divInt t b).den<=b.natAbs:=by
 obtain⟨d,c,e1,e2,h,g,k,j⟩:=oP (t:=t) a;obtain⟨e,i⟩:=sP (t:=t) a;have hd:1<=(fP t b).natAbs:=by have:=ki (t:=t) a;left
 rw[show t.fdiv (fP t b)=d from h]at e;rw[show b.fdiv (fP t b)=c from g]at i;refine⟨?_,?_⟩
 ·rw[<- e];have:t.natAbs=(fP t b).natAbs*d.natAbs:=by rw[<- Int.natAbs_mul,<- e1]
  rw[this];exact Nat.le_mul_of_pos_left _ hd
 ·have f:(Rat.divInt t b).den=c.natAbs:=by left
  rw[f];have:b.natAbs=(fP t b).natAbs*c.natAbs:=by rw[<- Int.natAbs_mul,<- e2]
  rw[this];exact Nat.le_mul_of_pos_left _ hd
theorem JD(p q:Rat):p+q=Rat.divInt (p.num*q.den+q.num*p.den) (p.den*q.den):=by
 conv=>lhs;rw[<- oK p,<- oK q]
 exact Rat.divInt_add_divInt _ _ (qj p) (qj q)
theorem JC(p q:Rat):p*q=Rat.divInt (p.num*q.num) (p.den*q.den):=by
 conv=>lhs;rw[<- oK p,<- oK q]
 exact Rat.divInt_mul_divInt _ _
def Sm(k:Nat)(q:Rat):Prop:=q.num.natAbs<2 ^ k/\q.den<2 ^ k
theorem Sm.mono{k l:Nat}{q:Rat}(h:Sm k q)(a:k<=l):Sm l q :=
 ⟨aaG h.1 (aaS (by decide) a),aaG h.2 (aaS (by decide) a)⟩
theorem dP{a b k l:Nat}(h:a<2 ^ k)(h':b<2 ^ l):a*b<2 ^ (k+l):=by
 rw[Nat.pow_add];exact Nat.mul_lt_mul'' h h'
theorem Jm(a b:Int):(a+b).natAbs<=a.natAbs+b.natAbs:=Int.natAbs_add_le a b
section
variable {k l:Nat}{p q:Rat}
theorem Sm.den(h:Sm k p)(h':Sm l q):((p.den:Int)*q.den).natAbs<2 ^ (k+l):=by
 rw[Int.natAbs_mul];exact dP (by simpa using h.2) (by simpa using h'.2)
theorem Sm.add(h:Sm k p)(h':Sm l q):Sm (k+l+1) (p+q):=by
 have a:(p.den:Int)*q.den≠0:=acR (qj p) (qj q);obtain⟨c,b⟩:=rX (t:=p.num*q.den+q.num*p.den) a;rw[<- JD]at c b;have g:(p.num*q.den).natAbs<2 ^ (k+l):=by rw[Int.natAbs_mul];exact dP h.1 (by simpa using h'.2)
 have f:(q.num*p.den).natAbs<2 ^ (k+l):=by rw[Int.natAbs_mul,Nat.add_comm];exact dP h'.1 (by simpa using h.2)
 have:=Jm (p.num*q.den) (q.num*p.den);have e:2 ^ (k+l+1)=2 ^ (k+l)*2:=Nat.pow_succ ..;have d:=h.den h';exact⟨by left,by left⟩
theorem Sm.mul(h:Sm k p)(h':Sm l q):Sm (k+l) (p*q):=by
 have a:(p.den:Int)*q.den≠0:=acR (qj p) (qj q);obtain⟨c,b⟩:=rX (t:=p.num*q.num) a;rw[<- JC]at c b;have e:(p.num*q.num).natAbs<2 ^ (k+l):=by rw[Int.natAbs_mul];exact dP h.1 h'.1
 have d:=h.den h';exact⟨by left,by left⟩
theorem Sm.big(h:Sm k p)(a:k<=9000):p.num.natAbs<2 ^ 9000/\(p.den:Int).natAbs<2 ^ 9000:=by
 have:=h.mono a;exact⟨this.1,by simpa using this.2⟩
end
theorem z4{t b:Int}{k:Nat}(a:b≠0)(d:t.natAbs<2 ^ k)(c:b.natAbs<2 ^ k):Sm k (Rat.divInt t b):=by
 obtain⟨f,e⟩:=rX (t:=t) a;exact⟨by left,by left⟩
def dY(d:D):Bool:=du .int d&&!du .bool d
def eM(m:aE):Prop:=∀d,m [d]=ok (.bl (dY d))
noncomputable def iF:aj:=[.ret (.and [(.lg (.v 0) .int),(.not (.lg (.v 0) .bool))])]
theorem wz(Φ:bh):eM (mk Φ 1 1 iF):=by
 intro d;simp[mk_eq,iF,dY]
theorem pz(a:Int){b:Int}(h:b≠0):(a.fmod b).natAbs<b.natAbs:=by
 rcases Int.lt_or_gt_of_ne h with c|c
 ·have e:=Int.neg_fmod_neg a b;have f:=aci (-a) (show 0 < -b by left);have d:=acI (-a) (show 0 < -b by left);left
 ·have f:=aci a c;have d:=acI a c;left
theorem D8(a b:Int):Int.gcd b (a.fmod b)=Int.gcd a b:=by
 rw[Int.fmod_def,Int.gcd_sub_mul_left_right,Int.gcd_comm]
def bL(m:aE):Prop:=∀a b:Int,m [.int a,.int b]=ok (.int (Int.gcd a b))
noncomputable def Bq:CS:=.KZ (.cmp .ne (.v 1) (.int 0)) [.asg (.nm 2) (.bin .mod (.v 0) (.v 1)),.asg (.nm 0) (.v 1),.asg (.nm 1) (.v 2)]
def dw:aj:=[Bq,.ret (.bf .abs [(.v 0)])]
theorem IU(Φ:bh):∀(n:Nat) (a b:Int) (r:aG),b.natAbs<=n->∃(g:Int) (d:aG),mq Φ Bq [some (.int a),some (.int b),r]=ok (.nx,[some (.int g),some (.int 0),d])/\g.natAbs=Int.gcd a b:=by
 intro n;induction n with
 |zero =>
  intro a b r h;have c:b=0:=by left
  subst c;refine⟨a,r,?_,by simp⟩;rw[Bq,qz];exact ic (by simp)
 |succ n f =>
  intro a b r h;by_cases c:b=0
  ·subst c;refine⟨a,r,?_,by simp⟩;rw[Bq,qz];exact ic (by simp)
  ·have j:=pz a c;obtain⟨g,d,e,i⟩:=f b (a.fmod b) (some (.int (a.fmod b))) (by left);refine⟨g,d,?_,by rw[i,D8]⟩;rw[Bq,qz]at e ⊢;rw[<- e];exact oA (by simp[c])
theorem lX(Φ:bh):bL (mk Φ 2 3 dw):=by
 intro a b;obtain⟨g,c,e,d⟩:=IU Φ b.natAbs a b none (aal _);have e1:(g.natAbs:Int)=(Int.gcd a b:Int):=by left
 simp[mk_eq,dw,e,e1]
def om(m:aE):Prop:=∀t b:Int,b≠0->b.natAbs<2 ^ 9000->m [.int t,.int b]=ok (qD (Rat.divInt t b))
def j6(m:aE):Prop:=om m/\∀t:Int,m [.int t,.int 0]=some (.error 0)
noncomputable def cV:aj:=[.ifs (.cmp .eq (.v 1) (.int 0)) [.rs 0] [],.asg (.nm 2) (.call 1 [(.v 0),(.v 1)]),.ifs (.cmp .lt (.v 1) (.int 0)) [.asg (.nm 2) (.neg (.v 2))] [],.ret (.tup [(.bin .fdiv (.v 0) (.v 2)),(.bin .fdiv (.v 1) (.v 2))])]
theorem n8{t b:Int}(a:b≠0)(h:b.natAbs<2 ^ 9000)(x:Int):cW .fdiv (.int x) (.int (fP t b))=ok (.int (x.fdiv (fP t b))) :=
 ko (fQ (ki a) (aa6 (Iw a) h))
theorem qh(Φ:bh)(d:bL (Φ 1)):j6 (mk Φ 2 3 cV):=by
 refine⟨λt b a h=>?_,λt=>by simp[mk_eq,cV]⟩;obtain⟨e1,e2⟩:=sP (t:=t) a;unfold bL at d;have g:=n8 (t:=t) a h t;have f:=n8 (t:=t) a h b;rw[qD,<- e1,<- e2];by_cases c:b<0
 ·have e:-(Int.gcd t b:Int)=fP t b:=by simp[fP,c]
  simp[mk_eq,cV,a,d,c,e,g,f]
 ·have e:(Int.gcd t b:Int)=fP t b:=by simp[fP,c]
  simp[mk_eq,cV,a,d,c,e,g,f]
noncomputable def mT:D->Bool
 |.tup [.int a,.int b]=>decide (1<=b)&&decide (Int.gcd a b=1)
 |_=>false
theorem Ii(q:Rat):mT (qD q)=true:=by
 have b:=Qx q;have a:Int.gcd q.num q.den=1:=by
  have:=q.reduced;simpa [Int.gcd]using this
 simp[qD,mT,b,a]
def j5(m:aE):Prop:=∀d,m [d]=ok (.bl (mT d))
noncomputable def cy:aj:=[.ifs (.or [(.not (.lg (.v 0) .tuple)),(.cmp .ne (.bf .len [(.v 0)]) (.int 2))]) [.ret (.bl false)] [],.ifs (.or [(.not (.call 0 [(.ix (.v 0) (.int 0))])),(.not (.call 0 [(.ix (.v 0) (.int 1))]))]) [.ret (.bl false)] [],.ret (.and [(.cmp .ge (.ix (.v 0) (.int 1)) (.int 1)),(.cmp .eq (.call 1 [(.ix (.v 0) (.int 0)),(.ix (.v 0) (.int 1))]) (.int 1))])]
theorem mJ(g:Fl->Fl)(d:D):dY (aR g d)=dY d:=by simp[dY]
theorem oz{d:D}(h:dY d=true):∃i,d=.int i:=by
 cases d<;>simp[dY,du]at h ⊢
theorem qX{x y:D}(h:dY x=false\/dY y=false):mT (.tup [x,y])=false:=by
 cases x<;>cases y<;>simp[dY,du]at h<;>rfl
theorem AH(h:ds.length≠2):mT (.tup ds)=false:=by
 unfold mT;split
 ·rename_i e;cases e;simp at h
 ·rfl
theorem qg(Φ:bh)(f:eM (Φ 0))(i:bL (Φ 1)):j5 (mk Φ 1 1 cy):=by
 intro d;unfold eM at f;unfold bL at i;cases d with
 |tup ds =>
  by_cases g:ds.length=2
  ·match ds,g with
   |[x,y],_ =>
    by_cases c:dY x=true
    ·by_cases e:dY y=true
     ·obtain⟨a,rfl⟩:=oz c;obtain⟨b,rfl⟩:=oz e;simp[mk_eq,cy,f,i,c,e,du,mT];by_cases h:a.gcd b=1
      ·simp[h]
      ·simp[h];left
     ·simp[mk_eq,cy,f,c,e,du,mJ,qX (.inr (by simpa using e))]
    ·simp[mk_eq,cy,f,c,du,mJ,qX (.inl (by simpa using c))]
  ·have j:¬ (ds.length:Int)=2:=by left
   simp[mk_eq,cy,du,j,AH g]
 |_=>simp[mk_eq,cy,du,mT]
def zK(m:aE):Prop:=∀p q,Sm 4000 p->Sm 4000 q->m [qD p,qD q]=ok (qD (p+q))
def eQ(m:aE):Prop:=∀p q,Sm 4000 p->Sm 4000 q->m [qD p,qD q]=ok (qD (p*q))
noncomputable def zC(f:Nat):aj:=[.ret (.call f [(.bin .add (.bin .mul (.ix (.v 0) (.int 0)) (.ix (.v 1) (.int 1))) (.bin .mul (.ix (.v 1) (.int 0)) (.ix (.v 0) (.int 1)))),(.bin .mul (.ix (.v 0) (.int 1)) (.ix (.v 1) (.int 1)))])]
noncomputable def jL(f:Nat):aj:=[.ret (.call f [(.bin .mul (.ix (.v 0) (.int 0)) (.ix (.v 1) (.int 0))),(.bin .mul (.ix (.v 0) (.int 1)) (.ix (.v 1) (.int 1)))])]
section
variable (Φ:bh){f:Nat}(h2:om (Φ f))
theorem SD{p q:Rat}(b:Sm 4000 p)(a:Sm 4000 q):(p.den:Int)*q.den≠0/\((p.den:Int)*q.den).natAbs<2 ^ 9000 :=
 ⟨acR (qj p) (qj q),aaG (b.den a) (aaS (by decide) (by decide))⟩
theorem Mh{p q:Rat}(g:Sm 4000 p)(e:Sm 4000 q):cW .mul (.int p.num) (.int q.den)=ok (.int (p.num*q.den))/\cW .mul (.int p.num) (.int q.num)=ok (.int (p.num*q.num))/\cW .mul (.int p.den) (.int q.den)=ok (.int (p.den*q.den))/\cW .mul (.int p.den) (.int q.num)=ok (.int (p.den*q.num)):=by
 obtain⟨a,b⟩:=g.big (by decide);obtain⟨c,d⟩:=e.big (by decide);exact⟨jZ (mulOk_of a d),jZ (mulOk_of a c),jZ (mulOk_of b d),jZ (mulOk_of b c)⟩
include h2
theorem Qk:zK (mk Φ 2 2 (zC f)):=by
 intro p q h g;obtain⟨a,b,c,d⟩:=Mh h g;obtain⟨i,m,l,j⟩:=Mh g h;obtain⟨n,k⟩:=SD h g;have e:=h2 (p.num*q.den+q.num*p.den) _ n k;rw[<- JD]at e;simp[mk_eq,zC,a,i,c,e]
theorem yh:eQ (mk Φ 2 2 (jL f)):=by
 intro p q h g;obtain⟨a,b,c,d⟩:=Mh h g;obtain⟨n,k⟩:=SD h g;have e:=h2 (p.num*q.num) _ n k;rw[<- JC]at e;simp[mk_eq,jL,b,c,e]
omit h2 in
end
theorem EI{bind:D->O bo}{test:bo->O Bool}{el:bo->O D}{g:D->D}(h:∀x∈xs,∃ρ,bind x=ok ρ/\test ρ=ok true/\el ρ=ok (g x)):gW bind test el xs=ok (xs.map g):=by
 have:=bP (bind:=bind) (test:=test) (el:=el) (e:=λd=>d) (g:=g) (xs:=xs) h
 rwa [List.map_id']at this
def xE(d:D):Prop:=match d with
 |.lst _ ds=>ds.length<=1000000
 |.tup ds=>ds.length<64
 |_=>True
noncomputable def jQ(qs:bw):Nat:=qs.foldl (λb q=>Nat.lcm b q.den) 1
theorem Dj(b:Nat)(q:Rat):(b:Int).fdiv (Int.gcd b q.den)*q.den=(Nat.lcm b q.den:Nat):=by
 have a:0<Nat.gcd b q.den:=Nat.gcd_pos_of_pos_right _ q.den_pos;have e:Int.gcd (b:Int) (q.den:Int)=Nat.gcd b q.den:=by simp[Int.gcd]
 rw[e,Int.fdiv_eq_ediv_of_nonneg _ (by left)];have:((b:Int) / (Nat.gcd b q.den:Nat))=((b / Nat.gcd b q.den:Nat):Int):=(Int.natCast_ediv ..).symm;rw[this,Nat.lcm];have hd:Nat.gcd b q.den∣b:=Nat.gcd_dvd_left ..;rw[Nat.mul_comm b,Nat.mul_div_assoc _ hd,Nat.mul_comm];exact(Int.natCast_mul ..).symm
theorem lcm_pos{b:Nat}(a:0<b)(q:Rat):0<Nat.lcm b q.den:=Nat.lcm_pos a q.den_pos
theorem yJ:∀(qs:bw) (b k j:Nat),0<b->b<2 ^ j->(∀q∈qs,Sm k q)->0<qs.foldl (λb q=>Nat.lcm b q.den) b/\qs.foldl (λb q=>Nat.lcm b q.den) b<2 ^ (j+k*qs.length)/\b∣qs.foldl (λb q=>Nat.lcm b q.den) b/\∀q∈qs,q.den∣qs.foldl (λb q=>Nat.lcm b q.den) b
 |[],b,k,j,h0,h1,_=>⟨h0,by simpa using h1,Nat.dvd_refl _,λq c=>nomatch c⟩
 |q::qs,b,k,j,h0,h1,hs=>by
  have c:=hs q aaf;have f:Nat.lcm b q.den<2 ^ (j+k):=aa6 (Nat.lcm_le_mul h0 q.den_pos) (dP h1 c.2);obtain⟨i,h,d,g⟩:=yJ qs (Nat.lcm b q.den) k (j+k) (lcm_pos h0 q) f λp a=>hs p (aad _ a);have e:j+k*(q::qs).length=j+k+k*qs.length:=by rw[List.length_cons,Nat.mul_succ];left
  refine⟨i,by rw[e];exact h,Nat.dvd_trans (Nat.dvd_lcm_left ..) d,λp a=>?_⟩;rcases List.mem_cons.mp a with rfl|a
  ·exact Nat.dvd_trans (Nat.dvd_lcm_right ..) d
  ·exact g p a
structure vV(k:Nat)(qs:bw):Prop where
 sm:∀q∈qs,Sm k q
 FE:k*qs.length<=3000
 len:qs.length<=1000
variable {qs:bw}
theorem vV.lcm{k:Nat}(h:vV k qs):0<jQ qs/\jQ qs<2 ^ (1+k*qs.length)/\∀q∈qs,q.den∣jQ qs:=by
 obtain⟨c,b,_,a⟩:=yJ qs 1 k 1 (by decide) (by decide) h.sm;exact⟨c,b,a⟩
theorem wO{n j:Nat}(h:n<2 ^ j)(a:j<=9000):n<2 ^ 9000:=aaG h (aaS (by decide) a)
def ff(m:aE):Prop:=∀f qs k,vV k qs->m [.lst f (eT qs)]=ok (.int (jQ qs))
noncomputable def cC:aj:=[.asg (.nm 1) (.bin .mul (.bin .fdiv (.v 1) (.call 1 [(.v 1),(.ix (.v 2) (.int 1))])) (.ix (.v 2) (.int 1)))]
def cR:aj:=[.asg (.nm 1) (.int 1),.fr (.nm 2) (.seq (.v 0)) cC,.ret (.v 1)]
theorem zw(Φ:bh)(c:bL (Φ 1))(x:aG):∀(qs:bw) (b k j:Nat) (z:aG),0<b->b<2 ^ j->j+k*qs.length<=8000->(∀q∈qs,Sm k q) ->
  ∃a,dE (λd ρ=>cB (.nm 2) d ρ) (λρ=>bK Φ cC ρ) (eT qs) [x,some (.int b),z]=ok (.nx,[x,some (.int (qs.foldl (λb q=>Nat.lcm b q.den) b:Nat)),a])
 |[],b,k,j,z,_,_,_,_=>⟨z,rfl⟩
 |q::qs,b,k,j,z,h0,hb,hj,hs=>by
  have f:=hs q aaf;have m:Nat.lcm b q.den<2 ^ (j+k):=aa6 (Nat.lcm_le_mul h0 q.den_pos) (dP hb f.2);have e:j+k*(q::qs).length=j+k+k*qs.length:=by rw[List.length_cons,Nat.mul_succ];left
  obtain⟨a,h⟩:=zw Φ c x qs (Nat.lcm b q.den) k (j+k) (some (qD q)) (lcm_pos h0 q) m (by left) λp i=>hs p (aad _ i);have t:0<Nat.gcd b q.den:=Nat.gcd_pos_of_pos_right _ q.den_pos;have n:Int.gcd (b:Int) (q.den:Int)=Nat.gcd b q.den:=by simp[Int.gcd]
  have s:Nat.gcd b q.den<=b:=Nat.le_of_dvd h0 (Nat.gcd_dvd_left ..);have g:b<2 ^ 9000:=wO hb (by left);have r:cW .fdiv (.int b) (.int (Nat.gcd b q.den:Nat))=ok (.int ((b:Int).fdiv (Nat.gcd b q.den:Nat))):=ko (fQ (by left) (by simpa using Nat.lt_of_le_of_lt s g));have l:((b:Int).fdiv (Nat.gcd b q.den:Nat)).natAbs<=b:=by
   rw[Int.fdiv_eq_ediv_of_nonneg _ (by left),<- Int.natCast_ediv];simp;exact Nat.div_le_self ..
  have o:cW .mul (.int ((b:Int).fdiv (Nat.gcd b q.den:Nat))) (.int q.den)=ok (.int (Nat.lcm b q.den:Nat)):=by
   have:=Dj b q;rw[n]at this;rw[jZ (mulOk_of (Nat.lt_of_le_of_lt l g) (f.big (by
    rw[e]at hj;have:k<=j+k+k*qs.length:=by left
    left)).2),this]
  unfold bL at c;refine⟨a,bZ (ρ1:=[x,some (.int b),some (qD q)]) (by simp) (ρ2:=[x,some (.int (Nat.lcm b q.den:Nat)),some (qD q)]) ?_ h⟩;simp[cC,c,r,o]
theorem nc(Φ:bh)(j:bL (Φ 1)):ff (mk Φ 1 3 cR):=by
 intro f qs k h;have a:bQ Φ (.seq (.v 0)) [some (.lst f (eT qs)),some (.int 1),none]=ok (eT qs,if (bW (bp f)||false)then[some (.lst (aZ f) (eT qs)),some (.int 1),none]else[some (.lst f (eT qs)),some (.int 1),none]):=by
  rw[jR (f:=bp f) (ds:=eT qs) (by simp)];simp[show iX (.v 0)=[0] from rfl]
 have l:=h.FE;have g:∀x:aG,∃c,dE (λd ρ=>cB (.nm 2) d ρ) (λρ=>bK Φ cC ρ) (eT qs) [x,some (.int (1:Nat)),none]=ok (.nx,[x,some (.int (jQ qs)),c]):=λx=>zw Φ j x qs 1 k 1 none (by decide) (by decide) (by left) h.sm;cases i:(bW (bp f)||false)with
 |true =>
  rw[i]at a;obtain⟨c,e⟩:=g (some (.lst (aZ f) (eT qs)));have:=cX (t:=.nm 2) (b:=cC) a e;simp[mk_eq,cR,this]
 |false =>
  rw[i]at a;obtain⟨c,e⟩:=g (some (.lst f (eT qs)));have:=cX (t:=.nm 2) (b:=cC) a e;simp[mk_eq,cR,this]
noncomputable def fX(b:Nat)(q:Rat):Int:=q.num*(b:Int).fdiv q.den
theorem Qy(q:Rat):(q.num:Rat)=q*(q.den:Rat):=by
 have h:(q.den:Rat)≠0:=by
  have:=q.den_pos;intro z;have:((q.den:Int):Rat)=0:=by rw[Rat.intCast_natCast];exact z
  rw[Rat.intCast_eq_zero_iff]at this;left
 have e:q=(q.num:Rat) / (q.den:Rat):=by
  conv=>lhs;rw[<- oK q,Rat.divInt_eq_div,Rat.intCast_natCast]
 grind
theorem BD{b:Nat}{q:Rat}(h:q.den∣b):((fX b q:Int):Rat)=q*(b:Rat):=by
 obtain⟨c,rfl⟩:=h;have hd:(q.den:Int)≠0:=qj q;unfold fX;rw[Int.natCast_mul,Int.mul_fdiv_cancel_left _ hd,Rat.intCast_mul,Qy,Rat.natCast_mul,Rat.intCast_natCast];grind
theorem oE{b:Nat}:∀{qs:bw},(∀q∈qs,q.den∣b)->(((qs.map (fX b)).sum:Int):Rat)=qs.sum*(b:Rat)
 |[],_=>by simp
 |q::qs,h=>by
  rw[List.map_cons,List.sum_cons,List.sum_cons,Rat.intCast_add,BD (h q List.mem_cons_self),oE λp a=>h p (List.mem_cons_of_mem _ a)];grind
def jr(m:aE):Prop:=∀f qs k (b:Nat),vV k qs->b<2 ^ 8000->m [.lst f (eT qs),.int b]=ok (.lst .ow (ag (qs.map (fX b))))
noncomputable def gp:aj:=[.ret (.comp 1 (.nm 0) [1] .seq [(.v 0)] [] (.bin .mul (.ix (.v 0) (.int 0)) (.bin .fdiv (.v 1) (.ix (.v 0) (.int 1)))))]
theorem Gx{k:Nat}(h:vV k qs){q:Rat}(a:q∈qs):Sm 3000 q:=by
 refine(h.sm q a).mono ?_;have c:=h.FE;have b:0<qs.length:=List.length_pos_of_mem a;have:k*1<=k*qs.length:=acC _ b;left
theorem ud(Φ:bh):jr (mk Φ 2 2 gp):=by
 intro f qs k b a e;have c:bz Φ (.comp 1 (.nm 0) [1] .seq [(.v 0)] [] (.bin .mul (.ix (.v 0) (.int 0)) (.bin .fdiv (.v 1) (.ix (.v 0) (.int 1))))) [some (.lst f (eT qs)),some (.int b)]=ok (.lst .ow (ag (qs.map (fX b)))):=by
  rw[cH (xs:=[.lst (bp f) (eT qs)]) (items:=eT qs) (ds:=qs.map λq=>.int (fX b q)) (by simp) (by rw[dt];simp) (bP λq d=>?_) (by have:=a.len;simp;exact cf (by left))]
  ·have:(qs.map λq=>D.int (fX b q))=ag (qs.map (fX b)):=by simp[ag]
   rw[this,dS]
  ·refine⟨[some (qD q),some (.int b)],by simp[bD],by simp,?_⟩;have h:=Gx a d;obtain⟨j,i⟩:=h.big (by decide);have m:cW .fdiv (.int b) (.int q.den)=ok (.int ((b:Int).fdiv q.den)):=ko (fQ (qj q) i);have l:cW .mul (.int q.num) (.int ((b:Int).fdiv q.den))=ok (.int (q.num*(b:Int).fdiv q.den)):=by
    refine jZ (mulOk_of j ?_);rw[Int.fdiv_eq_ediv_of_nonneg _ (by left),<- Int.natCast_ediv];have:=Nat.div_le_self b q.den;have g:=wO e (by decide);rw[Int.natAbs_natCast];exact aa6 this g
   simp[m,l,fX]
 simp[mk_eq,gp,c]
def pS(m:aE):Prop:=∀f qs k,vV k qs->m [.lst f (eT qs)]=ok (.tup [.int (jQ qs),.lst .ow (ag (qs.map (fX (jQ qs))))])
noncomputable def iE:aj:=[.asg (.nm 1) (.call 9 [(.v 0)]),.ret (.tup [(.v 1),(.call 10 [(.v 0),(.v 1)])])]
theorem vV.Mq{k:Nat}(h:vV k qs):jQ qs<2 ^ 8000:=aaG h.lcm.2.1 (aaS (by decide) (by have:=h.FE;left))
theorem wy(Φ:bh)(b:ff (Φ 9))(c:jr (Φ 10)):pS (mk Φ 1 2 iE):=by
 intro f qs k a;have e1:=λf=>b f qs k a;have e2:=λf=>c f qs k (jQ qs) a a.Mq;simp[mk_eq,iE,e1,e2]
def iH(m:aE):Prop:=∀f qs k,vV k qs->m [.lst f (eT qs)]=ok (qD qs.sum)
noncomputable def fC:aj:=[.asg (.nm 1) (.call 41 [(.v 0)]),.ret (.call 2 [(.bf .gy [(.ix (.v 1) (.int 1))]),(.ix (.v 1) (.int 0))])]
theorem Gg{b:Nat}(c:0<b)(h:∀q∈qs,q.den∣b):Rat.divInt (qs.map (fX b)).sum b=qs.sum:=by
 have a:((b:Nat):Rat)≠0:=by
  intro z;have:((b:Int):Rat)=0:=by rw[Rat.intCast_natCast];exact z
  rw[Rat.intCast_eq_zero_iff]at this;left
 rw[Rat.divInt_eq_div,oE h,Rat.intCast_natCast];grind
theorem rT(Φ:bh)(c:j6 (Φ 2))(b:pS (Φ 41)):iH (mk Φ 1 2 fC):=by
 intro f qs k a;have e1:=λf=>b f qs k a;obtain⟨e,g,d⟩:=a.lcm;have e2:=c.1 (qs.map (fX (jQ qs))).sum (jQ qs) (by left) (by have:=wO a.Mq (by decide);simpa using this);rw[Gg e d]at e2;simp[mk_eq,fC,e1,e2]
noncomputable def cG(n:Int):D->Bool
 |.int i=>decide (0<=i)&&decide (i<n)
 |_=>false
theorem mO(g:Fl->Fl)(n:Int)(d:D):cG n (aR g d)=cG n d:=by
 cases d<;>simp[cG]
theorem gk{n:Int}:∀{ds:aa},ds.all (cG n)=true->∃ns:ae,ds=ag ns
 |[],_=>⟨[],rfl⟩
 |d::ds,h=>by
  simp only[List.all_cons,Bool.and_eq_true]at h;obtain⟨ns,rfl⟩:=gk h.2;cases d with
  |int i=>exact⟨i::ns,rfl⟩
  |_=>simp[cG]at h
def numsOf(ds:aa):ae:=(intsOf ds).getD []
theorem gd(ns:ae):numsOf (ag ns)=ns:=by unfold numsOf ag;rw[bY];rfl
def cP(d:D)(n:Int):Bool:=match d with
 |.tup ds=>ds.all (cG n)&&decide ((sS (numsOf ds)).length=ds.length)
 |_=>false
def uF(d:D)(n:Int):Bool:=cP d n&&(match d with
 |.tup ds=>decide (numsOf ds=sortI (numsOf ds))
 |_=>false)
def iI(m:aE):Prop:=∀d n,xE d->m [d,.int n]=ok (.bl (cP d n))
noncomputable def dy:aj:=[.ifs (.not (.lg (.v 0) .tuple)) [.ret (.bl false)] [],.ifs (.not (.bf .all1 [(.comp 1 (.nm 0) [1] .seq [(.v 0)] [] (.and [(.call 0 [(.v 0)]),(.cmp .ge (.v 0) (.int 0)),(.cmp .lt (.v 0) (.v 1))]))])) [.ret (.bl false)] [],.ret (.cmp .eq (.kR (.v 0)) (.bf .len [(.v 0)]))]
theorem rV(Φ:bh)(b:eM (Φ 0)):iI (mk Φ 2 2 dy):=by
 intro d n j;unfold eM at b;cases d with
 |tup ds =>
  have h:ds.length<64:=j;have c:bz Φ (.comp 1 (.nm 0) [1] .seq [(.v 0)] [] (.and [(.call 0 [(.v 0)]),(.cmp .ge (.v 0) (.int 0)),(.cmp .lt (.v 0) (.v 1))])) [some (.tup ds),some (.int n)]=ok (.lst .ow (nC (ds.map (cG n)))):=by
   rw[cH (xs:=[.tup (aA bp ds)]) (by simp) (jH ..) (EI (g:=λd=>.bl (cG n d)) λx _=>⟨[some x,some (.int n)],by simp[bD],by simp,?_⟩) (by simp;exact cf (by left))]
   ·simp[bu,Function.comp_def,mO,nC]
   ·cases x with
    |int i =>
     simp[b,dY,du,cG]
    |_=>simp[b,dY,du,cG]
  cases a:ds.all (cG n)with
  |true =>
   obtain⟨ns,rfl⟩:=gk a;have f:ns.length<4000:=by simp at h;left
   have e:(List.all (List.map (cG n) (ag ns)) id)=true:=by rw[List.all_map];exact a
   simp[mk_eq,dy,du,c,e,NI f,cP,a,gd];simp[Int.natCast_inj]
  |false =>
   have e:(List.all (List.map (cG n) ds) id)=false:=by rw[List.all_map];exact a
   simp only[mk_eq,dy,List.length_cons,List.length_nil];simp[du,c,e,cP,a]
 |_=>simp[mk_eq,dy,du,cP]
def vG(m:aE):Prop:=∀d n,xE d->m [d,.int n]=ok (.bl (uF d n))
noncomputable def g_:aj:=[.ret (.and [(.call 43 [(.v 0),(.v 1)]),(.cmp .eq (.bf .list1 [(.v 0)]) (.bf .il [(.v 0)]))])]
theorem uq(n:Nat)(f:Fl)(ns:ae):eU (n+1) (.lst f (ag ns))=true:=jF (ir n) ns
theorem AL(ns a:ae):eF (ag ns) (ag a)=decide (ns=a):=lz (λx y=>sQ x y) ns a
theorem lh(g:Fl->Fl)(d:D)(n:Int):cP (aR g d) n=cP d n:=by
 cases d with
 |tup ds =>
  cases h:ds.all (cG n)with
  |true =>
   obtain⟨ns,rfl⟩:=gk h;simp
  |false =>
   have a:(aA g ds).all (cG n)=false:=by
    rw[bu,List.all_map,show(cG n∘aR g)=cG n from funext λd=>mO g n d];exact h
   simp[cP,h,a]
 |_=>simp[cP]
theorem rm{g:Fl->Fl}{d:D}(h:xE d):xE (aR g d):=by
 cases d<;>simp_all [xE]
theorem B0(Φ:bh)(g:iI (Φ 43)):vG (mk Φ 2 2 g_):=by
 intro d n b;have e1:=g (aR aZ (aR bp d)) n (rm (rm b));rw[lh,lh]at e1;cases d with
 |tup ds =>
  have f:ds.length<64:=b;simp only[C_]at e1;cases a:cP (.tup ds) n with
  |true =>
   have c:=a;simp only[cP,Bool.and_eq_true]at c;obtain⟨ns,rfl⟩:=gk c.1;have e:ns.length<64:=by simpa using f
   have e2:iD .eq (.lst .ow (ag ns)) (.lst .ow (ag (sortI ns)))=ok (.bl (decide (ns=sortI ns))):=by
    rw[SR (uq 39 _ _) (uq 39 _ _),lA,AL]
   rw[a]at e1;simp at e1;simp[mk_eq,g_,e1,Im e,e2,uF,a,gd]
  |false =>
   rw[a]at e1;simp[mk_eq,g_,e1,uF,a]
 |_=>(simp at e1;simp[mk_eq,g_,e1,uF,cP])
def vW(n:Nat)(l:ae):Prop:=l.Pairwise (· < ·)/\∀h∈l,0<=h/\h<(n:Int)
theorem sR:∀(l m:ae),(∀x∈l,x∉m)->l.Nodup->l.foldl (λ(m:ae) (k:Int)=>if m.any (· == k)then m else m++[k]) m=m++l
 |[],m,_,_=>by simp
 |x::l,m,h,hn=>by
  have b:m.any (· == x)=false:=by
   rw[List.any_eq_false];intro y a z;have:y=x:=by simpa using z
   exact h x aaf (this▸a)
  rw[List.foldl_cons,b,if_neg Bool.false_ne_true,sR l (m++[x])]
  ·simp
  ·intro y a z;rcases List.mem_append.mp z with z|z
   ·exact h y (aad _ a) z
   ·have:y=x:=by simpa using z
    subst this;exact(List.nodup_cons.mp hn).1 a
  ·exact(List.nodup_cons.mp hn).2
theorem vW.nodup{n:Nat}{l:ae}(h:vW n l):l.Nodup:=h.1.imp λz=>by left
theorem BP{l:ae}(h:l.Pairwise (· < ·)):sortI l=l:=by
 unfold sortI;apply List.mergeSort_of_pairwise;exact h.imp λz=>by simp;left
theorem vW.uF{n:Nat}{l:ae}(h:vW n l):uF (.tup (ag l)) n=true:=by
 have c:(ag l).all (cG n)=true:=by
  unfold ag;rw[List.all_map,List.all_eq_true];intro x a;have:=h.2 x a;simp[cG,this.1,this.2]
 have b:sS l=l:=by
  have:=sR l [] (by simp) h.nodup;rw[List.nil_append]at this;exact this
 simp[DI.uF,cP,c,gd,b,BP h.1]
noncomputable def pR(ns:ae)(k:Int):Int :=
 let c:=if k<ns.length then ns.getD k.toNat 0 else 0
 if (10:Int) ^ 18<=c then(c - 10 ^ 18).fmod (10 ^ 60)else
  let n:=(c*48271+k*69621+11).fmod 2147483629
  let n:=(n*n).fmod 2147483587
  n*2147483563+(n*n).fmod 2147483563
def Fj(m:aE):Prop:=∀(ns:ae) (k:Int),0<=k->m [.lst .sc (ag ns),.int k]=ok (.int (pR ns k))
noncomputable def fe:aj:=[.asg (.nm 2) (.int 0),.ifs (.cmp .lt (.v 1) (.bf .len [(.v 0)])) [.asg (.nm 2) (.ix (.v 0) (.v 1))] [],.ifs (.cmp .ge (.v 2) (.bin .pow (.int 10) (.int 18))) [.ret (.bin .mod (.bin .sub (.v 2) (.bin .pow (.int 10) (.int 18))) (.bin .pow (.int 10) (.int 60)))] [],.asg (.nm 3) (.bin .mod (.bin .add (.bin .add (.bin .mul (.v 2) (.int 48271)) (.bin .mul (.v 1) (.int 69621))) (.int 11)) (.int 2147483629)),.asg (.nm 3) (.bin .mod (.bin .mul (.v 3) (.v 3)) (.int 2147483587)),.ret (.bin .add (.bin .mul (.v 3) (.int 2147483563)) (.bin .mod (.bin .mul (.v 3) (.v 3)) (.int 2147483563)))]
theorem lu(a:Int){b:Int}(h:0<b):0<=a.fmod b/\a.fmod b<b:=⟨aci a h,acI a h⟩
theorem AW(Φ:bh)(x:D)(k c:Int)(l:du .list x=true)(o:aG):pI (bK Φ (fe.drop 2) [some x,some (.int k),some (.int c),o])=ok (.int (if (10:Int) ^ 18<=c then(c - 10 ^ 18).fmod (10 ^ 60)else
  let n:=(c*48271+k*69621+11).fmod 2147483629
  let n:=(n*n).fmod 2147483587
  n*2147483563+(n*n).fmod 2147483563)):=by
 have d:cW .pow (.int 10) (.int 18)=ok (.int (10 ^ 18)):=Kz (by decide);have e:cW .pow (.int 10) (.int 60)=ok (.int (10 ^ 60)):=Kz (by decide);by_cases h:(10:Int) ^ 18<=c
 ·have a:(1000000000000000000:Int)<=c:=h;simp[fe,d,e,a]
 ·have a:¬ (1000000000000000000:Int)<=c:=h;obtain⟨a1,a2⟩:=lu (c*48271+k*69621+11) (b:=2147483629) (by decide);generalize i:(c*48271+k*69621+11).fmod 2147483629=n at *;obtain⟨a3,a4⟩:=lu (n*n) (b:=2147483587) (by decide);have g:cW .mul (.int n) (.int n)=ok (.int (n*n)):=jZ (su _ (by left));generalize j:(n*n).fmod 2147483587=m at *;have f:cW .mul (.int m) (.int m)=ok (.int (m*m)):=jZ (su _ (by left));simp[fe,d,a,i,g,j,f]
theorem LG(Φ:bh):Fj (mk Φ 2 4 fe):=by
 intro ns k b;have:=λc=>AW Φ (.lst .sc (ag ns)) k c rfl none;by_cases h:k<ns.length
 ·have f:p9 (ag ns) k=ok (.int (ns.getD k.toNat 0)):=by
   have a:k.toNat<ns.length:=by left
   rw[at_of b (d:=.int (ns.getD k.toNat 0)) (by rw[qS,List.getElem?_eq_getElem a,Option.map_some,List.getD_eq_getElem?_getD,List.getElem?_eq_getElem a];rfl)];simp
  have e:pI (bK Φ fe ([some (D.lst Fl.sc (ag ns)),some (D.int k)]++[none,none]))=pI (bK Φ (fe.drop 2) [some (.lst .sc (ag ns)),some (.int k),some (.int (ns.getD k.toNat 0)),none]):=by
   rw[fe,bX,Jt];simp only[J_,Ks,uJ,pd];simp only[List.cons_append,List.nil_append,zG,List.length_cons,List.length_nil,Nat.reduceAdd,Nat.reduceLT,dG,List.set_cons_succ,List.set_cons_zero];rw[bX,Pj];simp[h,f]
  rw[mk_eq (ar:=2) (ds:=[_,_]) rfl];refine(show _=_ from e).trans ?_;rw[this,pR,if_pos h]
 ·have e:pI (bK Φ fe ([some (D.lst Fl.sc (ag ns)),some (D.int k)]++[none,none]))=pI (bK Φ (fe.drop 2) [some (.lst .sc (ag ns)),some (.int k),some (.int 0),none]):=by
   rw[fe,bX,Jt];simp only[J_,Ks,uJ,pd];simp only[List.cons_append,List.nil_append,zG,List.length_cons,List.length_nil,Nat.reduceAdd,Nat.reduceLT,dG,List.set_cons_succ,List.set_cons_zero];rw[bX,Pj];simp[h]
  rw[mk_eq (ar:=2) (ds:=[_,_]) rfl];refine(show _=_ from e).trans ?_;rw[this,pR,if_neg h]
noncomputable def kH:CS:=.KZ (.cmp .gt (.v 3) (.int 0)) [.par 2 3 (.v 3) (.bin .mod (.v 2) (.v 3))]
def lJ:aj:=[.asg (.nm 2) (.bf .abs [(.v 0)]),.asg (.nm 3) (.bf .abs [(.v 1)]),kH,.ifs (.cmp .lt (.v 1) (.int 0)) [.asg (.nm 2) (.bin .sub (.int 0) (.v 2))] [],.ret (.tup [(.bin .fdiv (.v 0) (.v 2)),(.bin .fdiv (.v 1) (.v 2))])]
theorem wR(Φ:bh)(x y:aG):∀(n:Nat) (a b:Nat),b<=n->mq Φ kH [x,y,some (.int a),some (.int b)]=ok (.nx,[x,y,some (.int (Nat.gcd a b)),some (.int 0)]):=by
 intro n;induction n with
 |zero =>
  intro a b h;have c:b=0:=by left
  subst c;rw[kH,qz];exact ic (by simp)
 |succ n f =>
  intro a b h;by_cases c:b=0
  ·subst c;rw[kH,qz];exact ic (by simp)
  ·have k:=Nat.mod_lt a (show 0<b by left);have e:=f b (a % b) (by left);have j:Nat.gcd b (a % b)=Nat.gcd a b:=by rw[Nat.gcd_comm a b,Nat.gcd_rec b a,Nat.gcd_comm]
   rw[j]at e;rw[kH,qz]at e ⊢;rw[<- e];have d:0<b:=by left
   have i:((a:Int)).fmod (b:Int)=((a % b:Nat):Int):=by
    rw[Int.fmod_eq_emod_of_nonneg _ (by left)];exact(Int.natCast_emod a b).symm
   have g:mq Φ (.par 2 3 (.v 3) (.bin .mod (.v 2) (.v 3))) [x,y,some (.int a),some (.int b)]=ok (.nx,[x,y,some (.int b),some (.int ((a % b:Nat):Int))]):=by
    rw[Pf];simp[c,i]
   exact oA (by simp[d,g])
theorem GH(Φ:bh):om (mk Φ 2 4 lJ):=by
 intro t b c h;obtain⟨e1,e2⟩:=sP (t:=t) c;have i:=n8 (t:=t) c h t;have g:=n8 (t:=t) c h b;have e:=wR Φ (some (.int t)) (some (.int b)) b.natAbs t.natAbs b.natAbs (aal _);rw[qD,<- e1,<- e2];by_cases a:b<0
 ·have f:0 - (Nat.gcd t.natAbs b.natAbs:Int)=fP t b:=by simp[fP,a,Int.gcd]
  have d:-(Nat.gcd t.natAbs b.natAbs:Int)=fP t b:=by simp[fP,a,Int.gcd]
  simp[mk_eq,lJ,e,a,d,i,g]
 ·have f:(Nat.gcd t.natAbs b.natAbs:Int)=fP t b:=by simp[fP,a,Int.gcd]
  simp[mk_eq,lJ,e,a,f,i,g]
def Fh(m:aE):Prop:=∀q,m [qD q]=ok (.bl true)
noncomputable def zD:aj:=[.ifs (.or [(.not (.lg (.v 0) .tuple)),(.cmp .ne (.bf .len [(.v 0)]) (.int 2))]) [.ret (.bl false)] [],.ret (.cmp .eq (.bf .len [(.comp 1 (.nm 0) [] .seq [(.v 0)] [(.or [(.not (.lg (.v 0) .int)),(.lg (.v 0) .bool)])] (.v 0))]) (.int 0))]
theorem Ql(Φ:bh):Fh (mk Φ 1 1 zD):=by
 intro q;have a:bz Φ (.comp 1 (.nm 0) [] .seq [(.v 0)] [(.or [(.not (.lg (.v 0) .int)),(.lg (.v 0) .bool)])] (.v 0)) [some (qD q)]=ok (.lst .ow []):=by
  rw[cH (xs:=[qD q]) (items:=[.int q.num,.int q.den]) (ds:=[]) (by simp) (by unfold qD;rw[jH];simp) (by simp[gW,bD,du]) (by simp)];simp
 have c:du .tuple (qD q)=true:=rfl;have b:oi .len [qD q]=ok (.int 2):=rfl;simp[mk_eq,zD,a,c,b]
theorem z8{q:Rat}(h:0<q):0<q.num:=by
 have:=(Rat.lt_iff 0 q).mp h;simpa using this
theorem vW.len{n:Nat}{l:ae}(h:vW n l):l.length<=n:=by
 have d:(l.map Int.toNat).Nodup:=by
  unfold List.Nodup;rw[List.pairwise_map];refine h.1.imp_of_mem λg f z e=>?_;have:=h.2 _ g;have:=h.2 _ f;left
 have c:(l.map Int.toNat) ⊆ List.range n:=λx b=>by
  obtain⟨y,a,rfl⟩:=List.mem_map.mp b;have:=h.2 y a;rw[List.mem_range];left
 have:=d.length_le_of_subset c;simpa using this
theorem vW.dz{n:Nat}{l:ae}(h:vW n l)(a:n<=12):xE (.tup (ag l)):=by
 have:=h.len;show(ag l).length<64;simp;left
theorem Qc{t b:Int}{k:Nat}(d:b≠0)(c:t.natAbs<2 ^ k)(a:b.natAbs<2 ^ k):Sm k (Rat.divInt t b):=z4 d c a
theorem xl{t b:Int}(c:0<t)(d:0<b):0<Rat.divInt t b:=by
 rw[Rat.divInt_eq_div];have f:(0:Rat)<(t:Rat):=by
  have:=Rat.intCast_lt_intCast (a:=0) (b:=t);simpa using this.mpr c
 have e:(0:Rat)<(b:Rat):=by
  have:=Rat.intCast_lt_intCast (a:=0) (b:=b);simpa using this.mpr d
 rw[Rat.div_def];exact Rat.mul_pos f (Rat.inv_pos.mpr e)
theorem Sm.zero(k:Nat)(h:1<=k):Sm k 0:=by
 have:Sm 1 (0:Rat):=by constructor<;>decide
 exact this.mono h
theorem Sm.sum{k:Nat}:∀{qs:bw},(∀q∈qs,Sm k q)->Sm (1+(k+1)*qs.length) qs.sum
 |[],_=>Sm.zero _ (by simp)
 |q::qs,h=>by
  have c:=h q aaf;have b:=Sm.sum (qs:=qs) λp a=>h p (aad _ a);rw[List.sum_cons];refine(c.add b).mono ?_;rw[List.length_cons,Nat.mul_succ];left
noncomputable def Vv(l:ae)(f:Int->Rat):Rat:=(l.map f).sum
@[simp]theorem P8(f:Int->Rat):Vv [] f=0:=rfl
abbrev Row:=Rat×ae
abbrev af:=List Row
def rD(r:Row):D:=.tup [qD r.1,.tup (ag r.2)]
@[simp]theorem Ml(g:Fl->Fl)(r:Row):aR g (rD r)=rD r:=by unfold rD;simp
@[simp]theorem M3(g:Fl->Bool)(r:Row):aV g (rD r)=false:=by unfold rD;simp
noncomputable def aS(a:af):aa:=a.map rD
@[simp]theorem fx(a:af):(aS a).length=a.length:=aa3 ..
@[simp]theorem cE(g:Fl->Fl)(a:af):aA g (aS a)=aS a:=eJ g (Ml g) a
@[simp]theorem gR(g:Fl->Bool)(a:af):aP g (aS a)=false:=cT g (M3 g) a
theorem CN(n:Nat)(r:Row):eU (n+2) (rD r)=true:=by
 unfold rD;rw[sg,List.all_cons,List.all_cons,QK n];have:eU (n+1) (.tup (ag r.2))=true:=by
  rw[sg];exact jF (λ_=>by cases n<;>rfl) r.2
 rw[this];rfl
theorem El(a b:ae):eF (ag a) (ag b)=decide (a=b):=lz (λx y=>by show(x==y)=_;rfl) a b
theorem Ss(r s:Row):nu (rD r) (rD s)=decide (r=s):=by
 unfold rD;show(nu (qD r.1) (qD s.1)&&(eF (ag r.2) (ag s.2)&&true))=_;rw[Su,El,Bool.and_true];have:decide (r=s)=decide (r.1=s.1/\r.2=s.2):=by
  congr 1;exact propext ⟨λh=>by rw[h];exact⟨rfl,rfl⟩,λh=>Prod.ext h.1 h.2⟩
 rw[this,<- Bool.decide_and]
theorem zd(r s:af):eF (aS r) (aS s)=decide (r=s):=lz Ss r s
def cD(n:Nat)(a:af):D:=.tup [.int n,.lst .fz (aS a)]
def YS(a:af):Prop:=∃W:Nat,0<W/\W<2 ^ 250/\∀r∈a,r.1.den∣W
def Rw(n:Nat)(l:ae):Prop:=l.Nodup/\l.length<=n/\∀h∈l,0<=h/\h<(n:Int)
theorem vW.rw{n:Nat}{l:ae}(h:vW n l):Rw n l:=⟨h.nodup,h.len,h.2⟩
noncomputable def nB(a:af):bw:=a.map (·.1)
structure Dp(P:ae->Prop)(k n:Nat)(rs:af):Prop where
 n1:1<=n
 n2:n<=12
 fin:YS rs
 len:rs.length<=1000
 lot:∀r∈rs,P r.2
 pos:∀r∈rs,0<r.1
 sm:∀r∈rs,Sm k r.1
 one:(rs.map (·.1)).sum=1
 rise:vH (rs.map (·.2))
 sl:∃j,vV j (nB rs)
abbrev Dr(k n:Nat)(a:af):Prop:=Dp (vW n) k n a
theorem Dp.imp{P Q:ae->Prop}{k n:Nat}{a:af}(I:Dp P k n a)(h:∀r∈a,P r.2->Q r.2):Dp Q k n a:=⟨I.n1,I.n2,I.fin,I.len,λr b=>h r b (I.lot r b),I.pos,I.sm,I.one,I.rise,I.sl⟩
section
variable {P:ae->Prop}{k n:Nat}{rs:af}(I:Dp P k n rs)
include I
end
def pT(m:aE):Prop:=∀(r:Row) (n:Nat),n<=12->Rw n r.2->0<r.1->m [rD r,.int n]=ok (.bl true)
noncomputable def lK:aj:=[.ifs (.or [(.not (.lg (.v 0) .tuple)),(.cmp .ne (.bf .len [(.v 0)]) (.int 2))]) [.ret (.bl false)] [],.ifs (.not (.call 43 [(.ix (.v 0) (.int 1)),(.v 1)])) [.ret (.bl false)] [],.ret (.and [(.call 3 [(.ix (.v 0) (.int 0))]),(.cmp .gt (.ix (.ix (.v 0) (.int 0)) (.int 0)) (.int 0))])]
theorem Rw.MN{n:Nat}{l:ae}(h:Rw n l):cP (.tup (ag l)) n=true:=by
 have c:(ag l).all (cG n)=true:=by
  unfold ag;rw[List.all_map,List.all_eq_true];intro x a;have:=h.2.2 x a;simp[cG,this.1,this.2]
 have b:sS l=l:=by
  have:=sR l [] (by simp) h.1;rw[List.nil_append]at this;exact this
 simp[cP,c,gd,b]
theorem Rw.dz{n:Nat}{l:ae}(h:Rw n l)(a:n<=12):xE (.tup (ag l)):=by
 have:=h.2.1;show(ag l).length<64;simp;left
theorem BZ(Φ:bh)(d:j5 (Φ 3))(e:iI (Φ 43)):pT (mk Φ 2 2 lK):=by
 intro r n c a b;have e1:=e (.tup (ag r.2)) n (a.dz c);rw[a.MN]at e1;have e2:=d (qD r.1);rw[Ii]at e2;have f:=z8 b;have e3:rD r=.tup [qD r.1,.tup (ag r.2)]:=rfl;have e4:qD r.1=.tup [.int r.1.num,.int r.1.den]:=rfl;simp[mk_eq,lK,e3,du,e1,e2];simp[e4,f]
theorem GJ(c:Φ 1022=OQ){a b:ae}(h:HT.lexLt a b=true):Φ 1022 [.tup (ag a),.tup (ag b)]=ok (.bl false):=by
 rw[c];show(match intsOf (ag a)with|some ns=>(match intsOf (ag b)with|some ms=>ok (D.bl (!HT.lexLt ns ms))|none=>none)|none=>none)=_;unfold ag;rw[bY,bY];show ok (D.bl (!HT.lexLt a b))=_;rw[h];rfl
def mZ(m:aE):Prop:=∀(a:af),1<=a.length->vH (a.map (·.2))->m [.lst .fz (aS a)]=ok (.bl true)
noncomputable def Gj:aj:=[.ifs (.cS 1022 [(.ix (.v 1) (.int 1)),(.ix (.v 2) (.int 1))]) [.ret (.bl false)] []]
def gq:aj:=[.fr (.tp [1,2]) (.LW 1000 [(.v 0),(.cS 1020 [(.v 0),(.int 1)])]) Gj,.ret (.bl true)]
theorem yj(Φ:bh)(j:Φ 1022=OQ)(b:aG):∀(a:af) (r:Row) (f c:aG),vH ((r::a).map (·.2)) ->
  ∃g i,dE (λd ρ=>cB (.tp [1,2]) d ρ) (λρ=>bK Φ Gj ρ) (List.zipWith (λx y=>D.tup [x,y]) (aS (r::a)) (aS a)) [b,f,c]=ok (.nx,[b,g,i])
 |[],r,f,c,_=>⟨f,c,rfl⟩
 |s::a,r,f,c,h=>by
  have k:=List.pairwise_cons.mp h;obtain⟨g,i,l⟩:=yj Φ j b a s (some (rD r)) (some (rD s)) k.2;have m:=k.1 s.2 (by simp);have e:=GJ j m;refine⟨g,i,bZ (ρ1:=[b,some (rD r),some (rD s)]) (by simp) (ρ2:=[b,some (rD r),some (rD s)]) ?_ l⟩;have e1:∀r:Row,rD r=.tup [qD r.1,.tup (ag r.2)]:=λ_=>rfl;simp[Gj,e1,e]
theorem ue(Φ:bh)(j:Φ 1000=FQ)(k:Φ 1020=cutD true)(d:Φ 1022=OQ):mZ (mk Φ 1 3 gq):=by
 intro a i g;obtain⟨r,a,rfl⟩:∃r f,a=r::f:=by
  cases a with
  |nil=>simp at i
  |cons r a=>exact⟨r,a,rfl⟩
 obtain⟨m,l,e⟩:=yj Φ d (some (.lst .fz (aS (r::a)))) a r none none g;have e1:Φ 1020 [.lst .fz (aS (r::a)),.int 1]=ok (.lst .ow (aS a)):=by
  rw[k];show(if (0:Int)<=1/\(1:Int)<=((aS (r::a)).length:Nat)then ok (D.lst .ow (aA bp (qq true (1:Int).toNat (aS (r::a)))))else none)=_;rw[if_pos ⟨by decide,by simp;left⟩];show ok (D.lst .ow (aA bp (aS a)))=_;simp
 have e2:Φ 1000 [.lst .fz (aS (r::a)),.lst .ow (aS a)]=ok (.lst .ow (List.zipWith (λx y=>D.tup [x,y]) (aS (r::a)) (aS a))):=by rw[j];rfl
 have e3:aA aZ (List.zipWith (λx y=>D.tup [x,y]) (aS (r::a)) (aS a))=List.zipWith (λx y=>D.tup [x,y]) (aS (r::a)) (aS a):=by
  have:=gh aZ (aS (r::a)) (aS a);rw[cE,cE]at this;exact this
 have c:bQ Φ (.LW 1000 [(.v 0),(.cS 1020 [(.v 0),(.int 1)])]) [some (.lst .fz (aS (r::a))),none,none]=ok (List.zipWith (λx y=>D.tup [x,y]) (aS (r::a)) (aS a),[some (.lst .fz (aS (r::a))),none,none]):=by
  show bd (b0 Φ [(.v 0),(.cS 1020 [(.v 0),(.int 1)])] [some (.lst .fz (aS (r::a))),none,none]) _=_;have:b0 Φ [(.v 0),(.cS 1020 [(.v 0),(.int 1)])] [some (.lst .fz (aS (r::a))),none,none]=ok [.lst .fz (aS (r::a)),.lst .ow (aS a)]:=by simp[e1]
  rw[this,cQ,e2,cQ];show ok (aA aZ (List.zipWith (λx y=>D.tup [x,y]) (aS (r::a)) (aS a)),if aP bW [D.lst .fz (aS (r::a)),.lst .ow (aS a)]then _ else _)=_;rw[e3];simp
 have h:=cX (Φ:=Φ) (t:=.tp [1,2]) (b:=Gj) c e;simp[mk_eq,gq,h]
def oW(a:af):aa:=a.map λr=>.tup (ag r.2)
@[simp]theorem oU(g:Fl->Fl)(a:af):aA g (oW a)=oW a:=eJ g (λr=>by simp) a
@[simp]theorem MZ(g:Fl->Bool)(a:af):aP g (oW a)=false:=cT g (λr=>by simp) a
def FV(b:Nat)(a:af):aa:=a.map λr=>.tup [.int (fX b r.1),.tup (ag r.2)]
@[simp]theorem QT(g:Fl->Fl)(b:Nat)(a:af):aA g (FV b a)=FV b a:=eJ g (λr=>by simp) a
@[simp]theorem RR(g:Fl->Bool)(b:Nat)(a:af):aP g (FV b a)=false:=cT g (λr=>by simp) a
noncomputable def Iu:CE:=.comp 2 (.tp [0,1]) [] .seq [(.v 0)] [] (.v 0)
noncomputable def Ir:CE:=.comp 2 (.tp [0,1]) [] .seq [(.v 0)] [] (.v 1)
theorem SO(Φ:bh){a:af}(h:a.length<=1000)(r:bo):bz Φ Iu (some (.lst .fz (aS a))::r)=ok (.lst .ow (eT (nB a))):=by
 unfold Iu;rw[cH (xs:=[.lst .fz (aS a)]) (items:=aS a) (ds:=a.map λr=>qD r.1) (by simp) (by rw[dt];simp) (bP λr b=>?_) (by simp;exact cf (by left))]
 ·simp[eT,nB,bu]
 ·exact⟨[some (qD r.1),some (.tup (ag r.2))],by simp[bD,rD],by simp,by simp⟩
theorem Q0(Φ:bh){a:af}(h:a.length<=1000)(r:bo):bz Φ Ir (some (.lst .fz (aS a))::r)=ok (.lst .ow (oW a)):=by
 unfold Ir;rw[cH (xs:=[.lst .fz (aS a)]) (items:=aS a) (ds:=a.map λr=>.tup (ag r.2)) (by simp) (by rw[dt];simp) (bP λr b=>?_) (by simp;exact cf (by left))]
 ·exact aa5 (λx=>ok (D.lst .ow x)) (oU gU a)
 ·exact⟨[some (qD r.1),some (.tup (ag r.2))],by simp[bD,rD],by simp,by simp⟩
def rC(m:aE):Prop:=∀(a:af) k,vV k (nB a)->m [.lst .fz (aS a)]=ok (.tup [.int (jQ (nB a)),.lst .ow (FV (jQ (nB a)) a)])
def jK:aj:=[.asg (.nm 1) Iu,.asg (.nm 2) Ir,.asg (.nm 3) (.call 9 [(.v 1)]),.ret (.tup [(.v 3),(.cS 1040 [(.call 10 [(.v 1),(.v 3)]),(.v 2)])])]
theorem z7(Φ:bh)(e:ff (Φ 9))(h:jr (Φ 10))(g:Φ 1040=QZ):rC (mk Φ 1 4 jK):=by
 intro a k c;have d:a.length<=1000:=by have:=c.len;simpa [nB]using this
 have e1:=SO Φ d;have e2:=Q0 Φ d;have e3:=λf=>e f (nB a) k c;have e4:=λf=>h f (nB a) k (jQ (nB a)) c c.Mq;generalize jQ (nB a)=b at *;have e5:Φ 1040 [.lst .ow (ag ((nB a).map (fX b))),.lst .al (oW a)]=ok (.lst .ow (FV b a)):=by
  rw[g];show ok (D.lst .ow (aA bp (List.zipWith pairD (ag ((nB a).map (fX b))) (oW a))))=_;rw[gh,dS,oU];unfold nB ag oW FV;rw[List.map_map,List.map_map,List.zipWith_map,List.zipWith_self];rfl
 simp[mk_eq,jK,Q8 Φ Iu _ rfl,Q8 Φ Ir _ rfl,e1,e2,e3,e4,e5]
noncomputable def NN:CE:=.comp 2 (.tp [0,1]) [] .seq [(.ix (.v 1) (.int 1))] [] (.v 0)
def j4(m:aE):Prop:=∀(a:af) k,vV k (nB a)->(nB a).sum=1->m [.lst .fz (aS a)]=ok (.bl true)
def eP:aj:=[.asg (.nm 1) (.call 14 [(.v 0)]),.ret (.cmp .eq (.bf .gy [NN]) (.ix (.v 1) (.int 0)))]
theorem BC{b:Nat}(h:∀q∈qs,q.den∣b)(a:qs.sum=1):(qs.map (fX b)).sum=(b:Int):=by
 have:=oE h;rw[a,Rat.one_mul,<- Rat.intCast_natCast]at this;exact Rat.intCast_inj.mp this
theorem qf(Φ:bh)(d:rC (Φ 14)):j4 (mk Φ 1 2 eP):=by
 intro a k c g;have i:a.length<=1000:=by have:=c.len;simpa [nB]using this
 have e1:=d a k c;have f:=c.lcm;have e2:=BC f.2.2 g;generalize jQ (nB a)=b at *;have e3:∀e,bz Φ NN [e,some (.tup [.int b,.lst .ow (FV b a)])]=ok (.lst .ow (ag ((nB a).map (fX b)))):=λe=>by
  unfold NN;rw[cH (xs:=[.lst .al (FV b a)]) (items:=FV b a) (ds:=a.map λr=>.int (fX b r.1)) (by simp) (by rw[dt];simp) (bP λr h=>?_) (by simp;exact cf (by left))]
  ·simp[ag,nB,bu]
  ·exact⟨[some (.int (fX b r.1)),some (.tup (ag r.2))],by simp[bD],by simp,by simp⟩
 have e4:oi .gy [.lst .ow (ag ((nB a).map (fX b)))]=ok (.int b):=by
  show(match intsOf (ag ((nB a).map (fX b)))with|some ns=>ok (D.int ns.sum)|none=>none)=_;unfold ag;rw[bY];show ok (D.int ((nB a).map (fX b)).sum)=_;rw[e2]
 have e5:iD .eq (.int (b:Int)) (.int (b:Int))=ok (.bl true):=by
  show(if eU 40 (.int (b:Int))&&eU 40 (.int (b:Int))then ok (D.bl ((b:Int)==(b:Int)))else none)=_;simp[eU]
 simp[mk_eq,eP,e1,e3,e4,e5]
noncomputable def nL:aj:=[.ifs (.not (.call 12 [(.v 3),(.v 1)])) [.ret (.bl false)] []]
def iG:aj:=[.ifs (.or [(.not (.lg (.v 0) .tuple)),(.cmp .ne (.bf .len [(.v 0)]) (.int 2))]) [.ret (.bl false)] [],.asg (.nm 1) (.ix (.v 0) (.int 0)),.asg (.nm 2) (.ix (.v 0) (.int 1)),.ifs (.or [(.not (.call 0 [(.v 1)])),(.cmp .lt (.v 1) (.int 1)),(.cmp .gt (.v 1) (.glo "MOST_HOUSES" 12))]) [.ret (.bl false)] [],.ifs (.not (.lg (.v 2) .list)) [.ret (.bl false)] [],.fr (.nm 3) (.seq (.v 2)) nL,.ret (.and [(.call 44 [(.v 2)]),(.call 15 [(.v 2)])])]
def Tp(m:aE):Prop:=∀k n a,Dr k n a->m [cD n a]=ok (.bl true)
def KJ(m:aE):Prop:=∀k n a,Dp (Rw n) k n a->m [cD n a]=ok (.bl true)
theorem pL(Φ:bh)(k:pT (Φ 12)){n:Nat}(i:n<=12)(b a:aG):∀(c:af) (f:aG),(∀r∈c,Rw n r.2/\0<r.1)->∃g,dE (λd ρ=>cB (.nm 3) d ρ) (λρ=>bK Φ nL ρ) (aS c) [b,some (.int n),a,f]=ok (.nx,[b,some (.int n),a,g])
 |[],f,_=>⟨f,rfl⟩
 |r::c,f,h=>by
  obtain⟨g,l⟩:=pL Φ k i b a c (some (rD r)) λs m=>h s (aad _ m);have j:=h r aaf;have e:=k r n i j.1 j.2;refine⟨g,bZ (ρ1:=[b,some (.int n),a,some (rD r)]) (by simp) (ρ2:=[b,some (.int n),a,some (rD r)]) ?_ l⟩;simp[nL,e]
theorem Dp.some{P:ae->Prop}{k n:Nat}{a:af}(I:Dp P k n a):1<=a.length:=by
 cases a with
 |nil=>have:=I.one;simp at this
 |cons r a=>simp
theorem wA(Φ:bh)(o:eM (Φ 0))(u:pT (Φ 12))(g:j4 (Φ 15))(e:mZ (Φ 44)):KJ (mk Φ 1 4 iG):=by
 intro k n a I;have w:=I.n1;have l:=I.n2;obtain⟨m,j⟩:=I.sl;have e1:=g a m j I.one;have e2:=e a I.some I.rise;have e3:Φ 0 [.int (n:Int)]=ok (.bl true):=by rw[o];rfl
 obtain⟨x,e4⟩:=pL Φ u l (some (cD n a)) (some (.lst .fz (aS a))) a none λr h=>⟨I.lot r h,I.pos r h⟩
 have d:bQ Φ (.seq (.v 2)) [some (cD n a),some (.int n),some (.lst .fz (aS a)),none]=ok (aS a,[some (cD n a),some (.int n),some (.lst .fz (aS a)),none]):=by
  rw[jR (f:=.fz) (ds:=aS a) (by simp)];simp
 have i:=cX (Φ:=Φ) (t:=.nm 3) (b:=nL) d e4;have q:iD .lt (.int (n:Int)) (.int 1)=ok (.bl false):=by
  show ok (D.bl (decide ((n:Int)<1)))=_;rw[decide_eq_false (by left)]
 have p:iD .gt (.int (n:Int)) (.int 12)=ok (.bl false):=by
  show ok (D.bl (decide ((12:Int)<n)))=_;rw[decide_eq_false (by left)]
 have c:∀ds,du .tuple (.tup ds)=true:=λ_=>rfl;have s:∀f ds,du .list (.lst f ds)=true:=λ_ _=>rfl;unfold cD at i ⊢;simp[mk_eq,iG,c,s,e3,q,p,i,e2,e1]
noncomputable def NP:CE:=.comp 2 (.tp [0,1]) [0] .seq [(.ix (.v 0) (.int 1))] [] (.call 11 [(.v 1),(.ix (.v 2) (.int 0))])
def fB:aj:=[.ret (.and [(.call 45 [(.v 0)]),(.bf .all1 [NP])])]
theorem rS(Φ:bh)(b:vG (Φ 11))(i:KJ (Φ 45)):Tp (mk Φ 1 1 fB):=by
 intro k n a I;have e1:=i k n a (I.imp λ_ _ h=>h.rw);have e2:bz Φ NP [some (cD n a)]=ok (.lst .ow (nC (a.map λ_=>true))):=by
  unfold NP;rw[cH (xs:=[.lst .fz (aS a)]) (items:=aS a) (ds:=a.map λ_=>.bl true) (by simp[cD]) (by rw[dt];simp) (bP λr g=>?_) (by simp;exact cf (by have:=I.len;left))]
  ·simp[nC,bu]
  ·have c:=I.lot r g;have e:=b (.tup (ag r.2)) n (c.dz I.n2);rw[c.uF]at e;exact⟨[some (qD r.1),some (.tup (ag r.2)),some (cD n a)],by simp[bD,rD,cD],by simp,by simp[cD,e]⟩
 have e3:oi .all1 [.lst .ow (nC (a.map λ_=>true))]=ok (.bl true):=by
  show(match jq (nC (a.map λ_=>true))with|some bs=>ok (D.bl (bs.all id))|none=>none)=_;unfold nC;rw[mD];show ok (D.bl ((a.map λ_=>true).all id))=_;congr 2;simp
 have f:aR aZ (cD n a)=cD n a:=by simp[cD]
 have d:aR bp (cD n a)=cD n a:=by simp[cD]
 simp[mk_eq,fB,f,d,e1,e2,e3]
def dO(m:aE):Prop:=∀k n a,Dr k n a->m [cD n a]=ok .cF
noncomputable def dJ:aj:=[.ifs (.not (.call 16 [(.v 0)])) [.rs 1] []]
theorem ng(Φ:bh)(b:Tp (Φ 16)):dO (mk Φ 1 1 dJ):=by
 intro k n a I;have e1:=b k n a I;have d:aR aZ (cD n a)=cD n a:=by simp[cD]
 have c:aR bp (cD n a)=cD n a:=by simp[cD]
 simp[mk_eq,dJ,d,c,e1]
theorem ox{p i:Nat}{es:aH}{d d':D}(e:b0 Φ es ρ=ok xs)(c:aP bW xs=false)(b:ρ[i]?=some (some d))(a:Φ p (d::xs)=ok d'):mq Φ (.mut p i es) ρ=ok (.nx,ρ.set i (some d')):=by
 show bd (b0 Φ es ρ) (λxs=>sj Φ p i (kY es xs ρ))=_;rw[e,cQ];unfold kY;rw[c,if_neg Bool.false_ne_true];unfold sj;rw[b];show bd (Φ p (d::xs)) _=_;rw[a];rfl
theorem qW(c:ae):∀(cs:az) (ws:ae),bJ cs (ag ws) c=(bJ cs ws c).map D.int
 |[],_=>by cases ‹ae› <;> rfl
 |_::_,[]=>rfl
 |c'::cs,w::ws=>by
  show(if c'=c then some (D.int w)else bJ cs (ag ws) c)=Option.map D.int (if c'=c then some w else bJ cs ws c);by_cases e:c'=c
  ·rw[if_pos e,if_pos e];rfl
  ·rw[if_neg e,if_neg e];exact qW c cs ws
theorem qG(c:ae)(v:Int):∀(cs:az) (ws:ae),setC cs (ag ws) c (.int v)=ag (setC cs ws c v)
 |[],_=>by cases ‹ae› <;> rfl
 |_::_,[]=>rfl
 |c'::cs,w::ws=>by
  show(if c'=c then D.int v else D.int w)::setC cs (ag ws) c (.int v)=D.int (if c'=c then v else w)::ag (setC cs ws c v);rw[qG c v cs ws];by_cases e:c'=c
  ·rw[if_pos e,if_pos e]
  ·rw[if_neg e,if_neg e]
theorem wb(cs:az)(ws:ae)(c:ae)(v:Int):bI cs (ag ws) c (.int v)=ag (bI cs ws c v):=by
 unfold bI;by_cases e:c∈cs
 ·rw[if_pos e,if_pos e];exact qG c v cs ws
 ·rw[if_neg e,if_neg e];simp
def iC(cs:az)(ws:ae)(c:ae):Int:=(bJ cs ws c).getD 0
theorem uV{a:Type}{c:ae}:∀{cs:az} (ws:List a),c∉cs->bJ cs ws c=none
 |[],_,_=>by cases ‹List a› <;> rfl
 |_::_,[],_=>rfl
 |c'::cs,w::ws,h=>by
  show(if c'=c then some w else bJ cs ws c)=none;rw[if_neg λe=>h (by rw[e];exact List.mem_cons_self)];exact uV ws λz=>h (aad _ z)
theorem nZ{a:Type}{c:ae}:∀{cs:az} {ws:List a},cs.length=ws.length->c∈cs->∃w,bJ cs ws c=some w/\w∈ws
 |[],_,_,h=>nomatch h
 |_::_,[],hl,_=>by simp at hl
 |c'::cs,w::ws,hl,h=>by
  by_cases e:c'=c
  ·exact⟨w,aa2 e,aaf⟩
  ·have d:c∈cs:=(List.mem_cons.mp h).resolve_left λz=>e z.symm;obtain⟨b,e1,e2⟩:=nZ (cs:=cs) (ws:=ws) (by simpa using hl) d;exact⟨b,(acQ e).trans e1,aad _ e2⟩
theorem uy:∀{cs:az} {ws:ae},cs.Nodup->cs.length=ws.length->cs.map (iC cs ws)=ws
 |[],[],_,_=>rfl
 |[],_::_,_,h=>by simp at h
 |_::_,[],_,h=>by simp at h
 |c::cs,w::ws,hn,hl=>by
  have a:=List.nodup_cons.mp hn;have b:=uy (cs:=cs) (ws:=ws) a.2 (by simpa using hl);rw[List.map_cons];have e1:iC (c::cs) (w::ws) c=w:=by
   show(if c=c then some w else bJ cs ws c).getD 0=w;rw[if_pos rfl];rfl
  have e2:cs.map (iC (c::cs) (w::ws))=cs.map (iC cs ws):=aaP λx d=>by
   show(if c=x then some w else bJ cs ws x).getD 0=_;rw[if_neg (show ¬ c=x from λz=>a.1 (by rw[z];exact d))];rfl
  rw[e1,e2,b]
theorem t8{c:ae}{v:Int}:∀{cs:az} {ws:ae} {x:Int},x∈setC cs ws c v->x∈ws\/x=v
 |[],_,_,h=>by cases ‹ae› <;> exact nomatch h
 |_::_,[],_,h=>nomatch h
 |c'::cs,w::ws,x,h=>by
  have h:x∈(if c'=c then v else w)::setC cs ws c v:=h;rcases List.mem_cons.mp h with e|h
  ·by_cases q:c'=c
   ·rw[if_pos q]at e;exact .inr e
   ·rw[if_neg q]at e;rw[e];exact .inl aaf
  ·rcases t8 h with h|h
   ·exact .inl (aad _ h)
   ·exact .inr h
structure Tab(P:ae->Prop)(j:Nat)(cs:az)(ws:ae):Prop where
 nd:cs.Nodup
 ln:cs.length=ws.length
 FE:cs.length<=j
 lot:∀c∈cs,P c
 pos:∀w∈ws,1<=w
 sum:ws.sum<=7*j
 ne:1<=j->cs≠[]
theorem Tab.get{n:ae->Prop}{j:Nat}{cs:az}{ws:ae}(T:Tab n j cs ws)(c:ae):0<=iC cs ws c:=by
 by_cases h:c∈cs
 ·obtain⟨w,e,m⟩:=nZ T.ln h;unfold iC;rw[e];have:=T.pos w m;show 0<=w;left
 ·unfold iC;rw[uV ws h];exact abD _
def jO(cs:az)(ws:ae):af:=(bx cs).map λc=>(Rat.divInt (iC cs ws c) ws.sum,c)
theorem ye(W:Int)(b:W≠0):∀a:ae,(a.map λx=>Rat.divInt x W).sum=Rat.divInt a.sum W
 |[]=>by simp
 |x::a=>by
  rw[List.map_cons,List.sum_cons,ye W b a,List.sum_cons,Rat.divInt_eq_div,Rat.divInt_eq_div,Rat.divInt_eq_div,Rat.intCast_add];grind
theorem Cw{a b:bw}(h:a.Perm b):a.sum=b.sum:=by
 induction h with
 |nil=>rfl
 |cons x _ c=>rw[List.sum_cons,List.sum_cons,c]
 |swap x y l=>rw[List.sum_cons,List.sum_cons,List.sum_cons,List.sum_cons];grind
 |trans _ _ e d=>rw[e,d]
theorem V4(n:Nat)(t:Nat->Bool):vW n (((List.range n).filter t).map λ(k:Nat)=>(k:Int)):=by
 refine⟨?_,λh b=>?_⟩
 ·rw[List.pairwise_map];refine(List.Pairwise.filter _ List.pairwise_lt_range).imp λz=>?_;left
 ·obtain⟨k,a,rfl⟩:=List.mem_map.mp b;have:=List.mem_range.mp (List.mem_filter.mp a).1;left
theorem xn{t b:Int}(c:b≠0):(Rat.divInt t b).den∣b.natAbs:=by
 obtain⟨g,a,e1,e2,j,e,i,h⟩:=oP (t:=t) c;obtain⟨k,f⟩:=sP (t:=t) c;rw[show b.fdiv (fP t b)=a from e]at f;have d:(Rat.divInt t b).den=a.natAbs:=by left
 have:b.natAbs=(fP t b).natAbs*a.natAbs:=by rw[<- Int.natAbs_mul,<- e2]
 rw[d,this];exact Nat.dvd_mul_left ..
end DI
end
section
namespace DI
open PySem PySem.Spec PyProof.Rows L2
def Df(K:av)(x:Str)(st:Stmt):Prop:=∃f a,zN K x x st f a/\PySem.W.nsIn K mainGlobals x=some (some (.ref f))
variable {K:av}{f:Addr}{st:Stmt}
theorem dmk{x:Str}{oc:Value}{g j:Option Addr}{d:Array (Option Value)}{h i e b ct:Value}(a:PySem.W.nsIn K mainGlobals x=some (some (.ref f)))(l:K.lookup f=some ⟨oc,g,.func (PySem.W.fnOf x x (dH st) (br st) (aF st) .none h i e j b ct),d⟩)(c:PySem.W.codeIn K b x=true)(k:PySem.W.keepIn K (.ref f)=true):Df K x st:=⟨f,_,Nf l c k,a⟩
noncomputable def OR(N P:ak)(sc:Scope):Bool:=decide (sc.kind=.function)&&(!sc.isCoroutine&&(!sc.isGenerator&&(decide N.Nodup&&(decide (N.take P.length=P)&&(P.all (λx=>decide (sc.names.lookup x=some .local\/sc.names.lookup x=some .cell))&&sc.names.all λy=>decide (y.2≠.free))))))
theorem pk{N P:ak}{sc:Scope}(h:OR N P sc=true):eE N P sc:=by
 obtain⟨k,h⟩:=aM h;obtain⟨j,h⟩:=aM h;obtain⟨i,h⟩:=aM h;obtain⟨g,h⟩:=aM h;obtain⟨e,h⟩:=aM h;obtain⟨d,c⟩:=aM h;exact⟨aab k,fI j,fI i,aab g,aab e,λx b=>aab (List.all_eq_true.mp d x b),λy a=>aab (List.all_eq_true.mp c y a)⟩
def OY(st:Stmt)(N c:ak)(a:List (Nat×Str))(bl:ak)(cs:List (Str×GK))(px:Px)(b:aj):Bool:=OR N c (aF st)&&fq ⟨aF st,N,λn=>List.lookup n a,bl,cs,px⟩ b (br st)
theorem u1{b:Type}{P:List b->Prop}(h:∀a,P [a])(c:List b)(e:c.length=1):P c:=by obtain⟨a,rfl⟩:=Q2 e;exact h a
theorem u2{c:Type}{P:List c->Prop}(h:∀a b,P [a,b])(d:List c)(e:d.length=2):P d:=by obtain⟨a,b,rfl⟩:=HB e;exact h a b
variable {P:aC}{base:Heap}{mg:Str->Option Value}{w:World}
theorem Ent.u{k k':Nat}{y:Str}{m:aE}(h:Ent P w K mg base k y m)(a:k<=k':=by decide):Ent P w K mg base k' y m:=h.up a
theorem en{h:Heap}(X:K.In h)(G:h.Ns mainGlobals mg)⦃x:Str⦄⦃st:Stmt⦄⦃N c bl:ak⦄⦃n:List (Nat×Str)⦄⦃cs:List (Str×GK)⦄⦃px:Px⦄⦃b:aj⦄(k:Nat)(Φ:bh)(m:aE)(d:Df K x st)(B:OY st N c n bl cs px b=true)
  (o:lL px Φ/\Fq px Φ) (t:cw (λy=>mg y=none) bl) (v:cw (λp:Str×GK=>∃u,mg p.1=some u/\vK K p.2 u) cs)
  (hf:cw (λp:Nat×Str=>Ent P w K mg base k p.2 (Φ p.1)) n) (A:∀j r,m j=ok r->j.length=c.length/\rW Φ N.length b j=ok r) (C:∀(z l s:Value) (H:Option Addr) (F ct:Value) (e:aw),e.length=c.length->bindArgs (PySem.W.fnOf x x (dH st) (br st) (aF st) .none z l s H F ct) ⟨e,[]⟩=pure (c.zip e):=by first|exact λ_ _ _ _ _ _=>u1 λ_=>rfl|exact λ_ _ _ _ _ _=>u2 λ_ _=>rfl|exact λ_ _ _ _ _ _=>u3 λ_ _ _=>rfl|exact λ_ _ _ _ _ _=>u4 λ_ _ _ _=>rfl|exact λ_ _ _ _ _ _=>u5 λ_ _ _ _ _=>rfl):Ent P w K mg base (k+1) x m:=by
 obtain⟨f,I,q,a⟩:=d;obtain⟨E,D⟩:=aM B;exact ent q (abe X G a) (q.binds C) (pk E) D o.1 o.2 (cw.mem t) (cw.two (P:=λy i=>∃u,mg y=some u/\vK K i u) v) (cw.tab (P:=λg y=>Ent P w K mg base k y (Φ g)) hf) A
noncomputable def xm(PT F:bh)(i:Nat)(m:aE):bh:=λn=>bif Nat.ble 1000 n then PT n else bif Nat.beq n i then m else F n
theorem Wo{d:Type}{Q:Nat->Prop}(p:Nat){k:Nat}{a b c:d}(h:(if p=k then a else b)=c)(i:a=c->Q k)(g:b=c->Q p):Q p:=by
 by_cases e:p=k
 ·subst e;rw[if_pos rfl]at h;exact i h
 ·rw[if_neg e]at h;exact g h
variable {F:Addr->Prop}{X Z:Cx}{cs:aH}{Φ:bh}
theorem HL{d:Type}{e:Expr}{p k:Nat}{a b c:d}(h:(if p=k then a else b)=c)(i:a=c->PE Z e (tD Z F Φ (.cS k cs))/\L2.PT Z e (ig Z F Φ (.cS k cs)))(g:b=c->PE Z e (tD Z F Φ (.cS p cs))/\L2.PT Z e (ig Z F Φ (.cS p cs))):PE Z e (tD Z F Φ (.cS p cs))/\L2.PT Z e (ig Z F Φ (.cS p cs)):=Wo (Q:=λp=>PE Z e (tD Z F Φ (.cS p cs))/\L2.PT Z e (ig Z F Φ (.cS p cs))) p h i g
theorem Uj{d:Type}{i p k:Nat}{a b c:d}(h:(if p=k then a else b)=c)(g:a=c->PS Z st (kD Z F Φ (.mut k i cs)))(e:b=c->PS Z st (kD Z F Φ (.mut p i cs))):PS Z st (kD Z F Φ (.mut p i cs)):=Wo (Q:=λp=>PS Z st (kD Z F Φ (.mut p i cs))) p h g e
theorem Wn{g:Type}{e d:CE}{i p k:Nat}{a b c:g}(h:(if p=k then a else b)=c)(l:a=c->PS Z st (kD Z F Φ (.mu2 k i e d)))(j:b=c->PS Z st (kD Z F Φ (.mu2 p i e d))):PS Z st (kD Z F Φ (.mu2 p i e d)):=Wo (Q:=λp=>PS Z st (kD Z F Φ (.mu2 p i e d))) p h l j
theorem gI:True:=trivial
theorem cw.nn{K:av}{h:Heap}{mg:aU}(X:K.In h)(G:h.Ns mainGlobals mg):∀{l:ak},cw (λy=>PySem.W.nsIn K mainGlobals y=some none) l->cw (λy=>mg y=none) l
 |[],_=>trivial
 |_::_,z=>⟨PySem.W.mg_none_of X G z.1,cw.nn X G z.2⟩
theorem en7{P:aC}{w:World}{K:av}{h base:Heap}{mg:aU}{bl:ak}{cs:List (Str×GK)}{px:Px}{PT:bh}(X:K.In h)(G:h.Ns mainGlobals mg)(C:∀F i m,lL px (xm PT F i m)/\Fq px (xm PT F i m))(z:cw (λy=>mg y=none) bl)(A:cw (λp:Str×GK=>∃u,mg p.1=some u/\vK K p.2 u) cs)
  ⦃x:Str⦄ ⦃st:Stmt⦄ (k:Nat) (Φ:bh) (d:Df K x st) (N:ak) (a:Nat) (s:List (Nat×Str)) (b:aj)
  (hf:cw (λp:Nat×Str=>Ent P w K mg base k p.2 (Φ p.1)) s) (D:OY st N (N.take a) s bl cs px b=true:=by decide +kernel) (e:∃F i m,Φ=xm PT F i m:=by exact⟨_,_,_,rfl⟩) (t:(N.take a).length=a:=by rfl) (E:∀(l c j:Value) (o:Option Addr) (n ct:Value) (g:aw),g.length=a->bindArgs (PySem.W.fnOf x x (dH st) (br st) (aF st) .none l c j o n ct) ⟨g,[]⟩=pure ((N.take a).zip g):=by first|exact λ_ _ _ _ _ _=>u1 λ_=>rfl|exact λ_ _ _ _ _ _=>u2 λ_ _=>rfl|exact λ_ _ _ _ _ _=>u3 λ_ _ _=>rfl|exact λ_ _ _ _ _ _=>u4 λ_ _ _ _=>rfl|exact λ_ _ _ _ _ _=>u5 λ_ _ _ _ _=>rfl):Ent P w K mg base (k+1) x (mk Φ a N.length b):=by
 obtain⟨F,i,m,e⟩:=e;exact en X G k Φ _ d D (e▸C F i m) z A hf (λv r q=>⟨(oS v r q).1.trans t.symm,(oS v r q).2⟩) (λl c j o n ct g B=>E l c j o n ct g (B.trans t))
theorem enL{x:Str}{N a bl:ak}{d:List (Nat×Str)}{cs:List (Str×GK)}{px:Px}{b:aj}{j:FuncData}(k:Nat)(Φ:bh)(m:aE)(v:zN K x x st f j)(q:OY st N a d bl cs px b=true)
  (e:lL px Φ/\Fq px Φ) (l:cw (λy=>mg y=none) bl) (n:cw (λp:Str×GK=>∃u,mg p.1=some u/\vK K p.2 u) cs)
  (hf:cw (λp:Nat×Str=>Ent P w K mg base k p.2 (Φ p.1)) d) (o:∀c r,m c=ok r->c.length=a.length/\rW Φ N.length b c=ok r):dq P w K mg base rE (k+1) f j a (A4 K a.length m):=by
 obtain⟨t,s⟩:=aM q;exact pv v (pk t) s e.1 e.2 (cw.mem l) (cw.two (P:=λy i=>∃u,mg y=some u/\vK K i u) n) (λg y h=>(cw.tab (P:=λg y=>Ent P w K mg base k y (Φ g)) hf g y h).ex) o
section
variable {prog:aC}{w:World}{A:aB}{E:au}{s:Shared}{d it:Addr}{es:Array DictEntry}{ep i:Nat}
end
section
variable {X:Cx}{pins:ao}{σ:St}{H:Hp}{s:Shared}{d:Addr}{cs:az}{as:aX}{xs:ah}{ep:Nat}
theorem Qr(I:Inv X pins σ H s)(h:H d=some (.ext (DO d cs as xs ep))):∃a:Array DictEntry,jU s.heap d a ep/\a.size=as.length/\a.toList.map (·.key)=as.map Value.ref/\Vals xs (a.toList.map (·.val))/\as.length=cs.length/\(d==sysModules)=false:=by
 obtain⟨⟨i,o,a,e1,e2,e3,g,c,hd,b,j,k,e⟩,_⟩:=(show cK H s.heap d (.ext (DO d cs as xs ep)) from I.cJ d _ h)
 refine⟨a,⟨o,g,c,hd⟩,?_,?_,?_,?_,e⟩
 ·rw[<- Array.length_toList,b,<- e2,List.length_map,List.length_map]
 ·rw[b,<- e2,List.map_map,List.map_map];rfl
 ·rw[b,List.map_map];exact e3
 ·rw[<- e1,<- e2,List.length_map,List.length_map]
end
section
variable {X:Cx}{pins:ao}{σ:St}{H:Hp}{s:Shared}{p b:Addr}{c:ae}{A:aB}{E:au}
end
variable {Q:Value->Shared->Prop}
section
variable {prog:aC}{w:World}{A:aB}{E:au}{s:Shared}{d it:Addr}{es:Array DictEntry}{ep i:Nat}
theorem Eu(d:Addr)(hd:(d==sysModules)=false):MeetsIn prog w (Builtin.«dict.values» ⟨[.ref d],[]⟩) (λ_ R s=>(∃es ep,jU s.heap d es ep)/\R (.ok (.ret (.ref s.heap.objs.size))) { s with heap:=s.heap.push { cls:=.type "dict_values",data:=.fields #[.ref d] } }) :=
 .of_wp λA R s b=>by
  obtain⟨⟨_,_,a⟩,h⟩:=b;refine aaa ?_;unfold Builtin.Dict.noArgs;refine aaa (acn a.typeIs ?_);show wpAny _ _ (pure d) _ _ s;refine aac ?_;show wpAny _ _ (Builtin.Dict.showsAll d >>= _) _ _ s;unfold Builtin.Dict.showsAll;rw[if_neg (by rw[hd];exact Bool.false_ne_true)];exact aaa (aac (aaa (aa0 (aac ⟨_,rfl,h⟩))))
theorem Iz{v:Addr}(a:s.heap.IsValuesView v d)(h:jU s.heap d es ep)
  (k:Q (.ref s.heap.objs.size) { s with heap:=s.heap.push { cls:=.type "dict_valueiterator",data:=.fields #[.ref d,.int 0 0,.int es.size 0,.int ep 0] } }):wpAny (model prog w) A (pyIter (.ref v)) Q E s:=by
 obtain⟨l,b,j,c⟩:=id a;obtain⟨o,e,m,g⟩:=h;refine wpAny_pyIter_slot a.typeIs F.slot_dict_values_iter (aaY F.slot_dict_values_iter a.typeIs F.entry_dict_values_iter ?_ (F.args_dict_values_iter_1 _));unfold Builtin.«dict_values.__iter__»;refine aaa (aac (aaa ?_));unfold Builtin.Dict_items.dictOf;refine aaa (ab3 b c (x:=.ref d) rfl (aac (aaa ?_)));unfold Builtin.Dict_items.newIterator;refine aaa (abk e g (aaa (abR e g ?_)));simp only[show Builtin.Dict_items.ownsTuple "dict_valueiterator" = false by decide,abS,acU];refine aa0 (aac ⟨_,rfl,"dict_valueiterator",_,⟨_,aaD _ rfl,rfl⟩,F.slot_dict_valueiterator_next.lookup,?_⟩);simpa [rawInt]using k
theorem Iy{Q:Option Value->Shared->Prop}(a:s.heap.IsValIter it d i es.size ep)(j:jU s.heap d es ep)(m:i<es.size)
  (l:∀e,e.IsValIter it d (i+1) es.size ep->Heap.SameBut it s.heap e->Q (some es[i].val) { s with heap:=e }):wpAny (model prog w) A (pyNext (.ref it)) Q E s:=by
 obtain⟨o,c,k,hd⟩:=id a;obtain⟨p,h,n,g⟩:=j;unfold pyNext;refine aaa (abJ (aba (name:=Str.ofString "__next__") a.typeIs abi (aaY abi a.typeIs F.entry_dict_valueiterator_next ?_ (F.args_dict_valueiterator_next_1 _))));refine aaa (aac (aaa (aaa ?_)))
 first|refine aaa (abm a.typeIs (aac ?_))|refine aaa (abH a.typeIs (aac ?_))
 refine aaa (acD c hd ?_);simp only[show Builtin.Dict_items.ownsTuple "dict_valueiterator" = false by decide,abS,acU];show wpAny _ _ (if (Value.ref d==Value.none)=true then _ else _) _ _ s;rw[if_neg (show ¬ ((Value.ref d==Value.none)=true) from Bool.false_ne_true)];refine aaa (aac (aaa (abk h g ?_)));rw[if_neg (by simp)];refine aaa (aac (aaa (abR h g ?_)));rw[if_neg (by simp)];refine aac ?_;simp only[show ¬ ((i:Int)<0) from by left,if_false,Int.toNat_natCast,Array.getElem?_eq_getElem m];refine aaa ?_
 first|refine aaa (abm a.typeIs (aac ?_))|refine aaa (abH a.typeIs (aac ?_))
 refine aaa (acs a.typeIs ?_);show wpAny _ _ (setField (.ref it) 1 (rawInt ((i:Int)+1)) >>= _) _ _ s;refine aaa (acE c hd (by simp) ?_);have b:(s.heap.update it (Obj.mapFields (·.setIfInBounds 1 (rawInt ((i:Int)+1))))).IsValIter it d (i+1) es.size ep :=
  ⟨_,aa4 _ c (Obj.isFreed_of_fields (Obj.data_mapFields hd _)),(Obj.cls_mapFields ..).trans k,by rw[Obj.data_mapFields hd];simp[rawInt]⟩
 refine aaa (aa9 ?_);refine aaa (acs (s:={ s with heap:=s.heap.update it (Obj.mapFields (·.setIfInBounds 1 (rawInt ((i:Int)+1)))) }) b.typeIs ?_);refine aaa (acs (s:={ s with heap:=s.heap.update it (Obj.mapFields (·.setIfInBounds 1 (rawInt ((i:Int)+1)))) }) b.typeIs ?_);show wpAny _ _ (pure es[i].val) _ _ _;exact aac (aac ⟨_,rfl,aac (l _ b (abc ..))⟩)
theorem NU{Q:Option Value->Shared->Prop}(l:A.handled=none)(c:s.heap.IsValIter it d i es.size ep)(k:jU s.heap d es ep)(p:es.size<=i)
  (n:∀g,Heap.ExtBut it s.heap g->Q none { s with heap:=g }):wpAny (model prog w) A (pyNext (.ref it)) Q E s:=by
 obtain⟨o,e,t,hd⟩:=id c;obtain⟨r,j,q,h⟩:=k;unfold pyNext;refine aaa (abJ (aba (name:=Str.ofString "__next__") c.typeIs abi (aaY abi c.typeIs F.entry_dict_valueiterator_next ?_ (F.args_dict_valueiterator_next_1 _))));refine aaa (aac (aaa (aaa ?_)))
 first|refine aaa (abm c.typeIs (aac ?_))|refine aaa (abH c.typeIs (aac ?_))
 refine aaa (acD e hd ?_);simp only[show Builtin.Dict_items.ownsTuple "dict_valueiterator" = false by decide,abS,acU];show wpAny _ _ (if (Value.ref d==Value.none)=true then _ else _) _ _ s;rw[if_neg (show ¬ ((Value.ref d==Value.none)=true) from Bool.false_ne_true)];refine aaa (aac (aaa (abk j h ?_)));rw[if_neg (by simp)];refine aaa (aac (aaa (abR j h ?_)));rw[if_neg (by simp)];refine aac ?_;simp only[show ¬ ((i:Int)<0) from by left,if_false,Int.toNat_natCast,Array.getElem?_eq_none p];refine aaa ?_
 first|refine aaa (abm c.typeIs (aac ?_))|refine aaa (abH c.typeIs (aac ?_))
 show wpAny _ _ (setField (.ref it) 0 .none >>= _) _ _ s;refine aaa (acE e hd (by simp) ?_);show wpAny _ _ (newExc (.type "StopIteration") [] >>= _) _ _ _;refine aaa ?_;simp only[newExc,newTuple];refine aaa (aa0 ?_ (by size_fits));refine aaa (m:=firstArgMember _ _) (wpAny_of_eq (a:=Value.none) (by first|rfl | (simp only[firstArgMember];rfl)) ?_);refine aa0 ?_ (by size_fits);simp only[raiseNew];refine aaa (wpAny_handled ?_);rw[show A.in1.handled=none from l];refine aaa (aac (wpAny_throw ?_));refine aaa (wpAny_isInstance (T:="StopIteration") (b:=true) ⟨_,aaD _ rfl,rfl⟩ isSubtype_stop ?_);exact aac (n _ (((abc ..).extBut.push _).push _))
theorem Et(n:A.handled=none)(I d:Addr)(q:d≠I):Walks prog w A I [I,d] [I] es.size (λi v=>∃e,es[i]?=some e/\v=e.val) (λi h=>h.IsValIter I d i es.size ep/\jU h d es ep) where
 sub:=λb a=>by simp at a;simp[a]
 frame:=λ_ _ _ st k=>⟨st.1.at λo e=>k I (by simp) o e,let ⟨o,ho,r⟩:=st.2;⟨o,k d (by simp) o ho,r⟩⟩
 item:=λi s Q E l st c=>Iy st.1 st.2 l λg m j=>c _ g s.toks ⟨es[i],abg l,rfl⟩ ⟨m,let ⟨o,ho,r⟩:=st.2;⟨o,j.extBut d o q ho,r⟩⟩ λb o a e=>j.extBut b o (λh=>a (by simp[h])) e
 done:=λs Q E st c=>NU n st.1 st.2 (aal _) λg p=>c g s.toks λb o a e=>p b o (λh=>a (by simp[h])) e
 self:=λ_ _ _ _ st c=>wpAny_pyIter_valiter st.1 c
theorem NT{v:Addr}{ns:ae}(D:A.handled=none)(y:s.heap.IsValuesView v d)(g:jU s.heap d es ep)(n:Vals (ns.map V.int) (es.toList.map (·.val)))
  (h:∀m tk a,(∀b o,s.heap.get? b=some o->m.get? b=some o)->Q (.int ns.sum a) { s with heap:=m,toks:=tk }):wpAny (model prog w) A (call (.builtin "sum") [.ref v]) Q E s:=by
 have hlen:es.size=ns.length:=by
  have:=n.length;simpa using this.symm
 have p:d<s.heap.objs.size:=let ⟨_,ho,_⟩:=g;aaj ho;refine call_sum_walkAnyS (Iz y g ⟨s.heap.objs.size,_,_,_,es.size,_,_,λi=>ns.getD i 0,rfl,(Et (A:=A.in1) (es:=es) (ep:=ep) D _ d (aao p)).toS,⟨⟨_,aaD _ rfl,rfl,rfl⟩,let ⟨o,ho,r⟩:=g;⟨o,aai _ ho,r⟩⟩,λb k=>?_,λi v G=>?_,λc a q=>?_⟩)
 ·show b<(s.heap.push _).objs.size;rw[size_push'];rcases List.mem_cons.mp k with e|k
  ·rw[e];exact abf _
  ·rw[List.mem_singleton.mp k];exact aaQ p
 ·obtain⟨e,j,rfl⟩:=G;have I:i<es.size:=by
   by_cases z:i<es.size
   ·exact z
   ·rw[Array.getElem?_eq_none (by left)]at j;cases j
  have B:(ns.map V.int)[i]?=some (.int (ns.getD i 0)):=by
   rw[List.getElem?_map,List.getElem?_eq_getElem (by left)];simp[List.getD,show i<ns.length by left]
  obtain⟨u,l,t⟩:=n.get B;rw[List.getElem?_map,Array.getElem?_toList,j]at l;cases l;exact t
 ·have C:∀b o,s.heap.get? b=some o->c.heap.get? b=some o:=λb o e =>
   q.heap b o (λH=>absurd (aaj e) (by rw[List.mem_singleton.mp H];exact aaO _)) (aai _ e)
  rw[Moved.eq_with q];have x:preSum (λi=>ns.getD i 0) es.size=ns.sum:=by
   rw[hlen,jg _ ns (λ_=>rfl) _ (Nat.le_refl _),List.take_length]
  rw[x];exact h c.heap c.toks a C
end
def og(_:Scope)(_:ak)(e:Expr):Option (aq):=match oB ("values" : Str) (.Expr e ⟨0,0,0,0⟩)with
 |some z=>if isNm z.1=true/\isNil z.2=true then some [z.1]else none
 |none=>none
variable {args:aq}
theorem xr{sc:Scope}{bl:ak}{e:Expr}(h:og sc bl e=some args):∃x p c b,e=.Call (.Attribute (.Name x p) ("values" : Str) c) [] [] b/\args=[.Name x p]/\(c.endLine==b.line)=true:=by
 unfold og at h;cases d:oB ("values" : Str) (.Expr e ⟨0,0,0,0⟩)with
 |none=>rw[d]at h;exact nk h
 |some z =>
  obtain⟨o,as⟩:=z;rw[d]at h;by_cases a:isNm o=true/\isNil as=true
  ·have h:(if isNm o=true/\isNil as=true then some [o]else none)=some args:=h;rw[if_pos a]at h;cases h;obtain⟨c,b,g,e1,i⟩:=i_ d;cases e1;obtain⟨x,p,rfl⟩:=kZ a.1;obtain rfl:=k_ a.2;exact⟨_,_,_,_,rfl,rfl,i⟩
  ·have h:(if isNm o=true/\isNil as=true then some [o]else none)=some args:=h;rw[if_neg a]at h;exact nk h
def zq(sc:Scope)(bl:ak)(e:Expr):Option (aq):=match pQ ("sum" : Str) sc bl e with
 |some as=>match one as with
  |some i=>og sc bl i
  |none=>none
 |none=>none
theorem EJ{sc:Scope}{bl:ak}{e:Expr}(h:zq sc bl e=some args):∃q b x p d c,e=.Call (.Name ("sum" : Str) q) [.Call (.Attribute (.Name x p) ("values" : Str) d) [] [] c] [] b/\args=[.Name x p]/\(d.endLine==c.line)=true/\iB sc ("sum" : Str)=true/\("sum" : Str)∈bl:=by
 unfold zq at h;cases g:pQ ("sum" : Str) sc bl e with
 |none=>rw[g]at h;exact nk h
 |some as =>
  rw[g]at h;obtain⟨q,b,a,rfl,rfl,k,j⟩:=ri g;obtain⟨x,p,d,c,rfl,rfl,i⟩:=xr (show og sc bl a=some args from h);exact⟨q,b,x,p,d,c,rfl,rfl,i,k,j⟩
def Oi(xs:aa):O D:=match one xs with
 |some d=>match eY d with
  |some z=>match intsOf z.2 with
   |some a=>ok (.int a.sum)
   |none=>none
  |none=>none
 |none=>none
theorem Li{xs:aa}{r:D}(h:Oi xs=ok r):∃f cs,∃a:ae,xs=[.cn f cs (a.map D.int)]/\r=.int a.sum:=by
 unfold Oi at h;cases g:one xs with
 |none=>rw[g]at h;exact nk h
 |some d =>
  rw[g]at h;have h:(match eY d with|some z=>(match intsOf z.2 with|some a=>ok (D.int a.sum)|none=>none)|none=>none)=ok r:=h;cases c:eY d with
  |none=>rw[c]at h;exact nk h
  |some z =>
   rw[c]at h;have h:(match intsOf z.2 with|some a=>ok (D.int a.sum)|none=>none)=ok r:=h;cases b:intsOf z.2 with
   |none=>rw[b]at h;exact nk h
   |some a =>
    rw[b]at h;cases h;obtain⟨f,e⟩:=jn c;exact⟨f,z.1,a,by rw[cO g,e,dT b],rfl⟩
def VW(v d:Addr)(h:Heap):Prop:=h.IsValuesView v d
theorem Hd{x:Str}{p p1 p2:Pos}{k:TE}(r:PE X (.Name x p) k)(t:(p1.endLine==p2.line)=true):PE X (.Call (.Attribute (.Name x p) ("values" : Str) p1) [] [] p2) (λg H Q=>k g H λu e=>∃d cs as j i,u=.ref d/\e d=some (.ext (DO d cs as j i))/\∀v,e v=none->Q (.ref v) (upd e v (.ext (VW v d)))):=by
 intro pins s g H Q I h;refine acN rfl rfl t acb PySem.F.slot_dict_values PySem.F.type_dict_values (dF (r pins s g H _ I h) λu b C=>?_);obtain⟨v,e,c,m,d,cs,as,j,i,A,hd,q⟩:=C;subst A;cases m;obtain⟨B,D,L,G,J,hlen,E⟩:=Qr c hd;obtain⟨t1,t2⟩:=dict_cls c hd;refine⟨t1,t2,?_⟩;show wpAny _ _ (callWith p2 (.builtin "dict.values") [.ref d] [] []) _ _ b;refine method_meetsIn PySem.F.slot_dict_values PySem.F.entry_dict_values rfl (PySem.evalArgs_none ⟨rfl,t1,PySem.F.args_dict_values_1 _,_,Eu d E,⟨B,i,D⟩,?_⟩);have l:(b.heap.push { cls:=.type "dict_values",data:=.fields #[.ref d] }).get? b.heap.objs.size=some { cls:=.type "dict_values",data:=.fields #[.ref d] }:=aaD _ rfl;refine⟨.ref b.heap.objs.size,_,c.laid (a:=b.heap.objs.size) (o:=.ext (VW b.heap.objs.size d)) (t':=b.toks) (λ_ _ q=>aai _ q) (aal _) ⟨⟨_,l,rfl,rfl⟩,⟨_,l⟩,?_⟩,rfl,q _ (c.cJ.fresh (aal _))⟩;rintro M N ⟨o,z,y⟩ n;exact⟨o,n _ z,y⟩
theorem AX(l:X.calm=true):gv X (.builtin "sum") (λb H Q=>∃v d cs as e,∃a:ae,b=[.ref v]/\H v=some (.ext (VW v d))/\H d=some (.ext (DO d cs as (a.map V.int) e))/\Q (.int a.sum) H):=by
 intro pins s o H b t Q I r h;obtain⟨v,d,cs,as,e,a,rfl,j,hd,q⟩:=h;obtain⟨u,rfl,i⟩:=r.one;cases i;obtain⟨z,n,x,p,g,hlen,A⟩:=Qr I hd;obtain⟨m,_⟩:=(show cK H s.heap v (.ext (VW v d)) from I.cJ v _ j)
 refine NT (I.ok.hd l) m n g λy tk c k=>⟨.int a.sum,H,I.kept (t':=tk) k,⟨c,rfl⟩,q⟩
theorem P7{n:Nat}(g:Φ n=Oi){sc:Scope}{bl:ak}{k:Nat}(L:PX X sc bl k){e:Expr}(he:zq sc bl e=some args)(hs:nG X F Φ cs args):PE X e (tD X F Φ (.cS n cs))/\PT X e (ig X F Φ (.cS n cs)):=by
 obtain⟨q,b,x,p,A,z,rfl,rfl,D,G,E⟩:=EJ he;cases cs with
 |nil=>exact hs.elim
 |cons c cs=>cases cs with
  |cons _ _=>exact hs.2.2.2.elim
  |nil =>
   have this:PE X (.Call (.Name ("sum" : Str) q) [.Call (.Attribute (.Name x p) ("values" : Str) A) [] [] z] [] b) (tD X F Φ (.cS n [c])):=by
    refine PE.imp (dZ (AX L.calm) (L.gl G) (L.bl _ E) (by decide +kernel) (cc (Hd hs.1 D) dB)) λN H Q i=>?_;obtain⟨R,M,O,d,J,a,i⟩:=i;obtain⟨T,j,a⟩:=aJ a;rw[g]at a;obtain⟨f,l,B,rfl,rfl⟩:=Li a;obtain⟨y,I,j⟩:=aJ j;cases j;refine tD.intro J I λu W e1 r1=>?_;obtain⟨s,V,q1⟩:=r1;cases q1 with
    | @cn _ r _ as S o _ _ t U C =>
     cases C.ofInts;have hd:=t.dat;refine⟨r,l,as,_,o,rfl,hd,λv m=>⟨v,r,l,as,o,B,rfl,aY,?_,i _ _ (e1.trans (aL.upd m)) ⟨λ_=>none,λ_ _ h=>by simp at h,.int _⟩⟩⟩;exact aL.upd m _ _ hd
   exact⟨this,cZ this λ_=>rfl⟩
end DI
end
section
namespace DI
open PySem (Str)
theorem lq{b:Type}(f:ae->b)(k:ae):∀a:az,bJ a (a.map f) k=if k∈a then some (f k)else none
 |[]=>rfl
 |j::a=>by
  show(if j=k then some (f j)else bJ a (a.map f) k)=_;rw[lq f k a];by_cases e:j=k
  ·subst e;simp
  ·rw[if_neg e];have:k∈j::a ↔ k∈a:=by rw[List.mem_cons];exact⟨λh=>h.resolve_left λz=>e z.symm,.inr⟩
   simp only[this]
theorem t_{b:Type}(f:ae->b)(k:ae)(v:b):∀a:az,setC a (a.map f) k v=a.map λj=>if j=k then v else f j
 |[]=>rfl
 |j::a=>by
  show(if j=k then v else f j)::setC a (a.map f) k v=_;rw[t_ f k v a,List.map_cons]
theorem zR{a:Type}(f:ae->a)(k:ae)(v:a)(ks:az):bI ks (ks.map f) k v=(ba ks k).map λj=>if j=k then v else f j:=by
 unfold bI ba;by_cases h:k∈ks
 ·rw[if_pos h,if_pos h,t_]
 ·rw[if_neg h,if_neg h,List.map_append];congr 1
  ·refine aaP λj b=>?_;rw[if_neg (show ¬ j=k from λz=>h (z▸b))]
  ·simp
variable {cs ks:az}
theorem Ai{c k:ae}:k∈ba ks c ↔ k∈ks\/k=c:=by
 unfold ba;split
 ·rename_i h;exact⟨.inl,λz=>z.elim id λe=>e▸h⟩
 ·simp
theorem Dn(h:ks.Nodup)(c:ae):(ba ks c).Nodup:=by
 unfold ba;split
 ·exact h
 ·rename_i d;rw[List.nodup_append];exact⟨h,by simp,λa f b e=>by rw[List.mem_singleton.mp e];exact λz=>d (z▸f)⟩
theorem Aj(ks:az)(c:ae):(ba ks c).length<=ks.length+1:=by
 unfold ba;split<;>simp
structure Bl(Φ:bh):Prop where
 D5:Φ 1030=Ey
 Km:Φ 1032=EC
 Kl:Φ 1033=vh
 Sa:Φ 1035=pK
variable {Φ:bh}
theorem NV(P:Bl Φ)(a:cs.length<1000)(ws:ae)(c:ae)(v:Int):Φ 1033 [.cn .ow cs (ag ws),.int v,.tup (ag c)]=ok (.cn .ow (ba cs c) (ag (bI cs ws c v))):=by
 rw[P.Kl];show(match intsOf (c.map D.int)with|some c=>if cz .ow=true/\aV anyF (.int v)=false/\cs.length<dz then ok (D.cn .ow (ba cs c) (bI cs (ag ws) c (.int v)))else none|none=>none)=_;rw[bY];show(if cz .ow=true/\aV anyF (.int v)=false/\cs.length<dz then ok (D.cn .ow (ba cs c) (bI cs (ag ws) c (.int v)))else none)=_;rw[if_pos ⟨rfl,rfl,by show _<1000000;left⟩,wb]
variable {ws:ae}
theorem SA(P:Bl Φ)(f:Fl)(a:cs.length=ws.length){c:ae}(h:c∈cs):Φ 1032 [.cn f cs (ag ws),.tup (ag c)]=ok (.int (iC cs ws c)):=by
 obtain⟨w,e,_⟩:=nZ a h;rw[P.Km];show(match intsOf (c.map D.int)with|some c=>(match bJ cs (ag ws) c with|some v=>if aV anyF v=false then ok v else none|none=>none)|none=>none)=_;rw[bY];show(match bJ cs (ag ws) c with|some v=>if aV anyF v=false then ok v else none|none=>none)=_;rw[qW,e];unfold iC;rw[e];rfl
theorem BB(P:Bl Φ)(f:Fl)(vs:aa)(h:ks.length<4000):Φ 1035 [.cn f ks vs]=ok (.lst .ow ((bx ks).map eI)):=by
 rw[P.Sa];show(if ks.length<4000 then ok (D.lst .ow ((bx ks).map eI))else none)=_;rw[if_pos h]
abbrev Dw:=Nat×af
noncomputable def iV(a:Int)(l:ae):ae:=l.map λh=>a+h
def bj:Int->List Dw->List (af)
 |_,[]=>[]
 |a,d::Ds=>(d.2.map λr=>(r.1,iV a r.2))::bj (a+d.1) Ds
noncomputable def bN(c rows:af):af:=c.flatMap λm=>rows.map λr=>(m.1*r.1,m.2++r.2)
def kn:af->List (af)->af
 |c,[]=>c
 |c,rs::LL=>kn (bN c rs) LL
theorem mv{c rows:af}{z:Row}:z∈bN c rows ↔ ∃m∈c,∃r∈rows,z=(m.1*r.1,m.2++r.2):=by
 unfold bN;rw[List.mem_flatMap];constructor
 ·rintro ⟨m,b,h⟩;obtain⟨r,a,rfl⟩:=List.mem_map.mp h;exact⟨m,b,r,a,rfl⟩
 ·rintro ⟨m,b,r,a,rfl⟩;exact⟨m,b,aa1 a⟩
theorem jJ(c rows:af):(bN c rows).length=c.length*rows.length:=by
 unfold bN;induction c with
 |nil=>simp
 |cons m c a=>rw[List.flatMap_cons,List.length_append,List.length_map,a,List.length_cons,Nat.add_mul];left
def O_(a:Int)(l:ae):Prop:=∀h∈l,0<=h/\h<a
def UX(a b:Int)(l:ae):Prop:=∀h∈l,a<=h/\h<b
theorem tV{a b:Int}:∀{l d r c:ae},O_ a l->O_ a d->UX a b r->UX a b c->l++r=d++c->l=d/\r=c
 |[],[],_,_,_,_,_,_,e=>⟨rfl,e⟩
 |[],y::d,r,c,_,h2,h3,_,e=>by
  exfalso;have f:y∈r:=by rw[show r=y::d++c from e];simp
  have:=h3 y f;have:=h2 y aaf;left
 |x::l,[],r,c,h1,_,_,h4,e=>by
  exfalso;have f:x∈c:=by rw[<- show x::l++r=c from e];simp
  have:=h4 x f;have:=h1 x aaf;left
 |x::l,y::d,r,c,h1,h2,h3,h4,e=>by
  obtain⟨e1,e2⟩:=ab2 (show x::(l++r)=y::(d++c) from e);obtain⟨e3,e4⟩:=tV (λh g=>h1 h (aad _ g)) (λh g=>h2 h (aad _ g)) h3 h4 e2;exact⟨by rw[e1,e3],e4⟩
theorem EH{a b:Int}{c rows:af}(u:(c.map (·.2)).Nodup)(t:(rows.map (·.2)).Nodup)(i:∀m∈c,O_ a m.2)(j:∀r∈rows,UX a b r.2):((bN c rows).map (·.2)).Nodup:=by
 induction c with
 |nil=>exact abo
 |cons m c d =>
  obtain⟨o,n⟩:=List.nodup_cons.mp u;have d:=d n λx g=>i x (aad _ g);have e:(bN (m::c) rows).map (·.2)=(rows.map λr=>m.2++r.2)++(bN c rows).map (·.2):=by
   unfold bN;rw[List.flatMap_cons,List.map_append,List.map_map];rfl
  rw[e,List.nodup_append];refine⟨?_,d,λx g y s=>?_⟩
  ·have:(rows.map λr=>m.2++r.2)=(rows.map (·.2)).map (m.2 ++ ·):=by rw[List.map_map];rfl
   rw[this];exact t.map (f:=(m.2 ++ ·)) λx y (h:x≠y) e=>h (List.append_cancel_left e)
  ·rintro rfl;obtain⟨r,A,rfl⟩:=List.mem_map.mp g;obtain⟨z,q,B⟩:=List.mem_map.mp s;obtain⟨p,k,l,w,rfl⟩:=mv.mp q;have v:=i m aaf;obtain⟨e1,_⟩:=tV v (i p (aad _ k)) (j r A) (j l w) B.symm;exact o (by show m.2∈c.map (·.2);rw[e1];exact aa1 k)
inductive Lay:Int->Int->List (af)->Prop
 |nil (a:Int):Lay a a []
 |cons {a b c:Int} {rs:af} {LL:List (af)} (xd:a<=b) (nd:(rs.map (·.2)).Nodup) (ab:∀r∈rs,UX a b r.2) (t:Lay b c LL):Lay a c (rs::LL)
theorem N6{a b:Int}{LL:List (af)}(L:Lay a b LL):∀{c:af},0<=a->(c.map (·.2)).Nodup->(∀m∈c,O_ a m.2)->((kn c LL).map (·.2)).Nodup/\∀m∈kn c LL,O_ b m.2:=by
 induction L with
 |nil a=>intro c _ g f;exact⟨g,f⟩
 | @cons a b d p LL o nd i t j =>
  intro c q g f;refine j (by left) (EH g nd f i) λm n=>?_;obtain⟨x,k,r,l,rfl⟩:=mv.mp n;intro h e;rcases List.mem_append.mp e with e|e
  ·have:=f x k h e;left
  ·have:=i r l h e;left
def Mb:Nat->List (af)->Prop
 |_,[]=>True
 |c,rs::LL=>c*rs.length<=1000/\Mb (c*rs.length) LL
def qt(k l:Nat)(a:af):Prop:=∀r∈a,Sm k r.1/\r.2.length<=l
theorem pM{k l i j:Nat}{c rows:af}(d:qt k l c)(a:qt i j rows):qt (k+i) (l+j) (bN c rows):=λz f=>by
 obtain⟨m,b,r,e,rfl⟩:=mv.mp f;exact⟨(d m b).1.mul (a r e).1,by have:=(d m b).2;have:=(a r e).2;simp;left⟩
theorem N5{i j:Nat}{LL:List (af)}:∀{k l:Nat} {c:af},qt k l c->(∀a∈LL,qt i j a)->qt (k+LL.length*i) (l+LL.length*j) (kn c LL):=by
 induction LL with
 |nil=>intro k l c h _;simpa [kn]using h
 |cons a LL d =>
  intro k l c h b;have:=d (pM h (b a aaf)) λx e=>b x (aad _ e);rw[List.length_cons,show k+(LL.length+1)*i=k+i+LL.length*i by rw[Nat.add_mul];left,show l+(LL.length+1)*j=l+j+LL.length*j by rw[Nat.add_mul];left];exact this
theorem vz:∀(a:Int) (Ds:List Dw),(bj a Ds).length=Ds.length
 |_,[]=>rfl
 |a,d::Ds=>by rw[bj,List.length_cons,vz,List.length_cons]
theorem EZ{a:Int}{Ds:List Dw}{c:af}(h:c∈bj a Ds):∃d∈Ds,∃b,c=d.2.map λr=>(r.1,iV b r.2):=by
 induction Ds generalizing a with
 |nil=>cases h
 |cons d Ds f =>
  rcases List.mem_cons.mp h with rfl|h
  ·exact⟨d,aaf,a,rfl⟩
  ·obtain⟨e,g,b,i⟩:=f h;exact⟨e,aad _ g,b,i⟩
noncomputable def bS(Ds:List Dw):Int:=(Ds.map λd=>(d.1:Int)).sum
theorem GA{a:Int}{l m:ae}(h:iV a l=iV a m):l=m:=by
 unfold iV at h;exact List.map_inj_right (λx y e=>by left) |>.mp h
variable {ρ:bo}
theorem Pk{i:Nat}{op:Bool}{e:CE}{a b:Int}(h:bz Φ e ρ=ok (.int b))(c:ρ[i]?=some (some (.int a))):mq Φ (.aug i op e) ρ=ok (.nx,ρ.set i (some (.int (if op then a+b else a - b)))):=by
 show bd (bd (bz Φ e ρ) intD) _=_;rw[h];show(match ρ[i]? with|some (some (.int a))=>_|_=>none)=_;rw[c]
def ck(f:Fl)(d:Dw):D:=.tup [.int d.1,.lst f (aS d.2)]
def aK(f:Fl)(Ds:List Dw):aa:=Ds.map (ck f)
theorem bU(g:Fl->Fl)(f:Fl)(d:Dw):aR g (ck f d)=ck (g f) d:=by
 show D.tup [.int d.1,.lst (g f) (aA g (aS d.2))]=_;rw[cE];rfl
theorem aT(g:Fl->Fl)(f:Fl):∀a:List Dw,aA g (aK f a)=aK (g f) a
 |[]=>rfl
 |d::a=>by
  show aR g (ck f d)::aA g (aK f a)=_;rw[bU,aT g f a];rfl
theorem lC(f:Fl)(Ds:List Dw):(aK f Ds).length=Ds.length:=aa3 ..
theorem nY(p:Fl->Bool)(f:Fl)(d:Dw):aV p (ck f d)=p f:=by
 show(false||((p f||aP p (aS d.2))||false))=_;rw[gR];simp
theorem fF{p:Fl->Bool}{f:Fl}(h:p f=false):∀a:List Dw,aP p (aK f a)=false
 |[]=>rfl
 |d::a=>by
  show(aV p (ck f d)||aP p (aK f a))=false;rw[nY,h,fF h a];rfl
noncomputable def mw(Ds:List Dw):Int->ae->Int
 |c,[]=>c
 |c,g::gs=>mw Ds (c*((Ds.getD g.toNat (0,[])).2.length:Int)) gs
noncomputable def Gp:aj:=[.mut 1010 2 [(.bf .len [(.ix (.ix (.v 0) (.v 3)) (.int 1))])]]
def Ji:aj:=[.asg (.nm 2) (.int 1),.fr (.nm 3) (.seq (.v 1)) Gp,.ret (.v 2)]
def Fm(m:aE):Prop:=∀(Ds:List Dw) (gs:ae),(∀d∈Ds,d.2.length<=1000)->(∀g∈gs,0<=g/\g<(Ds.length:Int))->m [.lst .fz (aK .fz Ds),.tup (ag gs)]=ok (.int (mw Ds 1 gs))
theorem Es{Ds:List Dw}{g:Int}(b:0<=g)(c:g<(Ds.length:Int)):p9 (aK .fz Ds) g=ok (ck .fz (Ds.getD g.toNat (0,[]))):=by
 have a:g.toNat<Ds.length:=by left
 have:=at_of (ds:=aK .fz Ds) (i:=g) (d:=ck .fz (Ds.getD g.toNat (0,[]))) b (by
  unfold aK;rw[List.getElem?_map,List.getElem?_eq_getElem a];simp[a])
 rw[this,bU];rfl
theorem getD_mem{Ds:List Dw}{g:Int}(c:0<=g)(b:g<(Ds.length:Int)):Ds.getD g.toNat (0,[])∈Ds:=by
 have a:g.toNat<Ds.length:=by left
 have:Ds.getD g.toNat (0,[])=Ds[g.toNat]:=by simp[a]
 rw[this];exact aaU a
theorem zu(Φ:bh)(j:Φ 1010=qT){Ds:List Dw}(k:∀d∈Ds,d.2.length<=1000)(a:aG):∀(gs:ae) (c:Int) (b:aG),(∀g∈gs,0<=g/\g<(Ds.length:Int)) ->
  ∃e,dE (λd ρ=>cB (.nm 3) d ρ) (λρ=>bK Φ Gp ρ) (ag gs) [some (.lst .fz (aK .fz Ds)),a,some (.int c),b]=ok (.nx,[some (.lst .fz (aK .fz Ds)),a,some (.int (mw Ds c gs)),e])
 |[],c,b,_=>⟨b,rfl⟩
 |g::gs,c,b,h=>by
  obtain⟨m,l⟩:=h g aaf;have r:=Es m l;have s:=k _ (getD_mem m l);obtain⟨e,n⟩:=zu Φ j k a gs (c*((Ds.getD g.toNat (0,[])).2.length:Int)) (some (.int g)) λx o=>h x (aad _ o);have en:mw Ds c (g::gs)=mw Ds (c*((Ds.getD g.toNat (0,[])).2.length:Int)) gs:=rfl;rw[en,o6];generalize Ds.getD g.toNat (0,[])=d at *;have e1:qT [.int c,.int (d.2.length:Int)]=ok (.int (c*(d.2.length:Int))):=aa2 (yD c (by rw[Int.natAbs_natCast];left));have q:ck .fz d=.tup [.int d.1,.lst .fz (aS d.2)]:=rfl;have f:=ox (Φ:=Φ) (p:=1010) (i:=2) (es:=[(.bf .len [(.ix (.ix (.v 0) (.v 3)) (.int 1))])]) (ρ:=[some (.lst .fz (aK .fz Ds)),a,some (.int c),some (.int g)]) (xs:=[.int d.2.length]) (by simp[aT,r,q]) (by simp) rfl (by rw[j];exact e1);simp only[List.set]at f;refine⟨e,bZ (ρ1:=[some (.lst .fz (aK .fz Ds)),a,some (.int c),some (.int g)]) (by simp) (ρ2:=[some (.lst .fz (aK .fz Ds)),a,some (.int (c*(d.2.length:Int))),some (.int g)]) ?_ n⟩;rw[Gp,bX,f];rfl
theorem VG(Φ:bh)(e:Φ 1010=qT):Fm (mk Φ 2 4 Ji):=by
 intro d a h f;obtain⟨j,i⟩:=zu Φ e h (some (.tup (ag a))) a 1 none f;have c:bQ Φ (.seq (.v 1)) [some (.lst .fz (aK .fz d)),some (.tup (ag a)),some (.int 1),none]=ok (ag a,[some (.lst .fz (aK .fz d)),some (.tup (ag a)),some (.int 1),none]):=by
  rw[Ra (ds:=ag a) (by simp)];simp
 have g:=cX (Φ:=Φ) (t:=.nm 3) (b:=Gp) c i;generalize aK .fz d=X at *;simp[mk_eq,Ji,g]
noncomputable def zg:CE:=.comp 1 (.nm 0) [] .seq [(.v 1)] [] (.ix (.v 0) (.int 0))
noncomputable def vc:CE:=.comp 2 (.tp [0,1]) [1] .seq [(.ix (.v 0) (.int 1))] [] (.call 99 [(.v 2),(.v 1)])
def tq:aj:=[.ifs (.cmp .gt (.bf .gy [zg]) (.glo "MOST_HOUSES" 12)) [.rs 10] [],.ifs (.cmp .gt (.bf .gy [vc]) (.glo "MOST_CHOICES" 500)) [.rs 10] []]
def kj(Ds:List Dw)(gs:af):Int:=(gs.map λr=>mw Ds 1 r.2).sum
def US(Ds:List Dw)(gs:af):Prop:=∀r∈gs,∀g∈r.2,0<=g/\g<(Ds.length:Int)
theorem sZ(Φ:bh){Ds:List Dw}(b:Ds.length<=1000)(f:Fl)(a:aG)(r:bo):bz Φ zg (a::some (.lst f (aK f Ds))::r)=ok (.lst .ow (ag (Ds.map λd=>(d.1:Int)))):=by
 unfold zg;rw[cH (xs:=[.lst (bp f) (aK (bp f) Ds)]) (items:=Ds.map (ck (aZ (bp f)))) (ds:=Ds.map λd=>.int d.1) (by simp[aT]) (by rw[dt,aT];rfl) (bP λd hd=>⟨[some (ck (aZ (bp f)) d)],by simp[bD],by simp,?_⟩) (by simp;exact cf (by left))]
 ·simp[bu,ag]
 ·rw[show ck (aZ (bp f)) d=.tup [.int d.1,.lst (aZ (bp f)) (aS d.2)] from rfl];simp
variable {gs:af}
theorem xD(Φ:bh)(f:Fm (Φ 99)){n:Nat}{Ds:List Dw}(g:gs.length<=1000)(c:∀d∈Ds,d.2.length<=1000)(G:US Ds gs):bz Φ vc [some (cD n gs),some (.lst .fz (aK .fz Ds))]=ok (.lst .ow (ag (gs.map λr=>mw Ds 1 r.2))):=by
 unfold vc;have a:b0 Φ [(.ix (.v 0) (.int 1))] [some (cD n gs),some (.lst .fz (aK .fz Ds))]=ok [.lst .fz (aS gs)]:=by
  rw[show cD n gs=.tup [.int n,.lst .fz (aS gs)] from rfl];simp
 rw[cH (xs:=[.lst .fz (aS gs)]) (items:=aS gs) (ds:=gs.map λr=>.int (mw Ds 1 r.2)) a (by rw[dt];simp) (bP λr b=>⟨[some (qD r.1),some (.tup (ag r.2)),some (.lst .fz (aK .fz Ds))],by simp[bD,rD,aT],by simp,?_⟩) (by simp;exact cf (by left))]
 ·simp[bu,ag]
 ·have e:=f Ds r.2 c (G r b);simp[aT,e]
def Tq(m:aE):Prop:=∀(n:Nat) (gs:af) (Ds:List Dw),gs.length<=1000->Ds.length<=1000->(∀d∈Ds,d.2.length<=1000)->US Ds gs->bS Ds<=12->kj Ds gs<=500->m [cD n gs,.lst .fz (aK .fz Ds)]=ok .cF
theorem VH(Φ:bh)(k:Fm (Φ 99)):Tq (mk Φ 2 2 tq):=by
 intro n gs a e f j G l i;have e1:=sZ Φ f .fz (some (cD n gs)) [];have e2:=xD Φ k (n:=n) e j G;have c:oi .gy [.lst .ow (ag (a.map λd=>(d.1:Int)))]=ok (.int (bS a)):=pE _ _;have b:oi .gy [.lst .ow (ag (gs.map λr=>mw a 1 r.2))]=ok (.int (kj a gs)):=pE _ _;have h:¬ (12:Int)<bS a:=by left
 have g:¬ (500:Int)<kj a gs:=by left
 generalize cD n gs=Y at *;generalize aK .fz a=X at *;simp[mk_eq,tq,e1,e2,c,b,h,g]
noncomputable def AM:CE:=.comp 2 (.tp [0,1]) [1] .seq [(.ix (.v 3) (.int 1))] [] (.tup [(.v 0),(.bf .tuple1 [(.comp 1 (.nm 0) [2] .seq [(.v 1)] [] (.bin .add (.v 1) (.v 0)))])])
def Gk:aj:=[.app 2 AM,.aug 1 true (.ix (.v 3) (.int 0))]
def Ja:aj:=[.asg (.nm 1) (.int 0),.asg (.nm 2) (.lst []),.fr (.nm 3) (.seq (.v 0)) Gk,.ret (.v 2)]
def bM(f:Fl)(LL:List (af)):aa:=LL.map λa=>.lst f (aS a)
theorem dR(g:Fl->Fl)(f:Fl):∀a:List (af),aA g (bM f a)=bM (g f) a
 |[]=>rfl
 |rs::a=>by
  show D.lst (g f) (aA g (aS rs))::aA g (bM f a)=_;rw[cE,dR g f a];rfl
theorem me{p:Fl->Bool}{f:Fl}(h:p f=false):∀a:List (af),aP p (bM f a)=false
 |[]=>rfl
 |rs::a=>by
  show((p f||aP p (aS rs))||aP p (bM f a))=false;rw[h,gR,me h a];rfl
theorem yi(f:Fl)(LL:List (af)):(bM f LL).length=LL.length:=aa3 ..
theorem Qq(Φ:bh){d:Dw}(j:d.2.length<=1000)(g:∀r∈d.2,r.2.length<=1000)(a:Int)(c b:aG):bz Φ AM [c,some (.int a),b,some (ck .fz d)]=ok (.lst .ow (aS (d.2.map λr=>(r.1,iV a r.2)))):=by
 unfold AM;have e:b0 Φ [(.ix (.v 3) (.int 1))] [c,some (.int a),b,some (ck .fz d)]=ok [.lst .fz (aS d.2)]:=by
  rw[show ck .fz d=.tup [.int d.1,.lst .fz (aS d.2)] from rfl];simp
 rw[cH (xs:=[.lst .fz (aS d.2)]) (items:=aS d.2) (ds:=aS (d.2.map λr=>(r.1,iV a r.2))) e (by rw[dt];simp) ?_ (by rw[fx,List.length_map];exact cf (by left))]
 ·rw[cE]
 ·unfold aS;rw[List.map_map];refine bP λr f=>⟨[some (qD r.1),some (.tup (ag r.2)),some (.int a)],by simp[bD,rD],by simp,?_⟩
  have i:bz Φ (.comp 1 (.nm 0) [2] .seq [(.v 1)] [] (.bin .add (.v 1) (.v 0))) [some (qD r.1),some (.tup (ag r.2)),some (.int a)]=ok (.lst .ow (ag (iV a r.2))):=by
   rw[cH (xs:=[.tup (ag r.2)]) (items:=r.2.map D.int) (ds:=r.2.map λh=>.int (a+h)) (by simp) (by rw[jH];simp;rfl) (bP λh _=>⟨[some (.int h),some (.int a)],by simp[bD],by simp,by simp⟩) (by simp;exact cf (by have:=g r f;left))];simp[bu,ag,iV]
  simp[i];rfl
theorem yn(Φ:bh)(c:aG):∀(Ds:List Dw) (a:Int) (LL:List (af)) (f:aG),LL.length+Ds.length<=1000->(∀d∈Ds,d.2.length<=1000/\∀r∈d.2,r.2.length<=1000) ->
  ∃h g,dE (λd ρ=>cB (.nm 3) d ρ) (λρ=>bK Φ Gk ρ) (aK .fz Ds) [c,some (.int a),some (.lst .ow (bM .ow LL)),f]=ok (.nx,[c,h,some (.lst .ow (bM .ow (LL++bj a Ds))),g])
 |[],a,LL,f,_,_=>⟨some (.int a),f,by simp[bj,aK,gn]⟩
 |d::Ds,a,LL,f,hl,hd=>by
  rw[List.length_cons]at hl;obtain⟨p,o⟩:=hd d aaf;have e1:=Qq Φ p o a c (some (.lst .ow (bM .ow LL)));obtain⟨h,g,l⟩:=yn Φ c Ds (a+d.1) (LL++[d.2.map λr=>(r.1,iV a r.2)]) (some (ck .fz d)) (by simp;left) λx m=>hd x (aad _ m);have t:bM .ow (LL++[d.2.map λr=>(r.1,iV a r.2)])=bM .ow LL++[.lst .ow (aS (d.2.map λr=>(r.1,iV a r.2)))]:=by unfold bM;rw[List.map_append];rfl
  have s:LL++bj a (d::Ds)=LL++[d.2.map λr=>(r.1,iV a r.2)]++bj (a+d.1) Ds:=by simp[bj]
  have n:(bM .ow LL).length<dz:=by rw[yi];show _<1000000;left
  rw[s];refine⟨h,g,bZ (ρ1:=[c,some (.int a),some (.lst .ow (bM .ow LL)),some (ck .fz d)]) (by simp) (ρ2:=[c,some (.int (a+d.1)),some (.lst .ow (bM .ow (LL++[d.2.map λr=>(r.1,iV a r.2)]))),some (ck .fz d)]) ?_ l⟩;rw[t];have q:vQ (ck .fz d) (.int 0)=ok (.int d.1):=by rw[show ck .fz d=.tup [.int d.1,.lst .fz (aS d.2)] from rfl];simp
  have hR:aP bW (aS (d.2.map λr=>(r.1,iV a r.2)))=false:=gR _ _;generalize aS (d.2.map λr=>(r.1,iV a r.2))=R at *;generalize bM .ow LL=Y at *;have j:=Pk (Φ:=Φ) (i:=1) (op:=true) (e:=(.ix (.v 3) (.int 0))) (ρ:=[c,some (.int a),some (.lst .ow (Y++[.lst .ow R])),some (ck .fz d)]) (a:=a) (b:=d.1) (by simp[bU,q]) rfl;simp only[List.set,if_true]at j;rw[Gk,bX];have k:mq Φ (.app 2 AM) [c,some (.int a),some (.lst .ow Y),some (ck .fz d)]=ok (.nx,[c,some (.int a),some (.lst .ow (Y++[.lst .ow R])),some (ck .fz d)]):=by
   rw[Pl,Q8 Φ AM _ rfl,e1];have:dj AM [c,some (.int a),some (.lst .ow Y),some (ck .fz d)] (ok (.lst .ow R))=ok (.lst .ow R,[c,some (.int a),some (.lst .ow Y),some (ck .fz d)]):=by simp[hR]
   rw[this,Jj rfl n];rfl
  rw[k,dG,bX,j];rfl
def Tf(m:aE):Prop:=∀a:List Dw,a.length<=1000->(∀d∈a,d.2.length<=1000/\∀r∈d.2,r.2.length<=1000)->m [.lst .fz (aK .fz a)]=ok (.lst .ow (bM .ow (bj 0 a)))
theorem Vz(Φ:bh):Tf (mk Φ 1 4 Ja):=by
 intro a g hd;obtain⟨i,h,e⟩:=yn Φ (some (.lst .fz (aK .fz a))) a 0 [] none (by simpa using g) hd;rw[List.nil_append]at e;have c:bQ Φ (.seq (.v 0)) [some (.lst .fz (aK .fz a)),some (.int 0),some (.lst .ow (bM .ow [])),none]=ok (aK .fz a,[some (.lst .fz (aK .fz a)),some (.int 0),some (.lst .ow (bM .ow [])),none]):=by
  rw[jR (f:=.fz) (ds:=aK .fz a) (by simp[aT]),aT,fF (by rfl)];rfl
 have d:=cX (Φ:=Φ) (t:=.nm 3) (b:=Gk) c e;have e0:bM .ow []=[]:=rfl;rw[e0]at d;generalize aK .fz a=X at *;generalize bM .ow (bj 0 a)=Y at *;simp[mk_eq,Ja,d,cz]
theorem Aq(a b:ae):ag a++ag b=ag (a++b):=by simp[ag]
theorem E_{a b:ae}(h:a.length+b.length<=1000000):cW .add (.tup (ag a)) (.tup (ag b))=ok (.tup (ag (a++b))):=by
 show(if (ag a).length+(ag b).length<=dz then ok (D.tup (aA bp (ag a++ag b)))else none)=_;rw[if_pos (by rw[jI,jI];exact h),Aq,dS]
theorem Ka(r:Row):vQ (rD r) (.int 0)=ok (qD r.1):=by unfold rD;simp
theorem Dy(r:Row):vQ (rD r) (.int 1)=ok (.tup (ag r.2)):=by unfold rD;simp
noncomputable def vb:CE:=.comp 1 (.nm 0) [5] .seq [(.v 3)] [] (.tup [(.call 6 [(.ix (.v 1) (.int 0)),(.ix (.v 0) (.int 0))]),(.bin .add (.ix (.v 1) (.int 1)) (.ix (.v 0) (.int 1)))])
def yd:aj:=[.mut 1013 4 [vb]]
def yc:aj:=[.asg (.nm 4) (.lst []),.fr (.nm 5) (.seq (.v 2)) yd,.asg (.nm 2) (.v 4)]
def Jg:aj:=[.asg (.nm 2) (.lst [(.tup [(.v 0),(.tup [])])]),.fr (.nm 3) (.seq (.v 1)) yc,.ret (.v 2)]
noncomputable def mW(m:Row)(rows:af):af:=rows.map λr=>(m.1*r.1,m.2++r.2)
theorem N7(Φ:bh)(h:eQ (Φ 6)){k i l j:Nat}{m:Row}{rows:af}(e:Sm k m.1/\m.2.length<=l)(d:qt i j rows)(f:k<=4000)(g:i<=4000)(v:l+j<=1000)(u:rows.length<=1000)(q p o n:aG):bz Φ vb [q,p,o,some (.lst .fz (aS rows)),n,some (rD m)]=ok (.lst .ow (aS (mW m rows))):=by
 unfold vb;rw[cH (xs:=[.lst .fz (aS rows)]) (items:=aS rows) (ds:=aS (mW m rows)) (by simp) (by rw[dt];simp) ?_ (by unfold mW;rw[fx,List.length_map];exact cf (by left))]
 ·rw[cE]
 ·unfold aS mW;rw[List.map_map];refine bP λr s=>⟨[some (rD r),some (rD m)],by simp[bD],by simp,?_⟩
  obtain⟨c,t⟩:=d r s;have e1:=h m.1 r.1 (e.1.mono f) (c.mono g);have e2:=E_ (a:=m.2) (b:=r.2) (by left);simp[Ka,Dy,e1,e2];rfl
theorem vq(Φ:bh)(u:eQ (Φ 6))(n:Φ 1013=AJ){k i l j:Nat}{rows:af}(q:qt i j rows)(s:k<=4000)(t:i<=4000)(v:l+j<=1000)(r:rows.length<=1000)(e c b:aG):∀(C a:af) (f:aG),qt k l C->a.length+C.length*rows.length<=1000000 ->
  ∃g,dE (λd ρ=>cB (.nm 5) d ρ) (λρ=>bK Φ yd ρ) (aS C) [e,c,b,some (.lst .fz (aS rows)),some (.lst .ow (aS a)),f]=ok (.nx,[e,c,b,some (.lst .fz (aS rows)),some (.lst .ow (aS (a++bN C rows))),g])
 |[],a,f,_,_=>⟨f,by simp[bN,aS,gn]⟩
 |m::C,a,f,hC,hn=>by
  rw[List.length_cons,Nat.add_mul]at hn;have e1:=N7 Φ u (hC m aaf) q s t v r e c b (some (.lst .ow (aS a)));have o:(mW m rows).length=rows.length:=aa3 ..;obtain⟨g,w⟩:=vq Φ u n q s t v r e c b C (a++mW m rows) (some (rD m)) (λx y=>hC x (aad _ y)) (by rw[List.length_append,o];left);have e2:a++bN (m::C) rows=a++mW m rows++bN C rows:=by unfold bN mW;rw[List.flatMap_cons,List.append_assoc]
  have e3:Φ 1013 [.lst .ow (aS a),.lst .ow (aS (mW m rows))]=ok (.lst .ow (aS (a++mW m rows))):=by
   rw[n];show(if aP anyF (aS (mW m rows))=false/\(aS a).length+(aS (mW m rows)).length<=dz then ok (D.lst .ow (aS a++aS (mW m rows)))else none)=_;rw[if_pos ⟨gR _ _,by rw[fx,fx,o];show _<=1000000;left⟩];unfold aS;rw[List.map_append]
  have h:=ox (Φ:=Φ) (p:=1013) (i:=4) (es:=[vb]) (ρ:=[e,c,b,some (.lst .fz (aS rows)),some (.lst .ow (aS a)),some (rD m)]) (xs:=[.lst .ow (aS (mW m rows))]) (by
   show bd (bz Φ vb _) _=_;rw[e1];rfl) (by simp) rfl e3
  simp only[List.set]at h;rw[e2];refine⟨g,bZ (ρ1:=[e,c,b,some (.lst .fz (aS rows)),some (.lst .ow (aS a)),some (rD m)]) (by simp) (ρ2:=[e,c,b,some (.lst .fz (aS rows)),some (.lst .ow (aS (a++mW m rows))),some (rD m)]) ?_ w⟩;rw[yd,bX,h];rfl
theorem vo(Φ:bh)(q:eQ (Φ 6))(n:Φ 1013=AJ){i j:Nat}(o:i<=4000)(e c:aG):∀(LL:List (af)) (k l:Nat) (C:af) (h g a:aG),qt k l C->(∀rs∈LL,qt i j rs/\rs.length<=1000)->k+LL.length*i<=4000->l+LL.length*j<=1000->Mb C.length LL ->
  ∃u F G,dE (λd ρ=>cB (.nm 3) d ρ) (λρ=>bK Φ yc ρ) (bM .fz LL) [e,c,some (.lst .ow (aS C)),h,g,a]=ok (.nx,[e,c,some (.lst .ow (aS (kn C LL))),u,F,G])
 |[],k,l,C,h,g,a,_,_,_,_,_=>⟨h,g,a,rfl⟩
 |rows::LL,k,l,C,h,g,a,hC,hL,hk,hl,ho=>by
  rw[List.length_cons,Nat.add_mul,Nat.one_mul]at hk hl;obtain⟨r,A⟩:=hL rows aaf;obtain⟨H,w⟩:=ho;obtain⟨s,e1⟩:=vq Φ q n (k:=k) (l:=l) r (by left) o (by left) A e c (some (.lst .fz (aS C))) C [] a hC (by simp;left);rw[List.nil_append]at e1;obtain⟨E,D,B,y⟩:=vo Φ q n o e c LL (k+i) (l+j) (bN C rows) (some (.lst .fz (aS rows))) none s (pM hC r) (λx z=>hL x (aad _ z)) (by left) (by left) (by rw[jJ];exact w);have m:bQ Φ (.seq (.v 2)) [e,c,some (.lst .ow (aS C)),some (.lst .fz (aS rows)),some (.lst .ow (aS [])),a]=ok (aS C,[e,c,some (.lst .fz (aS C)),some (.lst .fz (aS rows)),some (.lst .ow (aS [])),a]):=by
   rw[jR (f:=.al) (ds:=aS C) (by simp)];simp[lr,Ea]
  have p:=cX (Φ:=Φ) (t:=.nm 5) (b:=yd) m e1;refine⟨E,D,B,?_⟩;show dE _ _ (.lst .fz (aS rows)::bM .fz LL) _=_;refine bZ (ρ1:=[e,c,some (.lst .ow (aS C)),some (.lst .fz (aS rows)),g,a]) (by simp) (ρ2:=[e,c,some (.lst .ow (aS (bN C rows))),some (.lst .fz (aS rows)),none,s]) ?_ y;have e0:aS []=[]:=rfl;rw[e0]at p;generalize aS (bN C rows)=X at *;simp[yc,p,cz]
def Od(m:aE):Prop:=∀(q:Rat) (LL:List (af)) (k i j:Nat),Sm k q->(∀rs∈LL,qt i j rs/\rs.length<=1000)->i<=4000->k+LL.length*i<=4000->LL.length*j<=1000->Mb 1 LL->m [qD q,.lst .fz (bM .fz LL)]=ok (.lst .ow (aS (kn [(q,[])] LL)))
theorem VE(Φ:bh)(p:eQ (Φ 6))(e:Φ 1013=AJ):Od (mk Φ 2 6 Jg):=by
 intro q a k i j h o n m u l;obtain⟨y,x,w,s⟩:=vo Φ p e n (some (qD q)) (some (.lst .fz (bM .fz a))) a k 0 [(q,[])] none none none (λr g=>by rw[List.mem_singleton.mp g];exact⟨h,aal _⟩) o m (by left) l;have c:bQ Φ (.seq (.v 1)) [some (qD q),some (.lst .fz (bM .fz a)),some (.lst .ow (aS [(q,[])])),none,none,none]=ok (bM .fz a,[some (qD q),some (.lst .fz (bM .fz a)),some (.lst .ow (aS [(q,[])])),none,none,none]):=by
  rw[jR (f:=.fz) (ds:=bM .fz a) (by simp[dR]),dR,me (by rfl)];rfl
 have d:=cX (Φ:=Φ) (t:=.nm 3) (b:=yc) c s;have e0:aS [(q,[])]=[.tup [qD q,.tup []]]:=rfl;rw[e0]at d;generalize bM .fz a=X at *;generalize aS (kn [(q,[])] a)=Y at *;simp[mk_eq,Jg,d,cz]
theorem Ph{p i:Nat}{k e:CE}{kd d x d':D}(h:bz Φ k ρ=ok kd)(g:bz Φ e (ρ.set i none)=ok d)(f:ρ[i]?=some (some x))(c:aV anyF kd=false)(b:aV anyF d=false)(a:Φ p [x,kd,d]=ok d'):mq Φ (.mu2 p i k e) ρ=ok (.nx,ρ.set i (some d')):=by
 show bd (bz Φ k ρ) (λkd=>bd (bz Φ e (ρ.set i none)) λd=>C0 Φ p i ρ kd d)=_;rw[h,cQ,g,cQ];unfold C0;rw[f];show(if aV anyF kd=false/\aV anyF d=false then bd (Φ p [x,kd,d]) λd'=>ok (Fo.nx,ρ.set i (some d'))else none)=_;rw[if_pos ⟨c,b⟩,a];rfl
noncomputable def jf(g:ae->bw)(c:ae)(q:Rat):ae->bw:=λk=>if k=c then g k++[q]else g k
theorem uc(g:ae->bw)(c:ae)(q:Rat)(b:(g c).length<dz):∀ks:az,ks.Nodup->(c∉ks->g c=[])->lW ks (ks.map λk=>.lst .ow (eT (g k))) c (qD q)=some ((ba ks c).map λk=>.lst .ow (eT (jf g c q k)))
 |[],_,h0=>by
  have e:ba [] c=[c]:=by unfold ba;rw[if_neg (by simp)];rfl
  have e2:jf g c q c=[q]:=by unfold jf;rw[if_pos rfl,h0 (by simp)];rfl
  rw[e,List.map_cons,e2];rfl
 |k::ks,hn,h0=>by
  obtain⟨h,f⟩:=List.nodup_cons.mp hn;show(if k=c then(match yB (.lst .ow (eT (g k)))with|some gs=>if gs.length<dz then some (.lst .ow (gs++[qD q])::ks.map λk=>.lst .ow (eT (g k)))else none|none=>none)else(lW ks (ks.map λk=>.lst .ow (eT (g k))) c (qD q)).map (D.lst .ow (eT (g k)) :: ·))=_;by_cases e:k=c
  ·subst e;rw[if_pos rfl];show(if (eT (g k)).length<dz then some (D.lst .ow (eT (g k)++[qD q])::ks.map λk=>.lst .ow (eT (g k)))else none)=_;rw[if_pos (by simpa using b)];have a:ba (k::ks) k=k::ks:=by unfold ba;rw[if_pos List.mem_cons_self]
   rw[a,List.map_cons];congr 2
   ·unfold jf;rw[if_pos rfl];simp[eT]
   ·refine aaP λj d=>?_;unfold jf;rw[if_neg λz:j=k=>h (z▸d)]
  ·rw[if_neg e,uc g c q b ks f λz=>h0 λm=>(List.mem_cons.mp m).elim (λw=>e w.symm) z];have a:ba (k::ks) c=k::ba ks c:=by
    unfold ba;by_cases m:c∈ks
    ·rw[if_pos m,if_pos (List.mem_cons_of_mem _ m)]
    ·rw[if_neg m,if_neg λz=>(List.mem_cons.mp z).elim (λw=>e w.symm) m];rfl
   rw[a,List.map_cons];have e2:jf g c q k=g k:=by unfold jf;rw[if_neg e]
   rw[e2];rfl
def KV(f:Fl)(ks:az)(g:ae->bw):D:=.cn f ks (ks.map λk=>.lst f (eT (g k)))
theorem sy(m:Fl->Fl)(f:Fl)(ks:az)(g:ae->bw):aR m (KV f ks g)=KV (m f) ks g:=by
 show D.cn (m f) ks (aA m (ks.map λk=>.lst f (eT (g k))))=_;rw[bu,List.map_map];congr 1;exact aaP λk _=>by show aR m (.lst f (eT (g k)))=_;simp
theorem HX(m:Fl->Bool)(f:Fl)(ks:az)(g:ae->bw)(h:m f=false):aV m (KV f ks g)=false:=by
 show(m f||aP m (ks.map λk=>.lst f (eT (g k))))=_;rw[h,cT m (λk=>by simp[h])];rfl
theorem kU(a:ae):keyOf (.tup (ag a))=some a:=bY a
theorem PD(a:Φ 1201=wg)(b:ks.Nodup)(e:ks.length<1000)(g:ae->bw)(c:ae)(q:Rat)(f:(g c).length<1000)(d:c∉ks->g c=[]):Φ 1201 [KV .ow ks g,.tup (ag c),qD q]=ok (KV .ow (ba ks c) (jf g c q)):=by
 rw[a];show(match keyOf (.tup (ag c))with|some c=>(match lW ks (ks.map λk=>.lst .ow (eT (g k))) c (qD q)with|some ws=>if cz .ow=true/\ks.length<dz then ok (D.cn .ow (ba ks c) ws)else none|none=>none)|none=>none)=_;rw[kU];show(match lW ks (ks.map λk=>.lst .ow (eT (g k))) c (qD q)with|some ws=>if cz .ow=true/\ks.length<dz then ok (D.cn .ow (ba ks c) ws)else none|none=>none)=_;rw[uc g _ q (by show _<1000000;left) ks b d];exact aa2 ⟨rfl,by show _<1000000;left⟩
theorem Sz(a:Φ 1039=xk)(g:ae->bw)(c:ae)(b:c∈ks):Φ 1039 [KV .fz ks g,.tup (ag c)]=ok (.lst .fz (eT (g c))):=by
 rw[a];show(match keyOf (.tup (ag c))with|some c=>(match bJ ks (ks.map λk=>D.lst .fz (eT (g k))) c with|some v=>if aV oO v=false then ok v else none|none=>none)|none=>none)=_;rw[kU];show(match bJ ks (ks.map λk=>D.lst .fz (eT (g k))) c with|some v=>if aV oO v=false then ok v else none|none=>none)=_;rw[lq (λk=>D.lst .fz (eT (g k))),if_pos b];exact aa2 (by simp[oO])
def eW(rows:af):az:=rows.foldl (λks r=>ba ks r.2) []
noncomputable def dh(rows:af)(l:ae):bw:=(rows.filter λr=>decide (r.2=l)).map (·.1)
theorem qQ(rows:af)(r:Row):eW (rows++[r])=ba (eW rows) r.2:=by unfold eW;rw[List.foldl_append];rfl
theorem qL(rows:af)(r:Row):dh (rows++[r])=jf (dh rows) r.2 r.1:=by
 funext l;unfold dh jf;rw[List.filter_append,List.map_append];by_cases h:r.2=l
 ·rw[if_pos h.symm,List.filter_cons_of_pos (by simpa using h)];rfl
 ·rw[if_neg λz=>h z.symm,List.filter_cons_of_neg (by simpa using h)];simp
theorem nX:∀(rows:af) (ks:az),ks.Nodup->(rows.foldl (λks r=>ba ks r.2) ks).Nodup/\(∀l,l∈rows.foldl (λks r=>ba ks r.2) ks ↔ l∈ks\/l∈rows.map (·.2))/\(rows.foldl (λks r=>ba ks r.2) ks).length<=ks.length+rows.length
 |[],ks,h=>⟨h,by simp,by simp⟩
 |r::rows,ks,h=>by
  obtain⟨c,b,a⟩:=nX rows (ba ks r.2) (Dn h r.2);refine⟨c,λl=>?_,?_⟩
  ·show l∈rows.foldl _ (ba ks r.2) ↔ _;rw[b l,Ai,List.map_cons,List.mem_cons,or_assoc]
  ·have:=Aj ks r.2;rw[List.length_cons];exact aaR a (by left)
theorem HD(rows:af):(eW rows).Nodup:=(nX rows [] abo).1
theorem Dq(rows:af)(l:ae):l∈eW rows ↔ l∈rows.map (·.2):=by
 have:=(nX rows [] abo).2.1 l;simpa [eW]using this
theorem kX(rows:af):(eW rows).length<=rows.length:=by simpa [eW]using (nX rows [] List.nodup_nil).2.2
theorem uj{rows:af}{l:ae}(h:l∉eW rows):dh rows l=[]:=by
 unfold dh;rw[List.map_eq_nil_iff,List.filter_eq_nil_iff];intro r a e;exact h ((Dq rows l).mpr (by rw[<- of_decide_eq_true e];exact aa1 a))
theorem Cr(rows:af)(l:ae):(dh rows l).length<=rows.length:=by unfold dh;rw[List.length_map];exact List.length_filter_le ..
noncomputable def ya:aj:=[.mu2 1201 3 (.v 7) (.v 6)]
def jN(f:Fl)(rows:af):D:=KV f (eW rows) (dh rows)
theorem vd(Φ:bh)(s:Φ 1201=wg)(g f c b a:aG):∀(j pr:af) (m l:aG),pr.length+j.length<1000 ->
  ∃n o,dE (λd ρ=>cB (.tp [6,7]) d ρ) (λρ=>bK Φ ya ρ) (aS j) [g,f,c,some (jN .ow pr),b,a,m,l]=ok (.nx,[g,f,c,some (jN .ow (pr++j)),b,a,n,o])
 |[],pr,m,l,_=>⟨m,l,by simp[aS,gn]⟩
 |r::j,pr,m,l,hl=>by
  rw[List.length_cons]at hl;obtain⟨n,o,t⟩:=vd Φ s g f c b a j (pr++[r]) (some (qD r.1)) (some (.tup (ag r.2))) (by simp;left);rw[List.append_assoc,List.singleton_append]at t;have e1:=PD s (HD pr) (by have:=kX pr;left) (dh pr) r.2 r.1 (by have:=Cr pr r.2;left) λh=>uj h;rw[<- qQ,<- qL]at e1;have q:=Ph (Φ:=Φ) (p:=1201) (i:=3) (k:=.v 7) (e:=.v 6) (ρ:=[g,f,c,some (jN .ow pr),b,a,some (qD r.1),some (.tup (ag r.2))]) (kd:=.tup (ag r.2)) (d:=qD r.1) (by simp) (by simp) rfl (by simp) (by simp) e1;simp only[List.set]at q;refine⟨n,o,bZ (ρ1:=[g,f,c,some (jN .ow pr),b,a,some (qD r.1),some (.tup (ag r.2))]) (by simp[rD]) (ρ2:=[g,f,c,some (jN .ow (pr++[r])),b,a,some (qD r.1),some (.tup (ag r.2))]) ?_ t⟩;rw[ya,bX,q];rfl
noncomputable def mU:CE:=.comp 1 (.nm 0) [2] .seq [(.v 5)] [] (.ix (.v 1) (.v 0))
def yb:aj:=[.fr (.tp [6,7]) (.seq (.call 101 [(.v 4),mU])) ya]
noncomputable def bH(LL:List (af))(gs:ae):List (af):=gs.map λg=>LL.getD g.toNat []
theorem NR(Φ:bh){LL:List (af)}{gs:ae}(c:∀g∈gs,0<=g/\g<(LL.length:Int))(a:gs.length<=1000)(n m l k:aG)(r:bo):bz Φ mU (n::m::some (.lst .ow (bM .ow LL))::l::k::some (.tup (ag gs))::r)=ok (.lst .ow (bM .al (bH LL gs))):=by
 unfold mU;have h:bM .fz (bH LL gs)=gs.map λg=>D.lst .fz (aS (LL.getD g.toNat [])):=by unfold bM bH;rw[List.map_map];rfl
 rw[cH (xs:=[.tup (ag gs)]) (items:=gs.map D.int) (ds:=bM .fz (bH LL gs)) (by simp) (by rw[jH];simp;rfl) ?_ (by unfold bH;rw[yi,List.length_map];exact cf (by left))]
 ·rw[dR];rfl
 ·rw[h];refine bP λg o=>⟨[some (.int g),some (.lst .fz (bM .fz LL))],by simp[bD,dR],by simp,?_⟩
  obtain⟨f,p⟩:=c g o;have a:g.toNat<LL.length:=by left
  have j:=at_of (ds:=bM .fz LL) (i:=g) (d:=.lst .fz (aS (LL.getD g.toNat []))) f (by unfold bM;rw[List.getElem?_map,List.getElem?_eq_getElem a];simp[a]);generalize e:bM .fz LL=X at *;have b:aA bp X=X:=by rw[<- e,dR];rfl
  simp[b,j]
def allR(LL:List (af))(gs:af):af:=gs.flatMap λr=>kn [(r.1,[])] (bH LL r.2)
structure Te(LL:List (af))(gs:af):Prop where
 ix:∀r∈gs,∀g∈r.2,0<=g/\g<(LL.length:Int)
 sm:∀r∈gs,Sm 6 r.1/\r.2.length<=12
 oc:∀r∈gs,Mb 1 (bH LL r.2)
 ly:∀rs∈LL,qt 6 12 rs/\rs.length<=1000
 ln:(allR LL gs).length<900
theorem Te.tail{LL:List (af)}{r:Row}(W:Te LL (r::gs)):Te LL gs:=⟨λx a=>W.ix x (aad _ a),λx a=>W.sm x (aad _ a),λx a=>W.oc x (aad _ a),W.ly,by
 have:=W.ln;unfold allR at *;rw[List.flatMap_cons,List.length_append]at this;left⟩
theorem kQ{LL:List (af)}{gs:ae}(c:∀g∈gs,0<=g/\g<(LL.length:Int)){a:af}(h:a∈bH LL gs):a∈LL:=by
 obtain⟨g,d,rfl⟩:=List.mem_map.mp h;obtain⟨f,e⟩:=c g d;have b:g.toNat<LL.length:=by left
 have:LL.getD g.toNat []=LL[g.toNat]:=by simp[b]
 rw[this];exact aaU b
theorem vf(Φ:bh)(p:Od (Φ 101))(l:Φ 1201=wg){LL:List (af)}(f e:aG):∀(gs pr:af) (h g c a:aG),Te LL gs->pr.length+(allR LL gs).length<1000 ->
  ∃F K G H,dE (λd ρ=>cB (.tp [4,5]) d ρ) (λρ=>bK Φ yb ρ) (aS gs) [f,e,some (.lst .ow (bM .ow LL)),some (jN .ow pr),h,g,c,a]=ok (.nx,[f,e,some (.lst .ow (bM .ow LL)),some (jN .ow (pr++allR LL gs)),F,K,G,H])
 |[],pr,h,g,c,a,_,_=>⟨h,g,c,a,by simp[aS,gn,allR]⟩
 |r::gs,pr,h,g,c,a,W,hl=>by
  have m:allR LL (r::gs)=kn [(r.1,[])] (bH LL r.2)++allR LL gs:=by unfold allR;rw[List.flatMap_cons]
  rw[m,List.length_append]at hl;have q:=W.ix r aaf;obtain⟨s,L⟩:=W.sm r aaf;have e3:=NR Φ q (by left) f e (some (jN .ow pr)) (some (qD r.1)) [c,a];have k:(bH LL r.2).length=r.2.length:=aa3 ..;have e4:=p r.1 (bH LL r.2) 6 6 12 s (λu J=>W.ly u (kQ q J)) (by decide) (by rw[k];left) (by rw[k];left) (W.oc r aaf);obtain⟨o,n,e5⟩:=vd Φ l f e (some (.lst .ow (bM .ow LL))) (some (qD r.1)) (some (.tup (ag r.2))) (kn [(r.1,[])] (bH LL r.2)) pr c a (by left);obtain⟨E,C,B,A,y⟩:=vf Φ p l f e gs (pr++kn [(r.1,[])] (bH LL r.2)) (some (qD r.1)) (some (.tup (ag r.2))) o n W.tail (by rw[List.length_append];left);rw[m,<- List.append_assoc];generalize kn [(r.1,[])] (bH LL r.2)=Z at *;have I:bz Φ (.call 101 [(.v 4),mU]) [f,e,some (.lst .ow (bM .ow LL)),some (jN .ow pr),some (qD r.1),some (.tup (ag r.2)),c,a]=ok (.lst .ow (aS Z)):=by
   show bd (b0 Φ [(.v 4),mU] _) _=_;have:b0 Φ [(.v 4),mU] [f,e,some (.lst .ow (bM .ow LL)),some (jN .ow pr),some (qD r.1),some (.tup (ag r.2)),c,a]=ok [qD r.1,.lst .ow (bM .al (bH LL r.2))]:=by
    show bd (bz Φ (.v 4) _) (λx=>bd (bd (bz Φ mU _) λx=>bd (ok []) λi=>ok (x::i)) λi=>ok (x::i))=_;rw[e3];simp
   rw[this,cQ];have w:aA aZ [qD r.1,.lst .ow (bM .al (bH LL r.2))]=[qD r.1,.lst .fz (bM .fz (bH LL r.2))]:=by
    rw[fJ,fJ,Dc];show[qD r.1,D.lst .fz (aA aZ (bM .al (bH LL r.2)))]=_;rw[dR];rfl
   rw[w,e4]
   first|rfl|simp
  have j:bQ Φ (.seq (.call 101 [(.v 4),mU])) [f,e,some (.lst .ow (bM .ow LL)),some (jN .ow pr),some (qD r.1),some (.tup (ag r.2)),c,a]=ok (aS Z,[f,e,some (.lst .ow (bM .ow LL)),some (jN .ow pr),some (qD r.1),some (.tup (ag r.2)),c,a]):=by
   rw[jR I];simp
  have z:=cX (Φ:=Φ) (t:=.tp [6,7]) (b:=ya) j e5;refine⟨E,C,B,A,bZ (ρ1:=[f,e,some (.lst .ow (bM .ow LL)),some (jN .ow pr),some (qD r.1),some (.tup (ag r.2)),c,a]) (by simp[rD]) (ρ2:=[f,e,some (.lst .ow (bM .ow LL)),some (jN .ow (pr++Z)),some (qD r.1),some (.tup (ag r.2)),o,n]) ?_ y⟩;rw[yb,bX,z];rfl
noncomputable def Ep:CE:=.comp 1 (.nm 0) [3] .seq [(.cS 1035 [(.v 3)])] [] (.tup [(.call 42 [(.cS 1039 [(.v 1),(.v 0)])]),(.v 0)])
def Jf:aj:=[.asg (.nm 2) (.call 100 [(.v 1)]),.asg (.nm 3) (.cS 1030 []),.fr (.tp [4,5]) (.seq (.ix (.v 0) (.int 1))) yb,.ret (.tup [(.bf .gy [zg]),Ep])]
def gM(rows:af):af:=(bx (eW rows)).map λl=>((dh rows l).sum,l)
theorem NS(Φ:bh)(P:Bl Φ)(q:iH (Φ 42))(d:Φ 1039=xk){rows:af}(t:rows.length<1000)(hs:∀l,∃k,vV k (dh rows l))(p o n:aG)(r:bo):bz Φ Ep (p::o::n::some (jN .ow rows)::r)=ok (.lst .ow (aS (gM rows))):=by
 have c:(bx (eW rows)).Perm (eW rows):=aaV _ _;have u:=kX rows;unfold Ep;rw[cH (xs:=[.lst .ow ((bx (eW rows)).map eI)]) (items:=(bx (eW rows)).map eI) (ds:=aS (gM rows)) ?_ (by rw[dt,gg]) ?_ (by
  rw[fx];unfold gM;rw[List.length_map];exact cf (by have:=c.length_eq;left))]
 ·rw[cE]
 ·have e1:∀f,Φ 1035 [jN f rows]=ok (.lst .ow ((bx (eW rows)).map eI)):=λf=>BB P f _ (by left);have a:aR bp (jN .ow rows)=jN .al rows:=sy _ _ _ _;generalize v:jN .ow rows=X at *;simp[a,e1]
 ·unfold aS gM;rw[List.map_map];refine bP λl e=>?_;have i:l∈eW rows:=c.mem_iff.mp e;have m:=Sz d (dh rows) l i;obtain⟨k,s⟩:=hs l;have j:=q .fz (dh rows l) k s;have a:aR bp (eI l)=.tup (ag l):=by show D.tup (aA bp (l.map D.int))=_;rw[iw];rfl
  have h:aR aZ (jN .ow rows)=jN .fz rows:=sy _ _ _ _;have g:aR bp (jN .fz rows)=jN .fz rows:=sy _ _ _ _;refine⟨[some (eI l),some (jN .fz rows)],by simp[bD,h],by simp,?_⟩;have b:Φ 1039 [jN .fz rows,.tup (ag l)]=ok (.lst .fz (eT (dh rows l))):=m;simp[a,g,b,j];rfl
def To(m:aE):Prop:=∀(n:Nat) (gs:af) (Ds:List Dw),Te (bj 0 Ds) gs->Ds.length<=1000->(∀d∈Ds,d.2.length<=1000/\∀r∈d.2,r.2.length<=1000)->(∀l,∃k,vV k (dh (allR (bj 0 Ds) gs) l))->m [cD n gs,.lst .fz (aK .fz Ds)]=ok (.tup [.int (bS Ds),.lst .ow (aS (gM (allR (bj 0 Ds) gs)))])
theorem VD(Φ:bh)(P:Bl Φ)(z:iH (Φ 42))(y:Tf (Φ 100))(D:Od (Φ 101))(k:Φ 1039=xk)(r:Φ 1201=wg):To (mk Φ 2 8 Jf):=by
 intro n gs a W e B w;have e1:=y a e B;have F:=W.ln;have e2:Φ 1030 []=ok (jN .ow []):=by rw[P.D5];rfl
 obtain⟨j,i,h,g,f⟩:=vf Φ D r (LL:=bj 0 a) (some (cD n gs)) (some (.lst .fz (aK .fz a))) gs [] none none none none W (by simp;left);rw[List.nil_append]at f;have E:bz Φ (.ix (.v 0) (.int 1)) [some (cD n gs),some (.lst .fz (aK .fz a)),some (.lst .ow (bM .ow (bj 0 a))),some (jN .ow []),none,none,none,none]=ok (.lst .fz (aS gs)):=by
  rw[show cD n gs=.tup [.int n,.lst .fz (aS gs)] from rfl];simp
 have c:bQ Φ (.seq (.ix (.v 0) (.int 1))) [some (cD n gs),some (.lst .fz (aK .fz a)),some (.lst .ow (bM .ow (bj 0 a))),some (jN .ow []),none,none,none,none]=ok (aS gs,[some (cD n gs),some (.lst .fz (aK .fz a)),some (.lst .ow (bM .ow (bj 0 a))),some (jN .ow []),none,none,none,none]):=by
  rw[jR E];simp
 have x:=cX (Φ:=Φ) (t:=.tp [4,5]) (b:=yb) c f;have u:=sZ Φ e .fz (some (cD n gs)) [some (.lst .ow (bM .ow (bj 0 a))),some (jN .ow (allR (bj 0 a) gs)),j,i,h,g];have s:=NS Φ P z k (by left) w (some (cD n gs)) (some (.lst .fz (aK .fz a))) (some (.lst .ow (bM .ow (bj 0 a)))) [j,i,h,g];have l:oi .gy [.lst .ow (ag (a.map λd=>(d.1:Int)))]=ok (.int (bS a)):=pE _ _;have o:aV bW (jN .ow [])=false:=HX _ _ _ _ rfl;have m:aP bW (bM .ow (bj 0 a))=false:=me (by rfl) _;have q:aA gU (bM .ow (bj 0 a))=bM .ow (bj 0 a):=by rw[dR];rfl
 have p:aA bp (aK .fz a)=aK .fz a:=by rw[aT];rfl
 have C:aA aZ (aK .fz a)=aK .fz a:=by rw[aT];rfl
 generalize allR (bj 0 a) gs=A at *;generalize bM .ow (bj 0 a)=R at *;generalize aK .fz a=X at *;generalize ag (a.map λd=>(d.1:Int))=Y at *;generalize cD n gs=Z at *;generalize jN .ow []=H at *;generalize jN .ow A=G at *;simp[mk_eq,Jf,e1,e2,p,C,q,o,m,x,u,s,l]
theorem HA(l:ae):HT.lexLt l l=false:=by
 cases q:HT.lexLt l l with
 |false=>rfl
 |true=>rw[l6 _ _ q]at q;cases q
theorem B6{l:az}(h:vH l):l.Nodup:=List.Pairwise.imp (λ{a b} x e=>by subst e;rw[HA]at x;cases x) h
noncomputable def JK:Int->List Dw->Int
 |c,[]=>c
 |c,d::Ds=>JK (c*(d.2.length:Int)) Ds
structure YN(Ds:List Dw):Prop where
 l1:1<=Ds.length
 l4:Ds.length<=4
 dr:∀d∈Ds,Dr 6 d.1 d.2
 FE:∀d∈Ds,d.2.length<=5
 TR:bS Ds<=12
 adw:JK 1 Ds<=500
theorem QL:∀{LL:List (af)} {c:Nat},(∀rs∈LL,rs.length<=5)->c*5 ^ LL.length<=1000->Mb c LL
 |[],_,_,_=>trivial
 |rs::LL,c,h,hc=>by
  rw[List.length_cons,Nat.pow_succ]at hc;have b:=h rs aaf;have f:1<=5 ^ LL.length:=Nat.one_le_pow _ _ (by decide);have d:c*rs.length<=c*5:=acC _ b;have g:c*rs.length*5 ^ LL.length<=c*5*5 ^ LL.length:=Nat.mul_le_mul_right _ d;have e:c*(5 ^ LL.length*5)=c*5*5 ^ LL.length:=by rw[Nat.mul_comm (5 ^ LL.length) 5,Nat.mul_assoc]
  refine⟨?_,QL (λx a=>h x (aad _ a)) (by left)⟩;have:c*5<=c*5*5 ^ LL.length:=Nat.le_mul_of_pos_right _ f;left
theorem vp:∀{LL:List (af)} {C:af},(∀rs∈LL,rs.length<=5)->(kn C LL).length<=C.length*5 ^ LL.length
 |[],_,_=>by simp[kn]
 |rs::LL,C,h=>by
  have a:=vp (LL:=LL) (C:=bN C rs) λx b=>h x (aad _ b);rw[jJ]at a;refine aaR a ?_;rw[List.length_cons,Nat.pow_succ,Nat.mul_comm (5 ^ LL.length) 5,<- Nat.mul_assoc];exact Nat.mul_le_mul_right _ (acC _ (h rs aaf))
theorem uk{rows:af}(h:(rows.map (·.2)).Nodup)(l:ae):(dh rows l).length<=1:=by
 induction rows with
 |nil=>simp[dh]
 |cons r rows a =>
  obtain⟨d,c⟩:=List.nodup_cons.mp h;have a:=a c;unfold dh at *;rw[List.filter_cons];split
  ·rename_i e;have e:=aab e;have:rows.filter (λr=>decide (r.2=l))=[]:=by
    rw[List.filter_eq_nil_iff];intro x b z;exact d (by show r.2∈rows.map (·.2);rw[e,<- of_decide_eq_true z];exact aa1 b)
   rw[this];simp
  ·exact a
def Zo(Ds:List Dw):af:=kn [(1,[])] (bj 0 Ds)
section
variable {Ds:List Dw}(K:YN Ds)
include K
end
def adB(m:aE):Prop:=∀a,YN a->m [.lst .fz (aK .fz a)]=ok (.tup [.int (bS a),.lst .ow (aS (gM (Zo a)))])
structure Tn(P:ae->Prop)(j:Nat)(cs:az)(ws:ae):Prop where
 nd:cs.Nodup
 ln:cs.length=ws.length
 FE:cs.length<=j
 lot:∀c∈cs,P c
 pos:∀w∈ws,1<=w/\w<=9
 ne:1<=j->cs≠[]
theorem ua{a:Type}{c:ae}{v:a}:∀{cs:az} {ws:List a},cs.length=ws.length->(setC cs ws c v).length=ws.length
 |[],[],_=>rfl
 |[],_::_,h=>by simp at h
 |_::_,[],h=>by simp at h
 |c'::cs,w::ws,h=>by
  show((if c'=c then v else w)::setC cs ws c v).length=_;rw[List.length_cons,ua (by simpa using h),List.length_cons]
theorem Tn.put{P:ae->Prop}{j:Nat}(T:Tn P j cs ws){c:ae}(f:P c){i:Int}(n:1<=i)(m:i<=9):Tn P (j+1) (ba cs c) (bI cs ws c i):=by
 have l:=T.FE;by_cases h:c∈cs
 ·unfold ba bI;rw[if_pos h,if_pos h];refine⟨T.nd,by rw[ua T.ln];exact T.ln,by left,T.lot,λw hw=>?_,λ_ z=>by rw[z]at h;cases h⟩;rcases t8 hw with hw|rfl
  ·exact T.pos w hw
  ·left
 ·unfold ba bI;rw[if_neg h,if_neg h];refine⟨?_,by rw[List.length_append,List.length_append,T.ln];rfl,by rw[List.length_append,List.length_singleton];left,λd hd=>?_,λw hw=>?_,λ_ z=>by simp at z⟩
  ·refine List.nodup_append.mpr ⟨T.nd,List.nodup_cons.mpr ⟨List.not_mem_nil,abo⟩,λa k b g e=>?_⟩;rw[List.mem_singleton.mp g]at e;exact h (e▸k)
  ·rcases List.mem_append.mp hd with hd|hd
   ·exact T.lot d hd
   ·rw[List.mem_singleton.mp hd];exact f
  ·rcases List.mem_append.mp hw with hw|hw
   ·exact T.pos w hw
   ·rw[List.mem_singleton.mp hw];left
theorem P9:∀{l:ae},(∀x∈l,1<=x/\x<=9)->0<=l.sum/\l.sum<=9*l.length/\∀x∈l,x<=l.sum
 |[],_=>⟨abD _,by simp,λ_ h=>nomatch h⟩
 |a::l,h=>by
  obtain⟨e,d,c⟩:=P9 λx b=>h x (aad _ b);have f:=h a aaf;rw[List.sum_cons,List.length_cons];refine⟨by left,by left,λx b=>?_⟩;rcases List.mem_cons.mp b with rfl|b
  ·left
  ·have:=c x b;left
theorem Tn.dr{P:ae->Prop}{n j:Nat}(T:Tn P j cs ws)(s:1<=j)(B:j<=5)(l:1<=n)(k:n<=12):Dp P 6 n (jO cs ws)/\(jO cs ws).length=cs.length/\1<=ws.sum/\ws.sum<=45:=by
 have f:(bx cs).Perm cs:=aaV _ _;have g:(jO cs ws).length=cs.length:=by unfold jO;rw[List.length_map];exact f.length_eq
 have A:=T.FE;have y:=T.ln;obtain⟨v,u,i⟩:=P9 T.pos;have d:∀c∈bx cs,1<=iC cs ws c/\iC cs ws c<=ws.sum:=λc a=>by
  obtain⟨w,e,m⟩:=nZ T.ln (f.mem_iff.mp a);unfold iC;rw[e];exact⟨(T.pos w m).1,i w m⟩
 have p:1<=ws.sum:=by
  obtain⟨c,a⟩:=List.exists_mem_of_ne_nil cs (T.ne s);have:=d c (f.mem_iff.mpr a);left
 have t:ws.sum<=45:=by left
 have h:∀r∈jO cs ws,Sm 6 r.1:=λr b=>by
  obtain⟨c,a,rfl⟩:=List.mem_map.mp b;have:=d c a;exact Qc (by left) (by show _<64;left) (by show _<64;left)
 refine⟨⟨l,k,⟨ws.sum.natAbs,by left,?_,λr b=>?_⟩,by rw[g];left,λr b=>?_,λr b=>?_,h,?_,?_,6,⟨λq o=>?_,by unfold nB;rw[List.length_map,g];left,by unfold nB;rw[List.length_map,g];left⟩⟩,g,p,t⟩
 ·have:(46:Nat)<2 ^ 250:=by decide
  left
 ·obtain⟨c,a,rfl⟩:=List.mem_map.mp b;exact xn (by left)
 ·obtain⟨c,a,rfl⟩:=List.mem_map.mp b;exact T.lot c (f.mem_iff.mp a)
 ·obtain⟨c,a,rfl⟩:=List.mem_map.mp b;exact xl (by have:=d c a;left) (by left)
 ·have e:(jO cs ws).map (·.1)=(bx cs).map λc=>Rat.divInt (iC cs ws c) ws.sum:=by
   unfold jO;rw[List.map_map];rfl
  rw[e];have e2:((bx cs).map λc=>Rat.divInt (iC cs ws c) ws.sum).sum=(cs.map λc=>Rat.divInt (iC cs ws c) ws.sum).sum:=Cw (f.map _);have e3:(cs.map λc=>Rat.divInt (iC cs ws c) ws.sum)=(cs.map (iC cs ws)).map λx=>Rat.divInt x ws.sum:=by rw[List.map_map];rfl
  rw[e2,e3,uy T.nd T.ln,ye _ (by left),Rat.divInt_eq_div];have z:((ws.sum:Int):Rat)≠0:=λz=>by rw[Rat.intCast_eq_zero_iff]at z;left
  grind
 ·have e:(jO cs ws).map (·.2)=bx cs:=by
   unfold jO;rw[List.map_map];exact(aaP λ_ _=>rfl).trans (List.map_id _)
  rw[e];exact ka T.nd
 ·obtain⟨r,b,rfl⟩:=List.mem_map.mp o;exact h r b
noncomputable def zf:CE:=.comp 1 (.nm 0) [0] .lY [(.v 2)] [(.cmp .eq (.bin .mod (.bin .fdiv (.v 1) (.bin .shl (.int 1) (.v 0))) (.int 2)) (.int 1))] (.v 0)
def Gn:aj:=[.asg (.nm 6) (.bf .tuple1 [zf]),.asg (.nm 0) (.bin .fdiv (.v 0) (.bin .shl (.int 1) (.v 2))),.mut 1033 4 [(.bin .add (.int 1) (.bin .mod (.v 0) (.int 9))),(.v 6)],.asg (.nm 0) (.bin .fdiv (.v 0) (.int 9))]
noncomputable def Eo:CE:=.comp 1 (.nm 0) [7,4] .seq [(.cS 1035 [(.v 4)])] [] (.tup [(.call 201 [(.cS 1032 [(.v 2),(.v 0)]),(.v 1)]),(.v 0)])
def Je:aj:=[.asg (.nm 2) (.bin .add (.int 1) (.bin .mod (.v 0) (.v 1))),.asg (.nm 3) (.bin .add (.int 1) (.bin .mod (.bin .fdiv (.v 0) (.v 1)) (.int 5))),.asg (.nm 0) (.bin .fdiv (.v 0) (.bin .mul (.int 5) (.v 1))),.asg (.nm 4) (.cS 1030 []),.fr (.nm 5) (.lY (.v 3)) Gn,.asg (.nm 7) (.cS 1038 [(.v 4)]),.ret (.tup [(.v 2),Eo])]
theorem E6{k:Nat}(a:k<=12):cW .shl (.int 1) (.int (k:Int))=ok (.int ((2 ^ k:Nat):Int)):=by
 rw[SY (by
  unfold kP;simp only[Bool.and_eq_true,decide_eq_true_eq];exact⟨⟨by left,by left⟩,by decide⟩),Int.toNat_natCast,Int.one_mul]
 simp
theorem KC(N:Int){k:Nat}(a:k<=12):cW .fdiv (.int N) (.int ((2 ^ k:Nat):Int))=ok (.int (N.fdiv ((2 ^ k:Nat):Int))):=by
 have c:1<=2 ^ k:=Nat.one_le_two_pow;have b:2 ^ k<=2 ^ 12:=aaS (by decide) a;refine ko (fQ (by left) (oV ?_));rw[Int.natAbs_natCast];have:(2:Nat) ^ 12<2 ^ 64:=by decide
 left
theorem Mp(Φ:bh){n:Nat}(d:n<=12)(N:Int)(c:aG)(r:bo):∃a,vW n a/\bz Φ zf (some (.int N)::c::some (.int n)::r)=ok (.lst .ow (ag a)):=by
 refine⟨_,V4 n λ(k:Nat)=>decide ((N.fdiv ((2 ^ k:Nat):Int)).fmod 2=1),?_⟩;unfold zf;rw[cH (xs:=[.int n]) (ds:=((List.range n).filter λ(k:Nat)=>decide ((N.fdiv ((2 ^ k:Nat):Int)).fmod 2=1)).map λ(k:Nat)=>D.int (k:Int)) (by simp) (yN Φ (by left) (by left)) ?_ ?_]
 ·simp[bu,ag]
 ·rw[Int.toNat_natCast];refine jo λk b=>⟨[some (.int k),some (.int N)],by simp[bD],?_,λ_=>by simp⟩
  have e:=List.mem_range.mp b;have e1:=E6 (k:=k) (by left);have e2:=KC N (k:=k) (by left);generalize (N.fdiv ((2 ^ k:Nat):Int))=M at *;generalize ((2 ^ k:Nat):Int)=W at *;simp[e1,e2]
 ·have:=List.length_filter_le (λ(k:Nat)=>decide ((N.fdiv ((2 ^ k:Nat):Int)).fmod 2=1)) (List.range n);simp only[List.length_map,List.length_range]at this ⊢;exact cf (by left)
theorem yI(Φ:bh)(P:Bl Φ){n:Nat}(h:n<=12)(f e c:aG):∀(ks:aa) (j:Nat) (N:Int) (cs:az) (ws:ae) (l g:aG),Tn (vW n) j cs ws->j+ks.length<=5 ->
  ∃o m q B A,dE (λd ρ=>cB (.nm 5) d ρ) (λρ=>bK Φ Gn ρ) ks [some (.int N),f,some (.int n),e,some (.cn .ow cs (ag ws)),l,g,c]=ok (.nx,[q,f,some (.int n),e,some (.cn .ow o (ag m)),B,A,c])/\Tn (vW n) (j+ks.length) o m
 |[],j,N,cs,ws,l,g,T,_=>⟨cs,ws,some (.int N),l,g,rfl,T⟩
 |k::ks,j,N,cs,ws,l,g,T,hj=>by
  rw[List.length_cons]at hj;obtain⟨a,u,e1⟩:=Mp Φ h N f [e,some (.cn .ow cs (ag ws)),some k,g,c];have e2:=E6 h;have e3:=KC N h;generalize N.fdiv ((2 ^ n:Nat):Int)=M at *;obtain⟨a1,a2⟩:=lu M (b:=9) (by decide);have C:=T.FE;have e4:=NV P (cs:=cs) (by left) ws a (1+M.fmod 9);have z:=T.put u (i:=1+M.fmod 9) (by left) (by left);obtain⟨o,m,y,x,w,t,r⟩:=yI Φ P h f e c ks (j+1) (M.fdiv 9) _ _ (some k) (some (.tup (ag a))) z (by left);have s:=ox (Φ:=Φ) (p:=1033) (i:=4) (es:=[(.bin .add (.int 1) (.bin .mod (.v 0) (.int 9))),(.v 6)]) (ρ:=[some (.int M),f,some (.int n),e,some (.cn .ow cs (ag ws)),some k,some (.tup (ag a)),c]) (xs:=[.int (1+M.fmod 9),.tup (ag a)]) (by simp) (by simp) rfl e4;simp only[List.set]at s;refine⟨o,m,y,x,w,bZ (ρ1:=[some (.int N),f,some (.int n),e,some (.cn .ow cs (ag ws)),some k,g,c]) (by simp) (ρ2:=[some (.int (M.fdiv 9)),f,some (.int n),e,some (.cn .ow (ba cs a) (ag (bI cs ws a (1+M.fmod 9)))),some k,some (.tup (ag a)),c]) ?_ t,by rw[List.length_cons,show j+(ks.length+1)=j+1+ks.length by left];exact r⟩;generalize ((2 ^ n:Nat):Int)=W at *;simp[Gn,Q8 Φ zf _ rfl,e1,e2,e3,s]
theorem Vu(a:Φ 1038=Oi)(f:Fl)(cs:az)(ws:ae):Φ 1038 [.cn f cs (ag ws)]=ok (.int ws.sum):=by
 rw[a];show(match intsOf (ws.map D.int)with|some ns=>ok (D.int ns.sum)|none=>none)=_;rw[bY]
def Tj(m:aE):Prop:=∀(N:Int) (p:Nat),1<=p->p<=12->∃d:Dw,m [.int N,.int p]=ok (ck .ow d)/\Dr 6 d.1 d.2/\d.2.length<=5/\1<=d.2.length/\d.1<=p
theorem VC(Φ:bh)(P:Bl Φ)(H:om (Φ 201))(K:Φ 1038=Oi):Tj (mk Φ 2 8 Je):=by
 intro N p Q O;obtain⟨m,V⟩:=lu N (b:=(p:Int)) (by left);obtain⟨n,u⟩:∃n:Nat,1+N.fmod p=(n:Int):=⟨(1+N.fmod p).toNat,by left⟩
 obtain⟨U,S⟩:=lu (N.fdiv p) (b:=5) (by decide);obtain⟨k,y⟩:∃k:Nat,1+(N.fdiv p).fmod 5=(k:Int):=⟨(1+(N.fdiv p).fmod 5).toNat,by left⟩
 have I:Tn (vW n) 0 [] []:=⟨abo,rfl,aal _,(λ_ h=>nomatch h),(λ_ h=>nomatch h),λh=>by left⟩
 obtain⟨cs,ws,G,F,E,B,T⟩:=yI Φ P (n:=n) (by left) (some (.int p)) (some (.int k)) none ((List.range k).map λ(i:Nat)=>D.int (i:Int)) 0 (N.fdiv (5*p)) [] [] none none I (by simp;left);rw[List.length_map,List.length_range,Nat.zero_add]at T;obtain⟨J,x,w1,q⟩:=T.dr (n:=n) (by left) (by left) (by left) (by left);have M:=T.ne (by left);have W:1<=cs.length:=List.length_pos_iff.mpr M;have j:=T.FE;have w:cW .mod (.int N) (.int p)=ok (.int (N.fmod p)):=S0 (by left);have hd:cW .fdiv (.int N) (.int p)=ok (.int (N.fdiv p)):=ko (fQ (by left) (oV (by left)));have g:cW .fdiv (.int N) (.int (5*(p:Int)))=ok (.int (N.fdiv (5*p))):=ko (fQ (by left) (oV (by left)));have d:cW .mul (.int 5) (.int (p:Int))=ok (.int (5*(p:Int))):=Jb (by left);have o:Φ 1030 []=ok (.cn .ow [] (ag [])):=by rw[P.D5];rfl
 have e:bQ Φ (.lY (.v 3)) [some (.int (N.fdiv (5*p))),some (.int p),some (.int n),some (.int k),some (.cn .ow [] (ag [])),none,none,none]=ok ((List.range k).map λ(i:Nat)=>D.int (i:Int),[some (.int (N.fdiv (5*p))),some (.int p),some (.int n),some (.int k),some (.cn .ow [] (ag [])),none,none,none]):=by
  rw[Mw (n:=k) (by simp) (by left) (by left),Int.toNat_natCast]
 have l:=cX (Φ:=Φ) (t:=.nm 5) (b:=Gn) e B;have s:(bx cs).Perm cs:=aaV _ _;have a:=λf=>Vu K f cs ws;have A:bz Φ Eo [G,some (.int p),some (.int n),some (.int k),some (.cn .ow cs (ag ws)),F,E,some (.int ws.sum)]=ok (.lst .ow (aS (jO cs ws))):=by
  unfold Eo;rw[cH (xs:=[.lst .ow ((bx cs).map eI)]) (items:=(bx cs).map eI) (ds:=aS (jO cs ws)) (by simp[BB P _ _ (show cs.length<4000 by left)]) (by rw[dt,gg]) ?_ (by rw[fx,x];exact cf (by left))]
  ·rw[cE]
  ·unfold aS jO;rw[List.map_map];refine bP λc z=>?_;have L:c∈cs:=s.mem_iff.mp z;have C:=λf=>SA P f T.ln L;have m:=H (iC cs ws c) ws.sum (by left) (oV (by left));have r:aR bp (eI c)=.tup (ag c):=by show D.tup (aA bp (c.map D.int))=_;rw[iw];rfl
   refine⟨[some (eI c),some (.int ws.sum),some (.cn .fz cs (ag ws))],by simp[bD],by simp,?_⟩;simp[r,C,m];rfl
 refine⟨(n,jO cs ws),?_,J,by show(jO cs ws).length<=5;left,by show 1<=(jO cs ws).length;left,by show n<=p;left⟩;simp only[Ap]at l o;generalize jO cs ws=R at *;show _=ok (D.tup [.int n,.lst .ow (aS R)]);simp[mk_eq,Je,w,u,hd,y,d,g,o,l,a,A]
def KI(m:aE):Prop:=∀d:Dw,m [ck .fz d]=ok (ck .ow d)
noncomputable def zE:aj:=[.ret (.tup [(.ix (.v 0) (.int 0)),(.bf .list1 [(.ix (.v 0) (.int 1))])])]
theorem Qm(Φ:bh):KI (mk Φ 1 1 zE):=by
 intro d;show _=ok (D.tup [.int d.1,.lst .ow (aS d.2)]);rw[show ck .fz d=.tup [.int d.1,.lst .fz (aS d.2)] from rfl];simp[mk_eq,zE]
noncomputable def En:CE:=.comp 1 (.nm 0) [] .seq [(.ix (.v 2) (.int 1))] [(.or [(.not (.lg (.v 0) .int)),(.lg (.v 0) .bool)])] (.v 0)
def Gm:aj:=[.ifs (.or [(.not (.lg (.v 2) .tuple)),(.not (.call 204 [(.ix (.v 2) (.int 0))])),(.not (.lg (.ix (.v 2) (.int 1)) .tuple))]) [.ret (.bl false)] [],.ifs (.cmp .gt (.bf .len [En]) (.int 0)) [.ret (.bl false)] []]
def Jd:aj:=[.ifs (.or [(.not (.lg (.v 0) .tuple)),(.cmp .ne (.v 0) (.v 1)),(.lg (.ix (.v 0) (.int 0)) .bool),(.not (.lg (.ix (.v 0) (.int 1)) .list))]) [.ret (.bl false)] [],.fr (.nm 2) (.seq (.ix (.v 0) (.int 1))) Gm,.ret (.bl true)]
def Ti(m:aE):Prop:=∀(n:Int) (a:af),m [.tup [.int n,.lst .fz (aS a)],.tup [.int n,.lst .fz (aS a)]]=ok (.bl true)
theorem yH(Φ:bh)(i:Fh (Φ 204))(b a:aG):∀(e:af) (c:aG),∃f,dE (λd ρ=>cB (.nm 2) d ρ) (λρ=>bK Φ Gm ρ) (aS e) [b,a,c]=ok (.nx,[b,a,f])
 |[],c=>⟨c,rfl⟩
 |r::e,c=>by
  obtain⟨f,k⟩:=yH Φ i b a e (some (rD r));have e1:=i r.1;have e2:bz Φ En [b,a,some (rD r)]=ok (.lst .ow []):=by
   unfold En;rw[cH (xs:=[.tup (ag r.2)]) (items:=r.2.map D.int) (ds:=(r.2.filter λ_=>false).map D.int) (by simp[Dy]) (by rw[jH];simp;rfl) (jo (t:=λ_=>false) λh _=>⟨[some (.int h)],by simp[bD],by simp[du],λz=>by cases z⟩) (by rw[show(r.2.filter λ_=>false)=[] by simp];exact Nat.zero_le _)];simp
  have j:du .tuple (rD r)=true:=rfl;refine⟨f,bZ (ρ1:=[b,a,some (rD r)]) (by simp) (ρ2:=[b,a,some (rD r)]) ?_ k⟩;have l:∀g,du .tuple (.tup g)=true:=λ_=>rfl;simp[Gm,j,l,Ka,Dy,e1,e2]
theorem VB(Φ:bh)(o:Fh (Φ 204)):Ti (mk Φ 2 3 Jd):=by
 intro n a;obtain⟨q,k⟩:=yH Φ o (some (.tup [.int n,.lst .fz (aS a)])) (some (.tup [.int n,.lst .fz (aS a)])) a none;have p:bz Φ (.ix (.v 0) (.int 1)) [some (.tup [.int n,.lst .fz (aS a)]),some (.tup [.int n,.lst .fz (aS a)]),none]=ok (.lst .fz (aS a)):=by simp
 have e:bQ Φ (.seq (.ix (.v 0) (.int 1))) [some (.tup [.int n,.lst .fz (aS a)]),some (.tup [.int n,.lst .fz (aS a)]),none]=ok (aS a,[some (.tup [.int n,.lst .fz (aS a)]),some (.tup [.int n,.lst .fz (aS a)]),none]):=by
  rw[jR p];simp
 have j:=cX (Φ:=Φ) (t:=.nm 2) (b:=Gm) e k;have h:eU 40 (.tup [.int n,.lst .fz (aS a)])=true:=by
  have:(aS a).all (eU 38)=true:=jF (λr=>CN 36 r) a;simp[this]
 have l:iD .ne (.tup [.int n,.lst .fz (aS a)]) (.tup [.int n,.lst .fz (aS a)])=ok (.bl false):=by
  rw[N8 h h,ze,cU,cU,lA,zd];simp
 have m:∀g,du .tuple (.tup g)=true:=λ_=>rfl;have d:∀f g,du .list (.lst f g)=true:=λ_ _=>rfl;have c:∀i,du .bool (.int i)=false:=λ_=>rfl;simp[mk_eq,Jd,m,d,c,l,j]
def rP(a:Int)(b:af):af:=b.map λr=>(r.1,iV a r.2)
noncomputable def Gf(f:Fl)(ks:az)(S:ae->Rat):D:=.cn f ks (ks.map λk=>qD (S k))
theorem nW(g:Fl->Fl)(f:Fl)(ks:az)(S:ae->Rat):aR g (Gf f ks S)=Gf (g f) ks S:=by
 show D.cn (g f) ks (aA g (ks.map λk=>qD (S k)))=_;rw[eJ g λk=>by simp];rfl
theorem HY(g:Fl->Bool)(f:Fl)(ks:az)(S:ae->Rat):aV g (Gf f ks S)=g f:=by
 show(g f||aP g (ks.map λk=>qD (S k)))=_;rw[cT g λk=>by simp,Bool.or_false]
theorem PJ(P:Bl Φ)(f:Fl)(S:ae->Rat){c:ae}(a:c∈ks):Φ 1032 [Gf f ks S,.tup (ag c)]=ok (qD (S c)):=by
 rw[P.Km];show(match keyOf (.tup (ag c))with|some c=>(match bJ ks (ks.map λk=>qD (S k)) c with|some v=>if aV anyF v=false then ok v else none|none=>none)|none=>none)=_;rw[kU];show(match bJ ks (ks.map λk=>qD (S k)) c with|some v=>if aV anyF v=false then ok v else none|none=>none)=_;rw[lq (λk=>qD (S k)),if_pos a];exact aa2 (o_ _ _)
def adC(m:aE):Prop:=∀a,YN a->m [.lst .fz (aK .fz a)]=ok (.tup [.int (bS a),.lst .ow (aS (gM (Zo a)))])
theorem xi(f g:Fl):∀a:List Dw,eF (aK f a) (aK g a)=true
 |[]=>rfl
 |d::a=>by
  show(nu (ck f d) (ck g d)&&eF (aK f a) (aK g a))=true;rw[xi f g a];show(eF [.int d.1,.lst f (aS d.2)] [.int d.1,.lst g (aS d.2)]&&true)=true;rw[cU,cU,lA,zd];simp
end DI
end
section
namespace DI
open PySem PySem.Spec PyProof.Rows PySem.W
structure XC(K:Frag)(C:Addr):Prop where
 ga:findIn K (.ref C) "__getattribute__" = some (some (.builtin "BaseException.__getattribute__"))
 gt:findIn K (.ref C) "__getattr__" = some none
 cl:findIn K (.ref C) "__class__" = some (some (.builtin "object.__class__"))
 be:mroIn K C (.type "BaseException")=some true
 ob:mroIn K C (.type "object")=some true
 cs:(clsIn K C).isSome=true
section
variable {prog:aC}{w:World}{A:aB}{E:au}{h:Heap}{g:Array GenState}{d:Drawn}{t:Nat}{os:OsState}{K:Frag}{x C:Addr}{o:Obj}
theorem UY{R:Result->Shared->Prop}(Z:XC K C)(X:K.In h)(a:h.get? x=some o)(b:o.cls=.ref C)(f:R (.ok (.ret (.ref C))) ⟨h,g,d,t,os⟩):
  codeAny (model prog w) A (.call (.builtin "getset_descriptor.__get__") ⟨[.builtin "object.__class__",.ref x,.ref C],[]⟩) R ⟨h,g,d,t,os⟩:=by
 have c:=looks_mroIn (M:=model prog w) X Z.ob;refine acw KF.slot_gs.plain KF.entry_gs (KF.slot_gs.check _ _ _ _ _ _ _ _ KF.type_class (KF.args_gs _ _ _) ?_);have e:(⟨h,g,d,t,os⟩:Shared).TypeIs (.builtin "object.__class__") "getset_descriptor":=acu;have e1:(".".intercalate ("object.__class__".cutAt '.').dropLast) = "object":=F.owner_object_class
 repeat (any_goals (first|assumption | (with_reducible refine abW a ?_;rw[b]) | (with_reducible refine c.at ?_) | (rw[e1];with_reducible refine c.at ?_)|wp_step))
 refine⟨acH _ (by decide +kernel),abQ F.entry_object_class ?_⟩
 repeat (any_goals (first|assumption | (with_reducible refine abW a ?_;rw[b])|wp_step))
theorem KS{tk:Tok}{Q:Fin->Shared->Prop}(Z:XC K C)(X:K.In h)(a:h.get? x=some o)(b:o.cls=.ref C)(f:Q (.done (.ret (.ref C))) ⟨h,g,d,t,os⟩):
  wpAny (model prog w) A (Builtin.«object.__getattribute__» ⟨[.ref x,.str "__class__" tk],[]⟩) Q E ⟨h,g,d,t,os⟩:=by
 have c:(⟨h,g,d,t,os⟩:Shared).TypeIs (.builtin "object.__class__") "getset_descriptor":=acu;have k:=acu;have j:=F.slot_gs_get.lookup;have i:=F.slot_gs_set.lookup;have e:=looks_findIn (M:=model prog w) X Z.cl
 repeat (any_goals (first|assumption | (with_reducible refine abW a ?_;rw[b]) | (with_reducible refine e.at ?_)|wp_step))
 refine UY Z X a b ?_
 repeat (any_goals (first|assumption|wp_step))
theorem KU{M:Model}{a:Value}{Q:Unit->Shared->Prop}(Z:XC K C)(X:K.In h)(b:h.get? x=some o)(f:o.cls=.ref C)(c:Q () ⟨h,g,d,t,os⟩):
  wpAny M A (checkBuiltinCall "BaseException.__getattribute__" ⟨[.ref x,a],[]⟩) Q E ⟨h,g,d,t,os⟩:=by
 have e:builtinKind "BaseException.__getattribute__" = some .slot:=by decide +kernel
 have i:splitId "BaseException.__getattribute__" = some ("BaseException","__getattribute__"):=by decide +kernel
 have j:=looks_mroIn (M:=M) X Z.be;have k:=F.args_bexc_ga (.ref x) a;simp only[checkBuiltinCall,e,i];refine aaa ?_
 ·unfold isInstance
  repeat (first | (with_reducible refine abW b ?_;rw[f]) | (with_reducible refine j.at ?_)|wp_step)
  exact c
theorem Pc{tk:Tok}{R:Result->Shared->Prop}(B:ExcAttrFacts "ValueError")(Z:XC K C)(X:K.In h)(a:h.get? x=some o)(b:o.cls=.ref C)(c:R (.ok (.ret (.ref C))) ⟨h,g,d,t,os⟩):
  codeAny (model prog w) A (.call (.builtin "BaseException.__getattribute__") ⟨[.ref x,.str "__class__" tk],[]⟩) R ⟨h,g,d,t,os⟩ :=
 acw B.ga.plain F.entry_bexc_ga (KU Z X a b (KS Z X a b c))
theorem xby{tk:Tok}{Q:au}(B:ExcAttrFacts "ValueError")(Z:XC K C)(X:K.In h)(a:h.get? x=some o)(b:o.cls=.ref C)(f:Q (.ref C) ⟨h,g,d,t,os⟩):
  wpAny (model prog w) A (getAttrBy (.ref x) (.str "__class__" tk) false) Q E ⟨h,g,d,t,os⟩:=by
 have i:=B.ga.bind (.ref x);have j:(false&&onTheHeap (Value.builtin "BaseException.__getattribute__"))=false:=rfl;have c:(Value.builtin "BaseException.__getattribute__" == Value.builtin "object.__getattribute__")=false:=by decide +kernel
 have k:(onTheHeap (Value.ref C)&&Value.builtin "BaseException.__getattribute__" == Value.builtin "object.__getattribute__")=false:=by rw[c];rfl
 have e:=looks_findIn (M:=model prog w) X Z.ga;have L2:=looks_findIn (M:=model prog w) X Z.gt
 repeat (any_goals (first|assumption | (with_reducible refine abW a ?_;rw[b]) | (with_reducible refine e.at ?_) | (with_reducible refine L2.at ?_)|wp_step))
 refine Pc B Z X a b ?_
 repeat (any_goals (first|assumption|wp_step))
theorem Pd{Q:Option Value->Shared->Prop}(B:ExcAttrFacts "ValueError")(Z:XC K C)(X:K.In h)(a:h.get? x=some o)(b:o.cls=.ref C)(c:Q (some (.ref C)) ⟨h,g,d,t+1,os⟩):
  wpAny (model prog w) A (getAttr? (.ref x) "__class__") Q E ⟨h,g,d,t,os⟩:=by
 unfold getAttr? getAttrBy?
 repeat (any_goals (first|assumption|with_reducible apply xby B Z X a b|wp_step))
end
def zJ(x C:Addr)(h:Heap):Prop:=∃o,h.get? x=some o/\o.cls=.ref C
set_option tactic.hygienic true in
theorem Dm{K:Frag}{x C:Addr}(B:ExcAttrFacts "ValueError")(Z:XC K C):KitX K (.ref x) (.ref C) (zJ x C) where
 ty:=λM h _ p=>by
  obtain⟨o,f,c⟩:=p;exact c▸(Looks.ld f).andThen .now
 it:=λ_ _ X _=>by
  obtain⟨i,a⟩:=Option.isSome_iff_exists.mp Z.cs;unfold clsIn at a;split at a
  ·rename_i r m j u b;intro L I J D k q;unfold isType loadHead;exact aaa (wpAny_loadPart (k _ _ (X _ _ b)) (aac q))
  ·cases a
 ne:=λh l G H n y X v=>by
  obtain⟨i,a⟩:=Option.isSome_iff_exists.mp Z.cs;refine Bool.eq_false_iff.mpr λq=>?_;have e:C=l:=Value.ref.inj (beq_iff_eq.mp q);subst e;unfold clsIn at a;split at a
  ·rename_i r m j u b;have z:=(X _ _ b).symm.trans v;cases z
  ·cases a
 ca:=λ{prog w A E Q s} X p k=>by
  obtain⟨o,f,c⟩:=p;obtain⟨h,g,d,t,F⟩:=s;exact Pd B Z X f c k
end DI
end
section
namespace DI
open PySem PySem.Spec PyProof.Rows L2
def UW(l:List Env)(H':Hp)(h h' B:Heap):Prop:=∀b o,h'.get? b=some o->b∉mn l->(H' b≠none\/h.get? b≠none)->B.get? b=some o
variable {B base h h' h2 h3:Heap}{H' H1:Hp}
theorem moved{l:List Env}{H:Hp}(un:Un (mn l) [] H H' h h2)(p:jM H' h2)(r:UW l H' h h2 B)(m:h.FunFrames base l)(s:∀b∈mn l,H b=none)
  (st:B.StaysIn h3) (f:h2.UpToSlots h3):Un (mn l) [] H H' h h3/\jM H' h3/\UW l H' h h3 B:=by
 have A:∀b∈mn l,H' b=none:=λb c=>by
  obtain⟨_,o,y,_⟩:=m.mem c;exact un.free b o y (s b c) (by simp)
 have keep:∀b o,h2.get? b=some o->b∉mn l->(H' b≠none\/h.get? b≠none)->h3.get? b=some o:=λb o e c d=>st b o (r b o e c d);have slot:∀b o,h.get? b=some o->b∈mn l->∃f,h3.get? b=some { o with slots:=f }:=λb o e c=>by
  obtain⟨w,e1⟩:=un.slot b o e (s b c) c (by simp);obtain⟨_,i,k,x⟩:=m.mem c;rw[e]at k;cases k;obtain⟨v,e2⟩:=f b _ e1 (λt z=>x t z);exact⟨v,e2⟩
 refine⟨⟨λb o e n c _=>keep b o (un.keep b o e n c (by simp)) c (.inr (by rw[e];simp)),λb o e n c _=>slot b o e c,un.free,λb o e _=>?_,un.m9,un.mj⟩,λa o e=>?_,λb o e c d=>?_⟩
 ·by_cases c:b∈mn l
  ·obtain⟨C,e1⟩:=slot b o e c;exact⟨_,e1⟩
  ·obtain⟨i,e1⟩:=un.there b o e (by simp);exact⟨i,keep b i e1 c (.inr (by rw[e];simp))⟩
 ·have j:H' a≠none:=by rw[e];simp
  exact(p a o e).kM λu q=>keep a u q (λz=>j (A a z)) (.inl j)
 ·have:∃g,h2.get? b=some g:=by
   rcases d with d|d
   ·cases q:H' b with
    |none=>exact absurd q d
    |some u=>exact gb (p b u q)
   ·cases q:h.get? b with
    |none=>exact absurd q d
    |some u=>exact un.there b u q (by simp)
  obtain⟨g,e2⟩:=this;have e3:=keep b g e2 c d;rw[e]at e3;cases e3;exact r b _ e2 c d
structure UT(P:aC)(w:World)(C:Addr)(l:List Env)(H:Hp)(s:Shared)(e:Addr)(H':Hp)(s':Shared):Prop where
 fly:∃t B,Heap.FlyingW B l e (.ref C) (.ref t) s'.heap/\UW l H' s.heap s'.heap B
 os:s'.os=s.os
 bare:AllBare s'.gens
 un:Un (mn l) [] H H' s.heap s'.heap
 cJ:jM H' s'.heap
abbrev qy(P:aC)(w:World)(C:Addr):vX:=λl H s E e b=>∃a H',e=.ref a/\UT P w C l H s a H' b/\E (.ref C) none H'
theorem uY{l:List Env}{e:Addr}{cls a0:Value}(f:Heap.FlyingW B l e cls a0 h):e∉mn l:=λg=>by
 obtain⟨_,o,d,c⟩:=f.2.2.1.mem g;obtain⟨i,b,a,_,hd,_⟩:=f.first;rw[d]at a;cases a;exact c b hd
variable {C O0 ea f f' fa:Addr}{P:aC}{w:World}
theorem UT.new{l:List Env}{H:Hp}{s s':Shared}{e:Addr}(f:UT P w C l H s e H' s'):H' e=none/\s.heap.get? e=none:=by
 obtain⟨t,B,b,g⟩:=f.fly;obtain⟨c,i,d,_⟩:=b.first;have a:¬ (H' e≠none\/s.heap.get? e≠none):=λz=>by
  have:=g e c d (uY b) z;rw[b.2.1]at this;cases this
 exact⟨Classical.not_not.mp λz=>a (.inl z),Classical.not_not.mp λz=>a (.inr z)⟩
variable {s1:Shared}{σ:L2.St}
section
variable {P:aC}{w:World}{C:Addr}{K:av}{mg:aU}{base:Heap}{N:ak}{qual:Str}{scope:Scope}{f:Addr}{cd:Value}{A:aB}{outer:List Env}{s:Shared}{H:Hp}{E:XK}
theorem left{pins:ao}{s2:Shared}{t:Addr}
  (I:Inv (iU (qy P w C) P w K mg base N qual scope f cd A outer s H E) pins σ H1 s1)
  (un:Un (mn (iU (qy P w C) P w K mg base N qual scope f cd A outer s H E).stack) [] H1 H' s1.heap h2) (n:jM H' h2) (r:UW (iU (qy P w C) P w K mg base N qual scope f cd A outer s H E).stack H' s1.heap h2 B)
  (g:Heap.FlyingW B outer ea (.ref C) (.ref t) h3) (j:h2.UpToSlots h3) (k:s2.os=s1.os) (bare:AllBare s2.gens):UT P w C outer H s ea H' { s2 with heap:=h3 }:=by
 obtain⟨c,i,p⟩:=moved un n r I.stack I.kL g.1 j;have J:=I.zA (s':={ s2 with heap:=h3 }) (ch:=[]) k c i bare λ_ z=>nomatch z;refine⟨⟨t,B,g,λb o e l a=>?_⟩,J.os,bare,J.base,i⟩;have d:b≠s.heap.objs.size:=by
  rcases a with a|a
  ·rintro rfl;exact a J.free
  ·rintro rfl;exact a (Heap.get?_none_of_le (aal _))
 refine p b o e (λz=>?_) ?_
 ·rcases List.mem_cons.mp (I.j_ b z)with z|z
  ·exact d z
  ·exact l z
 ·rcases a with a|a
  ·exact .inl a
  ·right;cases q:s.heap.get? b with
   |none=>exact absurd q a
   |some u =>
    obtain⟨v,m⟩:=I.base.there b u q (by intro z;cases z);rw[m];simp
theorem QE{E1:XK}(j:∀H',E1 (.ref C) none H'->E (.ref C) none H'):Passes (qy P w C) (iU (qy P w C) P w K mg base N qual scope f cd A outer s H E) E1:=by
 intro pins σ H1 s1 e c I g;obtain⟨ea,H',rfl,⟨⟨t,B,k,m⟩,d,bare,un,l⟩,i⟩:=g;show wpAny (model P w) _ (leaving _ (.ref ea)) _ _ c;refine wpAny_leaves_onW (L:=s.heap.objs.size) I.ok.frames rfl k λh' a b=>?_;exact⟨ea,H',rfl,left I un l m a b d bare,j H' i⟩
theorem GO{pins:ao}{vs:aw}
  (I:Inv (iU (qy P w C) P w K mg base N qual scope f cd A outer s H E) pins σ H1 s1) (d:Heap.MadeExcOf s1.heap h' ea (.ref C) vs) (he:E (.ref C) none H1) :
  (iU (qy P w C) P w K mg base N qual scope f cd A outer s H E).xe (.ref ea) { s1 with heap:=h' }:=by
 show wpAny (model P w) _ (leaving _ (.ref ea)) _ _ _
 let l:=(iU (qy P w C) P w K mg base N qual scope f cd A outer s H E).stack
 let B:=PySem.W.hideAll s1.heap (mn l)
 have n:B.StaysIn s1.heap:=λb o e=>PySem.W.of_hideAll _ e;refine wpAny_leaves_madeW (h:=s1.heap) (base:=B) (L:=s.heap.objs.size) I.ok.frames rfl n (PySem.W.funFrames_hide (as:=mn l) I.stack λi he a m=>List.mem_filterMap.mpr ⟨i,he,m⟩) d λp t r _ _ j=>?_;refine⟨ea,H1,rfl,left (s2:=s1) (H':=H1) I (Un.kept d.keeps) (I.cJ.kept d.keeps) (λb o e k c=>?_) r j rfl I.bare,he⟩;have:∃g,s1.heap.get? b=some g:=by
  rcases c with c|c
  ·cases q:H1 b with
   |none=>exact absurd q c
   |some u=>exact gb (I.cJ b u q)
  ·cases q:s1.heap.get? b with
   |none=>exact absurd q c
   |some u=>exact⟨u,rfl⟩
 obtain⟨g,e1⟩:=this;have e2:=d.keeps b g e1;have e:h'.get? b=some o:=e;rw[e]at e2;cases e2;exact PySem.W.hideAll_get _ e1 k
end
abbrev Pn:aw:=[.type "ValueError",.type "Exception",.type "BaseException",.type "object"]
abbrev qv(x:Str)(C:Addr)(mg:aU)(h:Heap):Prop:=OwnCls x C Pn "ValueError.__new__" mg h
variable {K:av}
set_option tactic.hygienic true in
theorem Io(q:PySem.W.excIn K C Pn "ValueError.__new__" = true):∃(dd:Option Addr) (nm:Str) (bs bm:aw) (ns:Addr) (b:Str) (hd:Bool) (sn:ak) (sub:aw) (ab:Bool) (col:Option Bool) (k0 k1 k2 k3 k5:Option Value),
  K.lookup C=some (excClassObj nm b C ns bs bm hd sn sub ab col dd k0 k1 k2 k3 k5 "ValueError.__new__")/\PySem.W.tailIn K Pn bm=true/\PySem.W.nsOkIn K ns=true/\PySem.W.nsIn K ns "__init__" = some none:=by
 unfold PySem.W.excIn at q;split at q
 case h_2=>cases q
 case h_1 dd cd sl ho =>
  split at q
  case h_2=>cases q
  case h_1 C' bm k0 k1 k2 k3 n k5 hm hs =>
   rw[Bool.and_eq_true,Bool.and_eq_true,Bool.and_eq_true,Bool.and_eq_true,Bool.and_eq_true]at q;obtain⟨⟨⟨⟨⟨e1,e2⟩,e3⟩,e4⟩,e5⟩,e6⟩:=q;have e1:=beq_iff_eq.mp e1;have e2:=beq_iff_eq.mp e2;have e6:=beq_iff_eq.mp e6;subst e1;subst e2;cases cd with
   |mk nm bs c ns b hd sn sub ab col a =>
    cases hm;have e3:a=false:=by simpa using e3
    subst e3;cases sl with
    |mk l =>
     cases hs;exact⟨_,_,_,_,_,_,_,_,_,_,_,_,_,_,_,_,ho,e4,e5,e6⟩
variable {mg:Str->Option Value}
theorem Hi{x:Str}(X:K.In h)(G:h.Ns mainGlobals mg)(e:PySem.W.nsIn K mainGlobals x=some (some (.ref C)))(q:PySem.W.excIn K C Pn "ValueError.__new__" = true):qv x C mg h:=by
 obtain⟨_,_,_,_,_,_,_,_,_,_,_,_,_,_,_,_,a,e4,e5,e6⟩:=Io q;exact⟨abe X G e,_,_,_,_,_,_,_,_,_,_,_,_,_,_,_,_,_,X _ _ a,.of_isNs (PySem.W.isNs_of_in X e5),PySem.W.nsMap_none_of_in X e5 e6,PySem.W.tail_of_in X e4⟩
variable {cpos ip np p1 p2 p3 p4 p5 pos rp:Pos}
section
variable {X:Cx}{C:Addr}{x:Str}
def Lc(X:Cx)(C:Addr):TS:=λD σ H=>∀pins s h' ea a,Inv X pins σ H s->Heap.MadeExcOf s.heap h' ea (.ref C) a->X.xe (.ref ea) { s with heap:=h' }
theorem Cm{m:Str}{j:Nat}{p:Pos}(U:X.calm=true)(O:qv x C X.mg X.base)(S:Gl X x)(hd:(x==("__debug__" : Str))=false):
  PS X (.Raise (some (.Call (.Name x np) [.Constant (.str m) j p] [] cpos)) none pos) (Lc X C):=by
 intro pins s σ H D I hw;obtain⟨tl,N,l,q,bs,a,k,b,G,c,E,y,v,u,t,o,n,W,V,g,T⟩:=O.obj;refine wpAny_Raise_call_subT (C:=C) (nm:=l) (q:=q) (N:=N) (bs:=bs) (bm:=tl) (hdct:=a) (sn:=k) (sub:=b) (ab:=G) (col:=c) (dd:=E) (k0:=y) (k1:=v) (k2:=u) (k3:=t) (k5:=o)
  F.excBase_ValueError (mN:=n) (T.hasType F.excBase_ValueError.hasBase) (I.ok.hd U) rfl g (sE I S O.bound ⟨rfl,?_⟩ hd)
 have A:starEach [.Constant (.str m) j p] X.env=(false,eval (.Constant (.str m) j p) X.env)::starEach [] X.env:=rfl;have z:=cc (LZ (X:=X) (x:=m) (j:=j) (pos:=p)) dB A cpos pins s σ H (λi H'=>H'=H/\i.length<=1) I ⟨rfl,aal 1⟩;rw[A]at z ⊢;refine abZ (dF z λJ L Y=>?_);obtain⟨i,Z,d,r,Q,M⟩:=Y;subst Q;exact⟨rfl,by rw[<- r.length];exact aaR M (by decide),d.bk _ _ W,V.keeps d.bk,T.keeps d.bk,λh' e R=>hw pins L h' e J d R⟩
end
variable {X:Cx}
theorem Cx.Ok.mk'(ok:X.Ok)(e:Value)(E:au):Cx.Ok { X with A:=X.A.mark (some e),calm:=false,xe:=E } :=
 ⟨ok.mod,ok.kind,ok.glob,ok.blt,ok.above,ok.inj,ok.has,ok.Kw,(λh=>by cases h),ok.frames,ok.Ll,ok.Sn,ok.bs,ok.EX,ok.uv,ok.xh,ok.kg,ok.Bj⟩
theorem DD{pins:ao}{H:Hp}{s:Shared}(I:Inv X pins σ H s)(e:Value)(E:au):Inv { X with A:=X.A.mark (some e),calm:=false,xe:=E } pins σ H s :=
 ⟨Cx.Ok.mk' I.ok e E,I.os,I.bare,I.base,I.loc,I.cell,I.free,I.fN,I.pin,I.cJ,I.len⟩
variable {E:Value->Shared->Prop}
theorem wV{pins:ao}{H:Hp}{s:Shared}{e:Value}(ok:X.Ok)(I:Inv { X with A:=X.A.mark (some e),calm:=false,xe:=E } pins σ H s):Inv X pins σ H s :=
 ⟨ok,I.os,I.bare,I.base,I.loc,I.cell,I.free,I.fN,I.pin,I.cJ,I.len⟩
theorem Hc{i:Nat}{x:Str}(c:X.N[i]?=some x)(b:KH X.env.scope x)(hd:(x==("__debug__" : Str))=false)(a:(x==("__classdict__" : Str))=false):PE X (.Name x pos) (jP i):=ji c b hd a
noncomputable def only(n j:Nat)(v:V):St:=(List.replicate n none).set j (some v)
theorem CM{n j i:Nat}{v w:V}(h:(only n j v)[i]?=some (some w)):i=j/\w=v:=by
 unfold only at h;by_cases b:i=j
 ·subst b;refine⟨rfl,?_⟩;by_cases a:i<n
  ·rw[List.getElem?_set_self (by simpa using a)]at h;cases h;rfl
  ·rw[List.getElem?_eq_none (by simpa using a)]at h;cases h
 ·rw[List.getElem?_set_ne (Ne.symm b),List.getElem?_replicate]at h;split at h<;>cases h
section
variable {X:Cx}{C:Addr}{x n y:Str}{i j:Nat}{E1:XK}
theorem wL{M:Model}{A:aB}{pins:ao}{H:Hp}{s:Shared}{v:V}{Q:Unit->Shared->Prop}(I:Inv X pins σ H s)(Z:X.env.kindOf n=some .local)(Ws:y≠n)(nd:X.N.Nodup)(F:X.N[j]?=some y)(U:σ[j]?=some (some v))
  (h:∀D,Inv X pins (only X.N.length j v) H D->Q () D):wpAny M A (do bindName X.env n .none;unbindBehindTheSuite X.env n pos) Q E s:=by
 obtain⟨m,Y,ZS⟩:=id I.loc;have MW:(X.env.scope.kind==.class||(X.env.scope.kind==.module&&X.env.locals != X.env.globals))=false:=by rw[I.ok.kind];rfl
 refine wpAny_nameGoes_keeps Z Y MW λh' u Ax a=>h _ ?_;have tracked:jM H h':=λb R e=>by
  exact(I.cJ b R e).kM λt q=>(a.2 b (by rintro rfl;rw[I.free]at e;cases e)).trans q
 refine⟨I.ok,I.os,I.bare,⟨λb o e n r g=>?_,λb o e n r g=>?_,I.base.free,λb o e g=>?_,I.base.m9,I.base.mj⟩,⟨_,Ax,λk z v' e1 e2 e3=>?_⟩,λz c e=>?_,I.free,I.fN,λp W=>?_,tracked,by unfold only;simp⟩
 ·exact(a.2 b (aao (aaG (aaj e) I.ok.above))).trans (I.base.keep b o e n r g)
 ·obtain⟨L,e1⟩:=I.base.slot b o e n r g;exact⟨L,(a.2 b (aao (aaG (aaj e) I.ok.above))).trans e1⟩
 ·obtain⟨S,e1⟩:=I.base.there b o e g;exact⟨S,(a.2 b (aao (aaG (aaj e) I.ok.above))).trans e1⟩
 ·obtain⟨rfl,rfl⟩:=CM e2;rw[F]at e1;cases e1;obtain⟨J,O,q⟩:=ZS k y _ F U e3;refine⟨J,O,?_⟩;rcases q with ⟨l,e⟩|⟨l,c,e,z⟩
  ·exact .inl ⟨l,by show(if y=n then u else m y)=_;rw[if_neg Ws];exact e⟩
  ·exact .inr ⟨l,c,e,z.sameBut a (I.IQ y c e)⟩
 ·obtain⟨t,G⟩:=I.cell z c e;exact⟨t,G.sameBut a (I.IQ z c e)⟩
 ·obtain⟨e,n,ne,T,d⟩:=I.pin p W;exact⟨(a.2 p.1 ne).trans e,n,ne,T,d⟩
end
noncomputable abbrev Cx.qb(X:Cx)(pins:ao)(E:au):Cx:={ X with xe:=E,pn:=X.pn++pins }
section
variable {X:Cx}{C:Addr}{x n y:Str}{i j:Nat}{E1:XK}
theorem HI{pins:ao}{H:Hp}{s:Shared}(I:Inv X pins σ H s)(E:au):Inv (Cx.qb X pins E) [] σ H s :=
 ⟨⟨I.ok.mod,I.ok.kind,I.ok.glob,I.ok.blt,I.ok.above,I.ok.inj,I.ok.has,I.ok.Kw,I.ok.hd,I.ok.frames,I.ok.Ll,I.ok.Sn,I.ok.bs,I.ok.EX,I.ok.uv,I.ok.xh,I.ok.kg,I.ok.Bj⟩,I.os,I.bare,I.base,I.loc,I.cell,I.free,I.fN,λp a=>I.pin p (by simpa using a),I.cJ,I.len⟩
theorem gQ{pins q:ao}{H:Hp}{s:Shared}(I:Inv (Cx.qb X pins E) q σ H s):Inv X pins σ H s :=
 ⟨⟨I.ok.mod,I.ok.kind,I.ok.glob,I.ok.blt,I.ok.above,I.ok.inj,I.ok.has,I.ok.Kw,I.ok.hd,I.ok.frames,I.ok.Ll,I.ok.Sn,I.ok.bs,I.ok.EX,I.ok.uv,I.ok.xh,I.ok.kg,I.ok.Bj⟩,I.os,I.bare,I.base,I.loc,I.cell,I.free,I.fN,λp a=>I.pin p (aaK _ a),I.cJ,I.len⟩
theorem tracked{l:List Env}{H:Hp}(un:Un (mn l) [] H H' h h')(r:jM H' h')(m:H' ea=none)(g:h.get? ea=none)(a:zJ ea C h'):
  Un (mn l) [] H (upd H' ea (.ext (zJ ea C))) h h'/\jM (upd H' ea (.ext (zJ ea C))) h':=by
 have ne:∀b u,H' b=some u->b≠ea:=λb u q=>dK q m;refine⟨⟨un.keep,un.slot,λb o e n p=>?_,un.there,λb d q=>?_,λb o u q=>?_⟩,λb u q=>?_⟩
 ·have:b≠ea:=by rintro rfl;rw[g]at e;cases e
  rw[bq this];exact un.free b o e n p
 ·have:=un.m9 b d q;rw[bq (ne _ _ this)];exact this
 ·have:=un.mj b o u q;rw[bq (ne _ _ this)];exact this
 ·by_cases c:b=ea
  ·subst c;rw[aY]at q;cases q;obtain⟨o,e1,e2⟩:=a;exact⟨⟨o,e1,e2⟩,⟨o,e1⟩,λs h2 ⟨o,e1,e2⟩ k=>⟨o,k o e1,e2⟩⟩
  ·rw[bq c]at q;exact(r b u q).kM λ_ q=>q
theorem G6{body:aO}{tb:TS}{hpos:Pos}(Rk:X.stack=X.env::X.outer)(OK:X.env.frame=some X.env.locals)(O:qv x C X.mg X.base)(hg:Gl X x)(hd:(x==("__debug__" : Str))=false)
  (nd:X.N.Nodup) (U:X.N[i]?=some n) (T:X.N[j]?=some y) (Ws:y≠n) (F:X.env.scope.names.lookup n=some .local) (ZR:X.env.scope.names.lookup y=some .local) (dn:(n==("__debug__" : Str))=false) (dc:(n==("__classdict__" : Str))=false)
  (MI:swapsWith (.Name n p2) (some (.Name y p1)) p3.line (X.env)=pure false)
  (hb:∀pn FU,Passes (qy X.prog X.w C) (Cx.qb X pn FU) E1->iY (Cx.qb X pn FU) body tb) :
  PS X (.Try body [.ExceptHandler (some (.Name x np)) (some n) [.Assign [.Name y p1] (.Name n p2) p3] hpos] [] [] pos)
   (λD σ H=>tb D σ H/\∀ea H',E1 (.ref C) none H'->H' ea=none->D.nx (only X.N.length j (.ref ea)) (upd H' ea (.ext (zJ ea C)))):=by
 intro pins s σ H D I hw;obtain⟨V,hh⟩:=hw;have ok:=I.ok;refine wpAny_Try_except ?_;refine aaL (hb pins _ ?_ [] s σ H D (HI I (λe d=>wpAny (model X.prog X.w) X.A (noteFrame e X.env) (λ_ l=>wpAny (model X.prog X.w) X.A (setFlight e none) (λ_ k=>wpAny (model X.prog X.w) X.A (handleBy e X.env [.ExceptHandler (some (.Name x np)) (some n) [.Assign [.Name y p1] (.Name n p2) p3] hpos]) (SP X pins D) X.xe k) X.xe l) X.xe d)) V) (λf d q=>?_) (λ_ _ q=>q)
 ·intro Ct b H1 s1 e m c hx;obtain⟨ea,H',rfl,fl,he⟩:=hx;obtain⟨n1,n2⟩:=fl.new;obtain⟨⟨t,B,W,FF⟩,os,bare,un,cJ⟩:=fl;have c:Inv X pins b H1 s1:=gQ c;have W:Heap.FlyingW B (X.env::X.outer) ea (.ref C) (.ref t) m.heap:=Rk▸W;have XT:X.A.frames=some (X.env::X.outer):=Rk▸c.ok.frames;show wpAny (model X.prog X.w) X.A (noteFrame (.ref ea) X.env) _ X.xe m;refine wpAny_looks_onW XT OK W λh4 held R=>?_;refine wpAny_landsW held λh5 Y Q=>?_;obtain⟨Y5,Ru,Yr⟩:=moved un cJ FF c.stack c.kL Y.1 (R.trans Q);have p:Inv X pins b H' { m with heap:=h5 }:=c.zA (ch:=[]) os Y5 Ru bare λ_ z=>nomatch z;refine wpAny_handleBy_cons (codeAny_handlers_test (ab1 p.ok.kind hg (Calls.loadGlobal_global (by rw[p.ok.glob];exact p.mod.glob.keeps p.bk) O.bound ?_) hd)) (by intro q;cases q);obtain⟨bm,nsA,nm,qn,bs,hdct,sn,sub,ab,col,dd,k0,k1,k2,k3,k5,mN,hC,_,_,TL⟩:=(O.keeps p.bk).obj;obtain⟨ob,S,WO⟩:=Y.there;refine wpAny_excMatches_sub_self hC S WO (TL.hasType (by decide +kernel)) (codeAny_handlers_suite_as ?_);refine lands_againW Y λh6 o M=>?_;obtain⟨L,WJ,adp⟩:=moved Y5 Ru Yr c.stack c.kL o.1 M;obtain⟨J,WI⟩:=tracked (C:=C) L WJ n1 n2 o.there;have I7:Inv X pins b (upd H' ea (.ext (zJ ea C))) { m with heap:=h6 }:=c.zA (s':={ m with heap:=h6 }) (ch:=[]) os J WI bare λ_ z=>nomatch z;have eX:i<b.length:=by rw[I7.len];exact(List.getElem?_eq_some_iff.mp U).1
  have yW:j<b.length:=by rw[I7.len];exact(List.getElem?_eq_some_iff.mp T).1
  refine gK I7 nd U (.inl F) (v:=.ref ea) (u:=.ref ea) rfl (λs8 I8=>?_) (.inr F)
  let Z:Cx:={ X with A:=X.A.mark (some (.ref ea)),calm:=false,xe:=AsSuiteRaised (model X.prog X.w) (X.A.mark (some (.ref ea))) X.env n hpos (notedBy (model X.prog X.w) (X.A.mark (some (.ref ea))) X.env (cameBackBy (model X.prog X.w) X.A X.env X.xe)) }
  have ps:iY Z [.Assign [.Name y p1] (.Name n p2) p3] _:=jD (rZ (X:=Z) (i:=j) nd T (.inl ZR) (Hc (X:=Z) (i:=i) (pos:=p2) U (.inl F) dn dc) MI (hf:=.inr ZR));refine aaL (ps pins s8 _ _ { nx:=λa jV=>jV=upd H' ea (.ext (zJ ea C))/\a[j]?=some (some (.ref ea)),rt:=λ_ _=>False } (DD I8 _ _) ⟨.ref ea,by rw[List.getElem?_set_self eX],rfl,by rw[List.getElem?_set_self (by simpa using yW)]⟩) (λf s9 G=>?_) (λ_ _ q=>q);cases f with
  |next =>
   obtain⟨σ9,H9,I9,rfl,e9⟩:=G;have I9:=wV ok I9;exact wL I9 F Ws nd T e9 λs10 I10=>⟨_,_,I10,hh ea H' he n1⟩
  |ret v=>obtain⟨_,_,_,_,_,z⟩:=G;exact z.elim
  |brk=>obtain⟨_,_,_,z⟩:=G;exact z.elim
  |cont=>obtain⟨_,_,_,z⟩:=G;exact z.elim
 ·cases f with
  |next=>obtain⟨a,H',g,q⟩:=q;exact ab4 ⟨a,H',gQ g,q⟩
  |ret v=>obtain⟨v,a,H',g,r,q⟩:=q;exact⟨v,a,H',gQ g,r,q⟩
  |brk=>obtain⟨a,H',g,q⟩:=q;exact⟨a,H',gQ g,q⟩
  |cont=>obtain⟨a,H',g,q⟩:=q;exact⟨a,H',gQ g,q⟩
end
def U_(C:Addr)(i:Nat)(b:Bool):TE:=λσ H Q=>∃ea,σ[i]?=some (some (.ref ea))/\H ea=some (.ext (zJ ea C))/\Q (.bl b) H
def PU(C:Addr)(i:Nat)(bs:List Bool):TA:=λσ H Q=>∃ea,σ[i]?=some (some (.ref ea))/\H ea=some (.ext (zJ ea C))/\Q (bs.map V.bl) H
variable {err qual told:Str}
section
variable {X:Cx}{C:Addr}{i:Nat}
theorem My{c:V}{d:Value}{b:Bool}(Z:XC X.K C)(k:∀u,RelV c u->u=d)(l:PySem.W.kitOne X.K (.ref C) d=some b):
  gv X (.builtin "isinstance") (λa H Q=>∃ea,a=[.ref ea,c]/\H ea=some (.ext (zJ ea C))/\Q (.bl b) H):=by
 intro pins s σ H a n Q I r h;obtain⟨ea,rfl,m,q⟩:=h;obtain⟨u,e,rfl,g,j⟩:=vals2 r;cases g;cases k e j;obtain⟨⟨o,e1,e2⟩,_⟩:=(show cK H s.heap ea (.ext (zJ ea C)) from I.cJ ea _ m)
 exact abB (Dm PySem.F.attr_ValueError Z) I.Dt ⟨o,e1,e2⟩ l (λz=>nomatch z) λtk=>⟨.bl b,H,I.tok tk,rfl,q⟩
structure O9(X:Cx)(C:Addr)(cl:Str->Option Bool):Prop where
 xc:XC X.K C
 isi:Gl X "isinstance"
 isn:X.mg "isinstance" = none
 ex:∀x b,cl x=some b->∀p,∃cv cu,PE X (.Name x p) (tC cv)/\(∀u,RelV cv u->u=cu)/\PySem.W.kitOne X.K (.ref C) cu=some b
def uL(err:Str)(cl:Str->Option Bool)(e:Expr):Option Bool:=(gJ e).bind λz=>(two z.2).bind λw=>(K4 w.1).bind λy=>(K4 w.2).bind λx=>if z.1 = "isinstance" /\ y=err then cl x else none
def eu(err:Str)(cl:Str->Option Bool):aq->Option (List Bool)
 |[]=>some []
 |e::es=>match uL err cl e,eu err cl es with
  |some b,some bs=>some (b::bs)
  |_,_=>none
theorem wI{cl:Str->Option Bool}(Z:O9 X C cl)(he:∀p,PE X (.Name err p) (jP i)){e:Expr}{b:Bool}(h:uL err cl e=some b):PE X e (U_ C i b)/\(∀d,starEach (e::d) X.env=(false,eval e X.env)::starEach d X.env)/\∀whole,isTrue e X.env whole=(do let v <- whole;standAt e.pos;holding [v] (truthy v)):=by
 obtain⟨⟨f,as⟩,k,r⟩:=Option.bind_eq_some_iff.mp h;obtain⟨u,pos,rfl⟩:=cY k;obtain⟨⟨s,t⟩,hw,o⟩:=Option.bind_eq_some_iff.mp r;obtain rfl:as=[s,t]:=gx hw;obtain⟨y,g,n⟩:=Option.bind_eq_some_iff.mp o;obtain⟨p1,rfl⟩:=j8 g;obtain⟨x,j,a⟩:=Option.bind_eq_some_iff.mp n;obtain⟨p2,rfl⟩:=j8 j;by_cases c:f = "isinstance" /\ y=err
 ·rw[if_pos c]at a;obtain⟨rfl,rfl⟩:=c;refine⟨?_,λ_=>rfl,λ_=>rfl⟩;obtain⟨z,A,m,h2,h3⟩:=Z.ex x b a p2;refine PE.imp (dZ (My Z.xc h2 h3) Z.isi Z.isn PyProof.Rows.boot_isinstance (cc (he p1) (cc m dB))) λσ H Q l=>?_;obtain⟨ea,e1,e2,q⟩:=l;exact⟨_,e1,ea,rfl,e2,q⟩
 ·rw[if_neg c]at a;cases a
set_option tactic.hygienic true in
theorem wJ{err:Str}{cl:Str->Option Bool}(Z:O9 X C cl)(he:∀p,PE X (.Name err p) (jP i)):∀{es:aq} {bs:List Bool},eu err cl es=some bs->PA X es (PU C i bs)
 |[],bs,h=>by
  cases h;exact PA.imp dB λσ H Q ⟨ea,_,_,q⟩=>q
 |e::es,bs,h=>by
  rw[eu]at h;split at h
  ·rename_i b d c h2;cases h;obtain⟨p1,p2,_⟩:=wI Z he c;refine PA.imp (cc p1 (wJ Z he h2) (p2 es)) λσ H Q a=>?_;obtain⟨ea,e1,e2,q⟩:=a;exact⟨ea,e1,e2,ea,e1,e2,q⟩
  ·cases h
end
noncomputable def xG:CE:=.cmp .eq (.bf .len [.comp 1 (.nm 0) [] .seq [.v 1] [.v 0] (.v 0)]) (.int 1)
noncomputable def nQ(told:Str)(a b r:Expr)(n m l k i:aq)(g e c:Pos)(j:Nat)(d pr I p1 J L p2 D s o x p3 F t N y p4 G u p z p5 H v q A M:Pos):aO :=
 [.If (.BoolOp .Or [.UnaryOp .Not a g,.UnaryOp .Not b e] c) [.Return (some (.Constant (.bool false) j d)) pr] [] I,.Assign [.Name told p1] (.List n J) L,.Assign [.Name told p2] (.BinOp (.Name told D) .Add (.List m s) o) x,
   .Assign [.Name told p3] (.BinOp (.Name told F) .Add (.List l t) N) y,.Assign [.Name told p4] (.BinOp (.Name told G) .Add (.List k u) p) z,.Assign [.Name told p5] (.BinOp (.Name told H) .Add (.List i v) q) A,.Return (some r) M]
def nN(C:Addr):Sp:=λa H Q _=>∃ea,a=[.ref ea]/\H ea=some (.ext (zJ ea C))/\∀H',aL H H'->Q (.bl true) H'
variable {as es:aq}
theorem IW{i j:Nat}{cl:Str->Option Bool}{bs bs':List Bool}(Z:O9 X C cl)(he:∀p,PE X (.Name err p) (jP i))(n:∀p,PE X (.Name told p) (jP j))(nd:X.N.Nodup)(s:X.N[j]?=some told)(e:X.env.scope.names.lookup told=some .local)(t:i≠j)
  (h:eu err cl es=some bs) (hlen:bs'.length+bs.length<=sizeLine):PS X (.Assign [.Name told p1] (.BinOp (.Name told p2) .Add (.List es p3) p4) p5)
   (λD σ H=>∃ea l,σ[i]?=some (some (.ref ea))/\H ea=some (.ext (zJ ea C))/\σ[j]?=some (some (.ref l))/\H l=some (.lst (bs'.map V.bl))/\∀a H' b,aL H H'->H b=none->a[i]?=some (some (.ref ea))->a[j]?=some (some (.ref b))->H' b=some (.lst ((bs'++bs).map V.bl))->a.length=σ.length->D.nx a H'):=by
 refine PS.imp (rZ (i:=j) nd s (.inl e) (CA L_ (n p2) (se (wJ Z he h))) (hf:=.inr e)) λD σ H r=>?_;obtain⟨ea,l,e1,e2,e3,e4,q⟩:=r;have c:j<σ.length:=by
  by_cases z:j<σ.length
  ·exact z
  ·rw[List.getElem?_eq_none (by left)]at e3;cases e3
 refine⟨_,e3,ea,e1,e2,by simp;left,λp d=>?_⟩;refine⟨l,p,_,_,rfl,rfl,by rw[bq (dK e4 d)];exact e4,aY,by simpa using hlen,λm g=>?_⟩;have s1:aL H (upd H p (.lst (bs.map V.bl))):=aL.upd d;have k:=s1.trans (aL.upd (o:=.lst (bs'.map V.bl++bs.map V.bl)) g);refine q _ _ m k (aL.free s1 g) ?_ ?_ ?_ ?_
 ·rw[List.getElem?_set_ne (Ne.symm t)];exact e1
 ·rw[List.getElem?_set_self c]
 ·rw[aY,List.map_append]
 ·simp
variable {S:Sx}{b1 b2 b3 b4 b5:List Bool}{Φ:bh}
theorem xM{k:Nat}{cl:Str->Option Bool}(L:Lk X S k Φ)(Z:O9 X C cl)(Z9:X.N=[err,told])(he:X.env.scope.names.lookup err=some .local)(g:X.env.scope.names.lookup told=some .local)
  (d1:(err==("__debug__" : Str))=false) (d2:(err==("__classdict__" : Str))=false) (d3:(told==("__debug__" : Str))=false) (d4:(told==("__classdict__" : Str))=false) (nd:X.N.Nodup)
  (hlen:b1.length+b2.length+b3.length+b4.length+b5.length<=sizeLine)
  (w6:bz Φ xG [none,some (.lst .fz ((b1++b2++b3++b4++b5).map DI.D.bl))]=ok (.bl true)) :
  ∀{a b r:Expr} {Y W Q M I:aq} {G y t:Pos} {j:Nat} {pj pr Hb p1 Ha G8 p2 JI JS JX JO p3 JH JR u JN p4 JG JQ JW JM p5 JF JP JV JL G7:Pos},uL err cl a=some true->uL err cl b=some true->eu err cl Y=some b1->eu err cl W=some b2->eu err cl Q=some b3->eu err cl M=some b4->eu err cl I=some b5->cq S xG r=true ->
   iY X (nQ told a b r Y W Q M I G y t j pj pr Hb p1 Ha G8 p2 JI JS JX JO p3 JH JR u JN p4 JG JQ JW JM p5 JF JP JV JL G7) (λD σ H=>∃ea,σ=[some (.ref ea),none]/\H=X.H₀/\H ea=some (.ext (zJ ea C))/\∀H',aL H H'->D.rt (.bl true) H'):=by
 intro a b r Y W Q M I G y t j pj pr Hb p1 Ha G8 p2 JI JS JX JO p3 JH JR u JN p4 JG JQ JW JM p5 JF JP JV JL G7 ha hb i1 i2 i3 i4 i5 hr;have h0:X.N[0]?=some err:=by rw[Z9];rfl
 have m:X.N[1]?=some told:=by rw[Z9];rfl
 have c:∀p,PE X (.Name err p) (jP 0):=λp=>ji h0 (.inl he) d1 d2;have pt:∀p,PE X (.Name told p) (jP 1):=λp=>ji m (.inl g) d3 d4;unfold nQ;obtain⟨A,_,z⟩:=wI Z c ha;obtain⟨x,_,u⟩:=wI Z c hb;have T:=JE (pos:=t) (rest:=[]) (wC (pos:=G) (wB A z)) (Cj (pos:=t) (wC (pos:=y) (wB x u)));have P1:=rZ (X:=X) (pos:=G8) (pos':=p1) (i:=1) nd m (.inl g) (se (pos:=Ha) (wJ Z c i1)) (hf:=.inr g);have R:=(gz (F:=λ_=>False) L xG r hr).1;refine iY.imp (c_ (Cn (pos:=Hb) T.pt (jD (r6 (pos:=pr) JU)) rY) (c_ P1 (c_ (IW (bs':=b1) Z c pt nd m g (by decide) i2 (by left)) (c_ (IW (bs':=b1++b2) Z c pt nd m g (by decide) i3 (by simp;left))
  (c_ (IW (bs':=b1++b2++b3) Z c pt nd m g (by decide) i4 (by simp;left)) (c_ (IW (bs':=b1++b2++b3++b4) Z c pt nd m g (by decide) i5 (by simp;left)) (jD (r6 (pos:=G7) R)))))))) λD σ H hq=>?_
 obtain⟨ea,rfl,rfl,e,q⟩:=hq;refine⟨ea,rfl,e,true,rfl,?_⟩;refine⟨ea,rfl,e,true,rfl,?_⟩;refine⟨ea,rfl,e,by simp;left,λZq n1=>?_⟩;have s1:aL X.H₀ (upd X.H₀ Zq (.lst (b1.map V.bl))):=aL.upd n1;refine⟨ea,Zq,rfl,s1 _ _ e,rfl,aY,λσ2 H2 U s n2 e2 f2 g2 HB=>?_⟩;have s:=s1.trans s;refine⟨ea,U,e2,s _ _ e,f2,g2,λσ3 H3 O o n3 e3 f3 g3 V8=>?_⟩;have o:=s.trans o;refine⟨ea,O,e3,o _ _ e,f3,g3,λσ4 H4 J s4 n4 e4 f4 g4 V7=>?_⟩;have VI:=o.trans s4;refine⟨ea,J,e4,VI _ _ e,f4,g4,λσ5 H5 Zp s5 n5 e5 f5 g5 V6=>?_⟩;have Zb:=VI.trans s5;refine⟨λp=>p=Zp,λ_=>none,[none,some (.lst .fz ((b1++b2++b3++b4++b5).map DI.D.bl))],_,⟨?_,λi d l=>?_,λ_ _=>rfl,λp hp=>?_,λp hp=>?_,λ_ _ h=>by simp at h,λ_ _ h=>by simp at h,Zb⟩,w6,λv H' sv rv=>?_⟩
 ·rw[V6,V7,V8,HB];rfl
 ·match i,l with
  |1,l =>
   cases l;refine⟨_,f5,.lst ⟨g5,rfl⟩ ?_⟩;have:∀(bs:List Bool) (n:Nat),aI (a_ X.K H5) (DI.nd X.K (λp=>p=Zp) (λ_=>False) (λ_=>none) H5) [1] n (bs.map V.bl) (bs.map DI.D.bl):=by
    intro bs;induction bs with
    |nil=>intro n;exact .nil
    |cons b bs ih=>intro n;exact .cons (.bl b) (ih _)
   exact this _ _
  |0,l=>cases l
  |n+2,l=>simp at l
 ·subst hp;rw[g5];simp
 ·subst hp;exact .inr (aL.free VI n5)
 ·obtain⟨τt,_,rp⟩:=rv;cases rp;exact q H' (Zb.trans sv)
variable {ps vP G5:ak}
theorem Ee{CX:vX}{k:Nat}{d:FuncData}{sp j:Sp}(a:dq P w K mg base CX k f d ps sp)(b:dq P w K mg base CX k f d ps j):
  dq P w K mg base CX k f d ps (λc H Q E=>sp c H Q E\/j c H Q E) :=
 ⟨λc H Q E h=>h.elim (a.len c H Q E) (b.len c H Q E),λA outer s H args e c Q E i h2 h3 g h=>h.elim (a.run A outer s H args e c Q E i h2 h3 g) (b.run A outer s H args e c Q E i h2 h3 g)⟩
variable {st:Stmt}
theorem Yp{CX:vX}{x:Str}{b:FuncData}{N:ak}{k:Nat}{sp:Sp}(F:zN K x qual st f b)(S:eE N ps (aF st))(len:∀vs H Q E,sp vs H Q E->vs.length=ps.length)
  (c:∀(a:Value) (A:aB) (outer:List Env) (s:Shared) (H:Hp) (vs:ah) (Q:VK) (E:XK),fY k (A.deeper (envOfC qual (aF st) s.heap.objs.size f a))->sp vs H Q E ->
   ∃t,iY (iU CX P w K mg base N qual (aF st) f a A outer s H E) (br st) t/\t { nx:=λ_ H'=>Q .cF H',rt:=Q } (L2.start N vs) H):dq P w K mg base CX (k+1) f b ps sp:=by
 obtain⟨oc,m,n,j,l,p,a,o,q,rfl,g,d⟩:=F.ex;exact Ko g d S len λA outer s H vs Q E i e=>c a A outer s H vs Q E i e
def Lx(K:av)(C:Addr)(n:Nat)(b:aa->Prop):Sp:=λa H _ E=>∃(F:ai) (ds:aa),a.length=n/\aI (a_ K H) (nd K F (λ_=>False) (λ_=>none) H) [] 0 a ds/\b ds/\∀H',aL H H'->E (.ref C) none H'
variable {F:Addr->Prop}
theorem tZ{N:ak}{vs:ah}{ds:aa}{H:Hp}(m:X.H₀=H)(o:ds.length<=N.length)(b:aI (a_ X.K H) (nd X.K F (λ_=>False) (λ_=>none) H) [] 0 vs ds):
  SI X F (λp=>F p/\H p≠none) (λ_=>none) (ds.map some++List.replicate (N.length - ds.length) none) (L2.start N vs) H:=by
 have j:vs.length=ds.length:=b.length;refine⟨?_,λi d a=>?_,λ_ _=>rfl,λp h=>h.2,λp h=>.inl h.1,λ_ _ h=>by simp at h,λ_ _ h=>by simp at h,m▸aL.refl H⟩
 ·unfold L2.start;simp[j]
 ·have g:i<ds.length:=by
   by_cases e:i<ds.length
   ·exact e
   ·rw[List.getElem?_append_right (by simpa using e),List.getElem?_replicate]at a;split at a<;>simp at a
  rw[List.getElem?_append_left (by simpa using g),List.getElem?_map]at a;have hd:ds[i]?=some d:=by
   cases q:ds[i]? with
   |none=>rw[q]at a;exact nk a
   |some z=>rw[q]at a;simp at a;rw[a]
  obtain⟨v,l,k⟩:=b.get hd;refine⟨v,?_,k.imp (q:=[0+i]) (q':=[i]) (λ_ _ h=>h) λc p n f h=>?_⟩
  ·unfold L2.start;rw[List.getElem?_append_left (by rw[List.length_map,j];exact g),List.getElem?_map,l];rfl
  ·cases f with
   |ow=>exact nomatch h.2
   |fz=>exact⟨h.1,h.2,h.1.ne⟩
   |al=>exact h.2.elim
   |sc=>exact h
def Gr(X:Cx)(F:ai)(a:bo->Prop):TS:=λ_ σ H=>∃R c b,SI X F R c b σ H/\a b
theorem PS.uu{X:Cx}{st:Stmt}{t:TS}(h:PS X.uu st t):PS X st t:=λpins s σ H D I hw =>
 aaL (h pins s σ H D (I.oy _) hw) (λ_ _ q=>q.ie) λ_ _ q=>q.elim
theorem SI.uu{X:Cx}{F R:ai}{a:Addr->Option bt}{ρ:bo}{σ:St}{H:Hp}(S:SI X F R a ρ σ H):SI X.uu F R a ρ σ H:=⟨S.len,S.rep,S.rt,S.rh,S.rf,S.th,S.t0,S.same⟩
theorem SI.Pz{R:Addr->Prop}{a:Addr->Option bt}{ρ:bo}{H:Hp}(S:SI X.uu F R a ρ σ H):SI X F R a ρ σ H:=⟨S.len,S.rep,S.rt,S.rh,S.rf,S.th,S.t0,S.same⟩
theorem Eh{X:Cx}{S:Sx}{k:Nat}{Φ:bh}{F:ai}{l:bo->Prop}{s:Stmt}{q:aO}(L:nI X.uu S k Φ)(t:PS X s (Gr X F l)):∀(j:aj) (r:aO),fq S j r=true ->
  iY X (r++s::q) (λ_ σ H1=>∃R g b,SI X F R g b σ H1/\∃a,bK Φ j b=ok (.nx,a)/\l a)
 |[],[],_=>by
  have R:iY X q Le:=λ_ _ _ _ _ _ z=>z.elim;refine iY.imp (c_ t R) λD σ H1 n=>?_;obtain⟨R,g,b,p,a,e,o⟩:=n;cases e;exact⟨R,g,b,p,o⟩
 |[],_::_,h=>by exact(aae h).elim
 |_::_,[],h=>by exact(aae h).elim
 |c::cs,st::Lj,h=>by
  replace h:=aM h;have x:PS X st (kD X.uu F Φ c):=PS.uu (BN (F:=F) L c st h.1);refine iY.imp (c_ x (Eh L t cs Lj h.2)) λD σ H1 n=>?_;obtain⟨R,g,b,p,a,e,o⟩:=n;obtain⟨⟨u,i⟩,e1,e2⟩:=aJ e;refine⟨R,g,b,(u,i),p.uu,e1,?_⟩;cases u with
  |nx=>exact λv H' A m y G=>⟨A,m,i,y.Pz,a,e2,o⟩
  |rt d=>cases e2
variable {tr:aO}
theorem Ei{x:Str}{J:FuncData}{k:Nat}{N bl:ak}{cs:List (Str×GK)}{px:Px}{fnT:Nat->Option Str}{t:aa->Prop}{d:bo->Prop}{a:aj}{m:aO}{q:Stmt}
  (Fu:zN K x qual st f J) (e:eE N ps (aF st)) (O:br st=m++q::tr) (M:fq ⟨aF st,N,fnT,bl,cs,px⟩ a m=true) (p:lL px Φ) (MK:Fq px Φ)
  (r:∀y∈bl,mg y=none) (z:∀y i,(y,i)∈cs->∃u,mg y=some u/\vK K i u) (v:∀g y,fnT g=some y->Ent P w K mg base k y (Φ g))
  (Xk:∀(X:Cx) (F:ai),Lk X ⟨aF st,N,fnT,bl,cs,px⟩ k Φ->X.prog=P->X.w=w->X.K=K->X.mg=mg->X.base=base ->
   (∀pins σ H1 s1 h' ea j,Inv X pins σ H1 s1->aL X.H₀ H1->Heap.MadeExcOf s1.heap h' ea (.ref C) j->X.xe (.ref ea) { s1 with heap:=h' })->Passes (qy X.prog X.w C) X (λc _ H'=>c=.ref C/\aL X.H₀ H')->PS X q (Gr X F d))
  (V:∀b,t b->b.length=ps.length/\∃o,bK Φ a (b.map some++List.replicate (N.length - b.length) none)=ok (.nx,o)/\d o):dq P w K mg base (qy P w C) (k+1) f J ps (Lx K C ps.length t):=by
 refine Yp (N:=N) Fu e (λj H Q E ⟨_,_,h,_⟩=>h) λZ A outer s H j Q E D R=>?_;obtain⟨F,b,hl,T,n,G⟩:=R;obtain⟨RJ,l,Be,W⟩:=V b n
 let X:=iU (qy P w C) P w K mg base N qual (aF st) f Z A outer s H E
 have Ln:nI X.uu ⟨aF st,N,fnT,bl,cs,px⟩ k Φ:=⟨⟨rfl,rfl,e.nd,rfl,D,r,λg y h=>⟨(v g y h).ex⟩,z,p⟩,λ_=>rfl,PassesOwn.never,e.kind,MK⟩
 have L:Lk X ⟨aF st,N,fnT,bl,cs,px⟩ k Φ:=⟨rfl,rfl,e.nd,rfl,D,r,λg y h=>⟨(v g y h).ex⟩,z,p⟩
 have U:ps.length<=N.length:=by have:=aa5 List.length e.pre;rw[List.length_take]at this;left
 have Y:=Xk X F L rfl rfl rfl rfl rfl (λpins σ H1 s1 h' ea j I es DP=>GO I DP (G H1 es)) (QE λH' h=>G H' h.2);rw[O];exact⟨_,Eh (X:=X) (F:=F) Ln Y a m M,_,_,_,tZ (X:=X) rfl (by left) T,l,Be,W⟩
def Lf(X:Cx)(F:ai)(a:bo->Prop):TE:=λσ H _=>∃R c b,SI X F R c b σ H/\a b
variable {ce:aH}
section
variable {X:Cx}{S:Sx}{k:Nat}{Φ:bh}{F:ai}{bad:bo->Prop}{C:Addr}
theorem Iq{j:FuncData}{l:aa->Prop}{g:Str}{e:Expr}(L:Lk X S k Φ)(s:Passes (qy X.prog X.w C) X (λc _ H'=>c=.ref C/\aL X.H₀ H'))
  (D:dq X.prog X.w X.K X.mg X.base (qy X.prog X.w C) k f' j vP (Lx X.K C vP.length l)) (h2:iB S.sc g=true) (v:X.mg g=some (.ref f')) (u:PySem.W.keepIn X.K (.ref f')=true) (x:Binds X.K j vP []) (hd:(g==("__debug__" : Str))=false)
  (h3:bO S ce (e::es)=true) (q:∀r,starEach (e::r) X.env=(false,eval e X.env)::starEach r X.env) (hpl:(backTo cpos (starEach es X.env)).any (·.1)=false) :
  PE X (.Call (.Name g np) (e::es) [] cpos) (Lf X F λb=>∃a,b0 Φ ce b=ok a/\l (aA aZ a)/\a.length=vP.length):=by
 refine PE.imp (nV (X:=X) (p:=np) (pos:=cpos) D L.room (L.gl h2) v u x .nil s (nP (F:=F) L ce (e::es) h3) hd (q _) hpl) λσ H Q t=>?_;obtain⟨R,n,b,i,a,G,A,z⟩:=t;refine⟨R,n,b,a,i,G,λN O e2 o=>?_⟩;obtain⟨m,M,d⟩:=o;rw[List.append_nil];refine⟨λ_=>True,aA aZ a,by rw[d.length,z],aI.iy (λ_ _ h=>h) (λk J p I f h=>?_) d _ _,A,λH' y=>⟨rfl,(i.same.trans e2).trans y⟩⟩;cases f with
 |ow=>exact⟨h.1,trivial⟩
 |fz=>exact⟨h.1,trivial⟩
 |al=>exact⟨h.1,trivial⟩
 |sc=>exact h
theorem Sq{e:Expr}(h:PE X e (Lf X F bad))(hs:swapsWith e none pos.line X.env=pure false):PS X (.Expr e pos) (Gr X F bad):=PS.imp (iq h hs) λ_ _ _ q=>q
theorem So{c:CE}{t:Expr}{y m:Str}{j:Nat}{p:Pos}(L:Lk X S k Φ)(hR:∀pins σ H1 s1 h' ea e,Inv X pins σ H1 s1->aL X.H₀ H1->Heap.MadeExcOf s1.heap h' ea (.ref C) e->X.xe (.ref ea) { s1 with heap:=h' })
  (l:cq S c t=true) (h3:iB S.sc y=true) (hd:(y==("__debug__" : Str))=false) (O:qv y C X.mg X.base):PS X (.If t [.Raise (some (.Call (.Name y np) [.Constant (.str m) j p] [] cpos)) none rp] [] ip) (Gr X F λa=>u_ Φ c a=ok true):=by
 refine PS.imp (Cn (pos:=ip) (gz (F:=F) L c t l).2 (jD (Cm (X:=X) (m:=m) (j:=j) (p:=p) (np:=np) (cpos:=cpos) (pos:=rp) L.calm O (L.gl h3) hd)) rY) λD σ H1 i=>?_;obtain⟨o,d,a,b,n⟩:=i;refine⟨o,d,a,true,b,n,λq e2=>Wf λpins s1 h' ea g I r=>?_⟩;exact hR pins _ q s1 h' ea g I (b.same.trans e2) r
end
structure Nr where
 ps:ak
 err:Str
 ex:Str
 cls:Str
 f:Str
 al:Str
noncomputable def Nr.N(n:Nr):ak:=n.ps++[n.err,n.ex]
noncomputable def Gz(n:Nr)(a:Expr)(as:aq)(g e:Nat)(q1 d c b v x y z s t u i j k l m o p q r:Pos):aO :=
 [.Assign [.Name n.err q1] (.Constant .none g d) c,.Try [.Expr (.Call (.Name n.f b) (a::as) [] v) x] [.ExceptHandler (some (.Name n.cls y)) (some n.ex) [.Assign [.Name n.err z] (.Name n.ex s) t] u] [] [] i,
   .Return (some (.BoolOp .And [.Compare (.Name n.err j) [.IsNot] [.Constant .none e k] l,.Call (.Name n.al m) [.Name n.err o] [] p] q)) r]
noncomputable def EF(x:Str):Bool:=!(x==("__debug__" : Str))&&!(x==("__classdict__" : Str))
def Hs(sc:Scope)(n:Nr):Bool:=[n.err,n.ex].all (λx=>decide (sc.names.lookup x=some .local)&&EF x)&&[n.cls,n.f,n.al].all (λx=>iB sc x&&EF x)&&decide (n.err≠n.ex)
theorem SI.qb{X:Cx}{F R:ai}{a:Addr->Option bt}{ρ:bo}{σ:St}{H:Hp}{pn:ao}{E:au}(S:SI X F R a ρ σ H):SI (Cx.qb X pn E) F R a ρ σ H:=⟨S.len,S.rep,S.rt,S.rh,S.rf,S.th,S.t0,S.same⟩
theorem wD{S:Sx}{env:Env}{pos:Pos}:∀{es:aq} {cs:aH},bO S cs es=true->(backTo pos (starEach es env)).any (·.1)=false
 |[],_,_=>rfl
 |e::es,[],h=>by exact(aae h).elim
 |e::es,c::cs,h=>by
  replace h:=aM h;rw[b_ h.1 es env];show(false||(backTo pos (starEach es env)).any (·.1))=false;rw[wD h.2];rfl
theorem ym{k:Nat}{n:Nr}{fd Ef:FuncData}{sp:Sp}{E1:XK}{a:Expr}(L:Lk X S k Φ)(hk:X.stack=X.env::X.outer)(hf:X.env.frame=some X.env.locals)(T:S.N=n.N)(nm:Hs S.sc n=true)(O:qv n.cls C X.mg X.base)
  (Fo:dq X.prog X.w X.K X.mg X.base (qy X.prog X.w C) k fa fd vP sp) (hb:Binds X.K fd vP []) (Ur:PySem.W.keepIn X.K (.ref fa)=true) (mf:X.mg n.f=some (.ref fa)) (UU:dq X.prog X.w X.K X.mg X.base rE k O0 Ef G5 (nN C)) (HW:Binds X.K Ef G5 []) (HP:PySem.W.keepIn X.K (.ref O0)=true) (Ui:X.mg n.al=some (.ref O0))
  (m:bO S ce (a::as)=true):∀{I G:Nat} {q1 l A z Cg Cf Ce Cd G3 G1 G0 Y Z GX GW GV GU GS GR GQ:Pos},iY X (Gz n a as I G q1 l A z Cg Cf Ce Cd G3 G1 G0 Y Z GX GW GV GU GS GR GQ) (λD σ H=>∃R q b g,SI X F R q b σ H/\b.length=n.N.length/\b0 Φ ce (b.set n.ps.length (some .cF))=ok g /\
   (∀r H1,aL H H1->(∃F',aI (a_ X.K H1) (nd X.K F' (λ_=>False) (λ_=>none) H1) [] 0 r (aA aZ g))->∀Q:VK,(∀v U,D.rt (.bl false) U->Q v U)->sp r H1 Q E1)/\∀H',E1 (.ref C) none H'->∀s,aL H' s->D.rt (.bl true) s):=by
 intro I G q1 l A z Cg Cf Ce Cd G3 G1 G0 Y Z GX GW GV GU GS GR GQ;unfold Hs at nm;simp only[List.all_cons,List.all_nil,Bool.and_eq_true,decide_eq_true_eq,Bool.and_true,EF,Bool.not_eq_true']at nm;obtain⟨⟨⟨⟨le,de,o⟩,lx,dx,cx⟩,⟨gc,dc,_⟩,⟨gf,df,_⟩,ga,da,_⟩,Aw⟩:=nm;rw[<- L.sc]at le lx;have u:X.N[n.ps.length]?=some n.err:=by rw[L.N,T];unfold Nr.N;rw[List.getElem?_append_right (Nat.le_refl _),Nat.sub_self];rfl
 have N4:X.N[n.ps.length+1]?=some n.ex:=by rw[L.N,T];unfold Nr.N;rw[List.getElem?_append_right (Nat.le_add_right _ _),Nat.add_sub_cancel_left];rfl
 have hlen:X.N.length=n.ps.length+2:=by rw[L.N,T];unfold Nr.N;simp
 unfold Gz;have args:∀(pn:ao) (e:au),PA (Cx.qb X pn e) (a::as) (tT X F Φ ce):=λpn e =>
  PA.imp (nP (F:=F) (show Lk (Cx.qb X pn e) S k Φ from⟨L.sc,L.N,L.nd,L.calm,L.room,L.bl,λf x h=>⟨(L.fn f x h).ex⟩,L.cs,L.pr⟩) ce (a::as) m) λσ H Q ⟨R,q,b,ds,t,ev,M⟩=>⟨R,q,b,ds,t.qb,ev,M⟩
 have S1:=rZ (X:=X) (pos:=A) (pos':=q1) (i:=n.ps.length) L.nd u (.inl le) (CB (j:=I) (pos:=l)) (hf:=.inr le);have S2:=G6 (X:=X) (C:=C) (i:=n.ps.length+1) (j:=n.ps.length) (E1:=E1) (np:=Ce) (p1:=Cd) (p2:=G3) (p3:=G1) (hpos:=G0) (pos:=Y) hk hf O (L.gl gc) dc L.nd N4 u Aw lx le dx cx rfl
  λpn e hx=>jD (iq (pos:=Cf) (nV (X:=Cx.qb X pn e) (p:=z) (pos:=Cg) Fo L.room (L.gl gf) mf Ur hb .nil hx (args pn e) df (by
   cases ce with
   |nil=>exact(aae m).elim
   |cons c cs=>exact b_ (aM m).1 as _) (by
   cases ce with
   |nil=>exact(aae m).elim
   |cons c cs=>exact wD (aM m).2)))
 have S3:=r6 (X:=X) (pos:=GQ) (CF (pos:=GR) (rest:=[]) (L4 (pos:=GW) (Hh (j:=G) (pos':=GX) (ji (pos:=Z) u (.inl le) de o))) (wH (nV (X:=X) (p:=GV) (pos:=GS) (E:=E0) UU L.room (L.gl ga) Ui HP HW .nil (JY (X:=X)) (cc (ji (pos:=GU) u (.inl le) de o) dB) da)));refine iY.imp (c_ S1 (c_ S2 (jD S3))) λD σ H M=>?_;obtain⟨R,q,b,g,t,J,Be,q1,l⟩:=M;have vT:b.length=n.ps.length+2:=by rw[J];unfold Nr.N;simp
 have hi:n.ps.length<b.length:=by left
 obtain⟨y,mG⟩:=t.set (i:=n.ps.length) (v:=.cF) (d:=.cF) ⟨λ_=>none,λ_ _ h=>by simp at h,.cF⟩ hi;have hs:(σ.set n.ps.length (some V.cF))[n.ps.length]?=some (some .cF):=ace (by rw[<- t.len];exact hi);refine⟨⟨R,y,_,g,mG,Be,λr H1 e1 rv=>?_⟩,λea H' he hn=>?_⟩
 ·obtain⟨τt,ft,TV⟩:=rv;rw[List.append_nil];refine q1 r H1 e1 ⟨λ_=>True,aI.iy (λ_ _ h=>h) (λk k' p g f h=>?_) TV _ _⟩ _ λv U h=>⟨.cF,hs,false,rfl,h⟩
  cases f with
  |ow=>exact⟨h.1,trivial⟩
  |fz=>exact⟨h.1,trivial⟩
  |al=>exact⟨h.1,trivial⟩
  |sc=>exact h
 ·have hg:(only X.N.length n.ps.length (.ref ea))[n.ps.length]?=some (some (.ref ea)):=by
   unfold only;rw[List.getElem?_set_self (by rw[List.length_replicate,hlen];left)]
  refine⟨.ref ea,hg,true,rfl,?_⟩;show(if true=true then _ else _);rw[if_pos rfl];refine⟨_,hg,ea,rfl,aY,λs Qo=>l H' he s ((aL.upd hn).trans Qo)⟩
theorem refused{x:Str}{U Il Ef:FuncData}{k:Nat}{n:Nr}{bl:ak}{cs:List (Str×GK)}{px:Px}{fnT:Nat->Option Str}{m I:aE}{Ad:aa->Prop}{a:Expr} 
  (Fu:zN K x qual st f U) (Sc:eE n.N n.ps (aF st)) {j1 j3:Nat} {q1 q2 q3 q8 Cg Cf Ce Cd G3 G1 G0 GZ GY GX GW GV GU GS GR GQ:Pos} (uO:br st=Gz n a as j1 j3 q1 q2 q3 q8 Cg Cf Ce Cd G3 G1 G0 GZ GY GX GW GV GU GS GR GQ) (nm:Hs (aF st) n=true) (O:qv n.cls C mg base)
  (yS:lL px Φ) (p8:∀y∈bl,mg y=none) (mP:∀y i,(y,i)∈cs->∃u,mg y=some u/\vK K i u) (md:∀g y,fnT g=some y->Ent P w K mg base k y (Φ g)) (M:bO ⟨aF st,n.N,fnT,bl,cs,px⟩ ce (a::as)=true)
  (Fo:dq P w K mg base (qy P w C) k fa Il vP (λe H Q E=>A4 K vP.length I e H Q E\/Lx K C vP.length Ad e H Q E)) (R:Binds K Il vP []) (V:PySem.W.keepIn K (.ref fa)=true) (G:mg n.f=some (.ref fa)) (UU:dq P w K mg base rE k O0 Ef G5 (nN C)) (HW:Binds K Ef G5 []) (HP:PySem.W.keepIn K (.ref O0)=true) (Z:mg n.al=some (.ref O0))
  (hm:∀d r,m d=ok r->d.length=n.ps.length/\∃b,b0 Φ ce ((d.map some++[none,none]).set n.ps.length (some .cF))=ok b/\b.length=vP.length/\((r=.bl false/\∃p,I (aA aZ b)=ok p)\/(r=.bl true/\Ad (aA aZ b)))) :
  dq P w K mg base rE (k+1) f U n.ps (A4 K n.ps.length m):=by
 refine Fu.ok (N:=n.N) Sc (λe H Q E ⟨_,_,_,h,_⟩=>h) λfc A outer s H e Q E hr tE=>?_;obtain⟨F,d,r,hl,rs,er,J⟩:=tE;obtain⟨RJ,b,Be,Y,RO⟩:=hm d r er
 let X:=(iU rE P w K mg base n.N qual (aF st) f fc A outer s H E).uu
 have L:Lk X ⟨aF st,n.N,fnT,bl,cs,px⟩ k Φ:=⟨rfl,rfl,Sc.nd,rfl,hr,p8,λg y h=>⟨(md g y h).ex⟩,mP,yS⟩
 have hNl:n.N.length=n.ps.length+2:=by unfold Nr.N;simp
 have t:=tZ (X:=X) (F:=F) (N:=n.N) (vs:=e) (ds:=d) (H:=H) rfl (by left) rs;rw[show n.N.length - d.length=2 by left]at t;have l:(d.map some++List.replicate 2 (none:aG)).length=n.N.length:=by simp;left
 rw[uO];rcases RO with ⟨rfl,p,q⟩|⟨rfl,q⟩
 ·refine⟨_,ym (X:=X) (F:=F) (E1:=λ_ _ _=>False) L rfl rfl rfl nm O Fo R V G UU HW HP Z M,_,_,_,b,t,l,Be,λYX H1 e1 ⟨D,j⟩ Q' T=>?_,λ_ z=>z.elim⟩;refine .inl ⟨D,aA aZ b,p,by rw[j.length,bu,List.length_map,Y],j,q,λv H' o _=>T v H' ?_⟩;exact J (.bl false) H' (e1.trans o) ⟨λ_=>none,λ_ _ h=>by simp at h,.bl false⟩
 ·refine⟨_,ym (X:=X) (F:=F) (E1:=λc _ H'=>aL H H') L rfl rfl rfl nm O Fo R V G UU HW HP Z M,_,_,_,b,t,l,Be,λYX H1 e1 ⟨D,j⟩ Q' T=>?_,λH' z jV z'=>?_⟩
  ·exact .inr ⟨D,aA aZ b,by rw[j.length,bu,List.length_map,Y],j,q,λH' o=>e1.trans o⟩
  ·exact J (.bl true) jV (z.trans z') ⟨λ_=>none,λ_ _ h=>by simp at h,.bl true⟩
noncomputable def T6:Px:=⟨λ_ _ _ _=>none,λ_ _ _ _=>none,λ_ _ _ _=>none,λ_ _ _ _=>none⟩
theorem pr0:lL T6 Φ:=⟨(λX b bl k L p e args a F g c=>by cases a),(λX b bl k L p e args a F g m n c pins s σ H R i j l d items I t r q o u hR=>by cases a)⟩
def Tt(K:av)(mg:aU)(sc:Scope)(C:Addr)(x:Str)(b:Bool):Prop :=
 (iB sc x=true/\(x==("__debug__" : Str))=false)/\((∃a,mg x=some (.ref a)/\PySem.W.kitOne K (.ref C) (.ref a)=some b)\/∃T,mg x=none/\bootBuiltins x=some (.type T)/\x ≠ "__name__" /\ PySem.W.kitOne K (.ref C) (.type T)=some b)
theorem Fe{x:Str}{v:FuncData}{k:Nat}{bl:ak}{cl:Str->Option Bool} 
  (Fu:zN K x qual st f v) (e:eE [err,told] [err] (aF st)) {a b r:Expr} {q o n m l:aq} {Y W U:Pos} {j:Nat} {V pr Hb Ha G8 JI JS JX JO JH JR Fx JN JG JQ JW JM JF JP JV JL G7:Pos}
  (O:br st=nQ told a b r q o n m l Y W U j V pr Hb p1 Ha G8 p2 JI JS JX JO p3 JH JR Fx JN p4 JG JQ JW JM p5 JF JP JV JL G7) (ha:uL err cl a=some true) (hb:uL err cl b=some true)
  (i1:eu err cl q=some b1) (i2:eu err cl o=some b2) (i3:eu err cl n=some b3) (i4:eu err cl m=some b4) (i5:eu err cl l=some b5) (c:cq ⟨aF st,[err,told],λ_=>none,bl,[],T6⟩ xG r=true)
  (he:(aF st).names.lookup err=some .local) (hl:(aF st).names.lookup told=some .local) (d1:(err==("__debug__" : Str))=false) (d2:(err==("__classdict__" : Str))=false) (d3:(told==("__debug__" : Str))=false) (d4:(told==("__classdict__" : Str))=false)
  (p8:∀y∈bl,mg y=none) (I:XC K C) (gi:iB (aF st) "isinstance" = true) (ni:mg "isinstance" = none) (ON:∀x b,cl x=some b->Tt K mg (aF st) C x b) (hlen:b1.length+b2.length+b3.length+b4.length+b5.length<=sizeLine)
  (J:bz (λ_ _=>none) xG [none,some (.lst .fz ((b1++b2++b3++b4++b5).map DI.D.bl))]=ok (.bl true)):dq P w K mg base rE (k+1) f v [err] (nN C):=by
 refine Fu.ok (N:=[err,told]) e (λM H Q E cg=>by obtain⟨_,h,_⟩:=cg;rw[h];rfl) λfc A outer s H M Q E hr R=>?_;obtain⟨ea,rfl,hH,hq⟩:=R
 let X:=(iU rE P w K mg base [err,told] qual (aF st) f fc A outer s H E).uu
 have L:Lk X ⟨aF st,[err,told],λ_=>none,bl,[],T6⟩ k (λ_ _=>none):=⟨rfl,rfl,e.nd,rfl,hr,p8,(λg y h=>by cases h),(λy i h=>by cases h),pr0⟩
 have Z:O9 X C cl:=⟨I,L.gl gi,ni,λx b h p=>by
  obtain⟨⟨t,h2⟩,h3⟩:=ON x b h;rcases h3 with ⟨G,h3,d⟩|⟨T,h3,d,h5,h6⟩
  ·exact⟨.ref G,.ref G,yx (L.gl t) h3 rfl h2,λu z=>z,d⟩
  ·exact⟨.ty T,.type T,yA (L.gl t) h3 d rfl h5 h2,λu z=>z,h6⟩⟩
 rw[O];exact⟨_,xM (X:=X) L Z rfl he hl d1 d2 d3 d4 e.nd hlen J ha hb i1 i2 i3 i4 i5 c,ea,rfl,rfl,hH,hq⟩
def pZ(Φ:bh)(a n:Nat)(g:aa->Prop)(b:aj)(d:bo->Prop):Prop:=∀c,g c->c.length=a/\∃e,bK Φ b (c.map some++List.replicate n none)=ok (.nx,e)/\d e
def Yx(Φ:bh)(ce:aH)(d:aa->Prop)(c:Nat):bo->Prop:=λb=>∃a,b0 Φ ce b=ok a/\d (aA aZ a)/\a.length=c
theorem NK{x:Str}{o:FuncData}{k n:Nat}{N bl:ak}{cs:List (Str×GK)}{px:Px}{fnT:Nat->Option Str}{l:aa->Prop}{d:aj}{e:aO}
  (R:zN K x qual st f o) (M:eE N ps (aF st)) (G:N.length=ps.length+n) (r:lL px Φ) (Q:Fq px Φ) (z:∀y∈bl,mg y=none) (D:∀y i,(y,i)∈cs->∃u,mg y=some u/\vK K i u) (A:∀g y,fnT g=some y->Ent P w K mg base k y (Φ g)) {c:CE} {t:Expr} {y m:Str} {j:Nat} {p:Pos} (v:br st=e++.If t [.Raise (some (.Call (.Name y np) [.Constant (.str m) j p] [] cpos)) none rp] [] ip::tr) (s:fq ⟨aF st,N,fnT,bl,cs,px⟩ d e=true)
  (I:cq ⟨aF st,N,fnT,bl,cs,px⟩ c t=true) (h3:(iB (aF st) y&&!(y==("__debug__" : Str)))=true) (O:qv y C mg base) (H:pZ Φ ps.length n l d (λq=>u_ Φ c q=ok true)):dq P w K mg base (qy P w C) (k+1) f o ps (Lx K C ps.length l) :=
 Ei R M v s r Q z D A (λX F L e1 e2 e3 e4 e5 hR T=>by
  have h3:=aM h3;exact So L hR I h3.1 (by simpa using h3.2) (by rw[e4,e5];exact O)) λJ h=>by
   obtain⟨a,b⟩:=H J h;exact⟨a,by rw[G,a,Nat.add_sub_cancel_left];exact b⟩
theorem Ej{k:Nat}{N bl:ak}{cs:List (Str×GK)}{px:Px}{fnT:Nat->Option Str}{d:aa->Prop}{b:FuncData}{g:Str}{e:Expr}(a:bO ⟨aF st,N,fnT,bl,cs,px⟩ ce (e::es)=true)(n:dq P w K mg base (qy P w C) k f' b vP (Lx K C vP.length d))(h2:(iB (aF st) g&&!(g==("__debug__" : Str)))=true)(j:mg g=some (.ref f'))(i:PySem.W.keepIn K (.ref f')=true)(l:Binds K b vP [])(L:Lk X ⟨aF st,N,fnT,bl,cs,px⟩ k Φ)(e1:X.prog=P)(e2:X.w=w)(e3:X.K=K)(e4:X.mg=mg)(e5:X.base=base)(m:Passes (qy X.prog X.w C) X (λc _ H'=>c=.ref C/\aL X.H₀ H')):PE X (.Call (.Name g np) (e::es) [] cpos) (Lf X F (Yx Φ ce d vP.length)):=by
 subst e1 e2 e3 e4 e5;have h2:=aM h2;refine Iq (C:=C) L m n h2.1 j i l (by simpa using h2.2) a (λr=>?_) ?_
 ·cases ce with
  |nil=>exact(aae a).elim
  |cons c cs=>exact b_ (aM a).1 r _
 ·cases ce with
  |nil=>exact(aae a).elim
  |cons c cs=>exact wD (aM a).2
end DI
end
section
namespace DI
open PySem (Str)
noncomputable def Jh:aj:=[.ifs (.or [(.not (.lg (.v 0) .list)),(.cmp .ne (.bf .len [(.v 0)]) (.v 1))]) [.rs 9] [],.fr (.nm 2) (.seq (.v 0)) [.ex (.call 17 [(.v 2)])]]
def Fi(m:aE):Prop:=∀a:List Dw,(∀d∈a,∃k,Dr k d.1 d.2)->m [.lst .fz (aK .fz a),.int a.length]=ok .cF
theorem zt(Φ:bh)(g:dO (Φ 17))(b a:aG):∀(Ds:List Dw) (c:aG),(∀d∈Ds,∃k,Dr k d.1 d.2)->∃f,dE (λd e=>cB (.nm 2) d e) (λe=>bK Φ [.ex (.call 17 [(.v 2)])] e) (aK .fz Ds) [b,a,c]=ok (.nx,[b,a,f])
 |[],c,_=>⟨c,rfl⟩
 |d::Ds,c,h=>by
  obtain⟨k,l⟩:=h d aaf;have m:Φ 17 [ck .fz d]=ok .cF:=g k d.1 d.2 l;obtain⟨f,i⟩:=zt Φ g b a Ds (some (ck .fz d)) λx j=>h x (aad _ j);refine⟨f,bZ (ρ1:=[b,a,some (ck .fz d)]) (by simp) (ρ2:=[b,a,some (ck .fz d)]) ?_ i⟩;simp[bU,m]
theorem VF(Φ:bh)(j:dO (Φ 17)):Fi (mk Φ 2 3 Jh):=by
 intro a hd;obtain⟨k,i⟩:=zt Φ j (some (.lst .fz (aK .fz a))) (some (.int a.length)) a none hd;have g:=lC .fz a;have c:bQ Φ (.seq (.v 0)) [some (.lst .fz (aK .fz a)),some (.int a.length),none]=ok (aK .fz a,[some (.lst .fz (aK .fz a)),some (.int a.length),none]):=by
  rw[jR (f:=.fz) (ds:=aK .fz a) (by simp[aT]),aT,fF (by rfl)];rfl
 have h:=cX (Φ:=Φ) (t:=.nm 2) (b:=[.ex (.call 17 [(.v 2)])]) c i;have e:∀f d,du .list (.lst f d)=true:=λ_ _=>rfl;generalize aK .fz a=X at *;simp[mk_eq,Jh,e,h,g]
theorem EY:∀{a:Int} {Ds:List Dw} {i:Nat} {d:Dw},Ds[i]?=some d->(bj a Ds)[i]?=some (d.2.map λr=>(r.1,iV (a+bS (Ds.take i)) r.2))
 |a,d::Ds,0,e,h=>by cases h;simp[bj,bS]
 |a,d::Ds,i+1,e,h=>by
  have b:=EY (a:=a+d.1) (Ds:=Ds) (i:=i) h;have:a+bS ((d::Ds).take (i+1))=a+d.1+bS (Ds.take i):=by simp[bS];left
  rw[this];exact b
theorem lI{Ds:List Dw}{g:Int}(d:0<=g)(c:g<(Ds.length:Int)):(bj 0 Ds).getD g.toNat []=(Ds.getD g.toNat (0,[])).2.map λr=>(r.1,iV (bS (Ds.take g.toNat)) r.2):=by
 have b:g.toNat<Ds.length:=by left
 have:=EY (a:=0) (aaH b);rw[List.getD_eq_getElem?_getD,this,Int.zero_add];simp[b]
theorem zm{Ds:List Dw}:∀{gs:ae} {C:af},(∀g∈gs,0<=g/\g<(Ds.length:Int))->mw Ds (C.length:Int) gs=((kn C (bH (bj 0 Ds) gs)).length:Int)
 |[],_,_=>rfl
 |g::gs,C,h=>by
  obtain⟨c,b⟩:=h g aaf;have a:=zm (Ds:=Ds) (gs:=gs) (C:=bN C ((bj 0 Ds).getD g.toNat [])) λx d=>h x (aad _ d);rw[jJ,lI c b,List.length_map,Int.natCast_mul]at a;show mw Ds ((C.length:Int)*((Ds.getD g.toNat (0,[])).2.length:Int)) gs=((kn (bN C ((bj 0 Ds).getD g.toNat [])) (bH (bj 0 Ds) gs)).length:Int)
  rw[a,lI c b]
theorem lE{Ds:List Dw}:∀{gs:af},US Ds gs->kj Ds gs=((allR (bj 0 Ds) gs).length:Int)
 |[],_=>rfl
 |r::gs,h=>by
  have a:=lE (Ds:=Ds) (gs:=gs) λx b=>h x (aad _ b);have e:=zm (Ds:=Ds) (gs:=r.2) (C:=[(r.1,[])]) (h r aaf);unfold kj allR at *;rw[List.map_cons,List.sum_cons,a,List.flatMap_cons,List.length_append,Int.natCast_add,<- e];rfl
theorem rK{Ds:List Dw}{i j:Nat}(h:i<=j):bS (Ds.take i)<=bS (Ds.take j):=by
 induction Ds generalizing i j with
 |nil=>simp
 |cons d Ds a =>
  cases i with
  |zero =>
   have:∀l:List Dw,0<=bS l:=λl=>by
    induction l with
    |nil=>simp[bS]
    |cons d l a=>simp[bS]at *;left
   have:=this ((d::Ds).take j);simpa [bS]using this
  |succ i=>cases j with
   |zero=>left
   |succ j =>
    have:=a (i:=i) (j:=j) (by left);simp[bS]at *;left
theorem jd{Ds:List Dw}{i:Nat}{d:Dw}(h:Ds[i]?=some d):bS (Ds.take (i+1))=bS (Ds.take i)+d.1:=by
 have:Ds.take (i+1)=Ds.take i++[d]:=by rw[List.take_add_one,h];rfl
 rw[this];simp[bS]
theorem um{Ds:List Dw}(m:∀d∈Ds,(d.2.map (·.2)).Nodup/\∀r∈d.2,O_ d.1 r.2):∀{gs:ae} {j:Nat},gs.Pairwise (· < ·)->(∀g∈gs,(j:Int)<=g/\g<(Ds.length:Int))->∃c,Lay (bS (Ds.take j)) c (bH (bj 0 Ds) gs)
 |[],j,_,_=>⟨_,.nil _⟩
 |g::gs,j,hp,h=>by
  obtain⟨D,A⟩:=h g aaf;obtain⟨p,o⟩:=List.pairwise_cons.mp hp;have l:g.toNat<Ds.length:=by left
  have hd:=aaH l;obtain⟨t,q⟩:=m _ (aaU l);have C:=jd hd;have z:=rK (Ds:=Ds) (i:=j) (j:=g.toNat) (by left);obtain⟨c,u⟩:=um m (gs:=gs) (j:=g.toNat+1) o λx k=>⟨by have:=p x k;left,(h x (aad _ k)).2⟩
  refine⟨c,?_⟩;show Lay _ c ((bj 0 Ds).getD g.toNat []::bH (bj 0 Ds) gs);rw[lI (by left) A];have B:Ds.getD g.toNat (0,[])=Ds[g.toNat]:=by simp[l]
  rw[B];generalize bS (Ds.take g.toNat)=a at *;refine .cons (b:=bS (Ds.take (g.toNat+1))) (by left) ?_ (λr w=>?_) u
  ·rw[List.map_map];have:((λx:Row=>x.2)∘λr:Row=>(r.1,iV a r.2))=iV a∘(·.2):=rfl;rw[this,<- List.map_map];exact t.map (f:=iV a) λx y (k:x≠y) e=>k (GA e)
  ·obtain⟨s,n,rfl⟩:=List.mem_map.mp w;intro x k;obtain⟨y,v,rfl⟩:=List.mem_map.mp k;have:=q s n y v;left
structure tx(n:Nat)(gs:af)(Ds:List Dw):Prop where
 nD:Ds.length=n
 n4:n<=4
 dg:Dr 6 n gs
 g5:gs.length<=5
 dr:∀d∈Ds,Dr 6 d.1 d.2/\d.2.length<=5/\1<=d.2.length/\d.1<=3
theorem oM(a b:af)(l:ae):dh (a++b) l=dh a l++dh b l:=by unfold dh;rw[List.filter_append,List.map_append]
section
variable {n:Nat}{gs:af}{Ds:List Dw}(K:tx n gs Ds)
include K
theorem tx.Ig:US Ds gs:=λr a g b=>by rw[K.nD];exact(K.dg.lot r a).2 g b
theorem tx.SX:∀a∈bj 0 Ds,qt 6 12 a/\a.length<=5:=λa g=>by
 obtain⟨d,hd,b,rfl⟩:=EZ g;obtain⟨I,f,_,_⟩:=K.dr d hd;refine⟨λr e=>?_,by rw[List.length_map];exact f⟩;obtain⟨s,c,rfl⟩:=List.mem_map.mp e;refine⟨I.sm s c,?_⟩;have:=(I.lot s c).len;have:=I.n2;show(iV b s.2).length<=12;unfold iV;rw[List.length_map];left
theorem tx.ix:∀r∈gs,∀g∈r.2,0<=g/\g<((bj 0 Ds).length:Int):=λr a g b=>by rw[vz];exact K.Ig r a g b
theorem tx.rl:∀r∈gs,r.2.length<=4:=λr a=>by have:=(K.dg.lot r a).len;have:=K.n4;left
theorem tx.oc:∀r∈gs,Mb 1 (bH (bj 0 Ds) r.2):=λr a=>QL (λb c=>(K.SX b (kQ (K.ix r a) c)).2) (by
 have:(bH (bj 0 Ds) r.2).length=r.2.length:=aa3 ..;rw[this,Nat.one_mul];exact aaR (aaS (by decide) (K.rl r a)) (by decide))
theorem tx.one:∀r∈gs,((kn [(r.1,[])] (bH (bj 0 Ds) r.2)).map (·.2)).Nodup/\qt 30 48 (kn [(r.1,[])] (bH (bj 0 Ds) r.2))/\(kn [(r.1,[])] (bH (bj 0 Ds) r.2)).length<=625:=λr a=>by
 have f:(bH (bj 0 Ds) r.2).length=r.2.length:=aa3 ..;have rl:=K.rl r a;refine⟨?_,?_,?_⟩
 ·obtain⟨c,L⟩:=um (Ds:=Ds) (λd hd=>⟨B6 (K.dr d hd).1.rise,λr a=>((K.dr d hd).1.lot r a).2⟩) (gs:=r.2) (j:=0) (K.dg.lot r a).1 λg t=>K.Ig r a g t;exact(N6 L (c:=[(r.1,[])]) (by simp[bS]) (by simp) λm q=>by rw[List.mem_singleton.mp q];exact λ_ h=>nomatch h).1
 ·intro x o;have h:=N5 (k:=6) (l:=0) (i:=6) (j:=12) (c:=[(r.1,[])]) (LL:=bH (bj 0 Ds) r.2) (λs p=>by rw[List.mem_singleton.mp p];exact⟨K.dg.sm r a,aal _⟩) (λb e=>(K.SX b (kQ (K.ix r a) e)).1) x o;rw[f]at h;exact⟨h.1.mono (by left),by left⟩
 ·have h:=vp (LL:=bH (bj 0 Ds) r.2) (C:=[(r.1,[])]) λb e=>(K.SX b (kQ (K.ix r a) e)).2;rw[f,List.length_singleton,Nat.one_mul]at h;exact aaR h (aaS (by decide) rl)
theorem tx.Zd(l:ae):vV 30 (dh (allR (bj 0 Ds) gs) l):=by
 have go:∀a:af,(∀r∈a,r∈gs)->(dh (allR (bj 0 Ds) a) l).length<=a.length/\∀q∈dh (allR (bj 0 Ds) a) l,Sm 30 q:=λa=>by
  induction a with
  |nil=>intro _;exact⟨aal _,λ_ h=>nomatch h⟩
  |cons r a i =>
   intro d;obtain⟨m,j⟩:=i λx c=>d x (aad _ c);obtain⟨g,f,_⟩:=K.one r (d r aaf);have e:allR (bj 0 Ds) (r::a)=kn [(r.1,[])] (bH (bj 0 Ds) r.2)++allR (bj 0 Ds) a:=by unfold allR;rw[List.flatMap_cons]
   rw[e,oM];have:=uk g l;refine⟨by rw[List.length_append,List.length_cons];left,λq b=>?_⟩;rcases List.mem_append.mp b with b|b
   ·obtain⟨x,c,rfl⟩:=List.mem_map.mp b;exact(f x (List.mem_filter.mp c).1).1
   ·exact j q b
 obtain⟨o,k⟩:=go gs λ_ h=>h;have:=K.g5;exact⟨k,by left,by left⟩
theorem tx.TR:bS Ds<=12:=by
 have h:∀l:List Dw,(∀d∈l,d.1<=3)->bS l<=3*(l.length:Int):=λl=>by
  induction l with
  |nil=>intro _;simp[bS]
  |cons d l a =>
   intro hd;have i:=a λx b=>hd x (aad _ b);have:=hd d aaf;simp[bS]at *;left
 have:=h Ds λd hd=>(K.dr d hd).2.2.2;have:=K.n4;have:=K.nD;left
end
noncomputable def nE:aj:=[.ex (.call 17 [(.v 0)]),.ex (.call 97 [(.v 1),(.ix (.v 0) (.int 0))]),.ex (.call 98 [(.v 0),(.v 1)]),.ret (.call 102 [(.v 0),(.v 1)])]
def Oc(m:aE):Prop:=∀n b a,tx n b a->kj a b<=500->m [cD n b,.lst .fz (aK .fz a)]=ok (.tup [.int (bS a),.lst .ow (aS (gM (allR (bj 0 a) b)))])
variable {gs:af}
theorem wa(Φ:bh)(h:dO (Φ 17))(g:Fi (Φ 97)){n:Nat}{Ds:List Dw}(K:tx n gs Ds):mq Φ (.ex (.call 17 [(.v 0)])) [some (cD n gs),some (.lst .fz (aK .fz Ds))]=ok (.nx,[some (cD n gs),some (.lst .fz (aK .fz Ds))])/\mq Φ (.ex (.call 97 [(.v 1),(.ix (.v 0) (.int 0))])) [some (cD n gs),some (.lst .fz (aK .fz Ds))]=ok (.nx,[some (cD n gs),some (.lst .fz (aK .fz Ds))])/\b0 Φ [(.v 0),(.v 1)] [some (cD n gs),some (.lst .fz (aK .fz Ds))]=ok [cD n gs,.lst .fz (aK .fz Ds)]/\aA aZ [cD n gs,.lst .fz (aK .fz Ds)]=[cD n gs,.lst .fz (aK .fz Ds)]:=by
 have e1:=h 6 n gs K.dg;have e2:=g Ds λd hd=>⟨6,(K.dr d hd).1⟩
 rw[K.nD]at e2;have a:aR bp (cD n gs)=cD n gs:=by simp[cD]
 have c:aR aZ (cD n gs)=cD n gs:=by simp[cD]
 have f:vQ (cD n gs) (.int 0)=ok (.int n):=by simp[cD]
 have b:aA bp (aK .fz Ds)=aK .fz Ds:=by rw[aT];rfl
 have e:aA aZ (aK .fz Ds)=aK .fz Ds:=by rw[aT];rfl
 generalize aK .fz Ds=X at *;generalize cD n gs=Y at *;exact⟨by simp[a,c,e1],by simp[a,b,e,f,e2],by simp[a,b],by simp[c,e]⟩
theorem Vy(Φ:bh)(x:dO (Φ 17))(w:Fi (Φ 97))(t:Tq (Φ 98))(u:To (Φ 102)):Oc (mk Φ 2 2 nE):=by
 intro n gs a K p;have y:=K.nD;have B:=K.n4;have A:=K.g5;obtain⟨k,j,f,e⟩:=wa Φ x w K;have e3:=t n gs a (by left) (by left) (λd hd=>by have:=(K.dr d hd).2.1;left) K.Ig K.TR p;have z:=lE K.Ig;have e4:=u n gs a ⟨K.ix,λr b=>⟨K.dg.sm r b,by have:=K.rl r b;left⟩,K.oc,λc g=>⟨(K.SX c g).1,by have:=(K.SX c g).2;left⟩,by left⟩ (by left) (λd hd=>⟨by have:=(K.dr d hd).2.1;left,λr b=>by have:=((K.dr d hd).1.lot r b).len;have:=(K.dr d hd).1.n2;left⟩) λl=>⟨30,K.Zd l⟩
 have m:aP bW (aS (gM (allR (bj 0 a) gs)))=false:=gR _ _;have o:aA gU (aS (gM (allR (bj 0 a) gs)))=aS (gM (allR (bj 0 a) gs)):=cE _ _;generalize aS (gM (allR (bj 0 a) gs))=R at *;generalize aK .fz a=X at *;generalize cD n gs=Y at *;rw[mk_eq (show[Y,D.lst .fz X].length=2 from rfl)];show pI (bK Φ nE [some Y,some (.lst .fz X)])=_;have s:bz Φ (.call 98 [(.v 0),(.v 1)]) [some Y,some (.lst .fz X)]=ok .cF:=by
  show bd (b0 Φ [(.v 0),(.v 1)] _) _=_;rw[f,cQ,e,e3];rfl
 have q:bz Φ (.call 102 [(.v 0),(.v 1)]) [some Y,some (.lst .fz X)]=ok (.tup [.int (bS a),.lst .ow R]):=by
  show bd (b0 Φ [(.v 0),(.v 1)] _) _=_;rw[f,cQ,e,e4];simp[o]
 rw[nE,bX,k,dG,bX,j,dG,bX];have i:mq Φ (.ex (.call 98 [(.v 0),(.v 1)])) [some Y,some (.lst .fz X)]=ok (.nx,[some Y,some (.lst .fz X)]):=by rw[UZ,s];rfl
 rw[i,dG,bX];have h:mq Φ (.ret (.call 102 [(.v 0),(.v 1)])) [some Y,some (.lst .fz X)]=ok (.rt (.tup [.int (bS a),.lst .ow R]),[some Y,some (.lst .fz X)]):=by
  rw[Pe,Q8 Φ (.call 102 [(.v 0),(.v 1)]) _ rfl,q];simp[m]
 rw[h];rfl
def FG(ds:aa):Prop:=∃n gs a,tx n gs a/\500<kj a gs/\ds=[cD n gs,.lst .fz (aK .fz a)]
theorem X6(Φ:bh)(i:Fm (Φ 99)):pZ Φ 2 0 FG (tq.take 1) λb=>u_ Φ (.cmp .gt (.bf .gy [vc]) (.glo "MOST_CHOICES" 500)) b=ok true:=λl h=>by
 obtain⟨n,gs,a,K,f,rfl⟩:=h;have j:=K.nD;have m:=K.n4;have k:=K.g5;have o:=K.TR;have e1:=sZ Φ (Ds:=a) (by left) .fz (some (cD n gs)) [];have e2:=xD Φ i (n:=n) (gs:=gs) (Ds:=a) (by left) (λd hd=>by have:=(K.dr d hd).2.1;left) K.Ig;have e:oi .gy [.lst .ow (ag (a.map λd=>(d.1:Int)))]=ok (.int (bS a)):=pE _ _;have c:oi .gy [.lst .ow (ag (gs.map λr=>mw a 1 r.2))]=ok (.int (kj a gs)):=pE _ _;have g:¬ (12:Int)<bS a:=by left
 generalize cD n gs=Y at *;generalize aK .fz a=X at *;exact⟨rfl,[some Y,some (.lst .fz X)],by simp[tq,e1,e,g],by simp[e2,c,f]⟩
theorem Sr(Φ:bh)(k:dO (Φ 17))(j:Fi (Φ 97)):pZ Φ 2 0 FG (nE.take 2) λc=>∃b,b0 Φ [(.v 0),(.v 1)] c=ok b/\FG (aA aZ b):=λl h=>by
 obtain⟨n,gs,a,K,g,rfl⟩:=h;obtain⟨e,d,i,f⟩:=wa Φ k j K;refine⟨rfl,[some (cD n gs),some (.lst .fz (aK .fz a))],?_,_,i,by rw[f];exact⟨n,gs,a,K,g,rfl⟩⟩;show bK Φ [_,_] _=_;rw[bX];show tP Φ _ (mq Φ _ [some (cD n gs),some (.lst .fz (aK .fz a))])=_;rw[e,dG,bX,d,dG];rfl
noncomputable def Em:CE:=.comp 1 (.nm 0) [2,9] .seq [(.v 14)] [] (.bin .add (.v 0) (.ix (.v 1) (.v 2)))
def x5:aj:=[.app 10 (.tup [(.call 203 [(.v 11),(.v 13)]),(.bin .add (.v 12) (.bf .tuple1 [Em]))])]
def x6:aj:=[.fr (.tp [13,14]) (.seq (.ix (.ix (.v 1) (.v 9)) (.int 1))) x5]
def x8:aj:=[.asg (.nm 10) (.lst []),.fr (.tp [11,12]) (.seq (.v 4)) x6,.asg (.nm 4) (.v 10)]
noncomputable def xZ:aj:=[.mut 1033 5 [(.call 202 [(.cS 1031 [(.v 5),(.v 12),(.tup [(.int 0),(.int 1)])]),(.v 11)]),(.v 12)]]
def x9:aj:=[.asg (.nm 4) (.lst [(.tup [(.v 7),(.tup [])])]),.fr (.nm 9) (.seq (.v 8)) x8,.asg (.nm 6) (.bin .add (.v 6) (.bf .len [(.v 4)])),.fr (.tp [11,12]) (.seq (.v 4)) xZ]
noncomputable def x_:aj:=[.app 2 (.bin .add (.ix (.v 2) (.neg (.int 1))) (.v 3))]
noncomputable def NO:CE:=.comp 1 (.nm 0) [5] .seq [(.cS 1035 [(.v 5)])] [] (.tup [(.cS 1032 [(.v 1),(.v 0)]),(.v 0)])
def Jc:aj:=[.asg (.nm 2) (.lst [(.int 0)]),.fr (.tp [3,4]) (.seq (.v 1)) x_,.asg (.nm 5) (.cS 1030 []),.asg (.nm 6) (.int 0),.fr (.tp [7,8]) (.seq (.ix (.v 0) (.int 1))) x9,.ret (.tup [(.v 6),(.tup [(.ix (.v 2) (.neg (.int 1))),NO])])]
def gL(Ds:List Dw)(k:Nat):ae:=(List.range k).map λj=>bS (Ds.take j)
theorem oG(Ds:List Dw)(k:Nat):gL Ds (k+1)=gL Ds k++[bS (Ds.take k)]:=by unfold gL;rw[List.range_succ,List.map_append];rfl
theorem Gs(Ds:List Dw)(k:Nat):(gL Ds k).length=k:=by unfold gL;simp
theorem vB{S:ae}{x:Int}:p9 (ag (S++[x])) (-1)=ok (.int x):=by
 unfold p9;have e:yM (ag (S++[x])).length (-1)=some S.length:=by
  unfold yM;rw[jI,List.length_append,List.length_singleton,if_neg (by left),if_pos (by left)];congr 1;left
 rw[e];simp
theorem Lp{Ds:List Dw}{k:Nat}{g:Int}(a:0<=g)(b:g<(k:Int)):p9 (ag (gL Ds k)) g=ok (.int (bS (Ds.take g.toNat))):=by
 have:=at_of (ds:=ag (gL Ds k)) (i:=g) (d:=.int (bS (Ds.take g.toNat))) a (by
  rw[qS];unfold gL;rw[List.getElem?_map,List.getElem?_range (by left)];rfl)
 simpa using this
theorem uE(Φ:bh){Ds:List Dw}(p o n m l k j g c f h i:aG):∀(b a:List Dw) (r q:aG),Ds=a++b->Ds.length<=1000 ->
  ∃v E,dE (λd s=>cB (.tp [3,4]) d s) (λs=>bK Φ x_ s) (aK .fz b) [p,o,some (.lst .ow (ag (gL Ds (a.length+1)))),r,q,n,m,l,k,j,g,c,f,h,i]=ok (.nx,[p,o,some (.lst .ow (ag (gL Ds (Ds.length+1)))),v,E,n,m,l,k,j,g,c,f,h,i])
 |[],a,r,q,e,_=>⟨r,q,by rw[List.append_nil]at e;rw[e];rfl⟩
 |d::b,a,r,q,e,hl=>by
  obtain⟨D,C,t⟩:=uE Φ p o n m l k j g c f h i b (a++[d]) (some (.int d.1)) (some (.lst .fz (aS d.2))) (by rw[e];simp) hl;rw[List.length_append,List.length_singleton,oG Ds (a.length+1)]at t;have hd:Ds[a.length]?=some d:=by rw[e];simp
  have z:a.length<Ds.length:=by rw[e];simp
  have y:=jd hd;have u:=vB (S:=gL Ds a.length) (x:=bS (Ds.take a.length));rw[<- oG]at u;have A:(ag (gL Ds (a.length+1))).length<dz:=by rw[jI,Gs];show _<1000000;left
  refine⟨D,C,?_⟩;show dE _ _ (.tup [.int d.1,.lst .fz (aS d.2)]::aK .fz b) _=_;refine bZ (ρ1:=[p,o,some (.lst .ow (ag (gL Ds (a.length+1)))),some (.int d.1),some (.lst .fz (aS d.2)),n,m,l,k,j,g,c,f,h,i]) (by simp) (ρ2:=[p,o,some (.lst .ow (ag (gL Ds (a.length+1)++[bS (Ds.take (a.length+1))]))),some (.int d.1),some (.lst .fz (aS d.2)),n,m,l,k,j,g,c,f,h,i]) ?_ t;rw[y,<- wW];generalize B:ag (gL Ds (a.length+1))=X at *;have w:aA bp X=X:=by rw[<- B];exact dS _ _
  simp[x_,w,u,A]
theorem uA(Φ:bh)(w:eQ (Φ 203)){k i l j:Nat}(A:k<=4000)(B:i<=4000)(Q:l+j<=1000){m:Row}(z:Sm k m.1/\m.2.length<=l){S:ae}{g a:Int}(C:p9 (ag S) g=ok (.int a))(u t s q p o n f:aG):∀(e c:af) (E F:aG),qt i j e->c.length+e.length<=900000 ->
  ∃G H,dE (λd v=>cB (.tp [13,14]) d v) (λv=>bK Φ x5 v) (aS e) [u,t,some (.lst .ow (ag S)),s,q,p,o,n,f,some (.int g),some (.lst .ow (aS c)),some (qD m.1),some (.tup (ag m.2)),E,F]=ok (.nx,[u,t,some (.lst .ow (ag S)),s,q,p,o,n,f,some (.int g),some (.lst .ow (aS (c++mW m (rP a e)))),some (qD m.1),some (.tup (ag m.2)),G,H])
 |[],c,f,c9,_,_=>⟨f,c9,by simp[aS,gn,mW,rP]⟩
 |r::e,c,E,F,hr,hl=>by
  rw[List.length_cons]at hl;obtain⟨I,R⟩:=hr r aaf;have e1:=w m.1 r.1 (z.1.mono A) (I.mono B);have e2:∀y,bz Φ Em [u,t,some (.lst .ow (ag S)),s,q,p,o,n,f,some (.int g),y,some (qD m.1),some (.tup (ag m.2)),some (qD r.1),some (.tup (ag r.2))]=ok (.lst .ow (ag (iV a r.2))):=λy=>by
   unfold Em;rw[cH (xs:=[.tup (ag r.2)]) (items:=r.2.map D.int) (ds:=r.2.map λh=>.int (h+a)) (by simp) (by rw[jH];simp;rfl) (bP λh _=>⟨[some (.int h),some (.lst .fz (ag S)),some (.int g)],by simp[bD],by simp,by simp[C]⟩) (by simp;exact cf (by left))];simp[bu,ag,iV,Int.add_comm]
  have e3:=E_ (a:=m.2) (b:=iV a r.2) (by unfold iV;rw[List.length_map];left);obtain⟨P,O,J⟩:=uA Φ w A B Q z C u t s q p o n f e (c++[(m.1*r.1,m.2++iV a r.2)]) (some (qD r.1)) (some (.tup (ag r.2))) (λx K=>hr x (aad _ K)) (by simp;left);have N:c++mW m (rP a (r::e))=c++[(m.1*r.1,m.2++iV a r.2)]++mW m (rP a e):=by simp[mW,rP]
  rw[N];have M:aS (c++[(m.1*r.1,m.2++iV a r.2)])=aS c++[.tup [qD (m.1*r.1),.tup (ag (m.2++iV a r.2))]]:=by unfold aS;rw[List.map_append];rfl
  have L:(aS c).length<dz:=by rw[fx];show _<1000000;left
  refine⟨P,O,bZ (ρ1:=[u,t,some (.lst .ow (ag S)),s,q,p,o,n,f,some (.int g),some (.lst .ow (aS c)),some (qD m.1),some (.tup (ag m.2)),some (qD r.1),some (.tup (ag r.2))]) (by simp[rD]) (ρ2:=[u,t,some (.lst .ow (ag S)),s,q,p,o,n,f,some (.int g),some (.lst .ow (aS (c++[(m.1*r.1,m.2++iV a r.2)]))),some (qD m.1),some (.tup (ag m.2)),some (qD r.1),some (.tup (ag r.2))]) ?_ J⟩;rw[M];generalize aS c=X at *;generalize ag S=Y at *;generalize iV a r.2=U at *;simp[x5,e1,e2,e3,L]
theorem uB(Φ:bh)(y:eQ (Φ 203)){k i l j:Nat}(E:k<=4000)(F:i<=4000)(L:l+j<=1000){Ds:List Dw}{g:Int}(I:0<=g)(H:g<(Ds.length:Int))(D:qt i j (Ds.getD g.toNat (0,[])).2){S:ae}{a:Int}(G:p9 (ag S) g=ok (.int a))(q p o n h f e:aG):∀(C c:af) (z A r s:aG),qt k l C->c.length+C.length*(Ds.getD g.toNat (0,[])).2.length<=900000 ->
  ∃M N O P,dE (λd u=>cB (.tp [11,12]) d u) (λu=>bK Φ x6 u) (aS C) [q,some (.lst .fz (aK .fz Ds)),some (.lst .ow (ag S)),p,o,n,h,f,e,some (.int g),some (.lst .ow (aS c)),z,A,r,s]=ok (.nx,[q,some (.lst .fz (aK .fz Ds)),some (.lst .ow (ag S)),p,o,n,h,f,e,some (.int g),some (.lst .ow (aS (c++bN C (rP a (Ds.getD g.toNat (0,[])).2)))),M,N,O,P])
 |[],c,h,f,e,c9,_,_=>⟨h,f,e,c9,by simp[aS,gn,bN]⟩
 |m::C,c,z,A,r,s,hC,hn=>by
  rw[List.length_cons,Nat.add_mul]at hn;have ed:=Es I H;generalize hd:Ds.getD g.toNat (0,[])=d at *;obtain⟨K,J,e1⟩:=uA Φ y E F L (hC m aaf) G q (some (.lst .fz (aK .fz Ds))) p o n h f e d.2 c r s D (by left);have R:(mW m (rP a d.2)).length=d.2.length:=by unfold mW rP;rw[List.length_map,List.length_map]
  obtain⟨Z,Y,W,V,B⟩:=uB Φ y E F L I H (by rw[hd];exact D) G q p o n h f e C (c++mW m (rP a d.2)) (some (qD m.1)) (some (.tup (ag m.2))) K J (λx T=>hC x (aad _ T)) (by rw[List.length_append,R,hd];left);rw[hd]at B;have e2:c++bN (m::C) (rP a d.2)=c++mW m (rP a d.2)++bN C (rP a d.2):=by unfold bN mW;rw[List.flatMap_cons,List.append_assoc]
  rw[e2];have Be:bz Φ (.ix (.ix (.v 1) (.v 9)) (.int 1)) [q,some (.lst .fz (aK .fz Ds)),some (.lst .ow (ag S)),p,o,n,h,f,e,some (.int g),some (.lst .ow (aS c)),some (qD m.1),some (.tup (ag m.2)),r,s]=ok (.lst .fz (aS d.2)):=by
   have Q:aA bp (aK .fz Ds)=aK .fz Ds:=by rw[aT];rfl
   have ei:vQ (ck .fz d) (.int 1)=ok (.lst .fz (aS d.2)):=by rw[show ck .fz d=.tup [.int d.1,.lst .fz (aS d.2)] from rfl];simp
   generalize aK .fz Ds=X at *;simp[Q,ed,ei]
  have w:bQ Φ (.seq (.ix (.ix (.v 1) (.v 9)) (.int 1))) [q,some (.lst .fz (aK .fz Ds)),some (.lst .ow (ag S)),p,o,n,h,f,e,some (.int g),some (.lst .ow (aS c)),some (qD m.1),some (.tup (ag m.2)),r,s]=ok (aS d.2,[q,some (.lst .fz (aK .fz Ds)),some (.lst .ow (ag S)),p,o,n,h,f,e,some (.int g),some (.lst .ow (aS c)),some (qD m.1),some (.tup (ag m.2)),r,s]):=by
   rw[jR Be];simp
  have U:=cX (Φ:=Φ) (t:=.tp [13,14]) (b:=x5) w e1;refine⟨Z,Y,W,V,bZ (ρ1:=[q,some (.lst .fz (aK .fz Ds)),some (.lst .ow (ag S)),p,o,n,h,f,e,some (.int g),some (.lst .ow (aS c)),some (qD m.1),some (.tup (ag m.2)),r,s]) (by simp[rD]) (ρ2:=[q,some (.lst .fz (aK .fz Ds)),some (.lst .ow (ag S)),p,o,n,h,f,e,some (.int g),some (.lst .ow (aS (c++mW m (rP a d.2)))),some (qD m.1),some (.tup (ag m.2)),K,J]) ?_ B⟩;rw[x6,bX,U];rfl
theorem uC(Φ:bh)(K:eQ (Φ 203)){i j:Nat}(L:i<=4000){Ds:List Dw}(N:∀d∈Ds,qt i j d.2/\d.2.length<=1000)(w u q p o n:aG):∀(gs:ae) (k l:Nat) (C:af) (A y c e h m:aG),(∀g∈gs,0<=g/\g<(Ds.length:Int))->qt k l C->k+gs.length*i<=4000->l+gs.length*j<=1000->Mb C.length (bH (bj 0 Ds) gs) ->
  ∃SU N9 T U V W,dE (λd B=>cB (.nm 9) d B) (λB=>bK Φ x8 B) (ag gs) [w,some (.lst .fz (aK .fz Ds)),some (.lst .ow (ag (gL Ds (Ds.length+1)))),u,some (.lst .ow (aS C)),q,p,o,n,A,y,c,e,h,m]=ok (.nx,[w,some (.lst .fz (aK .fz Ds)),some (.lst .ow (ag (gL Ds (Ds.length+1)))),u,some (.lst .ow (aS (kn C (bH (bj 0 Ds) gs)))),q,p,o,n,SU,N9,T,U,V,W])
 |[],k,l,C,A,y,c,e,h,m,_,_,_,_,_=>⟨A,y,c,e,h,m,rfl⟩
 |g::gs,k,l,C,A,y,c,e,h,m,hg,hC,hk,hl,ho=>by
  rw[List.length_cons,Nat.add_mul,Nat.one_mul]at hk hl;obtain⟨z,E⟩:=hg g aaf;obtain⟨O,g2⟩:=N _ (getD_mem z E);have I:bH (bj 0 Ds) (g::gs)=(bj 0 Ds).getD g.toNat []::bH (bj 0 Ds) gs:=rfl;rw[I,lI z E]at ho ⊢;obtain⟨o1,J⟩:=ho;rw[List.length_map]at o1 J;have ha:=Lp (Ds:=Ds) (k:=Ds.length+1) z (by left);obtain⟨P,Q,R,S,e1⟩:=uB Φ K (k:=k) (l:=l) (by left) L (by left) z E O ha w u (some (.lst .fz (aS C))) q p o n C [] c e h m hC (by rw[List.length_nil,Nat.zero_add];left);rw[List.nil_append]at e1;generalize hd:Ds.getD g.toNat (0,[])=d at *;generalize bS (Ds.take g.toNat)=a at *;have ON:(bN C (rP a d.2)).length=C.length*d.2.length:=by rw[jJ];unfold rP;rw[List.length_map]
  have Uo:qt i j (rP a d.2):=λr hr=>by
   obtain⟨s,hs,rfl⟩:=List.mem_map.mp hr;obtain⟨t1,t2⟩:=O s hs;exact⟨t1,by show(iV a s.2).length<=j;unfold iV;rw[List.length_map];exact t2⟩
  obtain⟨f9,H,UG,UE,G,F,ih⟩:=uC Φ K L N w u q p o n gs (k+i) (l+j) (bN C (rP a d.2)) (some (.int g)) none P Q R S (λx hx=>hg x (aad _ hx)) (pM hC Uo) (by left) (by left) (by rw[ON];exact J);have D:bQ Φ (.seq (.v 4)) [w,some (.lst .fz (aK .fz Ds)),some (.lst .ow (ag (gL Ds (Ds.length+1)))),u,some (.lst .ow (aS C)),q,p,o,n,some (.int g),some (.lst .ow (aS [])),c,e,h,m]=ok (aS C,[w,some (.lst .fz (aK .fz Ds)),some (.lst .ow (ag (gL Ds (Ds.length+1)))),u,some (.lst .fz (aS C)),q,p,o,n,some (.int g),some (.lst .ow (aS [])),c,e,h,m]):=by
   rw[jR (f:=.al) (ds:=aS C) (by simp)];simp[lr,Ea]
  have M:=cX (Φ:=Φ) (t:=.tp [11,12]) (b:=x6) D e1;refine⟨f9,H,UG,UE,G,F,?_⟩;rw[o6];refine bZ (ρ1:=[w,some (.lst .fz (aK .fz Ds)),some (.lst .ow (ag (gL Ds (Ds.length+1)))),u,some (.lst .ow (aS C)),q,p,o,n,some (.int g),y,c,e,h,m]) (by simp) (ρ2:=[w,some (.lst .fz (aK .fz Ds)),some (.lst .ow (ag (gL Ds (Ds.length+1)))),u,some (.lst .ow (aS (bN C (rP a d.2)))),q,p,o,n,some (.int g),none,P,Q,R,S]) ?_ ih;have e0:aS []=[]:=rfl;rw[e0]at M;generalize aS (bN C (rP a d.2))=X at *;generalize aK .fz Ds=Y at *;generalize ag (gL Ds (Ds.length+1))=Z at *;simp[x8,M,cz]
variable {ks:az}{Φ:bh}
theorem Ge(P:Bl Φ)(a:ks.length<900000)(S:ae->Rat)(c:ae)(v:Rat):Φ 1033 [Gf .ow ks S,qD v,.tup (ag c)]=ok (Gf .ow (ba ks c) λk=>if k=c then v else S k):=by
 rw[P.Kl];show(match keyOf (.tup (ag c))with|some c'=>if cz .ow=true/\aV anyF (qD v)=false/\ks.length<dz then ok (D.cn .ow (ba ks c') (bI ks (ks.map λk=>qD (S k)) c' (qD v)))else none|none=>none)=_;rw[kU];show(if cz .ow=true/\aV anyF (qD v)=false/\ks.length<dz then ok (D.cn .ow (ba ks c) (bI ks (ks.map λk=>qD (S k)) c (qD v)))else none)=_;rw[if_pos ⟨rfl,o_ _ _,by show _<1000000;left⟩,zR (λk=>qD (S k))];unfold Gf;congr 2;refine aaP λk _=>?_;show(if k=c then qD v else qD (S k))=qD (if k=c then v else S k);split<;>rfl
theorem K_(a:Φ 1031=mV)(f:Fl)(S:ae->Rat){c:ae}(b:c∉ks->S c=0):Φ 1031 [Gf f ks S,.tup (ag c),qD 0]=ok (qD (S c)):=by
 rw[a];show(match keyOf (.tup (ag c))with|some c=>if aP anyF (ks.map λk=>qD (S k))=false/\aV anyF (qD 0)=false then ok ((bJ ks (ks.map λk=>qD (S k)) c).getD (qD 0))else none|none=>none)=_;rw[kU];show(if aP anyF (ks.map λk=>qD (S k))=false/\aV anyF (qD 0)=false then ok ((bJ ks (ks.map λk=>qD (S k)) c).getD (qD 0))else none)=_;rw[if_pos ⟨cT _ (λk=>o_ _ _) ks,o_ _ _⟩,lq (λk=>qD (S k))];by_cases h:c∈ks
 ·rw[if_pos h];rfl
 ·rw[if_neg h,b h];rfl
def wt(pr:af)(l:ae):Rat:=(dh pr l).sum
def iS(f:Fl)(pr:af):D:=Gf f (eW pr) (wt pr)
theorem BR(pr:af)(r:Row):wt (pr++[r])=λk=>if k=r.2 then wt pr r.2+r.1 else wt pr k:=by
 funext k;unfold wt;rw[qL];unfold jf;by_cases h:k=r.2
 ·rw[if_pos h,if_pos h,h,List.sum_append,List.sum_singleton]
 ·rw[if_neg h,if_neg h]
theorem uz(Φ:bh)(P:Bl Φ)(G:Φ 1031=mV)(C:zK (Φ 202)){all:af}(K:∀l,vV 30 (dh all l)/\(dh all l).length<=5)(y x w u t b a s o j m n:aG):∀(g pr z:af) (H I:aG),all=pr++g++z->all.length<=5000 ->
  ∃L M,dE (λd A=>cB (.tp [11,12]) d A) (λA=>bK Φ xZ A) (aS g) [y,x,w,u,t,some (iS .ow pr),b,a,s,o,j,H,I,m,n]=ok (.nx,[y,x,w,u,t,some (iS .ow (pr++g)),b,a,s,o,j,L,M,m,n])
 |[],pr,z,b,a,_,_=>⟨b,a,by simp[aS,gn]⟩
 |r::g,pr,z,H,I,e,hl=>by
  obtain⟨X,Y,J⟩:=uz Φ P G C K y x w u t b a s o j m n g (pr++[r]) z (some (qD r.1)) (some (.tup (ag r.2))) (by rw[e];simp) hl;rw[List.append_assoc,List.singleton_append]at J;obtain⟨F,Q⟩:=K r.2;have B:dh all r.2=dh pr r.2++dh (r::g++z) r.2:=by rw[e,<- oM];simp
  have O:Sm 156 (wt pr r.2):=by
   have:=Sm.sum (k:=30) (qs:=dh pr r.2) λq T=>F.sm q (by rw[B];exact aaK _ T);refine this.mono ?_;have Z:(dh pr r.2).length<=5:=by rw[B,List.length_append]at Q;left
   left
  have N:Sm 30 r.1:=F.sm r.1 (by
   rw[B];exact aan _ (List.mem_map.mpr ⟨r,List.mem_filter.mpr ⟨by simp,by simp⟩,rfl⟩))
  have V:=kX pr;have U:pr.length<=all.length:=by rw[e,List.length_append,List.length_append];left
  have e1:=λf=>K_ G f (ks:=eW pr) (wt pr) (c:=r.2) λh=>by unfold wt;rw[uj h];rfl
  have e2:=C (wt pr r.2) r.1 (O.mono (by decide)) (N.mono (by decide));have e3:=Ge P (ks:=eW pr) (by left) (wt pr) r.2 (wt pr r.2+r.1);rw[<- qQ,<- BR]at e3;have S:aR bp (iS .ow pr)=iS .al pr:=nW _ _ _ _;have R:D.tup [.int 0,.int 1]=qD 0:=rfl;have W:Φ 1031 [iS .al pr,.tup (ag r.2),qD 0]=ok (qD (wt pr r.2)):=e1 .al;have E:=ox (Φ:=Φ) (p:=1033) (i:=5) (es:=[(.call 202 [(.cS 1031 [(.v 5),(.v 12),(.tup [(.int 0),(.int 1)])]),(.v 11)]),(.v 12)]) (ρ:=[y,x,w,u,t,some (iS .ow pr),b,a,s,o,j,some (qD r.1),some (.tup (ag r.2)),m,n]) (xs:=[qD (wt pr r.2+r.1),.tup (ag r.2)]) (by simp[S,R,W,e2]) (by simp) rfl e3;simp only[List.set]at E;refine⟨X,Y,bZ (ρ1:=[y,x,w,u,t,some (iS .ow pr),b,a,s,o,j,some (qD r.1),some (.tup (ag r.2)),m,n]) (by simp[rD]) (ρ2:=[y,x,w,u,t,some (iS .ow (pr++[r])),b,a,s,o,j,some (qD r.1),some (.tup (ag r.2)),m,n]) ?_ J⟩;rw[xZ,bX,E];rfl
theorem rB(LL:List (af))(a:af)(r:Row):allR LL (a++[r])=allR LL a++kn [(r.1,[])] (bH LL r.2):=by unfold allR;rw[List.flatMap_append];simp
theorem Ff(LL:List (af))(a b:af):allR LL (a++b)=allR LL a++allR LL b:=by unfold allR;rw[List.flatMap_append]
section
variable {n:Nat}{gs:af}{Ds:List Dw}(K:tx n gs Ds)
include K
theorem tx.len:(allR (bj 0 Ds) gs).length<=3125:=by
 have go:∀a:af,(∀r∈a,r∈gs)->(allR (bj 0 Ds) a).length<=625*a.length:=λa=>by
  induction a with
  |nil=>intro _;simp[allR]
  |cons r a c =>
   intro b;have e:=c λx d=>b x (aad _ d);have o:=(K.one r (b r aaf)).2.2;unfold allR at *;rw[List.flatMap_cons,List.length_append,List.length_cons];left
 have:=go gs λ_ h=>h;have:=K.g5;left
theorem tx.VV(l:ae):(dh (allR (bj 0 Ds) gs) l).length<=5:=by
 have go:∀a:af,(∀r∈a,r∈gs)->(dh (allR (bj 0 Ds) a) l).length<=a.length:=λa=>by
  induction a with
  |nil=>intro _;exact aal _
  |cons r a c =>
   intro b;have f:=c λx d=>b x (aad _ d);have:=uk (K.one r (b r aaf)).1 l;have e:allR (bj 0 Ds) (r::a)=kn [(r.1,[])] (bH (bj 0 Ds) r.2)++allR (bj 0 Ds) a:=by unfold allR;rw[List.flatMap_cons]
   rw[e,oM,List.length_append,List.length_cons];left
 have:=go gs λ_ h=>h;have:=K.g5;left
theorem uD(Φ:bh)(P:Bl Φ)(Q:Φ 1031=mV)(N:zK (Φ 202))(O:eQ (Φ 203))(g c:aG):∀(hs a:af) (x D C q m h k o p:aG),gs=a++hs ->
  ∃IZ EV Yv SU N9 W X xI xH,dE (λd E=>cB (.tp [7,8]) d E) (λE=>bK Φ x9 E) (aS hs) [g,some (.lst .fz (aK .fz Ds)),some (.lst .ow (ag (gL Ds (Ds.length+1)))),c,x,some (iS .ow (allR (bj 0 Ds) a)),some (.int ((allR (bj 0 Ds) a).length:Int)),D,C,q,m,h,k,o,p]=ok (.nx,[g,some (.lst .fz (aK .fz Ds)),some (.lst .ow (ag (gL Ds (Ds.length+1)))),c,IZ,some (iS .ow (allR (bj 0 Ds) gs)),some (.int ((allR (bj 0 Ds) gs).length:Int)),EV,Yv,SU,N9,W,X,xI,xH])
 |[],a,x,D,C,q,m,h,k,o,p,e=>⟨x,D,C,q,m,h,k,o,p,by rw[List.append_nil]at e;rw[e];rfl⟩
 |r::hs,a,x,D,C,q,m,h,k,o,p,e=>by
  have u:r∈gs:=by rw[e];simp
  have rl:=K.rl r u;have hlen:=K.len;obtain⟨w,y,L,M,z,B,e1⟩:=uC Φ O (i:=6) (j:=12) (by decide) (Ds:=Ds) (λd hd=>⟨λr u=>⟨(K.dr d hd).1.sm r u,by have:=((K.dr d hd).1.lot r u).len;have:=(K.dr d hd).1.n2;left⟩,by have:=(K.dr d hd).2.1;left⟩) g c (some (iS .ow (allR (bj 0 Ds) a))) (some (.int ((allR (bj 0 Ds) a).length:Int))) (some (qD r.1)) (some (.tup (ag r.2))) r.2 6 0 [(r.1,[])] q m h k o p (K.Ig r u) (λs p6=>by rw[List.mem_singleton.mp p6];exact⟨K.dg.sm r u,aal _⟩) (by left) (by left) (K.oc r u);have ea:allR (bj 0 Ds) gs=allR (bj 0 Ds) a++kn [(r.1,[])] (bH (bj 0 Ds) r.2)++allR (bj 0 Ds) hs:=by
   rw[e,show a++r::hs=a++[r]++hs by simp,Ff,rB]
  obtain⟨S,T,e2⟩:=uz Φ P Q N (all:=allR (bj 0 Ds) gs) (λl=>⟨K.Zd l,K.VV l⟩) g (some (.lst .fz (aK .fz Ds))) (some (.lst .ow (ag (gL Ds (Ds.length+1))))) c (some (.lst .fz (aS (kn [(r.1,[])] (bH (bj 0 Ds) r.2))))) (some (.int ((allR (bj 0 Ds) a).length+(kn [(r.1,[])] (bH (bj 0 Ds) r.2)).length:Int))) (some (qD r.1)) (some (.tup (ag r.2))) w y z B (kn [(r.1,[])] (bH (bj 0 Ds) r.2)) (allR (bj 0 Ds) a) (allR (bj 0 Ds) hs) L M ea (by left);obtain⟨k4,k7,k8,k9,J,I,H,G,F,R⟩:=uD Φ P Q N O g c hs (a++[r]) (some (.lst .fz (aS (kn [(r.1,[])] (bH (bj 0 Ds) r.2))))) (some (qD r.1)) (some (.tup (ag r.2))) w y S T z B (by rw[e];simp);rw[rB,List.length_append,Int.natCast_add]at R;generalize hZ:kn [(r.1,[])] (bH (bj 0 Ds) r.2)=Z at *;generalize hA:allR (bj 0 Ds) a=A at *;refine⟨k4,k7,k8,k9,J,I,H,G,F,bZ (ρ1:=[g,some (.lst .fz (aK .fz Ds)),some (.lst .ow (ag (gL Ds (Ds.length+1)))),c,x,some (iS .ow A),some (.int (A.length:Int)),some (qD r.1),some (.tup (ag r.2)),q,m,h,k,o,p]) (by simp[rD]) (ρ2:=[g,some (.lst .fz (aK .fz Ds)),some (.lst .ow (ag (gL Ds (Ds.length+1)))),c,some (.lst .fz (aS Z)),some (iS .ow (A++Z)),some (.int ((A.length:Int)+(Z.length:Int))),some (qD r.1),some (.tup (ag r.2)),w,y,S,T,z,B]) ?_ R⟩;have DT:bQ Φ (.seq (.v 8)) [g,some (.lst .fz (aK .fz Ds)),some (.lst .ow (ag (gL Ds (Ds.length+1)))),c,some (.lst .ow (aS [(r.1,[])])),some (iS .ow A),some (.int (A.length:Int)),some (qD r.1),some (.tup (ag r.2)),q,m,h,k,o,p]=ok (ag r.2,[g,some (.lst .fz (aK .fz Ds)),some (.lst .ow (ag (gL Ds (Ds.length+1)))),c,some (.lst .ow (aS [(r.1,[])])),some (iS .ow A),some (.int (A.length:Int)),some (qD r.1),some (.tup (ag r.2)),q,m,h,k,o,p]):=by
   rw[Ra (ds:=ag r.2) (by simp)];simp
  have U:=cX (Φ:=Φ) (t:=.nm 9) (b:=x8) DT e1;have DS:bQ Φ (.seq (.v 4)) [g,some (.lst .fz (aK .fz Ds)),some (.lst .ow (ag (gL Ds (Ds.length+1)))),c,some (.lst .ow (aS Z)),some (iS .ow A),some (.int ((A.length:Int)+(Z.length:Int))),some (qD r.1),some (.tup (ag r.2)),w,y,L,M,z,B]=ok (aS Z,[g,some (.lst .fz (aK .fz Ds)),some (.lst .ow (ag (gL Ds (Ds.length+1)))),c,some (.lst .fz (aS Z)),some (iS .ow A),some (.int ((A.length:Int)+(Z.length:Int))),some (qD r.1),some (.tup (ag r.2)),w,y,L,M,z,B]):=by
   rw[jR (f:=.al) (ds:=aS Z) (by simp)];simp[lr,Ea]
  have OL:=cX (Φ:=Φ) (t:=.tp [11,12]) (b:=xZ) DS e2;have e0:aS [(r.1,[])]=[.tup [qD r.1,.tup []]]:=rfl;rw[e0]at U;have V:(aS Z).length=Z.length:=fx Z;have mz:aA bp (aS Z)=aS Z:=cE _ _;generalize iS .ow (A++Z)=T2 at *;generalize iS .ow A=T1 at *;generalize aS Z=ZZ at *;generalize aK .fz Ds=Y at *;generalize ag (gL Ds (Ds.length+1))=SS at *;simp[x9,U,OL,V,mz]
end
def Th(m:aE):Prop:=∀n gs a,tx n gs a->m [cD n gs,.lst .fz (aK .fz a)]=ok (.tup [.int (kj a gs),.tup [.int (bS a),.lst .ow (aS (gM (allR (bj 0 a) gs)))]])
theorem VA(Φ:bh)(P:Bl Φ)(x:Φ 1031=mV)(o:zK (Φ 202))(q:eQ (Φ 203)):Th (mk Φ 2 15 Jc):=by
 intro n gs a K;have M:=K.nD;have T:=K.n4;have hlen:=K.len;rw[lE K.Ig];have h:ag (gL a (([]:List Dw).length+1))=[.int 0]:=by
  show ag ((List.range 1).map λj=>bS (a.take j))=_;simp[bS]
 obtain⟨e,g,d⟩:=uE Φ (Ds:=a) (some (cD n gs)) (some (.lst .fz (aK .fz a))) none none none none none none none none none none a [] none none rfl (by left);rw[h]at d;obtain⟨F,S,R,Q,W,Z,IJ,II,IH,c⟩:=uD K Φ P x o q (some (cD n gs)) e gs [] g none none none none none none none none rfl;have a0:allR (bj 0 a) []=[]:=rfl;rw[a0]at c;have I:bQ Φ (.seq (.v 1)) [some (cD n gs),some (.lst .fz (aK .fz a)),some (.lst .ow [.int 0]),none,none,none,none,none,none,none,none,none,none,none,none]=ok (aK .fz a,[some (cD n gs),some (.lst .fz (aK .fz a)),some (.lst .ow [.int 0]),none,none,none,none,none,none,none,none,none,none,none,none]):=by
  rw[jR (f:=.fz) (ds:=aK .fz a) (by simp[aT]),aT,fF (by rfl)];rfl
 have H:=cX (Φ:=Φ) (t:=.tp [3,4]) (b:=x_) I d;have L:bz Φ (.ix (.v 0) (.int 1)) [some (cD n gs),some (.lst .fz (aK .fz a)),some (.lst .ow (ag (gL a (a.length+1)))),e,g,some (iS .ow []),some (.int (([]:af).length:Int)),none,none,none,none,none,none,none,none]=ok (.lst .fz (aS gs)):=by
  rw[show cD n gs=.tup [.int n,.lst .fz (aS gs)] from rfl];simp
 have J:bQ Φ (.seq (.ix (.v 0) (.int 1))) [some (cD n gs),some (.lst .fz (aK .fz a)),some (.lst .ow (ag (gL a (a.length+1)))),e,g,some (iS .ow []),some (.int (([]:af).length:Int)),none,none,none,none,none,none,none,none]=ok (aS gs,[some (cD n gs),some (.lst .fz (aK .fz a)),some (.lst .ow (ag (gL a (a.length+1)))),e,g,some (iS .ow []),some (.int (([]:af).length:Int)),none,none,none,none,none,none,none,none]):=by
  rw[jR L];simp
 have m:=cX (Φ:=Φ) (t:=.tp [7,8]) (b:=x9) J c;generalize O:allR (bj 0 a) gs=A at *;have e0:Φ 1030 []=ok (iS .ow []):=by rw[P.D5];rfl
 have p:aV bW (iS .ow [])=false:=HY _ _ _ _;have k:(bx (eW A)).Perm (eW A):=aaV _ _;have N:=kX A;have C:∀r,bz Φ NO (some (cD n gs)::some (.lst .fz (aK .fz a))::some (.lst .ow (ag (gL a (a.length+1))))::e::F::some (iS .ow A)::r)=ok (.lst .ow (aS (gM A))):=λr=>by
  unfold NO;rw[cH (xs:=[.lst .ow ((bx (eW A)).map eI)]) (items:=(bx (eW A)).map eI) (ds:=aS (gM A)) ?_ (by rw[dt,gg]) ?_ (by
   rw[fx];unfold gM;rw[List.length_map];exact cf (by have:=k.length_eq;left))]
  ·rw[cE]
  ·have t1:∀f,Φ 1035 [iS f A]=ok (.lst .ow ((bx (eW A)).map eI)):=λf=>BB P f _ (by left);have i:aR bp (iS .ow A)=iS .al A:=nW _ _ _ _;generalize iS .ow A=TT at *;simp[i,t1]
  ·unfold aS gM;rw[List.map_map];refine bP λl z=>?_;have y:l∈eW A:=k.mem_iff.mp z;have B:Φ 1032 [iS .fz A,.tup (ag l)]=ok (qD (wt A l)):=PJ P .fz (wt A) y;have i:aR bp (eI l)=.tup (ag l):=by show D.tup (aA bp (l.map D.int))=_;rw[iw];rfl
   have w:aR aZ (iS .ow A)=iS .fz A:=nW _ _ _ _;have u:aR bp (iS .fz A)=iS .fz A:=nW _ _ _ _;refine⟨[some (eI l),some (iS .fz A)],by simp[bD,w],by simp,?_⟩;simp[i,u,B];rfl
 have E:p9 (ag (gL a (a.length+1))) (-1)=ok (.int (bS a)):=by
  rw[oG,vB,List.take_length]
 have s:aA bp (ag (gL a (a.length+1)))=ag (gL a (a.length+1)):=dS _ _;simp only[List.length_nil,Int.natCast_zero]at m;generalize gM A=G at *;generalize iS .ow A=TA at *;generalize iS .ow []=U at *;generalize ag (gL a (a.length+1))=V at *;generalize aK .fz a=X at *;generalize cD n gs=Y at *;simp[mk_eq,Jc,H,e0,p,m,s,E,C]
def zM(m:aE):Prop:=∀a,FG a->m a=some (.error 10)
theorem Qn(Φ:bh)(g:Fm (Φ 99)):zM (mk Φ 2 2 tq):=by
 rintro j ⟨n,gs,a,K,e,rfl⟩;have h:=K.nD;have k:=K.n4;have i:=K.g5;have l:=K.TR;have e1:=sZ Φ (Ds:=a) (by left) .fz (some (cD n gs)) [];have e2:=xD Φ g (n:=n) (gs:=gs) (Ds:=a) (by left) (λd hd=>by have:=(K.dr d hd).2.1;left) K.Ig;have c:oi .gy [.lst .ow (ag (a.map λd=>(d.1:Int)))]=ok (.int (bS a)):=pE _ _;have b:oi .gy [.lst .ow (ag (gs.map λr=>mw a 1 r.2))]=ok (.int (kj a gs)):=pE _ _;have f:¬ (12:Int)<bS a:=by left
 generalize cD n gs=Y at *;generalize aK .fz a=X at *;simp[mk_eq,tq,e1,c,f,e2,b,e]
theorem Qj(Φ:bh)(j:dO (Φ 17))(i:Fi (Φ 97))(h:zM (Φ 98)):zM (mk Φ 2 2 nE):=by
 rintro k ⟨n,gs,a,K,f,rfl⟩;obtain⟨d,c,g,e⟩:=wa Φ j i K;have e3:=h _ ⟨n,gs,a,K,f,rfl⟩;generalize aK .fz a=X at *;generalize cD n gs=Y at *;rw[mk_eq (show[Y,D.lst .fz X].length=2 from rfl)];show pI (bK Φ nE [some Y,some (.lst .fz X)])=_;rw[nE,bX,d,dG,bX,c,dG,bX];have b:mq Φ (.ex (.call 98 [(.v 0),(.v 1)])) [some Y,some (.lst .fz X)]=some (.error 10):=by
  show bd (bd (b0 Φ [(.v 0),(.v 1)] _) _) _=_;rw[g,cQ,e,e3];rfl
 rw[b];rfl
open Classical in
noncomputable def qK(m:aE)(a:aa->Prop)(ds:aa):O D:=if ds.length=2 then(if a (aA aZ (ds.map (aR bp)))/\m (aA aZ (ds.map (aR bp)))=some (.error 10)then ok (.bl true)else bd (m (aA aZ (ds.map (aR bp)))) λ_=>ok (.bl false))else none
noncomputable def ce2:aH:=[(.v 0),(.v 1)]
theorem B9(Φ:bh){m:aE}{f:aa->Prop}(ds:aa)(r:D)(h:qK m f ds=ok r):ds.length=2/\∃d,b0 Φ ce2 ((ds.map some++[none,none]).set 2 (some .cF))=ok d/\d.length=2/\((r=.bl false/\∃e,m (aA aZ d)=ok e)\/(r=.bl true/\f (aA aZ d))):=by
 unfold qK at h;by_cases c:ds.length=2
 ·rw[if_pos c]at h;refine⟨c,ds.map (aR bp),?_,by rw[List.length_map,c],?_⟩
  ·obtain⟨a,b,rfl⟩:=HB c;rfl
  ·by_cases g:f (aA aZ (ds.map (aR bp)))/\m (aA aZ (ds.map (aR bp)))=some (.error 10)
   ·rw[if_pos g,wK]at h;exact .inr ⟨h.symm,g.1⟩
   ·rw[if_neg g]at h;obtain⟨e,e1,e2⟩:=aJ h;rw[wK]at e2;exact .inl ⟨e2.symm,e,e1⟩
 ·rw[if_neg c]at h;cases h
def zL(m:aE):Prop:=∀n gs a,tx n gs a->m [cD n gs,.lst .fz (aK .fz a)]=ok (.bl (decide (500<kj a gs)))
theorem GG{m:aE}(h:Oc m)(h':zM m):zL (qK m FG):=by
 intro n gs a K;unfold qK;rw[if_pos (show[cD n gs,.lst .fz (aK .fz a)].length=2 from rfl)];have e:aA aZ ([cD n gs,.lst .fz (aK .fz a)].map (aR bp))=[cD n gs,.lst .fz (aK .fz a)]:=by
  have f:aR bp (cD n gs)=cD n gs:=by simp[cD]
  have d:aR aZ (cD n gs)=cD n gs:=by simp[cD]
  have c:aA bp (aK .fz a)=aK .fz a:=by rw[aT];rfl
  have g:aA aZ (aK .fz a)=aK .fz a:=by rw[aT];rfl
  generalize aK .fz a=X at *;generalize cD n gs=Y at *;simp[f,d,c,g]
 rw[e];by_cases b:500<kj a gs
 ·have e2:FG [cD n gs,.lst .fz (aK .fz a)]:=⟨n,gs,a,K,b,rfl⟩
  rw[decide_eq_true b];exact aa2 ⟨e2,h' _ e2⟩
 ·have e1:=h n gs a K (by left);rw[if_neg (λz=>by rw[e1]at z;cases z.2),e1,decide_eq_false b];rfl
theorem xP(Φ:bh):∀(a b:aj) (ρ c:bo),bK Φ a ρ=ok (.nx,c)->bK Φ (a++b) ρ=bK Φ b c
 |[],b,ρ,c,h=>by
  rw[Pg,wK,Prod.mk.injEq]at h;rw[h.2];rfl
 |s::a,b,ρ,c,h=>by
  rw[bX]at h;rw[List.cons_append,bX];obtain⟨⟨f,e⟩,e1,e2⟩:=aJ h;rw[e1];cases f with
  |nx=>exact xP Φ a b e c e2
  |rt d=>cases e2
noncomputable def zh:CE:=.comp 1 (.nm 0) [0,2] .lY [(.ix (.v 3) (.int 0))] [] (.call 212 [(.call 200 [(.v 1),(.bin .add (.bin .add (.v 2) (.int 1)) (.v 0))]),(.int 3)])
def tS:aj:=[.asg (.nm 3) (.call 212 [(.call 200 [(.v 0),(.v 2)]),(.int 4)]),.app 1 (.tup [(.v 3),zh])]
noncomputable def Er:CE:=.comp 1 (.nm 0) [] .seq [(.ix (.ix (.v 1) (.v 4)) (.int 1))] [] (.call 215 [(.v 0)])
noncomputable def oF:aj:=[.asg (.nm 9) (.call 104 [(.ix (.v 5) (.int 0)),(.ix (.v 5) (.int 1))]),.ifs (.or [(.not (.call 219 [(.v 9),(.v 7)])),(.cmp .ne (.v 5) (.lst [(.ix (.ix (.v 1) (.v 4)) (.int 0)),(.ix (.ix (.v 1) (.v 4)) (.int 1))]))]) [.ret (.bl false)] [],.mut 1014 9 [(.int 1)]]
noncomputable def pJ:CE:=.bin .mul (.int 2) (.bf .uM [(.cmp .le (.v 6) (.int 500))])
def kK:aj:=[.asg (.nm 5) (.lst [(.call 215 [(.ix (.ix (.v 1) (.v 4)) (.int 0))]),Er]),.unp [6,7] (.call 251 [(.ix (.ix (.v 1) (.v 4)) (.int 0)),(.ix (.ix (.v 1) (.v 4)) (.int 1))]),.ifs (.cmp .ne (.call 211 [(.ix (.v 5) (.int 0)),(.ix (.v 5) (.int 1))]) (.cmp .gt (.v 6) (.int 500))) [.ret (.bl false)] [],.fr (.nm 8) (.lY pJ) oF]
def oj:aj:=[.asg (.nm 1) (.lst []),.fr (.nm 2) (.seq (.lst [(.int 0),(.int 5)])) tS,.fr (.nm 4) (.seq (.lst [(.int 0),(.int 1),(.int 0)])) kK,.ret (.bl true)]
structure FI(Φ:bh):Prop where
 XJ:Oc (Φ 104)
 R9:Fj (Φ 200)
 XG:zL (Φ 211)
 R8:Tj (Φ 212)
 R7:KI (Φ 215)
 XF:Ti (Φ 219)
 XE:Th (Φ 251)
 ON:Φ 1014=IT
def aD(d:Dw)(Ds:List Dw):D:=.tup [ck .fz d,.lst .fz (aK .fz Ds)]
theorem Di(Φ:bh)(Q:FI Φ)(ns:ae){a:Int}(e:0<=a):∀(k j:Nat),∃c:List Dw,c.length=k/\(∀d∈c,Dr 6 d.1 d.2/\d.2.length<=5/\1<=d.2.length/\d.1<=3)/\∀i (d:Dw),c[i]?=some d->Φ 212 [.int (pR ns (a+1+((j+i:Nat):Int))),.int 3]=ok (ck .ow d)
 |0,j=>⟨[],rfl,(λ_ h=>nomatch h),λi d h=>by simp at h⟩
 |k+1,j=>by
  obtain⟨c,l,g,f⟩:=Di Φ Q ns e k (j+1);obtain⟨d,e2,p,o,n,m⟩:=Q.R8 (pR ns (a+1+(j:Int))) 3 (by decide) (by decide);refine⟨d::c,by simp[l],λx b=>?_,λi x b=>?_⟩
  ·rcases List.mem_cons.mp b with rfl|b
   ·exact⟨p,o,n,m⟩
   ·exact g x b
  ·cases i with
   |zero=>cases b;exact e2
   |succ i=>have:=f i x b;rw[show j+1+i=j+(i+1) by left]at this;exact this
noncomputable def Mg:bo:=[none,none,none,none,none,none]
theorem xW(Φ:bh)(Q:FI Φ)(ns:ae){a:Int}(g:0<=a)(xs:aa)(F:xs.length<1000)(D:aG):∃(n:Nat) (gs:af) (Ds:List Dw) (k:aG),tx n gs Ds/\bK Φ tS (some (.lst .sc (ag ns))::some (.lst .ow xs)::some (.int a)::D::Mg)=ok (.nx,some (.lst .sc (ag ns))::some (.lst .ow (xs++[aD (n,gs) Ds]))::some (.int a)::k::Mg):=by
 have e1:=Q.R9 ns a g;obtain⟨d,e2,z,y,H,j⟩:=Q.R8 (pR ns a) 4 (by decide) (by decide);have E:Φ 212 [.int (pR ns a),.int 4]=ok (ck .ow d):=e2;obtain⟨Ds,e,u,t⟩:=Di Φ Q ns g d.1 0;have w:xs.length<dz:=by show _<1000000;left
 have e3:bz Φ zh (some (.lst .sc (ag ns))::some (.lst .ow xs)::some (.int a)::some (ck .ow d)::Mg)=ok (.lst .ow (aK .ow Ds)):=by
  unfold zh;have f:vQ (ck .al d) (.int 0)=ok (.int d.1):=by rw[show ck .al d=.tup [.int d.1,.lst .al (aS d.2)] from rfl];simp
  have c:aR bp (ck .ow d)=ck .al d:=bU _ _ _;have C:aK .ow Ds=(List.range d.1).map λi=>ck .ow (Ds.getD i (0,[])):=by
   apply abE
   ·rw[lC,List.length_map,List.length_range,e]
   ·intro i h G;have b:i<Ds.length:=by rw[lC]at h;exact h
    simp[aK,b]
  rw[cH (xs:=[.int d.1]) (ds:=aK .ow Ds) (by simp[c,f]) (yN Φ (Int.natCast_nonneg _) (Int.le_trans (Int.ofNat_le.mpr j) (by decide))) ?_ (by rw[lC];exact cf (by left))]
  ·rw[aT];rfl
  ·rw[C];simp only[Int.toNat_natCast];refine bP λi b=>?_;have b:i<Ds.length:=by rw[e];exact List.mem_range.mp b
   have e4:=t i _ (aaH b);rw[Nat.zero_add]at e4;have e5:=Q.R9 ns (a+1+i) (by left);have B:Ds.getD i (0,[])=Ds[i]:=by simp[b]
   rw[B];have q:aR gU (ck .ow Ds[i])=ck .ow Ds[i]:=bU _ _ _;generalize Ds[i]=x at *;refine⟨[some (.int i),some (.lst .sc (ag ns)),some (.int a)],by simp[bD],by simp,?_⟩;simp[e5,e4,q]
 refine⟨d.1,d.2,Ds,some (ck .fz d),⟨e,j,z,y,u⟩,?_⟩;have s:aR gU (ck .ow d)=ck .ow d:=bU _ _ _;have c:aR bp (ck .ow d)=ck .al d:=bU _ _ _;have r:aR aZ (ck .ow d)=ck .fz d:=bU _ _ _;have o:aR aZ (ck .al d)=ck .fz d:=bU _ _ _;have m:aA aZ (aK .ow Ds)=aK .fz Ds:=by rw[aT];rfl
 have l:aA aZ (ag ns)=ag ns:=dS _ _;have A:iX (.tup [.v 3,zh])=[3,0,2,3]:=rfl;have a1:aV bW (ck .ow d)=false:=nY _ _ _;have a2:aV bW (ck .al d)=true:=nY _ _ _;have a3:aP bW (aK .ow Ds)=false:=fF (by rfl) _;have p:aA gU (aK .ow Ds)=aK .ow Ds:=by rw[aT];rfl
 have e6:aD (d.1,d.2) Ds=.tup [ck .fz d,.lst .fz (aK .fz Ds)]:=rfl;rw[e6];generalize aK .ow Ds=X at *;generalize aK .fz Ds=K at *;generalize ck .ow d=Y at *;generalize ck .al d=J at *;generalize ck .fz d=I at *;unfold Mg at *;simp[tS,e1,E,s,c,r,a1,a2,a3,p,o,m,l,e3,w,A,Mg,lr]
theorem Yu(d:Dw)(f g:Fl)(b a:Fl)(k j:Fl)(Ds:List Dw):iD .ne (.lst k [ck f d,.lst b (aK f Ds)]) (.lst j [ck g d,.lst a (aK a Ds)])=ok (.bl false):=by
 have i:∀f,eU 39 (ck f d)=true:=λf=>by
  show eU 39 (.tup [.int d.1,.lst f (aS d.2)])=true;have:(aS d.2).all (eU 37)=true:=jF (λr=>CN 35 r) d.2;simp[this]
 have e:∀f g,eU 39 (.lst f (aK g Ds))=true:=λf g=>by
  rw[yC];refine jF (λd=>?_) Ds;show eU 38 (.tup [.int d.1,.lst g (aS d.2)])=true;have:(aS d.2).all (eU 36)=true:=jF (λr=>CN 34 r) d.2;simp[this]
 have c:∀h f b a,eU 40 (.lst h [ck f d,.lst b (aK a Ds)])=true:=λh f b a=>by
  rw[yC];simp[i,e]
 have q1:nu (ck f d) (ck g d)=true:=by
  have:=xi f g [d];simpa [aK,cU]using this
 rw[N8 (c _ _ _ _) (c _ _ _ _),lA,cU,cU,lA,xi,q1];simp
theorem rJ(Φ:bh)(Q:FI Φ)(g f e:aG){c:D}{k:Int}{n:Nat}{Ds:List Dw}(K:tx n gs Ds)(y:vQ (aR bp c) (.int k)=ok (.tup [ck .fz (n,gs),.lst .fz (aK .fz Ds)]))(o x w a j:aG):∃A1 IY EV Yv SU,bK Φ kK [g,some c,f,e,some (.int k),o,x,w,a,j]=ok (.nx,[g,some c,f,e,some (.int k),A1,IY,EV,Yv,SU]):=by
 have l4:=K.n4;have hn:=K.nD;have e1:∀r,bz Φ Er (g::some c::f::e::some (.int k)::r)=ok (.lst .ow (aK .ow Ds)):=λr=>by
  unfold Er;rw[cH (xs:=[.lst .fz (aK .fz Ds)]) (items:=aK .fz Ds) (ds:=aK .ow Ds) ?_ (by rw[dt,aT];rfl) (bP λd hd=>⟨[some (ck .fz d)],by simp[bD],by simp,?_⟩) (by rw[lC];exact cf (by left))]
  ·rw[aT];rfl
  ·have P:aA bp (aK .fz Ds)=aK .fz Ds:=by rw[aT];rfl
   generalize aK .fz Ds=Y at *;generalize ck .fz (n,gs)=Z at *;simp[y,P]
  ·have u:aR bp (ck .fz d)=ck .fz d:=bU _ _ _;have s:aR aZ (ck .fz d)=ck .fz d:=bU _ _ _;have q:aR gU (ck .ow d)=ck .ow d:=bU _ _ _;simp[u,s,q,Q.R7 d]
 have e2:=Q.XE n gs Ds K;have e3:=Q.XG n gs Ds K;have e5:=Q.R7 (n,gs);have H:cD n gs=ck .fz (n,gs):=rfl;rw[H]at e2 e3;have al:aP bW (aK .ow Ds)=false:=fF (by rfl) _;have O:aA gU (aK .ow Ds)=aK .ow Ds:=by rw[aT];rfl
 have u:aA bp (aK .ow Ds)=aK .al Ds:=by rw[aT];rfl
 have s:aA aZ (aK .al Ds)=aK .fz Ds:=by rw[aT];rfl
 have q:aA bp (aK .al Ds)=aK .al Ds:=by rw[aT];rfl
 have G:aA bp (aK .fz Ds)=aK .fz Ds:=by rw[aT];rfl
 have F:aA aZ (aK .fz Ds)=aK .fz Ds:=by rw[aT];rfl
 have M:aR bp (ck .ow (n,gs))=ck .al (n,gs):=bU _ _ _;have L:aR aZ (ck .al (n,gs))=ck .fz (n,gs):=bU _ _ _;have J:aR bp (ck .al (n,gs))=ck .al (n,gs):=bU _ _ _;have I:aR bp (ck .fz (n,gs))=ck .fz (n,gs):=bU _ _ _;have d5:aR aZ (ck .fz (n,gs))=ck .fz (n,gs):=bU _ _ _;have d6:aR gU (ck .ow (n,gs))=ck .ow (n,gs):=bU _ _ _;have d7:aV bW (ck .ow (n,gs))=false:=nY _ _ _;have ne:=λh1 h2=>Yu (n,gs) .al .fz .al .fz h1 h2 Ds;have Xg:0<=kj Ds gs:=by rw[lE K.Ig];exact Int.natCast_nonneg _
 have e4:=Q.XJ n gs Ds K;rw[H]at e4;have e6:=Q.XF (bS Ds) (gM (allR (bj 0 Ds) gs));generalize hR:aS (gM (allR (bj 0 Ds) gs))=R at *;have r1:aA gU R=R:=by rw[<- hR];exact cE _ _
 have E:aA bp R=R:=by rw[<- hR];exact cE _ _
 have B:aA aZ R=R:=by rw[<- hR];exact cE _ _
 have A:aP bW R=false:=by rw[<- hR];exact gR _ _
 have z:=λo a=>ox (Φ:=Φ) (p:=1014) (i:=9) (es:=[(.int 1)]) (ρ:=[g,some c,f,e,some (.int k),o,some (.int (kj Ds gs)),some (.tup [.int (bS Ds),.lst .ow R]),a,some (.tup [.int (bS Ds),.lst .ow R])]) (xs:=[.int 1]) (d':=.tup [.int (bS Ds),.lst .ow []]) rfl rfl rfl (by rw[Q.ON];rfl);simp only[List.set]at z;generalize kj Ds gs=C at *;generalize bS Ds=h at *;generalize hX:aK .ow Ds=X at *;generalize hY:aK .al Ds=Y at *;generalize aK .fz Ds=Z at *;generalize ck .ow (n,gs)=U at *;generalize ck .al (n,gs)=V at *;generalize ck .fz (n,gs)=W at *;have cb:∀b,iD .ne (.bl b) (.bl b)=ok (.bl false):=λb=>by cases b<;>rfl
 have S:oi .uM [.bl true]=ok (.int 1):=rfl;have T:oi .uM [.bl false]=ok (.int 0):=rfl;have turn:C<=500->∀a j,bK Φ oF [g,some c,f,e,some (.int k),some (.lst .ow [U,.lst .ow X]),some (.int C),some (.tup [.int h,.lst .ow R]),a,j]=ok (.nx,[g,some c,f,e,some (.int k),some (.lst .ow [U,.lst .ow X]),some (.int C),some (.tup [.int h,.lst .ow R]),a,some (.tup [.int h,.lst .ow []])]):=λm a j=>by
  have e4:=e4 m;simp[oF,y,M,L,J,I,u,s,q,G,F,e4,r1,E,B,A,e6,ne,z]
 have N:bK Φ (kK.take 3) [g,some c,f,e,some (.int k),o,x,w,a,j]=ok (.nx,[g,some c,f,e,some (.int k),some (.lst .ow [U,.lst .ow X]),some (.int C),some (.tup [.int h,.lst .ow R]),a,j]):=by
  simp[kK,y,e1,al,O,u,s,q,G,F,M,L,J,I,d5,d6,d7,e2,e3,e5,r1,E,B,A,Py,F9,cb]
 have hp:bK Φ kK [g,some c,f,e,some (.int k),o,x,w,a,j]=bK Φ (kK.drop 3) [g,some c,f,e,some (.int k),some (.lst .ow [U,.lst .ow X]),some (.int C),some (.tup [.int h,.lst .ow R]),a,j]:=xP Φ (kK.take 3) (kK.drop 3) _ _ N;rw[hp];by_cases m:C<=500
 ·have l:bQ Φ (.lY pJ) [g,some c,f,e,some (.int k),some (.lst .ow [U,.lst .ow X]),some (.int C),some (.tup [.int h,.lst .ow R]),a,j]=ok ([.int 0,.int 1],[g,some c,f,e,some (.int k),some (.lst .ow [U,.lst .ow X]),some (.int C),some (.tup [.int h,.lst .ow R]),a,j]):=by
   rw[Mw (n:=2) (by simp[pJ,m,S]) (by left) (by left)];rfl
  have v:=cX (Φ:=Φ) (t:=.nm 8) (b:=oF) l (r:=ok (.nx,[g,some c,f,e,some (.int k),some (.lst .ow [U,.lst .ow X]),some (.int C),some (.tup [.int h,.lst .ow R]),some (.int 1),some (.tup [.int h,.lst .ow []])])) (bZ rfl (turn m _ _) (bZ rfl (turn m _ _) rfl));refine⟨some (.lst .ow [U,.lst .ow X]),some (.int C),some (.tup [.int h,.lst .ow R]),some (.int 1),some (.tup [.int h,.lst .ow []]),?_⟩;show bK Φ [.fr (.nm 8) (.lY pJ) oF] _=_;rw[bX,v];rfl
 ·have l:bQ Φ (.lY pJ) [g,some c,f,e,some (.int k),some (.lst .ow [U,.lst .ow X]),some (.int C),some (.tup [.int h,.lst .ow R]),a,j]=ok ([],[g,some c,f,e,some (.int k),some (.lst .ow [U,.lst .ow X]),some (.int C),some (.tup [.int h,.lst .ow R]),a,j]):=by
   rw[Mw (n:=0) (by simp[pJ,m,T]) (by left) (by left)];rfl
  have v:=cX (Φ:=Φ) (t:=.nm 8) (b:=oF) l (gn ..);refine⟨some (.lst .ow [U,.lst .ow X]),some (.int C),some (.tup [.int h,.lst .ow R]),a,j,?_⟩;show bK Φ [.fr (.nm 8) (.lY pJ) oF] _=_;rw[bX,v];rfl
theorem Q3(Φ:bh)(Q:FI Φ)(ns:ae):mk Φ 1 10 oj [.lst .sc (ag ns)]=ok (.bl true):=by
 obtain⟨c,d,A,o,p,m⟩:=xW Φ Q ns (a:=0) (by decide) [] (by decide) none;obtain⟨h,i,B,e,I,j⟩:=xW Φ Q ns (a:=5) (by decide) [aD (c,d) A] (by simp) o;have k:∀(n:Nat) (g:af) (A:List Dw),aR bp (aR bp (aD (n,g) A))=.tup [ck .fz (n,g),.lst .fz (aK .fz A)]:=λn g A=>by
  show D.tup [aR bp (aR bp (ck .fz (n,g))),.lst .fz (aA bp (aA bp (aK .fz A)))]=_;rw[bU,bU,aT,aT];rfl
 have l:vQ (aR bp (.lst .ow [aD (c,d) A,aD (h,i) B])) (.int 0)=ok (.tup [ck .fz (c,d),.lst .fz (aK .fz A)]):=by
  show p9 (aA bp [aD (c,d) A,aD (h,i) B]) 0=_;rw[fJ,Yz,k]
 have q:vQ (aR bp (.lst .ow [aD (c,d) A,aD (h,i) B])) (.int 1)=ok (.tup [ck .fz (h,i),.lst .fz (aK .fz B)]):=by
  show p9 (aA bp [aD (c,d) A,aD (h,i) B]) 1=_;rw[fJ,fJ,Yy,k]
 rw[List.nil_append]at m;have j:bK Φ tS (some (.lst .sc (ag ns))::some (.lst .ow [aD (c,d) A])::some (.int 5)::o::Mg)=ok (.nx,some (.lst .sc (ag ns))::some (.lst .ow [aD (c,d) A,aD (h,i) B])::some (.int 5)::e::Mg):=j;generalize aD (c,d) A=X at *;generalize aD (h,i) B=Y at *;obtain⟨a5,a6,a7,a8,a9,t1⟩:=rJ Φ Q (some (.lst .sc (ag ns))) (some (.int 5)) e p l none none none none none;obtain⟨F,E,C,z,y,t2⟩:=rJ Φ Q (some (.lst .sc (ag ns))) (some (.int 5)) e I q a5 a6 a7 a8 a9;obtain⟨x,w,v,u,s,t3⟩:=rJ Φ Q (some (.lst .sc (ag ns))) (some (.int 5)) e p l F E C z y;have J:bQ Φ (.seq (.lst [(.int 0),(.int 5)])) [some (.lst .sc (ag ns)),some (.lst .ow []),none,none,none,none,none,none,none,none]=ok ([.int 0,.int 5],[some (.lst .sc (ag ns)),some (.lst .ow []),none,none,none,none,none,none,none,none]):=by
  rw[jR (f:=.ow) (ds:=[.int 0,.int 5]) (by simp)];simp
 have G:=cX (Φ:=Φ) (t:=.nm 2) (b:=tS) J (r:=ok (.nx,[some (.lst .sc (ag ns)),some (.lst .ow [X,Y]),some (.int 5),e,none,none,none,none,none,none])) (bZ rfl m (bZ rfl j rfl));have K:bQ Φ (.seq (.lst [(.int 0),(.int 1),(.int 0)])) [some (.lst .sc (ag ns)),some (.lst .ow [X,Y]),some (.int 5),e,none,none,none,none,none,none]=ok ([.int 0,.int 1,.int 0],[some (.lst .sc (ag ns)),some (.lst .ow [X,Y]),some (.int 5),e,none,none,none,none,none,none]):=by
  rw[jR (f:=.ow) (ds:=[.int 0,.int 1,.int 0]) (by simp)];simp
 have H:=cX (Φ:=Φ) (t:=.nm 4) (b:=kK) K (r:=ok (.nx,[some (.lst .sc (ag ns)),some (.lst .ow [X,Y]),some (.int 5),e,some (.int 0),x,w,v,u,s])) (bZ (by simp) t1 (bZ (by simp) t2 (bZ (by simp) t3 rfl)));simp[mk_eq,oj,G,H]
end DI
end
section
namespace DI
open PySem PySem.Spec PyProof.Rows L2
structure vM(P:aC)(w:World)(K:av)(mg:aU)(base:Heap)(k:Nat)(C:Addr)(y:Str)(mr:aa->Prop):Prop where
 ex:∃(f:Addr) (fd:FuncData) (ps:ak),dq P w K mg base (qy P w C) k f fd ps (Lx K C ps.length mr)/\mg y=some (.ref f)/\PySem.W.keepIn K (.ref f)=true/\Binds K fd ps []/\∀ds,mr ds->ds.length=ps.length
variable {C:Addr}{K:av}{P:aC}{base:Heap}{k':Nat}{mg:Str->Option Value}{w:World}
theorem vM.up{k:Nat}{y:Str}{a:aa->Prop}(h:vM P w K mg base k C y a)(c:k<=k'):vM P w K mg base k' C y a:=by
 obtain⟨f,g,b,e,d⟩:=h.ex;exact⟨f,g,b,e.mono c,d⟩
theorem vM.u{k:Nat}{y:Str}{a:aa->Prop}(h:vM P w K mg base k C y a)(b:k<=k':=by decide):vM P w K mg base k' C y a:=h.up b
theorem Ed{CX:vX}{k:Nat}{f:Addr}{c:FuncData}{b:ak}{sp:Sp}(a:dq P w K mg base rE k f c b sp):dq P w K mg base CX k f c b sp:=by
 refine⟨a.len,λA outer s H args g d Q E m l j i h=>ab5 (a.run A outer s H args g d Q E m l j i h) λr o q=>?_⟩;cases r with
 |error e=>exact False.elim q
 |ok n=>cases n<;>exact q
structure Fv(P:aC)(w:World)(K:av)(mg:aU)(base:Heap)(k:Nat)(C:Addr)(y:Str)(a:Nat)(m:aE)(mr:aa->Prop):Prop where
 ex:∃(f:Addr) (fd:FuncData) (ps:ak),dq P w K mg base (qy P w C) k f fd ps (λvs H Q E=>A4 K ps.length m vs H Q E\/Lx K C ps.length mr vs H Q E)/\mg y=some (.ref f)/\PySem.W.keepIn K (.ref f)=true/\Binds K fd ps []/\ps.length=a
structure Fw(P:aC)(w:World)(K:av)(mg:aU)(base:Heap)(k:Nat)(C:Addr)(y:Str):Prop where
 ex:∃(f:Addr) (fd:FuncData) (ps:ak),dq P w K mg base rE k f fd ps (nN C)/\mg y=some (.ref f)/\PySem.W.keepIn K (.ref f)=true/\Binds K fd ps []
theorem Fv.u{k a:Nat}{y:Str}{m:aE}{b:aa->Prop}(h:Fv P w K mg base k C y a m b)(d:k<=k':=by decide):Fv P w K mg base k' C y a m b:=by
 obtain⟨f,i,c,g,e⟩:=h.ex;exact⟨f,i,c,g.mono d,e⟩
theorem Fw.u{k:Nat}{y:Str}(h:Fw P w K mg base k C y)(b:k<=k':=by decide):Fw P w K mg base k' C y:=by
 obtain⟨f,e,a,d,c⟩:=h.ex;exact⟨f,e,a,d.mono b,c⟩
noncomputable def Kv(l:List (Str×Bool)):Str->Option Bool:=λx=>if x = "ValueError" then some true else l.lookup x
theorem cw.look{P:Str->Bool->Prop}:∀{l:List (Str×Bool)},cw (λp=>P p.1 p.2) l->∀x b,l.lookup x=some b->P x b/\(x,b)∈l
 |[],_,x,b,h=>nomatch h
 | (y,c)::l,a,x,b,h=>by
  rw[List.lookup_cons]at h;by_cases e:x=y
  ·subst e;rw[beq_self_eq_true]at h;cases h;exact⟨a.1,aaf⟩
  ·rw[beq_eq_false_iff_ne.mpr e]at h;obtain⟨f,d⟩:=cw.look a.2 x b h;exact⟨f,aad _ d⟩
def gB(sc:Scope)(x:Str):Bool:=iB sc x&&!(x==("__debug__" : Str))
def alB(sc:Scope)(a told:Str)(l:List (Str×Bool)):Bool:=OR [a,told] [a] sc&&(decide (sc.names.lookup a=some .local)&&(decide (sc.names.lookup told=some .local)&&(EF a&&(EF told&&(iB sc "isinstance" && (gB sc "ValueError" && l.all λp=>gB sc p.1))))))
inductive YV(st:Stmt)(err told:Str)(l:List (Str×Bool))(b1 b2 b3 b4 b5:List Bool):Prop
 |mk {a b r:Expr} {l1 l2 l3 l4 l5:aq} {pa pb po:Pos} {j:Nat} {pj pr Hb p1 Ha G8 p2 JI JS JX JO p3 JH JR Fx JN p4 JG JQ JW JM p5 JF JP JV JL G7:Pos} (hs:br st=nQ told a b r l1 l2 l3 l4 l5 pa pb po j pj pr Hb p1 Ha G8 p2 JI JS JX JO p3 JH JR Fx JN p4 JG JQ JW JM p5 JF JP JV JL G7)
  (h0:(decide (uL err (Kv l) a=some true)&&(decide (uL err (Kv l) b=some true)&&(decide (eu err (Kv l) l1=some b1)&&(decide (eu err (Kv l) l2=some b2)&&(decide (eu err (Kv l) l3=some b3)&&(decide (eu err (Kv l) l4=some b4)&&(decide (eu err (Kv l) l5=some b5)&&cq ⟨aF st,[err,told],λ_=>none,["len"],[],T6⟩ xG r)))))))=true):YV st err told l b1 b2 b3 b4 b5
inductive YJ(st:Stmt)(n:Nr)(px:Px)(ce:aH):Prop
 |mk {a:Expr} {as:aq} {j1 j3:Nat} {q1 q2 q3 q8 Cg Cf Ce Cd G3 G1 G0 GZ GY GX GW GV GU GS GR GQ:Pos} (hs:br st=Gz n a as j1 j3 q1 q2 q3 q8 Cg Cf Ce Cd G3 G1 G0 GZ GY GX GW GV GU GS GR GQ) (h0:(bO ⟨aF st,n.N,λ_=>none,[],[],px⟩ ce (a::as)&&(OR n.N n.ps (aF st)&&Hs (aF st) n))=true):YJ st n px ce
variable {cpos np rp:Pos}{tr:aO}
section
variable {P:aC}{w:World}{K:av}{h base:Heap}{mg:aU}(X:K.In h)(G:h.Ns mainGlobals mg){C:Addr}⦃x:Str⦄⦃st:Stmt⦄
include X G
theorem Yc⦃j told:Str⦄⦃l:List (Str×Bool)⦄⦃A z v u t:List Bool⦄(E:XC K C)(k:Nat)(d:Df K x st)(hl:cw (λp:Str×Bool=>∃g,PySem.W.nsIn K mainGlobals p.1=some (some (.ref g))/\PySem.W.kitOne K (.ref C) (.ref g)=some p.2) l)(vv:PySem.W.kitOne K (.ref C) (.type "ValueError")=some true)(M:mg "isinstance" = none)(J:mg "ValueError" = none)(L:mg "len" = none)
  (c:alB (aF st) j told l=true) (H:YV st j told l A z v u t) (hlen:A.length+z.length+v.length+u.length+t.length<=100) (F:bz (λ_ _=>none) xG [none,some (.lst .fz ((A++z++v++u++t).map DI.D.bl))]=ok (.bl true)) (hb:∀(N o I:Value) (an:Option Addr) (fc ct:Value) (n:aw),n.length=[j].length->bindArgs (PySem.W.fnOf x x (dH st) (br st) (aF st) .none N o I an fc ct) ⟨n,[]⟩=pure ([j].zip n):=by exact λ_ _ _ _ _ _=>u1 λ_=>rfl):Fw P w K mg base (k+1) C x:=by
 obtain⟨f,fd,B,a⟩:=d;cases H with
 |mk Z i =>
 obtain⟨Y,i⟩:=aM i;obtain⟨V,i⟩:=aM i;obtain⟨U,i⟩:=aM i;obtain⟨T,i⟩:=aM i;obtain⟨S,i⟩:=aM i;obtain⟨R,i⟩:=aM i;obtain⟨Q,O⟩:=aM i;obtain⟨c1,c⟩:=aM c;obtain⟨c2,c⟩:=aM c;obtain⟨c3,c⟩:=aM c;obtain⟨s,c⟩:=aM c;obtain⟨r,c⟩:=aM c;obtain⟨c6,c⟩:=aM c;obtain⟨q,c8⟩:=aM c;obtain⟨s,IZ⟩:=aM s;obtain⟨r,A1⟩:=aM r;obtain⟨q,EV⟩:=aM q;refine⟨f,fd,[j],Fe (k:=k) B (pk c1) Z (aab Y) (aab V) (aab U) (aab T) (aab S) (aab R) (aab Q) O (aab c2) (aab c3) (fI s) (fI IZ) (fI r) (fI A1) (cw.mem (l:=[("len" : Str)]) ⟨L,trivial⟩) E c6 M (λy b m=>?_) (by rw[sizeLine_eq];exact aaR hlen (by decide)) F,abe X G a,B.kp,B.binds hb⟩;unfold Kv at m;by_cases e:y = "ValueError"
 ·subst e;rw[if_pos rfl]at m;cases m;exact⟨⟨q,fI EV⟩,.inr ⟨"ValueError",J,by decide +kernel,by decide +kernel,vv⟩⟩
 ·rw[if_neg e]at m;obtain⟨⟨g,h1,h2⟩,h3⟩:=cw.look (P:=λy b=>∃g,PySem.W.nsIn K mainGlobals y=some (some (.ref g))/\PySem.W.kitOne K (.ref C) (.ref g)=some b) hl y b m;obtain⟨h4,h5⟩:=aM (List.all_eq_true.mp c8 _ h3);exact⟨⟨h4,fI h5⟩,.inl ⟨g,abe X G h1,h2⟩⟩
theorem X_⦃m p:aE⦄⦃o:aa->Prop⦄⦃n:Nr⦄⦃px:Px⦄⦃t:aH⦄⦃u:Nat⦄(O:qv n.cls C mg base)(k:Nat)(Φ:bh)(d:Df K x st)(v:YJ st n px t)(J:lL px Φ)(Y:Fv P w K mg base k C n.f u p o)(Z:Fw P w K mg base k C n.al)
  (s:∀b r,m b=ok r->b.length=n.ps.length/\∃c,b0 Φ t ((b.map some++[none,none]).set n.ps.length (some .cF))=ok c/\c.length=u/\((r=.bl false/\∃y,p (aA aZ c)=ok y)\/(r=.bl true/\o (aA aZ c))))
  (L:∀(H i z:Value) (U:Option Addr) (N ct:Value) (e:aw),e.length=n.ps.length->bindArgs (PySem.W.fnOf x x (dH st) (br st) (aF st) .none H i z U N ct) ⟨e,[]⟩=pure (n.ps.zip e):=by first|exact λ_ _ _ _ _ _=>u1 λ_=>rfl|exact λ_ _ _ _ _ _=>u2 λ_ _=>rfl|exact λ_ _ _ _ _ _=>u3 λ_ _ _=>rfl|exact λ_ _ _ _ _ _=>u4 λ_ _ _ _=>rfl):Ent P w K mg base (k+1) x m:=by
 obtain⟨f,M,l,a⟩:=d;cases v with
 |mk I g =>
 obtain⟨S,g⟩:=aM g;obtain⟨R,Q⟩:=aM g;obtain⟨fb,db,pb,V,B,F,T,D⟩:=Y.ex;obtain⟨fl,dl,pl,Fl,A,E,j⟩:=Z.ex;exact⟨f,M,n.ps,refused (n:=n) (k:=k) (bl:=[]) (cs:=[]) (fnT:=λ_=>none) l (pk R) I Q O J (λ_ h=>nomatch h) (λ_ _ h=>nomatch h) (λ_ _ h=>nomatch h) S V T F B Fl j E A λb r q=>by rw[D];exact s b r q,abe X G a,l.kp,l.binds L,λb r q=>(s b r q).1⟩
variable ⦃N ps bl:ak⦄⦃tb:List (Nat×Str)⦄⦃cs:List (Str×GK)⦄⦃px:Px⦄
theorem Yb{y m:Str}{c:CE}{A:Expr}{e b:aj}{j n:Nat}{p S:Pos}(O:qv y C mg base)(k t:Nat)(Φ:bh)(B:aa->Prop)(d:Df K x st)(s:OR N ps (aF st)=true)
  (H:(br st).drop t=.If A [.Raise (some (.Call (.Name y np) [.Constant (.str m) j p] [] cpos)) none rp] [] S::tr/\(fq ⟨aF st,N,λn=>List.lookup n tb,bl,cs,px⟩ e ((br st).take t)&&(cq ⟨aF st,N,λn=>List.lookup n tb,bl,cs,px⟩ c A&&(iB (aF st) y&&!(y==("__debug__" : Str)))))=true)
  (D:lL px Φ/\Fq px Φ) (M:cw (λy=>mg y=none) bl) (Q:cw (λp:Str×GK=>∃u,mg p.1=some u/\vK K p.2 u) cs) (hf:cw (λp:Nat×Str=>Ent P w K mg base k p.2 (Φ p.1)) tb)
  (E:pZ Φ ps.length n B e (λF=>u_ Φ c F=ok true)) (T:N.length=ps.length+n:=by rfl) (U:∀(R v L:Value) (an:Option Addr) (Y ct:Value) (l:aw),l.length=ps.length->bindArgs (PySem.W.fnOf x x (dH st) (br st) (aF st) .none R v L an Y ct) ⟨l,[]⟩=pure (ps.zip l):=by first|exact λ_ _ _ _ _ _=>u1 λ_=>rfl|exact λ_ _ _ _ _ _=>u2 λ_ _=>rfl|exact λ_ _ _ _ _ _=>u3 λ_ _ _=>rfl):vM P w K mg base (k+1) C x B:=by
 obtain⟨f,V,z,a⟩:=d;obtain⟨J,r⟩:=H;obtain⟨r,o⟩:=aM r;obtain⟨o,I⟩:=aM o;exact⟨f,V,ps,NK z (pk s) T D.1 D.2 (cw.mem M) (cw.two (P:=λy i=>∃u,mg y=some u/\vK K i u) Q) (cw.tab (P:=λg y=>Ent P w K mg base k y (Φ g)) hf) ((acp t (br st)).symm.trans (by rw[J])) r o I O E,abe X G a,z.kp,z.binds U,λZ q=>(E Z q).1⟩
theorem Ya{g:Str}{c b:aj}{J:aH}{e:Expr}{es:aq}{n D:Nat}{O:aa->Prop}(k t:Nat)(Φ:bh)(E:aa->Prop)(d:Df K x st)(hc:OY st N ps tb bl cs px b=true)
  (R:(br st).drop t=.Expr (.Call (.Name g np) (e::es) [] cpos) rp::tr/\(fq ⟨aF st,N,λn=>List.lookup n tb,bl,cs,px⟩ c ((br st).take t)&&(bO ⟨aF st,N,λn=>List.lookup n tb,bl,cs,px⟩ J (e::es)&&(iB (aF st) g&&!(g==("__debug__" : Str)))))=true)
  (l:lL px Φ/\Fq px Φ) (p8:cw (λy=>mg y=none) bl) (mP:cw (λp:Str×GK=>∃u,mg p.1=some u/\vK K p.2 u) cs) (hf:cw (λp:Nat×Str=>Ent P w K mg base k p.2 (Φ p.1)) tb) (hX:vM P w K mg base k C g O)
  (hm:pZ Φ ps.length n E c (λs=>∃j,b0 Φ J s=ok j/\O (aA aZ j))) (hn:N.length=ps.length+n:=by rfl) (H:ps.length=D:=by rfl) (hb:∀(kV B Z:Value) (an:Option Addr) (fc ct:Value) (v:aw),v.length=ps.length->bindArgs (PySem.W.fnOf x x (dH st) (br st) (aF st) .none kV B Z an fc ct) ⟨v,[]⟩=pure (ps.zip v):=by first|exact λ_ _ _ _ _ _=>u1 λ_=>rfl|exact λ_ _ _ _ _ _=>u2 λ_ _=>rfl|exact λ_ _ _ _ _ _=>u3 λ_ _ _=>rfl):Fv P w K mg base (k+1) C x D (mk Φ D N.length b) E:=by
 obtain⟨f,fd,o,a⟩:=d;obtain⟨I,h2⟩:=aM hc;obtain⟨V,A⟩:=R;obtain⟨A,z⟩:=aM A;obtain⟨z,S⟩:=aM z;obtain⟨f',Il,vP,F',hg,hk,Q,Y⟩:=hX.ex;have M:=cw.mem p8;have T:=cw.two (P:=λy i=>∃u,mg y=some u/\vK K i u) mP;have U:=cw.tab (P:=λg y=>Ent P w K mg base k y (Φ g)) hf;refine⟨f,fd,ps,Ee (Ed (pv o (pk I) h2 l.1 l.2 M T (λg y q=>(U g y q).ex) λm r q=>⟨(oS m r q).1.trans H.symm,(oS m r q).2⟩)) (Ei o (pk I) ((acp t (br st)).symm.trans (by rw[V])) A l.1 l.2 M T U (λX F L e1 e2 e3 e4 e5 hR hP=>Sq (Ej z F' S hg hk Q L e1 e2 e3 e4 e5 hP) rfl) λm q=>?_),abe X G a,o.kp,o.binds hb,H⟩;obtain⟨a1,s,a2,j,a3,a4⟩:=hm m q;refine⟨a1,s,by rw[hn,a1,Nat.add_sub_cancel_left];exact a2,j,a3,a4,?_⟩;have:=Y _ a4
 rwa [bu,List.length_map]at this
end
end DI
end
namespace PySem.W.Fast
def tw16955573839365935838:=0
def tw9207106490144184216:=0
def tw9734045884756833824:=0
def tw18017466922217768477:=0
def tw12905951135820407437:=0
def tw952407382749296172:=0
def tw15296986689026632253:=0
def tw11681115238018721706:=0
def tw4156617684480169988:=0
def tw374236786793060727:=0
def tw8052716038902572250:=0
def tw221180760307416840:=0
def tw2267514898648825458:=0
def tw10447371653412841074:=0
def tw16544558148133642467:=0
def tw7838770620244520514:=0
def tw13371432192093011648:=0
def tw81482295969868445:=0
def tw2759466420459926966:=0
def tw10583462316959108735:=0
def tw18320909759358238566:=0
def tw7214688717040732372:=0
def tw9974108174616715491:=0
def tw3742522400228032166:=0
def tw4291262958272775629:=0
def tw16511910012049372216:=0
def tw11055567791243064248:=0
def tw6046024855325987906:=0
def tw1375028796631163424:=0
def tw9918651460707777367:=0
def tw10957012450037811005:=0
def tw14155007713356198970:=0
def tw13325651621077857895:=0
def tw14635400812743903169:=0
def tw11129063243221332722:=0
def tw8135944840612634060:=0
def tw3714892514367984955:=0
def tw15278475131241196086:=0
def tw345454463071709003:=0
def tw2952706849531319840:=0
def tw5530109994335720840:=0
def tw58459976079344923:=0
def tw2447010157119298320:=0
def tw14296648843875917227:=0
def tw448730083362771443:=0
def tw15125743523044986874:=0
def tw18368932516063304336:=0
def tw110155306014665806:=0
def tw16948604165276036664:=0
def tw8227073940620034049:=0
def tw5373702799656161531:=0
def tw2092274588934064412:=0
def tw8864258491313696449:=0
def tw17463047755816690392:=0
def tw12288050904900843243:=0
def tw13273527372400820959:=0
def tw2176859376623838268:=0
def tw5717171163454972379:=0
def tw2883879512994312678:=0
def tw17478754174704093274:=0
def tw788885912567189690:=0
def tw10750101258118903965:=0
def tw5666643406841604149:=0
def tw17556338048187381565:=0
def tw9042063752607343455:=0
def tw7642094081305306453:=0
def tw10398079308001794480:=0
def tw786416570385857949:=0
def tw5613902240349267461:=0
def tw8838210550785404292:=0
def tw13793705663169285341:=0
def tw9876719553639674292:=0
def tw13665958741950162821:=0
def tw944296039330497691:=0
def tw12823199981072704984:=0
def tw7797961698217860783:=0
def tw16812924594487919140:=0
def tw11943131027230942499:=0
def tw2713164944123786267:=0
def tw18010505561619899966:=0
def tw5091904888366502490:=0
def tw12942474842732904668:=0
def tw5073632133172164493:=0
def tw16185878936020759904:=0
def tw671338747848982044:=0
def tw4065242611215080349:=0
def tw14540952559563824821:=0
def tw11726008273366549527:=0
def tw1180967910899781644:=0
def tw11865152456522803291:=0
def tw3883536294821822572:=0
def tw14424444140656762324:=0
def tw8244824270203007425:=0
def tw5471796669477034049:=0
def tw12981847306819058310:=0
def tw5936542406448464171:=0
def tw497919875278836482:=0
def tw15477850541232982632:=0
def tw1839067383139820461:=0
def tw6241579248086577613:=0
def tw13112668186271931476:=0
def tw2945533605760206913:=0
def tw13029663606403678689:=0
def tw4436811461250003916:=0
def tw5656095813070998930:=0
def tw7943934492389037474:=0
def tw1419052594061058884:=0
def tw18095606235751604211:=0
def tw668538214033510980:=0
def tw17931603854979064476:=0
def tw18077998063729037945:=0
def tw8850430337859855338:=0
def tw14865305281135241160:=0
def tw8618552136793216329:=0
def tw974580624179740953:=0
def tw13857750617303577866:=0
def tw17794239122973140109:=0
def tw2067104414550159483:=0
def tw1589537345517561405:=0
def tw7127696159074864236:=0
def tw3432002963602844097:=0
def tw17375211195296599214:=0
def tw18380490358683763013:=0
def tw1448081794016393430:=0
def tw1327329344848071179:=0
def tw1153184021431374641:=0
def tw16652230847304182989:=0
def tw1772356964482386168:=0
def tw12328741916217898964:=0
def tw14151724332696166148:=0
def tw5760374007155309821:=0
def tw1944719735892445480:=0
def tw6820372144653041502:=0
def tw16154434095722163214:=0
def tw10973432699292200703:=0
def tw5211151301576109488:=0
def tw5263973844465688495:=0
def tw13644971251626807751:=0
def tw2910081878656020309:=0
def tw17819117843216393192:=0
def tw14179732225924255275:=0
def tw14976678011800559250:=0
def tw18371970191427245052:=0
def tw13558962778774077067:=0
def tw1470388036913644488:=0
def tw1213734365634245996:=0
def tw18221958117292150454:=0
def tw11001434769023279111:=0
def tw16020100345442453:=0
def tw8679785537377845593:=0
def tw6841726427173742537:=0
def tw161158133728671018:=0
def tw8981283853295662315:=0
def tw9594004711176596610:=0
def tw8660228234327601650:=0
def tw10131233819563587549:=0
def tw10599461067838329499:=0
def tw16463652691668719350:=0
def tw570378200621016420:=0
def tw15492835689896011138:=0
def tw11586275081716606773:=0
def tw311608264191577549:=0
def tw18011232556920128964:=0
def tw16434487889558426884:=0
def tw12810353309962364584:=0
def tw973567674578614491:=0
def tw3727333415227491469:=0
def tw226974718220385954:=0
def tw17503007061392244946:=0
def tw16742746622823765403:=0
def tw17516590036290674151:=0
def tw4215037735072072485:=0
def tw18029282393621612178:=0
def tw14886307600775380242:=0
def tw17543709245022318664:=0
def tw4159542843892389434:=0
def tw11076752686566597549:=0
def tw12652461405797876287:=0
def tw6137292641181075767:=0
def tw12351857366927280540:=0
def tw6008576354058259183:=0
def tw6708360881751177525:=0
def tw13594843075587614172:=0
def tw8236778442056755424:=0
def tw17841055083500231866:=0
def tw8822873463227905864:=0
def tw4655410678465498753:=0
end PySem.W.Fast
namespace Asm
open PySem PySem.Spec PyProof.Rows L2 DI
noncomputable def top(i:Nat):Stmt:=PySem.Challenge.pw_sharesample_k46_drawings_within.main.body.getD i (.Pass ⟨0,0,0,0⟩)
def px:Px:=⟨λn a bl e=>if n=1020 then xB true a bl e else if n=1022 then ER a bl e else if n=1030 then sW a bl e else if n=1031 then sX a bl e else if n=1032 then mC a bl e else if n=1035 then pQ "sorted" a bl e else if n=1038 then zq a bl e else if n=1039 then mC a bl e else if n=1040 then EN a bl e else none,λn a bl e=>if n=1000 then pP a bl e else none,λn a bl e=>if n=1010 then oh a bl e else if n=1013 then ES a bl e else if n=1014 then xC a bl e else if n=1033 then sV a bl e else none,λn a bl e=>if n=1201 then xu a bl e else none⟩
def PT:bh
 |1000=>FQ
 |1010=>qT
 |1013=>AJ
 |1014=>IT
 |1020=>(cutD true)
 |1022=>OQ
 |1030=>Ey
 |1031=>mV
 |1032=>EC
 |1033=>vh
 |1035=>pK
 |1038=>Oi
 |1039=>xk
 |1040=>QZ
 |1201=>wg
 |_=>λ_=>none
theorem pr(F:bh)(i:Nat)(m:aE):lL px (xm PT F i m)/\Fq px (xm PT F i m):=⟨⟨(λX l bl k L p e args a F q b=>HL a (λa=>NZ rfl L a b) λa=>HL a (λa=>Se rfl L a b) λa=>HL a (λa=>IB rfl L a b) λa=>HL a (λa=>IF rfl L a b) λa=>HL a (λa=>NY rfl L a b) λa=>HL a (λa=>Ew rfl L a b) λa=>HL a (λa=>P7 rfl L a b) λa=>HL a (λa=>NQ rfl L a b) λa=>HL a (λa=>QY rfl L a b) λa=>nomatch a),(λX l bl k L p e args a F q E t b pins s B H R A C D d items I y w v u z hR=>by
  dsimp only[px]at a;by_cases o:p=1000
  ·subst o;rw[if_pos rfl]at a;exact KO rfl L a t b I y w v u z hR
  rw[if_neg o]at a;clear o;cases a)⟩,⟨(λX l bl k L j f p r x n args a i h g c F q b=>Uj a (λa=>HK rfl L j f a h g c b) λa=>Uj a (λa=>NJ rfl L j f a h g c b) λa=>Uj a (λa=>N1 rfl L j f a h g c b) λa=>Uj a (λa=>IA rfl L j f a h g c b) λa=>nomatch a),(λX l bl k L j f p r x n args a i h g c F J G b=>Wn a (λa=>K9 rfl L j f a h g c b) λa=>nomatch a)⟩⟩
noncomputable def xt(F:bh)(i a b:Nat)(c:aj):bh:=xm PT F i (mk F a b c)
noncomputable def BL:ak:=["ValueError","abs","all","bool","int","isinstance","len","list","range","set","sorted","sum","tuple","zip"]
noncomputable def CC:List (Str×GK):=[("MOST_CHOICES",GK.i 500),("MOST_HOUSES",GK.i 12)]
noncomputable def kz:bh:=xm PT PT 0 λ_=>none
noncomputable def iK:bh:=xt kz 200 2 4 (fe)
noncomputable def kv:bh:=xt iK 215 1 1 (zE)
noncomputable def gE:bh:=xt kv 201 2 4 (lJ)
noncomputable def pV:bh:=xt gE 212 2 8 (Je)
noncomputable def ku:bh:=xt pV 204 1 1 (zD)
noncomputable def vL:bh:=xt ku 219 2 3 (Jd)
noncomputable def fg:bh:=xm PT vL 210 λ_=>none
noncomputable def cL:bh:=xt fg 99 2 4 (Ji)
noncomputable def kA:bh:=xt cL 98 2 2 (tq)
noncomputable def iO:bh:=xt kA 0 1 1 (iF)
noncomputable def eN:bh:=xt iO 43 2 2 (dy)
noncomputable def gF:bh:=xt eN 1 2 3 (dw)
noncomputable def pW:bh:=xt gF 3 1 1 (cy)
noncomputable def ju:bh:=xt pW 12 2 2 (lK)
noncomputable def fh:bh:=xt ju 44 1 3 (gq)
noncomputable def jt:bh:=xt fh 9 1 3 (cR)
noncomputable def fS:bh:=xt jt 10 2 2 (gp)
noncomputable def gC:bh:=xt fS 14 1 4 (jK)
noncomputable def kB:bh:=xt gC 15 1 2 (eP)
noncomputable def pY:bh:=xt kB 45 1 4 (iG)
noncomputable def iL:bh:=xt pY 11 2 2 (g_)
noncomputable def fi:bh:=xt iL 16 1 1 (fB)
noncomputable def fU:bh:=xt fi 17 1 1 (dJ)
noncomputable def gG:bh:=xt fU 97 2 3 (Jh)
noncomputable def iN:bh:=xt gG 2 2 3 (cV)
noncomputable def gH:bh:=xt iN 6 2 2 (jL 2)
noncomputable def kr:bh:=xt gH 101 2 6 (Jg)
noncomputable def iM:bh:=xt kr 41 1 2 (iE)
noncomputable def gD:bh:=xt iM 42 1 2 (fC)
noncomputable def fT:bh:=xt gD 100 1 4 (Ja)
noncomputable def hU:bh:=xt fT 102 2 8 (Jf)
noncomputable def eR:bh:=xt hU 104 2 2 (nE)
noncomputable def mI:bh:=xm PT eR 211 (qK (eR 104) FG)
noncomputable def mH:bh:=xt mI 202 2 2 (zC 201)
noncomputable def iJ:bh:=xt mH 203 2 2 (jL 201)
noncomputable def Ft:bh:=xt iJ 251 2 15 (Jc)
def Vp:=LG kz
def Vj:=Qm iK
def Lg:=GH kv
def Vk:=VC gE ⟨rfl,rfl,rfl,rfl⟩ Lg rfl
def Vm:=Ql pV
def Vi:=VB ku Vm
def Ve:=VG fg rfl
def t98:=VH cL Ve
def Vf:=Qn cL Ve
def t0:=wz kA
def Y9:=rV iO t0
def t1:=lX eN
def t3:=qg gF t0 t1
def t12:=BZ pW t3 Y9
def t44:=ue ju rfl rfl rfl
def t9:=nc fh t1
def Y_:=ud jt
def t14:=z7 fS t9 Y_ rfl
def t15:=qf gC t14
def t45:=wA kB t0 t12 t15 t44
def t11:=B0 pY Y9
def t16:=rS iL t11 t45
def TJ:=ng fi t16
def Vg:=VF fU TJ
def t2:=qh gG t1
def t6:=yh iN (f:=2) t2.1
def Vr:=VE gH t6 rfl
def t41:=wy kr t9 Y_
def t42:=rT iM t2 t41
def Vs:=Vz gD
def Vq:=VD fT ⟨rfl,rfl,rfl,rfl⟩ t42 Vs Vr rfl rfl
def P6:=Vy hU TJ Vg t98 Vq
def P5:=Qj hU TJ Vg Vf
def Vl:=GG P6 P5
def Vo:=Qk mI (f:=201) Lg
def Vn:=yh mH (f:=201) Lg
def Vh:=VA iJ ⟨rfl,rfl,rfl,rfl⟩ rfl Vo Vn
theorem Ah:∀a:ae,(mk Ft 1 10 (oj)) [.lst .sc (ag a)]=ok (.bl true):=Q3 Ft ⟨P6,Vp,Vl,Vk,Vj,Vi,Vh,rfl⟩
noncomputable def Oe:List (Str×Bool):=[("ShareError",true),("NoBottom",false),("NoDrawing",false),("NoShares",false),("NoWeights",false),("NoWorths",false),("NoSize",false),("NoPair",false),("NoLot",false),("NoGuess",false),("NoGroups",false),("TooMany",true),("NoText",false),("NoLine",false)]
theorem Tb:alB (aF (top 54)) "_law_error" "_law_told" Oe=true:=by decide +kernel
theorem SH:YV (top 54) "_law_error" "_law_told" Oe [false,false,false] [false,false,false] [false,false,false] [false,false,false] [true]:=.mk rfl (by decide +kernel)
abbrev iP:Sx:=⟨aF (top 39),["drawing","inner"],λn=>List.lookup n [(99,"count_choices")],BL,CC,px⟩
theorem nr:OR ["drawing","inner"] ["drawing","inner"] (aF (top 39))=true:=by decide +kernel
theorem nA:∃b m j p e a d f c,(br (top 39)).drop 1=.If b [.Raise (some (.Call (.Name "TooMany" e) [.Constant (.str m) j p] [] a)) none d] [] f::c/\(fq iP (tq.take 1) ((br (top 39)).take 1)&&(cq iP (.cmp .gt (.bf .gy [vc]) (.glo "MOST_CHOICES" 500)) b&&(iB (aF (top 39)) "TooMany" && !(("TooMany" : Str)==("__debug__" : Str)))))=true:=⟨_,_,_,_,_,_,_,_,_,rfl,by decide +kernel⟩
abbrev qE:Sx:=⟨aF (top 44),["drawing","inner"],λn=>List.lookup n [(17,"check_drawing"),(97,"check_groups"),(98,"check_bounds"),(102,"drawn_within")],BL,CC,px⟩
theorem AR:∃e b f a d c,(br (top 44)).drop 2=.Expr (.Call (.Name "check_bounds" f) (e::b) [] a) d::c/\(fq qE (nE.take 2) ((br (top 44)).take 2)&&(bO qE ([.v 0,.v 1]) (e::b)&&(iB (aF (top 44)) "check_bounds" && !(("check_bounds" : Str)==("__debug__" : Str)))))=true:=⟨_,_,_,_,_,_,rfl,by decide +kernel⟩
theorem ra:OY (top 44) ["drawing","inner"] (List.take 2 ["drawing","inner"]) [(17,"check_drawing"),(97,"check_groups"),(98,"check_bounds"),(102,"drawn_within")] BL CC px (nE)=true:=by decide +kernel
noncomputable def Zj:Nr:=⟨["_law_drawing_here","_law_inner"],"_law_error","e","TooMany","within","_law_alone"⟩
theorem SG:YJ (top 56) Zj px ce2:=.mk rfl (by decide +kernel)
theorem N2:OY (top 57) ["_law_script","_law_asked","_law_at","_law_drawing_here","_law_k","_law_handed","_law_choices","_law_due","_law_time","_law_found"] ["_law_script"] [(104,"within"),(200,"_law_cell"),(211,"_law_refused"),(212,"_law_drawing"),(215,"_law_copied"),(219,"_law_good"),(251,"_law_within")] BL CC px (oj)=true:=by decide +kernel
theorem all_mk{l:PySem.W.OpenLaw}{w:World}{K:av}{h:Heap}{mg:aU}{fa g0 g1 g2 g3 g4 g5 g6 g7 g8 g9 j c g d:Addr}{Y0 YZ:Value}(X:K.In h)(G:h.Ns mainGlobals mg)(C:mg "law" = some (.ref fa))
  (a0:Df K "_law_cell" (top 46))
  (a1:Df K "_law_copied" (top 53))
  (a2:Df K "_law_frac" (top 47))
  (a3:Df K "_law_drawing" (top 51))
  (a4:Df K "_law_is" (top 50))
  (a5:Df K "_law_good" (top 52))
  (a6:Df K "_law_alone" (top 54))
  (a7:Df K "count_choices" (top 40))
  (a8:Df K "check_bounds" (top 39))
  (a9:Df K "is_whole" (top 16))
  (a10:Df K "are_houses" (top 27))
  (a11:Df K "common_divisor" (top 17))
  (a12:Df K "is_fraction" (top 19))
  (a13:Df K "is_row" (top 29))
  (a14:Df K "rows_rise" (top 30))
  (a15:Df K "common_bottom" (top 21))
  (a16:Df K "tops_over" (top 22))
  (a17:Df K "weighed_lots" (top 31))
  (a18:Df K "sums_to_one" (top 32))
  (a19:Df K "is_drawn" (top 33))
  (a20:Df K "is_lot" (top 28))
  (a21:Df K "is_drawing" (top 34))
  (a22:Df K "check_drawing" (top 35))
  (a23:Df K "check_groups" (top 38))
  (a24:Df K "fraction_of" (top 18))
  (a25:Df K "frac_times" (top 20))
  (a26:Df K "chosen_rows" (top 42))
  (a27:Df K "over_one" (top 23))
  (a28:Df K "frac_total" (top 24))
  (a29:Df K "rows_behind" (top 41))
  (a30:Df K "drawn_within" (top 43))
  (a31:Df K "within" (top 44))
  (a32:Df K "_law_refused" (top 56))
  (a33:Df K "_law_add" (top 48))
  (a34:Df K "_law_mul" (top 49))
  (a35:Df K "_law_within" (top 55))
  (a36:Df K "law" (top 57))
  (z:cw (λy=>PySem.W.nsIn K mainGlobals y=some none) BL)
  (q0:PySem.W.nsIn K mainGlobals "MOST_CHOICES" = some (some Y0)) (r0:RelV (.int 500) Y0)
  (q1:PySem.W.nsIn K mainGlobals "MOST_HOUSES" = some (some YZ)) (r1:RelV (.int 12) YZ)
  (e0:PySem.W.nsIn K mainGlobals "ShareError" = some (some (.ref g0)))
  (e1:PySem.W.nsIn K mainGlobals "NoBottom" = some (some (.ref g1)))
  (e2:PySem.W.nsIn K mainGlobals "NoDrawing" = some (some (.ref g2)))
  (e3:PySem.W.nsIn K mainGlobals "NoShares" = some (some (.ref g3)))
  (e4:PySem.W.nsIn K mainGlobals "NoWeights" = some (some (.ref g4)))
  (e5:PySem.W.nsIn K mainGlobals "NoWorths" = some (some (.ref g5)))
  (e6:PySem.W.nsIn K mainGlobals "NoSize" = some (some (.ref g6)))
  (e7:PySem.W.nsIn K mainGlobals "NoPair" = some (some (.ref g7)))
  (e8:PySem.W.nsIn K mainGlobals "NoLot" = some (some (.ref g8)))
  (e9:PySem.W.nsIn K mainGlobals "NoGuess" = some (some (.ref g9)))
  (e10:PySem.W.nsIn K mainGlobals "NoGroups" = some (some (.ref j)))
  (e11:PySem.W.nsIn K mainGlobals "TooMany" = some (some (.ref c)))
  (e12:PySem.W.nsIn K mainGlobals "NoText" = some (some (.ref g)))
  (e13:PySem.W.nsIn K mainGlobals "NoLine" = some (some (.ref d)))
  (v0:PySem.W.kitOne K (.ref c) (.ref g0)=some true)
  (v1:PySem.W.kitOne K (.ref c) (.ref g1)=some false)
  (v2:PySem.W.kitOne K (.ref c) (.ref g2)=some false)
  (v3:PySem.W.kitOne K (.ref c) (.ref g3)=some false)
  (v4:PySem.W.kitOne K (.ref c) (.ref g4)=some false)
  (v5:PySem.W.kitOne K (.ref c) (.ref g5)=some false)
  (v6:PySem.W.kitOne K (.ref c) (.ref g6)=some false)
  (v7:PySem.W.kitOne K (.ref c) (.ref g7)=some false)
  (v8:PySem.W.kitOne K (.ref c) (.ref g8)=some false)
  (v9:PySem.W.kitOne K (.ref c) (.ref g9)=some false)
  (v10:PySem.W.kitOne K (.ref c) (.ref j)=some false)
  (v11:PySem.W.kitOne K (.ref c) (.ref c)=some true)
  (v12:PySem.W.kitOne K (.ref c) (.ref g)=some false)
  (v13:PySem.W.kitOne K (.ref c) (.ref d)=some false)
  (vv:PySem.W.kitOne K (.ref c) (.type "ValueError")=some true)
  (xx:PySem.W.excIn K c Pn "ValueError.__new__" = true)
  (w1:PySem.W.findIn K (.ref c) "__getattribute__" = some (some (.builtin "BaseException.__getattribute__"))) (w2:PySem.W.findIn K (.ref c) "__getattr__" = some none) (w3:PySem.W.findIn K (.ref c) "__class__" = some (some (.builtin "object.__class__"))) (w4:PySem.W.mroIn K c (.type "BaseException")=some true) (w5:PySem.W.mroIn K c (.type "object")=some true) :
  ∃E:FuncData,(∀(s:Shared) (v:Value),BindsTo s E ⟨[v],[]⟩ [("_law_script",v)])/\∀base:Heap,K.In base->base.Ns mainGlobals mg->dq l.prog w K mg base rE 38 fa E ["_law_script"] (A4 K 1 sC):=by
 obtain⟨f,E,Fu,a⟩:=a36;have e:=C.symm.trans (abe X G a);cases e;obtain⟨oc,od,kV,dc,pm,an,cd,ct,sl,rfl,_,_⟩:=id Fu.ex;have Y:=cw.nn X G z;have B:∃u,mg "MOST_CHOICES" = some u/\vK K (GK.i 500) u:=⟨_,abe X G q0,r0⟩
 have A:∃u,mg "MOST_HOUSES" = some u/\vK K (GK.i 12) u:=⟨_,abe X G q1,r1⟩
 refine⟨PySem.W.fnOf "law" "law" (dH (top 57)) (br (top 57)) (aF (top 57)) .none kV dc pm an cd ct,λs v=>.of_eq rfl,λbase KB GB=>?_⟩;have N:=@en7 l.prog w K h base mg BL CC px PT X G pr Y ⟨B,A,gI⟩;have xc:XC K c:=⟨w1,w2,w3,w4,w5,by
  unfold PySem.W.mroIn at w5;cases q:PySem.W.clsIn K c with
  |none=>rw[q]at w5;cases w5
  |some _=>rfl⟩
 have O:qv "TooMany" c mg base:=Hi KB GB e11 xx;have E0:=N 1 kz a0 ["_law_script","_law_k","_law_cell_here","_law_number"] 2 [] (fe) gI;have E1:=N 2 iK a1 ["_law_drawing_here"] 1 [] (zE) gI;have E2:=N 3 kv a2 ["_law_top","_law_bottom","_law_one","_law_other"] 2 [] (lJ) gI;have E3:=N 4 gE a3 ["_law_number","_law_most","_law_many","_law_count","_law_weights","_law_k","_law_lot","_law_whole"] 2 [(201,"_law_frac")] (Je) ⟨E2.u,gI⟩;have E4:=N 5 pV a4 ["_law_found"] 1 [] (zD) gI;have E5:=N 6 ku a5 ["_law_found","_law_due","_law_row"] 2 [(204,"_law_is")] (Jd) ⟨E4.u,gI⟩;have A6:=Yc (P:=l.prog) (w:=w) (base:=base) X G (l:=Oe) xc 7 a6 ⟨⟨_,e0,v0⟩,⟨_,e1,v1⟩,⟨_,e2,v2⟩,⟨_,e3,v3⟩,⟨_,e4,v4⟩,⟨_,e5,v5⟩,⟨_,e6,v6⟩,⟨_,e7,v7⟩,⟨_,e8,v8⟩,⟨_,e9,v9⟩,⟨_,e10,v10⟩,⟨_,e11,v11⟩,⟨_,e12,v12⟩,⟨_,e13,v13⟩,gI⟩ vv (Y.mem _ (by decide)) (Y.mem _ (by decide)) (Y.mem _ (by decide)) Tb SH (by decide) rfl;have E7:=N 8 fg a7 ["inner","groups","count","group"] 2 [] (Ji) gI;have E8:=N 9 cL a8 ["drawing","inner"] 2 [(99,"count_choices")] (tq) ⟨E7.u,gI⟩;obtain⟨_,_,_,_,_,_,_,_,_,D⟩:=nA;have X8:=Yb (P:=l.prog) (w:=w) X G (b:=[]) (n:=0) O 9 1 cL FG a8 nr D (pr _ _ _) Y ⟨B,A,gI⟩ ⟨E7.u,gI⟩ (X6 cL Ve);have I:=N 10 kA a9 ["thing"] 1 [] (iF) gI;have x:=N 11 iO a10 ["thing","many"] 2 [(0,"is_whole")] (dy) ⟨I.u,gI⟩;have F:=N 12 eN a11 ["one","other","rest"] 2 [] (dw) gI;have E12:=N 13 gF a12 ["thing"] 1 [(0,"is_whole"),(1,"common_divisor")] (cy) ⟨I.u,F.u,gI⟩;have E13:=N 14 pW a13 ["thing","many"] 2 [(3,"is_fraction"),(43,"are_houses")] (lK) ⟨E12.u,x.u,gI⟩;have E14:=N 15 ju a14 ["rows","ahead","behind"] 1 [] (gq) gI;have t:=N 16 fh a15 ["some","bottom","part"] 1 [(1,"common_divisor")] (cR) ⟨F.u,gI⟩;have r:=N 17 jt a16 ["some","bottom"] 2 [] (gp) gI;have E17:=N 18 fS a17 ["rows","chances","lots","bottom"] 1 [(9,"common_bottom"),(10,"tops_over")] (jK) ⟨t.u,r.u,gI⟩;have E18:=N 19 gC a18 ["rows","weighed"] 1 [(14,"weighed_lots")] (eP) ⟨E17.u,gI⟩;have E19:=N 20 kB a19 ["thing","many","rows","row"] 1 [(0,"is_whole"),(12,"is_row"),(15,"sums_to_one"),(44,"rows_rise")] (iG) ⟨I.u,E13.u,E18.u,E14.u,gI⟩;have E20:=N 21 pY a20 ["thing","many"] 2 [(43,"are_houses")] (g_) ⟨x.u,gI⟩;have E21:=N 22 iL a21 ["thing"] 1 [(11,"is_lot"),(45,"is_drawn")] (fB) ⟨E20.u,E19.u,gI⟩;have H:=N 23 fi a22 ["thing"] 1 [(16,"is_drawing")] (dJ) ⟨E21.u,gI⟩;have p:=N 24 fU a23 ["thing","many","drawing"] 2 [(17,"check_drawing")] (Jh) ⟨H.u,gI⟩;have o:=N 25 gG a24 ["top","bottom","divisor"] 2 [(1,"common_divisor")] (cV) ⟨F.u,gI⟩;have Z:=N 26 iN a25 ["one","other"] 2 [(2,"fraction_of")] (jL 2) ⟨o.u,gI⟩;have V:=N 27 gH a26 ["chance","layers","chosen","rows","longer","made"] 2 [(6,"frac_times")] (Jg) ⟨Z.u,gI⟩;have U:=N 28 kr a27 ["some","bottom"] 1 [(9,"common_bottom"),(10,"tops_over")] (iE) ⟨t.u,r.u,gI⟩;have T:=N 29 iM a28 ["some","tops"] 1 [(2,"fraction_of"),(41,"over_one")] (fC) ⟨o.u,U.u,gI⟩;have S:=N 30 gD a29 ["inner","ahead","told","drawing"] 1 [] (Ja) gI;have k:=N 31 fT a30 ["drawing","inner","layers","ways","chance","groups","part","lot"] 2 [(42,"frac_total"),(100,"rows_behind"),(101,"chosen_rows")] (Jf) ⟨T.u,S.u,V.u,gI⟩;have R:=N 32 hU a31 ["drawing","inner"] 2 [(17,"check_drawing"),(97,"check_groups"),(98,"check_bounds"),(102,"drawn_within")] (nE) ⟨H.u,p.u,E8.u,k.u,gI⟩ ra;obtain⟨_,_,_,_,_,_,Xr⟩:=AR;have B31:=Ya (P:=l.prog) (w:=w) X G (b:=nE) (n:=0) 32 2 hU FG a31 ra Xr (pr _ _ _) Y ⟨B,A,gI⟩ ⟨H.u,p.u,E8.u,k.u,gI⟩ X8.u (Sr hU TJ Vg);have Q:=X_ (P:=l.prog) (w:=w) (m:=qK (eR 104) FG) X G (n:=Zj) O 33 eR a32 SG (pr _ _ _).1 B31.u A6.u (B9 _);have M:=N 34 mI a33 ["_law_one","_law_other"] 2 [(201,"_law_frac")] (zC 201) ⟨E2.u,gI⟩;have L:=N 35 mH a34 ["_law_one","_law_other"] 2 [(201,"_law_frac")] (jL 201) ⟨E2.u,gI⟩;have J:=N 36 iJ a35 ["_law_drawing_here","_law_inner","_law_starts","_law_many","_law_rows","_law_chances","_law_choices","_law_chance","_law_groups","_law_group","_law_longer","_law_share","_law_lot","_law_other","_law_houses"] 2 [(202,"_law_add"),(203,"_law_mul")] (Jc) ⟨M.u,L.u,gI⟩;exact enL 37 Ft sC Fu N2 (pr _ _ _) Y ⟨B,A,gI⟩ ⟨R.u,E0.u,Q.u,E3.u,E1.u,E5.u,J.u,gI⟩ (De λns _=>(oS _ _ (Ah ns)).2)
theorem walk{l:PySem.W.OpenLaw}{q:aC}{loose:ak}{r:(aU)->Heap->Prop}{c:World->Heap->Prop}{d:DefRec}{K:Params->av}(i:l.most=some 63)(t:d.params.defaults=[])
  (m:∀(w:World) (h:Heap),c w h->(K w.params).In h)
  (F:∀(w:World) (mg:aU) (fa:Addr) (h:Heap),(K w.params).In h->h.Ns mainGlobals mg->mg d.name=some (.ref fa) ->
   ∃b:FuncData,(∀(s:Shared) (u:Value),BindsTo s b ⟨[u],[]⟩ [("_law_script",u)])/\∀base:Heap,(K w.params).In base->base.Ns mainGlobals mg->dq l.prog w (K w.params) mg base rE 38 fa b ["_law_script"] (A4 (K w.params) 1 sC)) :
  PySem.W.WalkO q loose r c l.row.toRowW d [] (λf e=>PySem.call f e) :=
 L2.F0 (n:=63) (k:=38) (x:="_law_script") (CX:=λ_=>rE) (sp:=λw=>A4 (K w.params) 1 sC) i (by decide) t ⟨rfl,by decide,by decide⟩ m F (λw H a g j p o=>Mr (K w.params) H a g sC (Hx j) p o) λ_ _ _ _ _ z=>z
end Asm
end
open PySem PySem.W PyProof.Rows
set_option maxRecDepth 100000 in
set_option maxHeartbeats 0 in
theorem PySem.Challenge.cw_sharesample_k46_drawings_within_holds : PySem.Challenge.rw_sharesample_k46_drawings_within.Holds := by
 w_on;o_law;k_head;(case hw=>w_witness2)
 k_fill
 refine Asm.walk (l:=PySem.Challenge.rw_sharesample_k46_drawings_within) rfl rfl (fun w h Y=>PySem.W.kIn_of Y) ?F
 case F =>
  intro w mg fa h KX G hmg
  refine' Asm.all_mk KX G hmg ?a0 ?a1 ?a2 ?a3 ?a4 ?a5 ?a6 ?a7 ?a8 ?a9 ?a10 ?a11 ?a12 ?a13 ?a14 ?a15 ?a16 ?a17 ?a18 ?a19 ?a20 ?a21 ?a22 ?a23 ?a24 ?a25 ?a26 ?a27 ?a28 ?a29 ?a30 ?a31 ?a32 ?a33 ?a34 ?a35 ?a36 ?zz ?q0 ?r0 ?q1 ?r1 ?e0 ?e1 ?e2 ?e3 ?e4 ?e5 ?e6 ?e7 ?e8 ?e9 ?e10 ?e11 ?e12 ?e13 ?v0 ?v1 ?v2 ?v3 ?v4 ?v5 ?v6 ?v7 ?v8 ?v9 ?v10 ?v11 ?v12 ?v13 ?vv ?xx ?w1 ?w2 ?w3 ?w4 ?w5
  case a0 | a1 | a2 | a3 | a4 | a5 | a6 | a7 | a8 | a9 | a10 | a11 | a12 | a13 | a14 | a15 | a16 | a17 | a18 | a19 | a20 | a21 | a22 | a23 | a24 | a25 | a26 | a27 | a28 | a29 | a30 | a31 | a32 | a33 | a34 | a35 | a36 =>
   refine' DI.dmk ?x ?y ?z ?w
   case x | y | z | w=>k_is
  (case zz=>refine' ⟨?_,?_,?_,?_,?_,?_,?_,?_,?_,?_,?_,?_,?_,?_,trivial⟩ <;> show PySem.W.nsIn _ _ _ = some none <;> k_is)
  (case q0=>k_is);(case r0=>exact ⟨_,rfl⟩)
  (case q1=>k_is);(case r1=>exact ⟨_,rfl⟩)
  (case e0=>k_is)
  (case e1=>k_is)
  (case e2=>k_is)
  (case e3=>k_is)
  (case e4=>k_is)
  (case e5=>k_is)
  (case e6=>k_is)
  (case e7=>k_is)
  (case e8=>k_is)
  (case e9=>k_is)
  (case e10=>k_is)
  (case e11=>k_is)
  (case e12=>k_is)
  (case e13=>k_is)
  (case v0=>kit_is)
  (case v1=>kit_is)
  (case v2=>kit_is)
  (case v3=>kit_is)
  (case v4=>kit_is)
  (case v5=>kit_is)
  (case v6=>kit_is)
  (case v7=>kit_is)
  (case v8=>kit_is)
  (case v9=>kit_is)
  (case v10=>kit_is)
  (case v11=>kit_is)
  (case v12=>kit_is)
  (case v13=>kit_is)
  (case vv=>kit_is)
  (case xx=>k_exc)
  (case w1=>k_is)
  (case w2=>k_is)
  (case w3=>k_is)
  (case w4=>k_is)
  (case w5=>k_is)
