import PyProof.Rows.All
import Wide.All
import OpenK.AllK
import Wide.FinOn
import Lean
import PyProof.EqAt
import PyProof.EqKinds
import PyProof.TupleCall
import PyProof.NeKinds
import PyProof.ZipIter
import PyProof.Draws
import PyProof.FactsAll.zip
import KE.KSortTup
import KE.KDictSum
import PyProof.TupleOfSeq
import PyProof.StrWalks
import PyProof.Rows.SetFrom
import KE.KRevIter
import PyProof.Rows.Range3
import KE.KTryMore
import KE.KIsNot
import PyProof.ExcArgsOwn
import PyProof.ExcAttrAll.ValueError
import PyProof.ExcBaseAll.ValueError
import PyProof.NsDelKeeps
import PyProof.Rows.CallKwBuiltin
import PyProof.WalkInts
import PyProof.Rows.Catch
import KE.KLam
import KE.KNestM
import PyProof.FactsAll.list_3
import KE.KDictList
import PyProof.Rows.CountFlat
import KE.KDictOf
import PyProof.AttrMissHeap
import PyProof.DictFindH
import PySem.Challenge.RW_twoglass_k41_nests_put
set_option Elab.async false
set_option linter.all false
set_option maxRecDepth 100000
open List renaming filterMap_cons→Jp, mem_cons_self→Jq, mem_cons_of_mem→Jr, mem_append_left→Js, getElem?_set_self→Jt, getElem?_set_ne→Ju, mem_append_right→Jx, size_toArray→JA, length_cons→JC, map_cons→JD, length_map→JE, append_nil→JH, of_mem_zip→JK, length_take→JL, getElem?_append_right→JM, getElem?_replicate→JN, getElem?_append_left→JO, getElem?_map→JP, mem_of_getElem?→JQ, length_append→JR, length_drop→JT, length_singleton→JW, map_nil→JY, find?_cons→JZ, any_cons→J0, length_nil→J1, nodup_nil→J3, lookup_cons→J4, forIn_cons→J5, cons_append→J8, take_zero→J9, take_nil→Ka, take_succ_cons→Kb, drop_zero→Kc, drop_succ_cons→Ke, all_cons→Kf, getElem?_eq_getElem→Kg, nil_append→Kk, map_congr_left→Kl, map_append→Km, length_range→Kn, take_length→Ko, getElem?_range→Kq, drop_eq_getElem_cons→Kr, append_assoc→Ku, drop_length→Kv, mem_cons→Kw, not_mem_nil→Kx, getElem?_cons_zero→Ky, getElem?_cons_succ→Kz, zip_cons_cons→KI, contains_cons→KJ, nodup_append→KO, replicate_zero→KQ, zip_nil_right→KR, foldl_cons→KS, not_lt_nil→KU, nil_lt_cons→KW, cons_lt_cons_iff→KY, pairwise_singleton→KZ, filter_cons_of_pos→K1, filter_cons_of_neg→K2, getElem_mem→K3, pairwise_map→K4, getD_eq_getElem?_getD→K5, getElem_of_mem→K6, map_map→K7, any_map→K8, mem_singleton→K9, find?_cons_of_pos→La, find?_cons_of_neg→Lb, getElem?_eq_none→Lc, take_of_length_le→Le, set_cons_zero→Lf, set_cons_succ→Lg, take_take→Lp, getLast?_append→Lq, getLast?_eq_getLast→Lr, getLast_mem→Ls, dropLast_concat_getLast→Lv, flatMap_cons→Lw, flatMap_append→Lx, flatMap_singleton→Ly, map_singleton→Lz, take_append_drop→LA, mem_nil_iff→LC, take_succ_eq_append_getElem→LD, getElem_append_right→LI, mem_of_mem_take→LK
open Int renaming natCast_nonneg→Jy, fdiv_eq_ediv_of_nonneg→Jz, toNat_natCast→JS, emod_nonneg→Lj, emod_lt_of_pos→Ln, toNat_of_nonneg→LJ
open Nat renaming lt_of_lt_of_le→Jk, lt_irrefl→Jl, ne_of_lt→Jm, le_trans→Jn, le_of_lt→Jo, ne_of_gt→Jv, le_refl→Jw, le_of_eq→JF, zero_le→JG, le_succ→JI, lt_trans→J2, lt_succ_of_lt→J7, min_self→Kh, sub_zero→Kp, lt_of_le_of_lt→Kt, le_add_right→KA, add_lt_add_left→KC, lt_add_of_pos_right→KD, zero_add→KH, sub_self→KP, min_eq_left→Ld
open Bool renaming false_ne_true→JB, and_eq_true→JU, and_false→JX, false_eq_true→J6, and_true→Ki, or_eq_true→Kj, or_eq_false_iff→KN, not_true→Lh, not_false→Li
open Option renaming getD_none→JV
open PySem renaming Value→MM, World→MN, Program→MO, Addr→MP, Paired→MQ, Heap→MR, sizeLine→MS, mainGlobals→MT, bootBuiltins→MU, Around→MV, Shared→MX, Scope→MY, wpAny→MZ, Expr→M0, starEach→M1, Stmt→M2, wpAny_mono→M3, wpAny_truthy_bool→M4, wpAny_execs_nil→M5, wpAny_pure→M6, wpAny_bind→M7, wpAny_pyIter_list→M8, PassesOwn→M9, foldedSetIterable→Nb, wpAny_passesOwn→Nc, binaryOp→Nf, compareOp→Ng, behindInMarks→Nh, sizeLine_eq→Ni, codeAny→Nj, attributeBase→Nk, callWith→Nm, keywordEach→Nn, cLine→Np, FuncData→Nq, BindsTo→Nr, codeAny_mono→Nt, wpAny_Call_Name_kw→Nu, NameKind→Nv, concat_meets→Nw, noFill_tuple_add→Nx, seq_tuple_add→Ny, IsPart→Nz, wpAny_field→NA, wpAny_holding→NB, wpAny_callSpecial?_slot→NC, wpAny_call_entry→ND, wpAny_typeOf→NE, wpAny_newObj_type→NF, Keyword→NI, DictEntry→NK, tupleKind_room_in1→NM, wpAny_rule→NN, wpAny_getItem_str_slice→NP, post_val_or_str→NQ, wpAny_seqItems→NR, wpAny_setField→NS, wpAny_handled→NT, IsZip→NU, IsPair→NV, wpAny_setField_rec→NW, wpAny_onRaise→NX, wpAny_updateSeq_pair→NY, wpAny_letGo→NZ, wpAny_newTuple→N0, wpAny_attempt→N1, wpAny_isInstance→N2, isSubtype_stop→N3, wpAny_notOrdered_dict→N5, wpAny_dictEntries→N6, wpAny_dictEpoch→N7, IsItemIter→N8, IsItemIterOut→N9, wpAny_typeNameOfWhole_itemiter→Oa, wpAny_typeNameOf_itemiter→Oc, wpAny_fieldsOf→Od, wpAny_isOneOf_itemiter→Oe, wpAny_typeNameOfWhole_keyiter→Of, wpAny_typeNameOf_keyiter→Og
open PySem.W renaming instObj→LN, methodObj→LO, Frag→LQ, lookIn→LR, plainGet→LU, hasDictIn→LV, findIn→LW, handedIn→LX, plainGet_of→LY, isFn→LZ, plainOver→L1, takerIn→L3, makesIn→L4, emptyDict→L5, keepIn→L6, callWith_K→L7, cellsFrom_some→L8, fnOf→L9, codeIn→Ma, OpenLaw→Mb, nsIn→Md, kitOne→Mf, kia_one→Mg, BoolBack→Mh, kdl_call→Mi, mg_of→Mj, mg_none_of→Ml
open PySem.Heap renaming lt_size→Mm, get?_none_of_le→Mo, SameBut→Mp, get?_push_of_some→Mq, get?_push_size→Mr, size_push→Ms, get?_update_self→Mt, ExtBut→Mu, get?_push_ne→Mv
open PyProof.Rows renaming callWith_type1→Mw, slot_tuple_getitem→Mx, envOfC→My, IsTup→Mz, Call_→MA, boot_str→MB, boot_bool→MC, boot_int→MD, boot_tuple→ME, boot_list→MF, boot_max→MG, listUpdate_at→N4
open PySem.F renaming slot_tuple_add→MH, entry_tuple_add→MI, args_tuple_add_2→MJ, slot_list_append→MK, type_list_append→ML
set_option maxHeartbeats 1000000
local macro_rules | `(‹1›)=>`(by first | exact Or.inl rfl | exact Or.inr rfl)
local macro_rules | `(‹2›)=>`(⟨rfl, rfl, rfl, by decide +kernel, rfl, by decide +kernel, by decide +kernel⟩)
local macro_rules | `(‹0›)=>`(by omega)
namespace L2
open PySem PySem.Spec PyProof.Rows

abbrev Key:=Sum Int Str
def nO:Key->MM->Bool
 | .inl k,v=>Value.isInt k v
 | .inr x,v=>Value.isStrOf x v
def HM (w:MN):Key->Int
 | .inl k=>hashInt k
 | .inr x=>hashStr w x
theorem bY:∀ {k:Key} {v:MM},nO k v=true->(∃ i t,k=Sum.inl i/\v=Value.int i t)\/(∃ x t,k=Sum.inr x/\v=Value.str x t)
 | .inl i,v,h=>by
  obtain⟨t,e⟩:=Value.isInt_shape (k:=i) (v:=v) h
  exact .inl ⟨i,t,rfl,e⟩
 | .inr x,v,h=>by
  obtain⟨t,e⟩:=Value.isStrOf_shape (x:=x) (v:=v) h
  exact .inr ⟨x,t,rfl,e⟩
theorem xG (i:Int) (t:Tok):nO (.inl i) (.int i t)=true:=by simp [nO,Value.isInt]
theorem ym (x:Str) (t:Tok):nO (.inr x) (.str x t)=true:=by simp [nO,Value.isStrOf]
theorem C9 (a b:Int):decide ((Sum.inl a:Key)=Sum.inl b)=(a==b):=by
 by_cases e:a=b
 ·subst e; simp
 ·have h:¬ (Sum.inl a:Key)=Sum.inl b:=fun q=>e (Sum.inl.inj q)
  rw [decide_eq_false h]
  exact(beq_eq_false_iff_ne.mpr e).symm
theorem Dh (a b:Str):decide ((Sum.inr a:Key)=Sum.inr b)=decide (a=b):=by
 by_cases e:a=b
 ·subst e; simp
 ·have h:¬ (Sum.inr a:Key)=Sum.inr b:=fun q=>e (Sum.inr.inj q)
  rw [decide_eq_false h,decide_eq_false e]
theorem CA (a:Int) (b:Str):decide ((Sum.inl a:Key)=Sum.inr b)=false:=decide_eq_false (fun q=>nomatch q)
theorem CL (a:Str) (b:Int):decide ((Sum.inr a:Key)=Sum.inl b)=false:=decide_eq_false (fun q=>nomatch q)

def bE (prog:MO) (w:MN):PySem.KeyKind prog w Key where
 is:=nO
 hash:=HM w
 inj:=fun v a b ha hb=>by
  rcases bY ha with ⟨i,t,rfl,rfl⟩ | ⟨x,t,rfl,rfl⟩
  ·rcases bY hb with ⟨j,u,rfl,e⟩ | ⟨y,u,rfl,e⟩
   ·injection e with e1 _; rw [e1]
   ·exact nomatch e
  ·rcases bY hb with ⟨j,u,rfl,e⟩ | ⟨y,u,rfl,e⟩
   ·exact nomatch e
   ·injection e with e1 _; rw [e1]
 byValue:=fun k v h=>by
  rcases bY h with ⟨i,t,rfl,rfl⟩ | ⟨x,t,rfl,rfl⟩ <;> rfl
 pyHash:=fun hv h=>by
  rcases bY hv with ⟨i,t,rfl,rfl⟩ | ⟨x,t,rfl,rfl⟩
  ·exact wpAny_pyHash_int h
  ·exact wpAny_pyHash_str h
 eqBool:=fun hu hv h=>by
  rcases bY hu with ⟨i,t,rfl,rfl⟩ | ⟨x,t,rfl,rfl⟩
  ·rcases bY hv with ⟨j,u,rfl,rfl⟩ | ⟨y,u,rfl,rfl⟩
   ·rw [C9] at h; exact wpAny_eqBool_int h
   ·rw [CA] at h; exact SeqAt.EqAt.int_str i t y u _ _ _ _ h
  ·rcases bY hv with ⟨j,u,rfl,rfl⟩ | ⟨y,u,rfl,rfl⟩
   ·rw [CL] at h; exact SeqAt.EqAt.str_int x t j u _ _ _ _ h
   ·rw [Dh] at h; exact wpAny_eqBool_str h
 «strs»:=fun k x t v h=>by
  rcases bY h with ⟨i,u,rfl,e⟩ | ⟨y,u,rfl,e⟩
  ·exact nomatch e
  ·injection e with e1 _
   subst e1
   cases v <;> rfl

theorem vi (prog:MO) (w:MN) (k:Key) (v:MM):(bE prog w).is k v=nO k v:=rfl
theorem ut (prog:MO) (w:MN) (i:Int) (t:Tok):(bE prog w).is (.inl i) (.int i t)=true:=xG i t
theorem sV (prog:MO) (w:MN) (x:Str) (t:Tok):(bE prog w).is (.inr x) (.str x t)=true:=ym x t
end L2

namespace L2
open PySem PySem.Spec PyProof.Rows

inductive V where
 | non | bl (b:Bool) | int (i:Int) | str (x:Str) | byt (b:Array UInt8) | flt (b:UInt64) | ref (a:MP) | ty (n:String)
 deriving DecidableEq

def RelV:V->MM->Prop
 | .non,u=>u=Value.none
 | .bl b,u=>u=Value.bool b
 | .int i,u=>∃ t,u=Value.int i t
 | .str x,u=>∃ t,u=Value.str x t
 | .byt b,u=>∃ t,u=Value.bytes b t
 | .flt b,u=>∃ t,u=Value.float b t
 | .ref a,u=>u=Value.ref a
 | .ty n,u=>u=Value.type n

abbrev Vals:List V->List MM->Prop:=MQ RelV
theorem Vals.length {xs:List V} {us:List MM} (r:Vals xs us):xs.length=us.length:=Paired.length r
theorem Vals.get:∀ {xs:List V} {us:List MM} {i:Nat} {x:V},Vals xs us->xs[i]?=some x->∃ u,us[i]?=some u/\RelV x u
 | _,_,_,_,.nil,e=>by simp at e
 | _,_,0,_,.cons r _,e=>by simp at e; subst e; exact⟨_,rfl,r⟩
 | _,_,i+1,x,.cons _ t,e=>by
  obtain⟨u,h1,h2⟩:=Vals.get (i:=i) (x:=x) t (by simpa using e)
  exact⟨u,by simpa using h1,h2⟩
theorem Vals.append:∀ {xs ys:List V} {us ws:List MM},Vals xs us->Vals ys ws->Vals (xs++ys) (us++ws)
 | _,_,_,_,.nil,s=>s
 | _,_,_,_,.cons r t,s=>.cons r (Vals.append t s)
theorem Vals.take:∀ {xs:List V} {us:List MM} (n:Nat),Vals xs us->Vals (xs.take n) (us.take n)
 | _,_,0,_=>.nil
 | _,_,_+1,.nil=>.nil
 | _,_,n+1,.cons r t=>.cons r (Vals.take n t)
theorem Vals.drop:∀ {xs:List V} {us:List MM} (n:Nat),Vals xs us->Vals (xs.drop n) (us.drop n)
 | _,_,0,r=>r
 | _,_,_+1,.nil=>.nil
 | _,_,n+1,.cons _ t=>Vals.drop n t
def oJ:Option V->Option MM->Prop
 | some v,some u=>RelV v u
 | none,none=>True
 | _,_=>False
def KV {κ:Type}:List (κ×V)->List (κ×MM)->Prop:=MQ fun (p:κ×V) (q:κ×MM)=>p.1=q.1/\RelV p.2 q.2

def kV:Key->V
 | .inl i=>.int i
 | .inr x=>.str x

inductive HO where
  | lst (xs:List V)
  | tup (xs:List V)
  | dK (kvs:List (Key×V)) | dT (kvs:List (List Key×V))
  | set (S:Int->Bool) (n:Nat)
  | ins (C dx:MP) (fs:List (Str×V))
  | own (x:MP)
  | xd (fs:List (Str×V))
  | met (f x:MP)
  | rng (lo hi:Int)
  | frz (o:Obj) (u:HO)
  | tbl (ps:Array MM)
  | ext (φ:(MP->Prop)->MR->Prop)

abbrev Hp:=MP->Option HO
def upd (H:Hp) (a:MP) (o:HO):Hp:=fun b=>if b=a then some o else H b
theorem aN {H:Hp} {a:MP} {o:HO}:upd H a o a=some o:=by unfold upd; rw [if_pos rfl]
theorem aF {H:Hp} {a b:MP} {o:HO} (h:b≠a):upd H a o b=H b:=by unfold upd; rw [if_neg h]
theorem Bi {H:Hp} {a:MP} {o u:HO}:upd (upd H a o) a u=upd H a u:=by
 funext b; unfold upd; split <;> rfl
theorem zm {H:Hp} {a b:MP} {o u:HO} (h:H a=some o) (h':H b=some u) (d:o≠u):a≠b:=by
 intro e; subst e; rw [h] at h'; exact d (Option.some.inj h')
theorem aT {H:Hp} {a b:MP} {o:HO} (h:H a=some o) (h':H b=none):a≠b:=by
 intro e; subst e; rw [h] at h'; cases h'

section
variable (P:MO) (w:MN)
def cc (H:Hp) (h:MR) (a:MP):HO->Prop
 | .lst xs=>xs.length<=MS/\∃ (its:List MM) (n:Nat),Vals xs its/\h.get? a=some { cls:=.type "list",data:=.seq its.toArray n }
 | .tup xs=>xs.length<=MS/\∃ its:List MM,Vals xs its/\IsTup h a its.toArray
 | .dK kvs=>kvs.length<=MS/\(a==sysModules)=false/\∃ vs,KV kvs vs/\h.DictOf (bE P w) a vs
 | .dT kvs=>kvs.length<=MS/\(a==sysModules)=false/\∃ xs:List (List Key×MP×MM),
   MQ (fun (p:List Key×V) (q:List Key×MP×MM)=>p.1=q.1/\H q.2.1=some (.tup (p.1.map kV))/\RelV p.2 q.2.2) kvs xs /\
   ∃ o es ep,h.get? a=some o/\o.ExactDict/\o.data=.dict es ep/\es.toList=xs.map (entryOfKey (tupleKind (bE P w)))/\(xs.map (·.1)).Nodup
 | .set S n=>h.SetOf (intKind P w) a S n
 | .ins C dx fs=>H dx=some (.own a)/\fs.length<=1000/\dx≠a/\h.get? a=some (LN C dx) /\
   ∃ mA,h.Ns1 dx mA/\(∀ f,oJ (fs.lookup f) (mA f))/\PySem.Within mA (fs.map (·.1))
 | .own _=>∃ o,h.get? a=some o
 | .xd fs=>∃ mA,h.Ns1 a mA/\∀ f,oJ (fs.lookup f) (mA f)
 | .rng lo hi=>∃ t u v,h.get? a=some { cls:=.type "range",data:=.fields #[.int lo t,.int hi u,.int 1 v] }
 | .frz o u=>h.get? a=some o/\cc H h a u
 | .tbl ps=>h.get? a=some { cls:=.none,data:=.fields ps }
 | .met f x=>h.get? a=some (LO (.ref f) (.ref x))
 | .ext φ=>φ (fun b=>H b=some (.own a)) h/\(∃ o,h.get? a=some o)/\∀ (S1 S2:MP->Prop) (h1 h2:MR),φ S1 h1->(∀ b,S1 b->S2 b)->(∀ b o,(b=a\/S1 b)->h1.get? b=some o->h2.get? b=some o)->φ S2 h2
def mr (H:Hp) (h:MR):Prop:=∀ a o,H a=some o->cc P w H h a o
end

section
variable {P:MO} {w:MN} {H H':Hp} {h h':MR} {a:MP} {o:HO}
theorem cc.lt (x:cc P w H h a o):a < h.objs.size:=by
 cases o with
 | lst xs=>obtain⟨_,_,_,_,e⟩:=x; exact Mm e
 | tup xs=>obtain⟨_,_,_,p⟩:=x; exact p.lt
 | dK kvs=>obtain⟨_,_,_,_,o,_,_,e,_⟩:=x; exact Mm e
 | dT kvs=>obtain⟨_,_,_,_,o,_,_,e,_⟩:=x; exact Mm e
 | set S n=>obtain⟨o,_,_,_,e,_⟩:=x; exact Mm e
 | ins C dx fs=>obtain⟨_,_,_,e,_⟩:=x; exact Mm e
 | own y=>obtain⟨_,e⟩:=x; exact Mm e
 | xd fs=>obtain⟨_,⟨_,_,_,e,_⟩,_⟩:=x; exact Mm e
 | rng lo hi=>obtain⟨_,_,_,e⟩:=x; exact Mm e
 | frz ob u=>obtain⟨e,_⟩:=x; exact Mm e
 | tbl ps=>exact Mm (show h.get? a=some _ from x)
 | met f y=>exact Mm (show h.get? a=some _ from x)
 | ext φ=>obtain⟨_,⟨_,e⟩,_⟩:=x; exact Mm e
theorem Paired.mapP {α β:Type} {F G:α->β->Prop}:∀ {l₁:List α} {l₂:List β},MQ F l₁ l₂->(∀ a b,F a b->G a b)->MQ G l₁ l₂
 | _,_,.nil,_=>.nil
 | _,_,.cons r t,f=>.cons (f _ _ r) (Paired.mapP t f)
theorem cc.stay (x:cc P w H h a o) (k:∀ b u,(b=a\/H b=some (.own a))->h.get? b=some u->h'.get? b=some u)
  (ho:∀ b,H b=some (.own a)->H' b=some (.own a)) (ht:∀ b xs,H b=some (.tup xs)->H' b=some (.tup xs)):cc P w H' h' a o:=by
 induction o with
 | lst xs=>obtain⟨z,its,n,r,e⟩:=x; exact⟨z,its,n,r,k _ _ (.inl rfl) e⟩
 | tup xs=>obtain⟨z,its,r,ob,e,c⟩:=x; exact⟨z,its,r,ob,k _ _ (.inl rfl) e,c⟩
 | dK kvs=>obtain⟨z,y,vs,r,ob,es,ep,e,c⟩:=x; exact⟨z,y,vs,r,ob,es,ep,k _ _ (.inl rfl) e,c⟩
 | dT kvs =>
  obtain⟨z,y,xs,r,ob,es,ep,e,c⟩:=x
  exact⟨z,y,xs,Paired.mapP r fun p q z=>⟨z.1,ht _ _ z.2.1,z.2.2⟩,ob,es,ep,k _ _ (.inl rfl) e,c⟩
 | set S n=>obtain⟨ob,es,ep,t,e,c⟩:=x; exact⟨ob,es,ep,t,k _ _ (.inl rfl) e,c⟩
 | ins C dx fs =>
  obtain⟨d,z,ne,e,mA,⟨od,es,ep,e2,c⟩,r⟩:=x
  exact⟨ho _ d,z,ne,k _ _ (.inl rfl) e,mA,⟨od,es,ep,k _ _ (.inr d) e2,c⟩,r⟩
 | own y=>obtain⟨ob,e⟩:=x; exact⟨ob,k _ _ (.inl rfl) e⟩
 | xd fs=>obtain⟨mA,⟨od,es,ep,e,c⟩,r⟩:=x; exact⟨mA,⟨od,es,ep,k _ _ (.inl rfl) e,c⟩,r⟩
 | rng lo hi=>obtain⟨t,u,v,e⟩:=x; exact⟨t,u,v,k _ _ (.inl rfl) e⟩
 | frz ob u ih=>obtain⟨e,q⟩:=x; exact⟨k _ _ (.inl rfl) e,ih q⟩
 | tbl ps =>
  have e:h.get? a=some { cls:=.none,data:=.fields ps }:=x
  show h'.get? a=some { cls:=.none,data:=.fields ps }
  exact k a _ (.inl rfl) e
 | met f y =>
  have e:h.get? a=some (LO (.ref f) (.ref y)):=x
  show h'.get? a=some (LO (.ref f) (.ref y))
  exact k a _ (.inl rfl) e
 | ext φ=>obtain⟨p,⟨o,e⟩,st⟩:=x; exact⟨st _ _ _ _ p ho k,⟨o,k _ _ (.inl rfl) e⟩,st⟩
theorem mr.lt (x:mr P w H h) (e:H a=some o):a < h.objs.size:=(x a o e).lt
theorem mr.fresh (x:mr P w H h) (e:h.objs.size<=a):H a=none:=by
 cases q:H a with
 | none=>rfl
 | some u=>exact absurd (Jk (x.lt q) e) (Jl _)
theorem mr.kept (x:mr P w H h) (k:∀ b u,h.get? b=some u->h'.get? b=some u):mr P w H h':=fun a o e =>
 (x a o e).stay (fun b u _ q=>k b u q) (fun _ q=>q) fun _ _ q=>q
theorem mr.laid (x:mr P w H h) (k:∀ b u,h.get? b=some u->h'.get? b=some u) (hp:h.objs.size<=a) (new:cc P w (upd H a o) h' a o):mr P w (upd H a o) h':=fun b u e=>by
 have hn:=x.fresh hp
 by_cases hb:b=a
 ·subst hb; rw [aN] at e; cases e; exact new
 ·rw [aF hb] at e
  exact(x b u e).stay (fun c v _ q=>k c v q) (fun c q=>by rw [aF (aT q hn)]; exact q) fun c xs q=>by rw [aF (aT q hn)]; exact q
end

def Rd (H:Hp) (a:MP) (u:HO):Prop:=H a=some u\/∃ o,H a=some (.frz o u)
theorem Rd.ok {P:MO} {w:MN} {H:Hp} {h:MR} {a:MP} {u:HO} (r:Rd H a u) (x:mr P w H h):cc P w H h a u:=by
 rcases r with r | ⟨o,r⟩
 ·exact x a u r
 ·obtain⟨_,q⟩:=x a _ r
  exact q
def EF:Option HO->Prop
 | some (.lst _)=>True
 | some (.dK _)=>True
 | some (.dT _)=>True
 | some (.set _ _)=>True
 | some (.ins _ _ _)=>True
 | some (.ext _)=>True
 | _=>False
section
variable {P:MO} {w:MN} {H:Hp} {h h':MR} {x e:MP} {o':HO}
theorem mr.write (ok:mr P w H h) (mu:EF (H x)) (he:e=x\/H e=some (.own x)) (k:∀ b u,b≠e->h.get? b=some u->h'.get? b=some u) (heo:∃ u,h'.get? e=some u)
  (new:cc P w (upd H x o') h' x o'):mr P w (upd H x o') h':=fun b u q=>by
 have nown:∀ c y,H c=some (.own y)->c≠x:=fun c y r z=>by subst z; rw [r] at mu; exact mu
 have ntup:∀ c xs,H c=some (.tup xs)->c≠x:=fun c xs r z=>by subst z; rw [r] at mu; exact mu
 by_cases hb:b=x
 ·subst hb; rw [aN] at q; cases q; exact new
 ·rw [aF hb] at q
  by_cases hbe:b=e
  ·have q':H b=some (.own x):=by
    rcases he with z | z
    ·exact absurd (hbe.trans z) hb
    ·rw [hbe]; exact z
   rw [q] at q'; cases q'
   obtain⟨v,hv⟩:=heo
   exact⟨v,by rw [hbe]; exact hv⟩
  ·refine(ok b u q).stay (fun c v hc r=>k c v ?_ r) (fun c r=>by rw [aF (nown c b r)]; exact r) fun c xs r=>by rw [aF (ntup c xs r)]; exact r
   rcases hc with rfl | hc
   ·exact hbe
   ·rintro rfl
    rcases he with z | z
    ·exact nown c b hc z
    ·rw [hc] at z; cases z; exact hb rfl
end

structure Un (fs ex:List MP) (H H':Hp) (h h':MR):Prop where
 keep:∀ b o,h.get? b=some o->H b=none->b∉fs->b∉ex->h'.get? b=some o
 slot:∀ b o,h.get? b=some o->H b=none->b∈fs->b∉ex->∃ sl,h'.get? b=some { o with slots:=sl }
 free:∀ b o,h.get? b=some o->H b=none->b∉ex->H' b=none
 there:∀ b o,h.get? b=some o->b∉ex->∃ o',h'.get? b=some o'
 tups:∀ b xs,H b=some (.tup xs)->H' b=some (.tup xs)
 frzs:∀ b o u,H b=some (.frz o u)->H' b=some (.frz o u)
 tbls:∀ b ps,H b=some (.tbl ps)->∃ more,H' b=some (.tbl (ps++more))
section
variable {fs fs' ex ex':List MP} {H H1 H2:Hp} {h h1 h2 h':MR} {a x e:MP} {o:HO}
theorem Un.any (u:Un fs ex H H1 h h1) {b:MP} {ob:Obj} (q:h.get? b=some ob) (n:H b=none) (hx:b∉ex):∃ sl,h1.get? b=some { ob with slots:=sl }:=by
 by_cases hb:b∈fs
 ·exact u.slot b ob q n hb hx
 ·exact⟨ob.slots,u.keep b ob q n hb hx⟩
theorem Un.kept (k:∀ b u,h.get? b=some u->h'.get? b=some u):Un fs ex H H h h' :=
 ⟨fun b ob q _ _ _=>k b ob q,fun b ob q _ _ _=>⟨ob.slots,k b ob q⟩,fun _ _ _ n _=>n,fun b ob q _=>⟨ob,k b ob q⟩,fun _ _ q=>q,fun _ _ _ q=>q,fun _ ps q=>⟨#[],by rw [q]; simp⟩⟩
theorem Un.refl:Un fs ex H H h h:=Un.kept fun _ _ q=>q
theorem Un.laid (k:∀ b u,h.get? b=some u->h'.get? b=some u) (hp:h.objs.size<=a) (hn:H a=none):Un fs ex H (upd H a o) h h' where
 keep:=fun b u q _ _ _=>k b u q
 slot:=fun b u q _ _ _=>⟨u.slots,k b u q⟩
 free:=fun b u q n _=>by rw [aF (Jm (Jk (Mm q) hp))]; exact n
 there:=fun b u q _=>⟨u,k b u q⟩
 tups:=fun b xs q=>by rw [aF (aT q hn)]; exact q
 frzs:=fun b u xs q=>by rw [aF (aT q hn)]; exact q
 tbls:=fun b ps q=>⟨#[],by rw [aF (aT q hn),q]; simp⟩
theorem Un.write (mu:EF (H x)) (he:e=x\/H e=some (.own x)) (k:∀ b u,b≠e->h.get? b=some u->h'.get? b=some u) (heo:∃ u,h'.get? e=some u):Un fs ex H (upd H x o) h h':=by
 have hx:∀ b,H b=none->b≠x:=fun b n z=>by subst z; rw [n] at mu; exact mu
 have hb:∀ b,H b=none->b≠e:=fun b n z=>by
  subst z
  rcases he with r | r
  ·exact hx b n r
  ·rw [n] at r; cases r
 have hm:∀ b u,H b=some u->¬ EF (some u)->b≠x:=fun b u q nm z=>by subst z; rw [q] at mu; exact nm mu
 refine⟨fun b u q n _ _=>k b u (hb b n) q,fun b u q n _ _=>⟨u.slots,k b u (hb b n) q⟩,fun b u q n _=>by rw [aF (hx b n)]; exact n,fun b u q _=>?_,
  fun b xs q=>by rw [aF (hm b _ q fun z=>z)]; exact q,fun b u xs q=>by rw [aF (hm b _ q fun z=>z)]; exact q,fun b ps q=>⟨#[],by rw [aF (hm b _ q fun z=>z),q]; simp⟩⟩
 by_cases hbe:b=e
 ·subst hbe; exact heo
 ·exact⟨u,k b u hbe q⟩
end

def Gr (h:MR) (H:Hp):List MP:=(List.range h.objs.size).filter fun a=>(H a).isSome
def su (h:MR) (H:Hp):MR:=PySem.W.hideAll h (Gr h H)
theorem yP (h:MR) (H:Hp):(su h H).objs.size=h.objs.size:=PySem.W.hideAll_size _ _
theorem zy {h:MR} {H:Hp} {b:MP} {o:Obj} (e:h.get? b=some o) (n:H b=none):(su h H).get? b=some o :=
 PySem.W.hideAll_get _ e fun hm=>by
  have q:(H b).isSome=true:=(List.mem_filter.mp hm).2
  rw [n] at q; simp at q
theorem A3 {h:MR} {H:Hp} {b:MP} {o:Obj} (e:(su h H).get? b=some o):h.get? b=some o/\H b=none:=by
 have e':h.get? b=some o:=PySem.W.of_hideAll (Gr h H) e
 refine⟨e',?_⟩
 cases q:H b with
 | none=>rfl
 | some x =>
  have hm:b∈Gr h H:=List.mem_filter.mpr ⟨List.mem_range.mpr (Mm e'),by simp [q]⟩
  have z:(su h H).get? b=none:=PySem.W.hideAll_none (Gr h H) hm
  rw [z] at e; cases e

def Bg (g h:MR) (L:MP):List (MP×Obj):=(List.range h.objs.size).filterMap fun a=>if a=L\/(g.get? a).isSome=true then none else (h.get? a).map fun o=>(a,o)
def rest (g h:MR) (L d:MP):List (MP×Obj):=(Bg g h L).filter fun p=>decide (p.1≠d)
end L2

namespace L2
open PySem PySem.Spec PyProof.Rows

structure Mod (K:LQ) (mg:Str->Option MM) (base:MR):Prop where
 kin:K.In base
 glob:base.Ns MT mg
 blt:∃ mb,base.Ns builtinsNs mb/\∀ x:Str,x ≠ "__name__"->mb x=MU x
 nolimit:base.NoLimit

structure Cx where
 prog:MO
 w:MN
 K:LQ
 mg:Str->Option MM
 base:MR
 A:MV
 N:List Str
 s₀:MX
 H₀:Hp
 env:Env
 outer:List Env
 stack:List Env
 ex:List MP
 fn:Str->Bool
 calm:Bool
 pn:List (MP×Obj)
 xe:MM->MX->Prop
def frs (l:List Env):List MP:=l.filterMap (·.frame)
abbrev Cx.fs (X:Cx):List MP:=frs X.outer

def Em (sc:MY) (x:Str):Prop:=sc.names.lookup x=some .local\/sc.names.lookup x=some .cell\/sc.names.lookup x=some .free
def Loc (sc:MY) (x:Str):Prop:=sc.names.lookup x=some .local\/sc.names.lookup x=some .cell
def Look (env:Env) (h:MR) (m:Str->Option MM) (x:Str) (u:MM):Prop :=
 (env.kindOf x=some .local/\m x=some u)\/((env.kindOf x=some .cell\/env.kindOf x=some .free)/\∃ c,env.cells.lookup x=some c/\h.IsCell c (some u))

structure Cx.Ok (X:Cx):Prop where
 mod:Mod X.K X.mg X.base
 kind:X.env.scope.kind=.function
 glob:X.env.globals=MT
 blt:X.env.builtins=builtinsNs
 above:X.s₀.heap.objs.size<=X.env.locals
 inj:∀ x y c,X.env.cells.lookup x=some c->X.env.cells.lookup y=some c->x=y
 has:∀ x,(X.env.kindOf x=some .cell\/X.env.kindOf x=some .free)->∃ c,X.env.cells.lookup x=some c
 cab:∀ x c,X.fn x=true->X.env.cells.lookup x=some c->X.s₀.heap.objs.size<=c
 hd:X.calm=true->X.A.handled=none
 frames:X.A.frames=some X.stack
 stk:X.stack=X.outer\/(X.stack=X.env::X.outer/\X.env.frame=some X.env.locals)
 exf:∀ b∈X.ex,b≠X.env.locals/\∀ x c,X.env.cells.lookup x=some c->c≠b
 bs:∀ b o,X.base.get? b=some o->X.s₀.heap.get? b=some o/\X.H₀ b=none
 bsz:X.base.objs.size<=X.s₀.heap.objs.size
 noex:∀ b o,X.base.get? b=some o->b∉X.ex
 exfs:∀ b∈X.ex,b∉X.fs
 funs:X.s₀.heap.FunFrames X.base X.outer
 frf:∀ b∈X.fs,X.H₀ b=none

structure Inv (X:Cx) (pins:List (MP×Obj)) (σ:List (Option V)) (H:Hp) (s:MX):Prop where
 ok:X.Ok
 os:s.os=X.s₀.os
 bare:AllBare s.gens
 base:Un X.fs X.ex X.H₀ H X.s₀.heap s.heap
 loc:∃ m,s.heap.Ns X.env.locals m/\∀ (i:Nat) (x:Str) (v:V),X.N[i]?=some x->σ[i]?=some (some v)->Em X.env.scope x->∃ u,RelV v u/\Look X.env s.heap m x u
 cell:∀ x c,X.env.cells.lookup x=some c->∃ v,s.heap.IsCell c v
 free:H X.env.locals=none
 freeC:∀ x c,X.env.cells.lookup x=some c->H c=none
 pin:∀ p∈X.pn++pins,s.heap.get? p.1=some p.2/\H p.1=none/\p.1≠X.env.locals/\p.1∉X.fs/\∀ v,p.2.data≠.cell v
 hok:mr X.prog X.w H s.heap
 len:σ.length=X.N.length

section
variable {X:Cx} {pins:List (MP×Obj)} {σ:List (Option V)} {H H':Hp} {s:MX} {h':MR}

theorem Cx.Ok.nofr (ok:X.Ok) {b:MP} {o:Obj} (e:X.base.get? b=some o):b∉X.fs:=fun hb=>by
 have:=(ok.funs.mem hb).1
 rw [e] at this; cases this
theorem Inv.bs (I:Inv X pins σ H s):∀ b o,X.base.get? b=some o->s.heap.get? b=some o/\H b=none:=fun b o e =>
 ⟨I.base.keep b o (I.ok.bs b o e).1 (I.ok.bs b o e).2 (I.ok.nofr e) (I.ok.noex b o e),I.base.free b o (I.ok.bs b o e).1 (I.ok.bs b o e).2 (I.ok.noex b o e)⟩
theorem Inv.bk (I:Inv X pins σ H s):∀ b o,X.base.get? b=some o->s.heap.get? b=some o:=fun b o e=>(I.bs b o e).1
theorem Inv.mod (I:Inv X pins σ H s):Mod X.K X.mg X.base:=I.ok.mod
theorem Inv.kIn (I:Inv X pins σ H s):X.K.In s.heap:=I.ok.mod.kin.keeps I.bk
theorem Inv.lt (I:Inv X pins σ H s):X.env.locals < s.heap.objs.size:=let ⟨_,hn,_⟩:=I.loc; hn.lt
theorem Inv.sz (I:Inv X pins σ H s):X.s₀.heap.objs.size<=s.heap.objs.size:=Jn I.ok.above (Jo I.lt)
theorem Inv.nofs (I:Inv X pins σ H s) {a:MP} (h:s.heap.objs.size<=a):a∉X.fs:=fun hb=>by
 obtain⟨_,o,ho,_⟩:=I.ok.funs.mem hb
 exact absurd (Jk (Mm ho) (Jn I.sz h)) (Jl _)
theorem Inv.cne (I:Inv X pins σ H s):∀ x c,X.env.cells.lookup x=some c->c≠X.env.locals:=fun x c e z=>by
 obtain⟨v,o,ho,hd⟩:=I.cell x c e
 obtain⟨m,⟨o',es,ep,ho',hd',_⟩,_⟩:=I.loc
 rw [z,ho'] at ho; cases ho; rw [hd'] at hd; cases hd
theorem Inv.funs (I:Inv X pins σ H s):s.heap.FunFrames X.base X.outer:=by
 have all:∀ (l:List Env),(∀ b∈frs l,b∈X.fs)->X.s₀.heap.FunFrames X.base l->s.heap.FunFrames X.base l:=by
  intro l
  induction l with
  | nil=>intro _ _; trivial
  | cons env r ih =>
   intro hs hl
   obtain⟨hk,⟨L,o,hf,hn,ho,hd⟩,hr⟩:=hl
   have hL:L∈X.fs:=hs L (by unfold frs; rw [Jp,hf]; exact Jq)
   obtain⟨sl,e⟩:=I.base.slot L o ho (I.ok.frf L hL) hL fun z=>I.ok.exfs L z hL
   exact⟨hk,⟨L,_,hf,hn,e,hd⟩,ih (fun b hb=>hs b (by unfold frs; rw [Jp,hf]; exact Jr _ hb)) hr⟩
 exact all X.outer (fun _ hb=>hb) I.ok.funs

theorem Inv.stack (I:Inv X pins σ H s):s.heap.FunFrames X.base X.stack:=by
 rcases I.ok.stk with e | ⟨e,hf⟩
 ·rw [e]; exact I.funs
 ·rw [e]
  obtain⟨m,hn,_⟩:=I.loc
  refine .cons (by rw [I.ok.kind]; decide) hf hn ?_ I.funs
  exact Mo (Jn I.ok.bsz I.ok.above)
theorem Inv.stkSub (I:Inv X pins σ H s):∀ b∈frs X.stack,b∈X.env.locals::X.fs:=fun b hb=>by
 rcases I.ok.stk with e | ⟨e,hf⟩
 ·rw [e] at hb; exact Jr _ hb
 ·rw [e] at hb
  unfold frs at hb
  rw [Jp,hf] at hb
  exact hb
theorem Inv.stkFree (I:Inv X pins σ H s):∀ b∈frs X.stack,H b=none:=fun b hb=>by
 rcases List.mem_cons.mp (I.stkSub b hb) with e | hb
 ·rw [e]; exact I.free
 ·obtain⟨_,o,ho,_⟩:=I.ok.funs.mem hb
  exact I.base.free b o ho (I.ok.frf b hb) fun z=>I.ok.exfs b z hb

theorem Inv.step {g':Array GenState} {t':Nat} {d':Drawn} {ch:List MP} (I:Inv X pins σ H s)
  (hch:∀ b∈ch,(b∈X.ex\/X.s₀.heap.objs.size<=b)/\b≠X.env.locals/\(∀ x c,X.env.cells.lookup x=some c->c≠b)/\∀ p∈X.pn++pins,p.1≠b)
  (keep:∀ b o,b≠X.env.locals->b∉X.fs->b∉ch->s.heap.get? b=some o->H b=none->h'.get? b=some o)
  (slot:∀ b o,b≠X.env.locals->b∈X.fs->b∉ch->s.heap.get? b=some o->H b=none->∃ sl,h'.get? b=some { o with slots:=sl }) (free:∀ b o,b∉ch->s.heap.get? b=some o->H b=none->H' b=none)
  (there:∀ b o,b∉ch->s.heap.get? b=some o->∃ o',h'.get? b=some o')
  (tups:∀ b xs,H b=some (.tup xs)->H' b=some (.tup xs)) (frzs:∀ b o u,H b=some (.frz o u)->H' b=some (.frz o u)) (tbls:∀ b ps,H b=some (.tbl ps)->∃ more,H' b=some (.tbl (ps++more)))
  (ns:∀ m,s.heap.Ns X.env.locals m->h'.Ns X.env.locals m) (hok:mr X.prog X.w H' h') (hg:AllBare g') :
  Inv X pins σ H' { s with heap:=h',gens:=g',drawn:=d',toks:=t' }:=by
 have neL:∀ b o,X.s₀.heap.get? b=some o->b≠X.env.locals:=fun b o e=>Jm (Jk (Mm e) I.ok.above)
 have neC:∀ b o,X.s₀.heap.get? b=some o->b∉X.ex->b∉ch:=fun b o e hx hb=>by
  rcases(hch b hb).1 with z | z
  ·exact hx z
  ·exact absurd (Jk (Mm e) z) (Jl _)
 have cellK:∀ x c,X.env.cells.lookup x=some c->∀ v,s.heap.IsCell c v->h'.IsCell c v:=fun x c e v ⟨o,ho,hd⟩=>by
  have nch:c∉ch:=fun z=>(hch c z).2.2.1 x c e rfl
  by_cases hc:c∈X.fs
  ·obtain⟨sl,q⟩:=slot c o (I.cne x c e) hc nch ho (I.freeC x c e)
   exact⟨_,q,hd⟩
  ·exact⟨o,keep c o (I.cne x c e) hc nch ho (I.freeC x c e),hd⟩
 refine⟨I.ok,I.os,hg,⟨fun b o e n hb hx=>?_,fun b o e n hb hx=>?_,fun b o e n hx=>?_,fun b o e hx=>?_,fun b xs e=>tups b xs (I.base.tups b xs e),fun b o xs e=>frzs b o xs (I.base.frzs b o xs e),fun b ps e=>?_⟩,?_,fun x c e=>?_,?_,fun x c e=>?_,fun p hp=>?_,hok,I.len⟩
 ·exact keep b o (neL b o e) hb (neC b o e hx) (I.base.keep b o e n hb hx) (I.base.free b o e n hx)
 ·obtain⟨sl,e1⟩:=I.base.slot b o e n hb hx
  obtain⟨sl',e2⟩:=slot b _ (neL b o e) hb (neC b o e hx) e1 (I.base.free b o e n hx)
  exact⟨sl',e2⟩
 ·obtain⟨o',e1⟩:=I.base.there b o e hx
  exact free b o' (neC b o e hx) e1 (I.base.free b o e n hx)
 ·obtain⟨o',e1⟩:=I.base.there b o e hx
  exact there b o' (neC b o e hx) e1
 ·obtain⟨m1,e1⟩:=I.base.tbls b ps e
  obtain⟨m2,e2⟩:=tbls b _ e1
  exact⟨m1++m2,by rw [e2,Array.append_assoc]⟩
 ·obtain⟨m,hn,hl⟩:=I.loc
  refine⟨m,ns m hn,fun i x v e1 e2 e3=>?_⟩
  obtain⟨u,r,l⟩:=hl i x v e1 e2 e3
  refine⟨u,r,?_⟩
  rcases l with l | ⟨k,c,e,z⟩
  ·exact .inl l
  ·exact .inr ⟨k,c,e,cellK x c e _ z⟩
 ·obtain⟨v,z⟩:=I.cell x c e
  exact⟨v,cellK x c e v z⟩
 ·obtain⟨m,⟨o,_,_,ho,_⟩,_⟩:=I.loc
  exact free _ o (fun z=>(hch _ z).2.1 rfl) ho I.free
 ·obtain⟨v,o,ho,hd⟩:=I.cell x c e
  exact free c o (fun z=>(hch c z).2.2.1 x c e rfl) ho (I.freeC x c e)
 ·obtain⟨e,n,ne,nf,d⟩:=I.pin p hp
  have nch:p.1∉ch:=fun z=>(hch p.1 z).2.2.2 p hp rfl
  exact⟨keep p.1 p.2 ne nf nch e n,free p.1 p.2 nch e n,ne,nf,d⟩
theorem Inv.un {t':Nat} (I:Inv X pins σ H s) (u:Un X.fs [] H H' s.heap h') (hok:mr X.prog X.w H' h'):Inv X pins σ H' { s with heap:=h',toks:=t' }:=by
 obtain⟨m,⟨o,es,ep,ho,r⟩,_⟩:=id I.loc
 obtain⟨sl,hL⟩:=u.any ho I.free (by simp)
 exact I.step (g':=s.gens) (d':=s.drawn) (ch:=[]) (fun _ z=>nomatch z) (fun b o _ hb _ e n=>u.keep b o e n hb (by simp)) (fun b o _ hb _ e n=>u.slot b o e n hb (by simp)) (fun b o _ e n=>u.free b o e n (by simp)) (fun b o _ e=>u.there b o e (by simp)) u.tups u.frzs u.tbls (fun m' hm=>by
  obtain⟨o',es',ep',ho',r'⟩:=hm
  rw [ho] at ho'; cases ho'
  exact⟨_,es',ep',hL,r'⟩) hok I.bare
theorem Inv.call {g':Array GenState} {t':Nat} {d':Drawn} {ch:List MP} (I:Inv X pins σ H s) (u:Un (frs X.stack) ch H H' s.heap h') (hok:mr X.prog X.w H' h') (hg:AllBare g')
  (hch:∀ b∈ch,(b∈X.ex\/X.s₀.heap.objs.size<=b)/\b≠X.env.locals/\(∀ x c,X.env.cells.lookup x=some c->c≠b)/\∀ p∈X.pn++pins,p.1≠b) :
  Inv X pins σ H' { s with heap:=h',gens:=g',drawn:=d',toks:=t' }:=by
 obtain⟨m,⟨o,es,ep,ho,r⟩,_⟩:=id I.loc
 obtain⟨sl,hL⟩:=u.any ho I.free fun z=>(hch _ z).2.1 rfl
 exact I.step (ch:=ch) hch (fun b o hL hb hc e n=>u.keep b o e n (fun z=>(List.mem_cons.mp (I.stkSub b z)).elim hL hb) hc) (fun b o _ _ hc e n=>u.any e n hc) (fun b o hc e n=>u.free b o e n hc) (fun b o hc e=>u.there b o e hc) u.tups u.frzs u.tbls (fun m' hm=>by
  obtain⟨o',es',ep',ho',r'⟩:=hm
  rw [ho] at ho'; cases ho'
  exact⟨_,es',ep',hL,r'⟩) hok hg
theorem Inv.turned {t':Nat} {it:MP} (I:Inv X pins σ H s) (k:∀ b o,b≠it->s.heap.get? b=some o->h'.get? b=some o) (hn:H it=none) (hL:it≠X.env.locals)
  (h1:it∈X.ex\/X.s₀.heap.objs.size<=it) (h2:∀ x c,X.env.cells.lookup x=some c->c≠it) (h3:∀ p∈X.pn++pins,p.1≠it):Inv X pins σ H { s with heap:=h',toks:=t' }:=by
 have nit:∀ b u,H b=some u->b≠it:=fun b u e z=>by rw [z,hn] at e; cases e
 refine I.step (g':=s.gens) (d':=s.drawn) (ch:=[it]) (fun b hb=>?_) (fun b o _ _ hc e _=>k b o (fun z=>hc (by simp [z])) e) (fun b o _ _ hc e _=>⟨o.slots,k b o (fun z=>hc (by simp [z])) e⟩) (fun _ _ _ _ n=>n)
  (fun b o hc e=>⟨o,k b o (fun z=>hc (by simp [z])) e⟩) (fun _ _ e=>e) (fun _ _ _ e=>e) (fun b ps e=>⟨#[],by rw [e]; simp⟩) (fun m hm=>?_) (fun b u e=>?_) I.bare
 ·have e:b=it:=by simpa using hb
  subst e
  exact⟨h1,hL,h2,h3⟩
 ·obtain⟨o,es,ep,ho,r⟩:=hm
  exact⟨o,es,ep,k _ o (Ne.symm hL) ho,r⟩
 ·refine(I.hok b u e).stay (fun c v hc q=>k c v ?_ q) (fun _ q=>q) fun _ _ q=>q
  rcases hc with z | z
  ·rw [z]; exact nit b u e
  ·exact nit c _ z
theorem Inv.tok (I:Inv X pins σ H s) (t:Nat):Inv X pins σ H { s with toks:=t }:=I.un (h':=s.heap) (t':=t) Un.refl I.hok
theorem Inv.kept {t':Nat} (I:Inv X pins σ H s) (k:∀ b u,s.heap.get? b=some u->h'.get? b=some u):Inv X pins σ H { s with heap:=h',toks:=t' }:=I.un (Un.kept k) (I.hok.kept k)
theorem Inv.laid {a:MP} {o:HO} {t':Nat} (I:Inv X pins σ H s) (k:∀ b u,s.heap.get? b=some u->h'.get? b=some u) (hp:s.heap.objs.size<=a) (new:cc X.prog X.w (upd H a o) h' a o) :
  Inv X pins σ (upd H a o) { s with heap:=h',toks:=t' }:=I.un (Un.laid k hp (I.hok.fresh hp)) (I.hok.laid k hp new)
theorem Inv.write {x e:MP} {o:HO} {t':Nat} (I:Inv X pins σ H s) (mu:EF (H x)) (he:e=x\/H e=some (.own x)) (k:∀ b u,b≠e->s.heap.get? b=some u->h'.get? b=some u) (heo:∃ u,h'.get? e=some u)
  (new:cc X.prog X.w (upd H x o) h' x o):Inv X pins σ (upd H x o) { s with heap:=h',toks:=t' }:=I.un (Un.write mu he k heo) (I.hok.write mu he k heo new)
theorem Inv.pins_of {pins':List (MP×Obj)} (I:Inv X pins σ H s) (h:∀ p∈pins',s.heap.get? p.1=some p.2/\H p.1=none/\p.1≠X.env.locals/\p.1∉X.fs/\∀ v,p.2.data≠.cell v):Inv X pins' σ H s :=
 ⟨I.ok,I.os,I.bare,I.base,I.loc,I.cell,I.free,I.freeC,fun p hp=>(List.mem_append.mp hp).elim (fun z=>I.pin p (Js _ z)) (h p),I.hok,I.len⟩

theorem tY {N:List Str} (hN:N.Nodup) {i j:Nat} {x:Str} (a:N[i]?=some x) (b:N[j]?=some x):i=j:=by
 obtain⟨h1,e1⟩:=List.getElem?_eq_some_iff.mp a
 obtain⟨h2,e2⟩:=List.getElem?_eq_some_iff.mp b
 exact(List.getElem_inj hN).mp (e1.trans e2.symm)

theorem yG {M:Model} {A:MV} {E:MM->MX->Prop} {i:Nat} {x:Str} {v:V} {u:MM} {Q:Unit->MX->Prop} (I:Inv X pins σ H s) (hN:X.N.Nodup) (hi:X.N[i]?=some x) (hx:Loc X.env.scope x) (r:RelV v u)
  (h:∀ s',Inv X pins (σ.set i (some v)) H s'->(∃ a,Mp a s.heap s'.heap/\(a=X.env.locals\/X.env.cells.lookup x=some a))->Q () s') (hf:X.fn x=true\/X.env.scope.names.lookup x=some .local:=by first | exact .inl rfl | exact .inr rfl | assumption):MZ M A (storeName X.env x u) Q E s:=by
 obtain⟨m,hn,hl⟩:=id I.loc
 have hcls:(X.env.scope.kind==.class || (X.env.scope.kind==.module && X.env.locals != X.env.globals))=false:=by rw [I.ok.kind]; rfl
 have hiσ:i < σ.length:=by rw [I.len]; exact(List.getElem?_eq_some_iff.mp hi).1
 have cne:=I.cne
 have tracked:∀ {a:MP} {h':MR},(∃ o,s.heap.get? a=some o/\H a=none)->Mp a s.heap h'->mr X.prog X.w H h':=fun {a h'} ha hs b ob e=>by
  obtain⟨_,_,hfree⟩:=ha
  refine(I.hok b ob e).stay (fun c w' hc q=>(hs.2 c ?_).trans q) (fun _ q=>q) fun _ _ q=>q
  rintro rfl
  rcases hc with rfl | hc
  ·rw [hfree] at e; cases e
  ·rw [hfree] at hc; cases hc
 rcases hx with hk | hk
 ·refine wpAny_storeName_local hk hn (fun h' hn' hs=>?_) hcls
  obtain⟨oL,_,_,hoL,_⟩:=id hn
  refine h _ ⟨I.ok,I.os,I.bare,⟨fun b o e n hb hx=>?_,fun b o e n hb hx=>?_,I.base.free,fun b o e hx=>?_,I.base.tups,I.base.frzs,I.base.tbls⟩,⟨_,hn',fun j y v' e1 e2 e3=>?_⟩,fun y c e=>?_,I.free,I.freeC,fun p hp=>?_,tracked ⟨oL,hoL,I.free⟩ hs,by simpa using I.len⟩ ⟨_,hs,.inl rfl⟩
  ·exact(hs.2 b (Jm (Jk (Mm e) I.ok.above))).trans (I.base.keep b o e n hb hx)
  ·obtain⟨sl,e1⟩:=I.base.slot b o e n hb hx
   exact⟨sl,(hs.2 b (Jm (Jk (Mm e) I.ok.above))).trans e1⟩
  ·obtain⟨o',e1⟩:=I.base.there b o e hx
   exact⟨o',(hs.2 b (Jm (Jk (Mm e) I.ok.above))).trans e1⟩
  ·by_cases hj:j=i
   ·subst hj
    rw [hi] at e1; cases e1
    rw [Jt hiσ] at e2
    cases e2
    exact⟨u,r,.inl ⟨hk,by simp⟩⟩
   ·rw [Ju (Ne.symm hj)] at e2
    obtain⟨u',r',q⟩:=hl j y v' e1 e2 e3
    refine⟨u',r',?_⟩
    rcases q with ⟨k,e⟩ | ⟨k,c,e,z⟩
    ·refine .inl ⟨k,?_⟩
     have:y≠x:=fun e=>hj (tY hN e1 (e ▸ hi))
     simp [this,e]
    ·exact .inr ⟨k,c,e,z.sameBut hs (cne y c e)⟩
  ·obtain⟨w',z⟩:=I.cell y c e
   exact⟨w',z.sameBut hs (cne y c e)⟩
  ·obtain⟨e,n,ne,nf,d⟩:=I.pin p hp
   exact⟨(hs.2 p.1 ne).trans e,n,ne,nf,d⟩
 ·have hfn:X.fn x=true:=by
   rcases hf with z | z
   ·exact z
   ·rw [z] at hk; cases hk
  obtain⟨c,hc⟩:=I.ok.has x (.inl hk)
  obtain⟨w',z⟩:=I.cell x c hc
  refine wpAny_storeName_cell I.ok.kind hk hc z (fun h' hc' hs=>?_)
  obtain⟨oc,hoc,hocd⟩:=id z
  refine h { s with heap:=h' } ⟨I.ok,I.os,I.bare,⟨fun b o e n hb hx=>?_,fun b o e n hb hx=>?_,I.base.free,fun b o e hx=>?_,I.base.tups,I.base.frzs,I.base.tbls⟩,⟨m,hn.sameBut hs (Ne.symm (cne x c hc)),fun j y v' e1 e2 e3=>?_⟩,fun y c' e=>?_,I.free,I.freeC,fun p hp=>?_,tracked ⟨oc,hoc,I.freeC x c hc⟩ hs,by simpa using I.len⟩ ⟨c,hs,.inr hc⟩
  ·exact(hs.2 b (Jm (Jk (Mm e) (I.ok.cab x c hfn hc)))).trans (I.base.keep b o e n hb hx)
  ·obtain⟨sl,e1⟩:=I.base.slot b o e n hb hx
   exact⟨sl,(hs.2 b (Jm (Jk (Mm e) (I.ok.cab x c hfn hc)))).trans e1⟩
  ·obtain⟨o',e1⟩:=I.base.there b o e hx
   exact⟨o',(hs.2 b (Jm (Jk (Mm e) (I.ok.cab x c hfn hc)))).trans e1⟩
  ·by_cases hj:j=i
   ·subst hj
    rw [hi] at e1; cases e1
    rw [Jt hiσ] at e2
    cases e2
    exact⟨u,r,.inr ⟨.inl hk,c,hc,hc'⟩⟩
   ·rw [Ju (Ne.symm hj)] at e2
    obtain⟨u',r',q⟩:=hl j y v' e1 e2 e3
    refine⟨u',r',?_⟩
    rcases q with q | ⟨k,c',e,z'⟩
    ·exact .inl q
    ·refine .inr ⟨k,c',e,z'.sameBut hs ?_⟩
     rintro rfl
     exact hj (tY hN e1 (I.ok.inj _ _ _ e hc ▸ hi))
  ·by_cases hcc:c'=c
   ·subst hcc; exact⟨_,hc'⟩
   ·obtain⟨w2,z2⟩:=I.cell y c' e
    exact⟨w2,z2.sameBut hs hcc⟩
  ·obtain⟨e,n,ne,nf,d⟩:=I.pin p hp
   refine⟨(hs.2 p.1 ?_).trans e,n,ne,nf,d⟩
   intro q
   rw [q,hoc] at e
   have q':oc=p.2:=Option.some.inj e
   exact d w' (by rw [<- q']; exact hocd)
theorem tJ {M:Model} {A:MV} {E:MM->MX->Prop} {i:Nat} {x:Str} {v:V} {u:MM} {Q:Unit->MX->Prop} (I:Inv X pins σ H s) (hN:X.N.Nodup) (hi:X.N[i]?=some x) (hx:Loc X.env.scope x) (r:RelV v u)
  (h:∀ s',Inv X pins (σ.set i (some v)) H s'->Q () s') (hf:X.fn x=true\/X.env.scope.names.lookup x=some .local:=by first | exact .inl rfl | exact .inr rfl | assumption):MZ M A (storeName X.env x u) Q E s :=
 yG I hN hi hx r (fun s' I' _=>h s' I') hf
theorem Inv.call' {s':MX} {ch:List MP} (I:Inv X pins σ H s) (ho:s'.os=s.os) (u:Un (frs X.stack) ch H H' s.heap s'.heap) (hok:mr X.prog X.w H' s'.heap) (hg:AllBare s'.gens)
  (hch:∀ b∈ch,(b∈X.ex\/X.s₀.heap.objs.size<=b)/\b≠X.env.locals/\(∀ x c,X.env.cells.lookup x=some c->c≠b)/\∀ p∈X.pn++pins,p.1≠b):Inv X pins σ H' s':=by
 obtain⟨h',g',d',t',o'⟩:=s'
 have e:o'=s.os:=ho
 subst e
 exact I.call (g':=g') (t':=t') (d':=d') u hok hg hch
end

abbrev XK:=MM->Option MP->Hp->Prop
abbrev St:=List (Option V)
abbrev VK:=V->Hp->Prop
abbrev TE:=St->Hp->VK->Prop
abbrev TT:=St->Hp->(Bool->Hp->Prop)->Prop
abbrev TA:=St->Hp->(List V->Hp->Prop)->Prop
structure Ends where
 nx:St->Hp->Prop
 rt:VK
 bk:St->Hp->Prop:=fun _ _=>False
 ct:St->Hp->Prop:=fun _ _=>False
abbrev TS:=Ends->St->Hp->Prop

def EP (X:Cx) (pins:List (MP×Obj)) (σ:St) (Q:VK) (u:MM) (s':MX):Prop:=∃ v H',Inv X pins σ H' s'/\RelV v u/\Q v H'
def TP (X:Cx) (pins:List (MP×Obj)) (σ:St) (Q:Bool->Hp->Prop) (b:Bool) (s':MX):Prop:=∃ H',Inv X pins σ H' s'/\Q b H'
def AP (X:Cx) (pins:List (MP×Obj)) (σ:St) (Q:List V->Hp->Prop) (us:List MM) (s':MX):Prop:=∃ vs H',Inv X pins σ H' s'/\Vals vs us/\Q vs H'
def SP (X:Cx) (pins:List (MP×Obj)) (D:Ends) (f:Flow) (s':MX):Prop :=
 match f with
 | .next=>∃ σ' H',Inv X pins σ' H' s'/\D.nx σ' H'
 | .brk=>∃ σ' H',Inv X pins σ' H' s'/\D.bk σ' H'
 | .cont=>∃ σ' H',Inv X pins σ' H' s'/\D.ct σ' H'
 | .ret u=>∃ v σ' H',Inv X pins σ' H' s'/\RelV v u/\D.rt v H'

def PE (X:Cx) (e:M0) (t:TE):Prop :=
 ∀ (pins:List (MP×Obj)) (s:MX) (σ:St) (H:Hp) (Q:VK),Inv X pins σ H s->t σ H Q->MZ (model X.prog X.w) X.A (eval e X.env) (EP X pins σ Q) X.xe s
def PT (X:Cx) (e:M0) (t:TT):Prop :=
 ∀ (pins:List (MP×Obj)) (s:MX) (σ:St) (H:Hp) (Q:Bool->Hp->Prop),Inv X pins σ H s->t σ H Q->MZ (model X.prog X.w) X.A (isTrue e X.env (eval e X.env)) (TP X pins σ Q) X.xe s
def PW (X:Cx) (e:M0) (t:TT):Prop :=
 ∀ (whole:Sem MM) (pins:List (MP×Obj)) (s:MX) (σ:St) (H:Hp) (Q:Bool->Hp->Prop),Inv X pins σ H s->t σ H Q->MZ (model X.prog X.w) X.A (isTrue e X.env whole) (TP X pins σ Q) X.xe s
theorem PW.pt {X:Cx} {e:M0} {t:TT} (h:PW X e t):PT X e t:=h _
def PA (X:Cx) (es:List M0) (t:TA):Prop :=
 ∀ (pos:Pos) (pins:List (MP×Obj)) (s:MX) (σ:St) (H:Hp) (Q:List V->Hp->Prop),Inv X pins σ H s->t σ H Q->MZ (model X.prog X.w) X.A (spliced (backTo pos (M1 es X.env))) (AP X pins σ Q) X.xe s
def PS (X:Cx) (st:M2) (t:TS):Prop :=
 ∀ (pins:List (MP×Obj)) (s:MX) (σ:St) (H:Hp) (D:Ends),Inv X pins σ H s->t D σ H->MZ (model X.prog X.w) X.A (exec st X.env) (SP X pins D) X.xe s
def tq (X:Cx) (st:List M2) (t:TS):Prop :=
 ∀ (pins:List (MP×Obj)) (s:MX) (σ:St) (H:Hp) (D:Ends),Inv X pins σ H s->t D σ H->MZ (model X.prog X.w) X.A (execs st X.env) (SP X pins D) X.xe s
theorem dH {α:Type} {t:Sem α} {Q Q':α->MX->Prop} {M:Model} {A:MV} {E:MM->MX->Prop} {s:MX} (h:MZ M A t Q E s) (hQ:∀ a s,Q a s->Q' a s):MZ M A t Q' E s:=M3 h hQ fun _ _ x=>x
end L2

namespace L2
open PySem PySem.Spec PyProof.Rows
section
variable {X:Cx}

def nq (i:Nat):TE:=fun σ H Q=>∃ v,σ[i]?=some (some v)/\Q v H
def tC (v:V):TE:=fun _ H Q=>Q v H
theorem DX {i:Nat} {x:Str} {pos:Pos} (hN:X.N[i]?=some x) (hv:Em X.env.scope x) (hd:(x==("__debug__":Str))=false:=by decide) (hcd:(x==("__classdict__":Str))=false:=by decide):PE X (.Name x pos) (nq i):=by
 intro pins s σ H Q I h
 obtain⟨v,e,h⟩:=h
 obtain⟨m,hn,hl⟩:=I.loc
 obtain⟨u,r,l⟩:=hl i x v hN e hv
 have fin:EP X pins σ Q u s:=⟨v,H,I,r,h⟩
 rcases l with ⟨hk,hm⟩ | ⟨hk,c,hc,hcell⟩
 ·exact wpAny_Name (wpAny_loadName_local I.ok.kind hk hn hm fin) hd
 ·rcases hk with hk | hk
  ·exact wpAny_Name (wpAny_loadName_cell I.ok.kind hk hc hcell fin) hd
  ·exact wpAny_Name (wpAny_loadName_free I.ok.kind hk hc hcell fin hcd) hd
theorem DW {i j pos}:PE X (.Constant (.int i) j pos) (tC (.int i)):=fun _ _ _ H _ I h=>wpAny_Constant_int ⟨.int i,H,I.tok _,⟨_,rfl⟩,h⟩
theorem Fs {b j pos}:PE X (.Constant (.bool b) j pos) (tC (.bl b)):=fun _ _ _ H _ I h=>Constant_bool ⟨.bl b,H,I,rfl,h⟩
theorem CT {x j pos}:PE X (.Constant (.str x) j pos) (tC (.str x)):=fun _ _ _ H _ I h=>Calls.Constant_str ⟨.str x,H,I.tok _,⟨_,rfl⟩,h⟩

def Gl (X:Cx) (x:Str):Prop:=X.env.kindOf x=some .globalImplicit
theorem xh {E:MM->MX->Prop} {pins:List (MP×Obj)} {s:MX} {σ:St} {H:Hp} {x:Str} {u:MM} {pos:Pos} {Q:MM->MX->Prop} (I:Inv X pins σ H s) (hg:Gl X x) (hm:X.mg x=some u) (h:Q u s)
  (hd:(x==("__debug__":Str))=false:=by decide):MZ (model X.prog X.w) X.A (eval (.Name x pos) X.env) Q E s :=
 Calls.Name_function_global I.ok.kind hg (Calls.loadGlobal_global (by rw [I.ok.glob]; exact I.mod.glob.keeps I.bk) hm h) hd
theorem lC {E:MM->MX->Prop} {pins:List (MP×Obj)} {s:MX} {σ:St} {H:Hp} {x:Str} {u:MM} {pos:Pos} {Q:MM->MX->Prop} (I:Inv X pins σ H s) (hg:Gl X x) (hm:X.mg x=none) (hv:MU x=some u) (h:Q u s)
  (hn:x ≠ "__name__":=by decide) (hd:(x==("__debug__":Str))=false:=by decide):MZ (model X.prog X.w) X.A (eval (.Name x pos) X.env) Q E s:=by
 obtain⟨mb,h1,h2⟩:=I.mod.blt
 exact Calls.Name_function_global I.ok.kind hg (Calls.loadGlobal_builtin (by rw [I.ok.glob]; exact I.mod.glob.keeps I.bk) hm (by rw [I.ok.blt]; exact h1.keeps I.bk) ((h2 x hn).trans hv) h) hd
theorem BE {x:Str} {v:V} {u:MM} {pos:Pos} (hg:Gl X x) (hm:X.mg x=none) (hv:MU x=some u) (r:RelV v u) (hn:x ≠ "__name__":=by decide) (hd:(x==("__debug__":Str))=false:=by decide):PE X (.Name x pos) (tC v) :=
 fun _ _ _ H _ I h=>lC I hg hm hv ⟨v,H,I,r,h⟩ hn hd

variable {a b:M0} {ta tb:TE} {pos:Pos}
variable {tA tB':TT} {rest:List M0}
def IZ (t u:TT):TT:=fun σ H Q=>t σ H fun c H1=>if c=true then Q true H1 else u σ H1 Q
def Ik (t:TT):TT:=fun σ H Q=>t σ H fun c H1=>Q (!c) H1
theorem DC (ha:PT X a tA):PW X (.BoolOp .Or [a] pos) tA:=by
 intro wh pins s σ H Q I h
 refine isTrue_or (dH (ha pins s σ H Q I h) fun c s1 e=>?_)
 cases c with
 | false=>exact isTrue_or_nil e
 | true=>exact e
theorem FD (ha:PT X a tA) (hb:PW X (.BoolOp .Or (b::rest) pos) tB'):PW X (.BoolOp .Or (a::b::rest) pos) (IZ tA tB'):=by
 intro wh pins s σ H Q I h
 refine isTrue_or (dH (ha pins s σ H _ I h) fun c s1 ⟨H1,I1,q1⟩=>?_)
 cases c with
 | true=>exact⟨H1,I1,q1⟩
 | false=>exact hb wh pins s1 σ H1 Q I1 q1
theorem D0 (ha:PT X a tA):PT X (.UnaryOp .Not a pos) (Ik tA):=by
 intro pins s σ H Q I h
 exact isTrue_not (ha pins s σ H (fun c H1=>Q (!c) H1) I h)
def Ee (ta tb:TE):TE:=fun σ H Q=>ta σ H fun x H1=>∃ c,x=.bl c/\if c=true then tb σ H1 Q else Q (.bl false) H1
theorem DR {op} {t:TE} (h:PE X a t):PE X (.BoolOp op [a] pos) t:=fun pins s σ H Q I hw=>BoolOp_one (h pins s σ H Q I hw)
theorem CM (ha:PE X a ta) (hb:PE X (.BoolOp .And (b::rest) pos) tb):PE X (.BoolOp .And (a::b::rest) pos) (Ee ta tb):=by
 intro pins s σ H Q I h
 refine BoolOp_and (dH (ha pins s σ H _ I h) fun v s1 ⟨x,H1,I1,r1,q1⟩=>?_)
 obtain⟨c,rfl,q1⟩:=q1
 cases r1
 refine M4 ?_
 cases c with
 | true=>exact hb pins s1 σ H1 Q I1 q1
 | false=>exact⟨.bl false,H1,I1,rfl,q1⟩
end
end L2

namespace L2
open PySem PySem.Spec PyProof.Rows

def lU (K:LQ) (H:Hp) (a:MP) (xs:List V):Prop :=
 Rd H a (.lst xs) \/
  ∃ (o:Obj) (its:Array MM) (n:Nat),K.lookup a=some o/\o.cls=.type "list"/\o.dict=none/\o.data=.seq its n/\its.size<=MS/\Vals xs its.toList
def nL (K:LQ) (H:Hp) (a:MP) (xs:List V):Prop :=
 Rd H a (.tup xs) \/
  ∃ (o:Obj) (its:Array MM) (n:Nat),K.lookup a=some o/\o.cls=.type "tuple"/\o.data=.seq its n/\its.size<=MS/\Vals xs its.toList
def HW:MM->Option V
 | .none=>some .non
 | .bool b=>some (.bl b)
 | .int i _=>some (.int i)
 | .str x _=>some (.str x)
 | .bytes b _=>some (.byt b)
 | .float b _=>some (.flt b)
 | .ref a=>some (.ref a)
 | .type n=>some (.ty n)
 | _=>none
theorem RelV.abs {x:V} {u:MM} (r:RelV x u):HW u=some x:=by
 cases x with
 | non=>cases r; rfl
 | bl _=>cases r; rfl
 | int _=>obtain⟨t,rfl⟩:=r; rfl
 | str _=>obtain⟨t,rfl⟩:=r; rfl
 | byt _=>obtain⟨t,rfl⟩:=r; rfl
 | flt _=>obtain⟨t,rfl⟩:=r; rfl
 | ref _=>cases r; rfl
 | ty _=>cases r; rfl
theorem RelV.inj {x y:V} {u:MM} (r:RelV x u) (q:RelV y u):x=y:=Option.some.inj (r.abs.symm.trans q.abs)
theorem Vals.inj:∀ {xs ys:List V} {us:List MM},Vals xs us->Vals ys us->xs=ys
 | _,_,_,.nil,.nil=>rfl
 | _,_,_,.cons r t,.cons r' t'=>by rw [r.inj r',Vals.inj t t']
section
variable {X:Cx} {pins:List (MP×Obj)} {σ:St} {H:Hp} {s:MX} {a:MP} {xs ys:List V}
theorem lU.of {K:LQ} (h:H a=some (.lst xs)):lU K H a xs:=.inl (.inl h)
theorem nL.of {K:LQ} (h:H a=some (.tup xs)):nL K H a xs:=.inl (.inl h)
theorem Inv.list (I:Inv X pins σ H s) (h:lU X.K H a xs):∃ its:List MM,Vals xs its/\PlainL s.heap a its.toArray/\xs.length<=MS:=by
 rcases h with h | ⟨o,its,n,hk,hc,hd,hs,hz,r⟩
 ·obtain⟨z,its,n,r,e⟩:=h.ok I.hok
  exact⟨its,r,⟨_,n,e,rfl,rfl,rfl⟩,z⟩
 ·refine⟨its.toList,r,⟨o,n,I.kIn a o hk,hc,hd,by simpa using hs⟩,?_⟩
  have e:=r.length
  simp only [Array.length_toList] at e
  omega
theorem Inv.tuple (I:Inv X pins σ H s) (h:nL X.K H a xs):∃ its:List MM,Vals xs its/\IsTup s.heap a its.toArray/\xs.length<=MS:=by
 rcases h with h | ⟨o,its,n,hk,hc,hs,hz,r⟩
 ·obtain⟨z,its,r,p⟩:=h.ok I.hok
  exact⟨its,r,p,z⟩
 ·refine⟨its.toList,r,⟨o,I.kIn a o hk,hc,n,by simpa using hs⟩,?_⟩
  have e:=r.length
  simp only [Array.length_toList] at e
  omega
theorem Inv.list_inj (I:Inv X pins σ H s) (h:lU X.K H a xs) (h':lU X.K H a ys):xs=ys:=by
 obtain⟨its,r,⟨o,n,e,_,_,d⟩,_⟩:=I.list h
 obtain⟨its',r',⟨o',n',e',_,_,d'⟩,_⟩:=I.list h'
 rw [e] at e'; cases e'
 rw [d] at d'
 injection d' with d1 _
 have:its=its':=by simpa using congrArg Array.toList d1
 subst this
 exact r.inj r'
theorem Inv.tuple_inj (I:Inv X pins σ H s) (h:nL X.K H a xs) (h':nL X.K H a ys):xs=ys:=by
 obtain⟨its,r,⟨o,e,_,n,d⟩,_⟩:=I.tuple h
 obtain⟨its',r',⟨o',e',_,n',d'⟩,_⟩:=I.tuple h'
 rw [e] at e'; cases e'
 rw [d] at d'
 injection d' with d1 _
 have:its=its':=by simpa using congrArg Array.toList d1
 subst this
 exact r.inj r'
end

abbrev Cx.wish (X:Cx) (E:MM->MX->Prop):Cx:={ X with xe:=E }
abbrev Cx.nox (X:Cx):Cx:=X.wish fun _ _=>False
theorem Cx.Ok.wish {X:Cx} (ok:X.Ok) (E:MM->MX->Prop):(X.wish E).Ok :=
 ⟨ok.mod,ok.kind,ok.glob,ok.blt,ok.above,ok.inj,ok.has,ok.cab,ok.hd,ok.frames,ok.stk,ok.exf,ok.bs,ok.bsz,ok.noex,ok.exfs,ok.funs,ok.frf⟩
theorem Cx.Ok.unwish {X:Cx} {E:MM->MX->Prop} (ok:(X.wish E).Ok):X.Ok :=
 ⟨ok.mod,ok.kind,ok.glob,ok.blt,ok.above,ok.inj,ok.has,ok.cab,ok.hd,ok.frames,ok.stk,ok.exf,ok.bs,ok.bsz,ok.noex,ok.exfs,ok.funs,ok.frf⟩
section
variable {X:Cx} {pins:List (MP×Obj)} {σ:St} {H:Hp} {s:MX} {E:MM->MX->Prop}
theorem Inv.wish (I:Inv X pins σ H s) (E:MM->MX->Prop):Inv (X.wish E) pins σ H s:=⟨I.ok.wish E,I.os,I.bare,I.base,I.loc,I.cell,I.free,I.freeC,I.pin,I.hok,I.len⟩
theorem Inv.unwish (I:Inv (X.wish E) pins σ H s):Inv X pins σ H s:=⟨I.ok.unwish,I.os,I.bare,I.base,I.loc,I.cell,I.free,I.freeC,I.pin,I.hok,I.len⟩
theorem SP.unwish {D:Ends} {f:Flow} {s':MX} (h:SP (X.wish E) pins D f s'):SP X pins D f s':=by
 cases f with
 | next=>obtain⟨σ',H',I,q⟩:=h; exact⟨σ',H',I.unwish,q⟩
 | brk=>obtain⟨σ',H',I,q⟩:=h; exact⟨σ',H',I.unwish,q⟩
 | cont=>obtain⟨σ',H',I,q⟩:=h; exact⟨σ',H',I.unwish,q⟩
 | ret u=>obtain⟨v,σ',H',I,r,q⟩:=h; exact⟨v,σ',H',I.unwish,r,q⟩
theorem tq.nox {st:List M2} {t:TS} (h:tq X.nox st t):tq X st t:=fun pins s σ H D I hw =>
 M3 (h pins s σ H D (I.wish _) hw) (fun _ _ q=>q.unwish) fun _ _ z=>False.elim z
end

section
variable {X:Cx} {st:M2} {rest:List M2} {t u:TS} {e:M0} {te:TE} {pos:Pos}
def Ey:TS:=fun D σ H=>D.nx σ H
def Hh (t u:TS):TS:=fun D σ H=>t { D with nx:=u D } σ H
theorem BD:tq X [] Ey:=fun _ _ σ H _ I h=>M5 ⟨σ,H,I,h⟩
theorem ug (h1:PS X st t) (h2:tq X rest u):tq X (st::rest) (Hh t u):=by
 intro pins s σ H D I h
 refine wpAny_execs_cons (dH (h1 pins s σ H { D with nx:=u D } I h) fun f s1 q=>?_)
 cases f with
 | next =>
  obtain⟨σ',H',I',q⟩:=q
  exact h2 pins s1 σ' H' D I' q
 | ret v=>exact q
 | brk=>exact q
 | cont=>exact q
theorem wA (h1:PS X st t):tq X [st] t:=by
 intro pins s σ H D I h
 refine wpAny_execs_cons (dH (h1 pins s σ H D I h) fun f s1 q=>?_)
 cases f with
 | next=>exact M5 q
 | ret v=>exact q
 | brk=>exact q
 | cont=>exact q
theorem Inv.quiet {pins:List (MP×Obj)} {σ:St} {H:Hp} {s:MX} (I:Inv X pins σ H s):interactive X.env=false:=by simp [interactive,I.ok.kind]
def Eg (te:TE):TS:=fun D σ H=>te σ H fun _ H1=>D.nx σ H1
theorem sk (he:PE X e te) (hs:swapsWith e none pos.line X.env=pure false:=by rfl):PS X (.Expr e pos) (Eg te):=by
 intro pins s σ H D I h
 exact wpAny_Expr_any (dH (he pins s σ H _ I h) fun v s1 ⟨x,H1,I1,r1,q1⟩=>⟨σ,H1,I1,q1⟩) I.quiet hs
def Hi (te:TE):TS:=fun D σ H=>te σ H D.rt
theorem C8 (he:PE X e te):PS X (.Return (some e) pos) (Hi te):=by
 intro pins s σ H D I h
 exact wpAny_Return_some (dH (he pins s σ H _ I h) fun v s1 ⟨x,H1,I1,r1,q1⟩=>⟨x,σ,H1,I1,r1,q1⟩)
def HQ (c:TT) (t u:TS):TS:=fun D σ H=>c σ H fun b H1=>if b=true then t D σ H1 else u D σ H1
theorem EG {c:M0} {a b:List M2} {tc:TT} (hc:PT X c tc) (ha:tq X a t) (hb:tq X b u):PS X (.If c a b pos) (HQ tc t u):=by
 intro pins s σ H D I h
 refine wpAny_If (dH (hc pins s σ H _ I h) fun d s1 ⟨H1,I1,q1⟩=>?_)
 cases d with
 | true=>exact ha pins s1 σ H1 D I1 q1
 | false=>exact hb pins s1 σ H1 D I1 q1
end

abbrev TG:=V->St->Hp->(St->Hp->Prop)->Prop
abbrev B6:=List V->St->Hp->(St->Hp->Prop)->Prop
def PG (X:Cx) (target:M0) (t:TG):Prop :=
 ∀ (pins:List (MP×Obj)) (s:MX) (σ:St) (H:Hp) (v:V) (u:MM) (Q:St->Hp->Prop),Inv X pins σ H s->RelV v u->t v σ H Q ->
  MZ (model X.prog X.w) X.A (assign target X.env u) (fun _ s'=>∃ σ' H',Inv X pins σ' H' s'/\Q σ' H') X.xe s
def Ed (X:Cx) (ts:List M0) (t:B6):Prop :=
 ∀ (pins:List (MP×Obj)) (s:MX) (σ:St) (H:Hp) (vs:List V) (us:List MM) (Q:St->Hp->Prop),Inv X pins σ H s->Vals vs us->t vs σ H Q ->
  MZ (model X.prog X.w) X.A (assignInOrder ((assignEach ts X.env).map (·.2)) us) (fun _ s'=>∃ σ' H',Inv X pins σ' H' s'/\Q σ' H') X.xe s
section
variable {X:Cx} {pos:Pos}
def xq (i:Nat):TG:=fun v σ H Q=>Q (σ.set i (some v)) H
theorem Bx {i:Nat} {x:Str} (hN:X.N.Nodup) (hi:X.N[i]?=some x) (hx:Loc X.env.scope x) (hf:X.fn x=true\/X.env.scope.names.lookup x=some .local:=by first | exact .inl rfl | exact .inr rfl | assumption):PG X (.Name x pos) (xq i):=by
 intro pins s σ H v u Q I r h
 exact wpAny_assign_Name (tJ I hN hi hx r (fun s' I'=>⟨_,H,I',h⟩) hf)
def HC:B6:=fun vs σ H Q=>vs=[]/\Q σ H
def Fw (t:TG) (u:B6):B6:=fun vs σ H Q=>∃ v r,vs=v::r/\t v σ H fun σ' H'=>u r σ' H' Q
theorem AH:Ed X [] HC:=by
 intro pins s σ H vs us Q I r h
 obtain⟨e,h⟩:=h
 subst e
 cases r
 exact assignInOrder_nil ⟨σ,H,I,h⟩
theorem Ad {e:M0} {es:List M0} {t:TG} {u:B6} (h1:PG X e t) (h2:Ed X es u)
  (hs:(assignEach (e::es) X.env).map (·.2)=assign e X.env::(assignEach es X.env).map (·.2):=by rfl):Ed X (e::es) (Fw t u):=by
 intro pins s σ H vs us Q I r h
 obtain⟨v,vr,e1,h⟩:=h
 subst e1
 cases r with
 | cons r rr =>
  rw [hs]
  refine assignInOrder_cons (dH (h1 pins s σ H _ _ _ I r h) fun _ s1 ⟨σ1,H1,I1,q1⟩=>?_)
  exact h2 pins s1 σ1 H1 _ _ Q I1 rr q1
def G5 (K:LQ) (n:Nat) (t:B6):TG:=fun v σ H Q=>∃ a xs,v=.ref a/\nL K H a xs/\xs.length=n/\t xs σ H Q
theorem De {es:List M0} {k:Nat} {t:B6} {n:Nat} (hc:X.calm=true) (h:Ed X es t)
  (hn:(assignEach es X.env).length=n:=by rfl) (hst:(assignEach es X.env).findIdx? (·.1)=none:=by rfl):PG X (.Tuple es k pos) (G5 X.K n t):=by
 intro pins s σ H v u Q I r hw
 obtain⟨a,xs,e1,hq,hl,hw⟩:=hw
 subst e1
 cases r
 obtain⟨its,rv,ht,hz⟩:=I.tuple hq
 refine assign_Tuple_tuple (I.ok.hd hc) ht (by simp [hn,<- hl,rv.length]) hst fun h' hx=>?_
 have I1:Inv X pins σ H { s with heap:=h' }:=I.kept (t':=s.toks) fun b o e=>hx b o (Jm (Mm e)) e
 exact h pins _ σ H xs _ Q I1 (by simpa using rv) hw
def Dq (te:TE) (g:TG):TS:=fun D σ H=>te σ H fun x H1=>g x σ H1 D.nx
theorem v9 {i:Nat} {x:Str} {e:M0} {te:TE} {pos':Pos} (hN:X.N.Nodup) (hi:X.N[i]?=some x) (hx:Loc X.env.scope x) (he:PE X e te) (hs:swapsWith e (some (.Name x pos')) pos.line X.env=pure false:=by rfl) (hf:X.fn x=true\/X.env.scope.names.lookup x=some .local:=by first | exact .inl rfl | exact .inr rfl | assumption) :
  PS X (.Assign [.Name x pos'] e pos) (Dq te (xq i)):=by
 intro pins s σ H D I h
 refine wpAny_Assign_Name (dH (he pins s σ H _ I h) fun v s1 ⟨y,H1,I1,r1,q1⟩=>?_) hs
 exact tJ I1 hN hi hx r1 (fun s2 I2=>⟨_,H1,I2,q1⟩) hf
end


structure It where
 go:Nat->Hp->Prop
 yld:Nat->Hp->V->Hp->Prop
 stop:Nat->Hp->Prop
def p4 (X:Cx) (pins:List (MP×Obj)) (H:Hp) (b:MP):Prop :=
 H b=none/\b≠X.env.locals/\b∉X.fs/\(b∈X.ex\/X.s₀.heap.objs.size<=b)/\(∀ x c,X.env.cells.lookup x=some c->c≠b)/\∀ p∈X.pn++pins,p.1≠b
theorem Inv.fpOk {X:Cx} {pins:List (MP×Obj)} {σ:St} {H H':Hp} {s:MX} {b:MP} (I:Inv X pins σ H s) (hb:s.heap.objs.size<=b) (hn:H' b=none):p4 X pins H' b:=by
 refine⟨hn,Jv (Jk I.lt hb),I.nofs hb,.inr (Jn I.sz hb),fun x c e z=>?_,fun p hp z=>?_⟩
 ·obtain⟨v,q⟩:=I.cell x c e
  exact absurd (Jk q.lt (by rw [z]; exact hb)) (Jl _)
 ·exact absurd (Jk (Mm (I.pin p hp).1) (by rw [z]; exact hb)) (Jl _)
structure Turn (P:MO) (w:MN) (K:LQ) (tg:M0) (J:It) (fp:List MP) (it:MP) (tn:Nat->MR->Prop):Prop where
 mem:it∈fp
 obj:∀ i h,tn i h->∀ b∈fp,∃ o,h.get? b=some o/\∀ v,o.data≠.cell v
 keep:∀ i h h',tn i h->(∀ b∈fp,∀ o,h.get? b=some o->h'.get? b=some o)->tn i h'
 item:∀ (X:Cx),X.prog=P->X.w=w->X.K=K->X.calm=true->∀ (i:Nat) (pins:List (MP×Obj)) (s:MX) (σ:St) (H:Hp) (E:MM->MX->Prop),Inv X pins σ H s->(∀ b∈fp,p4 X pins H b)->tn i s.heap->J.go i H ->
  MZ (model P w) X.A (pyNext (.ref it)) (fun r s1=>∃ u,r=some u /\
   MZ (model P w) X.A (letOwnedTupleGo tg (.ref it) u) (fun _ s2=>∃ x H',Inv X pins σ H' s2/\RelV x u/\J.yld i H x H'/\tn (i+1) s2.heap/\∀ b∈fp,H' b=none) E s1) E s
 done:∀ (X:Cx),X.prog=P->X.w=w->X.K=K->X.calm=true->∀ (i:Nat) (pins:List (MP×Obj)) (s:MX) (σ:St) (H:Hp) (E:MM->MX->Prop),Inv X pins σ H s->(∀ b∈fp,p4 X pins H b)->tn i s.heap->J.stop i H ->
  MZ (model P w) X.A (pyNext (.ref it)) (fun r s1=>r=none/\Inv X pins σ H s1) E s
 self:∀ (A:MV) (i:Nat) (s:MX) (Q:MM->MX->Prop) (E:MM->MX->Prop),tn i s.heap->Q (.ref it) s->MZ (model P w) A (pyIter (.ref it)) Q E s
abbrev TI:=St->Hp->(It->Hp->Prop)->Prop
def PIE (X:Cx) (pins:List (MP×Obj)) (σ:St) (tg:M0) (R:It->Hp->Prop) (itv:MM) (s2:MX):Prop :=
 ∃ (it:MP) (fp:List MP) (tn:Nat->MR->Prop) (J:It) (H':Hp),itv=.ref it/\Inv X pins σ H' s2/\Turn X.prog X.w X.K tg J fp it tn/\tn 0 s2.heap/\(∀ b∈fp,p4 X pins H' b)/\R J H'
def PI (X:Cx) (tg iter:M0) (wi:TI):Prop :=
 ∀ (pins:List (MP×Obj)) (s:MX) (σ:St) (H:Hp) (R:It->Hp->Prop),Inv X pins σ H s->wi σ H R ->
  MZ (model X.prog X.w) X.A (eval iter X.env) (fun v s1=>MZ (model X.prog X.w) X.A (pyIter v) (PIE X pins σ tg R) X.xe s1) X.xe s

theorem Ah {M:Model} {A:MV} {E:MM->MX->Prop} {s:MX} {tg:M0} {it:MP} {u:MM} {o:Obj} {n:String} {vs:Array MM} {Q:Unit->MX->Prop} (ho:s.heap.get? it=some o) (hc:o.cls=.type n) (hd:o.data=.fields vs)
    (hn:["enumerate","zip","dict_itemiterator","dict_reverseitemiterator","odict_iterator","itertools.zip_longest","itertools.pairwise"].contains n=false) (hQ:Q () s):MZ M A (letOwnedTupleGo tg (.ref it) u) Q E s:=by
  unfold letOwnedTupleGo
  cases tg <;> first
    | exact M6 hQ
    | (cases u <;> first
        | exact M6 hQ
        | (refine M7 (wpAny_load ho ?_)
           rw [hc,hd]
           show MZ M A (if (["enumerate","zip","dict_itemiterator","dict_reverseitemiterator","odict_iterator","itertools.zip_longest","itertools.pairwise"].contains n && vs[0]?==some (rawInt _))=true then _ else _) Q E s
           rw [if_neg (by intro h; rw [hn,Bool.false_and] at h; cases h)]
           exact M6 hQ))

def GY (K:LQ) (a:MP):It :=
 ⟨fun i H=>∃ xs x,lU K H a xs/\xs[i]?=some x,fun i H x H'=>H'=H/\∀ xs,lU K H a xs->xs[i]?=some x,fun i H=>∃ xs,lU K H a xs/\xs.length<=i⟩
def Ie (K:LQ) (a:MP):It :=
 ⟨fun i H=>∃ xs x,nL K H a xs/\xs[i]?=some x,fun i H x H'=>H'=H/\∀ xs,nL K H a xs->xs[i]?=some x,fun i H=>∃ xs,nL K H a xs/\xs.length<=i⟩
def ED (lo:Int) (n:Nat):It:=⟨fun i _=>i < n,fun i H x H'=>H'=H/\x=.int (lo+i),fun i _=>n<=i⟩
theorem x8 {P:MO} {w:MN} {K:LQ} {tg:M0} (a it:MP):Turn P w K tg (GY K a) [it] it (fun i h=>h.IsListIter it a i) where
 mem:=by simp
 obj:=fun i h st b hb=>by
  have e:b=it:=by simpa using hb
  subst e
  obtain⟨o,e,c,d⟩:=st
  exact⟨o,e,fun v z=>by rw [d] at z; cases z⟩
 keep:=fun i h h' st k=>st.at fun o e=>k it (by simp) o e
 item:=by
  intro X hP hw hK hc i pins s σ H E I hf st hg
  subst hP hw hK
  obtain⟨xs,x,hq,hx⟩:=hg
  obtain⟨its,rv,p,hz⟩:=I.list hq
  obtain⟨u,hu,ru⟩:=rv.get hx
  obtain⟨f0,f1,f2,f3,f4,f5⟩:=hf it (by simp)
  refine wpAny_pyNext_list_item st p.isList (x:=u) (by simpa using hu) fun h' st' sb=>?_
  have I1:Inv X pins σ H { s with heap:=h' }:=I.turned (t':=s.toks) (fun b o hb e=>(sb.2 b hb).trans e) f0 f1 f3 f4 f5
  obtain⟨o,e,c,d⟩:=id st'
  exact⟨u,rfl,Ah (s:={ s with heap:=h' }) e c d (by decide) ⟨x,H,I1,ru,⟨rfl,fun ys hy=>by rw [I.list_inj hy hq]; exact hx⟩,st',fun b hb=>(hf b hb).1⟩⟩
 done:=by
  intro X hP hw hK hc i pins s σ H E I hf st hg
  subst hP hw hK
  obtain⟨xs,hq,hx⟩:=hg
  obtain⟨its,rv,p,hz⟩:=I.list hq
  obtain⟨f0,f1,f2,f3,f4,f5⟩:=hf it (by simp)
  have hl:=rv.length
  exact wpAny_pyNext_list_end (I.ok.hd hc) st p.isList (by simp; omega) fun h' eb=>⟨rfl,I.turned (t':=s.toks) (fun b o hb e=>eb b o hb e) f0 f1 f3 f4 f5⟩
 self:=fun _ _ _ _ _ st h=>wpAny_pyIter_listiter st h
theorem vz {P:MO} {w:MN} {K:LQ} {tg:M0} (a it:MP):Turn P w K tg (Ie K a) [it] it (fun i h=>h.IsTupleIter it a i) where
 mem:=by simp
 obj:=fun i h st b hb=>by
  have e:b=it:=by simpa using hb
  subst e
  obtain⟨o,e,c,d⟩:=st
  exact⟨o,e,fun v z=>by rw [d] at z; cases z⟩
 keep:=fun i h h' st k=>st.at fun o e=>k it (by simp) o e
 item:=by
  intro X hP hw hK hc i pins s σ H E I hf st hg
  subst hP hw hK
  obtain⟨xs,x,hq,hx⟩:=hg
  obtain⟨its,rv,p,hz⟩:=I.tuple hq
  obtain⟨u,hu,ru⟩:=rv.get hx
  obtain⟨f0,f1,f2,f3,f4,f5⟩:=hf it (by simp)
  refine wpAny_pyNext_tuple_item st (show s.heap.IsTuple a its.toArray from p) (x:=u) (by simpa using hu) fun h' st' sb=>?_
  have I1:Inv X pins σ H { s with heap:=h' }:=I.turned (t':=s.toks) (fun b o hb e=>(sb.2 b hb).trans e) f0 f1 f3 f4 f5
  obtain⟨o,e,c,d⟩:=id st'
  exact⟨u,rfl,Ah (s:={ s with heap:=h' }) e c d (by decide) ⟨x,H,I1,ru,⟨rfl,fun ys hy=>by rw [I.tuple_inj hy hq]; exact hx⟩,st',fun b hb=>(hf b hb).1⟩⟩
 done:=by
  intro X hP hw hK hc i pins s σ H E I hf st hg
  subst hP hw hK
  obtain⟨xs,hq,hx⟩:=hg
  obtain⟨its,rv,p,hz⟩:=I.tuple hq
  obtain⟨f0,f1,f2,f3,f4,f5⟩:=hf it (by simp)
  have hl:=rv.length
  exact wpAny_pyNext_tuple_end (I.ok.hd hc) st (show s.heap.IsTuple a its.toArray from p) (by simp; omega) fun h' eb=>⟨rfl,I.turned (t':=s.toks) (fun b o hb e=>eb b o hb e) f0 f1 f3 f4 f5⟩
 self:=fun _ _ _ _ _ st h=>wpAny_pyIter_tupleiter st h
theorem v7 {P:MO} {w:MN} {K:LQ} {tg:M0} (it:MP) (lo:Int) (n:Nat):Turn P w K tg (ED lo n) [it] it (fun i h=>IsRangeIter h it (lo+(i:Nat)*1) ((n:Int) - (i:Nat)) 1) where
 mem:=by simp
 obj:=fun i h st b hb=>by
  have e:b=it:=by simpa using hb
  subst e
  exact⟨_,st,fun v z=>by
   have z':Data.fields _=Data.cell v:=z
   cases z'⟩
 keep:=fun i h h' st k=>k it (by simp) _ st
 item:=by
  intro X hP hw hK hc i pins s σ H E I hf st hg
  subst hP hw hK
  obtain⟨f0,f1,f2,f3,f4,f5⟩:=hf it (by simp)
  have W:=Walks.range (prog:=X.prog) (w:=X.w) (I.ok.hd hc) it lo 1 n
  refine W.item i s _ _ hg st fun v h' tk hv st' kk=>?_
  obtain⟨t,rfl⟩:=hv
  have I1:Inv X pins σ H { s with heap:=h',toks:=tk }:=I.turned (fun b o hb e=>kk b o (by simpa using hb) e) f0 f1 f3 f4 f5
  refine⟨_,rfl,Ah (s:={ s with heap:=h',toks:=tk }) (n := "range_iterator") st' rfl rfl (by decide) ⟨.int (lo+i),H,I1,⟨t,?_⟩,⟨rfl,rfl⟩,st',fun b hb=>(hf b hb).1⟩⟩
  rw [Int.mul_one]
 done:=by
  intro X hP hw hK hc i pins s σ H E I hf st hg
  subst hP hw hK
  obtain⟨f0,f1,f2,f3,f4,f5⟩:=hf it (by simp)
  exact wpAny_pyNext_range_end (I.ok.hd hc) st (by have:n<=i:=hg; omega) fun h' eb=>⟨rfl,I.turned (t':=s.toks) (fun b o hb e=>eb b o hb e) f0 f1 f3 f4 f5⟩
 self:=fun _ _ _ _ _ st h=>wpAny_pyIter_rangeiter st h
end L2

namespace L2
open PySem PySem.Spec PyProof.Rows
section
variable {X:Cx} {tg:M0}
def Fm (K:LQ) (tl:TE):TI:=fun σ H R=>tl σ H fun x H1=>∃ a,x=.ref a/\(∃ xs,lU K H1 a xs)/\R (GY K a) H1
def GX (K:LQ) (tl:TE):TI:=fun σ H R=>tl σ H fun x H1=>∃ a,x=.ref a/\(∃ xs,nL K H1 a xs)/\R (Ie K a) H1
theorem xo {l:M0} {tl:TE} (hl:PE X l tl):PI X tg l (Fm X.K tl):=by
 intro pins s σ H R I h
 refine dH (hl pins s σ H _ I h) fun v s1 ⟨x,H1,I1,r1,q1⟩=>?_
 obtain⟨a,e,⟨xs,hq⟩,q⟩:=q1
 subst e
 cases r1
 obtain⟨its,rv,p,hz⟩:=I1.list hq
 refine M8 p.isList ?_
 refine⟨s1.heap.objs.size,[s1.heap.objs.size],_,_,H1,rfl,I1.kept (t':=s1.toks) fun b o e=>Mq _ e,x8 a _,⟨_,Mr _ rfl,rfl,rfl⟩,fun b hb=>?_,q⟩
 have e:b=s1.heap.objs.size:=by simpa using hb
 subst e
 exact I1.fpOk (Jw _) (I1.hok.fresh (Jw _))
theorem DY {l:M0} {tl:TE} (hl:PE X l tl):PI X tg l (GX X.K tl):=by
 intro pins s σ H R I h
 refine dH (hl pins s σ H _ I h) fun v s1 ⟨x,H1,I1,r1,q1⟩=>?_
 obtain⟨a,e,⟨xs,hq⟩,q⟩:=q1
 subst e
 cases r1
 obtain⟨its,rv,p,hz⟩:=I1.tuple hq
 refine wpAny_pyIter_tuple (show s1.heap.IsTuple a its.toArray from p) ?_
 refine⟨s1.heap.objs.size,[s1.heap.objs.size],_,_,H1,rfl,I1.kept (t':=s1.toks) fun b o e=>Mq _ e,vz a _,⟨_,Mr _ rfl,rfl,rfl⟩,fun b hb=>?_,q⟩
 have e:b=s1.heap.objs.size:=by simpa using hb
 subst e
 exact I1.fpOk (Jw _) (I1.hok.fresh (Jw _))
theorem tU {pins:List (MP×Obj)} {σ:St} {H:Hp} {s:MX} {R:It->Hp->Prop} {E:MM->MX->Prop} {lo hi:Int} {t u v:Tok} {tk:Nat} (I:Inv X pins σ H s) (h1:-(2 ^ 62)<=lo) (h2:lo < 2 ^ 62) (h3:-(2 ^ 62)<=hi) (h4:hi < 2 ^ 62)
  (q:R (ED lo (hi - lo).toNat) H):MZ (model X.prog X.w) X.A (pyIter (.ref s.heap.objs.size)) (PIE X pins σ tg R) E { s with heap:=s.heap.push { cls:=.type "range",data:=.fields #[.int lo t,.int hi u,.int 1 v] },toks:=tk }:=by
 refine wpAny_pyIter_range (IsRange.new ..) (small_one h1 h2 h3 h4) ?_
 have I1:Inv X pins σ H { s with heap:=s.heap.push { cls:=.type "range",data:=.fields #[.int lo t,.int hi u,.int 1 v] },toks:=tk }:=I.kept fun b o e=>Mq _ e
 refine⟨(s.heap.push { cls:=.type "range",data:=.fields #[.int lo t,.int hi u,.int 1 v] }).objs.size,[(s.heap.push { cls:=.type "range",data:=.fields #[.int lo t,.int hi u,.int 1 v] }).objs.size],_,_,H,rfl,
  I1.kept (t':=tk) fun b o e=>Mq _ e,v7 _ lo (hi - lo).toNat,?_,fun b hb=>?_,q⟩
 ·have e1:lo+((0:Nat):Int)*1=lo:=by simp
  have e2:(((hi - lo).toNat:Nat):Int) - ((0:Nat):Int)=Builtin.Range.rangeSize lo hi 1:=by rw [rangeSize_one]; split <;> omega
  show IsRangeIter _ _ (lo+((0:Nat):Int)*1) ((((hi - lo).toNat:Nat):Int) - ((0:Nat):Int)) 1
  rw [e1,e2]
  exact Mr _ rfl
 ·have e:b=(s.heap.push { cls:=.type "range",data:=.fields #[.int lo t,.int hi u,.int 1 v] }).objs.size:=by simpa using hb
  subst e
  exact I1.fpOk (Jw _) (I1.hok.fresh (Jw _))
def El (ta:TA):TI:=fun σ H R=>ta σ H fun vs H1=>∃ j:Int,vs=[.int j]/\-(2 ^ 62)<=j/\j < 2 ^ 62/\R (ED 0 j.toNat) H1
def Fk (ta:TA):TI:=fun σ H R=>ta σ H fun vs H1=>∃ i j:Int,vs=[.int i,.int j]/\(-(2 ^ 62)<=i/\i < 2 ^ 62/\-(2 ^ 62)<=j/\j < 2 ^ 62)/\R (ED i (j - i).toNat) H1
theorem xB {a:M0} {ta:TA} {p pos:Pos} (hg:Gl X "range") (hm:X.mg "range"=none) (ha:PA X [a] ta) (hs:M1 [a] X.env=[(false,eval a X.env)]:=by rfl):PI X tg (.Call (.Name "range" p) [a] [] pos) (El ta):=by
 intro pins s σ H R I h
 refine Call_ (lC I hg hm boot_range (Mw (dH (ha pos pins s σ H _ I h) fun us s1 ⟨vs,H1,I1,r1,q1⟩=>?_) hs rfl))
 obtain⟨j,e,q1,q2,q⟩:=q1
 subst e
 cases r1 with
 | cons r rr =>
  cases rr
  obtain⟨t,rfl⟩:=r
  exact call_range_1 (tU I1 ‹0› ‹0› q1 q2 (by simpa using q))
theorem xY {a b:M0} {ta:TA} {p pos:Pos} (hg:Gl X "range") (hm:X.mg "range"=none) (ha:PA X [a,b] ta) (hs:M1 [a,b] X.env=[(false,eval a X.env),(false,eval b X.env)]:=by rfl) (hs2:M1 [b] X.env=[(false,eval b X.env)]:=by rfl) :
  PI X tg (.Call (.Name "range" p) [a,b] [] pos) (Fk ta):=by
 intro pins s σ H R I h
 refine Call_ (lC I hg hm boot_range (Mw (dH (ha pos pins s σ H _ I h) fun us s1 ⟨vs,H1,I1,r1,q1⟩=>?_) (by rw [hs,hs2]) (by rw [hs2]; rfl)))
 obtain⟨i,j,e,⟨q1,q2,q3,q4⟩,q⟩:=q1
 subst e
 cases r1 with
 | cons r rr =>
  cases rr with
  | cons r' rr =>
   cases rr
   obtain⟨t,rfl⟩:=r
   obtain⟨t',rfl⟩:=r'
   exact call_range_2 (tU I1 q1 q2 q3 q4 q)

def GP (wi:TI) (g:TG) (tb:TS):TS:=fun D σ H=>wi σ H fun J H1=>∃ W:Nat->Nat->St->Hp->Prop,(∃ m,W 0 m σ H1)/\∀ i m σ H,W i m σ H ->
 (J.stop i H/\D.nx σ H)\/(J.go i H/\∃ N:St->Hp->Prop,(∀ σ' H',N σ' H'->∃ m',m' < m/\W (i+1) m' σ' H')/\∀ x H',J.yld i H x H'->g x σ H' fun σ2 H2=>tb { D with nx:=N,ct:=N,bk:=D.nx } σ2 H2)
def pC (fp:List MP) (h:MR):List (MP×Obj):=fp.filterMap fun b=>(h.get? b).map fun o=>(b,o)
theorem iT {fp:List MP} {h:MR} {b:MP} {o:Obj} (hb:b∈fp) (e:h.get? b=some o):(b,o)∈pC fp h:=List.mem_filterMap.mpr ⟨b,hb,by rw [e]; rfl⟩
theorem xE {fp:List MP} {h:MR} {p:MP×Obj} (hp:p∈pC fp h):p.1∈fp/\h.get? p.1=some p.2:=by
 obtain⟨b,hb,e⟩:=List.mem_filterMap.mp hp
 cases q:h.get? b with
 | none=>rw [q] at e; cases e
 | some o =>
  rw [q] at e
  have e':(b,o)=p:=Option.some.inj e
  subst e'
  exact⟨hb,q⟩
theorem Inv.pinned {pins:List (MP×Obj)} {σ:St} {H:Hp} {s:MX} {fp:List MP} (I:Inv X pins σ H s) (hf:∀ b∈fp,p4 X pins H b) (ho:∀ b∈fp,∃ o,s.heap.get? b=some o/\∀ v,o.data≠.cell v):Inv X (pins++pC fp s.heap) σ H s :=
 I.pins_of fun p hp=>(List.mem_append.mp hp).elim (fun z=>I.pin p (Jx _ z)) fun z=>by
  obtain⟨hb,e⟩:=xE z
  obtain⟨f0,f1,f2,_⟩:=hf p.1 hb
  obtain⟨o,e',d⟩:=ho p.1 hb
  rw [e] at e'; cases e'
  exact⟨e,f0,f1,f2,d⟩
theorem Inv.unpinned {pins pl:List (MP×Obj)} {σ:St} {H:Hp} {s:MX} (I:Inv X (pins++pl) σ H s):Inv X pins σ H s:=I.pins_of fun p hp=>I.pin p (Jx _ (Js _ hp))
theorem Ct {iter:M0} {body:List M2} {wi:TI} {g:TG} {tb:TS} {pos:Pos} (hp:M9 (model X.prog X.w) X.A X.env X.xe) (hc:X.calm=true) (hi:PI X tg iter wi) (hg:PG X tg g) (hb:tq X body tb)
  (hs:∀ x,Nb iter X.env x=pure x:=by intro _; rfl):PS X (.For tg iter body [] pos) (GP wi g tb):=by
 intro pins s σ H D I h
 refine wpAny_For (dH (hi pins s σ H _ I h) fun v s1 h1=>dH h1 fun itv s2 h2=>?_) hs
 obtain⟨it,fp,tn,J,H2,e,I2,T,st2,f2,W,⟨m0,w0⟩,turn⟩:=h2
 subst e
 have stat:∀ {H':Hp},(∀ b∈fp,H' b=none)->∀ b∈fp,p4 X pins H' b:=fun hn b hb=>⟨hn b hb,(f2 b hb).2⟩
 refine codeAny_forLoop_any (fun n s'=>∃ i σ' H',Inv X pins σ' H' s'/\tn i s'.heap/\(∀ b∈fp,H' b=none)/\W i n σ' H') ?_ m0 ⟨0,σ,H2,I2,st2,fun b hb=>(f2 b hb).1,w0⟩
 rintro n s3 ⟨i,σ3,H3,I3,st3,fr3,w3⟩
 rcases turn i n σ3 H3 w3 with ⟨stop,qn⟩ | ⟨go,N,hN,step⟩
 ·refine Nc hp (dH (T.done X rfl rfl rfl hc i pins s3 σ3 H3 X.xe I3 (stat fr3) st3 stop) fun r s4 ⟨hr,I4⟩=>?_)
  subst hr
  exact M5 ⟨σ3,H3,I4,qn⟩
 ·refine Nc hp (dH (T.item X rfl rfl rfl hc i pins s3 σ3 H3 X.xe I3 (stat fr3) st3 go) fun r s4 ⟨u,hr,h4⟩=>?_)
  subst hr
  refine Nc hp (dH h4 fun _ s5 ⟨x,H5,I5,r5,y5,st5,fr5⟩=>?_)
  have I5':=I5.pinned (stat fr5) (T.obj _ _ st5)
  refine Nc hp (dH (hg _ s5 σ3 H5 x u _ I5' r5 (step x H5 y5)) fun _ s6 ⟨σ6,H6,I6,q6⟩=>?_)
  refine Nc hp (dH (hb _ s6 σ6 H6 _ I6 q6) fun f s7 q7=>?_)
  have again:∀ {σ7:St} {H7:Hp},Inv X (pins++pC fp s5.heap) σ7 H7 s7->N σ7 H7->∃ m,m < n/\∃ i σ' H',Inv X pins σ' H' s7/\tn i s7.heap/\(∀ b∈fp,H' b=none)/\W i m σ' H':=fun {σ7 H7} I7 n7=>by
   obtain⟨m',hm,w7⟩:=hN σ7 H7 n7
   refine⟨m',hm,i+1,σ7,H7,I7.unpinned,T.keep _ _ _ st5 fun b hb o e=>(I7.pin (b,o) (Jx _ (Jx _ (iT hb e)))).1,fun b hb=>?_,w7⟩
   obtain⟨o,e,d⟩:=T.obj _ _ st5 b hb
   exact(I7.pin (b,o) (Jx _ (Jx _ (iT hb e)))).2.1
  cases f with
  | next=>obtain⟨σ7,H7,I7,n7⟩:=q7; exact again I7 n7
  | cont=>obtain⟨σ7,H7,I7,n7⟩:=q7; exact again I7 n7
  | brk=>obtain⟨σ7,H7,I7,q7⟩:=q7; exact⟨σ7,H7,I7.unpinned,q7⟩
  | ret v=>obtain⟨x7,σ7,H7,I7,r7,q7⟩:=q7; exact⟨x7,σ7,H7,I7.unpinned,r7,q7⟩
end

end L2

namespace L2
open PySem PySem.Spec PyProof.Rows

abbrev R2:=V->V->Hp->VK->Prop
def kU (X:Cx) (f:MM->MM->Sem MM) (r:R2):Prop :=
 ∀ (pins:List (MP×Obj)) (s:MX) (σ:St) (H:Hp) (x y:V) (v u:MM) (Q:VK),Inv X pins σ H s->RelV x v->RelV y u->r x y H Q ->
  MZ (model X.prog X.w) X.A (f v u) (EP X pins σ Q) X.xe s
def HP (X:Cx) (f:MM->Sem MM) (r:V->Hp->VK->Prop):Prop :=
 ∀ (pins:List (MP×Obj)) (s:MX) (σ:St) (H:Hp) (x:V) (v:MM) (Q:VK),Inv X pins σ H s->RelV x v->r x H Q ->
  MZ (model X.prog X.w) X.A (f v) (EP X pins σ Q) X.xe s
def dq (X:Cx) (f:MM) (r:List V->Hp->VK->Prop):Prop :=
 ∀ (pins:List (MP×Obj)) (s:MX) (σ:St) (H:Hp) (xs:List V) (us:List MM) (Q:VK),Inv X pins σ H s->Vals xs us->r xs H Q ->
  MZ (model X.prog X.w) X.A (call f us) (EP X pins σ Q) X.xe s
def HL (X:Cx) (r:V->Hp->(Bool->Hp->Prop)->Prop):Prop :=
 ∀ (pins:List (MP×Obj)) (s:MX) (σ:St) (H:Hp) (x:V) (v:MM) (Q:Bool->Hp->Prop),Inv X pins σ H s->RelV x v->r x H Q ->
  MZ (model X.prog X.w) X.A (truthy v) (TP X pins σ Q) X.xe s

def EH (r:R2) (ta tb:TE):TE:=fun σ H Q=>ta σ H fun x H1=>tb σ H1 fun y H2=>r x y H2 Q
def IE (r:V->Hp->VK->Prop) (ta:TE):TE:=fun σ H Q=>ta σ H fun x H1=>r x H1 Q
def rI (C:Int->Int->Prop) (g:Int->Int->V):R2:=fun x y H Q=>∃ i j,x=.int i/\y=.int j/\C i j/\Q (g i j) H
def BI (g:Int->Int->V):R2:=fun x y H Q=>∃ i j,x=.int i/\y=.int j/\Q (g i j) H
def rU (g:Int->V):V->Hp->VK->Prop:=fun x H Q=>∃ i,x=.int i/\Q (g i) H

section
variable {X:Cx} {a b c:M0} {ta tb tc:TE} {pos:Pos}

theorem Df (ha:PE X a ta) (hb:PE X b tb) {pins:List (MP×Obj)} {s:MX} {σ:St} {H:Hp} {R:V->V->Hp->Prop} (I:Inv X pins σ H s)
  (h:ta σ H fun x H1=>tb σ H1 fun y H2=>R x y H2) {Q:MM->MX->Prop} {f:MM->MM->Sem MM}
  (hf:∀ v u s2 x y H2,Inv X pins σ H2 s2->RelV x v->RelV y u->R x y H2->MZ (model X.prog X.w) X.A (f v u) Q X.xe s2) :
  MZ (model X.prog X.w) X.A (eval a X.env) (fun v s₁=>MZ (model X.prog X.w) X.A (eval b X.env) (fun u s₂=>MZ (model X.prog X.w) X.A (f v u) Q X.xe s₂) X.xe s₁) X.xe s:=by
 refine dH (ha pins s σ H _ I h) fun v s1 ⟨x,H1,I1,r1,q1⟩=>?_
 refine dH (hb pins s1 σ H1 _ I1 q1) fun u s2 ⟨y,H2,I2,r2,q2⟩=>?_
 exact hf v u s2 x y H2 I2 r1 r2 q2

theorem Fb {op:Operator} {r:R2} (ho:kU X (Nf op) r) (ha:PE X a ta) (hb:PE X b tb):PE X (.BinOp a op b pos) (EH r ta tb):=by
 intro pins s σ H Q I h
 exact wpAny_BinOp (Df ha hb I h fun v u s2 x y H2 I2 rx ry q=>ho pins s2 σ H2 x y v u Q I2 rx ry q)
theorem EY {op:UnaryOp} {r:V->Hp->VK->Prop} (ho:HP X (unaryOp op) r) (ha:PE X a ta):PE X (.UnaryOp op a pos) (IE r ta):=by
 intro pins s σ H Q I h
 exact UnaryOp_ (dH (ha pins s σ H _ I h) fun v s1 ⟨x,H1,I1,r1,q1⟩=>ho pins s1 σ H1 x v Q I1 r1 q1)
theorem EX {f:MM->MM->Sem MM} {C:Int->Int->Prop} {g:Int->Int->Int}
  (rule:∀ (i j:Int) (t u:Tok) (s:MX) (Q:MM->MX->Prop) (E:MM->MX->Prop),C i j->Q (.int (g i j) s.toks) { s with toks:=s.toks+1 }->MZ (model X.prog X.w) X.A (f (.int i t) (.int j u)) Q E s) :
  kU X f (rI C fun i j=>.int (g i j)):=by
 intro pins s σ H x y v u Q I rx ry h
 obtain⟨i,j,rfl,rfl,hc,q⟩:=h
 obtain⟨t,rfl⟩:=rx
 obtain⟨t',rfl⟩:=ry
 exact rule i j t t' s _ _ hc ⟨.int (g i j),H,I.tok _,⟨_,rfl⟩,q⟩
theorem CP {f:MM->MM->Sem MM} {g:Int->Int->Int}
  (rule:∀ (i j:Int) (t u:Tok) (s:MX) (Q:MM->MX->Prop) (E:MM->MX->Prop),Q (.int (g i j) s.toks) { s with toks:=s.toks+1 }->MZ (model X.prog X.w) X.A (f (.int i t) (.int j u)) Q E s) :
  kU X f (BI fun i j=>.int (g i j)):=by
 intro pins s σ H x y v u Q I rx ry h
 obtain⟨i,j,rfl,rfl,q⟩:=h
 obtain⟨t,rfl⟩:=rx
 obtain⟨t',rfl⟩:=ry
 exact rule i j t t' s _ _ ⟨.int (g i j),H,I.tok _,⟨_,rfl⟩,q⟩
theorem G0 {f:MM->MM->Sem MM} {g:Int->Int->Bool}
  (rule:∀ (i j:Int) (t u:Tok) (s:MX) (Q:MM->MX->Prop) (E:MM->MX->Prop),Q (.bool (g i j)) s->MZ (model X.prog X.w) X.A (f (.int i t) (.int j u)) Q E s) :
  kU X f (BI fun i j=>.bl (g i j)):=by
 intro pins s σ H x y v u Q I rx ry h
 obtain⟨i,j,rfl,rfl,q⟩:=h
 obtain⟨t,rfl⟩:=rx
 obtain⟨t',rfl⟩:=ry
 exact rule i j t t' s _ _ ⟨.bl (g i j),H,I,rfl,q⟩

def Ei (i j:Int):Prop:=0<=j/\j<=1000000/\i.natAbs < 2 ^ 64
def CC (i j:Int):Prop:=(-(2 ^ 64) < i/\i < 2 ^ 64)\/(-(2 ^ 64) < j/\j < 2 ^ 64)
theorem CC.ok {i j:Int} (h:CC i j):IntMulOk i j:=by
 rcases h with ⟨h1,h2⟩ | ⟨h1,h2⟩
 ·exact .of_left (intBits_le_64 h1 h2)
 ·exact .of_right (intBits_le_64 h1 h2)
theorem vO (k:Nat):(0:Int)<=2 ^ k:=by
 rw [two_pow_cast]
 exact Jy _

theorem Dd:kU X (Nf .Add) (BI fun i j=>.int (i+j)):=CP fun _ _ _ _ _ _ _ q=>add_int q
theorem mQ:kU X (Nf .Sub) (BI fun i j=>.int (i - j)):=CP fun _ _ _ _ _ _ _ q=>sub_int q
theorem hZ:kU X (Nf .Mult) (rI CC fun i j=>.int (i*j)):=EX fun _ _ _ _ _ _ _ hc q=>mul_int q hc.ok
theorem bb:kU X (Nf .Mod) (rI (fun _ j=>0 < j) fun i j=>.int (i%j)):=EX fun i j _ _ _ _ _ hc q=>by
 have h1:(0:Int) < j:=hc
 exact mod_int' ‹0› (by rw [Int.fmod_eq_emod_of_nonneg i ‹0›]; exact q)
theorem mU:kU X (Nf .Pow) (rI Ei fun i j=>.int (i ^ j.toNat)):=EX fun _ _ _ _ _ _ _ hc q=>pow_int_small hc.1 hc.2.1 hc.2.2 q
theorem Dw:kU X (Nf .RShift) (rI (fun _ j=>0<=j) fun i j=>.int (i / 2 ^ j.toNat)):=EX fun i j _ _ _ _ _ hc q =>
 rshift_int hc (by rw [Jz i (vO _)]; exact q)
theorem DZ:kU X (Nf .BitAnd) (BI fun i j=>.int (Builtin.bitAnd i j)):=CP fun _ _ _ _ _ _ _ q=>and_int q
theorem IR {f:MM->Sem MM} {g:Int->Int}
  (rule:∀ (i:Int) (t:Tok) (s:MX) (Q:MM->MX->Prop) (E:MM->MX->Prop),Q (.int (g i) s.toks) { s with toks:=s.toks+1 }->MZ (model X.prog X.w) X.A (f (.int i t)) Q E s) :
  HP X f (rU fun i=>.int (g i)):=by
 intro pins s σ H x v Q I rx h
 obtain⟨i,rfl,q⟩:=h
 obtain⟨t,rfl⟩:=rx
 exact rule i t s _ _ ⟨.int (g i),H,I.tok _,⟨_,rfl⟩,q⟩
theorem CV:HP X (unaryOp .USub) (rU fun i=>.int (-i)):=IR fun _ _ _ _ _ q=>neg_int q
end

section
variable {X:Cx} {a b c:M0} {ta tb tc:TE} {pos:Pos}
theorem Au {pins:List (MP×Obj)} {σ:St} {H:Hp} {s:MX} {Q:VK} {k k':Bool} (I:Inv X pins σ H s) (q:Q (.bl k) H) (e:k=k'):EP X pins σ Q (.bool k') s:=by
 subst e
 exact⟨.bl k,H,I,rfl,q⟩
theorem ER:kU X (Ng .Lt) (BI fun i j=>.bl (decide (i < j))):=G0 fun _ _ _ _ _ _ _ q=>lt_int q
theorem yQ:kU X (Ng .Lt) (fun x y H Q=>∃ i j,x=.str i/\y=.str j/\Q (.bl (decide (i.cps.toList < j.cps.toList))) H):=by
 intro pins s σ H x y v u Q I rx ry h
 obtain⟨i,j,rfl,rfl,q⟩:=h
 obtain⟨t,rfl⟩:=rx
 obtain⟨t',rfl⟩:=ry
 exact lt_str (Au I q rfl)
theorem cw (b:M0) {op:CmpOp} (h:op≠.In:=by decide) (h2:op≠.NotIn:=by decide):Nh op b=false:=by
 have e1:(op==CmpOp.In)=false:=by cases op <;> first | rfl | exact absurd rfl h
 have e2:(op==CmpOp.NotIn)=false:=by cases op <;> first | rfl | exact absurd rfl h2
 cases b <;> simp [Nh,e1,e2]
theorem Bq {op:CmpOp} {r:R2} (ho:kU X (Ng op) r) (ha:PE X a ta) (hb:PE X b tb) (hm:Nh op b=false):PE X (.Compare a [op] [b] pos) (EH r ta tb):=by
 intro pins s σ H Q I h
 exact wpAny_Compare1 (Df ha hb I h fun v u s2 x y H2 I2 rx ry q=>ho pins s2 σ H2 x y v u Q I2 rx ry q) hm
def Cj (t:TE):TT:=fun σ H Q=>t σ H fun x H'=>∃ k,x=.bl k/\Q k H'
theorem BO {op:CmpOp} {r:R2} (ho:kU X (Ng op) r) (ha:PE X a ta) (hb:PE X b tb) (hm:Nh op b=false):PT X (.Compare a [op] [b] pos) (Cj (EH r ta tb)):=by
 intro pins s σ H Q I h
 refine wpAny_isTrue_Compare1 (dH (ha pins s σ H _ I h) fun v s1 ⟨x,H1,I1,r1,q1⟩=>dH (hb pins s1 σ H1 _ I1 q1) fun u s2 ⟨y,H2,I2,r2,q2⟩ =>
  dH (ho pins s2 σ H2 x y v u _ I2 r1 r2 q2) fun c s3 ⟨z,H3,I3,r3,k,e,q3⟩=>?_) hm
 subst e
 cases r3
 exact M4 ⟨H3,I3,q3⟩
def Fj (K:LQ) (x:V) (H:Hp) (k:Bool):Prop :=
 match x with
 | .non=>k=false
 | .bl b=>k=b
 | .int i=>k=(i != 0)
 | .str y=>y.length<=MS/\k=((y.length:Int) != 0)
 | .byt y=>y.size<=MS/\k=((y.size:Int) != 0)
 | .ref p=>(∃ xs,lU K H p xs/\k=!xs.isEmpty)\/(∃ xs,nL K H p xs/\k=!xs.isEmpty)\/∃ kvs,H p=some (.dK kvs)/\k=!kvs.isEmpty
 | _=>False
theorem vA {κ:Type} {kvs:List (κ×V)} {vs:List (κ×MM)} (r:KV kvs vs):(!vs.isEmpty)=!kvs.isEmpty:=by
 cases r <;> rfl
theorem pH {xs:List V} {its:List MM} (r:Vals xs its):(!its.toArray.isEmpty)=!xs.isEmpty:=by
 cases r <;> simp
theorem mM:(MS:Nat) < 2 ^ 63:=by rw [Ni]; decide
theorem CY:HL X (fun x H Q=>∃ k,Fj X.K x H k/\Q k H):=by
 intro pins s σ H x v Q I rx h
 obtain⟨k,e,q⟩:=h
 have hl:=mM
 have hs:MS=16777216:=Ni
 cases x with
 | non =>
  cases rx
  have e':k=false:=e
  subst e'
  exact truthy_none ⟨H,I,q⟩
 | bl b =>
  cases rx
  have e':k=b:=e
  subst e'
  exact M4 ⟨H,I,q⟩
 | int i =>
  obtain⟨t,rfl⟩:=rx
  have e':k=(i != 0):=e
  subst e'
  exact PySem.P.truthy_int ⟨H,I,q⟩
 | str y =>
  obtain⟨t,rfl⟩:=rx
  obtain⟨hy,e'⟩:y.length<=MS/\k=((y.length:Int) != 0):=e
  subst e'
  exact PySem.P.truthy_str ‹0› ⟨H,I.tok _,q⟩
 | byt y =>
  obtain⟨t,rfl⟩:=rx
  obtain⟨hy,e'⟩:y.size<=MS/\k=((y.size:Int) != 0):=e
  subst e'
  exact PySem.W.truthy_bytes ‹0› ⟨H,I.tok _,q⟩
 | ref p =>
  cases rx
  have e':(∃ xs,lU X.K H p xs/\k=!xs.isEmpty)\/(∃ xs,nL X.K H p xs/\k=!xs.isEmpty)\/∃ kvs,H p=some (.dK kvs)/\k=!kvs.isEmpty:=e
  rcases e' with ⟨xs,hx,e'⟩ | ⟨xs,hx,e'⟩ | ⟨kvs,hx,e'⟩
  ·subst e'
   obtain⟨its,r,pl,hz⟩:=I.list hx
   have hlen:=r.length
   exact wpAny_truthy_list pl.isList (by simp only [JA]; omega) ⟨H,I.tok _,by rw [pH r]; exact q⟩
  ·subst e'
   obtain⟨its,r,pl,hz⟩:=I.tuple hx
   have hlen:=r.length
   exact truthy_tuple pl (by simp only [JA]; omega) ⟨H,I.tok _,by rw [pH r]; exact q⟩
  ·subst e'
   obtain⟨hz,hS,vs,r,m⟩:kvs.length<=MS/\(p==sysModules)=false/\∃ vs,KV kvs vs/\s.heap.DictOf (bE X.prog X.w) p vs:=I.hok p _ hx
   have hlen:kvs.length=vs.length:=Paired.length r
   exact wpAny_truthy_dict hS m ‹0› ⟨H,I.tok _,by rw [vA r]; exact q⟩
 | _=>exact(show False from e).elim
theorem zr (ha:PE X a ta) (he:∀ whole,isTrue a X.env whole=(do let v <- whole; standAt a.pos; holding [v] (truthy v))) :
  PT X a (fun σ H Q=>ta σ H fun x H'=>∃ k,Fj X.K x H' k/\Q k H'):=by
 intro pins s σ H Q I h
 exact isTrue_plain (dH (ha pins s σ H _ I h) fun v s1 ⟨x,H1,I1,r1,q1⟩=>CY pins s1 σ H1 x v Q I1 r1 q1) (he _)

theorem vk:kU X (Nf .Add) (fun x y H Q=>∃ i j,x=.str i/\y=.str j/\i.length+j.length<=MS/\Q (.str (i++j)) H):=by
 intro pins s σ H x y v u Q I rx ry h
 obtain⟨i,j,rfl,rfl,hz,q⟩:=h
 obtain⟨t,rfl⟩:=rx
 obtain⟨t',rfl⟩:=ry
 exact add_str (fun t' tk=>⟨.str (i++j),H,I.tok _,⟨_,rfl⟩,q⟩) hz
theorem vals1 {x:V} {us:List MM} (r:Vals [x] us):∃ u,us=[u]/\RelV x u:=by
 cases r with
 | cons r1 r2=>cases r2; exact⟨_,rfl,r1⟩
theorem vals2 {x y:V} {us:List MM} (r:Vals [x,y] us):∃ u w',us=[u,w']/\RelV x u/\RelV y w':=by
 cases r with
 | cons r1 r2 =>
  cases r2 with
  | cons r3 r4=>cases r4; exact⟨_,_,rfl,r1,r3⟩
theorem yM (hc:X.calm=true):dq X (.builtin "max") (fun xs H Q=>∃ i j,xs=[.int i,.int j]/\Q (.int (if j > i then j else i)) H):=by
 intro pins s σ H xs us Q I r h
 obtain⟨i,j,rfl,q⟩:=h
 obtain⟨u,w',rfl,⟨t,rfl⟩,⟨t',rfl⟩⟩:=vals2 r
 refine max_two_ints (I.ok.hd hc) fun h' tk k=>⟨_,H,I.kept k,?_,q⟩
 by_cases hj:j > i
 ·rw [if_pos hj,if_pos hj]; exact⟨_,rfl⟩
 ·rw [if_neg hj,if_neg hj]; exact⟨_,rfl⟩
theorem x6 (hc:X.calm=true):dq X (.builtin "min") (fun xs H Q=>∃ i j,xs=[.int i,.int j]/\Q (.int (if j < i then j else i)) H):=by
 intro pins s σ H xs us Q I r h
 obtain⟨i,j,rfl,q⟩:=h
 obtain⟨u,w',rfl,⟨t,rfl⟩,⟨t',rfl⟩⟩:=vals2 r
 refine min_two_ints (I.ok.hd hc) fun h' tk k=>⟨_,H,I.kept k,?_,q⟩
 by_cases hj:j < i
 ·rw [if_pos hj,if_pos hj]; exact⟨_,rfl⟩
 ·rw [if_neg hj,if_neg hj]; exact⟨_,rfl⟩
theorem rj:dq X (.type "int") (fun xs H Q=>(∃ i,xs=[.int i]/\Q (.int i) H)\/∃ k,xs=[.bl k]/\Q (.int (if k then 1 else 0)) H):=by
 intro pins s σ H xs us Q I r h
 rcases h with ⟨i,rfl,q⟩ | ⟨k,rfl,q⟩
 ·obtain⟨u,rfl,t,rfl⟩:=vals1 r
  exact call_int_int ⟨.int i,H,I,⟨_,rfl⟩,q⟩
 ·obtain⟨u,rfl,r1⟩:=vals1 r
  cases r1
  exact call_int_bool ⟨.int (if k then 1 else 0),H,I.tok _,⟨_,rfl⟩,q⟩
end
end L2

namespace L2
open PySem PySem.Spec PyProof.Rows

structure yu (h:MR) (x dx C:MP) (mA:Str->Option MM):Prop where
 obj:h.get? x=some (LN C dx)
 ns:h.Ns1 dx mA
 ne:dx≠x

theorem yf {h:MR} {dx:MP} {mA:Str->Option MM} (n:h.Ns1 dx mA):∃ od,h.get? dx=some od/\∀ name,LR name od=some (mA name):=by
 obtain⟨o,es,ep,ho,hd,hk,_,hm⟩:=n
 refine⟨o,ho,fun name=>?_⟩
 have e:=hm name
 unfold nsFind findBy at e
 rw [<- Array.find?_toList] at e
 unfold LR
 rw [hd]
 dsimp only
 split
 ·rename_i y q
  rw [q] at e
  exact congrArg some e
 ·rename_i q
  rw [q] at e
  have a:es.toList.any (·.refKey)=false:=by
   rw [List.any_eq_false]
   intro y hy
   obtain⟨z,t,hkey⟩:=hk y (Array.mem_toList_iff.mp hy)
   simp [DictEntry.refKey,hkey]
  have a':¬ es.toList.any (·.refKey)=true:=by rw [a]; exact JB
  rw [if_neg a']
  exact congrArg some e

theorem yu.look {h:MR} {x dx C:MP} {mA:Str->Option MM} (I:yu h x dx C mA):∃ od,PySem.W.InstAt h x (LN C dx) C (some od)/\∀ name,LR name od=some (mA name) :=
 let ⟨od,ho,hl⟩:=yf I.ns
 ⟨od,⟨I.obj,rfl,rfl,ho⟩,hl⟩

section
variable {prog:MO} {w:MN} {A:MV} {E:MM->MX->Prop} {s:MX} {K:LQ} {x dx C f:MP} {mA:Str->Option MM} {name:Str} {v:MM}

theorem BH {expr:Bool} {Q:MM->MX->Prop} (X:K.In s.heap) (I:yu s.heap x dx C mA) (hg:LU K C name=true) (hh:LV K C=true)
  (ha:LW K (.ref C) name=some none) (hv:mA name=some v) (hv':LX v=true) (h:Q v { s with toks:=s.toks+1 }) :
  MZ (model prog w) A (getAttr (.ref x) name expr) Q E s:=by
 obtain⟨od,J,hl⟩:=I.look
 exact PySem.W.get_value X J (LY hg).1 (PySem.W.findObj_own hh ha rfl (by rw [hl,hv])) hv' h

theorem y6 {pl:Sem Bool} {Q:MM×List MM->MX->Prop} (X:K.In s.heap) (I:yu s.heap x dx C mA) (hg:LU K C name=true)
  (hf:LW K (.ref C) name=some (some (.ref f))) (ht:LZ K (.ref f)=true) (hv:mA name=none) (h:Q (.ref f,[.ref x]) s) :
  MZ (model prog w) A (getMethod (.ref x) name pl) Q E s:=by
 obtain⟨od,J,hl⟩:=I.look
 exact PySem.W.method_fn X J (LY hg).1 (LY hg).2 hf (beq_iff_eq.mp ht) (by show (LR name od).map (·.isSome)=some false; rw [hl,hv]; rfl) h

theorem Bw {ns:List Str} {Q:Unit->MX->Prop} (X:K.In s.heap) (I:yu s.heap x dx C mA)
  (hs:LW K (.ref C) "__setattr__"=some (some (.builtin "object.__setattr__"))) (hp:L1 K C=true) (ht:L3 K C name=some none) (hh:LV K C=true)
  (hw:PySem.Within mA ns) (hsz:ns.length<=MS)
  (h:∀ h',yu h' x dx C (fun y=>if y=name then some v else mA y)->Mp dx s.heap h'->Q () { s with heap:=h',toks:=s.toks+2 }) :
  MZ (model prog w) A (setAttr (.ref x) name v) Q E s:=by
 obtain⟨od,J,hl⟩:=I.look
 refine PySem.W.set_plain X J hs (PySem.W.osa_open (s:={ s with toks:=s.toks+1 }) (r:=none) X J hp ht fun b=>?_)
 obtain⟨cd,hc,hd'⟩:=PySem.W.any_some hh
 have hx:s.heap.get? x=some ⟨.ref C,some dx,.plain,#[]⟩:=I.obj
 refine M7 (M6 (M7 (M7 (wpAny_loadPart hx (M7 (PySem.W.Looks.here (s:={ s with toks:=s.toks+1 }) (PySem.W.looks_clsIn X hc) ?_))))))
 rw [hd']
 refine M6 (a:=some dx) (M7 (M6 (M7 ?_)))
 refine wpAny_nsSet1 (s:={ s with toks:=s.toks+1 }) I.ns fun h' hn2 hs2=>?_
 obtain⟨oD,esD,epD,hoD,hdD,hcD⟩:=hn2.count (PySem.Within.cons name v hw)
 refine M7 (wpAny_lookBehind hoD (by rw [hdD]; exact pastItsLine_dict (Jn hcD (by rw [JC]; omega))) ?_)
 exact M6 (h _ ⟨(hs2.2 _ (Ne.symm I.ne)).trans I.obj,hn2,I.ne⟩ hs2)

theorem zZ {R:Result->MX->Prop} {vs:List MM} {kw:List (Str×MM)} (X:K.In s.heap) (hm:L4 K C=true)
  (hi:LW K (.ref C) "__init__"=some (some (.ref f))) (hf:PySem.W.typeIn K (.ref f)=some (.type "function"))
  (h:Nj (model prog w) (A.under (.builtin "type.__call__" ⟨.ref C::vs,kw⟩)) (.call (.ref f) ⟨.ref (s.heap.objs.size+1)::vs,kw⟩) (PySem.W.InitBack (s.heap.objs.size+1) R)
   { s with heap:=(s.heap.push L5).push (LN C s.heap.objs.size) }) :
  Nj (model prog w) A (.call (.ref C) ⟨vs,kw⟩) R s:=by
 obtain⟨hh,g,d,t,os⟩:=s
 exact PySem.W.make_core (PySem.W.makes_of X hm) (PySem.W.looks_findIn X hi) (fun self=>PySem.W.bind_fn X self hf) (.inl rfl) h
end

def jv (f:Str) (v:V):List (Str×V)->List (Str×V)
 | []=>[(f,v)]
 | (g,x)::r=>if g=f then (g,v)::r else (g,x)::jv f v r
theorem nS (f g:Str) (v:V):∀ fs:List (Str×V),(jv f v fs).lookup g=if g=f then some v else fs.lookup g
 | []=>by
  show List.lookup g [(f,v)]=_
  by_cases h:g=f
  ·have hb:(g==f)=true:=beq_iff_eq.mpr h
   simp only [List.lookup,hb,if_pos h]
  ·have hb:(g==f)=false:=beq_eq_false_iff_ne.mpr h
   simp only [List.lookup,hb,if_neg h]
 | (k,x)::r=>by
  have ih:=nS f g v r
  rw [show jv f v ((k,x)::r)=(if k=f then (k,v)::r else (k,x)::jv f v r) from rfl]
  by_cases hk:k=f
  ·rw [if_pos hk]
   by_cases h:g=k
   ·have hb:(g==k)=true:=beq_iff_eq.mpr h
    simp only [List.lookup,hb,if_pos (h.trans hk)]
   ·have hb:(g==k)=false:=beq_eq_false_iff_ne.mpr h
    simp only [List.lookup,hb,if_neg (fun e:g=f=>h (e.trans hk.symm))]
  ·rw [if_neg hk]
   by_cases h:g=k
   ·have hb:(g==k)=true:=beq_iff_eq.mpr h
    simp only [List.lookup,hb,if_neg (fun e:g=f=>hk (h.symm.trans e))]
   ·have hb:(g==k)=false:=beq_eq_false_iff_ne.mpr h
    simp only [List.lookup,hb]
    exact ih
theorem nI (f:Str) (v:V):∀ fs:List (Str×V),f∈(jv f v fs).map (·.1)/\∀ g,g∈fs.map (·.1)->g∈(jv f v fs).map (·.1)
 | []=>⟨by simp [jv],fun g h=>by simp at h⟩
 | (k,x)::r=>by
  obtain⟨i1,i2⟩:=nI f v r
  rw [show jv f v ((k,x)::r)=(if k=f then (k,v)::r else (k,x)::jv f v r) from rfl]
  by_cases hk:k=f
  ·rw [if_pos hk]
   subst hk
   exact⟨by simp,fun g h=>by simpa using h⟩
  ·rw [if_neg hk]
   refine⟨?_,fun g h=>?_⟩
   ·rw [JD]
    exact Jr _ i1
   ·rw [JD] at h ⊢
    rcases List.mem_cons.mp h with e | e
    ·exact List.mem_cons.mpr (.inl e)
    ·exact Jr _ (i2 g e)
theorem nQ (f:Str) (v:V):∀ fs:List (Str×V),(jv f v fs).length<=fs.length+1
 | []=>by simp [jv]
 | (k,x)::r=>by
  have ih:=nQ f v r
  rw [show jv f v ((k,x)::r)=(if k=f then (k,v)::r else (k,x)::jv f v r) from rfl]
  by_cases hk:k=f
  ·rw [if_pos hk,JC,JC]; omega
  ·rw [if_neg hk,JC,JC]; omega

theorem oJ.some_of {v:V} {o:Option MM} (r:oJ (some v) o):∃ u,o=some u/\RelV v u:=by
 cases o with
 | none=>exact(show False from r).elim
 | some u=>exact⟨u,rfl,r⟩
theorem oJ.none_of {o:Option MM} (r:oJ none o):o=none:=by
 cases o with
 | none=>rfl
 | some u=>exact(show False from r).elim
theorem ya {v:V} {u:MM} (r:RelV v u):LX u=true:=by
 cases v with
 | non=>cases (show u=Value.none from r); rfl
 | bl b=>cases (show u=Value.bool b from r); rfl
 | int i=>obtain⟨t,e⟩:=(show ∃ t,u=Value.int i t from r); cases e; rfl
 | str x=>obtain⟨t,e⟩:=(show ∃ t,u=Value.str x t from r); cases e; rfl
 | byt b=>obtain⟨t,e⟩:=(show ∃ t,u=Value.bytes b t from r); cases e; rfl
 | flt b=>obtain⟨t,e⟩:=(show ∃ t,u=Value.float b t from r); cases e; rfl
 | ref a=>cases (show u=Value.ref a from r); rfl
 | ty n=>cases (show u=Value.type n from r); rfl

section
variable {P:MO} {w:MN} {H H':Hp} {h h':MR} {a C dx:MP} {fs fs':List (Str×V)}
theorem sP (hok:mr P w H h) (e:H a=some (.ins C dx fs)):∃ mA,yu h a dx C mA/\(∀ f,oJ (fs.lookup f) (mA f))/\PySem.Within mA (fs.map (·.1))/\fs.length<=1000/\H dx=some (.own a):=by
 obtain⟨d,z,ne,ob,mA,n,r,q⟩:=(show cc P w H h a (.ins C dx fs) from hok a _ e)
 exact⟨mA,⟨ob,n,ne⟩,r,q,z,d⟩
end

structure wg (K:LQ) (C:MP):Prop where
 pg:LU K C Str.empty=true
 hd:LV K C=true
 po:L1 K C=true
 sa:LW K (.ref C) "__setattr__"=some (some (.builtin "object.__setattr__"))
theorem wg.get {K:LQ} {C:MP} (c:wg K C) (f:Str):LU K C f=true:=c.pg
def jj (K:LQ) (C:MP) (f:Str):Prop:=LW K (.ref C) f=some none
theorem jj.taker {K:LQ} {C:MP} {f:Str} (n:jj K C f):L3 K C f=some none:=by
 unfold L3
 rw [show LW K (.ref C) f=some none from n]
 rfl
structure Meth (K:LQ) (C:MP) (m:Str) (f:MP):Prop where
 at_:LW K (.ref C) m=some (some (.ref f))
 fn:LZ K (.ref f)=true
 kp:L6 K (.ref f)=true

section
variable {X:Cx} {pins:List (MP×Obj)} {σ:St} {H:Hp} {s:MX} {a C dx:MP} {fs:List (Str×V)} {f:Str} {v:V} {A:MV} {E:MM->MX->Prop}

theorem vt {b:Bool} {Q:MM->MX->Prop} (I:Inv X pins σ H s) (e:H a=some (.ins C dx fs)) (c:wg X.K C) (n:jj X.K C f) (l:fs.lookup f=some v)
  (h:∀ u s',Inv X pins σ H s'->RelV v u->Q u s'):MZ (model X.prog X.w) A (getAttr (.ref a) f b) Q E s:=by
 obtain⟨mA,O,r,_,_,_⟩:=sP I.hok e
 obtain⟨u,hu,ru⟩:=oJ.some_of (v:=v) (o:=mA f) (by rw [<- l]; exact r f)
 exact BH I.kIn O (c.get f) c.hd n hu (ya ru) (h u _ (I.tok _) ru)

theorem vj {m:Str} {g:MP} {pl:Sem Bool} {Q:MM×List MM->MX->Prop} (I:Inv X pins σ H s) (e:H a=some (.ins C dx fs)) (c:wg X.K C) (k:Meth X.K C m g) (l:fs.lookup m=none)
  (h:Q (.ref g,[.ref a]) s):MZ (model X.prog X.w) A (getMethod (.ref a) m pl) Q E s:=by
 obtain⟨mA,O,r,_,_,_⟩:=sP I.hok e
 have hn:mA m=none:=oJ.none_of (by rw [<- l]; exact r m)
 exact y6 I.kIn O (c.get m) k.at_ k.fn hn h

theorem vJ {y:V} {u:MM} {Q:Unit->MX->Prop} (I:Inv X pins σ H s) (e:H a=some (.ins C dx fs)) (c:wg X.K C) (n:jj X.K C f) (hl:fs.length < 1000) (ry:RelV y u)
  (h:∀ s',Inv X pins σ (upd H a (.ins C dx (jv f y fs))) s'->Q () s'):MZ (model X.prog X.w) A (setAttr (.ref a) f u) Q E s:=by
 obtain⟨mA,O,r,wi,_,ho⟩:=sP I.hok e
 have hz:(fs.map (·.1)).length<=MS:=by rw [JE,Ni]; omega
 refine Bw I.kIn O c.sa c.po n.taker c.hd wi hz fun h' O' sb=>h _ ?_
 have hd:∃ o,h'.get? dx=some o:=let ⟨o,_,_,e',_⟩:=O'.ns; ⟨o,e'⟩
 refine I.write (x:=a) (e:=dx) (by rw [e]; exact True.intro) (.inr ho) (fun b q hb z=>(sb.2 b hb).trans z) hd ?_
 refine⟨by rw [aF O.ne]; exact ho,?_,O.ne,O'.obj,_,O'.ns,fun g=>?_,fun g hg=>?_⟩
 ·have:=nQ f y fs; omega
 ·show oJ ((jv f y fs).lookup g) (if g=f then some u else mA g)
  rw [nS]
  by_cases q:g=f
  ·rw [if_pos q,if_pos q]; exact ry
  ·rw [if_neg q,if_neg q]; exact r g
 ·by_cases q:g=f
  ·rw [q]; exact(nI f y fs).1
  ·refine(nI f y fs).2 g (wi g fun z=>hg ?_)
   show (if g=f then some u else mA g)=none
   rw [if_neg q]; exact z

theorem Inv.made (I:Inv X pins σ H s):Inv X pins σ (upd (upd H s.heap.objs.size (.own (s.heap.objs.size+1))) (s.heap.objs.size+1) (.ins C s.heap.objs.size []))
  { s with heap:=(s.heap.push L5).push (LN C s.heap.objs.size) }:=by
 have e1:(s.heap.push L5).get? s.heap.objs.size=some L5:=Mr s.heap rfl
 have e2:((s.heap.push L5).push (LN C s.heap.objs.size)).get? (s.heap.objs.size+1)=some (LN C s.heap.objs.size):=by
  have:=Mr (s.heap.push L5) (o:=LN C s.heap.objs.size) rfl
  rwa [Ms] at this
 have e3:(s.heap.push L5).Ns s.heap.objs.size (fun _=>none):=⟨L5,#[],_,e1,rfl,(fun e he=>absurd he (by simp)),fun _=>rfl⟩
 have I1:=I.laid (a:=s.heap.objs.size) (o:=.own (s.heap.objs.size+1)) (h':=s.heap.push L5) (t':=s.toks) (fun b u q=>Mq _ q) (Jw _) ⟨_,e1⟩
 refine I1.laid (a:=s.heap.objs.size+1) (o:=.ins C s.heap.objs.size []) (t':=s.toks) (fun b u q=>Mq _ q) (JF (Ms _ _)) ?_
 have ne:s.heap.objs.size≠s.heap.objs.size+1:=Jm (Nat.lt_succ_self _)
 refine⟨by rw [aF ne,aN],JG _,ne,e2,fun _=>none,(Heap.Ns1.of_empty e3).at fun o q=>Mq _ q,fun _=>True.intro,fun y hy=>absurd rfl hy⟩

theorem BW {prog:MO} {w:MN} {env:Env} {e:M0} {f:Str} {pos:Pos} {s:MX} {Q:MM->MX->Prop} (hb:Nk e f env (eval e env)=eval e env)
  (h:MZ (model prog w) A (eval e env) (fun o s₁=>MZ (model prog w) A (getAttr o f true) Q E s₁) E s):MZ (model prog w) A (eval (.Attribute e f pos) env) Q E s :=
 Attribute_any_ h (by rw [arm_eval_Attribute,hb])
end

def HB (K:LQ) (ta:TE) (f:Str):TE:=fun σ H Q=>ta σ H fun x H1=>∃ a C dx fs v,x=.ref a/\H1 a=some (.ins C dx fs)/\wg K C/\jj K C f/\fs.lookup f=some v/\Q v H1
def HR (K:LQ) (ta tv:TE) (f:Str):TS:=fun D σ H=>tv σ H fun y H1=>ta σ H1 fun x H2=>∃ a C dx fs,x=.ref a/\H2 a=some (.ins C dx fs)/\wg K C/\jj K C f/\fs.length < 1000 /\
 D.nx σ (upd H2 a (.ins C dx (jv f y fs)))
section
variable {X:Cx} {o e value:M0} {f:Str} {pos pos' tpos:Pos} {ta tv:TE}
theorem CB (he:PE X e ta) (hb:Nk e f X.env (eval e X.env)=eval e X.env):PE X (.Attribute e f pos) (HB X.K ta f):=by
 intro pins s σ H Q I h
 refine BW hb (dH (he pins s σ H _ I h) fun u s1 ⟨x,H1,I1,rx,a,C,dx,fs,v,ex,ea,c,n,l,q⟩=>?_)
 subst ex
 obtain rfl:u=Value.ref a:=rx
 exact vt I1 ea c n l fun u' s2 I2 ru=>⟨v,H1,I2,ru,q⟩
theorem zc (ha:PE X o ta) (hv:PE X value tv) (hs:swapsWith value (some (.Attribute o f pos')) pos.line X.env=pure false):PS X (.Assign [.Attribute o f pos'] value pos) (HR X.K ta tv f):=by
 intro pins s σ H D I h
 refine plainObj_wpAny_Assign_Attribute (dH (hv pins s σ H _ I h) fun u s1 ⟨y,H1,I1,ry,q⟩=>dH (ha pins s1 σ H1 _ I1 q) fun ov s2 ⟨x,H2,I2,rx,a,C,dx,fs,ex,ea,c,n,l,q2⟩=>?_) hs
 subst ex
 obtain rfl:ov=Value.ref a:=rx
 exact vJ I2 ea c n l ry fun s3 I3=>⟨σ,_,I3,q2⟩
theorem uF {pl:Sem Bool} {m:Str} {apos:Pos} {args:List M0} {pins:List (MP×Obj)} {s:MX} {σ:St} {H:Hp} {Q:MM->MX->Prop} {te:TE} (he:PE X e te) (I:Inv X pins σ H s)
  (h:te σ H fun x H1=>∃ a C dx fs g,x=.ref a/\H1 a=some (.ins C dx fs)/\wg X.K C/\Meth X.K C m g/\fs.lookup m=none /\
   ∀ s1,Inv X pins σ H1 s1->MZ (model X.prog X.w) X.A (Nm pos (.ref g) [.ref a] (backTo pos (M1 args X.env)) (backToKw pos (Nn [] X.env))) Q X.xe s1)
  (ht:eval (.Call (.Attribute e m apos) args [] pos) X.env=(do
   let ov <- eval e X.env
   standAt apos.atName
   let (f,first) <- holding [ov] (getMethod ov m pl)
   Nm pos f first (backTo pos (M1 args X.env)) (backToKw pos (Nn [] X.env)))) :
  MZ (model X.prog X.w) X.A (eval (.Call (.Attribute e m apos) args [] pos) X.env) Q X.xe s:=by
 refine PySem.W.methodCall_KW (pl:=pl) (dH (he pins s σ H _ I h) fun u s1 ⟨x,H1,I1,rx,a,C,dx,fs,g,ex,ea,c,k,l,q⟩=>?_) ht
 subst ex
 obtain rfl:u=Value.ref a:=rx
 exact vj I1 ea c k l (q s1 I1)
end

end L2

namespace L2
open PySem PySem.Spec PyProof.Rows

structure e7 (k:Nat) (A:MV):Prop where
 hd:A.handled=none
 dp:A.depth+3*k+5 < recursionLimit
 un:A.units+16*k+200 < Np
theorem e7.mono {j k:Nat} {A:MV} (r:e7 k A) (h:j<=k):e7 j A:=⟨r.hd,by have:=r.dp; omega,by have:=r.un; omega⟩
theorem e7.deeper {k:Nat} {A:MV} (r:e7 (k+1) A) (env:Env):e7 k (A.deeper env) :=
 ⟨r.hd,by have:=r.dp; show A.depth+1+3*k+5 < _; omega,by have:=r.un; show A.units+3+16*k+200 < _; omega⟩
theorem vy {A:MV} {C:MP} {us:List MM} {kw:List (Str×MM)}:(A.under (.builtin "type.__call__" ⟨.ref C::us,kw⟩)).depth=A.depth+1:=by
 first | rfl | simp [Around.under,Code.weight,Code.isCreation,Code.isGuard,Code.isCaller,Code.frames,Code.isFrame,guardIds]
theorem vo {A:MV} {C:MP} {us:List MM} {kw:List (Str×MM)}:(A.under (.builtin "type.__call__" ⟨.ref C::us,kw⟩)).units=A.units+1:=by
 first | rfl | simp [Around.under,Code.cUnits,Code.frames,Code.isFrame]
theorem e7.make {k:Nat} {A:MV} (r:e7 (k+1) A) (C:MP) (us:List MM) (kw:List (Str×MM)):e7 k (A.under (.builtin "type.__call__" ⟨.ref C::us,kw⟩)) :=
 ⟨r.hd,by have:=r.dp; rw [vy]; omega,by have:=r.un; rw [vo]; omega⟩
theorem e7.depth {k:Nat} {A:MV} (r:e7 k A):A.depth < recursionLimit:=by have:=r.dp; omega
theorem e7.units {k:Nat} {A:MV} (r:e7 k A):A.units+64 < Np:=by have:=r.un; omega
def HK:TA:=fun _ H Q=>Q [] H
def Eo (ta:TE) (tr:TA):TA:=fun σ H Q=>ta σ H fun x H1=>tr σ H1 fun xs H2=>Q (x::xs) H2
section
variable {X:Cx} {e:M0} {es:List M0} {te:TE} {t:TA} {pos:Pos}
theorem o6:PA X [] HK:=fun _ _ _ _ H Q I h=>Calls.spliced_nil ⟨[],H,I,.nil,h⟩
theorem kc (ha:PE X e te) (hr:PA X es t) (hs:M1 (e::es) X.env=(false,eval e X.env)::M1 es X.env:=by rfl):PA X (e::es) (Eo te t):=by
 intro pos pins s σ H Q I h
 rw [hs]
 show MZ _ _ (spliced ((false,eval e X.env)::backTo pos (M1 es X.env))) _ _ s
 refine Calls.spliced_cons (dH (ha pins s σ H _ I h) fun u s1 ⟨x,H1,I1,r1,q1⟩=>?_)
 exact dH (hr pos pins s1 σ H1 _ I1 q1) fun us s2 ⟨xs,H2,I2,r2,q2⟩=>⟨x::xs,H2,I2,.cons r1 r2,q2⟩

def HG (t:TA):TE:=fun σ H Q=>t σ H fun xs H1=>xs.length<=MS/\∀ p,H1 p=none->Q (.ref p) (upd H1 p (.tup xs))
def GJ (t:TA):TE:=fun σ H Q=>t σ H fun xs H1=>xs.length<=MS/\∀ p,H1 p=none->Q (.ref p) (upd H1 p (.lst xs))
theorem CO {x1} (h:PA X es t):PE X (.Tuple es x1 pos) (HG t):=by
 intro pins s σ H Q I hq
 refine wpAny_Tuple_spliced (dH (h pos pins s σ H _ I hq) fun us s1 ⟨xs,H1,I1,r,z,q⟩=>⟨by rw [<- r.length]; exact z,?_⟩)
 have hf:H1 s1.heap.objs.size=none:=I1.hok.fresh (Jw _)
 refine⟨.ref s1.heap.objs.size,upd H1 s1.heap.objs.size (.tup xs),I1.laid (t':=s1.toks) (fun b u e=>Mq _ e) (Jw _) ?_,rfl,q _ hf⟩
 exact⟨z,us,r,⟨_,Mr _ rfl,rfl,_,rfl⟩⟩
theorem u9 (h:PA X es t):PE X (.List es pos) (GJ t):=by
 intro pins s σ H Q I hq
 refine wpAny_List_spliced (dH (h pos pins s σ H _ I hq) fun us s1 ⟨xs,H1,I1,r,z,q⟩=>⟨by rw [<- r.length]; exact z,?_⟩)
 have hf:H1 s1.heap.objs.size=none:=I1.hok.fresh (Jw _)
 refine⟨.ref s1.heap.objs.size,upd H1 s1.heap.objs.size (.lst xs),I1.laid (t':=s1.toks) (fun b u e=>Mq _ e) (Jw _) ?_,rfl,q _ hf⟩
 exact⟨z,us,0,r,Mr _ rfl⟩
end

abbrev Sp:=List V->Hp->VK->XK->Prop
abbrev wf:=List Env->Hp->MX->XK->MM->MX->Prop

structure yw (P:MO) (w:MN) (K:LQ) (mg:Str->Option MM) (base:MR) (A:MV) (outer:List Env) (s:MX) (H:Hp):Prop where
 frames:A.frames=some outer
 mod:Mod K mg base
 bs:∀ b o,base.get? b=some o->s.heap.get? b=some o/\H b=none
 bsz:base.objs.size<=s.heap.objs.size
 funs:s.heap.FunFrames base outer
 frf:∀ b∈frs outer,H b=none
 hok:mr P w H s.heap
 bare:AllBare s.gens
def CE (outer:List Env) (P:MO) (w:MN) (H:Hp) (s:MX) (Q:VK) (u:MM) (s':MX):Prop :=
 ∃ v H',s'.os=s.os/\AllBare s'.gens/\Un (frs outer) [] H H' s.heap s'.heap/\mr P w H' s'.heap/\RelV v u/\Q v H'
def CR (CX:wf) (outer:List Env) (P:MO) (w:MN) (H:Hp) (s:MX) (Q:VK) (E:XK) (r:Result) (s':MX):Prop :=
 match r with
 | .ok (.ret u)=>CE outer P w H s Q u s'
 | .ok _=>False
 | .error e=>CX outer H s E e s'
structure hX (P:MO) (w:MN) (K:LQ) (mg:Str->Option MM) (base:MR) (CX:wf) (k:Nat) (f:MP) (fd:Nq) (ps:List Str) (sp:Sp):Prop where
 len:∀ vs H Q E,sp vs H Q E->vs.length=ps.length
 run:∀ (A:MV) (outer:List Env) (s:MX) (H:Hp) (args:Args) (us:List MM) (vs:List V) (Q:VK) (E:XK),e7 k A->yw P w K mg base A outer s H->Nr s fd args (ps.zip us)->Vals vs us->sp vs H Q E ->
  Nj (model P w) A (.call (.ref f) args) (CR CX outer P w H s Q E) s
theorem hX.mono {P:MO} {w:MN} {K:LQ} {mg:Str->Option MM} {base:MR} {CX:wf} {j k:Nat} {f:MP} {fd:Nq} {ps:List Str} {sp:Sp} (F:hX P w K mg base CX j f fd ps sp) (h:j<=k) :
  hX P w K mg base CX k f fd ps sp:=⟨F.len,fun A outer s H args us vs Q E hr=>F.run A outer s H args us vs Q E (hr.mono h)⟩
theorem yw.make {P:MO} {w:MN} {K:LQ} {mg:Str->Option MM} {base:MR} {A:MV} {outer:List Env} {s:MX} {H:Hp} (e:yw P w K mg base A outer s H) (C:MP) (us:List MM) (kw:List (Str×MM)) :
  yw P w K mg base (A.under (.builtin "type.__call__" ⟨.ref C::us,kw⟩)) outer s H:=⟨by first | exact e.frames | (simpa [Around.under,Code.envs,Code.isFrame,pushEnvs] using e.frames),e.mod,e.bs,e.bsz,e.funs,e.frf,e.hok,e.bare⟩
section
variable {X:Cx} {pins:List (MP×Obj)} {σ:St} {H:Hp} {s s':MX}
theorem Inv.env0 (I:Inv X pins σ H s):yw X.prog X.w X.K X.mg X.base X.A X.stack s H :=
 ⟨I.ok.frames,I.ok.mod,I.bs,Jn I.ok.bsz I.sz,I.stack,I.stkFree,I.hok,I.bare⟩
theorem Inv.after {Q:VK} {u:MM} (I:Inv X pins σ H s) (h:CE X.stack X.prog X.w H s Q u s'):EP X pins σ Q u s':=by
 obtain⟨v,H',os,bare,un,hok,r,q⟩:=h
 obtain⟨hh,g,d,t,os'⟩:=s'
 obtain rfl:os'=s.os:=os
 exact⟨v,H',I.call (h':=hh) (g':=g) (d':=d) (t':=t) (ch:=[]) un hok bare (fun b z=>absurd z (by simp)),r,q⟩
end

def Fi (C:MP) (sp:Sp) (dvs:List V) (E:XK) (t:TA):TE:=fun σ H Q=>t σ H fun vs H1=>∀ x dx,H1 x=none->H1 dx=none->dx≠x ->
 sp (.ref x::(vs++dvs)) (upd (upd H1 dx (.own x)) x (.ins C dx [])) (fun v H2=>v=.non/\Q (.ref x) H2) E

def Binds (K:LQ) (fd:Nq) (ps:List Str) (ds:List MM):Prop :=
 ∀ (s:MX) (us:List MM),K.In s.heap->(us++ds).length=ps.length->Nr s fd ⟨us,[]⟩ (ps.zip (us++ds))
theorem Binds.all {K:LQ} {fd:Nq} {ps:List Str} (h:∀ us:List MM,us.length=ps.length->bindArgs fd ⟨us,[]⟩=pure (ps.zip us)):Binds K fd ps []:=fun s us _ hl=>by
 rw [JH] at hl ⊢
 exact .of_eq (h us hl)

def vd (CX:wf) (X:Cx) (E:XK):Prop:=∀ (pins:List (MP×Obj)) (σ:St) (H:Hp) (s:MX) (e:MM) (s':MX),Inv X pins σ H s->CX X.stack H s E e s'->X.xe e s'

section
variable {X:Cx} {CX:wf} {k:Nat} {f C:MP} {fd:Nq} {ps:List Str} {sp:Sp} {dvs:List V} {ds:List MM} {E:XK} {x m:Str} {p pos apos:Pos} {e o:M0} {es:List M0} {ta:TE} {t:TA}

structure Mk (K:LQ) (C f:MP):Prop where
 makes:L4 K C=true
 init:LW K (.ref C) "__init__"=some (some (.ref f))
 fn:LZ K (.ref f)=true
 kp:L6 K (.ref C)=true

theorem An {pins:List (MP×Obj)} {σ:St} {H:Hp} {s:MX} {Q:VK} {us:List MM} {vs:List V} (M:Mk X.K C f) (F:hX X.prog X.w X.K X.mg X.base CX k f fd ps sp) (hr:e7 (k+1) X.A) (hb:Binds X.K fd ps ds) (hd:Vals dvs ds)
  (hx:vd CX X E) (I:Inv X pins σ H s) (r:Vals vs us)
  (h:∀ x dx,H x=none->H dx=none->dx≠x->sp (.ref x::(vs++dvs)) (upd (upd H dx (.own x)) x (.ins C dx [])) (fun v H2=>v=.non/\Q (.ref x) H2) E) :
  MZ (model X.prog X.w) X.A (call (.ref C) us) (EP X pins σ Q) X.xe s:=by
 have hq:=h (s.heap.objs.size+1) s.heap.objs.size (I.hok.fresh (JI _)) (I.hok.fresh (Jw _)) (Jm (Nat.lt_succ_self _))
 have I2:=Inv.made (C:=C) I
 have r2:Vals (V.ref (s.heap.objs.size+1)::(vs++dvs)) (Value.ref (s.heap.objs.size+1)::(us++ds)):=.cons rfl (r.append hd)
 have hl:(Value.ref (s.heap.objs.size+1)::us++ds).length=ps.length:=by
  have e:=r2.length
  rw [F.len _ _ _ _ hq] at e
  exact e.symm
 refine wpAny_call (zZ (f:=f) I.kIn M.makes M.init (beq_iff_eq.mp M.fn) (Nt (F.run _ X.stack _ _ ⟨Value.ref (s.heap.objs.size+1)::us,[]⟩ (Value.ref (s.heap.objs.size+1)::(us++ds)) _ _ E (hr.make C us [])
  (I2.env0.make C us []) (hb _ (Value.ref (s.heap.objs.size+1)::us) I2.kIn hl) r2 hq) fun r s' hq'=>?_))
 cases r with
 | error e=>exact hx pins σ _ _ e s' I2 hq'
 | ok fl =>
  cases fl with
  | ret u =>
   obtain⟨v,H',I3,rv,ev,q3⟩:=I2.after hq'
   subst ev
   exact⟨rv,⟨V.ref (s.heap.objs.size+1),H',I3,rfl,q3⟩⟩
  | next=>exact False.elim hq'
  | brk=>exact False.elim hq'
  | cont=>exact False.elim hq'
theorem Bv (M:Mk X.K C f) (F:hX X.prog X.w X.K X.mg X.base CX k f fd ps sp) (hr:e7 (k+1) X.A) (hg:Gl X x) (hm:X.mg x=some (.ref C)) (hb:Binds X.K fd ps ds) (hd:Vals dvs ds) (hx:vd CX X E)
  (ha:PA X (e::es) t) (hdb:(x==("__debug__":Str))=false:=by decide) (he:M1 (e::es) X.env=(false,eval e X.env)::M1 es X.env:=by rfl) (hpl:(backTo pos (M1 es X.env)).any (·.1)=false:=by rfl) :
  PE X (.Call (.Name x p) (e::es) [] pos) (Fi C sp dvs E t):=by
 intro pins s σ H Q I h
 refine Nu (xh I hg hm ?_ hdb)
 refine L7 (h₀:=X.base) I.ok.mod.kin M.kp (dH (ha pos pins s σ H _ I h) fun us s1 ⟨vs,H1,I1,r,q⟩=>⟨I1.kIn,?_⟩) he hpl
 exact An M F hr hb hd hx I1 r q
end


structure bd (N P:List Str) (sc:MY):Prop where
 kind:sc.kind=.function
 co:sc.isCoroutine=false
 gen:sc.isGenerator=false
 nd:N.Nodup
 pre:N.take P.length=P
 par:∀ x∈P,sc.names.lookup x=some .local\/sc.names.lookup x=some .cell
 nofree:∀ y∈sc.names,y.2≠.free

theorem ql {kindOf:Str->Option Nv} {x:Str}:∀ {binds:List (Str×MM)} {m:Str->Option MM},(∀ v,(x,v)∉binds)->bindL kindOf binds m x=m x
 | [],_,_=>rfl
 | (n,v)::r,m,h=>by
  unfold bindL
  rw [ql fun w hw=>h w (Jr _ hw)]
  split
  ·have:x≠n:=by rintro rfl; exact h v Jq
   simp [this]
  ·rfl
theorem qv {kindOf:Str->Option Nv} {x:Str}:∀ {binds:List (Str×MM)} {m:Str->Option MM},(∀ v,(x,v)∉binds)->bindC kindOf binds m x=m x
 | [],_,_=>rfl
 | (n,v)::r,m,h=>by
  unfold bindC
  rw [qv fun w hw=>h w (Jr _ hw)]
  split
  ·rfl
  ·have:x≠n:=by rintro rfl; exact h v Jq
   simp [this]
theorem qF {kindOf:Str->Option Nv} {x:Str} {v:MM}:∀ {P:List Str} {vs:List MM} {i:Nat} {m:Str->Option MM},P.Nodup->P[i]?=some x->vs[i]?=some v->kindOf x=some .local ->
  bindL kindOf (P.zip vs) m x=some v
 | [],_,_,_,_,h,_,_=>by simp at h
 | _::_,[],_,_,_,_,h,_=>by simp at h
 | p::P,w::vs,0,m,nd,h1,h2,hk=>by
  simp at h1 h2; subst h1; subst h2
  show bindL kindOf ((p,w)::P.zip vs) m p=_
  unfold bindL
  rw [ql fun v hv=>(List.nodup_cons.mp nd).1 (JK hv).1,if_pos hk]
  simp
 | p::P,w::vs,i+1,m,nd,h1,h2,hk=>by
  show bindL kindOf ((p,w)::P.zip vs) m x=_
  unfold bindL
  exact qF (i:=i) (List.nodup_cons.mp nd).2 (by simpa using h1) (by simpa using h2) hk
theorem qQ {kindOf:Str->Option Nv} {x:Str} {v:MM}:∀ {P:List Str} {vs:List MM} {i:Nat} {m:Str->Option MM},P.Nodup->P[i]?=some x->vs[i]?=some v->kindOf x≠some .local ->
  bindC kindOf (P.zip vs) m x=some v
 | [],_,_,_,_,h,_,_=>by simp at h
 | _::_,[],_,_,_,_,h,_=>by simp at h
 | p::P,w::vs,0,m,nd,h1,h2,hk=>by
  simp at h1 h2; subst h1; subst h2
  show bindC kindOf ((p,w)::P.zip vs) m p=_
  unfold bindC
  rw [qv fun v hv=>(List.nodup_cons.mp nd).1 (JK hv).1,if_neg hk]
  simp
 | p::P,w::vs,i+1,m,nd,h1,h2,hk=>by
  show bindC kindOf ((p,w)::P.zip vs) m x=_
  unfold bindC
  exact qQ (i:=i) (List.nodup_cons.mp nd).2 (by simpa using h1) (by simpa using h2) hk

def start (N:List Str) (vs:List V):St:=vs.map some++List.replicate (N.length - vs.length) none

def jG (CX:wf) (P:MO) (w:MN) (K:LQ) (mg:Str->Option MM) (base:MR) (N:List Str) (qual:Str) (scope:MY) (f:MP) (cd:MM) (A:MV) (outer:List Env) (s:MX) (H:Hp) (E:XK):Cx where
 prog:=P
 w:=w
 K:=K
 mg:=mg
 base:=base
 A:=A.deeper (envOfC qual scope s.heap.objs.size f cd)
 N:=N
 s₀:=s
 H₀:=H
 env:=envOfC qual scope s.heap.objs.size f cd
 outer:=outer
 stack:=envOfC qual scope s.heap.objs.size f cd::outer
 ex:=[]
 calm:=true
 fn:=fun _=>true
 pn:=[]
 xe:=fun e s'=>MZ (model P w) (A.deeper (envOfC qual scope s.heap.objs.size f cd)) (leaving (envOfC qual scope s.heap.objs.size f cd) e) (fun _ s''=>CX outer H s E e s'') (fun e' s''=>CX outer H s E e' s'') s'

theorem tN {sc:MY} {n:Nat} {x:Str} (h:sc.names.lookup x=some .cell):∃ c,(cellsFrom n sc.names []).lookup x=some c:=by
 have q:=L8 sc.names n [] (.inl h)
 exact Option.isSome_iff_exists.mp q

theorem yE {CX:wf} {P:MO} {w:MN} {K:LQ} {mg:Str->Option MM} {base:MR} {N ps:List Str} {qual:Str} {scope:MY} {f:MP} {cd:MM} {A:MV} {outer:List Env} {s s1:MX} {H:Hp} {E:XK} {us:List MM} {vs:List V}
  (S:bd N ps scope) (hd:A.handled=none) (e0:yw P w K mg base A outer s H) (hl:vs.length=ps.length) (r:Vals vs us)
  (x:InCallC s s.heap.objs.size (bindL (envOfC qual scope s.heap.objs.size f cd).kindOf (ps.zip us) fun _=>none) (cellsFrom (s.heap.objs.size+1) scope.names []) (bindC (envOfC qual scope s.heap.objs.size f cd).kindOf (ps.zip us) fun _=>none) s1) :
  Inv (jG CX P w K mg base N qual scope f cd A outer s H E) [] (start N vs) H s1:=by
 have hpl:ps.length<=N.length:=by have:=congrArg List.length S.pre; rw [JL] at this; omega
 obtain⟨h1,tk,rfl,hk⟩:=x.done
 have noA:∀ b:MP,b∉(jG CX P w K mg base N qual scope f cd A outer s H E).ex:=fun b z=>absurd (show b∈([]:List MP) from z) (by simp)
 refine⟨⟨e0.mod,S.kind,rfl,rfl,Jw _,fun y z c h1 h2=>?_,fun y hy=>?_,fun y c _ h=>?_,fun _=>hd,Around.frames_deeper e0.frames,.inr ⟨rfl,rfl⟩,fun b z=>absurd z (noA b),e0.bs,e0.bsz,fun b _ _=>noA b,fun b z=>absurd z (noA b),e0.funs,e0.frf⟩,
  rfl,e0.bare,Un.kept hk,⟨_,x.toInCall.ns,fun i y v h1 h2 h3=>?_⟩,fun y c h=>⟨_,x.cell y c h⟩,e0.hok.fresh (Jw _),fun y c h=>?_,fun p hp=>absurd (show p∈([]:List (MP×Obj)) from hp) (by simp),e0.hok.kept hk,?_⟩
 ·exact name_of_addr x.apart (PySem.mem_of_lookup h1) (PySem.mem_of_lookup h2)
 ·have hy:scope.names.lookup y=some .cell\/scope.names.lookup y=some .free:=hy
  rcases hy with hy | hy
  ·exact tN hy
  ·exact absurd rfl (S.nofree _ (PySem.mem_of_lookup hy))
 ·exact Jo (x.above y c (PySem.mem_of_lookup h))
 ·have hi:i < vs.length:=by
   unfold start at h2
   by_cases hi:i < vs.length
   ·exact hi
   ·rw [JM (by simpa using hi)] at h2
    rw [JN] at h2
    split at h2 <;> cases h2
  have ha:vs[i]?=some v:=by
   unfold start at h2
   rw [JO (by simpa using hi),JP] at h2
   cases e:vs[i]? with
   | none=>rw [e] at h2; cases h2
   | some a=>rw [e] at h2; cases h2; rfl
  obtain⟨u,hu,rv⟩:=r.get ha
  have hp:ps[i]?=some y:=by
   rw [<- S.pre,List.getElem?_take_of_lt ‹0›]; exact h1
  have ndP:ps.Nodup:=by rw [<- S.pre]; exact S.nd.sublist (List.take_sublist _ _)
  refine⟨u,rv,?_⟩
  rcases S.par y (JQ hp) with k | k
  ·exact .inl ⟨k,qF ndP hp hu k⟩
  ·obtain⟨c,e⟩:=tN (n:=s.heap.objs.size+1) k
   refine .inr ⟨.inl k,c,e,?_⟩
   have q:=x.cell y c e
   rw [qQ ndP hp hu (by show scope.names.lookup y≠_; rw [k]; decide)] at q
   exact q
 ·exact e0.hok.fresh (Jo (x.above y c (PySem.mem_of_lookup h)))
 ·unfold start
  show _=N.length
  rw [JR,JE,List.length_replicate]
  omega

theorem B2 {CX:wf} {P:MO} {w:MN} {K:LQ} {mg:Str->Option MM} {base:MR} {k:Nat} {f:MP} {name qual:Str} {params:Arguments} {body:List M2} {scope:MY} {dV kV doc pm cdv ct oc:MM} {an od:Option MP}
  {osl:Array (Option MM)} {N ps:List Str} {sp:Sp} (lk:K.lookup f=some ⟨oc,od,.func (L9 name qual params body scope dV kV doc pm an cdv ct),osl⟩) (hcd:Ma K cdv qual=true) (S:bd N ps scope)
  (len:∀ vs H Q E,sp vs H Q E->vs.length=ps.length)
  (hbody:∀ (A:MV) (outer:List Env) (s:MX) (H:Hp) (vs:List V) (Q:VK) (E:XK),e7 k (A.deeper (envOfC qual scope s.heap.objs.size f cdv))->sp vs H Q E ->
   ∃ t,tq (jG CX P w K mg base N qual scope f cdv A outer s H E) body t/\t { nx:=fun _ H'=>Q .non H',rt:=Q } (start N vs) H) :
  hX P w K mg base CX (k+1) f (L9 name qual params body scope dV kV doc pm an cdv ct) ps sp:=by
 refine⟨len,fun A outer s H args us vs Q E hr e0 hb r hsp=>?_⟩
 have hl:=len _ _ _ _ hsp
 have KX:K.In s.heap:=e0.mod.kin.keeps fun b o e=>(e0.bs b o e).1
 have lim:s.heap.NoLimit:=e0.mod.nolimit.keeps fun b o e=>(e0.bs b o e).1
 have hkind:∀ y∈ps.zip us,scope.names.lookup y.1=some .local\/(scope.names.lookup y.1=some .cell/\((cellsFrom (s.heap.objs.size+1) scope.names []).lookup y.1).isSome=true):=fun ⟨n,v⟩ hy=>by
  rcases S.par n (JK hy).1 with q | q
  ·exact .inl q
  ·exact .inr ⟨q,L8 _ _ _ (.inl q)⟩
 refine codeAny_call_function hr.depth (KX _ _ lk) rfl S.co S.gen rfl (PySem.W.codeRec_of KX hcd) (hb _ _ _ _ ?_)
 refine wpAny_newFunctionEnv_cells S.kind hkind fun env he s1 x=>?_
 subst he
 refine⟨lim.keeps x.toInCall.keep,codeAny_func ?_⟩
 obtain⟨t,ht,hq⟩:=hbody A outer s H vs Q E (hr.deeper _) hsp
 have I:Inv (jG CX P w K mg base N qual scope f cdv A outer s H E) [] (start N vs) H s1:=yE S hr.hd e0 hl r x
 refine M3 (ht [] s1 (start N vs) H _ I hq) (fun fl s' hs=>?_) fun e s' hs=>hs
 have fin:∀ {σ':St} {H':Hp} {v:V} {u:MM},Inv (jG CX P w K mg base N qual scope f cdv A outer s H E) [] σ' H' s'->RelV v u->Q v H'->CE outer P w H s Q u s' :=
  fun {σ' H' v u} J rv q=>⟨v,H',J.os,J.bare,J.base,J.hok,rv,q⟩
 cases fl with
 | ret u =>
  obtain⟨v,σ',H',J,rv,q⟩:=hs
  exact fin J rv q
 | next =>
  obtain⟨σ',H',J,q⟩:=hs
  exact fin (v:=V.non) (u:=Value.none) J rfl q
 | brk =>
  obtain⟨_,_,_,q⟩:=hs
  exact False.elim q
 | cont =>
  obtain⟨_,_,_,q⟩:=hs
  exact False.elim q
end L2

namespace L2
open PySem PySem.Spec PyProof.Rows
section
variable {X:Cx} {x:Str} {p pos:Pos} {e:M0} {es:List M0} {t:TA} {id T:String} {r:List V->Hp->VK->Prop}

def Hg (r:List V->Hp->VK->Prop) (t:TA):TE:=fun σ H Q=>t σ H fun vs H1=>r vs H1 Q
theorem uW (hc:dq X (.builtin id) r) (hg:Gl X x) (hm:X.mg x=none) (hv:MU x=some (.builtin id)) (ha:PA X (e::es) t) (hn:x ≠ "__name__":=by decide) (hdb:(x==("__debug__":Str))=false:=by decide)
  (he:M1 (e::es) X.env=(false,eval e X.env)::M1 es X.env:=by rfl) (hpl:(backTo pos (M1 es X.env)).any (·.1)=false:=by rfl):PE X (.Call (.Name x p) (e::es) [] pos) (Hg r t):=by
 intro pins s σ H Q I h
 refine Nu (lC I hg hm hv ?_ hn hdb)
 exact PyProof.Rows.callWith_builtin1 (dH (ha pos pins s σ H _ I h) fun us s1 ⟨vs,H1,I1,r1,q1⟩=>hc pins s1 σ H1 vs us Q I1 r1 q1) he hpl
theorem xL (hc:dq X (.type T) r) (hg:Gl X x) (hm:X.mg x=none) (hv:MU x=some (.type T)) (ha:PA X (e::es) t) (hn:x ≠ "__name__":=by decide) (hdb:(x==("__debug__":Str))=false:=by decide)
  (he:M1 (e::es) X.env=(false,eval e X.env)::M1 es X.env:=by rfl) (hpl:(backTo pos (M1 es X.env)).any (·.1)=false:=by rfl):PE X (.Call (.Name x p) (e::es) [] pos) (Hg r t):=by
 intro pins s σ H Q I h
 refine Nu (lC I hg hm hv ?_ hn hdb)
 exact Mw (dH (ha pos pins s σ H _ I h) fun us s1 ⟨vs,H1,I1,r1,q1⟩=>hc pins s1 σ H1 vs us Q I1 r1 q1) he hpl
end
end L2

namespace HT
open PySem PyProof.Rows

theorem Eu (A:MV) (s:MX) (a:Int) (t:Tok) (c:Int) (u:Tok) (prog:MO) (w:MN) (E:MM->MX->Prop) (Q:MM->MX->Prop) (h:Q (.bool (decide (a < c))) s) :
  MZ (model prog w) A (richCompare .Lt (.int a t) (.int c u)) Q E s :=
 (PyProof.Rows.lt_int h:MZ (model prog w) A (Ng .Lt (.int a t) (.int c u)) Q E s)

section
open PySem.SeqAt
open PySem.AutoSeq1 (wpAny_loadPart')
open PySem.MeetsSeq PySem.MeetsSeq2 PySem.MeetsSeq3

end

section
variable {prog:MO} {w:MN} {A:MV} {E:MM->MX->Prop} {s:MX}

theorem Gv {t b:MP} {vs ws:List MM} {Q:MM->MX->Prop} (ht:IsTup s.heap t vs.toArray) (hb:IsTup s.heap b ws.toArray) (hv:vs≠[])
  (h1:ws=[]->Q (.ref t) s) (h2:ws≠[]->Q (.ref s.heap.objs.size) { s with heap:=s.heap.push { cls:=.type "tuple",data:=.seq (vs++ws).toArray } })
  (hsz:vs.length+ws.length<=MS):MZ (model prog w) A (Nf .Add (.ref t) (.ref b)) Q E s:=by
 obtain⟨⟨cls,dd,data,sl⟩,ho,hc,n,hd⟩:=id ht
 obtain⟨⟨cls2,dd2,data2,sl2⟩,ho2,hc2,n2,hd2⟩:=id hb
 simp only at hc hd hc2 hd2
 subst hc hd hc2 hd2
 have e:vs.toArray++ws.toArray=(vs++ws).toArray:=by simp
 by_cases hw:ws=[]
 ·exact Nw ⟨_,ho,rfl⟩ ⟨_,ho2,rfl⟩ Nx Ny MH MI (MJ _ _)
   (tuple_addW1 t b vs.toArray ws.toArray n n2 dd dd2 sl sl2 (by simpa using hv) (by simp [hw])) ⟨ho,ho2,h1 hw⟩
 ·refine Nw ⟨_,ho,rfl⟩ ⟨_,ho2,rfl⟩ Nx Ny MH MI (MJ _ _)
   (tuple_addW2 t b vs.toArray ws.toArray n n2 dd dd2 sl sl2 (by simpa using hv) (by simpa using hw) (by rw [JA,JA]; exact hsz)) ⟨ho,ho2,?_⟩
  rw [e]
  exact h2 hw

def sIx (n d:Nat):Option Int->Nat
 | none=>d
 | some v=>if v < 0 then (v+(n:Int)).toNat else min v.toNat n
theorem En (n d:Nat):sIx n d none=d:=rfl
theorem FR (n d k:Nat):sIx n d (some (k:Int))=min k n:=by
 show (if (k:Int) < 0 then ((k:Int)+(n:Int)).toNat else min (k:Int).toNat n)=min k n
 rw [if_neg ‹0›,JS]
theorem C6 (n d:Nat) (hd:d<=n) (o:Option Int):sIx n d o<=n:=by
 cases o with
 | none=>exact hd
 | some v =>
  show (if v < 0 then (v+(n:Int)).toNat else min v.toNat n)<=n
  by_cases hv:v < 0
  ·rw [if_pos hv]; omega
  ·rw [if_neg hv]; exact Nat.min_le_right _ _
theorem wK (v:Int) (n d:Nat):(if v < 0 then max (v+(n:Int)) 0 else min v (n:Int))=((sIx n d (some v):Nat):Int):=by
 show (if v < 0 then max (v+(n:Int)) 0 else min v (n:Int))=(((if v < 0 then (v+(n:Int)).toNat else min v.toNat n):Nat):Int)
 by_cases hv:v < 0
 ·simp only [if_pos hv]; omega
 ·simp only [if_neg hv]; omega
theorem u6 (lo hi:Option Int) (n:Nat):Builtin.Slice.sliceAdjust lo hi 1 (n:Int)=(((sIx n 0 lo:Nat):Int),((sIx n n hi:Nat):Int)):=by
 have h1:¬ ((1:Int) < 0):=by omega
 unfold Builtin.Slice.sliceAdjust
 simp only [h1,if_false]
 refine Prod.ext ?_ ?_
 ·cases lo with
  | none=>rfl
  | some v=>exact wK v n 0
 ·cases hi with
  | none=>rfl
  | some v=>exact wK v n n
theorem vU (i j:Nat):Builtin.Slice.slicePlaces (i:Int) (j:Int) 1=j - i:=by
 unfold Builtin.Slice.slicePlaces
 have h1:(1:Int) > 0:=by omega
 simp only [h1,if_true,Int.ediv_one]
 split <;> omega
theorem oM {v:MM} {o:Option Int} {Q:Option Int->MX->Prop} (p:Nz v o) (h:Q o s):MZ (model prog w) A (Builtin.Slice.slicePartIndex v) Q E s:=by
 cases p with
 | none=>exact slicePart_none h
 | int i t=>exact slicePart_int h
theorem nc {sl:MP} {vl vu:MM} {lo hi:Option Int} {n:Nat} {Q:Int×Int×Nat->MX->Prop} (hs:s.heap.IsSliceOf sl vl vu .none) (pl:Nz vl lo) (pu:Nz vu hi)
  (h:Q (((sIx n 0 lo:Nat):Int),1,sIx n n hi - sIx n 0 lo) s):MZ (model prog w) A (Builtin.Slice.sliceApplied (.ref sl) (pure (n:Int))) Q E s:=by
 obtain⟨os,hos,hcs,hds⟩:=id hs
 unfold Builtin.Slice.sliceApplied Builtin.Slice.sliceFields
 refine M7 (M7 (NA hos hds (x:=vl) rfl (M7 (NA hos hds (x:=vu) rfl (M7 (NA hos hds (x:=.none) rfl (M6 ?_)))))))
 refine M7 (slicePart_none ?_)
 show MZ _ _ (if ((1:Int)==0)=true then _ else _) _ _ s
 rw [if_neg (by decide)]
 refine M7 (oM pl (M7 (oM pu (M7 (M6 ?_)))))
 show MZ _ _ (match Builtin.Slice.sliceAdjust lo hi 1 (n:Int) with | (lo,hi)=>pure (lo,(1:Int),Builtin.Slice.slicePlaces lo hi 1)) _ _ s
 rw [u6 lo hi n]
 show MZ _ _ (pure (((sIx n 0 lo:Nat):Int),(1:Int),Builtin.Slice.slicePlaces ((sIx n 0 lo:Nat):Int) ((sIx n n hi:Nat):Int) 1)) _ _ s
 rw [vU]
 exact M6 h
theorem zh (xs:Array MM) (i k:Nat):((List.range k).filterMap fun (m:Nat)=>xs[((i:Int)+(m:Int)*1).toNat]?).toArray=((xs.toList.drop i).take k).toArray:=by
 have e:(fun (m:Nat)=>xs[((i:Int)+(m:Int)*1).toNat]?)=fun m=>xs[i+m]?:=by
  funext m
  have:((i:Int)+(m:Int)*1).toNat=i+m:=by omega
  rw [this]
 rw [e]
 have:=pick_run xs i k
 rw [List.filterMap_map] at this
 have e2:((fun x=>xs[x]?) ∘ fun x=>i+x)=fun m=>xs[i+m]?:=rfl
 rw [e2] at this
 rw [this]

theorem xc {t sl:MP} {items:Array MM} {vl vu:MM} {lo hi:Option Int} {Q:MM->MX->Prop} (ht:IsTup s.heap t items) (hs:s.heap.IsSliceOf sl vl vu .none) (pl:Nz vl lo) (pu:Nz vu hi)
  (hw:¬ (sIx items.size 0 lo=0/\sIx items.size items.size hi=items.size))
  (h:Q (.ref s.heap.objs.size) { s with heap:=s.heap.push { cls:=.type "tuple",data:=.seq ((items.toList.drop (sIx items.size 0 lo)).take (sIx items.size items.size hi - sIx items.size 0 lo)).toArray } })
  (hsz:items.size<=MS):MZ (model prog w) A (getItem (.ref t) (.ref sl)) Q E s:=by
 have htake:sizeOk (.seq ((items.toList.drop (sIx items.size 0 lo)).take (sIx items.size items.size hi - sIx items.size 0 lo)).toArray):=by
  show ((items.toList.drop (sIx items.size 0 lo)).take (sIx items.size items.size hi - sIx items.size 0 lo)).toArray.size<=MS
  rw [JA,JL,JT,Array.length_toList]
  omega
 have hj:sIx items.size items.size hi<=items.size:=C6 _ _ (Jw _) hi
 obtain⟨os,hos,hcs,hds⟩:=id hs
 have hTs:s.TypeIs (.ref sl) "slice":=⟨os,hos,hcs⟩
 unfold getItem
 try with_reducible refine NB ?_
 first | refine M7 (M6 ?_) | skip
 refine M7 (wpAny_sequenceKey ht.typeIs (by decide) ?_)
 refine M7 (NC (name:=Str.ofString "__getitem__") ht.typeIs Mx
  (ND Mx ht.typeIs entry_tuple_getitem ?_ (args_tuple_getitem _ _)))
 show MZ _ _ (Builtin.Tuple.tupleItemsOf (.ref t) >>= _) _ _ s
 refine M7 (tupleItemsOf_ ht ?_)
 refine M7 (NE hTs ?_)
 rw [if_pos (by decide)]
 refine M7 (nc hs pl pu ?_)
 have hno:¬ ((((sIx items.size 0 lo:Nat):Int)==0 && (1:Int)==1 && (sIx items.size items.size hi - sIx items.size 0 lo)==items.size)=true):=by
  intro q
  rw [JU,JU] at q
  have q1:((sIx items.size 0 lo:Nat):Int)=0:=eq_of_beq q.1.1
  have q2:sIx items.size items.size hi - sIx items.size 0 lo=items.size:=eq_of_beq q.2
  exact hw ⟨by omega,by omega⟩
 show MZ _ _ (if (((sIx items.size 0 lo:Nat):Int)==0 && (1:Int)==1 && (sIx items.size items.size hi - sIx items.size 0 lo)==items.size)=true then _ else _) _ _ s
 rw [if_neg hno,zh]
 first
  | exact M7 (m:=Builtin.Tuple.tupleExact _) (NF (M6 ⟨_,rfl,M6 h⟩) htake)
  | exact M7 (m:=Builtin.Tuple.tupleExact _) (NF (M7 (M6 (M6 ⟨_,rfl,M6 h⟩))) htake)
  | exact M7 (M7 (m:=Builtin.Tuple.tupleExact _) (NF (M6 (M6 ⟨_,rfl,M6 h⟩)) htake))
  | exact M7 (M7 (m:=Builtin.Tuple.tupleExact _) (NF (M6 ⟨_,rfl,M6 h⟩) htake))
end
end HT

namespace L2
open PySem PySem.Spec PyProof.Rows

abbrev TO:=St->Hp->(Option Int->Hp->Prop)->Prop
def PO (X:Cx) (e:Option M0) (t:TO):Prop :=
 ∀ (pins:List (MP×Obj)) (s:MX) (σ:St) (H:Hp) (Q:Option Int->Hp->Prop),Inv X pins σ H s->t σ H Q ->
  MZ (model X.prog X.w) X.A (evalPart e X.env) (fun u s'=>∃ o H',Inv X pins σ H' s'/\Nz u o/\Q o H') X.xe s
def Bk:TO:=fun _ H Q=>Q none H
def FJ (t:TE):TO:=fun σ H Q=>t σ H fun x H1=>∃ i,x=.int i/\Q (some i) H1

section
variable {X:Cx} {e:M0} {te:TE} {lo hi:Option M0} {tl th:TO} {pos p2:Pos}

theorem AJ:PO X none Bk:=by
 intro pins s σ H Q I h
 rw [evalPart_none]
 exact M6 ⟨none,H,I,.none,h⟩
theorem BL (h:PE X e te):PO X (some e) (FJ te):=by
 intro pins s σ H Q I hw
 rw [evalPart_some]
 refine dH (h pins s σ H _ I hw) fun u s1 ⟨x,H1,I1,r1,q1⟩=>?_
 obtain⟨i,rfl,q⟩:=q1
 obtain⟨t,rfl⟩:=r1
 exact⟨some i,H1,I1,.int i t,q⟩

def Gq (X:Cx) (r:V->Option Int->Option Int->Hp->VK->Prop):Prop :=
 ∀ (pins:List (MP×Obj)) (s:MX) (σ:St) (H:Hp) (x:V) (v vl vu:MM) (lo hi:Option Int) (sl:MP) (Q:VK),Inv X pins σ H s->RelV x v->s.heap.IsSliceOf sl vl vu .none->Nz vl lo->Nz vu hi->r x lo hi H Q ->
  ∃ T id,typeLookup (.type T) "__getitem__"=pure (some (.builtin id))/\s.TypeIs v T/\MZ (model X.prog X.w) X.A (getItem v (.ref sl)) (EP X pins σ Q) X.xe s
def IW (r:V->Option Int->Option Int->Hp->VK->Prop) (te:TE) (tl th:TO):TE:=fun σ H Q=>te σ H fun x H1=>tl σ H1 fun l H2=>th σ H2 fun u H3=>r x l u H3 Q
theorem Ae {r:V->Option Int->Option Int->Hp->VK->Prop} (hr:Gq X r) (he:PE X e te) (hl:PO X lo tl) (hu:PO X hi th):PE X (.Subscript e (.Slice lo hi none p2) pos) (IW r te tl th):=by
 intro pins s σ H Q I h
 refine Subscript_ (dH (he pins s σ H _ I h) fun v s1 ⟨x,H1,I1,r1,q1⟩=>?_)
 refine wpAny_Slice (dH (hl pins s1 σ H1 _ I1 q1) fun vl s2 ⟨l,H2,I2,pl,q2⟩=>dH (hu pins s2 σ H2 _ I2 q2) fun vu s3 ⟨u,H3,I3,pu,q3⟩=>?_)
 rw [evalPart_none]
 refine M6 ?_
 have I4:Inv X pins σ H3 { s3 with heap:=s3.heap.push { cls:=.type "slice",data:=.fields #[vl,vu,.none] } }:=I3.kept (t':=s3.toks) fun b ob q=>Mq _ q
 obtain⟨T,id,hT,ht,hg⟩:=hr pins { s3 with heap:=s3.heap.push { cls:=.type "slice",data:=.fields #[vl,vu,.none] } } σ H3 x v vl vu l u s3.heap.objs.size Q I4 r1 (Heap.IsSliceOf.new ..) pl pu q3
 show MZ (model X.prog X.w) X.A (subscriptTail e (.Slice lo hi none p2) v (.ref s3.heap.objs.size)) (EP X pins σ Q) X.xe { s3 with heap:=s3.heap.push { cls:=.type "slice",data:=.fields #[vl,vu,.none] } }
 exact tail_any (ops:=[.ref s3.heap.objs.size,v]) ht hT hg (by with_unfolding_all rfl)

def tZ (xs:List V) (lo hi:Option Int):List V:=(xs.drop (HT.sIx xs.length 0 lo)).take (HT.sIx xs.length xs.length hi - HT.sIx xs.length 0 lo)
theorem nJ (xs:List V) (lo hi:Option Int):(tZ xs lo hi).length<=xs.length:=by
 unfold tZ
 rw [JL,JT]
 omega
def HA (K:LQ):V->Option Int->Option Int->Hp->VK->Prop:=fun x lo hi H Q=>∃ a xs,x=.ref a/\nL K H a xs /\
 ¬ (HT.sIx xs.length 0 lo=0/\HT.sIx xs.length xs.length hi=xs.length)/\∀ p,H p=none->Q (.ref p) (upd H p (.tup (tZ xs lo hi)))
theorem CW:Gq X (HA X.K):=by
 intro pins s σ H x v vl vu lo hi sl Q I rx hs pl pu h
 obtain⟨a,xs,rfl,hx,hw,q⟩:=h
 cases rx
 obtain⟨its,r,ht,hz⟩:=I.tuple hx
 have hlen:its.toArray.size=xs.length:=by rw [JA]; exact r.length.symm
 refine⟨"tuple",_,PyProof.Rows.slot_tuple_getitem.lookup,ht.typeIs,?_⟩
 refine HT.xc ht hs pl pu (by rw [hlen]; exact hw) ?_ (by rw [hlen]; exact hz)
 rw [hlen]
 refine⟨.ref s.heap.objs.size,_,I.laid (t':=s.toks) (o:=.tup (tZ xs lo hi)) (fun b ob q=>Mq _ q) (Jw _) ?_,rfl,q _ (I.hok.fresh (Jw _))⟩
 exact⟨Jn (nJ xs lo hi) hz,_,(r.drop (HT.sIx xs.length 0 lo)).take (HT.sIx xs.length xs.length hi - HT.sIx xs.length 0 lo),IsTup.new _ _⟩

def Fo (K:LQ):R2:=fun x y H Q=>∃ a b xs ys,x=.ref a/\y=.ref b/\nL K H a xs/\nL K H b ys/\xs≠[]/\xs.length+ys.length<=MS /\
 (ys=[]->Q (.ref a) H)/\(ys≠[]->∀ p,H p=none->Q (.ref p) (upd H p (.tup (xs++ys))))
theorem Vals.nil_iff {xs:List V} {us:List MM} (r:Vals xs us):us=[]↔xs=[]:=by
 cases r with
 | nil=>simp
 | cons _ _=>simp
theorem AX:kU X (Nf .Add) (Fo X.K):=by
 intro pins s σ H x y v u Q I rx ry h
 obtain⟨a,b,xs,ys,rfl,rfl,ha,hb,hx,hz,q1,q2⟩:=h
 cases rx
 cases ry
 obtain⟨its,r1,p1,_⟩:=I.tuple ha
 obtain⟨its2,r2,p2,_⟩:=I.tuple hb
 refine HT.Gv p1 p2 (fun z=>hx (r1.nil_iff.mp z)) (fun z=>⟨.ref a,H,I,rfl,q1 (r2.nil_iff.mp z)⟩) (fun z=>?_) (by rw [<- r1.length,<- r2.length]; exact hz)
 refine⟨.ref s.heap.objs.size,_,I.laid (t':=s.toks) (o:=.tup (xs++ys)) (fun b ob q=>Mq _ q) (Jw _) ?_,rfl,q2 (fun w=>z (r2.nil_iff.mpr w)) _ (I.hok.fresh (Jw _))⟩
 exact⟨by rw [JR]; exact hz,_,r1.append r2,IsTup.new _ _⟩
end
end L2

namespace L2
open PySem PySem.Spec PyProof.Rows

def DM (n:Nat) (i:Int):Option Nat:=if 0<=i then (if i < n then some i.toNat else none) else if -(n:Int)<=i then some (i+n).toNat else none
def nw {α:Type} (xs:List α) (i:Int):Option α:=(DM xs.length i).bind fun j=>xs[j]?
theorem Bc {n:Nat} {i:Int} {j:Nat} (h:DM n i=some j):seqIndex? i n=some j/\j < n/\-(n:Int)<=i/\i < n:=by
 unfold DM at h
 by_cases h0:0<=i
 ·rw [if_pos h0] at h
  by_cases h1:i < n
  ·rw [if_pos h1] at h
   have e:i.toNat=j:=Option.some.inj h
   exact⟨by rw [seqIndex_of h0 h1,e],by omega,by omega,h1⟩
  ·rw [if_neg h1] at h; cases h
 ·rw [if_neg h0] at h
  by_cases h1:-(n:Int)<=i
  ·rw [if_pos h1] at h
   have e:(i+n).toNat=j:=Option.some.inj h
   exact⟨by rw [seqIndex_neg ‹0› h1,e],by omega,h1,by omega⟩
  ·rw [if_neg h1] at h; cases h
theorem sr {α:Type} {xs:List α} {i:Int} {v:α} (h:nw xs i=some v):∃ j,seqIndex? i xs.length=some j/\xs[j]?=some v/\j < xs.length/\-(xs.length:Int)<=i/\i < xs.length:=by
 unfold nw at h
 cases e:DM xs.length i with
 | none=>rw [e] at h; cases h
 | some j =>
  rw [e] at h
  obtain⟨h1,h2,h3,h4⟩:=Bc e
  exact⟨j,h1,h,h2,h3,h4⟩
def sf (b:M0):Prop:=∀ o i,subscripted b false o i=operate [o,i] (getItem o i)
def Ff (X:Cx) (r:R2):Prop :=
 ∀ (value slice:M0) (pins:List (MP×Obj)) (s:MX) (σ:St) (H:Hp) (x y:V) (v u:MM) (Q:VK),Inv X pins σ H s->RelV x v->RelV y u->r x y H Q ->
  subscripted slice false v u=operate [v,u] (getItem v u)->MZ (model X.prog X.w) X.A (subscriptTail value slice v u) (EP X pins σ Q) X.xe s
def IQ (X:Cx) (id:String) (r:V->List V->Hp->VK->Prop):Prop :=
 ∀ (pins:List (MP×Obj)) (s:MX) (σ:St) (H:Hp) (x:V) (xs:List V) (v:MM) (us:List MM) (Q:VK),Inv X pins σ H s->RelV x v->Vals xs us->r x xs H Q ->
  MZ (model X.prog X.w) X.A (call (.builtin id) (v::us)) (EP X pins σ Q) X.xe s
section
variable {X:Cx} {a b:M0} {ta tb:TE} {pos:Pos}
theorem Eh {r:R2} (hr:Ff X r) (ha:PE X a ta) (hb:PE X b tb) (hs:sf b):PE X (.Subscript a b pos) (EH r ta tb):=by
 intro pins s σ H Q I h
 exact Subscript_ (Df ha hb I h fun v u s2 x y H2 I2 rx ry q=>hr a b pins s2 σ H2 x y v u Q I2 rx ry q (hs _ _))

def GI (K:LQ):R2:=fun x y H Q=>∃ p xs i v,x=.ref p/\y=.int i/\lU K H p xs/\nw xs i=some v/\Q v H
def Ib (K:LQ):R2:=fun x y H Q=>∃ p xs i v,x=.ref p/\y=.int i/\nL K H p xs/\nw xs i=some v/\Q v H
def Ir:R2:=fun x y H Q=>∃ z i c,x=.str z/\y=.int i/\z.length<=MS/\nw z.cps.toList i=some c/\Q (.str ⟨#[c]⟩) H
theorem BJ:Ff X (GI X.K):=by
 intro value slice pins s σ H x y v u Q I rx ry h hs
 obtain⟨p,xs,i,z,rfl,rfl,hq,he,q⟩:=h
 cases rx
 obtain⟨t,rfl⟩:=ry
 obtain⟨its,r,pl,hz⟩:=I.list hq
 obtain⟨j,h1,h2,h3,h4,h5⟩:=sr he
 obtain⟨w,ew,rw'⟩:=r.get h2
 have hl:=r.length
 have hn:=mM
 have fin:EP X pins σ Q w s:=⟨z,H,I,rw',q⟩
 by_cases h0:0<=i
 ·have hj:i.toNat=j:=by
   rw [seqIndex_of h0 h5] at h1
   exact Option.some.inj h1
  exact item_listR pl.isList h0 ‹0› (by rw [hj]; simpa using ew) fin hs
 ·have hj:(i+(its.toArray.size:Int)).toNat=j:=by
   rw [seqIndex_neg ‹0› h4] at h1
   rw [JA,<- hl]
   exact Option.some.inj h1
  exact subscriptTail_builtinR (x:=w) pl.isList.typeIs slot_list_getitem.lookup
   (wpAny_getItem_list_neg (Q:=fun r s'=>r=w/\EP X pins σ Q r s') pl.isList ‹0› (by rw [JA] <;> omega) ‹0› (by rw [hj]; simpa using ew) ⟨rfl,fin⟩) hs
theorem DJ:Ff X (Ib X.K):=by
 intro value slice pins s σ H x y v u Q I rx ry h hs
 obtain⟨p,xs,i,z,rfl,rfl,hq,he,q⟩:=h
 cases rx
 obtain⟨t,rfl⟩:=ry
 obtain⟨its,r,pl,hz⟩:=I.tuple hq
 obtain⟨j,h1,h2,h3,h4,h5⟩:=sr he
 obtain⟨w,ew,rw'⟩:=r.get h2
 have hl:=r.length
 have hn:=mM
 have fin:EP X pins σ Q w s:=⟨z,H,I,rw',q⟩
 exact subscriptTail_builtinR (x:=w) pl.typeIs slot_tuple_getitem.lookup
  (getItem_tuple (j:=j) (Q:=fun r s'=>r=w/\EP X pins σ Q r s') pl ‹0› ‹0› (by rw [JA,<- hl]; exact h1) (by simpa using ew) ⟨rfl,fin⟩) hs
theorem Di:Ff X Ir:=by
 intro value slice pins s σ H x y v u Q I rx ry h hs
 obtain⟨z,i,c,rfl,rfl,hz,he,q⟩:=h
 obtain⟨t,rfl⟩:=rx
 obtain⟨t',rfl⟩:=ry
 obtain⟨j,h1,h2,h3,h4,h5⟩:=sr he
 have hl:z.cps.toList.length=z.length:=by simp [Str.length]
 rw [hl] at h1 h4 h5
 have hn:=mM
 exact tail_any (typeIs_str s z t) slot_str_getitem.lookup (getItem_str (c:=c) (by
  have e1:decide (i < -(2 ^ 63:Int))=false:=decide_eq_false ‹0›
  have e2:decide (i>=2 ^ 63)=false:=decide_eq_false ‹0›
  rw [e1,e2,Bool.or_false]) (by rw [h1]; simpa using h2) ⟨.str ⟨#[c]⟩,H,I.tok _,⟨_,rfl⟩,q⟩) hs
theorem rT (lo hi:Option Int) (n:Nat):(sliceBounds lo hi none n).1=((HT.sIx n 0 lo:Nat):Int)/\(sliceBounds lo hi none n).2.1=((HT.sIx n n hi:Nat):Int)/\(sliceBounds lo hi none n).2.2=1:=by
 refine⟨?_,?_,rfl⟩
 ·cases lo with
  | none=>simp [sliceBounds,HT.sIx]
  | some i =>
   simp only [sliceBounds,HT.sIx,JV,show (1:Int) > 0 by decide,if_true]
   by_cases h:i < 0
   ·simp only [h,if_true] <;> omega
   ·simp only [h,if_false] <;> omega
 ·cases hi with
  | none=>simp [sliceBounds,HT.sIx]
  | some i =>
   simp only [sliceBounds,HT.sIx,JV,show (1:Int) > 0 by decide,if_true]
   by_cases h:i < 0
   ·simp only [h,if_true] <;> omega
   ·simp only [h,if_false] <;> omega
theorem qi (its:List MM) (lo hi:Option Int):slicePick its.toArray lo hi none=((its.drop (HT.sIx its.length 0 lo)).take (HT.sIx its.length its.length hi - HT.sIx its.length 0 lo)).toArray:=by
 obtain⟨h1,h2,h3⟩:=rT lo hi its.toArray.size
 unfold slicePick
 rw [h1,h2,h3]
 simp only [sliceRange_one,pick_run,JA] <;> rfl
def GL (K:LQ):V->Option Int->Option Int->Hp->VK->Prop:=fun x lo hi H Q=>∃ a xs,x=.ref a/\lU K H a xs/\∀ p,H p=none->Q (.ref p) (upd H p (.lst (tZ xs lo hi)))
theorem AY:Gq X (GL X.K):=by
 intro pins s σ H x v vl vu lo hi sl Q I rx hs pl pu h
 obtain⟨a,xs,rfl,hx,q⟩:=h
 cases rx
 obtain⟨its,r,ht,hz⟩:=I.list hx
 have hlen:=r.length
 refine⟨"list",_,slot_list_getitem.lookup,ht.isList.typeIs,?_⟩
 refine wpAny_getItem_list_slice ht.isList hs pl pu .none (by simp) ?_ (by rw [JA] <;> omega)
 rw [qi,<- hlen]
 refine⟨.ref s.heap.objs.size,_,I.laid (t':=s.toks) (o:=.lst (tZ xs lo hi)) (fun b ob q=>Mq _ q) (Jw _) ?_,rfl,q _ (I.hok.fresh (Jw _))⟩
 exact⟨Jn (nJ xs lo hi) hz,_,0,(r.drop (HT.sIx xs.length 0 lo)).take (HT.sIx xs.length xs.length hi - HT.sIx xs.length 0 lo),Mr _ rfl⟩

def Aj:V->Bool
 | .non=>true
 | .bl _=>true
 | .int _=>true
 | .str _=>true
 | _=>false
def HD:V->V->Bool
 | .non,.non=>true
 | .bl a,.bl b=>a==b
 | .bl a,.int b=>(if a then 1 else 0)==b
 | .int a,.bl b=>a==(if b then 1 else 0)
 | .int a,.int b=>a==b
 | .str a,.str b=>a==b
 | _,_=>false
theorem Dt {A:MV} {s:MX} {y x:V} {u v:MM} (ry:RelV y u) (rx:RelV x v) (fy:Aj y=true) (fx:Aj x=true):SeqAt.EqAt A s u v (HD y x):=by
 cases y with
 | non =>
  cases ry
  cases x with
  | non=>cases rx; exact SeqAt.EqAt.same _
  | bl b=>cases rx; exact SeqAt.EqAt.none_bool b
  | int b=>obtain⟨t,rfl⟩:=rx; exact SeqAt.EqAt.none_int b t
  | str b=>obtain⟨t,rfl⟩:=rx; exact SeqAt.EqAt.none_str b t
  | _=>exact absurd (show false=true from fx) JB
 | bl a =>
  cases ry
  cases x with
  | non=>cases rx; exact SeqAt.EqAt.bool_none a
  | bl b=>cases rx; exact SeqAt.EqAt.bool_bool a b
  | int b=>obtain⟨t,rfl⟩:=rx; exact SeqAt.EqAt.bool_int a b t
  | str b=>obtain⟨t,rfl⟩:=rx; exact SeqAt.EqAt.bool_str a b t
  | _=>exact absurd (show false=true from fx) JB
 | int a =>
  obtain⟨t',rfl⟩:=ry
  cases x with
  | non=>cases rx; exact SeqAt.EqAt.int_none a t'
  | bl b=>cases rx; exact SeqAt.EqAt.int_bool a t' b
  | int b=>obtain⟨t,rfl⟩:=rx; exact SeqAt.EqAt.int_int a t' b t
  | str b=>obtain⟨t,rfl⟩:=rx; exact SeqAt.EqAt.int_str a t' b t
  | _=>exact absurd (show false=true from fx) JB
 | str a =>
  obtain⟨t',rfl⟩:=ry
  cases x with
  | non=>cases rx; exact SeqAt.EqAt.str_none a t'
  | bl b=>cases rx; exact SeqAt.EqAt.str_bool a t' b
  | int b=>obtain⟨t,rfl⟩:=rx; exact SeqAt.EqAt.str_int a t' b t
  | str b=>obtain⟨t,rfl⟩:=rx; exact SeqAt.EqAt.str_str a t' b t
  | _=>exact absurd (show false=true from fx) JB
 | _=>exact absurd (show false=true from fy) JB
theorem lJ:dq X (.builtin "len") (fun xs H Q=>∃ p ys,xs=[.ref p]/\(lU X.K H p ys\/nL X.K H p ys)/\Q (.int ys.length) H):=by
 intro pins s σ H xs us Q I r h
 obtain⟨p,ys,rfl,hq,q⟩:=h
 obtain⟨u,rfl,rx⟩:=vals1 r
 cases rx
 have hn:=mM
 rcases hq with hq | hq
 ·obtain⟨its,r',pl,hz⟩:=I.list hq
  have hlen:=r'.length
  exact Calls.call_len_list pl.isList (by simp only [JA] <;> omega) ⟨.int ys.length,H,I.tok _,⟨s.toks+1,by rw [JA,hlen]⟩,q⟩
 ·obtain⟨its,r',pl,hz⟩:=I.tuple hq
  have hlen:=r'.length
  exact len_tuple pl (by simp only [JA] <;> omega) ⟨.int ys.length,H,I.tok _,⟨s.toks+1,by rw [JA,hlen]⟩,q⟩
theorem sO:dq X (.builtin "len") (fun xs H Q=>∃ z,xs=[.str z]/\z.length<=MS/\Q (.int z.length) H):=by
 intro pins s σ H xs us Q I r h
 obtain⟨z,rfl,hz,q⟩:=h
 obtain⟨u,rfl,t,rfl⟩:=vals1 r
 have hn:=mM
 exact len_str ‹0› ⟨.int z.length,H,I.tok _,⟨_,rfl⟩,q⟩
theorem kX:dq X (.type "tuple") (fun xs H Q=>∃ p ys,xs=[.ref p]/\((lU X.K H p ys/\∀ l,H l=none->Q (.ref l) (upd H l (.tup ys)))\/(nL X.K H p ys/\Q (.ref p) H))):=by
 intro pins s σ H xs us Q I r h
 obtain⟨p,ys,rfl,h⟩:=h
 obtain⟨u,rfl,rx⟩:=vals1 r
 cases rx
 rcases h with ⟨hq,q⟩ | ⟨hq,q⟩
 ·obtain⟨its,r',pl,hz⟩:=I.list hq
  have hlen:=r'.length
  refine call_tuple_list pl.isList (fun h' kp=>?_) (by simp only [JA] <;> omega)
  have I1:Inv X pins σ H { s with heap:=h' }:=I.kept (t':=s.toks) kp
  have I2:Inv X pins σ (upd H h'.objs.size (.tup ys)) { s with heap:=h'.push { cls:=.type "tuple",data:=.seq its.toArray } } :=
   I1.laid (t':=s.toks) (fun b o e=>Mq _ e) (Jw _) (show cc X.prog X.w _ _ _ (.tup ys) from ⟨hz,its,r',IsTup.new _ _⟩)
  exact⟨.ref h'.objs.size,_,I2,rfl,q _ (I1.hok.fresh (Jw _))⟩
 ·obtain⟨its,r',pl,hz⟩:=I.tuple hq
  exact call_tuple_same pl ⟨.ref p,H,I,rfl,q⟩

def Hx (K:LQ) (T:String) (x:V) (H:Hp):Prop:=match x with
 | .str _=>T = "str"
 | .int _=>T = "int"
 | .ref p=>(T = "list"/\∃ xs,lU K H p xs)\/(T = "tuple"/\∃ o,K.lookup p=some o/\o.cls=.type "tuple"/\o.dict=none) \/
   (T = "dict"/\((∃ kvs,H p=some (.dK kvs))\/∃ kvs,H p=some (.dT kvs)))\/(T = "set"/\∃ S n,H p=some (.set S n))
 | _=>False
theorem Dg {pins:List (MP×Obj)} {σ:St} {H:Hp} {s:MX} {T:String} {x:V} {v:MM} (I:Inv X pins σ H s) (r:RelV x v) (ty:Hx X.K T x H) :
  s.TypeIs v T/\∀ a,v=.ref a->∃ ob,s.heap.get? a=some ob/\ob.dict=none:=by
 cases x with
 | str z =>
  obtain⟨t,rfl⟩:=r
  cases (show T = "str" from ty)
  exact⟨typeIs_str s z t,fun _ e=>nomatch e⟩
 | int i =>
  obtain⟨t,rfl⟩:=r
  cases (show T = "int" from ty)
  exact⟨typeIs_int s i t,fun _ e=>nomatch e⟩
 | ref p =>
  cases r
  rcases ty with ⟨rfl,xs,hq⟩ | ⟨rfl,o,hk,hc,hd⟩ | ⟨rfl,hk⟩ | ⟨rfl,S,n,hk⟩
  ·obtain⟨its,_,pl,_⟩:=I.list hq
   refine⟨pl.isList.typeIs,fun a e=>?_⟩
   cases e
   obtain⟨o,n,e,c,hd,_⟩:=pl
   exact⟨o,e,hd⟩
  ·refine⟨⟨o,I.kIn p o hk,hc⟩,fun a e=>?_⟩
   cases e
   exact⟨o,I.kIn _ o hk,hd⟩
  ·have z:∃ o,s.heap.get? p=some o/\o.ExactDict:=by
    rcases hk with ⟨kvs,hk⟩ | ⟨kvs,hk⟩
    ·obtain⟨_,_,_,_,o,_,_,e,ex,_⟩:=I.hok p _ hk
     exact⟨o,e,ex⟩
    ·obtain⟨_,_,_,_,o,_,_,e,ex,_⟩:=I.hok p _ hk
     exact⟨o,e,ex⟩
   obtain⟨o,e,ex⟩:=z
   refine⟨⟨o,e,ex.1⟩,fun a e2=>?_⟩
   cases e2
   exact⟨o,e,ex.2.1⟩
  ·obtain⟨o,_,_,_,e,ex,_⟩:=I.hok p _ hk
   refine⟨⟨o,e,ex.1⟩,fun a e2=>?_⟩
   cases e2
   exact⟨o,e,ex.2.1⟩
 | _=>exact False.elim ty
def IX (K:LQ) (T:String) (r:V->List V->Hp->VK->Prop) (to:TE) (t:TA):TE:=fun σ H Q=>to σ H fun x H1=>Hx K T x H1/\t σ H1 fun xs H2=>r x xs H2 Q
variable {o e:M0} {es:List M0} {to:TE} {t:TA} {name:Str} {apos cpos:Pos} {T id:String} {r:V->List V->Hp->VK->Prop}
theorem wt (pa:PlainAttrs T) (slot:Slot T name id) (hty:typeOf (.builtin id)=pure (.type "method_descriptor")) (hm:IQ X id r) (ho:PE X o to) (ha:PA X (e::es) t)
  (hbase:Nk o name X.env (eval o X.env)=eval o X.env:=by rfl)
  (hfew:((backTo cpos (M1 (e::es) X.env)).all (fun x=>!x.1) && (backToKw cpos (Nn [] X.env)).all (fun x=>x.1.isSome)
   && decide ((e::es).length+([]:List NI).length+(if ([]:List NI).isEmpty then 0 else 1) < 30))=true:=by rfl)
  (hline:(apos.endLine==cpos.line)=true:=by rfl) (hs:M1 (e::es) X.env=(false,eval e X.env)::M1 es X.env:=by rfl) (hplain:(backTo cpos (M1 es X.env)).any (·.1)=false:=by rfl) :
  PE X (.Call (.Attribute o name apos) (e::es) [] cpos) (IX X.K T r to t):=by
 intro pins s σ H Q I h
 refine wpAny_Call_method_late hbase hfew hline rfl (dH (ho pins s σ H _ I h) fun v s1 ⟨x,H1,I1,r1,ty,q1⟩=>?_)
 obtain⟨h1,h2⟩:=Dg I1 r1 ty
 refine⟨T,id,pa,slot,hty,h1,h2,?_⟩
 have hA:=ha cpos pins s1 σ H1 _ I1 q1
 rw [hs] at hA ⊢
 refine Calls.callWith_builtin (by show (false || (backTo cpos (M1 es X.env)).any (·.1))=false; rw [hplain] <;> rfl) (Calls.evalArgs_plain ?_)
 exact dH hA fun us s2 ⟨vs,H2,I2,r2,q2⟩=>hm pins s2 σ H2 x vs v us Q I2 r1 r2 q2
end
end L2

namespace L2
open PySem PySem.Spec PyProof.Rows

def Fz (X:Cx) (id:String) (r:V->List V->Hp->VK->Prop):Prop :=
 ∀ (pins:List (MP×Obj)) (s:MX) (σ:St) (H:Hp) (x:V) (xs:List V) (v:MM) (us:List MM) (Q:VK),Inv X pins σ H s->RelV x v->Vals xs us->r x xs H Q ->
  MZ (model X.prog X.w) X.A (call (.builtin id) (v::us)) (EP X pins σ Q) X.xe s

theorem Vals.one:∀ {x:V} {us:List MM},Vals [x] us->∃ u,us=[u]/\RelV x u
 | _,_,.cons r .nil=>⟨_,rfl,r⟩
theorem Vals.two:∀ {x y:V} {us:List MM},Vals [x,y] us->∃ u v,us=[u,v]/\RelV x u/\RelV y v
 | _,_,_,.cons r (.cons q .nil)=>⟨_,_,rfl,r,q⟩
section
variable {X:Cx} {pins:List (MP×Obj)} {σ:St} {H:Hp} {s:MX} {l b:MP} {xs ys zs:List V}

theorem Inv.lset {its its':List MM} {n:Nat} {f:Array MM->Array MM} {t':Nat} (I:Inv X pins σ H s) (hH:H l=some (.lst xs))
  (e:s.heap.get? l=some { cls:=.type "list",data:=.seq its.toArray n }) (hf:f its.toArray=its'.toArray) (hv:Vals ys its') (hz:ys.length<=MS) :
  Inv X pins σ (upd H l (.lst ys)) { s with heap:=s.heap.update l (Obj.mapSeq f),toks:=t' }:=by
 have q:=PySem.IsL.update e f
 rw [hf] at q
 refine I.write (x:=l) (e:=l) (by rw [hH]; exact trivial) (.inl rfl) (fun b' u hb hu=>(Heap.get?_update_other s.heap (Obj.mapSeq f) (Ne.symm hb)).trans hu) ⟨_,q⟩ ?_
 exact⟨hz,its',_,hv,q⟩
theorem Inv.lnew {its:List MM} {t':Nat} (I:Inv X pins σ H s) (hv:Vals ys its) (hz:ys.length<=MS) :
  Inv X pins σ (upd H s.heap.objs.size (.lst ys)) { s with heap:=s.heap.push { cls:=.type "list",data:=.seq its.toArray },toks:=t' } :=
 I.laid (fun _ _ q=>Mq _ q) (Jw _) ⟨hz,its,0,hv,Mr _ rfl⟩
theorem Inv.fresh (I:Inv X pins σ H s):H s.heap.objs.size=none:=I.hok.fresh (Jw _)
theorem Inv.lstM (I:Inv X pins σ H s) (hH:H l=some (.lst xs)):xs.length<=MS/\∃ (its:List MM) (n:Nat),Vals xs its/\xs.length=its.length/\s.heap.get? l=some { cls:=.type "list",data:=.seq its.toArray n }:=by
 obtain⟨z,its,n,r,e⟩:=I.hok l _ hH
 exact⟨z,its,n,r,r.length,e⟩

theorem zH {n:Nat} (h:n<=MS):Builtin.List.listTooLong n=false:=by
 unfold Builtin.List.listTooLong
 exact decide_eq_false ‹0›
end

section
variable {X:Cx}

def rK:V->List V->Hp->VK->Prop:=fun x vs H Q=>∃ l xs y,x=.ref l/\vs=[y]/\H l=some (.lst xs)/\xs.length < MS/\Q .non (upd H l (.lst (xs++[y])))
theorem dE:Fz X "list.append" rK:=by
 intro pins s σ H x vs v us Q I rx rv h
 obtain⟨l,xs,y,rfl,rfl,hH,hz,q⟩:=h
 cases rx
 obtain⟨u,rfl,ru⟩:=rv.one
 obtain⟨z,its,n,r,hl,e⟩:=I.lstM hH
 refine call_meets F.slot_list_append ⟨_,e,rfl⟩ F.entry_list_append (F.args_list_append_2 _ _) (PySem.list_append l its.toArray n u (by rw [JA]; omega)) ⟨e,?_⟩
 refine⟨.non,_,I.lset (its':=its++[u]) hH e (by simp) (r.append (.cons ru .nil)) ?_,rfl,q⟩
 rw [JR,JW]
 omega

def BR:V->List V->Hp->VK->Prop:=fun x vs H Q=>∃ l b xs zs,x=.ref l/\vs=[.ref b]/\H l=some (.lst xs)/\H b=some (.lst zs)/\xs.length+zs.length<=MS/\Q .non (upd H l (.lst (xs++zs)))
theorem xO:Fz X "list.extend" BR:=by
 intro pins s σ H x vs v us Q I rx rv h
 obtain⟨l,b,xs,zs,rfl,rfl,hH,hB,hz,q⟩:=h
 cases rx
 obtain⟨u,rfl,ru⟩:=rv.one
 cases ru
 obtain⟨z,its,n,r,hl,e⟩:=I.lstM hH
 obtain⟨z2,its2,n2,r2,hl2,e2⟩:=I.lstM hB
 have hsz:its.toArray.size+its2.toArray.size<=MS:=by rw [JA,JA]; omega
 have hlong:¬ (!its.toArray.isEmpty && Builtin.List.listTooLong (its.toArray.size+its2.toArray.size))=true:=by
  rw [zH hsz,JX]
  exact JB
 refine call_meets F.slot_list_extend ⟨_,e,rfl⟩ F.entry_list_extend (F.args_list_extend_2 _ _)
  (AutoSeq1.list_extend_list_list_0 l its.toArray n b its2.toArray n2 hlong (by rw [JA]; omega) ‹0›) ⟨e,e2,?_⟩
 refine⟨.non,_,I.lset (its':=its++its2) hH e (by simp) (r.append r2) ?_,rfl,q⟩
 rw [JR]
 omega

end


end L2

namespace Att
open PySem PySem.W PySem.Calls PyProof.Rows

theorem nY {P:Params} {h:MR}:∀ (ns:List Int) (vs:List MM),WellAll P h vs (ns.map WData.int)->IntsAre vs ns:=by
 intro ns
 induction ns with
 | nil =>
  intro vs w
  rw [JY] at w
  cases w
  exact .nil
 | cons n ns ih =>
  intro vs w
  rw [JD] at w
  cases w with
  | cons a b =>
   cases a
   exact .cons _ _ (ih _ b)

theorem xW {l:OpenLaw} {n:Nat} (hn:l.most=some n) {P:Params} {h:MR} {args:List WData} {vals:List MM}
  (hpre:l.row.toRowW.claim.pre args=true) (hwl:WellAll P h vals args) :
  ∃ a vs ns,vals=[Value.ref a]/\args=[WData.list (ns.map WData.int)]/\h.get? a=some { cls:=.type "list",data:=.seq vs.toArray }/\IntsAre vs ns/\ns.length<=n:=by
 have hsh:WShape.hasAll [] args [.list .int]=true:=(pre_splitW hpre).1
 have hc:l.pre.holds [] { args:=args }=true:=(pre_splitW hpre).2
 obtain⟨d,r,rfl,h1,h2⟩:=hasAllW_cons hsh
 obtain rfl:=hasAllW_nil h2
 obtain⟨xs,rfl,h3⟩:=hasW_list h1
 obtain⟨ns,rfl⟩:=items_int h3
 have hlen:ns.length<=n:=by
  unfold OpenLaw.pre at hc
  have h4:(WTm.not (.lt (.lit (.int (n:Int))) (.len (.arg 0)))).holds [] { args:=[.list (ns.map .int)] }=true:=by
   have h4:=(holds_andW hc).1
   rw [hn] at h4
   exact h4
  have h5:=condW_of h4 (w_not (w_lt w_lit (w_len_list (w_arg rfl))))
  rw [JE] at h5
  refine Nat.le_of_not_lt fun q=>?_
  have q':(n:Int) < ((ns.length:Nat):Int):=by omega
  first
   | (rw [decide_eq_true q'] at h5; exact absurd h5 (by decide))
   | (simp at h5; omega)
 cases hwl with
 | cons w1 w2 =>
  cases w2
  cases w1 with
  | list ho hall=>exact⟨_,_,ns,rfl,rfl,ho,nY ns _ hall,hlen⟩

theorem xC (l:OpenLaw) (args:List WData):l.row.toRowW.claim.post args (.bool true) args=true :=
 postW_of (r:=l.row.toRowW) (X:=(true==true))
  (show WShape.has [] (.bool true) .bool=true by first | rfl | decide | simp [WShape.has,WShape.arms,WShape.armsAll])
  (show (WTm.eq .res (.lit (.bool true))).value [] { args:=args,res:=some (.bool true),after:=args }=some (.bool (true==true)) from w_eq_bool (w_res rfl) w_lit) rfl

theorem Ck {l:OpenLaw} {n:Nat} {q:MO} {loose:List Str} {XP:(Str->Option MM)->MR->Prop} {YP:MN->MR->Prop} {d:DefRec}
  (hn:l.most=some n) (hdf:d.params.defaults=[])
  (call:∀ (w:MN) (s₀ s₁:MX) (mg mb:Str->Option MM) (fa:MP) (o:Obj) (pm cd doc:MM) (a:MP) (vs:List MM) (ns:List Int),
   Ground q loose [] XP w s₀ mg mb s₁.heap->YP w s₁.heap ->
   s₁.heap.get? fa=some o->o.data=.func (docDef d.name d.params d.body d.scope pm cd doc)->s₁.heap.CodeRec cd d.name->mg d.name=some (.ref fa) ->
   s₁.heap.get? a=some { cls:=.type "list",data:=.seq vs.toArray }->IntsAre vs ns->ns.length<=n->s₁.gens=#[] ->
   Nj (model l.prog w) callerA (.call (.ref fa) ⟨[.ref a],[]⟩) (fun r s'=>r=.ok (.ret (.bool true))/\OldK s₁.heap s'.heap/\s'.os=s₁.os/\AllBare s'.gens) s₁) :
  WalkO q loose XP YP l.row.toRowW d [] (fun f vs=>PySem.call f vs):=by
 intro w s₀ s₁ mg mb G Y fa o pm cd doc dV kV ho hd hcd hD hmg hg args vals as hpre hlay hrd hwl hlo
 obtain rfl:dV=.none:=Dflts.none hD hdf
 obtain rfl:kV=.none:=Dflts.noKw hD
 obtain⟨a,vs,ns,rfl,rfl,hobj,hints,hlen⟩:=xW hn hpre hwl
 refine enter_call (Nt (call w s₀ s₁ mg mb fa o pm cd doc a vs ns G Y ho (fd_plain hd) hcd hmg hobj hints hlen hg) fun r s' hq=>?_)
 obtain⟨rfl,h2,h3,h4⟩:=hq
 exact⟨.inl ⟨.bool true,.bool true,[],rfl,fun _=>rfl,.bool true,xC l _,fun _=>⟨List.Pairwise.nil,fun _ hm=>(nomatch hm)⟩⟩,h2,h3,h4⟩

section
variable {prog:MO} {w:MN} {A:MV} {E:MM->MX->Prop} {s:MX} {K:Frag}

end
end Att

namespace L2
open PySem PySem.Spec PyProof.Rows

theorem qG:∀ {vs:List MM} {ns:List Int},IntsAre vs ns->Vals (ns.map V.int) vs
 | _,_,.nil=>.nil
 | _,_,.cons n t h=>.cons ⟨t,rfl⟩ (qG h)

def Only (H:Hp):Prop:=∀ b,H b=none\/∃ o xs,H b=some (.frz o (.lst xs))

theorem zI {P:MO} {w:MN} {K:LQ} {mg mb:Str->Option MM} {CX:wf} {k:Nat} {fa a:MP} {fd:Nq} {x:Str} {sp:Sp} {s₁:MX} {vs:List MM} {ns:List Int}
  (KX:K.In s₁.heap) (hns:s₁.heap.Ns MT mg) (hb:s₁.heap.Ns builtinsNs mb) (hbb:∀ x:Str,x ≠ "__name__"->mb x=MU x) (hlim:s₁.heap.NoLimit) (hg:s₁.gens=#[])
  (ha:s₁.heap.get? a=some { cls:=.type "list",data:=.seq vs.toArray }) (hi:IntsAre vs ns) (hl:ns.length<=MS) (hr:e7 k callerA)
  (F:∀ base:MR,K.In base->base.Ns MT mg->hX P w K mg base CX k fa fd [x] sp) (hbind:∀ (s:MX) (u:MM),Nr s fd ⟨[u],[]⟩ [(x,u)])
  (hsp:∀ H:Hp,Only H->lU K H a (ns.map V.int)->sp [.ref a] H (fun v _=>v=.bl true) fun _ _ _=>False)
  (hCX:∀ H e s',CX [] H s₁ (fun _ _ _=>False) e s'->False) :
  Nj (model P w) callerA (.call (.ref fa) ⟨[.ref a],[]⟩) (fun r s'=>r=.ok (.ret (.bool true))/\OldK s₁.heap s'.heap/\s'.os=s₁.os/\AllBare s'.gens) s₁:=by
 have rv:=qG hi
 have lenV:=hi.length
 have core:∀ H:Hp,Only H->lU K H a (ns.map V.int)->mr P w H s₁.heap->(∀ b,H b≠none->b=a)->(H a≠none->K.lookup a=none) ->
   Nj (model P w) callerA (.call (.ref fa) ⟨[.ref a],[]⟩) (fun r s'=>r=.ok (.ret (.bool true))/\OldK s₁.heap s'.heap/\s'.os=s₁.os/\AllBare s'.gens) s₁:=by
  intro H hO hS hok hA hK
  have base_of:∀ {b:MP} {o:Obj},s₁.heap.get? b=some o->H b=none->(su s₁.heap H).get? b=some o:=fun e n=>zy e n
  have noA:∀ {b:MP} {o:Obj} {es:Array NK} {ep:Nat},s₁.heap.get? b=some o->o.data=.dict es ep->H b=none:=fun {b o es ep} e d=>by
   cases q:H b with
   | none=>rfl
   | some u =>
    have e':b=a:=hA b (by rw [q]; simp)
    subst e'
    rw [ha] at e; cases e
    have d':Data.seq vs.toArray _=Data.dict es ep:=d
    cases d'
  have nsK:∀ {b:MP} {m:Str->Option MM},s₁.heap.Ns b m->(su s₁.heap H).Ns b m:=fun {b m} ⟨o,es,ep,e,d,r⟩=>⟨o,es,ep,base_of e (noA e d),d,r⟩
  have hKb:K.In (su s₁.heap H):=fun b o e=>base_of (KX b o e) (by
   cases q:H b with
   | none=>rfl
   | some u =>
    have e':b=a:=hA b (by rw [q]; simp)
    subst e'
    rw [hK (by rw [q]; simp)] at e; cases e)
  have hM:Mod K mg (su s₁.heap H):=⟨hKb,nsK hns,⟨mb,nsK hb,hbb⟩,let ⟨mc,h1,h2⟩:=hlim; ⟨mc,nsK h1,h2⟩⟩
  have e0:yw P w K mg (su s₁.heap H) callerA [] s₁ H:=⟨rfl,hM,fun b o e=>A3 e,JF (yP _ _),trivial,fun b hb=>absurd (show b∈([]:List MP) from hb) (by simp),hok,.of_eq hg⟩
  refine Nt ((F _ hKb (nsK hns)).run callerA [] s₁ H ⟨[.ref a],[]⟩ [.ref a] [.ref a] _ _ hr e0 (hbind s₁ (.ref a)) (.cons rfl .nil) (hsp H hO hS)) fun r s' h=>?_
  cases r with
  | error e=>exact(hCX H e s' h).elim
  | ok fl =>
   cases fl with
   | next=>exact False.elim h
   | brk=>exact False.elim h
   | cont=>exact False.elim h
   | ret u =>
    obtain⟨v,H',os,bare,un,hok',r',q⟩:=h
    have q':v=.bl true:=q
    subst q'
    obtain rfl:u=Value.bool true:=r'
    refine⟨rfl,OldK.of_keep fun b o e=>?_,os,bare⟩
    cases q:H b with
    | none=>exact un.keep b o e q (by intro z; exact absurd (show b∈([]:List MP) from z) (by simp)) (by simp)
    | some u =>
     rcases hO b with z | ⟨ob,xs,z⟩
     ·rw [q] at z; cases z
     ·have z2:=un.frzs b ob _ z
      obtain⟨e1,_⟩:=hok b _ z
      obtain⟨e2,_⟩:=hok' b _ z2
      rw [e] at e1; cases e1
      exact e2
 cases hk:K.lookup a with
 | some o =>
  have e:=KX a o hk
  rw [ha] at e
  cases e
  refine core (fun _=>none) (fun _=>.inl rfl) (.inr ⟨_,vs.toArray,_,hk,rfl,rfl,rfl,by rw [JA,lenV]; exact hl,by simpa using rv⟩) (fun b u z=>by have z':(none:Option HO)=some u:=z; cases z') (fun b z=>absurd rfl z) fun z=>absurd rfl z
 | none =>
  refine core (fun b=>if b=a then some (.frz { cls:=.type "list",data:=.seq vs.toArray } (.lst (ns.map V.int))) else none) (fun b=>?_) (.inl (.inr ⟨{ cls:=.type "list",data:=.seq vs.toArray },if_pos rfl⟩)) (fun b u z=>?_) (fun b z=>?_) fun _=>hk
  ·by_cases hb:b=a
   ·exact .inr ⟨_,_,if_pos hb⟩
   ·exact .inl (if_neg hb)
  ·by_cases hb:b=a
   ·have z':=(if_pos hb).symm.trans z
    cases z'
    subst hb
    exact⟨ha,by rw [JE]; exact hl,vs,_,rv,ha⟩
   ·have z':=(if_neg hb).symm.trans z
    cases z'
  ·by_cases hb:b=a
   ·exact hb
   ·exact absurd (if_neg hb) z
end L2

namespace L2
open PySem PySem.Spec PyProof.Rows

theorem Gm {l:Mb} {n k:Nat} {q:MO} {loose:List Str} {XP:(Str->Option MM)->MR->Prop} {YP:MN->MR->Prop} {d:DefRec} {K:Params->LQ} {CX:MN->wf} {sp:MN->Sp} {x:Str}
  (hn:l.most=some n) (hn2:n<=MS) (hdf:d.params.defaults=[]) (hr:e7 k callerA)
  (hY:∀ (w:MN) (h:MR),YP w h->(K w.params).In h)
  (F:∀ (w:MN) (mg:Str->Option MM) (fa:MP) (h:MR),(K w.params).In h->h.Ns MT mg->mg d.name=some (.ref fa) ->
   ∃ fd:Nq,(∀ (s:MX) (u:MM),Nr s fd ⟨[u],[]⟩ [(x,u)]) /\
    ∀ base:MR,(K w.params).In base->base.Ns MT mg->hX l.prog w (K w.params) mg base (CX w) k fa fd [x] (sp w))
  (hsp:∀ (w:MN) (H:Hp) (a:MP) (ns:List Int),ns.length<=n->Only H->lU (K w.params) H a (ns.map V.int)->sp w [.ref a] H (fun v _=>v=.bl true) fun _ _ _=>False)
  (hCX:∀ (w:MN) (H:Hp) (s:MX) (e:MM) (s':MX),CX w [] H s (fun _ _ _=>False) e s'->False) :
  PySem.W.WalkO q loose XP YP l.row.toRowW d [] (fun f vs=>PySem.call f vs):=by
 refine Att.Ck hn hdf fun w s₀ s₁ mg mb fa o pm cd doc a vs ns G Y ho hd hcd hmg hobj hints hlen hg=>?_
 have KX:=hY w _ Y
 obtain⟨fd,hb,hF⟩:=F w mg fa _ KX G.T.g hmg
 exact zI KX G.T.g G.T.b G.T.builtins G.T.nolimit hg hobj hints (Jn hlen hn2) hr hF hb (fun H hO hS=>hsp w H a ns hlen hO hS) fun H e s'=>hCX w H s₁ e s'
end L2

namespace L2
open PySem PySem.Spec PyProof.Rows

def inClass (s:M2) (j:Nat):M2:=match s with
 | .ClassDef _ _ _ body _ _ _ _ _ _ _=>body.getD j (.Pass ⟨0,0,0,0⟩)
 | _=>.Pass ⟨0,0,0,0⟩
def kN (s:M2):Arguments:=match s with
 | .FunctionDef _ a _ _ _ _ _ _ _ _=>a
 | _=>{ posonlyargs:=[],args:=[],vararg:=none,kwonlyargs:=[],kw_defaults:=[],kwarg:=none,defaults:=[] }
def eD (s:M2):List M2:=match s with
 | .FunctionDef _ _ b _ _ _ _ _ _ _=>b
 | _=>[]
def aA (s:M2):MY:=match s with
 | .FunctionDef _ _ _ _ _ _ sc _ _ _=>sc
 | _=>{ kind:=.function,names:=[],isGenerator:=false,isCoroutine:=false }

abbrev Gj:wf:=fun _ _ _ _ _ _=>False
abbrev E0:XK:=fun _ _ _=>False
structure uT (K:LQ) (x qual:Str) (st:M2) (f:MP) (fd:Nq):Prop where
 ex:∃ (oc:MM) (od:Option MP) (kV doc pm:MM) (an:Option MP) (cdv ct:MM) (osl:Array (Option MM)),
  fd=L9 x qual (kN st) (eD st) (aA st) .none kV doc pm an cdv ct/\K.lookup f=some ⟨oc,od,.func fd,osl⟩/\Ma K cdv qual=true
 kp:L6 K (.ref f)=true
section
variable {P:MO} {w:MN} {K:LQ} {mg:Str->Option MM} {base:MR}
theorem uT.ok {x qual:Str} {st:M2} {f:MP} {fd:Nq} {N ps:List Str} {k:Nat} {sp:Sp} (F:uT K x qual st f fd) (S:bd N ps (aA st)) (len:∀ vs H Q E,sp vs H Q E->vs.length=ps.length)
  (hbody:∀ (cdv:MM) (A:MV) (outer:List Env) (s:MX) (H:Hp) (vs:List V) (Q:VK) (E:XK),e7 k (A.deeper (envOfC qual (aA st) s.heap.objs.size f cdv))->sp vs H Q E ->
   ∃ t,tq (jG Gj P w K mg base N qual (aA st) f cdv A outer s H E).nox (eD st) t/\t { nx:=fun _ H'=>Q .non H',rt:=Q } (start N vs) H):hX P w K mg base Gj (k+1) f fd ps sp:=by
 obtain⟨oc,od,kV,doc,pm,an,cdv,ct,osl,rfl,lk,hcd⟩:=F.ex
 refine B2 lk hcd S len fun A outer s H vs Q E hr hsp=>?_
 obtain⟨t,h,q⟩:=hbody cdv A outer s H vs Q E hr hsp
 exact⟨t,h.nox,q⟩
theorem uT.binds {x qual:Str} {st:M2} {f:MP} {fd:Nq} {ps:List Str} (F:uT K x qual st f fd)
  (h:∀ (kV doc pm:MM) (an:Option MP) (cdv ct:MM) (us:List MM),us.length=ps.length->bindArgs (L9 x qual (kN st) (eD st) (aA st) .none kV doc pm an cdv ct) ⟨us,[]⟩=pure (ps.zip us)):Binds K fd ps []:=by
 obtain⟨oc,od,kV,doc,pm,an,cdv,ct,osl,rfl,lk,hcd⟩:=F.ex
 exact .all (h kV doc pm an cdv ct)
theorem cn {x qual:Str} {st:M2} {f:MP} {oc:MM} {od an:Option MP} {osl:Array (Option MM)} {kV doc pm cdv ct:MM} (l:K.lookup f=some ⟨oc,od,.func (L9 x qual (kN st) (eD st) (aA st) .none kV doc pm an cdv ct),osl⟩)
  (c:Ma K cdv qual=true) (k:L6 K (.ref f)=true):uT K x qual st f (L9 x qual (kN st) (eD st) (aA st) .none kV doc pm an cdv ct):=⟨⟨oc,od,kV,doc,pm,an,cdv,ct,osl,rfl,l,c⟩,k⟩
end
section
variable {X:Cx}
theorem pv (i:Nat) {x:Str} {pos:Pos} (hN:X.N[i]?=some x:=by rfl) (hv:Em X.env.scope x:=by first | exact Or.inl rfl | exact Or.inr (Or.inl rfl) | exact Or.inr (Or.inr rfl)) (hd:(x==("__debug__":Str))=false:=by decide)
  (hcd:(x==("__classdict__":Str))=false:=by decide):PE X (.Name x pos) (nq i):=DX hN hv hd hcd
end

theorem A0 {A B:Prop} (h:B):if false=true then A else B:=by
 rw [if_neg JB]
 exact h
theorem Bj {A B:Prop} (h:A):if true=true then A else B:=by
 rw [if_pos rfl]
 exact h
def aX (H H':Hp):Prop:=∀ b o,H b=some o->H' b=some o
theorem aX.refl (H:Hp):aX H H:=fun _ _ h=>h
theorem aX.trans {H H1 H2:Hp} (a:aX H H1) (b:aX H1 H2):aX H H2:=fun c o h=>b c o (a c o h)
theorem aX.free {H H':Hp} (e:aX H H') {l:MP} (h:H' l=Option.none):H l=Option.none:=by
 cases q:H l with
 | none=>rfl
 | some o =>
  rw [e l o q] at h
  cases h
theorem aX.seq {K:LQ} {H H':Hp} {a:MP} {xs:List V} (e:aX H H') (h:lU K H a xs):lU K H' a xs:=by
 rcases h with (h | ⟨o,h⟩) | h
 ·exact .inl (.inl (e _ _ h))
 ·exact .inl (.inr ⟨o,e _ _ h⟩)
 ·exact .inr h

end L2
namespace L2
open PySem PySem.Spec PyProof.Rows

section
variable {κ:Type} [DecidableEq κ]
def jc (kvs:List (κ×V)) (k:κ):Option V:=(kvs.find? fun kv=>decide (kv.1=k)).map (·.2)
def putK (kvs:List (κ×V)) (k:κ) (v:V):List (κ×V) :=
 if (kvs.any fun kv=>decide (kv.1=k))=true then kvs.map (fun kv=>if kv.1=k then (kv.1,v) else kv) else kvs++[(k,v)]
theorem jJ {p:κ×V} {r:List (κ×V)} {k:κ} (e:p.1=k):jc (p::r) k=some p.2:=by simp [jc,JZ,e]
theorem ir {p:κ×V} {r:List (κ×V)} {k:κ} (e:¬ p.1=k):jc (p::r) k=jc r k:=by simp [jc,JZ,e]
theorem oO (k:κ):∀ kvs:List (κ×V),(kvs.any fun kv=>decide (kv.1=k))=(jc kvs k).isSome
 | []=>rfl
 | p::r=>by
  rw [J0]
  by_cases e:p.1=k
  ·simp only [jJ e,decide_eq_true e,Bool.true_or,Option.isSome_some]
  ·rw [ir e,decide_eq_false e,Bool.false_or]; exact oO k r
theorem hU (kvs:List (κ×V)) (k:κ) (v:V):(putK kvs k v).length<=kvs.length+1:=by
 unfold putK
 split
 ·rw [JE]; omega
 ·rw [JR,JC,J1]; omega
theorem oJ.isSome_eq {o:Option V} {u:Option MM} (r:oJ o u):o.isSome=u.isSome:=by
 cases o with
 | none=>cases u with
  | none=>rfl
  | some _=>exact(show False from r).elim
 | some _=>cases u with
  | none=>exact(show False from r).elim
  | some _=>rfl
theorem KV.val {kvs:List (κ×V)} {vs:List (κ×MM)} (r:KV kvs vs) (k:κ):oJ (jc kvs k) (valueAt vs k):=by
 unfold KV at r
 induction r with
 | nil=>exact True.intro
 | @cons p q ps qs h t ih =>
  obtain⟨h1,h2⟩:=h
  by_cases e:p.1=k
  ·have e':q.1=k:=h1.symm.trans e
   have b:valueAt (q::qs) k=some q.2:=by simp [valueAt,JZ,e']
   rw [jJ e,b]; exact h2
  ·have e':¬ q.1=k:=fun z=>e (h1.trans z)
   have b:valueAt (q::qs) k=valueAt qs k:=by simp [valueAt,JZ,e']
   rw [ir e,b]; exact ih
theorem KV.any {kvs:List (κ×V)} {vs:List (κ×MM)} (r:KV kvs vs) (k:κ):(kvs.any fun kv=>decide (kv.1=k))=vs.any fun kv=>decide (kv.1=k):=by
 unfold KV at r
 induction r with
 | nil=>rfl
 | cons h t ih=>rw [J0,J0,ih,h.1]
theorem KV.repl {kvs:List (κ×V)} {vs:List (κ×MM)} (r:KV kvs vs) (k:κ) {y:V} {u:MM} (ry:RelV y u) :
  KV (kvs.map fun kv=>if kv.1=k then (kv.1,y) else kv) (vs.map fun kv=>if kv.1=k then (kv.1,u) else kv):=by
 unfold KV at r ⊢
 induction r with
 | nil=>exact .nil
 | @cons p q ps qs h t ih =>
  rw [JD,JD]
  refine .cons ?_ ih
  obtain⟨h1,h2⟩:=h
  by_cases e:p.1=k
  ·rw [if_pos e,if_pos (h1.symm.trans e)]; exact⟨h1,ry⟩
  ·rw [if_neg e,if_neg (fun z=>e (h1.trans z))]; exact⟨h1,h2⟩
theorem KV.put {kvs:List (κ×V)} {vs:List (κ×MM)} (r:KV kvs vs) (k:κ) {y:V} {u:MM} (ry:RelV y u):KV (putK kvs k y) (stored vs k u):=by
 unfold putK stored
 rw [r.any k]
 by_cases e:(vs.any fun kv=>decide (kv.1=k))=true
 ·rw [if_pos e,if_pos e]; exact r.repl k ry
 ·rw [if_neg e,if_neg e]; exact Paired.snoc r ⟨rfl,ry⟩
theorem KV.keys {kvs:List (κ×V)} {vs:List (κ×MM)} (r:KV kvs vs):kvs.map (·.1)=vs.map (·.1):=by
 unfold KV at r
 induction r with
 | nil=>rfl
 | cons h t ih=>rw [JD,JD,ih,h.1]
theorem KV.length {kvs:List (κ×V)} {vs:List (κ×MM)} (r:KV kvs vs):kvs.length=vs.length:=Paired.length r
end


theorem zD {P:MO} {w:MN} {k:Key} {u:MM} (r:RelV (kV k) u):(bE P w).is k u=true:=by
 cases k with
 | inl i=>obtain⟨t,e⟩:=(show ∃ t,u=Value.int i t from r); subst e; exact ut P w i t
 | inr x=>obtain⟨t,e⟩:=(show ∃ t,u=Value.str x t from r); subst e; exact sV P w x t
theorem qp {P:MO} {w:MN}:∀ {ks:List Key} {us:List MM},Vals (ks.map kV) us->ItemsAre (bE P w) ks us
 | [],_,r=>by rw [JY] at r; cases r; exact .nil
 | k::ks,_,r=>by
  rw [JD] at r
  cases r with
  | cons h t=>exact .cons (zD h) (qp t)

abbrev KT (H:Hp):List (List Key×V)->List (List Key×MP×MM)->Prop:=MQ fun p q=>p.1=q.1/\H q.2.1=some (.tup (p.1.map kV))/\RelV p.2 q.2.2
theorem KT.val {H:Hp} {kvs:List (List Key×V)} {xs:List (List Key×MP×MM)} (r:KT H kvs xs) (k:List Key):oJ (jc kvs k) ((atKey xs k).map (·.2)):=by
 induction r with
 | nil=>exact True.intro
 | @cons p q ps qs h t ih =>
  obtain⟨h1,_,h2⟩:=h
  by_cases e:p.1=k
  ·have e':q.1=k:=h1.symm.trans e
   have b:atKey (q::qs) k=some q.2:=by simp [atKey,JZ,e']
   rw [jJ e,b]; exact h2
  ·have e':¬ q.1=k:=fun z=>e (h1.trans z)
   have b:atKey (q::qs) k=atKey qs k:=by simp [atKey,JZ,e']
   rw [ir e,b]; exact ih
theorem KT.repl {H:Hp} {kvs:List (List Key×V)} {xs:List (List Key×MP×MM)} (r:KT H kvs xs) (k:List Key) {y:V} {u:MM} (ry:RelV y u) :
  KT H (kvs.map fun kv=>if kv.1=k then (kv.1,y) else kv) (xs.map (putAt k u)):=by
 induction r with
 | nil=>exact .nil
 | @cons p q ps qs h t ih =>
  rw [JD,JD]
  refine .cons ?_ ih
  obtain⟨h1,h2,h3⟩:=h
  unfold putAt
  by_cases e:p.1=k
  ·rw [if_pos e,if_pos (h1.symm.trans e)]; exact⟨h1,h2,ry⟩
  ·rw [if_neg e,if_neg (fun z=>e (h1.trans z))]; exact⟨h1,h2,h3⟩
theorem KT.put {H:Hp} {kvs:List (List Key×V)} {xs:List (List Key×MP×MM)} (r:KT H kvs xs) (k:List Key) {b:MP} {y:V} {u:MM} (hb:H b=some (.tup (k.map kV))) (ry:RelV y u) :
  KT H (putK kvs k y) (storedH xs k b u):=by
 have e:(kvs.any fun kv=>decide (kv.1=k))=(atKey xs k).isSome:=by
  rw [oO,(r.val k).isSome_eq,Option.isSome_map]
 unfold putK storedH
 rw [e]
 by_cases q:(atKey xs k).isSome=true
 ·rw [if_pos q,if_pos q]; exact r.repl k ry
 ·rw [if_neg q,if_neg q]; exact Paired.snoc r ⟨rfl,hb,ry⟩
theorem KT.keeps {H H':Hp} {kvs:List (List Key×V)} {xs:List (List Key×MP×MM)} (r:KT H kvs xs) (ht:∀ b ys,H b=some (.tup ys)->H' b=some (.tup ys)):KT H' kvs xs :=
 Paired.mapP r fun _ _ z=>⟨z.1,ht _ _ z.2.1,z.2.2⟩

section
variable {P:MO} {w:MN} {H:Hp} {h:MR} {a:MP}
theorem Cg {u:HO} (ok:mr P w H h) (e:Rd H a u):cc P w H h a u:=e.ok ok
theorem Ao {kvs:List (Key×V)} (ok:mr P w H h) (e:Rd H a (.dK kvs)):kvs.length<=MS/\(a==sysModules)=false/\∃ vs,KV kvs vs/\h.DictOf (bE P w) a vs :=
 show cc P w H h a (.dK kvs) from Cg ok e
theorem B5 {kvs:List (Key×V)} (ok:mr P w H h) (e:H a=some (.dK kvs)):kvs.length<=MS/\(a==sysModules)=false/\∃ vs,KV kvs vs/\h.DictOf (bE P w) a vs:=Ao ok (.inl e)
theorem o4 {ks:List Key} (ok:mr P w H h) (e:H a=some (.tup (ks.map kV))):(tupleKind (bE P w)).is h ks a:=by
 obtain⟨_,its,r,o,h1,h2,n,h3⟩:=(show cc P w H h a (.tup (ks.map kV)) from ok a _ e)
 exact⟨o,its.toArray,n,h1,h2,h3,by simpa using qp r⟩
theorem xi {kvs:List (List Key×V)} (ok:mr P w H h) (e:Rd H a (.dT kvs)):kvs.length<=MS/\(a==sysModules)=false /\
  ∃ xs,KT H kvs xs/\h.DictOfH (tupleKind (bE P w)) a xs:=by
 obtain⟨z,y,xs,r,o,es,ep,h1,h2,h3,h4,h5⟩:=(show cc P w H h a (.dT kvs) from Cg ok e)
 refine⟨z,y,xs,r,o,es,ep,h1,h2,h3,h4,fun x hx=>?_,h5⟩
 have all:∀ {l:List (List Key×V)} {m:List (List Key×MP×MM)},KT H l m->∀ x∈m,(tupleKind (bE P w)).is h x.1 x.2.1:=by
  intro l m q
  induction q with
  | nil=>intro x hx; exact nomatch hx
  | @cons p q ps qs hq t ih =>
   intro x hx
   rcases List.mem_cons.mp hx with e | hx
   ·subst e
    exact o4 ok (by rw [<- hq.1]; exact hq.2.1)
   ·exact ih x hx
 exact all r x hx
theorem Cb {kvs:List (List Key×V)} (ok:mr P w H h) (e:H a=some (.dT kvs)):kvs.length<=MS/\(a==sysModules)=false /\
  ∃ xs,KT H kvs xs/\h.DictOfH (tupleKind (bE P w)) a xs:=xi ok (.inl e)
end

def DS (H:Hp) (a:MP) (y:V) (r:Option V):Prop :=
 (∃ kvs k,Rd H a (.dK kvs)/\y=kV k/\r=jc kvs k)\/∃ kvs k b,Rd H a (.dT kvs)/\y=.ref b/\H b=some (.tup (k.map kV))/\r=jc kvs k
def DP (H:Hp) (a:MP) (y v:V) (H':Hp):Prop :=
 (∃ kvs k,H a=some (.dK kvs)/\y=kV k/\kvs.length < MS/\H'=upd H a (.dK (putK kvs k v))) \/
 ∃ kvs k b,H a=some (.dT kvs)/\y=.ref b/\H b=some (.tup (k.map kV))/\kvs.length < MS/\H'=upd H a (.dT (putK kvs k v))
theorem DP.k {H:Hp} {a:MP} {kvs:List (Key×V)} {k:Key} {v:V} (e:H a=some (.dK kvs)) (hl:kvs.length < MS):DP H a (kV k) v (upd H a (.dK (putK kvs k v))):=.inl ⟨kvs,k,e,rfl,hl,rfl⟩
theorem DP.t {H:Hp} {a b:MP} {kvs:List (List Key×V)} {k:List Key} {v:V} (e:H a=some (.dT kvs)) (eb:H b=some (.tup (k.map kV))) (hl:kvs.length < MS) :
  DP H a (.ref b) v (upd H a (.dT (putK kvs k v))):=.inr ⟨kvs,k,b,e,rfl,eb,hl,rfl⟩


section
variable {X:Cx} {pins:List (MP×Obj)} {σ:St} {H:Hp} {s:MX} {a:MP} {y v:V} {u r:MM} {o:Option V} {A:MV} {E:MM->MX->Prop}

theorem Inv.big (I:Inv X pins σ H s):sysModules < s.heap.objs.size:=by
 have h:MT < s.heap.objs.size:=(I.mod.glob.keeps I.bk).lt
 exact J2 (by decide) h

theorem yC {Q:MM->MX->Prop} (hu:A.units+1 < Np) (I:Inv X pins σ H s) (g:DS H a y (some v)) (ry:RelV y u) (h:∀ w' s',Inv X pins σ H s'->RelV v w'->Q w' s') :
  MZ (model X.prog X.w) A (getItem (.ref a) u) Q E s:=by
 rcases g with ⟨kvs,k,e,ey,l⟩ | ⟨kvs,k,b,e,ey,eb,l⟩
 ·subst ey
  obtain⟨z,hd,vs,rel,dd⟩:=Ao I.hok e
  obtain⟨w',hw,rw'⟩:=oJ.some_of (v:=v) (o:=valueAt vs k) (by rw [l]; exact rel.val k)
  exact wpAny_getItem_of (zD ry) dd.mapOf hw (h w' _ (I.tok _) rw')
 ·subst ey
  cases (show u=Value.ref b from ry)
  obtain⟨z,hd,xs,rel,dd⟩:=xi I.hok e
  obtain⟨w',hw,rw'⟩:=oJ.some_of (v:=v) (o:=(atKey xs k).map (·.2)) (by rw [l]; exact rel.val k)
  obtain⟨p,hp,hp2⟩:=Option.map_eq_some_iff.mp hw
  refine wpAny_getItem_heap (NM hu) (o4 I.hok eb) dd hp ?_
  rw [hp2]
  exact h w' _ (I.tok _) rw'
theorem kE {h':MR} {t':Nat} {ob:HO} (I:Inv X pins σ H s) (mu:EF (H a)) (hs:Mp a s.heap h') (he:∃ q,h'.get? a=some q) (new:cc X.prog X.w (upd H a ob) h' a ob) :
  Inv X pins σ (upd H a ob) { s with heap:=h',toks:=t' } :=
 I.write (x:=a) (e:=a) mu (.inl rfl) (fun b q hb z=>(hs.2 b hb).trans z) he new
theorem DL {P:MO} {w:MN} {H':Hp} {h':MR} {kvs:List (Key×V)} {vs:List (Key×MM)} (z:kvs.length<=MS) (hd:(a==sysModules)=false) (rel:KV kvs vs) (dd:h'.DictOf (bE P w) a vs) :
  cc P w H' h' a (.dK kvs):=⟨z,hd,vs,rel,dd⟩
theorem kA {H':Hp} {Q:Unit->MX->Prop} (hu:A.units+1 < Np) (I:Inv X pins σ H s) (g:DP H a y v H') (ry:RelV y u) (rv:RelV v r) (h:∀ s',Inv X pins σ H' s'->Q () s') :
  MZ (model X.prog X.w) A (setItem (.ref a) u r) Q E s:=by
 rcases g with ⟨kvs,k,e,ey,l,eH⟩ | ⟨kvs,k,b,e,ey,eb,l,eH⟩
 ·subst ey eH
  obtain⟨z,hd,vs,rel,dd⟩:=B5 I.hok e
  have hz:vs.length<=MS:=by rw [<- rel.length]; exact z
  have hl:(putK kvs k v).length<=MS:=by have:=hU kvs k v; omega
  refine wpAny_setItem_pairs (hsz:=hz) (zD ry) dd fun h' dd' hs=>h _ ?_
  have he:∃ q,h'.get? a=some q:=let ⟨q,_,_,hq,_⟩:=dd'; ⟨q,hq⟩
  exact kE I (by rw [e]; exact True.intro) hs he (DL hl hd (rel.put k rv) dd')
 ·subst ey eH
  cases (show u=Value.ref b from ry)
  obtain⟨z,hd,xs,rel,dd⟩:=Cb I.hok e
  have hz:xs.length<=MS:=by rw [<- Paired.length rel]; exact z
  have hl:(putK kvs k v).length<=MS:=by have:=hU kvs k v; omega
  refine wpAny_setItem_heap (hsz:=hz) (NM hu) (o4 I.hok eb) dd fun h' dd' hs=>h _ ?_
  obtain⟨q,es,ep,hq,h2,h3,h4,_,h5⟩:=dd'
  refine kE I (by rw [e]; exact True.intro) hs ⟨q,hq⟩ ⟨hl,hd,_,(rel.put k eb rv).keeps fun c ys ec=>?_,q,es,ep,hq,h2,h3,h4,h5⟩
  rw [aF (zm ec e (fun z=>nomatch z))]
  exact ec
end



def Bt (i:M0):Prop:=∀ ov iv,subscripted i false ov iv=operate [ov,iv] (getItem ov iv)
theorem A6 {prog:MO} {w:MN} {A:MV} {E:MM->MX->Prop} {s:MX} {env:Env} {value slice:M0} {pos:Pos} {T id:String} {Q:MM->MX->Prop}
  (hl:typeLookup (.type T) "__getitem__"=pure (some (.builtin id))) (hs:Bt slice)
  (h:MZ (model prog w) A (eval value env) (fun o s₁=>MZ (model prog w) A (eval slice env) (fun i s₂=>s₂.TypeIs o T/\MZ (model prog w) A (getItem o i) Q E s₂) E s₁) E s) :
  MZ (model prog w) A (eval (.Subscript value slice pos) env) Q E s:=by
 refine Subscript_ (M3 h (fun o s₁ h₁=>M3 h₁ (fun i s₂ h₂=>?_) fun _ _ x=>x) fun _ _ x=>x)
 obtain⟨hT,h₂⟩:=h₂
 unfold subscriptTail
 refine M7 ?_
 rw [getitemInPython_of_ne hT.not_modules]
 refine M7 (wpAny_specialOf hT hl ?_)
 have fin:MZ (model prog w) A (subscripted slice false o i) (fun r s₃=>MZ (model prog w) A (letTemporaryGo value o r >>= fun _=>pure r) Q E s₃) E s₂:=by
  rw [hs o i]
  exact wpAny_operating (M3 h₂ (fun r s₃ h₃=>M7 (wpAny_letTemporaryGo (M6 h₃))) fun _ _ x=>x)
 first
  | exact M6 (M7 fin)
  | exact M7 (M6 (M7 fin))
  | exact M7 fin

theorem uj {X:Cx} {pins:List (MP×Obj)} {σ:St} {H:Hp} {s:MX} {a:MP} {y:V} {o:Option V} (I:Inv X pins σ H s) (g:DS H a y o):s.TypeIs (.ref a) "dict":=by
 rcases g with ⟨kvs,k,e,_,_⟩ | ⟨kvs,k,b,e,_,_,_⟩
 ·obtain⟨_,_,vs,_,dd⟩:=Ao I.hok e
  exact dd.typeIs
 ·obtain⟨_,_,xs,_,dd⟩:=xi I.hok e
  exact dd.typeIs
def E6 (td ty:TE):TE:=fun σ H Q=>td σ H fun x H1=>ty σ H1 fun y H2=>∃ a v,x=.ref a/\DS H2 a y (some v)/\Q v H2
section
variable {X:Cx} {o i e value:M0} {pos pos' tpos:Pos} {td ty tv:TE}
theorem BK (hu:X.A.units+1 < Np) (ho:PE X o td) (hi:PE X i ty) (hs:Bt i):PE X (.Subscript o i pos) (E6 td ty):=by
 intro pins s σ H Q I h
 refine A6 PySem.F.slot_dict_getitem.lookup hs (dH (ho pins s σ H _ I h) fun u s1 ⟨x,H1,I1,rx,q1⟩=>dH (hi pins s1 σ H1 _ I1 q1) fun iv s2 ⟨y,H2,I2,ry,a,v,ex,g,q2⟩=>?_)
 subst ex
 obtain rfl:u=Value.ref a:=rx
 exact⟨uj I2 g,yC hu I2 g ry fun w' s3 I3 rw'=>⟨v,H2,I3,rw',q2⟩⟩
end


theorem zT {P:MO} {w:MN} {H:Hp} (h:MR) (hb:sysModules < h.objs.size):cc P w H (h.push { cls:=.type "dict",data:=.dict #[] }) h.objs.size (.dT []) :=
 ⟨JG _,beq_eq_false_iff_ne.mpr (Ne.symm (Jm hb)),[],.nil,_,#[],0,Mr _ rfl,⟨rfl,rfl,rfl⟩,rfl,rfl,J3⟩
def CI:TE:=fun _ H Q=>∀ p,H p=none->Q (.ref p) (upd H p (.dT []))
section
variable {X:Cx} {pos:Pos}
theorem yZ:PE X (.Dict [] [] pos) CI:=fun pins s σ H Q I h =>
 wpAny_Dict_empty ⟨.ref s.heap.objs.size,_,I.laid (a:=s.heap.objs.size) (o:=.dT []) (t':=s.toks) (fun _ _ q=>Mq _ q) (Jw _) (zT s.heap I.big),rfl,h _ (I.hok.fresh (Jw _))⟩
end





end L2
namespace L2
open PySem PySem.Spec PyProof.Rows
end L2
namespace L2
open PySem PySem.Spec PyProof.Rows

def cK (cells:List (Str×MP)):List (Str×Nv)->List (Str×MP)->List (Str×MP)
 | [],acc=>acc
 | (n,k)::r,acc=>if k=.free then (match cells.lookup n with | some c=>cK cells r ((n,c)::acc) | none=>cK cells r acc) else cK cells r acc
theorem j3 {cells:List (Str×MP)}:∀ (names:List (Str×Nv)) (acc:List (Str×MP)),(∀ x c,acc.lookup x=some c->cells.lookup x=some c) ->
  ∀ x c,(cK cells names acc).lookup x=some c->cells.lookup x=some c
 | [],acc,h=>h
 | (n,k)::r,acc,h=>by
  unfold cK
  by_cases hk:k=.free
  ·rw [if_pos hk]
   cases e:cells.lookup n with
   | none=>exact j3 r acc h
   | some c0 =>
    refine j3 r _ fun x c q=>?_
    rw [J4] at q
    cases hx:x==n with
    | true =>
     rw [hx] at q
     have e1:x=n:=by simpa using hx
     cases q
     rw [e1]; exact e
    | false=>rw [hx] at q; exact h x c q
  ·rw [if_neg hk]; exact j3 r acc h
theorem jo {cells:List (Str×MP)}:∀ (names:List (Str×Nv)) (acc:List (Str×MP)) (x:Str),(acc.lookup x).isSome=true->((cK cells names acc).lookup x).isSome=true
 | [],acc,x,h=>h
 | (n,k)::r,acc,x,h=>by
  unfold cK
  by_cases hk:k=.free
  ·rw [if_pos hk]
   cases e:cells.lookup n with
   | none=>exact jo r acc x h
   | some c0 =>
    refine jo r _ x ?_
    rw [J4]
    cases hx:x==n with
    | true=>rfl
    | false=>exact h
  ·rw [if_neg hk]; exact jo r acc x h
theorem iu {cells:List (Str×MP)}:∀ (names:List (Str×Nv)) (acc:List (Str×MP)) (x:Str),(x,NameKind.free)∈names->(∃ c,cells.lookup x=some c)->((cK cells names acc).lookup x).isSome=true
 | [],acc,x,h,_=>absurd h (by simp)
 | (n,k)::r,acc,x,h,hc=>by
  unfold cK
  rcases List.mem_cons.mp h with e | h
  ·cases e
   rw [if_pos rfl]
   obtain⟨c,e⟩:=hc
   rw [e]
   refine jo r _ _ ?_
   rw [J4]
   simp
  ·by_cases hk:k=.free
   ·rw [if_pos hk]
    cases e:cells.lookup n with
    | none=>exact iu r acc x h hc
    | some c0=>exact iu r _ x h hc
   ·rw [if_neg hk]; exact iu r acc x h hc
theorem rV {scope:MY} {env:Env} (h:∀ p∈scope.names,p.2=.free->∃ c,env.cells.lookup p.1=some c):closureFor scope env=pure (cK env.cells scope.names []):=by
 have go:∀ (names:List (Str×Nv)) (acc:List (Str×MP)),(∀ p∈names,p.2=.free->∃ c,env.cells.lookup p.1=some c) ->
   (forIn names acc fun x cs=>(match x with | (name,kind)=>if (kind==NameKind.free)=true then do let a <- cellOf env name; pure (ForInStep.yield ((name,a)::cs)) else pure (ForInStep.yield cs):Sem (ForInStep (List (Str×MP)))))=pure (cK env.cells names acc):=by
  intro names
  induction names with
  | nil=>intro acc _; rfl
  | cons p r ih =>
   intro acc hp
   obtain⟨n,k⟩:=p
   rw [J5]
   by_cases hk:k=.free
   ·obtain⟨c,e⟩:=hp (n,k) Jq hk
    subst hk
    have e2:cellOf env n=pure c:=by unfold cellOf; rw [e]
    simp only [beq_self_eq_true,if_true,e2,pure_bind]
    rw [ih _ fun q hq=>hp q (Jr _ hq)]
    conv=>rhs; rw [cK]
    simp [e]
   ·have hb:(k==NameKind.free)=false:=by simpa using hk
    simp only [hb,J6,if_false,pure_bind]
    rw [ih _ fun q hq=>hp q (Jr _ hq)]
    conv=>rhs; rw [cK,if_neg hk]
 have:=go scope.names [] h
 unfold closureFor
 simp only []
 rw [this]
 rfl

def cj (X:Cx) (scope:MY) (N:List Str) (cl:List (Str×MP)) (C:MP) (fp:List MP) (s:MX) (H:Hp) (E:MM->MX->Prop):Cx where
 prog:=X.prog
 w:=X.w
 K:=X.K
 mg:=X.mg
 base:=X.base
 A:=X.A
 N:=N
 s₀:=s
 H₀:=H
 env:=compEnvC scope cl C X.env
 outer:=X.stack
 stack:=X.stack
 ex:=fp
 fn:=fun _=>false
 calm:=X.calm
 pn:=[]
 xe:=E

def sX (XN N:List Str) (names:List (Str×Nv)) (ix:List (Option Nat)):Bool :=
 decide (ix.length=N.length) && (N.zip ix).all fun p=>match p.2 with
  | some i=>decide (XN[i]?=some p.1) && decide (names.lookup p.1=some .free)
  | none=>true
def inBlock (ix:List (Option Nat)) (σ:St):St:=ix.map fun o=>match o with
 | some i=>(σ[i]?).getD none
 | none=>none
theorem sX.len {XN N:List Str} {names:List (Str×Nv)} {ix:List (Option Nat)} (h:sX XN N names ix=true):ix.length=N.length:=by
 unfold sX at h
 rw [JU] at h
 exact of_decide_eq_true h.1
theorem sX.at_ {XN N:List Str} {names:List (Str×Nv)} {ix:List (Option Nat)} (h:sX XN N names ix=true) {j i:Nat} {x:Str} (h1:N[j]?=some x) (h2:ix[j]?=some (some i)):XN[i]?=some x/\names.lookup x=some .free:=by
 unfold sX at h
 rw [JU] at h
 have hm:(x,some i)∈N.zip ix:=by
  have e:(N.zip ix)[j]?=some (x,some i):=by rw [List.getElem?_zip_eq_some]; exact⟨h1,h2⟩
  exact JQ e
 have q:=List.all_eq_true.mp h.2 _ hm
 simp only [JU] at q
 exact⟨of_decide_eq_true q.1,of_decide_eq_true q.2⟩

theorem jR {env:Env}:∀ {names:List (Str×Nv)} {x:Str} {k:Nv},
  (names.map fun (n,k)=>if (k==NameKind.free && env.scope.kind==.function && env.kindOf n==some .cell) then (n,NameKind.cell) else (n,k)).lookup x=some k ->
  names.lookup x=some k\/(names.lookup x=some .free/\k=.cell)
 | [],_,_,h=>by simp at h
 | (n,k0)::r,x,k,h=>by
  have ih:=@jR env r x k
  replace h:List.lookup x ((if (k0==NameKind.free && env.scope.kind==.function && env.kindOf n==some .cell)=true then (n,NameKind.cell) else (n,k0))::(r.map fun (n,k)=>if (k==NameKind.free && env.scope.kind==.function && env.kindOf n==some .cell) then (n,NameKind.cell) else (n,k)))=some k:=h
  by_cases hc:(k0==NameKind.free && env.scope.kind==.function && env.kindOf n==some .cell)=true
  ·rw [if_pos hc] at h
   have hk0:k0=.free:=by
    simp only [JU] at hc
    simpa using hc.1.1
   cases hx:x==n with
   | true =>
    simp only [J4,hx] at h
    simp only [J4,hx]
    cases h
    exact .inr ⟨by rw [hk0],rfl⟩
   | false =>
    simp only [J4,hx] at h ⊢
    exact ih h
  ·rw [if_neg hc] at h
   cases hx:x==n with
   | true =>
    simp only [J4,hx] at h ⊢
    exact .inl h
   | false =>
    simp only [J4,hx] at h ⊢
    exact ih h
def D6 (X:Cx) (ifs:List M0) (t:TT):Prop :=
 ∀ (pins:List (MP×Obj)) (s:MX) (σ:St) (H:Hp) (Q:Bool->Hp->Prop),Inv X pins σ H s->t σ H Q ->
  MZ (model X.prog X.w) X.A (forIn ifs true fun c r=>if r=true then do let ok <- isTrue c X.env (eval c X.env); pure (ForInStep.yield ok) else pure (ForInStep.yield r)) (TP X pins σ Q) X.xe s
def EI:TT:=fun _ H Q=>Q true H
theorem Be {X:Cx}:D6 X [] EI:=fun _ _ _ H _ I h=>wpAny_tests_nil ⟨H,I,h⟩
theorem AI {X:Cx} {c:M0} {t:TT} (h:PT X c t):D6 X [c] t:=fun pins s σ H Q I q=>wpAny_tests_one (h pins s σ H Q I q)

theorem jz {prog:MO} {w:MN} {A:MV} {R:Result->MX->Prop} {s:MX} {elt target iter:M0} {ifs:List M0} {scope:MY} {pos:Pos} {it acc:MM} {env:Env} (I:Nat->MX->Prop)
  (turn:∀ n s,I n s->MZ (model prog w) A (pyNext it) (fun r s₁=>match r with
   | none=>R (.ok .next) s₁
   | some v=>MZ (model prog w) A (letOwnedTupleGo target it v) (fun _ s₁'=>MZ (model prog w) A (assign target env v) (fun _ s₂ =>
     MZ (model prog w) A (forIn ifs true fun c r=>if r=true then do let ok <- isTrue c env (eval c env); pure (ForInStep.yield ok) else pure (ForInStep.yield r)) (fun ok s₃ =>
      if ok=true then MZ (model prog w) A (eval elt env) (fun x s₄ =>
       MZ (model prog w) A (call (.builtin "list.append") [acc,x]) (fun _ s₅=>∃ m,m < n/\I m s₅) (notedBy (model prog w) A env fun e s'=>R (.error e) s') s₄) (notedBy (model prog w) A env fun e s'=>R (.error e) s') s₃
      else ∃ m,m < n/\I m s₃) (notedBy (model prog w) A env fun e s'=>R (.error e) s') s₂) (notedBy (model prog w) A env fun e s'=>R (.error e) s') s₁') (notedBy (model prog w) A env fun e s'=>R (.error e) s') s₁) (notedBy (model prog w) A env fun e s'=>R (.error e) s') s)
  (n:Nat) (h:I n s) :
  Nj (model prog w) A (.compLoop (.ListComp elt [⟨target,iter,ifs,0⟩] scope pos) 0 it acc env) R s:=by
 refine codeAny_loop rfl I (fun n s hI=>?_) n h
 show MZ _ A ((compTurn (.ListComp elt [⟨target,iter,ifs,0⟩] scope pos) 0 it acc env).onRaise (fun x=>do noteFrame x env; theTreesLotGoes x)) _ _ s
 refine wpAny_noted ?_
 rw [compTurn_list]
 refine M7 (wpAny_standAt (M7 (M3 (turn n s hI) (fun r s₁ h₁=>?_) fun _ _ h'=>h')))
 cases r with
 | none=>exact M6 h₁
 | some v =>
  refine M7 (M3 h₁ (fun _ s₁' h₁'=>?_) fun _ _ h'=>h')
  refine M7 (M3 h₁' (fun _ s₂ h₂=>M7 (M3 h₂ (fun ok s₃ h₃=>?_) fun _ _ h'=>h')) fun _ _ h'=>h')
  cases ok with
  | false=>exact M6 ⟨rfl,h₃⟩
  | true =>
   exact M7 (M7 (M3 h₃ (fun x s₄ h₄=>M7 (M3 h₄ (fun _ s₅ h₅=>M6 (M6 ⟨rfl,h₅⟩)) fun _ _ h'=>h')) fun _ _ h'=>h'))

def HE (wi:TI) (g:TG) (tc:TT) (te:TE) (ix:List (Option Nat)):TE:=fun σ H Q =>
 wi σ H fun J H1=>∀ D,H1 D=none->∃ W:Nat->Nat->St->Hp->Prop,(∃ m,W 0 m (inBlock ix σ) (upd H1 D (.lst []))) /\
  ∀ i m σ' H',W i m σ' H'->(J.stop i H'/\Q (.ref D) H') \/
   (J.go i H'/\∀ x H2,J.yld i H' x H2->g x σ' H2 fun σ3 H3=>tc σ3 H3 fun b H4 =>
    if b=true then te σ3 H4 fun v H5=>∃ acc,H5 D=some (.lst acc)/\acc.length < MS/\∃ m',m' < m/\W (i+1) m' σ3 (upd H5 D (.lst (acc++[v])))
    else ∃ m',m' < m/\W (i+1) m' σ3 H4)

section
variable {X:Cx} {elt tg iter:M0} {ifs:List M0} {scope:MY} {pos:Pos} {N:List Str} {ix:List (Option Nat)} {wi:TI} {g:TG} {tc:TT} {te:TE}

theorem wa {pins:List (MP×Obj)} {σ:St} {s2:MX} {H2:Hp} {it:MP} {fp:List MP} {tn:Nat->MR->Prop} {J:It} {Q:V->Hp->Prop} {E:MM->MX->Prop} {RR:MM->MP->Result->MX->Prop}
    (hc:X.calm=true) (hcell:∀ y∈scope.names,y.2≠.cell) (hkind:scope.kind=.function)
    (hfr:∀ y∈scope.names,y.2=.free->X.env.scope.names.lookup y.1=some .cell\/X.env.scope.names.lookup y.1=some .free)
    (hix:sX X.N N scope.names ix=true)
    (hb:∀ cl C fp s H E,PG (cj X scope N cl C fp s H E) tg g/\D6 (cj X scope N cl C fp s H E) ifs tc/\PE (cj X scope N cl C fp s H E) elt te)
    (I2:Inv X pins σ H2 s2) (T:Turn X.prog X.w X.K tg J fp it tn) (st2:tn 0 s2.heap) (f2:∀ b∈fp,p4 X pins H2 b)
    (q:∀ D,H2 D=none->∃ W:Nat->Nat->St->Hp->Prop,(∃ m,W 0 m (inBlock ix σ) (upd H2 D (.lst []))) /\
      ∀ i m σ' H',W i m σ' H'->(J.stop i H'/\Q (.ref D) H') \/
        (J.go i H'/\∀ x H3,J.yld i H' x H3->g x σ' H3 fun σ3 H3=>tc σ3 H3 fun b H4 =>
          if b=true then te σ3 H4 fun v H5=>∃ acc,H5 D=some (.lst acc)/\acc.length < MS/\∃ m',m' < m/\W (i+1) m' σ3 (upd H5 D (.lst (acc++[v])))
          else ∃ m',m' < m/\W (i+1) m' σ3 H4))
    (hRR:∀ D C H' s' m,H2 D=none->s2.heap.objs.size<=C->H' C=none->s'.heap.Ns C m->(∀ h',Mp C s'.heap h'->Inv X pins σ H' { s' with heap:=h' })->Q (.ref D) H'->RR (.ref D) C (.ok .next) s') :
    MZ (model X.prog X.w) X.A (newList []) (fun acc s₃=>MZ (model X.prog X.w) X.A (newFunctionEnv scope X.env.globals (cK X.env.cells scope.names []) [] X.env.qual none .none (some X.env)) (fun cenv s₄ =>
      Nj (model X.prog X.w) X.A (.compStart (.ListComp elt [⟨tg,iter,ifs,0⟩] scope pos) 0 (.ref it) acc { cenv with scope:=relabel scope X.env }) (RR acc cenv.locals) s₄) E s₃) E s2:=by
  refine NF (wpAny_newFunctionEnv hcell (by intro y hy; simp at hy) (fun h₁ hns₁ hsb₁=>?_) hkind)
  dsimp only at hns₁ hsb₁ ⊢
  have I3:Inv X pins σ (upd H2 s2.heap.objs.size (.lst [])) { s2 with heap:=s2.heap.push { cls:=.type "list",dict:=none,data:=.seq ([]:List MM).toArray },toks:=s2.toks }:=I2.lnew (its:=[]) (t':=s2.toks) .nil (JG _)
  generalize hs3:({ s2 with heap:=s2.heap.push { cls:=.type "list",dict:=none,data:=.seq ([]:List MM).toArray },toks:=s2.toks }:MX)=s3 at I3
  have eh3:s2.heap.push { cls:=.type "list",dict:=none,data:=.seq ([]:List MM).toArray }=s3.heap:=by rw [<- hs3]
  rw [eh3] at hns₁ hsb₁ ⊢
  have hC3:s3.heap.objs.size=s2.heap.objs.size+1:=by rw [<- eh3,Ms]
  have hD:H2 s2.heap.objs.size=none:=I2.fresh
  obtain⟨W,⟨m0,w0⟩,turn⟩:=q s2.heap.objs.size hD
  generalize hH3:upd H2 s2.heap.objs.size (.lst [])=H3 at I3 w0
  have old:∀ b o,s3.heap.get? b=some o->h₁.get? b=some o:=fun b o e=>hsb₁.extBut b o (Jm (Mm e)) (Mq _ e)
  have fpH3:∀ b∈fp,H3 b=none:=fun b hb'=>by
    rw [<- hH3,aF]
    · exact(f2 b hb').1
    · obtain⟨o,e,_⟩:=T.obj _ _ st2 b hb'
      exact Jm (Mm e)
  have fpLt:∀ b∈fp,b < s3.heap.objs.size:=fun b hb'=>by
    obtain⟨o,e,_⟩:=T.obj _ _ st2 b hb'
    rw [hC3]; exact J7 (Mm e)
  have hfree:∀ p∈scope.names,p.2=.free->∃ c,X.env.cells.lookup p.1=some c:=fun p hp hk=>I2.ok.has p.1 (hfr p hp hk)
  have csub:∀ x c,(cK X.env.cells scope.names []).lookup x=some c->X.env.cells.lookup x=some c:=j3 scope.names [] (fun x c e=>by simp at e)
  have names':∀ x k,(relabel scope X.env).names.lookup x=some k->scope.names.lookup x=some k\/(scope.names.lookup x=some .free/\k=.cell):=fun x k h=>jR h
  have ok:(cj X scope N (cK X.env.cells scope.names []) s3.heap.objs.size fp s3 H3 (notedBy (model X.prog X.w) X.A (compEnvC scope (cK X.env.cells scope.names []) s3.heap.objs.size X.env) fun e s'=>RR (.ref s2.heap.objs.size) s3.heap.objs.size (.error e) s')).Ok :=
    { mod:=I3.ok.mod
      kind:=hkind
      glob:=I3.ok.glob
      blt:=I3.ok.blt
      above:=Jw _
      inj:=fun x y c h1 h2=>I3.ok.inj x y c (csub x c h1) (csub y c h2)
      has:=fun x hx=>by
        have fr:scope.names.lookup x=some .free:=by
          rcases hx with hx | hx
          · rcases names' x .cell hx with h | ⟨h,_⟩
            · exact absurd rfl (hcell _ (PySem.mem_of_lookup h))
            · exact h
          · rcases names' x .free hx with h | ⟨_,h⟩
            · exact h
            · cases h
        have hm:=PySem.mem_of_lookup fr
        exact Option.isSome_iff_exists.mp (iu scope.names [] x hm (hfree _ hm rfl))
      cab:=fun x c h _=>by cases h
      hd:=I3.ok.hd
      frames:=I3.ok.frames
      stk:=.inl rfl
      exf:=fun b hb'=>⟨Jm (fpLt b hb'),fun x c e=>(f2 b hb').2.2.2.2.1 x c (csub x c e)⟩
      bs:=fun b o e=>I3.bs b o e
      bsz:=Jn I3.ok.bsz I3.sz
      noex:=fun b o e hb'=>by
        obtain⟨_,_,_,h4,_⟩:=f2 b hb'
        rcases h4 with h4 | h4
        · exact I3.ok.noex b o e h4
        · exact absurd (Jk (Mm (I3.ok.bs b o e).1) h4) (Jl _)
      exfs:=fun b hb' hs=>by
        obtain⟨_,h2,h3,_⟩:=f2 b hb'
        rcases List.mem_cons.mp (I3.stkSub b hs) with e | e
        · exact h2 e
        · exact h3 e
      funs:=I3.stack
      frf:=fun b hb'=>I3.stkFree b hb' }
  generalize hE:(notedBy (model X.prog X.w) X.A (compEnvC scope (cK X.env.cells scope.names []) s3.heap.objs.size X.env) fun e s'=>RR (.ref s2.heap.objs.size) s3.heap.objs.size (.error e) s')=E' at ok
  obtain⟨hg,htc,hel⟩:=hb (cK X.env.cells scope.names []) s3.heap.objs.size fp s3 H3 E'
  have Istart:∀ tk,Inv (cj X scope N (cK X.env.cells scope.names []) s3.heap.objs.size fp s3 H3 E') [] (inBlock ix σ) H3 { s3 with heap:=h₁,toks:=tk }:=fun tk=>by
    refine⟨ok,rfl,I3.bare,Un.kept old,⟨_,hns₁,fun j x v e1 e2 _=>?_⟩,fun x c e=>?_,I3.fresh,fun x c e=>I3.freeC x c (csub x c e),fun p hp=>absurd (show p∈([]:List (MP×Obj)) from hp) (by simp),I3.hok.kept old,?_⟩
    · -- a captured name
      unfold inBlock at e2
      rw [JP] at e2
      cases q1:ix[j]? with
      | none=>rw [q1] at e2; simp at e2
      | some o =>
        rw [q1] at e2
        cases o with
        | none=>simp at e2
        | some i =>
          obtain⟨n1,n2⟩:=sX.at_ hix e1 q1
          have e2':(σ[i]?).getD none=some v:=Option.some.inj e2
          have e3:σ[i]?=some (some v):=by
            cases q2:σ[i]? with
            | none=>rw [q2] at e2'; simp at e2'
            | some o2=>rw [q2] at e2'; simpa using e2'
          obtain⟨m,hn,hl⟩:=I3.loc
          have hm:=PySem.mem_of_lookup n2
          have hk:=hfr _ hm rfl
          have hv:Em X.env.scope x:=by
            rcases hk with hk | hk
            · exact .inr (.inl hk)
            · exact .inr (.inr hk)
          obtain⟨u,r,l⟩:=hl i x v n1 e3 hv
          refine⟨u,r,.inr ?_⟩
          rcases l with ⟨kl,_⟩ | ⟨_,c,hcx,hcell'⟩
          · have kl':X.env.scope.names.lookup x=some .local:=kl
            rcases hk with hk | hk
            · rw [kl'] at hk; cases hk
            · rw [kl'] at hk; cases hk
          · obtain⟨c',hc'⟩:=Option.isSome_iff_exists.mp (iu (cells:=X.env.cells) scope.names [] x hm ⟨c,hcx⟩)
            have ec:c'=c:=Option.some.inj ((csub x c' hc').symm.trans hcx)
            subst ec
            refine⟨?_,c',hc',?_⟩
            · -- its kind in the block: cell or free
              show (relabel scope X.env).names.lookup x=some .cell\/(relabel scope X.env).names.lookup x=some .free
              have gen:∀ names:List (Str×Nv),names.lookup x=some .free->((names.map fun (n,k)=>if (k==NameKind.free && X.env.scope.kind==.function && X.env.kindOf n==some .cell) then (n,NameKind.cell) else (n,k)).lookup x=some .cell\/(names.map fun (n,k)=>if (k==NameKind.free && X.env.scope.kind==.function && X.env.kindOf n==some .cell) then (n,NameKind.cell) else (n,k)).lookup x=some .free):=by
                intro names
                induction names with
                | nil=>intro h; simp at h
                | cons p r ih =>
                  obtain⟨n,k⟩:=p
                  intro h
                  show List.lookup x ((if (k==NameKind.free && X.env.scope.kind==.function && X.env.kindOf n==some .cell)=true then (n,NameKind.cell) else (n,k))::_)=_\/List.lookup x ((if (k==NameKind.free && X.env.scope.kind==.function && X.env.kindOf n==some .cell)=true then (n,NameKind.cell) else (n,k))::_)=_
                  cases hx:x==n with
                  | true =>
                    simp only [J4,hx] at h
                    by_cases hcc:(k==NameKind.free && X.env.scope.kind==.function && X.env.kindOf n==some .cell)=true
                    · rw [if_pos hcc]; left; simp only [J4,hx]
                    · rw [if_neg hcc]; right; simp only [J4,hx]; exact h
                  | false =>
                    simp only [J4,hx] at h
                    by_cases hcc:(k==NameKind.free && X.env.scope.kind==.function && X.env.kindOf n==some .cell)=true
                    · rw [if_pos hcc]; simp only [J4,hx]; exact ih h
                    · rw [if_neg hcc]; simp only [J4,hx]; exact ih h
              exact gen scope.names n2
            · exact hcell'.keeps old
    · obtain⟨v,z⟩:=I3.cell x c (csub x c e)
      exact⟨v,z.keeps old⟩
    · show (inBlock ix σ).length=N.length
      unfold inBlock
      rw [JE]
      exact sX.len hix
  have stat:∀ {H':Hp},(∀ b∈fp,H' b=none)->∀ b∈fp,p4 (cj X scope N (cK X.env.cells scope.names []) s3.heap.objs.size fp s3 H3 E') [] H' b:=fun hn b hb' =>
    ⟨hn b hb',(ok.exf b hb').1,ok.exfs b hb',.inl hb',(ok.exf b hb').2,fun p hp=>absurd (show p∈([]:List (MP×Obj)) from hp) (by simp)⟩
  have tn1:tn 0 h₁:=T.keep _ _ _ st2 fun b hb' o e=>old b o (by rw [<- eh3]; exact Mq _ e)
  have loop:∀ tk,Nj (model X.prog X.w) X.A (.compLoop (.ListComp elt [⟨tg,iter,ifs,0⟩] scope pos) 0 (.ref it) (.ref s2.heap.objs.size) (compEnvC scope (cK X.env.cells scope.names []) s3.heap.objs.size X.env))
      (RR (.ref s2.heap.objs.size) s3.heap.objs.size) { s3 with heap:=h₁,toks:=tk }:=by
    intro tk
    refine jz (fun n s'=>∃ i σ' H',Inv (cj X scope N (cK X.env.cells scope.names []) s3.heap.objs.size fp s3 H3 E') [] σ' H' s'/\tn i s'.heap/\(∀ b∈fp,H' b=none)/\W i n σ' H') ?_ m0 ⟨0,_,_,Istart tk,tn1,fpH3,w0⟩
    rintro n s5 ⟨i,σ5,H5,I5,st5,fr5,w5⟩
    rw [hE]
    rcases turn i n σ5 H5 w5 with ⟨stop,qn⟩ | ⟨go,step⟩
    · refine dH (T.done (cj X scope N (cK X.env.cells scope.names []) s3.heap.objs.size fp s3 H3 E') rfl rfl rfl hc i [] s5 σ5 H5 _ I5 (stat fr5) st5 stop) fun r s6 ⟨hr,I6⟩=>?_
      subst hr
      obtain⟨m6,hn6,_⟩:=I6.loc
      refine hRR s2.heap.objs.size s3.heap.objs.size H5 s6 m6 hD (by rw [hC3]; exact JI _) I6.free hn6 (fun h' sb=>?_) qn
      have ne:∀ b o,s3.heap.get? b=some o->b≠s3.heap.objs.size:=fun b o e=>Jm (Mm e)
      refine I3.call' (s':={ s6 with heap:=h' }) (H':=H5) (ch:=fp) I6.os ⟨fun b o e n hb' hx=>?_,fun b o e n hb' hx=>?_,fun b o e n hx=>?_,fun b o e hx=>?_,I6.base.tups,I6.base.frzs,I6.base.tbls⟩ ?_ I6.bare fun b hb'=>?_
      · exact(sb.2 b (ne b o e)).trans (I6.base.keep b o e n hb' hx)
      · obtain⟨sl,e1⟩:=I6.base.slot b o e n hb' hx
        exact⟨sl,(sb.2 b (ne b o e)).trans e1⟩
      · exact I6.base.free b o e n hx
      · obtain⟨o',e1⟩:=I6.base.there b o e hx
        exact⟨o',(sb.2 b (ne b o e)).trans e1⟩
      · intro b ob e
        have hfreeC:H5 s3.heap.objs.size=none:=I6.free
        refine(I6.hok b ob e).stay (fun c v hcc q=>(sb.2 c ?_).trans q) (fun _ q=>q) fun _ _ q=>q
        rintro rfl
        rcases hcc with rfl | hcc
        · rw [hfreeC] at e; cases e
        · rw [hfreeC] at hcc; cases hcc
      · obtain⟨_,h2',_,h4',h5',h6'⟩:=f2 b hb'
        exact⟨h4',h2',h5',h6'⟩
    · refine dH (T.item (cj X scope N (cK X.env.cells scope.names []) s3.heap.objs.size fp s3 H3 E') rfl rfl rfl hc i [] s5 σ5 H5 _ I5 (stat fr5) st5 go) fun r s6 ⟨u,hr,h6⟩=>?_
      subst hr
      refine dH h6 fun _ s7 ⟨x,H7,I7,r7,y7,st7,fr7⟩=>?_
      have I7':=I7.pinned (stat fr7) (T.obj _ _ st7)
      refine dH (hg _ s7 σ5 H7 x u _ I7' r7 (step x H7 y7)) fun _ s8 ⟨σ8,H8,I8,q8⟩=>?_
      refine dH (htc _ s8 σ8 H8 _ I8 q8) fun b s9 ⟨H9,I9,q9⟩=>?_
      have again:∀ {σ':St} {H':Hp} {s':MX} {m':Nat},Inv (cj X scope N (cK X.env.cells scope.names []) s3.heap.objs.size fp s3 H3 E') ([]++pC fp s7.heap) σ' H' s'->m' < n->W (i+1) m' σ' H' ->
          ∃ m,m < n/\∃ i σ' H',Inv (cj X scope N (cK X.env.cells scope.names []) s3.heap.objs.size fp s3 H3 E') [] σ' H' s'/\tn i s'.heap/\(∀ b∈fp,H' b=none)/\W i m σ' H':=fun {σ' H' s' m'} I' hm w'=>by
        refine⟨m',hm,i+1,σ',H',I'.unpinned,T.keep _ _ _ st7 fun b hb' o e=>(I'.pin (b,o) (Jx _ (Jx _ (iT hb' e)))).1,fun b hb'=>?_,w'⟩
        obtain⟨o,e,d⟩:=T.obj _ _ st7 b hb'
        exact(I'.pin (b,o) (Jx _ (Jx _ (iT hb' e)))).2.1
      cases b with
      | false =>
        rw [if_neg JB] at q9 ⊢
        obtain⟨m',hm,w9⟩:=q9
        exact again I9 hm w9
      | true =>
        rw [if_pos rfl] at q9 ⊢
        refine dH (hel _ s9 σ8 H9 _ I9 q9) fun y s10 ⟨v,H10,I10,r10,q10⟩=>?_
        obtain⟨acc,ha,hz,m',hm,w10⟩:=q10
        refine dH (dE _ s10 σ8 H10 (.ref s2.heap.objs.size) [v] (.ref s2.heap.objs.size) [y] (fun _ H'=>H'=upd H10 s2.heap.objs.size (.lst (acc++[v]))) I10 rfl (.cons r10 .nil) ⟨_,acc,v,rfl,rfl,ha,hz,rfl⟩) fun _ s11 ⟨_,H11,I11,_,e11⟩=>?_
        subst e11
        exact again I11 hm w10
  subst hs3
  exact codeAny_compStart_list (loop _) (T.self _ 0 _ _ _ tn1 (loop _))

theorem B4 (hc:X.calm=true) (hcell:∀ y∈scope.names,y.2≠.cell) (hkind:scope.kind=.function) (hnames:∀ y∈scope.names,y.2=.local->scope.names.lookup y.1=some .local)
  (hfr:∀ y∈scope.names,y.2=.free->X.env.scope.names.lookup y.1=some .cell\/X.env.scope.names.lookup y.1=some .free)
  (hix:sX X.N N scope.names ix=true) (hi:PI X tg iter wi)
  (hb:∀ cl C fp s H E,PG (cj X scope N cl C fp s H E) tg g/\D6 (cj X scope N cl C fp s H E) ifs tc/\PE (cj X scope N cl C fp s H E) elt te)
  (hs:∀ x,Nb iter X.env x=pure x:=by intro _; rfl):PE X (.ListComp elt [⟨tg,iter,ifs,0⟩] scope pos) (HE wi g tc te ix):=by
 intro pins s σ H Q I h
 rw [eval_ListComp]
 refine wpAny_comprehension_free (use:=none) rfl hs (rV fun p hp hk=>I.ok.has p.1 (hfr p hp hk)) hkind hnames (dH (hi pins s σ H _ I h) fun v s1 h1=>dH h1 fun itv s2 h2=>?_)
 obtain⟨it,fp,tn,J,H2,e,I2,T,st2,f2,q⟩:=h2
 subst e
 refine wa (Q:=Q) (RR:=fun acc C=>compPost (model X.prog X.w) X.A X.xe none (EP X pins σ Q) acc C) hc hcell hkind hfr hix hb I2 T st2 f2 q ?_
 intro D C H' s' m _ _ _ hn hI hq
 exact⟨m,hn,fun h' sb=>⟨.ref D,H',hI h' sb,rfl,hq⟩⟩

end
end L2
namespace TG
open PySem PySem.Spec L2

inductive D where
 | non | bl (b:Bool) | int (i:Int) | str (x:Str) | tup (xs:List D) | lst (xs:List D)
 | dct (ks vs:List D) | obj (c:Str) (fs:List Str) (vs:List D) | exc (c:Str) (fs:List Str) (vs:List D)

def aY:Key->D
 | .inl i=>.int i
 | .inr x=>.str x
def clsAt (K:LQ) (c:Str) (C:MP):Prop:=Md K MT c=some (some (.ref C))
def G9 (C a:MP) (dx:Option MP):(MP->Prop)->MR->Prop:=fun _ h=>∃ o,h.get? a=some o/\o.cls=.ref C/\o.dict=dx
mutual
def cm (K:LQ) (H:Hp):D->V->Prop
 | .non,v=>v=.non
 | .bl b,v=>v=.bl b
 | .int i,v=>v=.int i
 | .str x,v=>v=.str x
 | .tup xs,v=>∃ a vs,v=.ref a/\H a=some (.tup vs)/\aL K H xs vs
 | .lst xs,v=>∃ a vs,v=.ref a/\lU K H a vs/\aL K H xs vs
 | .dct ks ds,v=>∃ a vs,v=.ref a/\aL K H ds vs/\((∃ kvs:List (Key×V),H a=some (.dK kvs)/\ks=kvs.map (fun p=>aY p.1)/\vs=kvs.map (·.2)) \/
   (∃ kvs:List (List Key×V),H a=some (.dT kvs)/\ks=kvs.map (fun p=>.tup (p.1.map aY))/\vs=kvs.map (·.2)) \/
   ∃ (kvs:List (List Key×V)) (o:Obj),H a=some (.frz o (.dT kvs))/\ks=.non::kvs.map (fun p=>.tup (p.1.map aY))/\vs=kvs.map (·.2))
 | .obj c fs ds,v=>∃ a vs,v=.ref a/\aL K H ds vs/\fs.length=vs.length/\∃ C dx,clsAt K c C/\H a=some (.ins C dx (fs.zip vs))
 | .exc c fs ds,v=>∃ a vs,v=.ref a/\aL K H ds vs/\fs.length=vs.length/\∃ C dx,clsAt K c C/\H a=some (.ext (G9 C a dx))/\(fs=[]\/∃ d,dx=some d/\H d=some (.xd (fs.zip vs)))
def aL (K:LQ) (H:Hp):List D->List V->Prop
 | [],vs=>vs=[]
 | x::xs,vs=>∃ v r,vs=v::r/\cm K H x v/\aL K H xs r
end

theorem yo {K:LQ} {H H':Hp} {a:MP} {xs:List V} (e:aX H H') (h:nL K H a xs):nL K H' a xs:=by
 rcases h with (h | ⟨o,h⟩) | h
 ·exact .inl (.inl (e _ _ h))
 ·exact .inl (.inr ⟨o,e _ _ h⟩)
 ·exact .inr h
theorem bM {K:LQ} {H H':Hp} {a:MP} {xs:List V} (e:aX H H') (h:H a=some (.tup xs)):nL K H' a xs:=nL.of (e _ _ h)
mutual
theorem cm.mono {K:LQ} {H H':Hp} (e:aX H H'):∀ {d:D} {v:V},cm K H d v->cm K H' d v
 | .non,_,h=>by unfold cm at h ⊢; exact h
 | .bl _,_,h=>by unfold cm at h ⊢; exact h
 | .int _,_,h=>by unfold cm at h ⊢; exact h
 | .str _,_,h=>by unfold cm at h ⊢; exact h
 | .tup xs,_,h=>by
  unfold cm at h ⊢
  obtain⟨a,vs,e1,h1,h2⟩:=h
  exact⟨a,vs,e1,e _ _ h1,aL.mono e h2⟩
 | .lst xs,_,h=>by
  unfold cm at h ⊢
  obtain⟨a,vs,e1,h1,h2⟩:=h
  exact⟨a,vs,e1,e.seq h1,aL.mono e h2⟩
 | .dct _ ds,_,h=>by
  unfold cm at h ⊢
  obtain⟨a,vs,e1,h1,h2⟩:=h
  refine⟨a,vs,e1,aL.mono e h1,?_⟩
  rcases h2 with ⟨kvs,h2,h3⟩ | ⟨kvs,h2,h3⟩ | ⟨kvs,o,h2,h3⟩
  ·exact .inl ⟨kvs,e _ _ h2,h3⟩
  ·exact .inr (.inl ⟨kvs,e _ _ h2,h3⟩)
  ·exact .inr (.inr ⟨kvs,o,e _ _ h2,h3⟩)
 | .obj _ _ ds,_,h=>by
  unfold cm at h ⊢
  obtain⟨a,vs,e1,h1,h2,C,dx,h3,h4⟩:=h
  exact⟨a,vs,e1,aL.mono e h1,h2,C,dx,h3,e _ _ h4⟩
 | .exc _ _ ds,_,h=>by
  unfold cm at h ⊢
  obtain⟨a,vs,e1,h1,h2,C,dx,h3,h4,h5⟩:=h
  exact⟨a,vs,e1,aL.mono e h1,h2,C,dx,h3,e _ _ h4,h5.imp id fun ⟨d,q1,q2⟩=>⟨d,q1,e _ _ q2⟩⟩
theorem aL.mono {K:LQ} {H H':Hp} (e:aX H H'):∀ {ds:List D} {vs:List V},aL K H ds vs->aL K H' ds vs
 | [],_,h=>by unfold aL at h ⊢; exact h
 | x::xs,_,h=>by
  unfold aL at h ⊢
  obtain⟨v,r,e1,h1,h2⟩:=h
  exact⟨v,r,e1,cm.mono e h1,aL.mono e h2⟩
end
section
variable {K:LQ} {H:Hp}
theorem jd {v:V}:cm K H .non v↔v=.non:=by unfold cm; rfl
theorem jO {b:Bool} {v:V}:cm K H (.bl b) v↔v=.bl b:=by unfold cm; rfl
theorem eB {i:Int} {v:V}:cm K H (.int i) v↔v=.int i:=by unfold cm; rfl
theorem dJ {x:Str} {v:V}:cm K H (.str x) v↔v=.str x:=by unfold cm; rfl
theorem cq {xs:List D} {v:V}:cm K H (.tup xs) v↔∃ a vs,v=.ref a/\H a=some (.tup vs)/\aL K H xs vs:=by unfold cm; rfl
theorem cu {xs:List D} {v:V}:cm K H (.lst xs) v↔∃ a vs,v=.ref a/\lU K H a vs/\aL K H xs vs:=by unfold cm; rfl
theorem Gk {ks ds : List D} {v : V} : cm K H (.dct ks ds) v ↔ ∃ a vs, v = .ref a /\ aL K H ds vs /\ ((∃ kvs : List (Key × V), H a = some (.dK kvs) /\ ks = kvs.map (fun p => aY p.1) /\ vs = kvs.map (·.2)) \/
      (∃ kvs:List (List Key×V),H a=some (.dT kvs)/\ks=kvs.map (fun p=>.tup (p.1.map aY))/\vs=kvs.map (·.2)) \/
      ∃ (kvs:List (List Key×V)) (o:Obj),H a=some (.frz o (.dT kvs))/\ks=.non::kvs.map (fun p=>.tup (p.1.map aY))/\vs=kvs.map (·.2)):=by unfold cm; rfl
theorem Gs {c:Str} {fs:List Str} {ds:List D} {v:V}:cm K H (.obj c fs ds) v↔∃ a vs,v=.ref a/\aL K H ds vs/\fs.length=vs.length/\∃ C dx,clsAt K c C/\H a=some (.ins C dx (fs.zip vs)):=by unfold cm; rfl
theorem cF {vs:List V}:aL K H [] vs↔vs=[]:=by unfold aL; rfl
theorem bc {x:D} {xs:List D} {vs:List V}:aL K H (x::xs) vs↔∃ v r,vs=v::r/\cm K H x v/\aL K H xs r:=by conv=>lhs; unfold aL
theorem aL.length:∀ {ds:List D} {vs:List V},aL K H ds vs->ds.length=vs.length
 | [],_,h=>by rw [cF] at h; rw [h]; rfl
 | _::xs,_,h=>by
  rw [bc] at h
  obtain⟨v,r,e,_,h⟩:=h
  rw [e,JC,JC,aL.length h]
theorem aL.get:∀ {ds:List D} {vs:List V} {i:Nat} {d:D},aL K H ds vs->ds[i]?=some d->∃ v,vs[i]?=some v/\cm K H d v
 | [],_,_,_,_,e=>by simp at e
 | x::xs,_,0,d,h,e=>by
  rw [bc] at h
  obtain⟨v,r,rfl,h1,_⟩:=h
  simp at e
  subst e
  exact⟨v,rfl,h1⟩
 | x::xs,_,i+1,d,h,e=>by
  rw [bc] at h
  obtain⟨v,r,rfl,_,h2⟩:=h
  obtain⟨w,e1,e2⟩:=aL.get (i:=i) h2 (by simpa using e)
  exact⟨w,by simpa using e1,e2⟩
theorem aL.append:∀ {ds es:List D} {vs ws:List V},aL K H ds vs->aL K H es ws->aL K H (ds++es) (vs++ws)
 | [],_,_,_,h,h'=>by rw [cF] at h; subst h; exact h'
 | x::xs,_,_,_,h,h'=>by
  rw [bc] at h
  obtain⟨v,r,rfl,h1,h2⟩:=h
  rw [J8,bc]
  exact⟨v,_,rfl,h1,aL.append h2 h'⟩
theorem aL.take:∀ {ds:List D} {vs:List V} (n:Nat),aL K H ds vs->aL K H (ds.take n) (vs.take n)
 | _,_,0,_=>by rw [J9,J9,cF]
 | [],_,_+1,h=>by rw [cF] at h; subst h; rw [Ka,Ka,cF]
 | x::xs,_,n+1,h=>by
  rw [bc] at h
  obtain⟨v,r,rfl,h1,h2⟩:=h
  rw [Kb,Kb,bc]
  exact⟨v,_,rfl,h1,aL.take n h2⟩
theorem aL.drop:∀ {ds:List D} {vs:List V} (n:Nat),aL K H ds vs->aL K H (ds.drop n) (vs.drop n)
 | _,_,0,h=>by rw [Kc,Kc]; exact h
 | [],_,_+1,h=>by rw [cF] at h; subst h; rw [List.drop_nil,List.drop_nil,cF]
 | x::xs,_,n+1,h=>by
  rw [bc] at h
  obtain⟨v,r,rfl,h1,h2⟩:=h
  rw [Ke,Ke]
  exact aL.drop n h2
theorem aL.snoc {ds:List D} {vs:List V} {d:D} {v:V} (h:aL K H ds vs) (h':cm K H d v):aL K H (ds++[d]) (vs++[v]) :=
 h.append (bc.mpr ⟨v,[],rfl,h',cF.mpr rfl⟩)
theorem aL.one {d:D} {vs:List V} (h:aL K H [d] vs):∃ v,vs=[v]/\cm K H d v:=by
 rw [bc] at h
 obtain⟨v,r,rfl,h1,h2⟩:=h
 rw [cF] at h2
 subst h2
 exact⟨v,rfl,h1⟩
theorem aL.two {d e:D} {vs:List V} (h:aL K H [d,e] vs):∃ v w,vs=[v,w]/\cm K H d v/\cm K H e w:=by
 rw [bc] at h
 obtain⟨v,r,rfl,h1,h2⟩:=h
 obtain⟨w,rfl,h3⟩:=h2.one
 exact⟨v,w,rfl,h1,h3⟩
theorem qR:∀ ns:List Int,aL K H (ns.map D.int) (ns.map V.int)
 | []=>cF.mpr rfl
 | n::ns=>bc.mpr ⟨_,_,rfl,eB.mpr rfl,qR ns⟩
end

def hid (H:Hp) (O:List MP):Hp:=fun b=>if b∈O then none else H b
theorem aE (H:Hp) (O:List MP):aX (hid H O) H:=fun b o h=>by
 unfold hid at h
 split at h
 ·cases h
 ·exact h
theorem bx {H H':Hp} {O:List MP} (e:aX H H'):aX (hid H O) (hid H' O):=fun b o h=>by
 unfold hid at h ⊢
 by_cases hb:b∈O
 ·rw [if_pos hb] at h; cases h
 ·rw [if_neg hb] at h ⊢; exact e b o h
theorem gP {H:Hp} {O O':List MP} (s:∀ a∈O,a∈O'):aX (hid H O') (hid H O):=fun b o h=>by
 unfold hid at h ⊢
 by_cases hb:b∈O'
 ·rw [if_pos hb] at h; cases h
 ·rw [if_neg hb] at h
  rw [if_neg fun z=>hb (s b z)]; exact h
theorem Bh (H:Hp):hid H []=H:=by funext b; unfold hid; simp
theorem sM {H:Hp} {O:List MP} {p:MP} {o:HO} (h:H p=none):aX (hid H O) (hid (upd H p o) O):=fun b u q=>by
 unfold hid at q ⊢
 by_cases hb:b∈O
 ·rw [if_pos hb] at q; cases q
 ·rw [if_neg hb] at q ⊢
  rw [aF (aT q h)]; exact q
theorem bC {H:Hp} {p:MP} (h:H p=none) (o:HO):aX H (upd H p o):=fun b u q=>by rw [aF (aT q h)]; exact q
theorem iR {H:Hp} {O:List MP} {p:MP} (h:p∉O):hid H O p=H p:=by unfold hid; rw [if_neg h]
theorem fG {H:Hp} {O:List MP} {p:MP} {o:HO} (h:p∈O):aX (hid H O) (hid (upd H p o) O):=fun b u q=>by
 unfold hid at q ⊢
 by_cases hb:b∈O
 ·rw [if_pos hb] at q; cases q
 ·rw [if_neg hb] at q ⊢
  rw [aF (fun z=>hb (by rw [z]; exact h))]; exact q

inductive S where
 | val (d:D) | own (d:D) | nest (d:D)
abbrev aq:=List (Option S)
def oN:HO->Prop
 | .lst _=>True
 | .dK _=>True
 | .dT _=>True
 | _=>False
class aM where
 tab:Hp->Prop
 same:∀ {H H':Hp},tab H->aX H H'->tab H'
 own:∀ {H:Hp} {p:MP} {o o':HO},tab H->H p=some o->oN o->tab (upd H p o')
variable [aM]
def dg (H:Hp) (O:List MP):Prop:=aM.tab H/\∀ a∈O,∃ o,H a=some o/\oN o
theorem dg.not {H:Hp} {O:List MP} (h:dg H O) {p:MP} (n:H p=none):p∉O:=fun z=>by
 obtain⟨vs,e,_⟩:=h.2 p z
 rw [n] at e; cases e
theorem dg.same {H H':Hp} {O:List MP} (h:dg H O) (e:aX H H'):dg H' O:=⟨aM.same h.1 e,fun a ha=>let ⟨vs,q,m⟩:=h.2 a ha; ⟨vs,e _ _ q,m⟩⟩
theorem dg.upd {H:Hp} {O:List MP} {p:MP} {o:HO} (h:dg H O) (hp:p∈O) (m:oN o):dg (L2.upd H p o) O:=⟨let ⟨_,q,r⟩:=h.2 p hp; aM.own h.1 q r,fun a ha=>by
 by_cases z:a=p
 ·rw [z]; exact⟨o,aN,m⟩
 ·obtain⟨u,q,r⟩:=h.2 a ha
  exact⟨u,by rw [aF z]; exact q,r⟩⟩
theorem dg.cons {H:Hp} {O:List MP} {p:MP} {o:HO} (h:dg H O) (hp:H p=some o) (m:oN o):dg H (p::O):=⟨h.1,fun a ha=>by
 rcases List.mem_cons.mp ha with z | z
 ·rw [z]; exact⟨o,hp,m⟩
 ·exact h.2 a z⟩
def cC (K:LQ) (H:Hp) (O:List MP) (a:MP) (d:D):Prop:=∃ o vs,H a=some o/\match d with
 | .lst xs=>o=.lst vs/\aL K (hid H O) xs vs
 | .dct ks ds=>aL K (hid H O) ds vs/\((∃ kvs:List (Key×V),o=.dK kvs/\ks=kvs.map (fun p=>aY p.1)/\vs=kvs.map (·.2)) \/
   ∃ kvs:List (List Key×V),o=.dT kvs/\ks=kvs.map (fun p=>.tup (p.1.map aY))/\vs=kvs.map (·.2))
 | _=>False
theorem cC.mono {K:LQ} {H H':Hp} {O O':List MP} {a:MP} {d:D} (h:cC K H O a d) (e:H a=H' a) (s:aX (hid H O) (hid H' O')):cC K H' O' a d:=by
 obtain⟨o,vs,h1,h2⟩:=h
 refine⟨o,vs,by rw [<- e]; exact h1,?_⟩
 cases d with
 | lst xs=>exact⟨h2.1,h2.2.mono s⟩
 | dct ks ds=>exact⟨h2.1.mono s,h2.2⟩
 | _=>exact h2
theorem cC.some {K:LQ} {H:Hp} {O:List MP} {a:MP} {d:D} (h:cC K H O a d):∃ o,H a=some o:=let ⟨o,_,e,_⟩:=h; ⟨o,e⟩
theorem cC.den {K:LQ} {H:Hp} {O O':List MP} {a:MP} {d:D} (h:cC K H O a d) (s:aX (hid H O) (hid H O')) (ha:a∉O'):cm K (hid H O') d (.ref a):=by
 obtain⟨o,vs,h1,h2⟩:=h
 have h1':hid H O' a=Option.some o:=by rw [iR ha]; exact h1
 cases d with
 | lst xs =>
  obtain⟨e,g⟩:=h2
  subst e
  exact cu.mpr ⟨a,vs,rfl,lU.of h1',g.mono s⟩
 | dct ks ds =>
  obtain⟨g,q⟩:=h2
  refine Gk.mpr ⟨a,vs,rfl,g.mono s,?_⟩
  rcases q with ⟨kvs,e,q⟩ | ⟨kvs,e,q⟩
  ·subst e; exact .inl ⟨kvs,h1',q⟩
  ·subst e; exact .inr (.inl ⟨kvs,h1',q⟩)
 | _=>exact h2.elim
structure cQ (K:LQ) (O:List MP) (H:Hp) (ρ:aq) (σ:St):Prop where
 val:∀ (i:Nat) d,ρ[i]?=some (some (.val d))->∃ v,σ[i]?=some (some v)/\cm K (hid H O) d v
 own:∀ (i:Nat) d,ρ[i]?=some (some (.own d))->∃ a,σ[i]?=some (some (.ref a))/\a∈O/\cC K H O a d
 one:∀ (i j:Nat) xs ys a,ρ[i]?=some (some (.own xs))->ρ[j]?=some (some (.own ys))->σ[i]?=some (some (.ref a))->σ[j]?=some (some (.ref a))->i=j
 all:dg H O
theorem ot {H H':Hp} (e:aX H H') {a:MP} {o:HO} (h:H a=some o):H a=H' a:=by rw [h,e _ _ h]
theorem cQ.same {K:LQ} {O:List MP} {H H':Hp} {ρ:aq} {σ:St} (h:cQ K O H ρ σ) (e:aX H H'):cQ K O H' ρ σ :=
  ⟨fun i d q=>let ⟨v,a,b⟩:=h.val i d q; ⟨v,a,b.mono (bx e)⟩,
   fun i xs q=>let ⟨a,q1,q2,q3⟩:=h.own i xs q; ⟨a,q1,q2,q3.mono (let ⟨_,z⟩:=q3.some; ot e z) (bx e)⟩,h.one,h.all.same e⟩

structure Ex where
 c:Str
 fs:List Str
 vs:List D
abbrev R (α:Type):=Except (Option Ex) α
abbrev un {α:Type}:R α:=.error none
def rO {α:Type}:Option α->R α
 | some a=>.ok a
 | none=>.error none
def EK (K:LQ) (Hd:Hp) (x:Ex) (C:MP) (dx:Option MP):Prop:=clsAt K x.c C/\∃ ws,aL K Hd x.vs ws/\x.fs.length=ws.length/\(x.fs=[]\/∃ d,dx=some d/\Hd d=some (.xd (x.fs.zip ws)))
theorem EK.mono {K:LQ} {H H':Hp} {x:Ex} {C:MP} {dx:Option MP} (h:EK K H x C dx) (e:aX H H'):EK K H' x C dx:=by
 obtain⟨h1,ws,h2,h3,h4⟩:=h
 exact⟨h1,ws,h2.mono e,h3,h4.imp id fun ⟨d,q1,q2⟩=>⟨d,q1,e _ _ q2⟩⟩
end TG
namespace TG
open PySem PySem.Spec L2
variable [aM]
open PyProof.Rows (AllBare)
theorem DB {P:MO} {w:MN} {H:Hp} {h:MR} {a:MP} {o:HO} (x:cc P w H h a o):∃ u,h.get? a=some u:=by
 cases o with
 | lst xs=>obtain⟨_,_,_,_,e⟩:=x; exact⟨_,e⟩
 | tup xs=>obtain⟨_,_,_,o,e,_⟩:=x; exact⟨_,e⟩
 | dK kvs=>obtain⟨_,_,_,_,o,_,_,e,_⟩:=x; exact⟨_,e⟩
 | dT kvs=>obtain⟨_,_,_,_,o,_,_,e,_⟩:=x; exact⟨_,e⟩
 | set S n=>obtain⟨o,_,_,_,e,_⟩:=x; exact⟨_,e⟩
 | ins C dx fs=>obtain⟨_,_,_,e,_⟩:=x; exact⟨_,e⟩
 | own y=>exact x
 | xd fs=>obtain⟨_,⟨_,_,_,e,_⟩,_⟩:=x; exact⟨_,e⟩
 | rng lo hi=>obtain⟨_,_,_,e⟩:=x; exact⟨_,e⟩
 | frz ob u=>obtain⟨e,_⟩:=x; exact⟨_,e⟩
 | tbl ps=>exact⟨_,(show h.get? a=some _ from x)⟩
 | met f y=>exact⟨_,(show h.get? a=some _ from x)⟩
 | ext φ=>obtain⟨_,e,_⟩:=x; exact e
def pN (X:Cx) (H:Hp) (b:MP):Prop:=((∃ o,X.s₀.heap.get? b=some o)/\b∉X.ex)\/H b≠none\/(∃ o,(b,o)∈X.pn)\/∃ x,X.env.cells.lookup x=some b
def IY (B:MR) (e:MP) (cls a0:MM) (h:MR):Prop:=h.TracedW B e cls a0\/∃ oe vs,h.get? e=some oe/\oe.cls=cls/\oe.data=.fields vs/\vs[1]?=some .none/\vs[0]?=some a0
def EJ (X:Cx) (H:Hp) (s:MX) (e C:MP):Prop:=∃ B a0,B.StaysIn s.heap/\B.get? e=none/\s.heap.FunFrames B X.stack/\IY B e (.ref C) a0 s.heap/\∀ b o,s.heap.get? b=some o->pN X H b->b∉frs X.stack->B.get? b=some o
def IV (X:Cx) (H:Hp) (O:List MP) (s:MX) (u:MM) (x:Ex):Prop:=∃ e C dx,u=.ref e/\EK X.K (hid H O) x C dx/\EJ X H s e C
def mS (P:MO) (w:MN):wf:=fun outer H s E u s'=>∃ e C dx H' B a0,u=.ref e/\s'.os=s.os/\AllBare s'.gens/\Un (frs outer) [] H H' s.heap s'.heap/\mr P w H' s'.heap/\Heap.FlyingW B outer e (.ref C) a0 s'.heap /\
 (∀ b o,s'.heap.get? b=some o->((∃ o',s.heap.get? b=some o')\/H' b≠none)->b∉frs outer->B.get? b=some o)/\E (.ref C) dx H'
def Hu (K:LQ) (H:Hp) (O:List MP) (x:Ex) (E:XK):Prop:=∀ C dx H',aX H H'->EK K (hid H' O) x C dx->E (.ref C) dx H'
def D3 (X:Cx) (σ:St) (O:List MP) (H:Hp) (x:Ex):Prop:=∀ pins s u H',Inv X pins σ H' s->aX H H'->IV X H' O s u x->X.xe u s
theorem D3.mono {X:Cx} {σ:St} {O:List MP} {H H':Hp} {x:Ex} (h:D3 X σ O H x) (s:aX H H'):D3 X σ O H' x:=fun pins st u H2 I s2 f=>h pins st u H2 I (s.trans s2) f
def xr (X:Cx) (O:List MP) (H:Hp) (x:Ex):XK:=fun u dx H'=>∃ C,u=.ref C/\aX H H'/\EK X.K (hid H' O) x C dx
def jA (CX:wf) (X:Cx) (σ:St) (E:XK):Prop:=∀ (pins:List (MP×Obj)) (H:Hp) (s:MX) (e:MM) (s':MX),Inv X pins σ H s->CX X.stack H s E e s'->X.xe e s'
theorem xn {X:Cx} {σ:St} {O:List MP} {H:Hp} {x:Ex} (h:D3 X σ O H x):jA (mS X.prog X.w) X σ (xr X O H x):=by
 rintro pins H1 s u s' I ⟨e,C,dx,H',B,a0,rfl,os,bare,un,hok,⟨f1,f2,f3,f4⟩,kp,C',eC,sm,hd⟩
 cases eC
 have I':Inv X pins σ H' s':=I.call' os un hok bare (ch:=[]) fun b z=>absurd z (by simp)
 refine h pins s' _ H' I' sm ⟨e,C,dx,rfl,hd,B,a0,f1,f2,f3,.inl f4,fun b o eb hb nf=>kp b o eb ?_ nf⟩
 rcases hb with ⟨⟨o',hb⟩,nx⟩ | hb | ⟨o',hb⟩ | ⟨y,hb⟩
 ·exact .inl (I.base.there b o' hb nx)
 ·exact .inr hb
 ·exact .inl ⟨_,(I.pin _ (Js _ hb)).1⟩
 ·obtain⟨v,o,q,_⟩:=I.cell y b hb
  exact .inl ⟨o,q⟩
theorem wO {X:Cx} {σ:St}:jA (mS X.prog X.w) X σ E0:=fun _ _ _ _ _ _ ⟨_,_,_,_,_,_,_,_,_,_,_,_,_,z⟩=>z.elim
theorem sY {X:Cx} {O:List MP} {H:Hp} {x:Ex}:Hu X.K H O x (xr X O H x):=fun C dx H' s e=>⟨C,rfl,s,e⟩
section
variable {X:Cx} {pins:List (MP×Obj)} {σ:St} {H:Hp} {s:MX} {h':MR}
theorem BF (I:Inv X pins σ H s) (k:∀ b o,s.heap.get? b=some o->pN X H b->b∉frs X.stack->h'.get? b=some o):mr X.prog X.w H h':=fun a ob ea =>
 (I.hok a ob ea).stay (fun b u hb q=>by
  have hn:H b≠none:=by
   rcases hb with e | e
   ·rw [e,ea]; intro z; cases z
   ·rw [e]; intro z; cases z
  exact k b u q (.inr (.inl hn)) fun hf=>hn (I.stkFree b hf)) (fun _ q=>q) fun _ _ q=>q
theorem rh (I:Inv X pins σ H s) (us:s.heap.UpToSlots h') {b:MP} {o:Obj} (hb:b∈frs X.stack) (e:s.heap.get? b=some o):∃ sl,h'.get? b=some { o with slots:=sl }:=by
 obtain⟨_,o',e',nf⟩:=I.stack.mem hb
 rw [e] at e'; cases e'
 exact us b o e nf
theorem C5 (I:Inv X pins σ H s) (hx:X.ex=[]) (hst:X.stack=X.env::X.outer) (hf:X.env.frame=some X.env.locals) (us:s.heap.UpToSlots h') (k:∀ b o,s.heap.get? b=some o->pN X H b->b∉frs X.stack->h'.get? b=some o) :
  Un (frs X.outer) [] X.H₀ H X.s₀.heap h':=by
 have U:=I.base
 rw [hx] at U
 have fr:frs X.stack=X.env.locals::frs X.outer:=by rw [hst]; show List.filterMap _ (_::_)=_; rw [Jp,hf]; rfl
 have nl:∀ b o,X.s₀.heap.get? b=some o->b≠X.env.locals:=fun b o q z=>by
  have h1:=Mm q
  have h2:=I.ok.above
  rw [z] at h1; exact Jl _ (Jk h1 h2)
 have nfr:∀ b o,X.s₀.heap.get? b=some o->b∉frs X.outer->b∉frs X.stack:=fun b o q nb z=>by
  rw [fr] at z
  rcases List.mem_cons.mp z with z | z
  ·exact nl b o q z
  ·exact nb z
 refine⟨fun b o q n nb _=>k b o (U.keep b o q n nb (by simp)) (.inl ⟨⟨o,q⟩,by rw [hx]; simp⟩) (nfr b o q nb),fun b o q n hb _=>?_,fun b o q n _=>U.free b o q n (by simp),fun b o q _=>?_,U.tups,U.frzs,U.tbls⟩
 ·obtain⟨sl,e⟩:=U.slot b o q n hb (by simp)
  obtain⟨sl',e'⟩:=rh I us (by rw [fr]; exact Jr _ hb) e
  exact⟨sl',e'⟩
 ·obtain⟨o1,e1⟩:=U.there b o q (by simp)
  by_cases hb:b∈frs X.stack
  ·obtain⟨sl,e⟩:=rh I us hb e1
   exact⟨_,e⟩
  ·exact⟨o1,k b o1 e1 (.inl ⟨⟨o,q⟩,by rw [hx]; simp⟩) hb⟩
end
theorem Dj {P:MO} {w:MN} {K:LQ} {mg:Str->Option MM} {base:MR} {N:List Str} {qual:Str} {scope:MY} {f:MP} {cd:MM} {A:MV} {outer:List Env} {s:MX} {H:Hp} {E:XK} {σ:St} {O O':List MP} {H':Hp} {x:Ex}
  (hx:Hu K H O x E) (sm:aX H H') (hs:∀ a∈O,a∈O'):D3 (jG (mS P w) P w K mg base N qual scope f cd A outer s H E) σ O' H' x:=by
 rintro pins s1 u H1 I s2 ⟨e,C,dx,rfl,hd,B,a0,b1,b2,b3,b4,b5⟩
 have fin:∀ h',Heap.FlyingW B outer e (.ref C) a0 h'->s1.heap.UpToSlots h'->mS P w outer H s E (.ref e) { s1 with heap:=h' }:=fun h' fl us=>by
  have k:∀ b o,s1.heap.get? b=some o->pN (jG (mS P w) P w K mg base N qual scope f cd A outer s H E) H1 b->b∉frs (jG (mS P w) P w K mg base N qual scope f cd A outer s H E).stack->h'.get? b=some o:=fun b o q kb nf=>fl.1 b o (b5 b o q kb nf)
  have un:=C5 I rfl rfl rfl us k
  have hok:=BF I k
  refine⟨e,C,dx,H1,B,a0,rfl,I.os,I.bare,un,hok,fl,fun b o q hb nf=>?_,hx C dx H1 (sm.trans s2) (hd.mono (gP hs))⟩
  have nf2:b∉frs (jG (mS P w) P w K mg base N qual scope f cd A outer s H E).stack:=fun z=>by
   rcases List.mem_cons.mp (show b∈s.heap.objs.size::frs outer from z) with z | z
   ·rcases hb with hb | hb
    ·obtain⟨o',hb⟩:=hb
     have:=Mm hb
     rw [z] at this; exact Jl _ this
    ·rw [z] at hb; exact hb I.free
   ·exact nf z
  have kb:pN (jG (mS P w) P w K mg base N qual scope f cd A outer s H E) H1 b:=hb.elim (fun z=>.inl ⟨z,fun y=>nomatch y⟩) fun z=>.inr (.inl z)
  obtain⟨o1,e1⟩:∃ o1,s1.heap.get? b=some o1:=by
   rcases hb with ⟨o',hb⟩ | hb
   ·exact I.base.there b o' hb (fun z=>nomatch z)
   ·cases q0:H1 b with
    | none=>exact absurd q0 hb
    | some ob=>exact DB (I.hok b ob q0)
  have:=k b o1 e1 kb nf2
  rw [q] at this; cases this
  exact b5 b _ e1 kb nf2
 show MZ _ _ (leaving (My qual scope s.heap.objs.size f cd) (.ref e)) _ _ s1
 rcases b4 with b4 | ⟨oe,vs,c1,c2,c3,c4,c5⟩
 ·exact wpAny_leaves_onW I.ok.frames rfl ⟨b1,b2,b3,b4⟩ fin
 ·refine wpAny_leaving_firstW I.ok.frames b3 rfl c1 b1 b2 c3 c4 c5 fun h' hL=>?_
  obtain⟨k1,⟨_,_,k2⟩,k3,k4⟩:=hL
  exact fin h' ⟨k1,b2,k2,c2 ▸ k3⟩ k4
end TG
namespace TG
open PySem PySem.Spec L2
variable [aM]

def gQ (X:Cx) (σ:St) (O:List MP) (H:Hp) {α:Type} (r:R α) (Q:α->Prop):Prop:=match r with
 | .ok a=>Q a
 | .error (some x)=>D3 X σ O H x
 | .error none=>False
section
variable {X:Cx} {σ:St} {O:List MP} {H H':Hp} {α β:Type}
theorem gQ.bind {r:R α} {G:α->R β} {Q:β->Prop} (h:gQ X σ O H (r.bind G) Q):gQ X σ O H r fun a=>gQ X σ O H (G a) Q:=by
 match r,h with
 | .ok a,h=>exact h
 | .error (some x),h=>exact h
 | .error none,h=>exact h
theorem gQ.imp {r:R α} {Q Q':α->Prop} (h:gQ X σ O H r Q) (f:∀ a,Q a->Q' a):gQ X σ O H r Q':=by
 match r,h with
 | .ok a,h=>exact f a h
 | .error (some x),h=>exact h
 | .error none,h=>exact h
theorem gQ.mono {r:R α} {Q:α->Prop} (h:gQ X σ O H r Q) (s:aX H H'):gQ X σ O H' r Q:=by
 match r,h with
 | .ok a,h=>exact h
 | .error (some x),h=>exact D3.mono h s
 | .error none,h=>exact h
theorem gQ.rO {o:Option α} {Q:α->Prop} (h:gQ X σ O H (rO o) Q):∃ a,o=some a/\Q a:=by
 match o,h with
 | some a,h=>exact⟨a,rfl,h⟩
 | none,h=>exact h.elim
end
abbrev FX:=aq->R D
def tF (X:Cx) (F:FX):TE:=fun σ H Q=>∃ O ρ,cQ X.K O H ρ σ/\gQ X σ O H (F ρ) fun d=>∀ v H',aX H H'->cm X.K (hid H' O) d v->Q v H'
def Gx (X:Cx) (F:aq->R Bool):TT:=fun σ H Q=>∃ O ρ,cQ X.K O H ρ σ/\gQ X σ O H (F ρ) fun b=>∀ H',aX H H'->Q b H'
def FV (X:Cx) (F:aq->R (List D)):TA:=fun σ H Q=>∃ O ρ,cQ X.K O H ρ σ/\gQ X σ O H (F ρ) fun ds=>∀ vs H',aX H H'->aL X.K (hid H' O) ds vs->Q vs H'
def FE (X:Cx) (e:M0) (F:FX):Prop:=PE X e (tF X F)
def FT (X:Cx) (e:M0) (F:aq->R Bool):Prop:=PT X e (Gx X F)
def FW (X:Cx) (e:M0) (F:aq->R Bool):Prop:=PW X e (Gx X F)
def FA (X:Cx) (es:List M0) (F:aq->R (List D)):Prop:=PA X es (FV X F)

theorem PE.weak {X:Cx} {e:M0} {t t':TE} (h:PE X e t) (w:∀ σ H Q,t' σ H Q->t σ H Q):PE X e t':=fun pins s σ H Q I q=>h pins s σ H Q I (w σ H Q q)
theorem PT.weak {X:Cx} {e:M0} {t t':TT} (h:PT X e t) (w:∀ σ H Q,t' σ H Q->t σ H Q):PT X e t':=fun pins s σ H Q I q=>h pins s σ H Q I (w σ H Q q)
theorem PW.weak {X:Cx} {e:M0} {t t':TT} (h:PW X e t) (w:∀ σ H Q,t' σ H Q->t σ H Q):PW X e t':=fun whole pins s σ H Q I q=>h whole pins s σ H Q I (w σ H Q q)
theorem PA.weak {X:Cx} {es:List M0} {t t':TA} (h:PA X es t) (w:∀ σ H Q,t' σ H Q->t σ H Q):PA X es t':=fun pos pins s σ H Q I q=>h pos pins s σ H Q I (w σ H Q q)
theorem PS.weak {X:Cx} {st:M2} {t t':TS} (h:PS X st t) (w:∀ D σ H,t' D σ H->t D σ H):PS X st t':=fun pins s σ H Q I q=>h pins s σ H Q I (w Q σ H q)
theorem tq.weak {X:Cx} {st:List M2} {t t':TS} (h:tq X st t) (w:∀ D σ H,t' D σ H->t D σ H):tq X st t':=fun pins s σ H Q I q=>h pins s σ H Q I (w Q σ H q)

def pK (ρ:aq) (i:Nat):R D:=match ρ[i]? with
 | some (some (.val d))=>.ok d
 | _=>un
theorem Bz {ρ:aq} {i:Nat} {d:D} (h:pK ρ i=.ok d):ρ[i]?=some (some (.val d)):=by
 unfold pK at h
 split at h
 ·rename_i e; cases h; exact e
 ·cases h
def ah (i:Nat):FX:=fun ρ=>pK ρ i
def fC (d:D):FX:=fun _=>.ok d
section
variable {X:Cx}
theorem yd {σ:St} {O:List MP} {H:Hp} {ρ:aq} {i:Nat} {Q:D->Prop} (h:gQ X σ O H (pK ρ i) Q):∃ d,ρ[i]?=some (some (.val d))/\Q d:=by
 cases e:pK ρ i with
 | ok d=>rw [e] at h; exact⟨d,Bz e,h⟩
 | error z =>
  rw [e] at h
  cases z with
  | none=>exact h.elim
  | some x =>
   exfalso
   unfold pK at e
   split at e
   ·cases e
   ·have:=Except.error.inj e; cases this
theorem Hs {i:Nat} {x:Str} {pos:Pos} (h:PE X (.Name x pos) (nq i)):FE X (.Name x pos) (ah i) :=
 PE.weak h fun σ H Q ⟨O,ρ,E,hF⟩=>by
  obtain⟨d,e,q⟩:=yd hF
  obtain⟨v,e,dv⟩:=E.val i d e
  exact⟨v,e,q v H (aX.refl H) dv⟩
theorem oG {e:M0} {d:D} {v:V} (h:PE X e (tC v)) (hd:∀ K H,cm K H d v):FE X e (fC d) :=
 PE.weak h fun σ H Q ⟨O,ρ,E,q⟩=>q v H (aX.refl H) (hd _ _)
theorem G3 {i j pos}:FE X (.Constant (.int i) j pos) (fC (.int i)):=oG DW fun _ _=>eB.mpr rfl
theorem IK {b j pos}:FE X (.Constant (.bool b) j pos) (fC (.bl b)):=oG Fs fun _ _=>jO.mpr rfl
theorem He {x j pos}:FE X (.Constant (.str x) j pos) (fC (.str x)):=oG CT fun _ _=>dJ.mpr rfl

def noStar:M0->Bool
 | .Starred _ _=>false
 | _=>true
theorem cP {e:M0} {es:List M0} {env:Env} (h:noStar e=true):M1 (e::es) env=(false,eval e env)::M1 es env:=by
 cases e <;> first | rfl | cases h
theorem gO {pos:Pos} {env:Env}:∀ {es:List M0},es.all noStar=true->(backTo pos (M1 es env)).any (·.1)=false
 | [],_=>rfl
 | e::es,h=>by
  rw [Kf,JU] at h
  rw [cP h.1]
  exact gO h.2
def aw:aq->R (List D):=fun _=>.ok []
def af (f:FX) (g:aq->R (List D)):aq->R (List D):=fun ρ=>(f ρ).bind fun x=>(g ρ).bind fun xs=>.ok (x::xs)
theorem Cy:FA X [] aw:=PA.weak o6 fun σ H Q ⟨O,ρ,E,q⟩=>q [] H (aX.refl H) (cF.mpr rfl)
theorem bind_some {α β:Type} {o:Option α} {f:α->Option β} {b:β} (h:o.bind f=some b):∃ a,o=some a/\f a=some b:=by
 cases o with
 | none=>cases h
 | some a=>exact⟨a,rfl,h⟩
theorem og {ε α β:Type} {o:Except ε α} {f:α->Except ε β} {b:β} (h:o.bind f=.ok b):∃ a,o=.ok a/\f a=.ok b:=by
 cases o with
 | error _=>cases h
 | ok a=>exact⟨a,rfl,h⟩
theorem A1 {e:M0} {es:List M0} {f:FX} {g:aq->R (List D)} (he:FE X e f) (hs:FA X es g) (hns:noStar e=true:=by rfl):FA X (e::es) (af f g) :=
 PA.weak (kc he hs (cP hns)) fun σ H Q ⟨O,ρ,E,h⟩ =>
  ⟨O,ρ,E,(gQ.bind h).imp fun x h v H1 s1 d1=>⟨O,ρ,E.same s1,((gQ.bind h).mono s1).imp fun xs q vs H2 s2 d2=>q (v::vs) H2 (s1.trans s2) (bc.mpr ⟨v,vs,rfl,d1.mono (bx s2),d2⟩)⟩⟩
def small (n:Nat):Bool:=decide (n<=100000)
theorem cT {n:Nat} (h:small n=true):n<=MS:=Jn (of_decide_eq_true h) (by decide)
theorem dj {n:Nat} (h:n<=100000):small n=true:=decide_eq_true h
def qM (xs:List D):Option D:=if small xs.length then some (.tup xs) else none
def lV (xs:List D):Option D:=if small xs.length then some (.lst xs) else none
def fY (g:aq->R (List D)):FX:=fun ρ=>(g ρ).bind fun xs=>rO (qM xs)
def jb (g:aq->R (List D)):FX:=fun ρ=>(g ρ).bind fun xs=>rO (lV xs)
theorem bv {α:Type} {c:Bool} {a b:α} (h:(if c then some a else none)=some b):c=true/\a=b:=by
 cases c with
 | true=>exact⟨rfl,Option.some.inj h⟩
 | false=>cases h
theorem dA {K:LQ} {H:Hp} {O:List MP} {p:MP} {ds:List D} {vs:List V} (hO:dg H O) (hp:H p=none) (d:aL K (hid H O) ds vs):cm K (hid (upd H p (.tup vs)) O) (.tup ds) (.ref p) :=
 cq.mpr ⟨p,vs,rfl,by rw [iR (hO.not hp),aN],d.mono (sM hp)⟩
theorem d5 {K:LQ} {H:Hp} {O:List MP} {p:MP} {ds:List D} {vs:List V} (hO:dg H O) (hp:H p=none) (d:aL K (hid H O) ds vs):cm K (hid (upd H p (.lst vs)) O) (.lst ds) (.ref p) :=
 cu.mpr ⟨p,vs,rfl,lU.of (by rw [iR (hO.not hp),aN]),d.mono (sM hp)⟩
theorem Im {es:List M0} {g:aq->R (List D)} {k pos} (h:FA X es g):FE X (.Tuple es k pos) (fY g) :=
 PE.weak (CO h) fun σ H Q ⟨O,ρ,E,hF⟩=>⟨O,ρ,E,(gQ.bind hF).imp fun xs hF vs H1 s1 d1=>by
  obtain⟨d,e,q⟩:=gQ.rO hF
  obtain⟨hz,e⟩:=bv e
  subst e
  refine⟨by rw [<- d1.length]; exact cT hz,fun p hp=>?_⟩
  exact q _ _ (s1.trans (bC hp _)) (dA (E.all.same s1) hp d1)⟩
theorem G6 {es:List M0} {g:aq->R (List D)} {pos} (h:FA X es g):FE X (.List es pos) (jb g) :=
 PE.weak (u9 h) fun σ H Q ⟨O,ρ,E,hF⟩=>⟨O,ρ,E,(gQ.bind hF).imp fun xs hF vs H1 s1 d1=>by
  obtain⟨d,e,q⟩:=gQ.rO hF
  obtain⟨hz,e⟩:=bv e
  subst e
  refine⟨by rw [<- d1.length]; exact cT hz,fun p hp=>?_⟩
  exact q _ _ (s1.trans (bC hp _)) (d5 (E.all.same s1) hp d1)⟩

def Bm (K:LQ) (r:V->Hp->VK->Prop) (g:D->Option D):Prop :=
 ∀ (a d:D) (x:V) (O:List MP) (H:Hp) (Q:VK),dg H O->g a=some d->cm K (hid H O) a x->(∀ v H',aX H H'->cm K (hid H' O) d v->Q v H')->r x H Q
def f1 (g:D->Option D) (f:FX):FX:=fun ρ=>(f ρ).bind fun a=>rO (g a)
def dm (K:LQ) (r:R2) (g:D->D->Option D):Prop :=
 ∀ (a b d:D) (x y:V) (O:List MP) (H:Hp) (Q:VK),dg H O->g a b=some d->cm K (hid H O) a x->cm K (hid H O) b y->(∀ v H',aX H H'->cm K (hid H' O) d v->Q v H')->r x y H Q
def f2 (g:D->D->Option D) (f1 f2:FX):FX:=fun ρ=>(f1 ρ).bind fun a=>(f2 ρ).bind fun b=>rO (g a b)
theorem sE {r:R2} {g:D->D->Option D} {fa fb:FX} (s:dm X.K r g):∀ σ H Q,tF X (f2 g fa fb) σ H Q->EH r (tF X fa) (tF X fb) σ H Q:=fun σ H Q ⟨O,ρ,E,hF⟩ =>
 ⟨O,ρ,E,(gQ.bind hF).imp fun a hF x H1 s1 d1=>⟨O,ρ,E.same s1,((gQ.bind hF).mono s1).imp fun b hF y H2 s2 d2=>by
  obtain⟨d,e,q⟩:=gQ.rO hF
  exact s a b d x y O H2 Q (E.all.same (s1.trans s2)) e (d1.mono (bx s2)) d2 fun v H3 s3 d3=>q v H3 ((s1.trans s2).trans s3) d3⟩⟩
theorem GV {a b:M0} {op:Operator} {r:R2} {g:D->D->Option D} {fa fb:FX} {pos:Pos} (ho:kU X (Nf op) r) (s:dm X.K r g) (ha:FE X a fa) (hb:FE X b fb):FE X (.BinOp a op b pos) (f2 g fa fb) :=
 PE.weak (Fb ho ha hb) (sE s)
theorem Ia {a b:M0} {op:CmpOp} {r:R2} {g:D->D->Option D} {fa fb:FX} {pos:Pos} (ho:kU X (Ng op) r) (s:dm X.K r g) (ha:FE X a fa) (hb:FE X b fb) (hm:Nh op b=false):FE X (.Compare a [op] [b] pos) (f2 g fa fb) :=
 PE.weak (Bq ho ha hb hm) (sE s)
def HH:D->Option Bool
 | .bl b=>some b
 | _=>none
def fB (f:FX):aq->R Bool:=fun ρ=>(f ρ).bind fun d=>rO (HH d)
theorem zV {t:TE} {f:FX} (h:∀ σ H Q,tF X f σ H Q->t σ H Q):∀ σ H Q,Gx X (fB f) σ H Q->Cj t σ H Q:=fun σ H Q ⟨O,ρ,E,hF⟩ =>
 h σ H _ ⟨O,ρ,E,(gQ.bind hF).imp fun d hF v H1 s1 d1=>by
  obtain⟨b,e,q⟩:=gQ.rO hF
  cases d with
  | bl b' =>
   cases e
   exact⟨b,jO.mp d1,q H1 s1⟩
  | _=>cases e⟩
theorem Hc {a b:M0} {op:CmpOp} {r:R2} {g:D->D->Option D} {fa fb:FX} {pos:Pos} (ho:kU X (Ng op) r) (s:dm X.K r g) (ha:FE X a fa) (hb:FE X b fb) (hm:Nh op b=false):FT X (.Compare a [op] [b] pos) (fB (f2 g fa fb)) :=
 PT.weak (BO ho ha hb hm) (zV (sE s))

def xl (K:LQ) (r:List V->Hp->VK->Prop) (g:List D->Option D):Prop :=
 ∀ (ds:List D) (d:D) (xs:List V) (O:List MP) (H:Hp) (Q:VK),dg H O->g ds=some d->aL K (hid H O) ds xs->(∀ v H',aX H H'->cm K (hid H' O) d v->Q v H')->r xs H Q
def fL (g:List D->Option D) (f:aq->R (List D)):FX:=fun ρ=>(f ρ).bind fun ds=>rO (g ds)
def fR (g:List D->R D) (f:aq->R (List D)):FX:=fun ρ=>(f ρ).bind g
theorem Ab {r:List V->Hp->VK->Prop} {g:List D->Option D} {f:aq->R (List D)} (s:xl X.K r g):∀ σ H Q,tF X (fL g f) σ H Q->Hg r (FV X f) σ H Q:=fun σ H Q ⟨O,ρ,E,hF⟩ =>
 ⟨O,ρ,E,(gQ.bind hF).imp fun ds hF vs H1 s1 d1=>by
  obtain⟨d,e,q⟩:=gQ.rO hF
  exact s ds d vs O H1 Q (E.all.same s1) e d1 fun v H2 s2 d2=>q v H2 (s1.trans s2) d2⟩

def sR (f:aq->R Bool):aq->R Bool:=fun ρ=>(f ρ).bind fun b=>.ok (!b)
def GD (f g:aq->R Bool):aq->R Bool:=fun ρ=>(f ρ).bind fun b=>if b then g ρ else .ok false
def Ci (f g:aq->R Bool):aq->R Bool:=fun ρ=>(f ρ).bind fun b=>if b then .ok true else g ρ
variable {a b c:M0} {rest:List M0} {pos:Pos} {f g:aq->R Bool}
theorem G7 (h:FT X a f):FT X (.UnaryOp .Not a pos) (sR f):=PT.weak (D0 h) fun σ H Q ⟨O,ρ,E,hF⟩=>⟨O,ρ,E,(gQ.bind hF).imp fun b q H1 s1=>q H1 s1⟩
theorem Hf (h:FT X a f):FW X (.BoolOp .Or [a] pos) f:=DC h
theorem IL (ha:FT X a f) (hb:FW X (.BoolOp .Or (b::rest) pos) g):FW X (.BoolOp .Or (a::b::rest) pos) (Ci f g):=PW.weak (FD ha hb) fun σ H Q ⟨O,ρ,E,hF⟩=>⟨O,ρ,E,(gQ.bind hF).imp fun c hF H1 s1=>by
 cases c with
 | false=>exact A0 ⟨O,ρ,E.same s1,(hF.mono s1).imp fun b q H2 s2=>q H2 (s1.trans s2)⟩
 | true=>exact Bj (hF H1 s1)⟩
theorem FW.ft {e:M0} (h:FW X e f):FT X e f:=PW.pt h
def truth:D->Option Bool
 | .non=>some false
 | .bl b=>some b
 | .int i=>some (i != 0)
 | .str x=>if small x.length then some (x.length != 0) else none
 | .tup xs=>some (!xs.isEmpty)
 | .lst xs=>some (!xs.isEmpty)
 | _=>none
def eT (f:FX):aq->R Bool:=fun ρ=>(f ρ).bind fun d=>rO (truth d)

def vn (d:D) (k:R D):R D:=match d with
 | .bl true=>k
 | .bl false=>.ok (.bl false)
 | _=>un
def Ec (d:D) (k:R D):R D:=match d with
 | .bl false=>k
 | .bl true=>.ok (.bl true)
 | _=>un
def Cz:D->Option D
 | .bl b=>some (.bl (!b))
 | _=>none
def o5 (f g:FX):FX:=fun ρ=>(f ρ).bind fun d=>vn d (g ρ)
def Hl (f g:FX):FX:=fun ρ=>(f ρ).bind fun d=>Ec d (g ρ)
def Ep (f:FX):FX:=f1 Cz f
variable {fa fb:FX}
theorem Ih {op} (h:FE X a fa):FE X (.BoolOp op [a] pos) fa:=DR h
theorem Hv (ha:FE X a fa) (hb:FE X (.BoolOp .And (b::rest) pos) fb):FE X (.BoolOp .And (a::b::rest) pos) (o5 fa fb):=PE.weak (CM ha hb) fun σ H Q ⟨O,ρ,E,hF⟩=>⟨O,ρ,E,(gQ.bind hF).imp fun d hF x H1 s1 d1=>by
 cases d with
 | bl c =>
  refine⟨c,jO.mp d1,?_⟩
  cases c with
  | true=>exact Bj ⟨O,ρ,E.same s1,(hF.mono s1).imp fun d q v H2 s2 d2=>q v H2 (s1.trans s2) d2⟩
  | false=>exact A0 (hF _ H1 s1 (jO.mpr rfl))
 | _=>exact hF.elim⟩
def Jh (t:aq->R Bool) (f g:FX):FX:=fun ρ=>(t ρ).bind fun c=>if c then f ρ else g ρ
end
end TG
namespace TG
open PySem PySem.Spec L2
variable [aM]
open PySem.SeqAt (EqAt RcAt RcNeAt)

mutual
def pyEq:D->D->Bool
 | .non,.non=>true
 | .bl a,.bl b=>a==b
 | .bl a,.int b=>(if a then 1 else 0)==b
 | .int a,.bl b=>a==(if b then 1 else 0)
 | .int a,.int b=>a==b
 | .str a,.str b=>a==b
 | .tup xs,.tup ys=>fK xs ys
 | .lst xs,.lst ys=>fK xs ys
 | .dct _ _,.dct _ _=>true
 | .obj _ _ _,.obj _ _ _=>true
 | .exc _ _ _,.exc _ _ _=>true
 | _,_=>false
def fK:List D->List D->Bool
 | [],[]=>true
 | x::xs,y::ys=>pyEq x y && fK xs ys
 | _,_=>false
end
mutual
theorem nD:∀ d:D,pyEq d d=true
 | .non=>by unfold pyEq; rfl
 | .bl b=>by unfold pyEq; simp
 | .int i=>by unfold pyEq; simp
 | .str x=>by unfold pyEq; simp
 | .tup xs=>by unfold pyEq; exact lx xs
 | .lst xs=>by unfold pyEq; exact lx xs
 | .dct _ _=>by unfold pyEq; rfl
 | .obj _ _ _=>by unfold pyEq; rfl
 | .exc _ _ _=>by unfold pyEq; rfl
theorem lx:∀ ds:List D,fK ds ds=true
 | []=>by unfold fK; rfl
 | d::ds=>by unfold fK; rw [nD d,lx ds]; rfl
end
def vm (xs ys:List D) (j:Nat):Bool:=match xs[j]?,ys[j]? with
 | some a,some b=>pyEq a b
 | _,_=>false
theorem fg:∀ xs ys:List D,((List.range (min xs.length ys.length)).all (vm xs ys) && xs.length==ys.length)=fK xs ys
 | [],[]=>by unfold fK; rfl
 | [],_::_=>by unfold fK; simp
 | _::_,[]=>by unfold fK; simp
 | x::xs,y::ys=>by
  have ih:=fg xs ys
  conv=>rhs; unfold fK
  rw [<- ih]
  have e:min (x::xs).length (y::ys).length=min xs.length ys.length+1:=by simp only [JC]; omega
  rw [e,List.range_succ_eq_map,Kf,List.all_map]
  have e2:((x::xs).length==(y::ys).length)=(xs.length==ys.length):=by simp
  rw [e2,Bool.and_assoc]
  have e3:(List.range (min xs.length ys.length)).all (vm (x::xs) (y::ys) ∘ Nat.succ)=(List.range (min xs.length ys.length)).all (vm xs ys):=by
   congr 1
  rw [e3]
  rfl
mutual
def pl:D->Bool
 | .tup xs=>tV xs
 | .lst xs=>tV xs
 | .dct _ _=>false
 | .obj _ _ _=>false
 | .exc _ _ _=>false
 | _=>true
def tV:List D->Bool
 | []=>true
 | x::xs=>pl x && tV xs
end
theorem e9 {ks vs:List D} (h:pl (.dct ks vs)=true):False:=by unfold pl at h; cases h
theorem eZ {c:Str} {fs:List Str} {vs:List D} (h:pl (.obj c fs vs)=true):False:=by unfold pl at h; cases h
theorem eW {c:Str} {fs:List Str} {vs:List D} (h:pl (.exc c fs vs)=true):False:=by unfold pl at h; cases h
theorem lR:∀ {xs:List D},tV xs=true->∀ x∈xs,pl x=true
 | [],_,_,h=>nomatch h
 | x::xs,h,y,hy=>by
  unfold tV at h
  rw [JU] at h
  rcases List.mem_cons.mp hy with z | z
  ·rw [z]; exact h.1
  ·exact lR h.2 y z
theorem cX {xs:List D}:pl (.tup xs)=tV xs:=by rw [pl]
theorem dG {xs:List D}:pl (.lst xs)=tV xs:=by rw [pl]
def gf:Nat->D->Bool
 | n+1,.tup xs=>xs.all (gf n)
 | n+1,.lst xs=>xs.all (gf n)
 | 0,.tup _=>false
 | 0,.lst _=>false
 | _,.dct _ _=>false
 | _,.obj _ _ _=>false
 | _,.exc _ _ _=>false
 | _,_=>true

section
variable {X:Cx} {pins:List (MP×Obj)} {σ:St} {H:Hp} {s:MX}
theorem Inv.not_both (I:Inv X pins σ H s) {a:MP} {xs ys:List V} (h:nL X.K H a xs) (h':lU X.K H a ys):False:=by
 obtain⟨its,_,ht,_⟩:=I.tuple h
 obtain⟨its2,_,hl,_⟩:=I.list h'
 exact absurd rfl (SeqAt.ne_of_list_tuple hl.isList (show s.heap.IsTuple a its.toArray from ht))
mutual
theorem Inv.den_inj (I:Inv X pins σ H s):∀ {a b:D} {v:V},pl a=true->pl b=true->cm X.K H a v->cm X.K H b v->a=b
 | .non,b,v,pa,pb,h,h'=>by
  rw [jd] at h; subst h
  cases b with
  | non=>rfl
  | bl _=>rw [jO] at h'; cases h'
  | int _=>rw [eB] at h'; cases h'
  | str _=>rw [dJ] at h'; cases h'
  | tup _=>rw [cq] at h'; obtain⟨_,_,e,_⟩:=h'; cases e
  | lst _=>rw [cu] at h'; obtain⟨_,_,e,_⟩:=h'; cases e
  | dct _ _=>exact(e9 pb).elim
  | obj _ _ _=>exact(eZ pb).elim
  | exc _ _ _=>exact(eW pb).elim
 | .bl x,b,v,pa,pb,h,h'=>by
  rw [jO] at h; subst h
  cases b with
  | non=>rw [jd] at h'; cases h'
  | bl _=>rw [jO] at h'; cases h'; rfl
  | int _=>rw [eB] at h'; cases h'
  | str _=>rw [dJ] at h'; cases h'
  | tup _=>rw [cq] at h'; obtain⟨_,_,e,_⟩:=h'; cases e
  | lst _=>rw [cu] at h'; obtain⟨_,_,e,_⟩:=h'; cases e
  | dct _ _=>exact(e9 pb).elim
  | obj _ _ _=>exact(eZ pb).elim
  | exc _ _ _=>exact(eW pb).elim
 | .int x,b,v,pa,pb,h,h'=>by
  rw [eB] at h; subst h
  cases b with
  | non=>rw [jd] at h'; cases h'
  | bl _=>rw [jO] at h'; cases h'
  | int _=>rw [eB] at h'; cases h'; rfl
  | str _=>rw [dJ] at h'; cases h'
  | tup _=>rw [cq] at h'; obtain⟨_,_,e,_⟩:=h'; cases e
  | lst _=>rw [cu] at h'; obtain⟨_,_,e,_⟩:=h'; cases e
  | dct _ _=>exact(e9 pb).elim
  | obj _ _ _=>exact(eZ pb).elim
  | exc _ _ _=>exact(eW pb).elim
 | .str x,b,v,pa,pb,h,h'=>by
  rw [dJ] at h; subst h
  cases b with
  | non=>rw [jd] at h'; cases h'
  | bl _=>rw [jO] at h'; cases h'
  | int _=>rw [eB] at h'; cases h'
  | str _=>rw [dJ] at h'; cases h'; rfl
  | tup _=>rw [cq] at h'; obtain⟨_,_,e,_⟩:=h'; cases e
  | lst _=>rw [cu] at h'; obtain⟨_,_,e,_⟩:=h'; cases e
  | dct _ _=>exact(e9 pb).elim
  | obj _ _ _=>exact(eZ pb).elim
  | exc _ _ _=>exact(eW pb).elim
 | .tup xs,b,v,pa,pb,h,h'=>by
  rw [cq] at h
  obtain⟨a,vs,e,h1,h2⟩:=h
  subst e
  cases b with
  | non=>rw [jd] at h'; cases h'
  | bl _=>rw [jO] at h'; cases h'
  | int _=>rw [eB] at h'; cases h'
  | str _=>rw [dJ] at h'; cases h'
  | tup ys =>
   rw [cq] at h'
   obtain⟨a',vs',e,h1',h2'⟩:=h'
   cases e
   have ev:=I.tuple_inj (nL.of h1) (nL.of h1')
   subst ev
   rw [Inv.denL_inj I (by first | rw [<- cX]; exact pa | rw [<- dG]; exact pa) (by first | rw [<- cX]; exact pb | rw [<- dG]; exact pb) h2 h2']
  | lst _=>rw [cu] at h'; obtain⟨_,_,e,h1',_⟩:=h'; cases e; exact(Inv.not_both I (nL.of h1) h1').elim
  | dct _ _=>exact(e9 pb).elim
  | obj _ _ _=>exact(eZ pb).elim
  | exc _ _ _=>exact(eW pb).elim
 | .lst xs,b,v,pa,pb,h,h'=>by
  rw [cu] at h
  obtain⟨a,vs,e,h1,h2⟩:=h
  subst e
  cases b with
  | non=>rw [jd] at h'; cases h'
  | bl _=>rw [jO] at h'; cases h'
  | int _=>rw [eB] at h'; cases h'
  | str _=>rw [dJ] at h'; cases h'
  | lst ys =>
   rw [cu] at h'
   obtain⟨a',vs',e,h1',h2'⟩:=h'
   cases e
   have ev:=I.list_inj h1 h1'
   subst ev
   rw [Inv.denL_inj I (by first | rw [<- cX]; exact pa | rw [<- dG]; exact pa) (by first | rw [<- cX]; exact pb | rw [<- dG]; exact pb) h2 h2']
  | tup _=>rw [cq] at h'; obtain⟨_,_,e,h1',_⟩:=h'; cases e; exact(Inv.not_both I (nL.of h1') h1).elim
  | dct _ _=>exact(e9 pb).elim
  | obj _ _ _=>exact(eZ pb).elim
  | exc _ _ _=>exact(eW pb).elim
 | .dct _ _,_,_,pa,_,_,_=>(e9 pa).elim
 | .obj _ _ _,_,_,pa,_,_,_=>(eZ pa).elim
 | .exc _ _ _,_,_,pa,_,_,_=>(eW pa).elim
theorem Inv.denL_inj (I:Inv X pins σ H s):∀ {as bs:List D} {vs:List V},tV as=true->tV bs=true->aL X.K H as vs->aL X.K H bs vs->as=bs
 | [],bs,vs,pa,pb,h,h'=>by
  rw [cF] at h; subst h
  cases bs with
  | nil=>rfl
  | cons b bs=>rw [bc] at h'; obtain⟨_,_,e,_⟩:=h'; cases e
 | a::as,bs,vs,pa,pb,h,h'=>by
  rw [bc] at h
  obtain⟨v,r,e,h1,h2⟩:=h
  subst e
  cases bs with
  | nil=>rw [cF] at h'; cases h'
  | cons b bs =>
   rw [bc] at h'
   obtain⟨v',r',e,h1',h2'⟩:=h'
   cases e
   unfold tV at pa pb
   rw [JU] at pa pb
   rw [Inv.den_inj I pa.1 pb.1 h1 h1',Inv.denL_inj I pa.2 pb.2 h2 h2']
end

def kZ:D->Option V
 | .non=>some .non
 | .bl b=>some (.bl b)
 | .int i=>some (.int i)
 | .str x=>some (.str x)
 | _=>none
theorem mO {K:LQ} {d:D} {v x:V} (h:kZ d=some x) (hd:cm K H d v):v=x/\Aj x=true:=by
 cases d with
 | non=>cases h; exact⟨jd.mp hd,rfl⟩
 | bl b=>cases h; exact⟨jO.mp hd,rfl⟩
 | int i=>cases h; exact⟨eB.mp hd,rfl⟩
 | str y=>cases h; exact⟨dJ.mp hd,rfl⟩
 | _=>cases h
theorem BC {a b:D} {x y:V} (ha:kZ a=some x) (hb:kZ b=some y):HD x y=pyEq a b:=by
 cases a <;> cases ha <;> cases b <;> cases hb <;> (unfold pyEq HD; rfl)
theorem ub {a:D} {x:V} (n:Nat) (h:kZ a=some x):gf n a=true:=by
 cases a with
 | tup _=>cases h
 | lst _=>cases h
 | dct _ _=>cases h
 | obj _ _ _=>cases h
 | exc _ _ _=>cases h
 | _=>cases n <;> rfl
theorem uh {a:D} (h:kZ a=none):gf 0 a=false:=by
 cases a with
 | tup _=>rfl
 | lst _=>rfl
 | dct _ _=>rfl
 | obj _ _ _=>rfl
 | exc _ _ _=>rfl
 | _=>cases h
theorem in1_units (A:MV):A.in1.units=A.units+1:=rfl
theorem ox {vs:List V} {us:List MM} (r:Vals vs us) {j:Nat} (h:j < us.toArray.size):∃ x,vs[j]?=some x/\RelV x us.toArray[j]:=by
 have hj:j < us.length:=by simpa using h
 have hl:=r.length
 have hv:j < vs.length:=by omega
 obtain⟨u,e,ru⟩:=r.get (i:=j) (x:=vs[j]) (by simp [hv])
 refine⟨vs[j],by simp [hv],?_⟩
 have e2:us.toArray[j]=u:=by
  rw [Kg hj] at e
  simpa using Option.some.inj e
 rw [e2]; exact ru
theorem oq {K:LQ} {ds:List D} {vs:List V} (h:aL K H ds vs) {j:Nat} {x:V} (e:vs[j]?=some x):∃ d,ds[j]?=some d/\cm K H d x:=by
 have hj:j < vs.length:=(List.getElem?_eq_some_iff.mp e).1
 have hl:=h.length
 have hd:j < ds.length:=by omega
 obtain⟨v,e1,e2⟩:=h.get (i:=j) (d:=ds[j]) (by simp [hd])
 rw [e] at e1; cases e1
 exact⟨ds[j],by simp [hd],e2⟩

theorem CJ (I:Inv X pins σ H s):∀ (n:Nat) (a b:D) (x y:V) (u v:MM) (A:MV),pl a=true->pl b=true->(gf n a=true\/gf n b=true)->cm X.K H a x->cm X.K H b y->RelV x u->RelV y v->A.units+n < Np->EqAt A s u v (pyEq a b):=by
 intro n
 induction n with
 | zero =>
  intro a b x y u v A pa pb hd ha hb ru rv hA
  have hu:A.units < Np:=hA
  cases ha':kZ a with
  | some x' =>
   obtain⟨e,f⟩:=mO ha' ha
   subst e
   cases hb':kZ b with
   | some y' =>
    obtain⟨e,f'⟩:=mO hb' hb
    subst e
    rw [<- BC ha' hb']
    exact Dt ru rv f f'
   | none =>
    cases b with
    | tup ys =>
     rw [cq] at hb
     obtain⟨p,vs,e,h1,h2⟩:=hb
     subst e
     cases rv
     obtain⟨its,_,ht,_⟩:=I.tuple (nL.of h1)
     have ht':s.heap.IsTuple p its.toArray:=ht
     cases a with
     | non=>cases ha'; cases ru; unfold pyEq; exact .none_tuple ht' hu
     | bl z=>cases ha'; cases ru; unfold pyEq; exact .bool_tuple z ht' hu
     | int z=>cases ha'; obtain⟨t,rfl⟩:=ru; unfold pyEq; exact .int_tuple z t ht' hu
     | str z=>cases ha'; obtain⟨t,rfl⟩:=ru; unfold pyEq; exact .str_tuple z t ht' hu
     | _=>cases ha'
    | lst ys =>
     rw [cu] at hb
     obtain⟨p,vs,e,h1,h2⟩:=hb
     subst e
     cases rv
     obtain⟨its,_,ht,_⟩:=I.list h1
     have ht':s.heap.IsList p its.toArray:=ht.isList
     cases a with
     | non=>cases ha'; cases ru; unfold pyEq; exact .none_list ht' hu
     | bl z=>cases ha'; cases ru; unfold pyEq; exact .bool_list z ht' hu
     | int z=>cases ha'; obtain⟨t,rfl⟩:=ru; unfold pyEq; exact .int_list z t ht' hu
     | str z=>cases ha'; obtain⟨t,rfl⟩:=ru; unfold pyEq; exact .str_list z t ht' hu
     | _=>cases ha'
    | dct _ _=>exact(e9 pb).elim
    | obj _ _ _=>exact(eZ pb).elim
    | exc _ _ _=>exact(eW pb).elim
    | _=>cases hb'
  | none =>
   have hdb:gf 0 b=true:=by
    rcases hd with hd | hd
    ·rw [uh ha'] at hd; cases hd
    ·exact hd
   cases hb':kZ b with
   | none=>rw [uh hb'] at hdb; cases hdb
   | some y' =>
    obtain⟨e,f'⟩:=mO hb' hb
    subst e
    cases a with
    | tup xs =>
     rw [cq] at ha
     obtain⟨p,vs,e,h1,h2⟩:=ha
     subst e
     cases ru
     obtain⟨its,_,ht,_⟩:=I.tuple (nL.of h1)
     have ht':s.heap.IsTuple p its.toArray:=ht
     cases b with
     | non=>cases hb'; cases rv; unfold pyEq; exact .tuple_none ht' hu
     | bl z=>cases hb'; cases rv; unfold pyEq; exact .tuple_bool z ht' hu
     | int z=>cases hb'; obtain⟨t,rfl⟩:=rv; unfold pyEq; exact .tuple_int z t ht' hu
     | str z=>cases hb'; obtain⟨t,rfl⟩:=rv; unfold pyEq; exact .tuple_str z t ht' hu
     | _=>cases hb'
    | lst xs =>
     rw [cu] at ha
     obtain⟨p,vs,e,h1,h2⟩:=ha
     subst e
     cases ru
     obtain⟨its,_,ht,_⟩:=I.list h1
     have ht':s.heap.IsList p its.toArray:=ht.isList
     cases b with
     | non=>cases hb'; cases rv; unfold pyEq; exact .list_none ht' hu
     | bl z=>cases hb'; cases rv; unfold pyEq; exact .list_bool z ht' hu
     | int z=>cases hb'; obtain⟨t,rfl⟩:=rv; unfold pyEq; exact .list_int z t ht' hu
     | str z=>cases hb'; obtain⟨t,rfl⟩:=rv; unfold pyEq; exact .list_str z t ht' hu
     | _=>cases hb'
    | dct _ _=>exact(e9 pa).elim
    | obj _ _ _=>exact(eZ pa).elim
    | exc _ _ _=>exact(eW pa).elim
    | _=>cases ha'
 | succ n ih =>
  intro a b x y u v A pa pb hd ha hb ru rv hA
  have hu:A.units < Np:=by omega
  have flatWay:(∀ xs ys,¬ (a=.tup xs/\b=.tup ys))->(∀ xs ys,¬ (a=.lst xs/\b=.lst ys))->EqAt A s u v (pyEq a b):=by
   intro n1 n2
   cases ha':kZ a with
   | some x'=>exact ih a b x y u v A pa pb (.inl (ub n ha')) ha hb ru rv ‹0›
   | none =>
    cases hb':kZ b with
    | some y'=>exact ih a b x y u v A pa pb (.inr (ub n hb')) ha hb ru rv ‹0›
    | none =>
     cases a with
     | tup xs =>
      cases b with
      | tup ys=>exact absurd ⟨rfl,rfl⟩ (n1 xs ys)
      | lst ys =>
       rw [cq] at ha
       obtain⟨p,vs,e,h1,h2⟩:=ha
       subst e
       rw [cu] at hb
       obtain⟨p',vs',e,h1',h2'⟩:=hb
       subst e
       cases ru
       cases rv
       obtain⟨its,_,ht,_⟩:=I.tuple (nL.of h1)
       obtain⟨its2,_,ht2,_⟩:=I.list h1'
       unfold pyEq
       exact .tuple_list (show s.heap.IsTuple p its.toArray from ht) ht2.isList hu
      | dct _ _=>exact(e9 pb).elim
      | obj _ _ _=>exact(eZ pb).elim
      | exc _ _ _=>exact(eW pb).elim
      | _=>cases hb'
     | lst xs =>
      cases b with
      | lst ys=>exact absurd ⟨rfl,rfl⟩ (n2 xs ys)
      | tup ys =>
       rw [cu] at ha
       obtain⟨p,vs,e,h1,h2⟩:=ha
       subst e
       rw [cq] at hb
       obtain⟨p',vs',e,h1',h2'⟩:=hb
       subst e
       cases ru
       cases rv
       obtain⟨its,_,ht,_⟩:=I.list h1
       obtain⟨its2,_,ht2,_⟩:=I.tuple (nL.of h1')
       unfold pyEq
       exact .list_tuple ht.isList (show s.heap.IsTuple p' its2.toArray from ht2) hu
      | dct _ _=>exact(e9 pb).elim
      | obj _ _ _=>exact(eZ pb).elim
      | exc _ _ _=>exact(eW pb).elim
      | _=>cases hb'
     | dct _ _=>exact(e9 pa).elim
     | obj _ _ _=>exact(eZ pa).elim
     | exc _ _ _=>exact(eW pa).elim
     | _=>cases ha'
  have items:∀ (xs ys:List D) (vs vs':List V) (its its':List MM),tV xs=true->tV ys=true->(gf (n+1) (.tup xs)=true\/gf (n+1) (.tup ys)=true)->aL X.K H xs vs->aL X.K H ys vs'->Vals vs its->Vals vs' its' ->
    ∀ j (h1:j < its.toArray.size) (h2:j < its'.toArray.size),EqAt A.in1 s its.toArray[j] its'.toArray[j] (vm xs ys j):=by
   intro xs ys vs vs' its its' px py hdd hx hy rx ry j h1 h2
   obtain⟨w1,e1,r1⟩:=ox rx h1
   obtain⟨w2,e2,r2⟩:=ox ry h2
   obtain⟨d1,f1,g1⟩:=oq hx e1
   obtain⟨d2,f2,g2⟩:=oq hy e2
   have e3:vm xs ys j=pyEq d1 d2:=by unfold vm; rw [f1,f2]
   rw [e3]
   refine ih d1 d2 w1 w2 _ _ A.in1 (lR px _ (JQ f1)) (lR py _ (JQ f2)) ?_ g1 g2 r1 r2 (by rw [in1_units]; omega)
   rcases hdd with hdd | hdd
   ·exact .inl (List.all_eq_true.mp hdd d1 (JQ f1))
   ·exact .inr (List.all_eq_true.mp hdd d2 (JQ f2))
  by_cases hT:∃ xs ys,a=.tup xs/\b=.tup ys
  ·obtain⟨xs,ys,rfl,rfl⟩:=hT
   have da:=ha
   have db:=hb
   rw [cq] at ha hb
   obtain⟨p,vs,e,h1,h2⟩:=ha
   subst e
   obtain⟨p',vs',e,h1',h2'⟩:=hb
   subst e
   cases ru
   cases rv
   by_cases hp:p=p'
   ·subst hp
    have e:=Inv.den_inj I pa pb da db
    rw [e,nD]
    exact EqAt.same _
   ·obtain⟨its,rv1,ht,_⟩:=I.tuple (nL.of h1)
    obtain⟨its2,rv2,ht2,_⟩:=I.tuple (nL.of h1')
    refine EqAt.of_refs hp ?_
    have q:=RcAt.tuples (e:=vm xs ys) (show s.heap.IsTuple p its.toArray from ht) (show s.heap.IsTuple p' its2.toArray from ht2) hu (items xs ys vs vs' its its2 (by first | rw [<- cX]; exact pa | rw [<- dG]; exact pa) (by first | rw [<- cX]; exact pb | rw [<- dG]; exact pb) hd h2 h2' rv1 rv2)
    have z1:its.toArray.size=xs.length:=by rw [JA,<- rv1.length,<- h2.length]
    have z2:its2.toArray.size=ys.length:=by rw [JA,<- rv2.length,<- h2'.length]
    rw [z1,z2,fg] at q
    unfold pyEq
    exact q
  ·by_cases hL:∃ xs ys,a=.lst xs/\b=.lst ys
   ·obtain⟨xs,ys,rfl,rfl⟩:=hL
    have da:=ha
    have db:=hb
    rw [cu] at ha hb
    obtain⟨p,vs,e,h1,h2⟩:=ha
    subst e
    obtain⟨p',vs',e,h1',h2'⟩:=hb
    subst e
    cases ru
    cases rv
    by_cases hp:p=p'
    ·subst hp
     have e:=Inv.den_inj I pa pb da db
     rw [e,nD]
     exact EqAt.same _
    ·obtain⟨its,rv1,ht,_⟩:=I.list h1
     obtain⟨its2,rv2,ht2,_⟩:=I.list h1'
     refine EqAt.of_refs hp ?_
     have z1:its.toArray.size=xs.length:=by rw [JA,<- rv1.length,<- h2.length]
     have z2:its2.toArray.size=ys.length:=by rw [JA,<- rv2.length,<- h2'.length]
     have er:=fg xs ys
     by_cases hz:its.toArray.size=its2.toArray.size
     ·have q:=RcAt.lists (e:=vm xs ys) ht.isList ht2.isList hz hu (items xs ys vs vs' its its2 (by first | rw [<- cX]; exact pa | rw [<- dG]; exact pa) (by first | rw [<- cX]; exact pb | rw [<- dG]; exact pb) hd h2 h2' rv1 rv2)
      rw [z1] at q
      have hz':xs.length=ys.length:=by omega
      rw [<- hz',Kh] at er
      simp only [beq_self_eq_true,Ki] at er
      rw [er] at q
      unfold pyEq
      exact q
     ·have hne:(its.toArray.size != its2.toArray.size)=true:=by simpa using hz
      have q:=RcAt.lists_lengths (A:=A) ht.isList ht2.isList hne hu
      have hz':(xs.length==ys.length)=false:=by
       rw [z1,z2] at hz
       simpa using hz
      rw [hz',JX] at er
      unfold pyEq
      rw [<- er]
      exact q
   ·exact flatWay (fun xs ys z=>hT ⟨xs,ys,z⟩) fun xs ys z=>hL ⟨xs,ys,z⟩
end
end TG
namespace TG
open PySem PySem.Spec L2
variable [aM]
open PySem.SeqAt (EqAt RcAt RcNeAt)

section
variable {X:Cx} {pins:List (MP×Obj)} {σ:St} {H:Hp} {s:MX}
theorem oj (I:Inv X pins σ H s) {n:Nat} {xs ys:List D} {vs vs':List V} {its its':List MM} {A:MV} (px:tV xs=true) (py:tV ys=true) (hdd:gf (n+1) (.tup xs)=true\/gf (n+1) (.tup ys)=true) (hx:aL X.K H xs vs) (hy:aL X.K H ys vs') (rx:Vals vs its) (ry:Vals vs' its') (hA:A.units+n < Np) :
  ∀ j (h1:j < its.toArray.size) (h2:j < its'.toArray.size),EqAt A s its.toArray[j] its'.toArray[j] (vm xs ys j):=by
 intro j h1 h2
 obtain⟨w1,e1,r1⟩:=ox rx h1
 obtain⟨w2,e2,r2⟩:=ox ry h2
 obtain⟨d1,f1,g1⟩:=oq hx e1
 obtain⟨d2,f2,g2⟩:=oq hy e2
 have e3:vm xs ys j=pyEq d1 d2:=by unfold vm; rw [f1,f2]
 rw [e3]
 refine CJ I n d1 d2 w1 w2 _ _ A (lR px _ (JQ f1)) (lR py _ (JQ f2)) ?_ g1 g2 r1 r2 hA
 rcases hdd with hdd | hdd
 ·exact .inl (List.all_eq_true.mp hdd d1 (JQ f1))
 ·exact .inr (List.all_eq_true.mp hdd d2 (JQ f2))
inductive Way (I:Inv X pins σ H s):D->MM->Prop where
 | non:Way I .non .none
 | bl (b:Bool):Way I (.bl b) (.bool b)
 | int (i:Int) (t:Tok):Way I (.int i) (.int i t)
 | str (x:Str) (t:Tok):Way I (.str x) (.str x t)
 | tup {xs:List D} {p:MP} {vs:List V} {its:List MM} (h:aL X.K H xs vs) (r:Vals vs its) (t:s.heap.IsTuple p its.toArray):Way I (.tup xs) (.ref p)
 | lst {xs:List D} {p:MP} {vs:List V} {its:List MM} (h:aL X.K H xs vs) (r:Vals vs its) (t:s.heap.IsList p its.toArray):Way I (.lst xs) (.ref p)
def top:D->Bool
 | .dct _ _=>false
 | .obj _ _ _=>false
 | .exc _ _ _=>false
 | _=>true
theorem eF {d:D} (h:pl d=true):top d=true:=by
 cases d with
 | dct _ _=>exact(e9 h).elim
 | obj _ _ _=>exact(eZ h).elim
 | exc _ _ _=>exact(eW h).elim
 | _=>rfl
theorem dU (I:Inv X pins σ H s) {d:D} {v:V} {u:MM} (pd:top d=true) (h:cm X.K H d v) (r:RelV v u):Way I d u:=by
 cases d with
 | non=>rw [jd] at h; subst h; cases r; exact .non
 | bl b=>rw [jO] at h; subst h; cases r; exact .bl b
 | int i=>rw [eB] at h; subst h; obtain⟨t,rfl⟩:=r; exact .int i t
 | str x=>rw [dJ] at h; subst h; obtain⟨t,rfl⟩:=r; exact .str x t
 | tup xs =>
  rw [cq] at h
  obtain⟨p,vs,e,h1,h2⟩:=h
  subst e
  cases r
  obtain⟨its,rv,ht,_⟩:=I.tuple (nL.of h1)
  exact .tup h2 rv ht
 | lst xs =>
  rw [cu] at h
  obtain⟨p,vs,e,h1,h2⟩:=h
  subst e
  cases r
  obtain⟨its,rv,ht,_⟩:=I.list h1
  exact .lst h2 rv ht.isList
 | dct _ _=>cases pd
 | obj _ _ _=>cases pd
 | exc _ _ _=>cases pd
theorem Dz (I:Inv X pins σ H s) {n:Nat} {a b:D} {x y:V} {u v:MM} {A:MV} (pa:pl a=true) (pb:pl b=true) (hd:gf (n+1) a=true\/gf (n+1) b=true) (ha:cm X.K H a x) (hb:cm X.K H b y) (ru:RelV x u) (rv:RelV y v) (hA:A.units+n+1 < Np):RcAt A s u v (pyEq a b):=by
 have hu:A.units < Np:=by omega
 cases dU I (eF pa) ha ru with
 | non=>cases dU I (eF pb) hb rv with
  | non=>unfold pyEq; exact .none_none
  | bl b=>unfold pyEq; exact .none_bool b
  | int i t=>unfold pyEq; exact .none_int i t
  | str x t=>unfold pyEq; exact .none_str x t
  | tup h r t=>unfold pyEq; exact .none_tuple t hu
  | lst h r t=>unfold pyEq; exact .none_list t hu
 | bl z=>cases dU I (eF pb) hb rv with
  | non=>unfold pyEq; exact .bool_none z
  | bl b=>unfold pyEq; exact .bool_bool z b
  | int i t=>unfold pyEq; exact .bool_int z i t
  | str x t=>unfold pyEq; exact .bool_str z x t
  | tup h r t=>unfold pyEq; exact .bool_tuple z t hu
  | lst h r t=>unfold pyEq; exact .bool_list z t hu
 | int z tz=>cases dU I (eF pb) hb rv with
  | non=>unfold pyEq; exact .int_none z tz
  | bl b=>unfold pyEq; exact .int_bool z tz b
  | int i t=>unfold pyEq; exact .int_int z tz i t
  | str x t=>unfold pyEq; exact .int_str z tz x t
  | tup h r t=>unfold pyEq; exact .int_tuple z tz t hu
  | lst h r t=>unfold pyEq; exact .int_list z tz t hu
 | str z tz=>cases dU I (eF pb) hb rv with
  | non=>unfold pyEq; exact .str_none z tz
  | bl b=>unfold pyEq; exact .str_bool z tz b
  | int i t=>unfold pyEq; exact .str_int z tz i t
  | str x t=>unfold pyEq; exact .str_str z tz x t
  | tup h r t=>unfold pyEq; exact .str_tuple z tz t hu
  | lst h r t=>unfold pyEq; exact .str_list z tz t hu
 | @tup xs p vs its h1 r1 t1=>cases dU I (eF pb) hb rv with
  | non=>unfold pyEq; exact .tuple_none t1 hu
  | bl b=>unfold pyEq; exact .tuple_bool b t1 hu
  | int i t=>unfold pyEq; exact .tuple_int i t t1 hu
  | str x t=>unfold pyEq; exact .tuple_str x t t1 hu
  | @tup ys p' vs' its' h2 r2 t2 =>
   have q:=RcAt.tuples (e:=vm xs ys) t1 t2 hu (oj (A:=A.in1) I (by first | rw [<- cX]; exact pa | rw [<- dG]; exact pa) (by first | rw [<- cX]; exact pb | rw [<- dG]; exact pb) hd h1 h2 r1 r2 (by rw [in1_units]; omega))
   have z1:its.toArray.size=xs.length:=by rw [JA,<- r1.length,<- h1.length]
   have z2:its'.toArray.size=ys.length:=by rw [JA,<- r2.length,<- h2.length]
   rw [z1,z2,fg] at q
   unfold pyEq; exact q
  | lst h r t=>unfold pyEq; exact .tuple_list t1 t hu
 | @lst xs p vs its h1 r1 t1=>cases dU I (eF pb) hb rv with
  | non=>unfold pyEq; exact .list_none t1 hu
  | bl b=>unfold pyEq; exact .list_bool b t1 hu
  | int i t=>unfold pyEq; exact .list_int i t t1 hu
  | str x t=>unfold pyEq; exact .list_str x t t1 hu
  | tup h r t=>unfold pyEq; exact .list_tuple t1 t hu
  | @lst ys p' vs' its' h2 r2 t2 =>
   have z1:its.toArray.size=xs.length:=by rw [JA,<- r1.length,<- h1.length]
   have z2:its'.toArray.size=ys.length:=by rw [JA,<- r2.length,<- h2.length]
   have er:=fg xs ys
   by_cases hz:its.toArray.size=its'.toArray.size
   ·have q:=RcAt.lists (e:=vm xs ys) t1 t2 hz hu (oj (A:=A.in1) I (by first | rw [<- cX]; exact pa | rw [<- dG]; exact pa) (by first | rw [<- cX]; exact pb | rw [<- dG]; exact pb) hd h1 h2 r1 r2 (by rw [in1_units]; omega))
    rw [z1] at q
    have hz':xs.length=ys.length:=by omega
    rw [<- hz',Kh] at er
    simp only [beq_self_eq_true,Ki] at er
    rw [er] at q
    unfold pyEq; exact q
   ·have q:=RcAt.lists_lengths (A:=A) t1 t2 (by simpa using hz) hu
    have hz':(xs.length==ys.length)=false:=by
     rw [z1,z2] at hz
     simpa using hz
    rw [hz',JX] at er
    unfold pyEq
    rw [<- er]; exact q
theorem zO (I:Inv X pins σ H s) {n:Nat} {a b:D} {x y:V} {u v:MM} {A:MV} (pa:pl a=true) (pb:pl b=true) (hd:gf (n+1) a=true\/gf (n+1) b=true) (ha:cm X.K H a x) (hb:cm X.K H b y) (ru:RelV x u) (rv:RelV y v) (hA:A.units+n+1 < Np):RcNeAt A s u v (!pyEq a b):=by
 have hu:A.units < Np:=by omega
 cases dU I (eF pa) ha ru with
 | non=>cases dU I (eF pb) hb rv with
  | non=>unfold pyEq; exact .none_none
  | bl b=>unfold pyEq; exact .none_bool b
  | int i t=>unfold pyEq; exact .none_int i t
  | str x t=>unfold pyEq; exact .none_str x t
  | tup h r t=>unfold pyEq; exact .none_tuple t hu
  | lst h r t=>unfold pyEq; exact .none_list t hu
 | bl z=>cases dU I (eF pb) hb rv with
  | non=>unfold pyEq; exact .bool_none z
  | bl b=>unfold pyEq; exact .bool_bool z b
  | int i t=>unfold pyEq; exact .bool_int z i t
  | str x t=>unfold pyEq; exact .bool_str z x t
  | tup h r t=>unfold pyEq; exact .bool_tuple z t hu
  | lst h r t=>unfold pyEq; exact .bool_list z t hu
 | int z tz=>cases dU I (eF pb) hb rv with
  | non=>unfold pyEq; exact .int_none z tz
  | bl b=>unfold pyEq; exact .int_bool z tz b
  | int i t=>unfold pyEq; exact .int_int z tz i t
  | str x t=>unfold pyEq; exact .int_str z tz x t
  | tup h r t=>unfold pyEq; exact .int_tuple z tz t hu
  | lst h r t=>unfold pyEq; exact .int_list z tz t hu
 | str z tz=>cases dU I (eF pb) hb rv with
  | non=>unfold pyEq; exact .str_none z tz
  | bl b=>unfold pyEq; exact .str_bool z tz b
  | int i t=>unfold pyEq; exact .str_int z tz i t
  | str x t=>unfold pyEq; exact .str_str z tz x t
  | tup h r t=>unfold pyEq; exact .str_tuple z tz t hu
  | lst h r t=>unfold pyEq; exact .str_list z tz t hu
 | @tup xs p vs its h1 r1 t1=>cases dU I (eF pb) hb rv with
  | non=>unfold pyEq; exact .tuple_none t1 hu
  | bl b=>unfold pyEq; exact .tuple_bool b t1 hu
  | int i t=>unfold pyEq; exact .tuple_int i t t1 hu
  | str x t=>unfold pyEq; exact .tuple_str x t t1 hu
  | @tup ys p' vs' its' h2 r2 t2 =>
   have q:=RcNeAt.tuples (e:=vm xs ys) t1 t2 hu (oj (A:=A.in1) I (by first | rw [<- cX]; exact pa | rw [<- dG]; exact pa) (by first | rw [<- cX]; exact pb | rw [<- dG]; exact pb) hd h1 h2 r1 r2 (by rw [in1_units]; omega))
   have z1:its.toArray.size=xs.length:=by rw [JA,<- r1.length,<- h1.length]
   have z2:its'.toArray.size=ys.length:=by rw [JA,<- r2.length,<- h2.length]
   rw [z1,z2,fg] at q
   unfold pyEq; exact q
  | lst h r t=>unfold pyEq; exact .tuple_list t1 t hu
 | @lst xs p vs its h1 r1 t1=>cases dU I (eF pb) hb rv with
  | non=>unfold pyEq; exact .list_none t1 hu
  | bl b=>unfold pyEq; exact .list_bool b t1 hu
  | int i t=>unfold pyEq; exact .list_int i t t1 hu
  | str x t=>unfold pyEq; exact .list_str x t t1 hu
  | tup h r t=>unfold pyEq; exact .list_tuple t1 t hu
  | @lst ys p' vs' its' h2 r2 t2 =>
   have z1:its.toArray.size=xs.length:=by rw [JA,<- r1.length,<- h1.length]
   have z2:its'.toArray.size=ys.length:=by rw [JA,<- r2.length,<- h2.length]
   have er:=fg xs ys
   by_cases hz:its.toArray.size=its'.toArray.size
   ·have q:=RcNeAt.lists (e:=vm xs ys) t1 t2 hz hu (oj (A:=A.in1) I (by first | rw [<- cX]; exact pa | rw [<- dG]; exact pa) (by first | rw [<- cX]; exact pb | rw [<- dG]; exact pb) hd h1 h2 r1 r2 (by rw [in1_units]; omega))
    rw [z1] at q
    have hz':xs.length=ys.length:=by omega
    rw [<- hz',Kh] at er
    simp only [beq_self_eq_true,Ki] at er
    rw [er] at q
    unfold pyEq; exact q
   ·have q:=RcNeAt.lists_lengths (A:=A) t1 t2 (by simpa using hz) hu
    have hz':(xs.length==ys.length)=false:=by
     rw [z1,z2] at hz
     simpa using hz
    rw [hz',JX] at er
    unfold pyEq
    rw [<- er]; exact q
end

section
variable {X:Cx}
def rD (K:LQ) (g:D->D->Option D):R2:=fun x y H Q=>∃ O a b d,dg H O/\cm K (hid H O) a x/\cm K (hid H O) b y/\g a b=some d/\∀ v H',aX H H'->cm K (hid H' O) d v->Q v H'
theorem au {K:LQ} {g:D->D->Option D}:dm K (rD K g) g:=fun a b d x y O H Q hO hg ha hb q=>⟨O,a,b,d,hO,ha,hb,hg,q⟩
theorem tG {f : MM -> MM -> Sem MM} {g : D -> D -> Option D} (h : ∀ (pins : List (MP × Obj)) (s : MX) (σ : St) (H : Hp) (a b d : D) (x y : V) (u v : MM), Inv X pins σ H s -> cm X.K H a x -> cm X.K H b y -> RelV x u -> RelV y v -> g a b = some d ->
      ∃ c,d=.bl c/\∀ (Q:MM->MX->Prop),Q (.bool c) s->MZ (model X.prog X.w) X.A (f u v) Q X.xe s):kU X f (rD X.K g):=by
  intro pins s σ H x y u v Q I rx ry ⟨O,a,b,d,hO,ha,hb,hg,q⟩
  obtain⟨c,rfl,hq⟩:=h pins s σ H a b d x y u v I (ha.mono (aE H O)) (hb.mono (aE H O)) rx ry hg
  exact hq _ ⟨.bl c,H,I,rfl,q _ H (aX.refl H) (jO.mpr rfl)⟩
def lA (a b:D):Option D:=if (pl a && pl b) && (gf 8 a || gf 8 b) then some (.bl (pyEq a b)) else none
def uY (a b:D):Option D:=if (pl a && pl b) && (gf 8 a || gf 8 b) then some (.bl (!pyEq a b)) else none
theorem fu (hu:X.A.units+64 < Np):kU X (Ng .Eq) (rD X.K lA):=tG fun pins s σ H a b d x y u v I ha hb ru rv hg=>by
 obtain⟨h1,h2⟩:=bv hg
 subst h2
 rw [JU,JU,Kj] at h1
 exact⟨_,rfl,fun Q q=>Dz (n:=7) (A:=X.A) I h1.1.1 h1.1.2 h1.2 ha hb ru rv ‹0› X.prog X.w X.xe Q q⟩
theorem sA (hu:X.A.units+64 < Np):kU X (Ng .NotEq) (rD X.K uY):=tG fun pins s σ H a b d x y u v I ha hb ru rv hg=>by
 obtain⟨h1,h2⟩:=bv hg
 subst h2
 rw [JU,JU,Kj] at h1
 exact⟨_,rfl,fun Q q=>zO (n:=7) (A:=X.A) I h1.1.1 h1.1.2 h1.2 ha hb ru rv ‹0› X.prog X.w X.xe Q q⟩

def Dl (p:Int->Int->D) (a b:D):Option D:=match a,b with
 | .int i,.int j=>some (p i j)
 | _,_=>none
def Je:=Dl fun i j=>.bl (decide (i < j))
def Jb:=Dl fun i j=>.bl (decide (i<=j))
def Ja:=Dl fun i j=>.bl (decide (j < i))
def Jf:=Dl fun i j=>.bl (decide (j<=i))
theorem o7 {K:LQ} {g:Int->Int->Int}:dm K (BI fun i j=>.int (g i j)) (Dl fun i j=>.int (g i j)):=fun a b d x y O H Q hO hg ha hb q=>by
 cases a with
 | int i =>
  cases b with
  | int j=>cases hg; exact⟨i,j,eB.mp ha,eB.mp hb,q _ H (aX.refl H) (eB.mpr rfl)⟩
  | _=>cases hg
 | _=>cases hg
def D9 (c:Int->Int->Bool) (p:Int->Int->Int) (a b:D):Option D:=match a,b with
 | .int i,.int j=>if c i j then some (.int (p i j)) else none
 | _,_=>none
theorem il {K:LQ} {C:Int->Int->Prop} {c:Int->Int->Bool} {g:Int->Int->Int} (hc:∀ i j,c i j=true->C i j):dm K (rI C fun i j=>.int (g i j)) (D9 c g):=fun a b d x y O H Q hO hg ha hb q=>by
 cases a with
 | int i =>
  cases b with
  | int j =>
   obtain⟨h1,h2⟩:=bv hg
   subst h2
   exact⟨i,j,eB.mp ha,eB.mp hb,hc i j h1,q _ H (aX.refl H) (eB.mpr rfl)⟩
  | _=>cases hg
 | _=>cases hg
def vX:=Dl fun i j=>.int (i - j)
def lw:=D9 (fun i j=>decide ((-(2 ^ 64) < i/\i < 2 ^ 64)\/(-(2 ^ 64) < j/\j < 2 ^ 64))) (·*·)
def Ce (_ j:Int):Prop:=0 < j/\j < 10 ^ 200
theorem aW:kU X (Nf .FloorDiv) (rI Ce fun i j=>.int (i / j)):=EX fun i j _ _ _ _ _ hc q=>by
 have h1:(0:Int) < j:=hc.1
 have h2:j < 10 ^ 200:=hc.2
 refine PyProof.Rows.floordiv_int ‹0› (by rw [Jz i ‹0›]; exact q) (.inl (PyProof.noPylong_of_log2 ?_))
 have h3:j.natAbs < 10 ^ 200:=by omega
 rw [Nat.log2_lt ‹0›]
 exact J2 h3 (by decide +kernel)
def cN:=D9 (fun _ j=>decide (0 < j/\j < 10 ^ 200)) (· / ·)
def bK:=D9 (fun _ j=>decide (0 < j)) (·%·)
def nX:=D9 (fun i j=>decide (0<=j/\j<=1000000/\i.natAbs < 2 ^ 64)) fun i j=>i ^ j.toNat
theorem mY {K:LQ}:dm K (BI fun i j=>.int (i - j)) vX:=o7
theorem h7 {K:LQ}:dm K (rI CC fun i j=>.int (i*j)) lw:=il fun i j h=>by have q:=of_decide_eq_true h; exact q
theorem bD {K:LQ}:dm K (rI Ce fun i j=>.int (i / j)) cN:=il fun i j h=>by have q:=of_decide_eq_true h; exact q
theorem aZ {K:LQ}:dm K (rI (fun _ j=>0 < j) fun i j=>.int (i%j)) bK:=il fun _ _ h=>of_decide_eq_true h
theorem mz {K:LQ}:dm K (rI Ei fun i j=>.int (i ^ j.toNat)) nX:=il fun i j h=>by have q:=of_decide_eq_true h; exact q
def Ez (K:LQ):R2:=fun x y H Q=>∃ l b xs zs,x=.ref l/\y=.ref b/\lU K H l xs/\lU K H b zs/\xs.length+zs.length<=MS/\∀ p,H p=none->Q (.ref p) (upd H p (.lst (xs++zs)))
theorem AK:kU X (Nf .Add) (Ez X.K):=by
 intro pins s σ H x y v u Q I rx ry h
 obtain⟨l,b,xs,zs,rfl,rfl,hH,hB,hz,q⟩:=h
 cases rx
 cases ry
 obtain⟨its,r,t1,_⟩:=I.list hH
 obtain⟨its2,r2,t2,_⟩:=I.list hB
 obtain⟨⟨c1,d1,dt1,sl1⟩,n1,ho,hc,hd,hdt⟩:=t1
 obtain⟨⟨c2,d2,dt2,sl2⟩,n2,ho2,hc2,hd2,hdt2⟩:=t2
 simp only at hc hd hdt hc2 hd2 hdt2
 subst hc hd hdt hc2 hd2 hdt2
 have z1:=r.length
 have z2:=r2.length
 refine Nw ⟨_,ho,rfl⟩ ⟨_,ho2,rfl⟩ noFill_list_add seq_list_add F.slot_list_add F.entry_list_add (F.args_list_add_2 _ _) (PyProof.Rows.list_addW l b its.toArray its2.toArray n1 n2 none none sl1 sl2 (by rw [JA,JA]; omega)) ⟨ho,ho2,?_⟩
 have ea:its.toArray++its2.toArray=(its++its2).toArray:=by simp
 rw [ea]
 exact⟨.ref _,_,I.lnew (t':=s.toks) (r.append r2) (by rw [JR]; omega),rfl,q _ I.fresh⟩
def CH (K:LQ):R2:=fun x y H Q=>∃ a b xs ys,x=.ref a/\y=.ref b/\nL K H a xs/\nL K H b ys/\xs.length+ys.length<=MS /\
 (xs=[]->Q (.ref b) H)/\(xs≠[]->ys=[]->Q (.ref a) H)/\(xs≠[]->ys≠[]->∀ p,H p=none->Q (.ref p) (upd H p (.tup (xs++ys))))
theorem AB:kU X (Nf .Add) (CH X.K):=by
 intro pins s σ H x y v u Q I rx ry h
 obtain⟨a,b,xs,ys,ex,ey,ha,hb,hz,q0,q1,q2⟩:=h
 by_cases hx:xs=[]
 ·subst ex ey
  cases rx
  cases ry
  obtain⟨its,r1,p1,_⟩:=I.tuple ha
  obtain⟨its2,r2,p2,_⟩:=I.tuple hb
  obtain⟨⟨cls,dd,data,sl⟩,ho,hc,n,hd⟩:=id p1
  obtain⟨⟨cls2,dd2,data2,sl2⟩,ho2,hc2,n2,hd2⟩:=id p2
  simp only at hc hd hc2 hd2
  subst hc hd hc2 hd2
  have e:its=[]:=r1.nil_iff.mpr hx
  exact Nw ⟨_,ho,rfl⟩ ⟨_,ho2,rfl⟩ Nx Ny F.slot_tuple_add F.entry_tuple_add (F.args_tuple_add_2 _ _)
   (PyProof.Rows.tuple_addW0 a b its.toArray its2.toArray n n2 dd dd2 sl sl2 (by rw [e]; rfl)) ⟨ho,ho2,⟨.ref b,H,I,rfl,q0 hx⟩⟩
 ·exact AX pins s σ H x y v u Q I rx ry ⟨a,b,xs,ys,ex,ey,ha,hb,hx,hz,q1 hx,q2 hx⟩
def cp (a b:D):Option D:=match a,b with
 | .int i,.int j=>some (.int (i+j))
 | .str x,.str y=>if small (x.length+y.length) then some (.str (x++y)) else none
 | .lst xs,.lst ys=>if small (xs.length+ys.length) then some (.lst (xs++ys)) else none
 | .tup xs,.tup ys=>if small (xs.length+ys.length) then some (.tup (xs++ys)) else none
 | _,_=>none
theorem bh:kU X (Nf .Add) (rD X.K cp):=by
 intro pins s σ H x y u v Q I rx ry ⟨O,a,b,d,hO,ha,hb,hg,q⟩
 cases a with
 | int i =>
  cases b with
  | int j =>
   cases hg
   exact Dd pins s σ H x y u v Q I rx ry ⟨i,j,eB.mp ha,eB.mp hb,q _ H (aX.refl H) (eB.mpr rfl)⟩
  | _=>cases hg
 | str i =>
  cases b with
  | str j =>
   obtain⟨h1,h2⟩:=bv hg
   subst h2
   exact vk pins s σ H x y u v Q I rx ry ⟨i,j,dJ.mp ha,dJ.mp hb,cT h1,q _ H (aX.refl H) (dJ.mpr rfl)⟩
  | _=>cases hg
 | lst xs =>
  cases b with
  | lst ys =>
   obtain⟨h1,h2⟩:=bv hg
   subst h2
   rw [cu] at ha hb
   obtain⟨p,vs,ex,g1,g2⟩:=ha
   obtain⟨p',vs',ey,g1',g2'⟩:=hb
   refine AK pins s σ H x y u v Q I rx ry ⟨p,p',vs,vs',ex,ey,(aE H O).seq g1,(aE H O).seq g1',?_,fun r hr=>?_⟩
   ·rw [<- g2.length,<- g2'.length]; exact cT h1
   ·exact q _ _ (bC hr _) (d5 hO hr (g2.append g2'))
  | _=>cases hg
 | tup xs =>
  cases b with
  | tup ys =>
   obtain⟨h1,h2⟩:=bv hg
   subst h2
   have da:=ha
   have db:=hb
   rw [cq] at ha hb
   obtain⟨p,vs,ex,g1,g2⟩:=ha
   obtain⟨p',vs',ey,g1',g2'⟩:=hb
   have l1:=g2.length
   have l2:=g2'.length
   refine AB pins s σ H x y u v Q I rx ry ⟨p,p',vs,vs',ex,ey,bM (aE H O) g1,bM (aE H O) g1',?_,fun z=>?_,fun z z'=>?_,fun z z' r hr=>?_⟩
   ·rw [<- l1,<- l2]; exact cT h1
   ·have e:xs=[]:=List.length_eq_zero_iff.mp (by rw [l1,z]; rfl)
    rw [<- ey]
    refine q _ H (aX.refl H) ?_
    rw [e,Kk]; exact db
   ·have e:ys=[]:=List.length_eq_zero_iff.mp (by rw [l2,z']; rfl)
    rw [<- ex]
    refine q _ H (aX.refl H) ?_
    rw [e,JH]; exact da
   ·exact q _ _ (bC hr _) (dA hO hr (g2.append g2'))
  | _=>cases hg
 | _=>cases hg

def bL (a b:D):Option D:=match a,b with
 | .tup xs,.int i=>nw xs i
 | .lst xs,.int i=>nw xs i
 | .str x,.int i=>if small x.length then (nw x.cps.toList i).bind fun c=>some (.str ⟨#[c]⟩) else none
 | _,_=>none
theorem xj {K:LQ} {H:Hp} {ds:List D} {vs:List V} {i:Int} {d:D} (h:aL K H ds vs) (e:nw ds i=some d):∃ v,nw vs i=some v/\cm K H d v:=by
 unfold nw at e ⊢
 obtain⟨j,e1,e2⟩:=bind_some e
 rw [<- h.length,e1]
 exact h.get e2
theorem GU:Ff X (rD X.K bL):=by
 intro value slice pins s σ H x y u v Q I rx ry ⟨O,a,b,d,hO,ha,hb,hg,q⟩ hsub
 cases a with
 | tup xs =>
  cases b with
  | int i =>
   rw [cq] at ha
   obtain⟨p,vs,ex,g1,g2⟩:=ha
   obtain⟨w,e1,e2⟩:=xj g2 hg
   refine DJ value slice pins s σ H x y u v Q I rx ry ?_ hsub; exact⟨p,vs,i,w,ex,eB.mp hb,bM (aE H O) g1,e1,q w H (aX.refl H) e2⟩
  | _=>cases hg
 | lst xs =>
  cases b with
  | int i =>
   rw [cu] at ha
   obtain⟨p,vs,ex,g1,g2⟩:=ha
   obtain⟨w,e1,e2⟩:=xj g2 hg
   refine BJ value slice pins s σ H x y u v Q I rx ry ?_ hsub; exact⟨p,vs,i,w,ex,eB.mp hb,(aE H O).seq g1,e1,q w H (aX.refl H) e2⟩
  | _=>cases hg
 | str z =>
  cases b with
  | int i =>
   have hg':(if small z.length then (nw z.cps.toList i).bind fun c=>some (D.str ⟨#[c]⟩) else none)=some d:=hg
   cases hs:small z.length with
   | false=>rw [hs] at hg'; cases hg'
   | true =>
    rw [hs] at hg'
    obtain⟨c,e1,e2⟩:=bind_some hg'
    cases e2
    refine Di value slice pins s σ H x y u v Q I rx ry ?_ hsub; exact⟨z,i,c,dJ.mp ha,eB.mp hb,cT hs,e1,q _ H (aX.refl H) (dJ.mpr rfl)⟩
  | _=>cases hg
 | _=>cases hg
theorem IG {a b:M0} {fa fb:FX} {pos:Pos} (ha:FE X a fa) (hb:FE X b fb) (hs:sf b):FE X (.Subscript a b pos) (f2 bL fa fb) :=
 PE.weak (Eh GU ha hb hs) (sE au)

def cutD {α:Type} (xs:List α) (lo hi:Option Int):List α:=(xs.drop (HT.sIx xs.length 0 lo)).take (HT.sIx xs.length xs.length hi - HT.sIx xs.length 0 lo)
theorem qe {M:Model} {A:MV} {E:MM->MX->Prop} {s:MX} {t:MP} {items:Array MM} {Q:Bool->MX->Prop} (ht:Mz s.heap t items) (h:Q true s):MZ M A (Builtin.Tuple.tupleIsExact (.ref t)) Q E s:=by
 unfold Builtin.Tuple.tupleIsExact
 refine M7 (NE ht.typeIs ?_)
 exact M6 h
theorem kS {prog:MO} {w:MN} {A:MV} {E:MM->MX->Prop} {s:MX} {t sl:MP} {items:Array MM} {vl vu:MM} {lo hi:Option Int} {Q:MM->MX->Prop} (ht:Mz s.heap t items) (hs:s.heap.IsSliceOf sl vl vu .none) (pl:Nz vl lo) (pu:Nz vu hi)
  (hw:HT.sIx items.size 0 lo=0/\HT.sIx items.size items.size hi=items.size) (h:Q (.ref t) s):MZ (model prog w) A (getItem (.ref t) (.ref sl)) Q E s:=by
 obtain⟨os,hos,hcs,hds⟩:=id hs
 have hTs:s.TypeIs (.ref sl) "slice":=⟨os,hos,hcs⟩
 unfold getItem
 try with_reducible refine NB ?_
 first | refine M7 (M6 ?_) | skip
 refine M7 (wpAny_sequenceKey ht.typeIs (by decide) ?_)
 refine M7 (NC (name:=Str.ofString "__getitem__") ht.typeIs Mx
  (ND Mx ht.typeIs PyProof.Rows.entry_tuple_getitem ?_ (PyProof.Rows.args_tuple_getitem _ _)))
 show MZ _ _ (Builtin.Tuple.tupleItemsOf (.ref t) >>= _) _ _ s
 refine M7 (PyProof.Rows.tupleItemsOf_ ht ?_)
 refine M7 (NE hTs ?_)
 rw [if_pos (by decide)]
 refine M7 (HT.nc hs pl pu ?_)
 have hyes:(((HT.sIx items.size 0 lo:Nat):Int)==0 && (1:Int)==1 && (HT.sIx items.size items.size hi - HT.sIx items.size 0 lo)==items.size)=true:=by
  rw [hw.1,hw.2]
  simp
 show MZ _ _ (if (((HT.sIx items.size 0 lo:Nat):Int)==0 && (1:Int)==1 && (HT.sIx items.size items.size hi - HT.sIx items.size 0 lo)==items.size)=true then _ else _) _ _ s
 rw [if_pos hyes]
 refine M7 (qe ht ?_)
 rw [if_pos rfl]
 first
  | exact M7 (NN (M6 ⟨_,rfl,M6 h⟩))
  | exact M7 (NN (M7 (M6 (M6 ⟨_,rfl,M6 h⟩))))
def oI (a:D) (lo hi:Option Int):Option D:=match a with
 | .lst xs=>some (.lst (cutD xs lo hi))
 | .tup xs=>some (.tup (cutD xs lo hi))
 | .str x=>if small x.length then some (.str ⟨(cutD x.cps.toList lo hi).toArray⟩) else none
 | _=>none
theorem Cm (v:Option Int) (d n:Nat) (hd:d<=n):(match v with | none=>(d:Int) | some i=>if (1:Int) > 0 then max 0 (min (if i < 0 then i+(n:Int) else i) (n:Int)) else max (-1) (min (if i < 0 then i+(n:Int) else i) ((n:Int) - 1)))=((HT.sIx n d v:Nat):Int):=by
 cases v with
 | none=>rfl
 | some i =>
  show (if (1:Int) > 0 then max 0 (min (if i < 0 then i+(n:Int) else i) (n:Int)) else max (-1) (min (if i < 0 then i+(n:Int) else i) ((n:Int) - 1)))=(((if i < 0 then (i+(n:Int)).toNat else min i.toNat n):Nat):Int)
  rw [if_pos (by decide)]
  by_cases h:i < 0
  ·rw [if_pos h,if_pos h]; omega
  ·rw [if_neg h,if_neg h]; omega
theorem zJ (lo hi:Option Int) (n:Nat):Builtin.Str.strSliceIndices lo hi 1 n=(List.range (HT.sIx n n hi - HT.sIx n 0 lo)).map fun k=>HT.sIx n 0 lo+k:=by
 have e1:=Cm lo 0 n (JG _)
 have e2:=Cm hi n n (Jw _)
 have e:Builtin.Str.strSliceIndices lo hi 1 n=sliceRange ((HT.sIx n 0 lo:Nat):Int) ((HT.sIx n n hi:Nat):Int) 1:=by
  rw [<- e1,<- e2]
  cases lo <;> cases hi <;> rfl
 rw [e]
 unfold sliceRange
 dsimp only
 rw [if_pos (by decide:(1:Int) > 0)]
 have e3:(if ((HT.sIx n 0 lo:Nat):Int) < ((HT.sIx n n hi:Nat):Int) then (((HT.sIx n n hi:Nat):Int) - ((HT.sIx n 0 lo:Nat):Int)+1 - 1) / 1 else 0:Int).toNat=HT.sIx n n hi - HT.sIx n 0 lo:=by
  rw [Int.ediv_one]
  split <;> omega
 rw [e3]
 refine Kl fun k _=>?_
 omega
theorem zg {α:Type} (l:List α) (a:Nat):∀ n:Nat,((List.range n).map fun k=>a+k).filterMap (fun i=>l[i]?)=(l.drop a).take n
 | 0=>by simp
 | n+1=>by
  rw [List.range_succ,Km,List.filterMap_append,zg l a n,List.take_add_one,List.getElem?_drop]
  cases e:l[a+n]? <;> simp [e]
theorem yp (x:Str) (lo hi:Option Int):Txt.slice x lo hi=⟨(cutD x.cps.toList lo hi).toArray⟩:=by
 have hl:x.cps.toList.length=x.length:=by simp [Str.length]
 have pick:(Builtin.Str.strSliceIndices lo hi 1 x.length).filterMap (x.cps[·]?)=cutD x.cps.toList lo hi:=by
  rw [zJ]
  have q:=zg x.cps.toList (HT.sIx x.length 0 lo) (HT.sIx x.length x.length hi - HT.sIx x.length 0 lo)
  unfold cutD
  rw [hl,<- q]
  congr 1
  funext i
  simp
 unfold Txt.slice
 split
 ·rename_i h
  have h':(Builtin.Str.strSliceIndices lo hi 1 x.length).length=x.length:=by simpa using h
  rw [zJ,JE,Kn] at h'
  have h1:=HT.C6 x.length x.length (Jw _) hi
  have z1:HT.sIx x.length 0 lo=0\/x.length=0:=by omega
  have e:cutD x.cps.toList lo hi=x.cps.toList:=by
   unfold cutD
   rw [hl,h']
   rcases z1 with z1 | z1
   ·rw [z1,Kc,<- hl,Ko]
   ·have:x.cps.toList=[]:=List.length_eq_zero_iff.mp (by rw [hl]; exact z1)
    rw [this]; simp
  rw [e]
 ·rw [pick]
def GN (K:LQ):V->Option Int->Option Int->Hp->VK->Prop:=fun x lo hi H Q=>∃ O a d,dg H O/\cm K (hid H O) a x/\oI a lo hi=some d/\∀ v H',aX H H'->cm K (hid H' O) d v->Q v H'
theorem aL.cut {K:LQ} {H:Hp} {ds:List D} {vs:List V} (h:aL K H ds vs) (lo hi:Option Int):aL K H (cutD ds lo hi) (tZ vs lo hi):=by
 unfold cutD tZ
 rw [h.length]
 exact(h.drop _).take _
theorem Hj:Gq X (GN X.K):=by
 intro pins s σ H x v vl vu lo hi sl Q I rx hs pl pu ⟨O,a,d,hO,ha,hg,q⟩
 cases a with
 | lst xs =>
  cases hg
  rw [cu] at ha
  obtain⟨p,vs,ex,g1,g2⟩:=ha
  exact AY pins s σ H x v vl vu lo hi sl Q I rx hs pl pu ⟨p,vs,ex,(aE H O).seq g1,fun r hr=>q _ _ (bC hr _) (d5 hO hr (g2.cut lo hi))⟩
 | tup xs =>
  cases hg
  have da:=ha
  rw [cq] at ha
  obtain⟨p,vs,ex,g1,g2⟩:=ha
  by_cases hw:HT.sIx vs.length 0 lo=0/\HT.sIx vs.length vs.length hi=vs.length
  ·subst ex
   cases rx
   obtain⟨its,r,ht,hz⟩:=I.tuple (bM (aE H O) g1)
   have hlen:its.toArray.size=vs.length:=by rw [JA]; exact r.length.symm
   refine⟨"tuple",_,PyProof.Rows.slot_tuple_getitem.lookup,ht.typeIs,kS ht hs pl pu (by rw [hlen]; exact hw) ⟨.ref p,H,I,rfl,q _ H (aX.refl H) ?_⟩⟩
   have e:cutD xs lo hi=xs:=by
    unfold cutD
    rw [g2.length,hw.1,hw.2,Kp,Kc,<- g2.length,Ko]
   rw [e]; exact da
  ·exact CW pins s σ H x v vl vu lo hi sl Q I rx hs pl pu ⟨p,vs,ex,bM (aE H O) g1,hw,fun r hr=>q _ _ (bC hr _) (dA hO hr (g2.cut lo hi))⟩
 | str z =>
  obtain⟨h1,h2⟩:=bv hg
  subst h2
  rw [dJ] at ha
  subst ha
  obtain⟨t,rfl⟩:=rx
  have fin:∀ t' tk,EP X pins σ Q (.str (Txt.slice z lo hi) t') { s with toks:=tk }:=fun t' tk=>by
   rw [yp]
   exact⟨.str _,H,I.tok _,⟨_,rfl⟩,q _ H (aX.refl H) (dJ.mpr rfl)⟩
  obtain⟨os,hos,hcs,hds⟩:=id hs
  have hz:=cT h1
  refine⟨"str",_,F.slot_str_getitem.lookup,typeIs_str _ _ _,?_⟩
  cases pl with
  | none =>
   cases pu with
   | none=>exact NP (l:=none) (u:=none) (st:=none) ⟨os,hos,hcs,hds⟩ rfl (NQ ⟨Jn (Txt.slice_le z _ _) hz,fun t' k=>fin t' k⟩)
   | int j tj=>exact NP (l:=none) (u:=some (j,tj)) (st:=none) ⟨os,hos,hcs,hds⟩ rfl (NQ ⟨Jn (Txt.slice_le z _ _) hz,fun t' k=>fin t' k⟩)
  | int i ti =>
   cases pu with
   | none=>exact NP (l:=some (i,ti)) (u:=none) (st:=none) ⟨os,hos,hcs,hds⟩ rfl (NQ ⟨Jn (Txt.slice_le z _ _) hz,fun t' k=>fin t' k⟩)
   | int j tj=>exact NP (l:=some (i,ti)) (u:=some (j,tj)) (st:=none) ⟨os,hos,hcs,hds⟩ rfl (NQ ⟨Jn (Txt.slice_le z _ _) hz,fun t' k=>fin t' k⟩)
 | _=>cases hg
def bn:aq->R (Option Int):=fun _=>.ok none
def vg:D->Option (Option Int)
 | .int i=>some (some i)
 | _=>none
def cI (f:FX):aq->R (Option Int):=fun ρ=>(f ρ).bind fun d=>rO (vg d)
def Jc (X:Cx) (F:aq->R (Option Int)):TO:=fun σ H Q=>∃ O ρ,cQ X.K O H ρ σ/\gQ X σ O H (F ρ) fun o=>∀ H',aX H H'->Q o H'
def FO (X:Cx) (e:Option M0) (F:aq->R (Option Int)):Prop:=PO X e (Jc X F)
theorem Gy:FO X none bn:=fun pins s σ H Q I ⟨O,ρ,E,q⟩=>AJ pins s σ H Q I (q H (aX.refl H))
theorem Gd {e:M0} {f:FX} (h:FE X e f):FO X (some e) (cI f):=fun pins s σ H Q I ⟨O,ρ,E,hF⟩ =>
 BL h pins s σ H Q I ⟨O,ρ,E,(gQ.bind hF).imp fun d hF v H1 s1 d1=>by
  obtain⟨o,e,q⟩:=gQ.rO hF
  cases d with
  | int i =>
   cases e
   exact⟨i,eB.mp d1,q H1 s1⟩
  | _=>cases e⟩
def bJ (f:FX) (l h:aq->R (Option Int)):FX:=fun ρ=>(f ρ).bind fun a=>(l ρ).bind fun lo=>(h ρ).bind fun hi=>rO (oI a lo hi)
theorem Fv {e:M0} {f:FX} {l h:aq->R (Option Int)} {lo hi:Option M0} {p2 pos:Pos} (he:FE X e f) (hl:FO X lo l) (hh:FO X hi h):FE X (.Subscript e (.Slice lo hi none p2) pos) (bJ f l h) :=
 PE.weak (Ae Hj he hl hh) fun σ H Q ⟨O,ρ,E,hF⟩=>⟨O,ρ,E,(gQ.bind hF).imp fun a hF x H1 s1 d1=>⟨O,ρ,E.same s1,((gQ.bind hF).mono s1).imp fun lo' hF H2 s2=>⟨O,ρ,E.same (s1.trans s2),((gQ.bind hF).mono (s1.trans s2)).imp fun hi' hF H3 s3=>by
  obtain⟨d,e,q⟩:=gQ.rO hF
  exact⟨O,a,d,E.all.same ((s1.trans s2).trans s3),d1.mono (bx (s2.trans s3)),e,fun v H4 s4 d4=>q v H4 (((s1.trans s2).trans s3).trans s4) d4⟩⟩⟩⟩
end
end TG
namespace TG
open PySem PySem.Spec L2
variable [aM]

def we (K:LQ) (g:List D->Option D):List V->Hp->VK->Prop:=fun xs H Q=>∃ O ds d,dg H O/\aL K (hid H O) ds xs/\g ds=some d/\∀ v H',aX H H'->cm K (hid H' O) d v->Q v H'
theorem pc {K:LQ} {g:List D->Option D}:xl K (we K g) g:=fun ds d xs O H Q hO hg hd q=>⟨O,ds,d,hO,hd,hg,q⟩
section
variable {X:Cx} {x:Str} {p pos:Pos} {e:M0} {es:List M0} {id T:String} {g:List D->Option D} {f:aq->R (List D)}
theorem Ej (hc:dq X (.builtin id) (we X.K g)) (hg:Gl X x) (hm:X.mg x=none) (hv:MU x=some (.builtin id)) (ha:FA X (e::es) f) (hn:x ≠ "__name__":=by decide) (hdb:(x==("__debug__":Str))=false:=by decide)
  (hns:(e::es).all noStar=true:=by rfl):FE X (.Call (.Name x p) (e::es) [] pos) (fL g f) :=
 PE.weak (uW hc hg hm hv ha hn hdb (cP (JU _ _ ▸ hns).1) (gO (JU _ _ ▸ hns).2)) (Ab pc)
theorem D7 (hc:dq X (.type T) (we X.K g)) (hg:Gl X x) (hm:X.mg x=none) (hv:MU x=some (.type T)) (ha:FA X (e::es) f) (hn:x ≠ "__name__":=by decide) (hdb:(x==("__debug__":Str))=false:=by decide)
  (hns:(e::es).all noStar=true:=by rfl):FE X (.Call (.Name x p) (e::es) [] pos) (fL g f) :=
 PE.weak (xL hc hg hm hv ha hn hdb (cP (JU _ _ ▸ hns).1) (gO (JU _ _ ▸ hns).2)) (Ab pc)

def kR:List D->Option D
 | [.lst xs]=>some (.int xs.length)
 | [.tup xs]=>some (.int xs.length)
 | [.str x]=>if small x.length then some (.int x.length) else none
 | _=>none
theorem dD:dq X (.builtin "len") (we X.K kR):=by
 intro pins s σ H xs us Q I r ⟨O,ds,d,hO,hd,hg,q⟩
 unfold kR at hg
 split at hg
 ·rename_i ys
  cases hg
  obtain⟨v,ev,h1⟩:=hd.one
  rw [cu] at h1
  obtain⟨p,vs,ep,g1,g2⟩:=h1
  exact lJ pins s σ H xs us Q I r ⟨p,vs,by rw [ev,ep],.inl ((aE H O).seq g1),q _ H (aX.refl H) (eB.mpr (by rw [g2.length]))⟩
 ·rename_i ys
  cases hg
  obtain⟨v,ev,h1⟩:=hd.one
  rw [cq] at h1
  obtain⟨p,vs,ep,g1,g2⟩:=h1
  exact lJ pins s σ H xs us Q I r ⟨p,vs,by rw [ev,ep],.inr (bM (aE H O) g1),q _ H (aX.refl H) (eB.mpr (by rw [g2.length]))⟩
 ·rename_i z
  obtain⟨h1,h2⟩:=bv hg
  subst h2
  obtain⟨v,ev,h1'⟩:=hd.one
  exact sO pins s σ H xs us Q I r ⟨z,by rw [ev,dJ.mp h1'],cT h1,q _ H (aX.refl H) (eB.mpr rfl)⟩
 ·cases hg
def bP:List D->Option D
 | [.lst xs]=>some (.tup xs)
 | [.tup xs]=>some (.tup xs)
 | _=>none
theorem bG:dq X (.type "tuple") (we X.K bP):=by
 intro pins s σ H xs us Q I r ⟨O,ds,d,hO,hd,hg,q⟩
 unfold bP at hg
 split at hg
 ·rename_i ys
  cases hg
  obtain⟨v,ev,h1⟩:=hd.one
  rw [cu] at h1
  obtain⟨p,vs,ep,g1,g2⟩:=h1
  exact kX pins s σ H xs us Q I r ⟨p,vs,by rw [ev,ep],.inl ⟨(aE H O).seq g1,fun l hl=>q _ _ (bC hl _) (dA hO hl g2)⟩⟩
 ·rename_i ys
  cases hg
  obtain⟨v,ev,h1⟩:=hd.one
  have h0:=h1
  rw [cq] at h1
  obtain⟨p,vs,ep,g1,g2⟩:=h1
  rw [ep] at h0
  exact kX pins s σ H xs us Q I r ⟨p,vs,by rw [ev,ep],.inr ⟨bM (aE H O) g1,q _ H (aX.refl H) h0⟩⟩
 ·cases hg
def oz:List D->Option D
 | [.int i,.int j]=>some (.int (if j > i then j else i))
 | _=>none
def tM:List D->Option D
 | [.int i,.int j]=>some (.int (if j < i then j else i))
 | _=>none
def wv:List D->Option D
 | [.int i]=>some (.int i)
 | [.bl k]=>some (.int (if k then 1 else 0))
 | _=>none
theorem pj (hc:X.calm=true):dq X (.builtin "max") (we X.K oz):=by
 intro pins s σ H xs us Q I r ⟨O,ds,d,hO,hd,hg,q⟩
 unfold oz at hg
 split at hg
 ·rename_i i j
  cases hg
  obtain⟨v,w,ev,h1,h2⟩:=hd.two
  exact yM hc pins s σ H xs us Q I r ⟨i,j,by rw [ev,eB.mp h1,eB.mp h2],q _ H (aX.refl H) (eB.mpr rfl)⟩
 ·cases hg
theorem wm (hc:X.calm=true):dq X (.builtin "min") (we X.K tM):=by
 intro pins s σ H xs us Q I r ⟨O,ds,d,hO,hd,hg,q⟩
 unfold tM at hg
 split at hg
 ·rename_i i j
  cases hg
  obtain⟨v,w,ev,h1,h2⟩:=hd.two
  exact x6 hc pins s σ H xs us Q I r ⟨i,j,by rw [ev,eB.mp h1,eB.mp h2],q _ H (aX.refl H) (eB.mpr rfl)⟩
 ·cases hg
theorem vW:dq X (.type "int") (we X.K wv):=by
 intro pins s σ H xs us Q I r ⟨O,ds,d,hO,hd,hg,q⟩
 unfold wv at hg
 split at hg
 ·rename_i i
  cases hg
  obtain⟨v,ev,h1⟩:=hd.one
  exact rj pins s σ H xs us Q I r (.inl ⟨i,by rw [ev,eB.mp h1],q _ H (aX.refl H) (eB.mpr rfl)⟩)
 ·rename_i k
  cases hg
  obtain⟨v,ev,h1⟩:=hd.one
  exact rj pins s σ H xs us Q I r (.inr ⟨k,by rw [ev,jO.mp h1],q _ H (aX.refl H) (eB.mpr rfl)⟩)
 ·cases hg

def DA:D->String
 | .non => "NoneType"
 | .bl _ => "bool"
 | .int _ => "int"
 | .str _ => "str"
 | .tup _ => "tuple"
 | .lst _ => "list"
 | .dct _ _ => "dict"
 | _ => ""
def By (T:String) (d:D):Bool:=match d with
 | .bl _=>T == "bool" || T == "int"
 | .non=>T == "NoneType"
 | .int _=>T == "int"
 | .str _=>T == "str"
 | .tup _=>T == "tuple"
 | .lst _=>T == "list"
 | .dct _ _=>T == "dict"
 | _=>false
def uq (K:LQ) (T:String):Prop:=∀ d:D,top d=true->Mf K (.type (DA d)) (.type T)=some (By T d)
def Ht (K:LQ) (T:String):List V->Hp->VK->Prop:=fun xs H Q=>∃ O x d,xs=[x,.ty T]/\top d=true/\cm K (hid H O) d x/\Q (.bl (By T d)) H
theorem zk (ok:uq X.K T):dq X (.builtin "isinstance") (Ht X.K T):=by
 intro pins s σ H xs us Q I r ⟨O,x,d,ex,td,hd,q⟩
 subst ex
 obtain⟨u,w',rfl,rx,rt⟩:=vals2 r
 cases rt
 have e:=ok d td
 have fin:∀ tk,EP X pins σ Q (.bool (By T d)) { s with toks:=tk }:=fun tk=>⟨.bl _,H,I.tok _,rfl,q⟩
 cases dU I td (hd.mono (aE H O)) rx with
 | non=>exact Mg PySem.W.kitx_none I.kIn True.intro e (fun z=>nomatch z) fin
 | bl b=>exact Mg PySem.W.kitx_bool I.kIn True.intro e (fun z=>nomatch z) fin
 | int i t=>exact Mg PySem.W.kitx_int I.kIn True.intro e (fun z=>nomatch z) fin
 | str y t=>exact Mg PySem.W.kitx_str I.kIn True.intro e (fun z=>nomatch z) fin
 | tup h rv t =>
  obtain⟨o,h1,h2,_⟩:=t
  exact Mg PySem.W.kitx_tuple I.kIn ⟨o,h1,h2⟩ e (fun z=>nomatch z) fin
 | lst h rv t =>
  obtain⟨o,h1,h2,_⟩:=t
  exact Mg PySem.W.kitx_list I.kIn ⟨o,h1,h2⟩ e (fun z=>nomatch z) fin
theorem yX:MU "isinstance"=some (.builtin "isinstance"):=by first | rfl | decide +kernel
def me (T:String) (d:D):Option D:=if top d then some (.bl (By T d)) else none
def n5 (T:String) (f:FX):FX:=f1 (me T) f
theorem HU {f:FX} {xT:Str} {p2:Pos} (ok:uq X.K T) (hg:Gl X "isinstance") (hm:X.mg "isinstance"=none) (hgT:Gl X xT) (hmT:X.mg xT=none) (hvT:MU xT=some (.type T)) (he:FE X e f)
  (hn2:xT ≠ "__name__":=by decide) (hd2:(xT==("__debug__":Str))=false:=by decide)
  (hns:noStar e=true:=by rfl) :
  FE X (.Call (.Name "isinstance" p) [e,.Name xT p2] [] pos) (n5 T f) :=
 PE.weak (uW (zk ok) hg hm yX (kc he (kc (BE (v:=.ty T) hgT hmT hvT rfl hn2 hd2) o6 (cP rfl)) (cP hns)) (by decide) (by decide) (cP hns) (gO rfl)) fun σ H Q ⟨O,ρ,E,hF⟩=>⟨O,ρ,E,(gQ.bind hF).imp fun a hF v H1 s1 d1=>by
  obtain⟨d,e,q⟩:=gQ.rO hF
  obtain⟨h1,h2⟩:=bv e
  subst h2
  exact⟨O,v,a,rfl,h1,d1,q _ H1 s1 (jO.mpr rfl)⟩⟩
end

section
variable {X:Cx} {a:M0} {f:FX} {pos:Pos}
def isNon:D->Bool
 | .non=>true
 | _=>false
def Il (d:D):Option D:=some (.bl (isNon d))
def Fc (d:D):Option D:=some (.bl (!isNon d))
def HZ (f:FX):FX:=f1 Il f
def FC (f:FX):FX:=f1 Fc f
theorem Ea (h:FE X a f) (he:∀ whole,isTrue a X.env whole=(do let v <- whole; standAt a.pos; holding [v] (truthy v)):=by intro _; rfl):FT X a (eT f):=PT.weak (zr h he) fun σ H Q ⟨O,ρ,E,hF⟩=>⟨O,ρ,E,(gQ.bind hF).imp fun d hF x H1 s1 d1=>by
 obtain⟨r,hF,q⟩:=gQ.rO hF
 refine⟨r,?_,q H1 s1⟩
 cases d with
 | non=>cases hF; rw [jd.mp d1]; rfl
 | bl b=>cases hF; rw [jO.mp d1]; rfl
 | int i=>cases hF; rw [eB.mp d1]; rfl
 | str y =>
  obtain⟨hz,e⟩:=bv hF
  subst e
  rw [dJ.mp d1]
  refine⟨cT hz,?_⟩
  show (y.length != 0)=((y.length:Int) != 0)
  cases y.length <;> rfl
 | tup xs =>
  cases hF
  obtain⟨p,vs,e,g1,g2⟩:=cq.mp d1
  rw [e]
  refine .inr (.inl ⟨vs,bM (aE H1 O) g1,?_⟩)
  have l:=g2.length
  cases xs <;> cases vs <;> first | rfl | (simp at l)
 | lst xs =>
  cases hF
  obtain⟨p,vs,e,g1,g2⟩:=cu.mp d1
  rw [e]
  refine .inl ⟨vs,(aE H1 O).seq g1,?_⟩
  have l:=g2.length
  cases xs <;> cases vs <;> first | rfl | (simp at l)
 | _=>cases hF⟩
end

def Walk (K:LQ) (Hd:Hp) (J:It) (ds:List D):Prop :=
 ∀ (Hn:Hp) (O':List MP) (i:Nat),dg Hn O'->aX Hd (hid Hn O')->(∀ d,ds[i]?=some d->J.go i Hn/\∀ x H2,J.yld i Hn x H2->aX Hn H2/\cm K (hid H2 O') d x)/\(i=ds.length->J.stop i Hn)
def Iw (X:Cx) (G:aq->R (List D)):TI:=fun σ H RR=>∃ O ρ,cQ X.K O H ρ σ/\gQ X σ O H (G ρ) fun ds=>∀ J H1,aX H H1->Walk X.K (hid H1 O) J ds->RR J H1
def FI (X:Cx) (tg iter:M0) (G:aq->R (List D)):Prop:=PI X tg iter (Iw X G)
def oU:D->Option (List D)
 | .lst xs=>some xs
 | .tup xs=>some xs
 | _=>none
def cL (f:FX):aq->R (List D):=fun ρ=>(f ρ).bind fun d=>rO (oU d)
section
variable {X:Cx} {tg:M0}
theorem xD {K:LQ} {Hd:Hp} {a:MP} {ds:List D} {vs:List V} (h:lU K Hd a vs) (g:aL K Hd ds vs):Walk K Hd (GY K a) ds:=fun Hn O' i hO s =>
  have s':aX Hd Hn:=s.trans (aE Hn O')
  ⟨fun d e=>by
    obtain⟨v,ev,dv⟩:=g.get e
    refine⟨⟨vs,v,s'.seq h,ev⟩,fun x H2 ⟨e2,y⟩=>?_⟩
    have q:=y vs (s'.seq h)
    rw [ev] at q; cases q
    subst e2
    exact⟨aX.refl _,dv.mono s⟩,
   fun hl=>⟨vs,s'.seq h,by rw [<- g.length]; exact JF hl.symm⟩⟩
theorem zR {K:LQ} {Hd:Hp} {a:MP} {ds:List D} {vs:List V} (h:Hd a=some (.tup vs)) (g:aL K Hd ds vs):Walk K Hd (Ie K a) ds:=fun Hn O' i hO s =>
  have s':aX Hd Hn:=s.trans (aE Hn O')
  ⟨fun d e=>by
    obtain⟨v,ev,dv⟩:=g.get e
    refine⟨⟨vs,v,bM s' h,ev⟩,fun x H2 ⟨e2,y⟩=>?_⟩
    have q:=y vs (bM s' h)
    rw [ev] at q; cases q
    subst e2
    exact⟨aX.refl _,dv.mono s⟩,
   fun hl=>⟨vs,bM s' h,by rw [<- g.length]; exact JF hl.symm⟩⟩
theorem HX {e:M0} {f:FX} (h:FE X e f):FI X tg e (cL f):=by
 intro pins s σ H R I ⟨O,ρ,E,hG⟩
 have hG':=gQ.bind hG
 cases hf:f ρ with
 | error z=>exact xo h pins s σ H R I ⟨O,ρ,E,by rw [hf] at hG' ⊢; cases z with | none=>exact hG'.elim | some x=>exact hG'⟩
 | ok d =>
  rw [hf] at hG'
  obtain⟨ds,e1,q⟩:=gQ.rO (α:=List D) (o:=oU d) hG'
  cases d with
  | lst xs =>
   cases e1
   refine xo h pins s σ H R I ⟨O,ρ,E,?_⟩
   rw [hf]
   refine fun v H1 s1 d1=>?_
   obtain⟨p,vs,ev,g1,g2⟩:=cu.mp d1
   exact⟨p,ev,⟨vs,(aE H1 O).seq g1⟩,q _ H1 s1 (xD g1 g2)⟩
  | tup xs =>
   cases e1
   refine DY h pins s σ H R I ⟨O,ρ,E,?_⟩
   rw [hf]
   refine fun v H1 s1 d1=>?_
   obtain⟨p,vs,ev,g1,g2⟩:=cq.mp d1
   exact⟨p,ev,⟨vs,bM (aE H1 O) g1⟩,q _ H1 s1 (zR g1 g2)⟩
  | _=>cases e1
def dX (lo:Int) (n:Nat):List D:=(List.range n).map fun (k:Nat)=>D.int (lo+(k:Int))
theorem pZ (lo:Int) (n:Nat):(dX lo n).length=n:=by unfold dX; rw [JE,Kn]
theorem oS {K:LQ} {Hd:Hp} (lo:Int) (n:Nat):Walk K Hd (ED lo n) (dX lo n):=fun Hn O' i hO s =>
  ⟨fun d e=>by
    unfold dX at e
    rw [JP] at e
    cases hi:(List.range n)[i]? with
    | none=>rw [hi] at e; cases e
    | some k =>
      rw [hi] at e
      cases e
      have hlt:i < n:=by
        have:=(List.getElem?_eq_some_iff.mp hi).1
        rwa [Kn] at this
      have ek:k=i:=by
        rw [Kq hlt] at hi
        exact(Option.some.inj hi).symm
      subst ek
      exact⟨hlt,fun x H2 ⟨e1,e2⟩=>by subst e1; exact⟨aX.refl _,eB.mpr e2⟩⟩,
   fun hl=>by rw [pZ] at hl; exact JF hl.symm⟩
def okR (j:Int):Bool:=decide (-(2 ^ 62)<=j/\j < 2 ^ 62)
def kK:List D->Option (List D)
 | [.int j]=>if okR j then some (dX 0 j.toNat) else none
 | _=>none
def n9:List D->Option (List D)
 | [.int i,.int j]=>if okR i && okR j then some (dX i (j - i).toNat) else none
 | _=>none
def gq (f:aq->R (List D)):aq->R (List D):=fun ρ=>(f ρ).bind fun ds=>rO (kK ds)
def n8 (f:aq->R (List D)):aq->R (List D):=fun ρ=>(f ρ).bind fun ds=>rO (n9 ds)
theorem D5 {a:M0} {f:aq->R (List D)} {p pos:Pos} (hg:Gl X "range") (hm:X.mg "range"=none) (ha:FA X [a] f) (hs:M1 [a] X.env=[(false,eval a X.env)]:=by rfl):FI X tg (.Call (.Name "range" p) [a] [] pos) (gq f):=by
 intro pins s σ H R I ⟨O,ρ,E,hG⟩
 refine xB hg hm ha hs pins s σ H R I ⟨O,ρ,E,(gQ.bind hG).imp fun es hG' vs H1 s1 d1=>?_⟩
 clear hG
 obtain⟨ds,hG,q⟩:=gQ.rO hG'
 clear hG'
 unfold kK at hG
 split at hG
 ·rename_i j
  obtain⟨h1,h2⟩:=bv hG
  subst h2
  obtain⟨j1,j2⟩:=of_decide_eq_true h1
  obtain⟨v,ev,dv⟩:=d1.one
  exact⟨j,by rw [ev,eB.mp dv],j1,j2,q _ H1 s1 (oS 0 _)⟩
 ·cases hG
theorem D4 {a b:M0} {f:aq->R (List D)} {p pos:Pos} (hg:Gl X "range") (hm:X.mg "range"=none) (ha:FA X [a,b] f) (hs:M1 [a,b] X.env=[(false,eval a X.env),(false,eval b X.env)]:=by rfl) (hs2:M1 [b] X.env=[(false,eval b X.env)]:=by rfl):FI X tg (.Call (.Name "range" p) [a,b] [] pos) (n8 f):=by
 intro pins s σ H R I ⟨O,ρ,E,hG⟩
 refine xY hg hm ha hs hs2 pins s σ H R I ⟨O,ρ,E,(gQ.bind hG).imp fun es hG' vs H1 s1 d1=>?_⟩
 clear hG
 obtain⟨ds,hG,q⟩:=gQ.rO hG'
 clear hG'
 unfold n9 at hG
 split at hG
 ·rename_i i j
  obtain⟨h1,h2⟩:=bv hG
  subst h2
  rw [JU] at h1
  obtain⟨i1,i2⟩:=of_decide_eq_true h1.1
  obtain⟨j1,j2⟩:=of_decide_eq_true h1.2
  obtain⟨v,w,ev,dv,dw⟩:=d1.two
  exact⟨i,j,by rw [ev,eB.mp dv,eB.mp dw],⟨i1,i2,j1,j2⟩,q _ H1 s1 (oS i _)⟩
 ·cases hG
end

abbrev GF:=D->aq->Option aq
def Gz (K:LQ) (g:GF):TG:=fun v σ H Q=>∃ O ρ d ρ',cQ K O H ρ σ/\cm K (hid H O) d v/\g d ρ=some ρ'/\∀ σ',cQ K O H ρ' σ'->(∀ (i:Nat) x,ρ'[i]?=some (some x)->(∀ d,x≠.val d)->σ'[i]?=σ[i]?/\ρ[i]?=some (some x))->Q σ' H
def FG (X:Cx) (tg:M0) (g:GF):Prop:=PG X tg (Gz X.K g)
def setV (i:Nat) (d:D) (ρ:aq):aq:=ρ.set i (some (.val d))
theorem aP {α:Type} {l:List α} {i j:Nat} {a b:α} (h:(l.set i a)[j]?=some b):(j=i/\b=a)\/(j≠i/\l[j]?=some b):=by
 by_cases e:j=i
 ·subst e
  left
  have hj:j < (l.set j a).length:=(List.getElem?_eq_some_iff.mp h).1
  rw [List.length_set] at hj
  rw [Jt hj] at h
  exact⟨rfl,(Option.some.inj h).symm⟩
 ·right
  rw [Ju (Ne.symm e)] at h
  exact⟨e,h⟩
theorem cQ.setV {K:LQ} {O:List MP} {H:Hp} {ρ:aq} {σ:St} (E:cQ K O H ρ σ) {i:Nat} {d:D} {v:V} (hi:i < σ.length) (hd:cm K (hid H O) d v):cQ K O H (setV i d ρ) (σ.set i (some v)) :=
  ⟨fun j d' e=>by
    rcases aP e with ⟨hj,eq⟩ | ⟨ne,eq⟩
    · cases eq; rw [hj]; exact⟨v,Jt hi,hd⟩
    · obtain⟨w,e1,e2⟩:=E.val j d' eq
      exact⟨w,by rw [Ju (Ne.symm ne)]; exact e1,e2⟩,
   fun j xs e=>by
    rcases aP e with ⟨_,eq⟩ | ⟨ne,eq⟩
    · cases eq
    · obtain⟨a,e1,e2⟩:=E.own j xs eq
      exact⟨a,by rw [Ju (Ne.symm ne)]; exact e1,e2⟩,
   fun j k xs ys a e1 e2 e3 e4=>by
    rcases aP e1 with ⟨_,q1⟩ | ⟨ne1,q1⟩
    · cases q1
    · rcases aP e2 with ⟨_,q2⟩ | ⟨ne2,q2⟩
      · cases q2
      · rw [Ju (Ne.symm ne1)] at e3
        rw [Ju (Ne.symm ne2)] at e4
        exact E.one j k xs ys a q1 q2 e3 e4,E.all⟩
section
variable {X:Cx} {pos:Pos}
def gN (i:Nat):GF:=fun d ρ=>some (setV i d ρ)
theorem Gg {i:Nat} {x:Str} (hN:X.N.Nodup) (hi:X.N[i]?=some x) (hx:Loc X.env.scope x) (hf:X.fn x=true\/X.env.scope.names.lookup x=some .local:=by first | exact .inl rfl | exact .inr rfl | assumption):FG X (.Name x pos) (gN i):=by
 intro pins s σ H v u Q I r ⟨O,ρ,d,ρ',E,hd,hg,q⟩
 cases hg
 have hiσ:i < σ.length:=by rw [I.len]; exact(List.getElem?_eq_some_iff.mp hi).1
 refine Bx hN hi hx hf pins s σ H v u Q I r (q _ (E.setV hiσ hd) fun j x e nv=>?_)
 rcases aP e with ⟨_,eq⟩ | ⟨ne,eq⟩
 ·cases eq; exact absurd rfl (nv _)
 ·exact⟨Ju (Ne.symm ne),eq⟩
abbrev yS:=List D->aq->Option aq
def Hw (K:LQ) (g:yS):B6:=fun vs σ H Q=>∃ O ρ ds ρ',cQ K O H ρ σ/\aL K (hid H O) ds vs/\g ds ρ=some ρ'/\∀ σ',cQ K O H ρ' σ'->(∀ (i:Nat) x,ρ'[i]?=some (some x)->(∀ d,x≠.val d)->σ'[i]?=σ[i]?/\ρ[i]?=some (some x))->Q σ' H
def E9 (X:Cx) (ts:List M0) (g:yS):Prop:=Ed X ts (Hw X.K g)
def zi:yS:=fun ds ρ=>match ds with
 | []=>some ρ
 | _=>none
def vD (g:GF) (h:yS):yS:=fun ds ρ=>match ds with
 | d::r=>(g d ρ).bind fun ρ1=>h r ρ1
 | _=>none
theorem Gp:E9 X [] zi:=by
 intro pins s σ H vs us Q I r ⟨O,ρ,ds,ρ',E,hd,hg,q⟩
 cases ds with
 | nil =>
  cases hg
  rw [cF] at hd
  exact AH pins s σ H vs us Q I r ⟨hd,q _ E fun i x e _=>⟨rfl,e⟩⟩
 | cons _ _=>cases hg
theorem Ek {e:M0} {es:List M0} {g:GF} {h:yS} (h1:FG X e g) (h2:E9 X es h) (hs:(assignEach (e::es) X.env).map (·.2)=assign e X.env::(assignEach es X.env).map (·.2):=by rfl):E9 X (e::es) (vD g h):=by
 intro pins s σ H vs us Q I r ⟨O,ρ,ds,ρ',E,hd,hg,q⟩
 cases ds with
 | nil=>cases hg
 | cons d ds =>
  obtain⟨ρ1,e1,e2⟩:=bind_some hg
  rw [bc] at hd
  obtain⟨v,vr,ev,d1,d2⟩:=hd
  exact Ad h1 h2 hs pins s σ H vs us Q I r ⟨v,vr,ev,O,ρ,d,ρ1,E,d1,e1,fun σ1 E1 k1=>⟨O,ρ1,ds,ρ',E1,d2,e2,fun σ2 E2 k2=>q σ2 E2 fun i x e nv=>by
   obtain⟨a1,a2⟩:=k2 i x e nv
   obtain⟨b1,b2⟩:=k1 i x a2 nv
   exact⟨a1.trans b1,b2⟩⟩⟩
def gT (n:Nat) (g:yS):GF:=fun d ρ=>match d with
 | .tup xs=>if xs.length=n then g xs ρ else none
 | _=>none
theorem HJ {es:List M0} {k:Nat} {g:yS} {n:Nat} (hc:X.calm=true) (h:E9 X es g) (hn:(assignEach es X.env).length=n:=by rfl) (hst:(assignEach es X.env).findIdx? (·.1)=none:=by rfl):FG X (.Tuple es k pos) (gT n g):=by
 intro pins s σ H v u Q I r ⟨O,ρ,d,ρ',E,hd,hg,q⟩
 cases d with
 | tup xs =>
  obtain⟨p,vs,ev,g1,g2⟩:=cq.mp hd
  have hg':(if xs.length=n then g xs ρ else none)=some ρ':=hg
  by_cases hl:xs.length=n
  ·rw [if_pos hl] at hg'
   exact De hc h hn hst pins s σ H v u Q I r ⟨p,vs,ev,bM (aE H O) g1,by rw [<- g2.length]; exact hl,O,ρ,xs,ρ',E,g2,hg',q⟩
  ·rw [if_neg hl] at hg'; cases hg'
 | _=>cases hg
end

def yF {α:Type} (r:R α):R α:=match r with
 | .ok a=>.ok a
 | .error _=>un
theorem Av {α:Type} {r:R α} {a:α} (h:yF r=.ok a):r=.ok a:=by
 cases r with
 | ok b=>exact h
 | error z=>cases h
def inB (ix:List (Option Nat)) (ρ:aq):aq:=ix.map fun o=>match o with
 | some i=>match ρ[i]? with
  | some (some (.val d))=>some (.val d)
  | _=>none
 | none=>none
def vq (ρ:aq) (g:GF) (C:aq->R Bool) (Fe:FX):List D->R (List D)
 | []=>.ok []
 | d::ds=>(rO (g d ρ)).bind fun ρ1=>(yF (C ρ1)).bind fun c=>if c then (yF (Fe ρ1)).bind fun v=>(vq ρ g C Fe ds).bind fun r=>.ok (v::r) else vq ρ g C Fe ds
theorem jS (ρ:aq) (g:GF) (C:aq->R Bool) (Fe:FX) (d:D) (ds:List D):vq ρ g C Fe (d::ds)=(rO (g d ρ)).bind fun ρ1=>(yF (C ρ1)).bind fun c=>if c then (yF (Fe ρ1)).bind fun v=>(vq ρ g C Fe ds).bind fun r=>.ok (v::r) else vq ρ g C Fe ds:=rfl
def mC (ix:List (Option Nat)) (G:aq->R (List D)) (g:GF) (C:aq->R Bool) (Fe:FX):FX:=fun ρ=>(G ρ).bind fun ds=>if small ds.length then yF ((vq (inB ix ρ) g C Fe ds).bind fun r=>.ok (.lst r)) else un
def Gw (X:Cx) (ifs:List M0) (F:aq->R Bool):Prop:=D6 X ifs (Gx X F)
def ga:aq->R Bool:=fun _=>.ok true
theorem FY {X:Cx}:Gw X [] ga:=fun pins s σ H Q I ⟨O,ρ,E,q⟩=>Be pins s σ H Q I (q H (aX.refl H))
theorem Ge {X:Cx} {c:M0} {F:aq->R Bool} (h:FT X c F):Gw X [c] F:=AI h
theorem mj {ix:List (Option Nat)} {ρ:aq} {j:Nat} {x:S} (e:(inB ix ρ)[j]?=some (some x)):∃ i d,ix[j]?=some (some i)/\ρ[i]?=some (some (.val d))/\x=.val d:=by
 unfold inB at e
 rw [JP] at e
 cases q:ix[j]? with
 | none=>rw [q] at e; cases e
 | some o =>
  rw [q] at e
  cases o with
  | none=>cases e
  | some i =>
   have e':(match ρ[i]? with | some (some (.val d))=>some (S.val d) | _=>none)=some x:=Option.some.inj e
   split at e'
   ·rename_i d hd
    cases e'
    exact⟨i,d,rfl,hd,rfl⟩
   ·cases e'
theorem Bs {K:LQ} {O:List MP} {H:Hp} {ρ:aq} {σ:St} (ix:List (Option Nat)) (E:cQ K O H ρ σ):cQ K O H (inB ix ρ) (inBlock ix σ):=by
 refine⟨fun j d e=>?_,fun j xs e=>?_,fun j k xs ys a e=>?_,E.all⟩
 ·obtain⟨i,d',q1,q2,q3⟩:=mj e
  cases q3
  obtain⟨v,e1,e2⟩:=E.val i d q2
  refine⟨v,?_,e2⟩
  unfold inBlock
  rw [JP,q1]
  show some ((σ[i]?).getD none)=some (some v)
  rw [e1]; rfl
 ·obtain⟨_,_,_,_,q3⟩:=mj e
  cases q3
 ·obtain⟨_,_,_,_,q3⟩:=mj e
  cases q3
theorem o3 {H:Hp} {O:List MP} {p:MP} {o:HO} (hp:H p=none):aX (hid H O) (hid (upd H p o) (p::O)):=fun b u h=>by
 unfold hid at h ⊢
 by_cases hb:b∈O
 ·rw [if_pos hb] at h; cases h
 ·rw [if_neg hb] at h
  have ne:=aT h hp
  rw [if_neg (by intro z; rcases List.mem_cons.mp z with z | z; exact ne z; exact hb z),aF ne]; exact h
theorem cQ.hideNew {K:LQ} {O:List MP} {H:Hp} {ρ:aq} {σ:St} {p:MP} {o:HO} (m:oN o) (E:cQ K O H ρ σ) (hp:H p=none):cQ K (p::O) (upd H p o) ρ σ:=by
 have s:aX (hid H O) (hid (upd H p o) (p::O)):=o3 hp
 refine⟨fun i d e=>let ⟨v,a,b⟩:=E.val i d e; ⟨v,a,b.mono s⟩,fun i xs e=>?_,E.one,(E.all.same (bC hp o)).cons aN m⟩
 obtain⟨a,e1,e2,e3⟩:=E.own i xs e
 obtain⟨u,hu⟩:=e3.some
 exact⟨a,e1,Jr _ e2,e3.mono (by rw [aF (aT hu hp)]) s⟩
theorem cQ.rewrite {K:LQ} {O:List MP} {H:Hp} {ρ:aq} {σ:St} {p:MP} {o:HO} (m:oN o) (E:cQ K O H ρ σ) (hp:p∈O) (hs:∀ (i:Nat) xs,ρ[i]?=some (some (.own xs))->σ[i]?≠some (some (.ref p))):cQ K O (upd H p o) ρ σ:=by
 have s:aX (hid H O) (hid (upd H p o) O):=fG hp
 refine⟨fun i d e=>let ⟨v,a,b⟩:=E.val i d e; ⟨v,a,b.mono s⟩,fun i xs e=>?_,E.one,E.all.upd hp m⟩
 obtain⟨a,e1,e2,e3⟩:=E.own i xs e
 have ne:a≠p:=fun z=>hs i xs e (by rw [<- z]; exact e1)
 exact⟨a,e1,e2,e3.mono (by rw [aF ne]) s⟩
theorem cQ.forget {K:LQ} {O:List MP} {H:Hp} {ρ ρ':aq} {σ:St} (E:cQ K O H ρ σ) (h:∀ (i:Nat) x,ρ'[i]?=some (some x)->ρ[i]?=some (some x)):cQ K O H ρ' σ :=
 ⟨fun i d e=>E.val i d (h i _ e),fun i xs e=>E.own i xs (h i _ e),fun i j xs ys a e1 e2=>E.one i j xs ys a (h i _ e1) (h j _ e2),E.all⟩

def Fills (ρ:aq) (g:GF):Prop:=∀ d ρ1,g d ρ=some ρ1->∀ (i:Nat) x,ρ[i]?=some (some x)->ρ1[i]?=some (some x)
theorem qI (ix:List (Option Nat)) (ρ:aq):∀ (i:Nat) xs,(inB ix ρ)[i]?≠some (some (.own xs)):=by
 intro j xs e
 obtain⟨_,_,_,_,q3⟩:=mj e
 cases q3
theorem EE {α:Type} {o:Option α} {a:α} (h:rO o=.ok a):o=some a:=by
 cases o with
 | none=>cases h
 | some b=>cases h; rfl

end TG
namespace TG
open PySem PySem.Spec L2
variable [aM]

section
variable {X:Cx} {elt tg iter:M0} {ifs:List M0} {scope:MY} {pos:Pos} {N:List Str} {ix:List (Option Nat)} {G:aq->R (List D)} {g:GF} {C:aq->R Bool} {Fe:FX}
structure tO (ix:List (Option Nat)) (g:GF):Prop where
 fill:∀ ρ,Fills (inB ix ρ) g
 own:∀ ρ d ρ1,g d (inB ix ρ)=some ρ1->∀ (i:Nat) xs,ρ1[i]?≠some (some (.own xs))
theorem uK {ρ:aq} {i:Nat} (h:ix[i]?=some none):∀ x,(inB ix ρ)[i]?≠some (some x):=fun x e=>by
 obtain⟨_,_,q,_⟩:=mj e
 rw [h] at q; cases q
theorem m7 {i:Nat} (h:ix[i]?=some none):tO ix (gN i) :=
  ⟨fun ρ d ρ1 e j x q=>by
    cases e
    by_cases z:j=i
    · subst z; exact absurd q (uK h x)
    · unfold setV; rw [Ju (Ne.symm z)]; exact q,
   fun ρ d ρ1 e j xs q=>by
    cases e
    rcases aP q with ⟨_,z⟩ | ⟨_,z⟩
    · cases z
    · exact qI ix ρ j xs z⟩
def Bb (ix:List (Option Nat)) (is:List Nat):Bool:=is.all fun i=>match ix[i]? with
 | some none=>true
 | _=>false
def mF:List Nat->yS
 | []=>zi
 | i::is=>vD (gN i) (mF is)
theorem xx:∀ (is:List Nat) (ds:List D) (ρ ρ1:aq),mF is ds ρ=some ρ1->∀ (k:Nat) (x:S),ρ1[k]?=some (some x)->(k∈is/\∃ d,x=.val d)\/ρ[k]?=some (some x)
 | [],ds,ρ,ρ1,h,k,x,e=>by
  cases ds with
  | nil=>cases h; exact .inr e
  | cons _ _=>cases h
 | i::is,ds,ρ,ρ1,h,k,x,e=>by
  cases ds with
  | nil=>cases h
  | cons d ds =>
   rcases xx is ds (setV i d ρ) ρ1 h k x e with ⟨a,b⟩ | q
   ·exact .inl ⟨Jr _ a,b⟩
   ·rcases aP q with ⟨z,w⟩ | ⟨_,w⟩
    ·exact .inl ⟨by rw [z]; exact Jq,d,Option.some.inj w⟩
    ·exact .inr w
theorem sS:∀ (is:List Nat) (ds:List D) (ρ ρ1:aq),mF is ds ρ=some ρ1->∀ (k:Nat) (x:S),k∉is->ρ[k]?=some (some x)->ρ1[k]?=some (some x)
 | [],ds,ρ,ρ1,h,k,x,_,e=>by
  cases ds with
  | nil=>cases h; exact e
  | cons _ _=>cases h
 | i::is,ds,ρ,ρ1,h,k,x,n,e=>by
  cases ds with
  | nil=>cases h
  | cons d ds =>
   refine sS is ds (setV i d ρ) ρ1 h k x (fun z=>n (Jr _ z)) ?_
   unfold setV
   rw [Ju (fun z=>n (by rw [z]; exact Jq))]; exact e
theorem jh {is:List Nat} {n:Nat} (h:Bb ix is=true):tO ix (gT n (mF is)):=by
 have hn:∀ i∈is,ix[i]?=some none:=fun i hi=>by
  have:=List.all_eq_true.mp h i hi
  cases e:ix[i]? with
  | none=>rw [e] at this; cases this
  | some o=>cases o with
   | none=>rfl
   | some _=>rw [e] at this; cases this
 have shape:∀ ρ d ρ1,gT n (mF is) d ρ=some ρ1->∃ ds,mF is ds ρ=some ρ1:=fun ρ d ρ1 e=>by
  cases d with
  | tup xs =>
   have e':(if xs.length=n then mF is xs ρ else none)=some ρ1:=e
   by_cases hl:xs.length=n
   ·rw [if_pos hl] at e'; exact⟨xs,e'⟩
   ·rw [if_neg hl] at e'; cases e'
  | _=>cases e
 refine⟨fun ρ d ρ1 e k x q=>?_,fun ρ d ρ1 e k xs q=>?_⟩
 ·obtain⟨ds,e⟩:=shape _ d ρ1 e
  exact sS is ds _ ρ1 e k x (fun z=>uK (hn k z) x q) q
 ·obtain⟨ds,e⟩:=shape _ d ρ1 e
  rcases xx is ds _ ρ1 e k _ q with ⟨_,d,z⟩ | z
  ·cases z
  ·exact qI ix ρ k xs z
structure lI (X:Cx) (scope:MY) (N:List Str) (ix:List (Option Nat)):Prop where
 cell:∀ y∈scope.names,y.2≠.cell
 kind:scope.kind=.function
 names:∀ y∈scope.names,y.2=.local->scope.names.lookup y.1=some .local
 free:∀ y∈scope.names,y.2=.free->X.env.scope.names.lookup y.1=some .cell\/X.env.scope.names.lookup y.1=some .free
 ix:sX X.N N scope.names ix=true
def wX (XS:List (Str×Nv)) (XN:List Str) (scope:MY) (N:List Str) (ix:List (Option Nat)):Bool :=
 scope.names.all (fun y=>decide (y.2≠.cell)) && decide (scope.kind=.function) && scope.names.all (fun y=>decide (y.2≠.local) || decide (scope.names.lookup y.1=some .local)) &&
  scope.names.all (fun y=>decide (y.2≠.free) || (decide (XS.lookup y.1=some .cell) || decide (XS.lookup y.1=some .free))) && sX XN N scope.names ix
theorem lI.of (h:wX X.env.scope.names X.N scope N ix=true):lI X scope N ix:=by
 unfold wX at h
 simp only [JU] at h
 obtain⟨⟨⟨⟨h1,h2⟩,h3⟩,h4⟩,h5⟩:=h
 refine⟨fun y hy=>of_decide_eq_true (List.all_eq_true.mp h1 y hy),of_decide_eq_true h2,fun y hy e=>?_,fun y hy e=>?_,h5⟩
 ·rcases Kj _ _ ▸ List.all_eq_true.mp h3 y hy with q | q
  ·exact absurd e (of_decide_eq_true q)
  ·exact of_decide_eq_true q
 ·rcases Kj _ _ ▸ List.all_eq_true.mp h4 y hy with q | q
  ·exact absurd e (of_decide_eq_true q)
  ·rcases Kj _ _ ▸ q with q | q
   ·exact .inl (of_decide_eq_true q)
   ·exact .inr (of_decide_eq_true q)
def GC (X:Cx) (scope:MY) (N:List Str) (tg elt:M0) (ifs:List M0) (g:GF) (C:aq->R Bool) (Fe:FX):Prop :=
 ∀ cl C' fp s H E,FG (cj X scope N cl C' fp s H E) tg g/\Gw (cj X scope N cl C' fp s H E) ifs C/\FE (cj X scope N cl C' fp s H E) elt Fe
def DN (K:LQ) (F:aq->R Bool):TT:=fun σ H Q=>∃ O ρ b,cQ K O H ρ σ/\F ρ=.ok b/\∀ H',aX H H'->Q b H'
def G8 (K:LQ) (F:FX):TE:=fun σ H Q=>∃ O ρ d,cQ K O H ρ σ/\F ρ=.ok d/\∀ v H',aX H H'->cm K (hid H' O) d v->Q v H'
theorem GC.k (hb:GC X scope N tg elt ifs g C Fe):∀ cl C' fp s H E,PG (cj X scope N cl C' fp s H E) tg (Gz X.K g)/\D6 (cj X scope N cl C' fp s H E) ifs (DN X.K C)/\PE (cj X scope N cl C' fp s H E) elt (G8 X.K Fe):=fun cl C' fp s H E=>by
 obtain⟨h1,h2,h3⟩:=hb cl C' fp s H E
 refine⟨h1,fun pins s σ H Q I ⟨O,ρ,b,e1,e2,q⟩=>h2 pins s σ H Q I ⟨O,ρ,e1,by rw [e2]; exact q⟩,fun pins s σ H Q I ⟨O,ρ,d,e1,e2,q⟩=>h3 pins s σ H Q I ⟨O,ρ,e1,by rw [e2]; exact q⟩⟩
def Iy (X:Cx) (F:FX):TE:=fun σ H Q=>∃ O ρ,cQ X.K O H ρ σ/\gQ X σ O H (F ρ) fun d=>∀ D H' total acc,d=.lst total->aX H H'->H D=none->H' D=some (.lst acc)->aL X.K (hid H' (D::O)) total acc->Q (.ref D) H'
theorem HN {F:FX}:∀ σ H Q,tF X F σ H Q->Iy X F σ H Q:=fun σ H Q ⟨O,ρ,E,hF⟩=>⟨O,ρ,E,hF.imp fun d q D H' total acc e sm hD hD' dn=>by
 subst e
 have DO:D∉O:=E.all.not hD
 exact q _ H' sm (cu.mpr ⟨D,acc,rfl,lU.of (by rw [iR DO]; exact hD'),dn.mono (gP fun a ha=>Jr _ ha)⟩)⟩
theorem Ca (tk:tO ix g):∀ σ H Q,Iy X (mC ix G g C Fe) σ H Q->HE (Iw X G) (Gz X.K g) (DN X.K C) (G8 X.K Fe) ix σ H Q:=fun σ H Q ⟨O,ρ,E,hF⟩=>by
 refine⟨O,ρ,E,(gQ.bind hF).imp fun ds hF=>?_⟩
 have hz:small ds.length=true:=by
  cases e:small ds.length with
  | true=>rfl
  | false=>rw [e] at hF; exact hF.elim
 rw [hz,if_pos rfl] at hF
 cases hL:vq (inB ix ρ) g C Fe ds with
 | error z=>rw [hL] at hF; exact hF.elim
 | ok total =>
 rw [hL] at hF
 have q:∀ D H' total' acc,TG.D.lst total=.lst total'->aX H H'->H D=none->H' D=some (.lst acc)->aL X.K (hid H' (D::O)) total' acc->Q (.ref D) H':=hF
 have e2:=hL
 have hfill:=tk.fill
 have hown:=tk.own
 refine fun J H1 s1 wk D hD=>?_
 have E1:cQ X.K (D::O) (upd H1 D (.lst [])) (inB ix ρ) (inBlock ix σ):=((Bs ix E).same s1).hideNew trivial hD
 have DO:D∉O:=(E.all.same s1).not hD
 refine⟨fun i m σ' H'=>m=ds.length - i/\i<=ds.length/\aX H1 H'/\cQ X.K (D::O) H' (inB ix ρ) σ'/\∃ acc dn rest,H' D=some (.lst acc)/\acc.length<=i/\aL X.K (hid H' (D::O)) dn acc/\vq (inB ix ρ) g C Fe (ds.drop i)=.ok rest/\dn++rest=total,
  ⟨ds.length,by rw [Kp],JG _,bC hD _,E1,[],[],total,aN,Jw _,cF.mpr rfl,by rw [Kc]; exact e2,rfl⟩,?_⟩
 rintro i m σ' H' ⟨rfl,hi,sm,E',acc,dn,rest,hacc,hlen,hdn,hrest,htot⟩
 have sH:aX (hid H1 O) (hid H' (D::O)):=fun b o h=>by
  have h2:=sm b o (aE H1 O b o h)
  unfold hid at h ⊢
  by_cases hb:b∈O
  ·rw [if_pos hb] at h; cases h
  ·rw [if_neg hb] at h
   have ne:b≠D:=aT h hD
   rw [if_neg (by intro z; rcases List.mem_cons.mp z with z | z; exact ne z; exact hb z)]; exact h2
 by_cases hlt:i < ds.length
 ·right
  obtain⟨go,yl⟩:=(wk H' (D::O) i E'.all sH).1 ds[i] (by simp [hlt])
  refine⟨go,fun x H2 y=>?_⟩
  obtain⟨s2,dx'⟩:=yl x H2 y
  have E':=E'.same s2
  have sm:=sm.trans s2
  have hacc:=s2 _ _ hacc
  have hdn:=hdn.mono (bx s2)
  rw [Kr hlt,jS] at hrest
  obtain⟨ρ1,g1,hrest⟩:=og hrest
  have g1:=EE g1
  obtain⟨c,c1,hrest⟩:=og hrest
  have c1:=Av c1
  refine⟨D::O,inB ix ρ,ds[i],ρ1,E',dx',g1,fun σ3 E3 _=>?_⟩
  refine⟨D::O,ρ1,c,E3,c1,fun H4 s4=>?_⟩
  have E4:=E3.same s4
  have back:∀ {H5:Hp},cQ X.K (D::O) H5 ρ1 σ3->cQ X.K (D::O) H5 (inB ix ρ) σ3:=fun z=>z.forget fun j x e=>hfill ρ _ _ g1 j x e
  cases c with
  | true =>
   refine Bj ?_
   rw [if_pos rfl] at hrest
   obtain⟨v,v1,hrest⟩:=og hrest
   have v1:=Av v1
   obtain⟨r,r1,hrest⟩:=og hrest
   cases hrest
   refine⟨D::O,ρ1,v,E4,v1,fun w H5 s5 dw=>?_⟩
   have s45:=s4.trans s5
   have ha5:H5 D=some (.lst acc):=s45 _ _ hacc
   have hzl:ds.length < MS:=Kt (of_decide_eq_true hz) (by decide)
   refine⟨acc,ha5,by omega,ds.length - (i+1),by omega,rfl,hlt,?_,?_,acc++[w],dn++[v],r,aN,by rw [JR,JW]; omega,?_,r1,by rw [Ku]; exact htot⟩
   ·intro b o h
    rw [aF (aT h hD)]; exact s45 _ _ (sm _ _ h)
   ·exact back ((E3.same s45).rewrite trivial Jq fun j xs e=>absurd e (hown ρ _ _ g1 j xs))
   ·have s6:aX (hid H5 (D::O)) (hid (upd H5 D (.lst (acc++[w]))) (D::O)):=fG Jq
    exact(hdn.mono ((bx s45).trans s6)).snoc (dw.mono s6)
  | false =>
   refine A0 ?_
   rw [if_neg JB] at hrest
   exact⟨ds.length - (i+1),by omega,rfl,hlt,sm.trans s4,back E4,acc,dn,rest,s4 _ _ hacc,by omega,hdn.mono (bx s4),hrest,htot⟩
 ·left
  have ei:i=ds.length:=by omega
  subst ei
  refine⟨(wk H' (D::O) ds.length E'.all sH).2 rfl,?_⟩
  rw [Kv] at hrest
  cases hrest
  rw [JH] at htot
  subst htot
  exact q D H' _ acc rfl (s1.trans sm) (s1.free hD) hacc hdn
theorem FL (tk:tO ix g):∀ σ H Q,tF X (mC ix G g C Fe) σ H Q->HE (Iw X G) (Gz X.K g) (DN X.K C) (G8 X.K Fe) ix σ H Q:=fun σ H Q h=>Ca tk σ H Q (HN σ H Q h)
theorem II (hc:X.calm=true) (ok:lI X scope N ix) (tk:tO ix g) (hi:FI X tg iter G) (hb:GC X scope N tg elt ifs g C Fe)
  (hs:∀ x,Nb iter X.env x=pure x:=by intro _; rfl):FE X (.ListComp elt [⟨tg,iter,ifs,0⟩] scope pos) (mC ix G g C Fe) :=
 PE.weak (B4 hc ok.cell ok.kind ok.names ok.free ok.ix hi hb.k hs) (FL tk)
end

structure Ks where
 nx:aq->R D
 bk:aq->R D:=fun _=>un
 ct:aq->R D:=fun _=>un
 ex:Ex->aq->R D:=fun x _=>.error (some x)
abbrev cf:=Ks->aq->R D
def pV {α:Type} (r:R α) (k:Ks) (ρ:aq) (f:α->R D):R D:=match r with
 | .ok a=>f a
 | .error (some x)=>k.ex x ρ
 | .error none=>un
structure Base (Hb:Hp) (Ob:List MP) (H:Hp) (O:List MP):Prop where
 same:aX Hb H
 sub:∀ a∈Ob,a∈O
 new:∀ a∈O,a∈Ob\/Hb a=none
def jN (K:LQ) (H:Hp) (O:List MP):List MP->List D->Prop
 | [],[]=>True
 | b::bs,x::xs=>cC K H O b x/\jN K H O bs xs
 | _,_=>False
def uI (K:LQ) (H:Hp) (O:List MP) (a:MP) (bs:List MP) (d:D):Prop :=
 ∃ xs,jN K H O bs xs/\((d=.lst xs/\H a=some (.lst (bs.map .ref)))\/(∃ kvs:List (List Key×V),d=.dct (kvs.map fun p=>.tup (p.1.map aY)) xs/\H a=some (.dT kvs)/\kvs.map (·.2)=bs.map .ref)\/(d=.dct [] xs/\bs=[]/\H a=some (.dK [])))
def xk (K:LQ) (Hb:Hp) (Ob O:List MP) (H:Hp) (ρ:aq) (σ:St) (i:Nat) (d:D):Prop :=
 ∃ a bs,σ[i]?=some (some (.ref a))/\uI K H O a bs d/\(a::bs).Nodup/\(∀ b∈a::bs,b∈O/\Hb b=none/\b∉Ob/\∀ (j:Nat) d',ρ[j]?=some (some (.own d'))->σ[j]?≠some (some (.ref b)))/\∀ (j:Nat) d',ρ[j]?=some (some (.nest d'))->j=i
theorem jN.mono {K:LQ} {H H':Hp} {O O':List MP} (s:aX (hid H O) (hid H' O')):∀ {bs:List MP} {xs:List D},jN K H O bs xs->(∀ b∈bs,(∃ o,H b=some o)->H' b=H b)->jN K H' O' bs xs
 | [],[],_,_=>trivial
 | b::bs,x::xs,h,e=>⟨h.1.mono (e b Jq h.1.some).symm s,jN.mono s h.2 fun b' hb=>e b' (Jr _ hb)⟩
 | [],_::_,h,_=>h.elim
 | _::_,[],h,_=>h.elim
theorem jN.some {K:LQ} {H:Hp} {O:List MP}:∀ {bs:List MP} {xs:List D},jN K H O bs xs->∀ b∈bs,∃ o,H b=some o
 | [],_,_,_,hb=>nomatch hb
 | b::bs,x::xs,h,b',hb=>by
  rcases List.mem_cons.mp hb with z | z
  ·rw [z]; exact h.1.some
  ·exact jN.some h.2 b' z
 | _::_,[],h,_,_=>h.elim
theorem uI.some {K:LQ} {H:Hp} {O:List MP} {a:MP} {bs:List MP} {d:D} (h:uI K H O a bs d):∀ b∈a::bs,∃ o,H b=some o:=fun b hb=>by
 obtain⟨xs,h1,h2⟩:=h
 rcases List.mem_cons.mp hb with z | z
 ·rw [z]
  rcases h2 with ⟨_,q⟩ | ⟨_,_,q,_⟩ | ⟨_,_,q⟩ <;> exact⟨_,q⟩
 ·exact h1.some b z
theorem uI.mono {K:LQ} {H H':Hp} {O O':List MP} {a:MP} {bs:List MP} {d:D} (h:uI K H O a bs d) (s:aX (hid H O) (hid H' O')) (e:∀ b∈a::bs,(∃ o,H b=Option.some o)->H' b=H b):uI K H' O' a bs d:=by
 have ea:=e a Jq (h.some a Jq)
 obtain⟨xs,h1,h2⟩:=h
 refine⟨xs,h1.mono s fun b hb=>e b (Jr _ hb),?_⟩
 rw [ea]; exact h2
theorem xk.to {K:LQ} {Hb Hb':Hp} {Ob O O':List MP} {H H':Hp} {ρ ρ':aq} {σ σ':St} {i:Nat} {d:D} (h:xk K Hb Ob O H ρ σ i d) (hσ:σ'[i]?=σ[i]?) (s:aX (hid H O) (hid H' O'))
  (k:∀ b,b∈O->Hb b=none->b∉Ob->(∀ (j:Nat) d',ρ[j]?=some (some (.own d'))->σ[j]?≠some (some (.ref b)))->(∃ o,H b=some o)->H' b=H b/\b∈O'/\Hb' b=none/\∀ (j:Nat) d',ρ'[j]?=some (some (.own d'))->σ'[j]?≠some (some (.ref b)))
  (n:∀ (j:Nat) d',ρ'[j]?=some (some (.nest d'))->∃ d2,ρ[j]?=some (some (.nest d2))):xk K Hb' Ob O' H' ρ' σ' i d:=by
 obtain⟨a,bs,h1,h2,h3,h4,h5⟩:=h
 refine⟨a,bs,hσ.trans h1,h2.mono s fun b hb ho=>?_,h3,fun b hb=>?_,fun j d' q=>?_⟩
 ·obtain⟨q1,q2,q3,q4⟩:=h4 b hb
  exact(k b q1 q2 q3 q4 ho).1
 ·obtain⟨q1,q2,q3,q4⟩:=h4 b hb
  obtain⟨_,w2,w3,w4⟩:=k b q1 q2 q3 q4 (h2.some b hb)
  exact⟨w2,w3,q3,w4⟩
 ·obtain⟨d2,q⟩:=n j d' q
  exact h5 j d2 q
structure dh (K:LQ) (Hb:Hp) (Ob O:List MP) (H:Hp) (ρ:aq) (σ:St):Prop where
 env:cQ K O H ρ σ
 base:Base Hb Ob H O
 mine:∀ (i:Nat) xs a,ρ[i]?=some (some (.own xs))->σ[i]?=some (some (.ref a))->Hb a=none/\a∉Ob
 nst:∀ (i:Nat) d,ρ[i]?=some (some (.nest d))->xk K Hb Ob O H ρ σ i d
theorem Base.same' {Hb:Hp} {Ob:List MP} {H H':Hp} {O:List MP} (b:Base Hb Ob H O) (s:aX H H'):Base Hb Ob H' O:=⟨b.same.trans s,b.sub,b.new⟩
theorem dh.same {K:LQ} {Hb:Hp} {Ob O:List MP} {H H':Hp} {ρ:aq} {σ:St} (h:dh K Hb Ob O H ρ σ) (s:aX H H'):dh K Hb Ob O H' ρ σ:=⟨h.env.same s,h.base.same' s,h.mine,fun i d q=>(h.nst i d q).to rfl (bx s) (fun b q1 q2 q3 q4 ⟨o,ho⟩=>⟨by rw [ho,s _ _ ho],q1,q2,q4⟩) fun j d' z=>⟨d',z⟩⟩
theorem dh.after {K:LQ} {Hb:Hp} {Ob O:List MP} {H:Hp} {ρ ρ':aq} {σ σ':St} (S:dh K Hb Ob O H ρ σ) (E':cQ K O H ρ' σ') (own:∀ (i:Nat) x,ρ'[i]?=some (some x)->(∀ d,x≠.val d)->σ'[i]?=σ[i]?/\ρ[i]?=some (some x)):dh K Hb Ob O H ρ' σ' :=
 ⟨E',S.base,fun i xs a q1 q2=>by
  obtain⟨w1,w2⟩:=own i _ q1 (fun _ z=>nomatch z)
  rw [w1] at q2
  exact S.mine i xs a w2 q2,fun i d q=>by
  obtain⟨w1,w2⟩:=own i _ q (fun _ z=>nomatch z)
  refine(S.nst i d w2).to w1 (fun _ _ z=>z) (fun b q1 q2 q3 q4 _=>⟨rfl,q1,q2,fun l d' w=>?_⟩) fun l d' w=>⟨d',(own l _ w (fun _ z=>nomatch z)).2⟩
  obtain⟨z1,z2⟩:=own l _ w (fun _ z=>nomatch z)
  rw [z1]; exact q4 l d' z2⟩
structure Gn (X:Cx) (Hb:Hp) (Ob:List MP) (E:Ends) (k:Ks) (r:R D):Prop where
 ne:r≠un
 nx:∀ O ρ σ H,dh X.K Hb Ob O H ρ σ->k.nx ρ=r->E.nx σ H
 bk:∀ O ρ σ H,dh X.K Hb Ob O H ρ σ->k.bk ρ=r->E.bk σ H
 ct:∀ O ρ σ H,dh X.K Hb Ob O H ρ σ->k.ct ρ=r->E.ct σ H
 rt:∀ d O v H,r=.ok d->Base Hb Ob H O->cm X.K (hid H O) d v->E.rt v H
 ex:∀ O ρ σ H x,dh X.K Hb Ob O H ρ σ->k.ex x ρ=r->D3 X σ O H x
def Ii (X:Cx) (Hb:Hp) (Ob:List MP) (F:cf):TS:=fun E σ H=>∃ O ρ k r,dh X.K Hb Ob O H ρ σ/\F k ρ=r/\Gn X Hb Ob E k r
def FS (X:Cx) (st:M2) (F:cf):Prop:=∀ Hb Ob,PS X st (Ii X Hb Ob F)
def vN (X:Cx) (st:List M2) (F:cf):Prop:=∀ Hb Ob,tq X st (Ii X Hb Ob F)
theorem gQ.on {X:Cx} {Hb:Hp} {Ob O:List MP} {H:Hp} {ρ:aq} {σ:St} {E:Ends} {k:Ks} {r:R D} {α:Type} {fr:R α} {G:α->R D} {Q:α->Prop} (h:pV fr k ρ G=r) (hk:Gn X Hb Ob E k r) (S:dh X.K Hb Ob O H ρ σ) (q:∀ a,G a=r->Q a):gQ X σ O H fr Q:=by
 match fr,h with
 | .ok a,h=>exact q a h
 | .error (some x),h=>exact hk.ex O ρ σ H x S h
 | .error none,h=>exact absurd h.symm hk.ne
section
variable {X:Cx} {st:M2} {rest body:List M2} {pos:Pos}
def cS:cf:=fun k ρ=>k.nx ρ
def aQ (F1 F2:cf):cf:=fun k ρ=>F1 { k with nx:=F2 k } ρ
theorem Gh:vN X [] cS:=fun Hb Ob=>tq.weak BD fun E σ H ⟨O,ρ,k,r,S,hF,hk⟩=>hk.nx O ρ σ H S hF
theorem Fp {F1 F2:cf} (h1:FS X st F1) (h2:vN X rest F2):vN X (st::rest) (aQ F1 F2):=fun Hb Ob=>tq.weak (ug (h1 Hb Ob) (h2 Hb Ob)) fun E σ H ⟨O,ρ,k,r,S,hF,hk⟩ =>
 ⟨O,ρ,{ k with nx:=F2 k },r,S,hF,hk.ne,fun O' ρ' σ' H' S' e=>⟨O',ρ',k,r,S',e,hk⟩,hk.bk,hk.ct,hk.rt,hk.ex⟩
theorem Gi {F1:cf} (h1:FS X st F1):vN X [st] F1:=fun Hb Ob=>wA (h1 Hb Ob)
def bT (f:FX):cf:=fun k ρ=>pV (f ρ) k ρ .ok
theorem Ha {e:M0} {f:FX} (h:FE X e f):FS X (.Return (some e) pos) (bT f):=fun Hb Ob=>PS.weak (C8 h) fun E σ H ⟨O,ρ,k,r,S,hF,hk⟩ =>
 ⟨O,ρ,S.env,gQ.on hF hk S fun d e v H' s' d'=>hk.rt d O v H' e.symm (S.base.same' s') d'⟩
def Ef:cf:=fun _ _=>.ok .non
def mJ (c:aq->R Bool) (A B:cf):cf:=fun k ρ=>pV (c ρ) k ρ fun b=>if b then A k ρ else B k ρ
theorem IJ {c:M0} {a b:List M2} {tc:aq->R Bool} {A B:cf} (hc:FT X c tc) (ha:vN X a A) (hb:vN X b B):FS X (.If c a b pos) (mJ tc A B):=fun Hb Ob=>PS.weak (EG hc (ha Hb Ob) (hb Hb Ob)) fun E σ H ⟨O,ρ,k,r,S,hF,hk⟩ =>
 ⟨O,ρ,S.env,gQ.on hF hk S fun z e H1 s1=>by
  cases z with
  | true=>exact Bj ⟨O,ρ,k,r,S.same s1,e,hk⟩
  | false=>exact A0 ⟨O,ρ,k,r,S.same s1,e,hk⟩⟩
def cx (i:Nat) (f:FX):cf:=fun k ρ=>pV (f ρ) k ρ fun d=>k.nx (setV i d ρ)
theorem dh.setV {K:LQ} {Hb:Hp} {Ob O:List MP} {H:Hp} {ρ:aq} {σ:St} (E:dh K Hb Ob O H ρ σ) {i:Nat} {d:D} {v:V} (hi:i < σ.length) (hd:cm K (hid H O) d v):dh K Hb Ob O H (setV i d ρ) (σ.set i (some v)) :=
  ⟨E.env.setV hi hd,E.base,fun j xs a e1 e2=>by
    rcases aP e1 with ⟨_,q⟩ | ⟨ne,q⟩
    · cases q
    · rw [Ju (Ne.symm ne)] at e2
      exact E.mine j xs a q e2,
   fun j dn e=>by
    rcases aP e with ⟨_,q⟩ | ⟨ne,q⟩
    · cases q
    · refine(E.nst j dn q).to (Ju (Ne.symm ne)) (fun _ _ z=>z) (fun b q1 q2 q3 q4 _=>⟨rfl,q1,q2,fun l d' w=>?_⟩) fun l d' w=>?_
      · rcases aP w with ⟨_,z⟩ | ⟨nl,z⟩
        · cases z
        · rw [Ju (Ne.symm nl)]; exact q4 l d' z
      · rcases aP w with ⟨_,z⟩ | ⟨_,z⟩
        · cases z
        · exact⟨d',z⟩⟩
theorem yz {f:FX} {i:Nat} (hi:i < X.N.length) (h:PS X st (Dq (tF X f) (xq i))):FS X st (cx i f):=fun Hb Ob pins s σ H E I ⟨O,ρ,k,r,S,hF,hk⟩ =>
 h pins s σ H E I ⟨O,ρ,S.env,gQ.on hF hk S fun d e v H1 s1 d1=>hk.nx O _ _ H1 ((S.same s1).setV (by rw [I.len]; exact hi) d1) e⟩
theorem Ic {i:Nat} {x:Str} {e:M0} {f:FX} {pos':Pos} (hN:X.N.Nodup) (hi:X.N[i]?=some x) (hx:Loc X.env.scope x) (he:FE X e f) (hs:swapsWith e (some (.Name x pos')) pos.line X.env=pure false:=by rfl) (hf:X.fn x=true\/X.env.scope.names.lookup x=some .local:=by first | exact .inl rfl | exact .inr rfl | assumption) :
  FS X (.Assign [.Name x pos'] e pos) (cx i f):=yz (List.getElem?_eq_some_iff.mp hi).1 (v9 hN hi hx he hs hf)
def kill (is:List Nat) (ρ:aq):aq:=is.foldl (fun ρ i=>ρ.set i none) ρ
theorem ig:∀ (is:List Nat) (ρ:aq) (i:Nat) (x:S),(kill is ρ)[i]?=some (some x)->ρ[i]?=some (some x)
 | [],ρ,i,x,e=>e
 | j::is,ρ,i,x,e=>by
  rcases aP (ig is (ρ.set j none) i x e) with ⟨_,q⟩ | ⟨_,q⟩
  ·cases q
  ·exact q
theorem dh.kill {K:LQ} {Hb:Hp} {Ob O:List MP} {H:Hp} {ρ:aq} {σ:St} (E:dh K Hb Ob O H ρ σ) (is:List Nat):dh K Hb Ob O H (kill is ρ) σ :=
 ⟨E.env.forget (ig is ρ),E.base,fun i xs a e1 e2=>E.mine i xs a (ig is ρ i _ e1) e2,fun i d q=>(E.nst i d (ig is ρ i _ q)).to rfl (fun _ _ z=>z) (fun b q1 q2 q3 q4 _=>⟨rfl,q1,q2,fun l d' w=>q4 l d' (ig is ρ l _ w)⟩) fun l d' w=>⟨d',ig is ρ l _ w⟩⟩
def eN (is:List Nat) (F:cf):cf:=fun k ρ=>F k (kill is ρ)
theorem FH {st:List M2} {F:cf} (is:List Nat) (h:vN X st F):vN X st (eN is F):=fun Hb Ob=>tq.weak (h Hb Ob) fun E σ H ⟨O,ρ,k,r,S,hF,hk⟩=>⟨O,TG.kill is ρ,k,r,S.kill is,hF,hk⟩
end
def jt (g:GF) (B:cf) (k:Ks):List D->aq->R D
 | [],ρ=>k.nx ρ
 | d::ds,ρ=>(rO (g d ρ)).bind fun ρ1=>B ⟨jt g B k ds,k.nx,jt g B k ds,k.ex⟩ ρ1
def ju (G:aq->R (List D)) (g:GF) (B:cf):cf:=fun k ρ=>pV (G ρ) k ρ fun ds=>jt g B k ds ρ
def lb (H:Hp) (O Ob:List MP):Hp:=fun b=>if b∈O/\b∉Ob then none else H b
theorem sB {H:Hp} {O Ob:List MP} {b:MP} (h1:b∈O) (h2:b∉Ob):lb H O Ob b=none:=by unfold lb; rw [if_pos ⟨h1,h2⟩]
theorem BA {H:Hp} {O Ob:List MP} {b:MP} {o:HO} (h:lb H O Ob b=some o):H b=some o/\¬ (b∈O/\b∉Ob):=by
 unfold lb at h
 split at h
 ·cases h
 ·rename_i n; exact⟨h,n⟩
theorem zB {H:Hp} {O Ob:List MP} {b:MP} {o:HO} (h:H b=some o) (n:¬ (b∈O/\b∉Ob)):lb H O Ob b=some o:=by unfold lb; rw [if_neg n]; exact h
theorem Base.loop {Hb:Hp} {Ob:List MP} {H:Hp} {O:List MP} (b:Base Hb Ob H O):Base (lb H O Ob) Ob H O :=
 ⟨fun c o h=>(BA h).1,b.sub,fun a ha=>by
  by_cases h:a∈Ob
  ·exact .inl h
  ·exact .inr (sB ha h)⟩
theorem Base.back {Hb:Hp} {Ob:List MP} {H H':Hp} {O O':List MP} (b:Base Hb Ob H O) (b':Base (lb H O Ob) Ob H' O'):Base Hb Ob H' O':=by
 have up:aX Hb (lb H O Ob):=fun c o h=>zB (b.same c o h) fun ⟨z1,z2⟩=>by
  rcases b.new c z1 with z | z
  ·exact z2 z
  ·rw [z] at h; cases h
 exact⟨up.trans b'.same,b'.sub,fun a ha=>(b'.new a ha).imp id up.free⟩
theorem dh.loop {K:LQ} {Hb:Hp} {Ob O:List MP} {H:Hp} {ρ:aq} {σ:St} (E:dh K Hb Ob O H ρ σ):dh K (lb H O Ob) Ob O H ρ σ :=
 ⟨E.env,E.base.loop,fun i xs a e1 e2=>by
  obtain⟨_,n⟩:=E.mine i xs a e1 e2
  obtain⟨a',e3,e4,_⟩:=E.env.own i xs e1
  rw [e2] at e3; cases e3
  exact⟨sB e4 n,n⟩,fun i d q=>(E.nst i d q).to rfl (fun _ _ z=>z) (fun b q1 q2 q3 q4 _=>⟨rfl,q1,sB q1 q3,q4⟩) fun l d' w=>⟨d',w⟩⟩
theorem dh.back {K:LQ} {Hb:Hp} {Ob O O':List MP} {H H':Hp} {ρ':aq} {σ':St} (b:Base Hb Ob H O) (E:dh K (lb H O Ob) Ob O' H' ρ' σ'):dh K Hb Ob O' H' ρ' σ' :=
 have up:aX Hb (lb H O Ob):=fun c o h=>zB (b.same c o h) fun ⟨z1,z2⟩=>by
  rcases b.new c z1 with z | z
  ·exact z2 z
  ·rw [z] at h; cases h
 ⟨E.env,b.back E.base,fun i xs a e1 e2=>by
  obtain⟨z,n⟩:=E.mine i xs a e1 e2
  exact⟨up.free z,n⟩,fun i d q=>(E.nst i d q).to rfl (fun _ _ z=>z) (fun b q1 q2 q3 q4 _=>⟨rfl,q1,up.free q2,q4⟩) fun l d' w=>⟨d',w⟩⟩
theorem zC {Hb:Hp} {Ob O O':List MP} {H H':Hp} (b:Base Hb Ob H O) (b':Base (lb H O Ob) Ob H' O'):aX (hid H O) (hid H' O'):=fun c o h=>by
 unfold hid at h ⊢
 by_cases hc:c∈O
 ·rw [if_pos hc] at h; cases h
 ·rw [if_neg hc] at h
  have h1:lb H O Ob c=some o:=zB h fun z=>hc z.1
  rw [if_neg]
  ·exact b'.same _ _ h1
  ·intro z
   rcases b'.new c z with z | z
   ·exact hc (b.sub c z)
   ·rw [h1] at z; cases z
theorem Gn.loop {X:Cx} {Hb:Hp} {Ob O:List MP} {H:Hp} {E E':Ends} {k k':Ks} {r:R D} (hk:Gn X Hb Ob E k r) (b:Base Hb Ob H O) (hn:∀ O' ρ' σ' H',dh X.K (lb H O Ob) Ob O' H' ρ' σ'->k'.nx ρ'=r->E'.nx σ' H') (hc:∀ O' ρ' σ' H',dh X.K (lb H O Ob) Ob O' H' ρ' σ'->k'.ct ρ'=r->E'.ct σ' H')
    (eb:k'.bk=k.nx) (ee:k'.ex=k.ex) (Eb:E'.bk=E.nx) (Er:E'.rt=E.rt):Gn X (lb H O Ob) Ob E' k' r :=
  ⟨hk.ne,hn,fun O' ρ' σ' H' S e=>by rw [Eb]; exact hk.nx O' ρ' σ' H' (S.back b) (by rw [<- eb]; exact e),hc,fun d O' v H' e b' dv=>by rw [Er]; exact hk.rt d O' v H' e (b.back b') dv,
   fun O' ρ' σ' H' x S e=>hk.ex O' ρ' σ' H' x (S.back b) (by rw [<- ee]; exact e)⟩
section
variable {X:Cx} {st:M2} {rest body:List M2} {pos:Pos}
theorem GZ {tg iter:M0} {G:aq->R (List D)} {g:GF} {B:cf} (hp:M9 (model X.prog X.w) X.A X.env X.xe) (hc:X.calm=true) (hi:FI X tg iter G) (hg:FG X tg g) (hb:vN X body B)
  (hs:∀ x,Nb iter X.env x=pure x:=by intro _; rfl):FS X (.For tg iter body [] pos) (ju G g B):=fun Hb Ob pins s σ H E I ⟨O,ρ,k,r,S,hF,hk⟩=>by
 have hall:tq X body (fun E σ H=>∃ Hb',Ii X Hb' Ob B E σ H):=fun pins s σ H E I ⟨Hb',q⟩=>hb Hb' Ob pins s σ H E I q
 refine Ct hp hc hi hg hall hs pins s σ H E I ⟨O,ρ,S.env,gQ.on hF hk S fun ds hF J H1 s1 wk=>?_⟩
 have E1:=S.same s1
 refine⟨fun i m σ H=>m=ds.length - i/\i<=ds.length/\∃ O' ρ',dh X.K (lb H1 O Ob) Ob O' H ρ' σ/\jt g B k (ds.drop i) ρ'=r,
  ⟨ds.length,by rw [Kp],JG _,O,ρ,E1.loop,by rw [Kc]; exact hF⟩,?_⟩
 rintro i m σ' H' ⟨rfl,hi',O',ρ',E',hr⟩
 have sD:=zC E1.base E'.base
 by_cases hlt:i < ds.length
 ·right
  obtain⟨go,yl⟩:=(wk H' O' i E'.env.all sD).1 ds[i] (by simp [hlt])
  refine⟨go,fun σ2 H2=>ds.length - (i+1)=ds.length - (i+1)/\i+1<=ds.length/\∃ O' ρ',dh X.K (lb H1 O Ob) Ob O' H2 ρ' σ2/\jt g B k (ds.drop (i+1)) ρ'=r,fun σ2 H2 z=>⟨ds.length - (i+1),by omega,z⟩,fun x H2 y=>?_⟩
  obtain⟨s2,dx⟩:=yl x H2 y
  have E':=E'.same s2
  rw [Kr hlt] at hr
  cases hg':g ds[i] ρ' with
  | none =>
   have hr':(rO (g ds[i] ρ')).bind (fun ρ1=>B ⟨jt g B k (ds.drop (i+1)),k.nx,jt g B k (ds.drop (i+1)),k.ex⟩ ρ1)=r:=hr
   rw [hg'] at hr'
   exact absurd hr'.symm hk.ne
  | some ρ1 =>
   have hr':(rO (g ds[i] ρ')).bind (fun ρ1=>B ⟨jt g B k (ds.drop (i+1)),k.nx,jt g B k (ds.drop (i+1)),k.ex⟩ ρ1)=r:=hr
   rw [hg'] at hr'
   refine⟨O',ρ',ds[i],ρ1,E'.env,dx,hg',fun σ3 E3 own=>?_⟩
   have E3':dh X.K (lb H1 O Ob) Ob O' H2 ρ1 σ3:=E'.after E3 own
   exact⟨lb H1 O Ob,O',ρ1,⟨jt g B k (ds.drop (i+1)),k.nx,jt g B k (ds.drop (i+1)),k.ex⟩,r,E3',hr',hk.loop E1.base (fun O4 ρ4 σ4 H4 E4 z=>⟨rfl,hlt,O4,ρ4,E4,z⟩) (fun O4 ρ4 σ4 H4 E4 z=>⟨rfl,hlt,O4,ρ4,E4,z⟩) rfl rfl rfl rfl⟩
 ·left
  have ei:i=ds.length:=by omega
  subst ei
  refine⟨(wk H' O' ds.length E'.env.all sD).2 rfl,?_⟩
  rw [Kv] at hr
  exact hk.nx O' ρ' σ' H' (E'.back E1.base) hr
end
end TG
namespace TG
open PySem PySem.Spec L2
variable [aM]

theorem dh.setO {K:LQ} {Hb:Hp} {Ob O:List MP} {H:Hp} {ρ:aq} {σ:St} (E:dh K Hb Ob O H ρ σ) {i:Nat} {d d':D} {a:MP} {o:HO} (hi:ρ[i]?=some (some (.own d))) (ha:σ[i]?=some (some (.ref a))) (m:oN o) (new:cC K (upd H a o) O a d') :
  dh K Hb Ob O (upd H a o) (ρ.set i (some (.own d'))) σ:=by
 obtain⟨a',ha',haO,hat⟩:=E.env.own i d hi
 rw [ha] at ha'; cases ha'
 obtain⟨m1,m2⟩:=E.mine i d a hi ha
 have s:aX (hid H O) (hid (upd H a o) O):=fG haO
 have own:∀ (j:Nat) ys,(ρ.set i (some (.own d')))[j]?=some (some (.own ys))->∃ ys',ρ[j]?=some (some (.own ys')):=fun j ys q=>by
  rcases aP q with ⟨hj,_⟩ | ⟨_,q⟩
  ·rw [hj]; exact⟨d,hi⟩
  ·exact⟨ys,q⟩
 refine⟨⟨fun j d1 e=>?_,fun j ys e=>?_,fun j l ys zs b q1 q2 q3 q4=>?_,E.env.all.upd haO m⟩,⟨fun b u h=>?_,E.base.sub,E.base.new⟩,fun j ys b q1 q2=>?_,fun j dn q=>?_⟩
 ·rcases aP e with ⟨_,q⟩ | ⟨ne,q⟩
  ·cases q
  ·obtain⟨w,q1,q2⟩:=E.env.val j d1 q
   exact⟨w,q1,q2.mono s⟩
 ·rcases aP e with ⟨hj,q⟩ | ⟨ne,q⟩
  ·cases q
   rw [hj]
   exact⟨a,ha,haO,new⟩
  ·obtain⟨b,q1,q2,q3⟩:=E.env.own j ys q
   have nb:b≠a:=fun z=>ne (E.env.one j i ys d a q hi (by rw [<- z]; exact q1) ha)
   exact⟨b,q1,q2,q3.mono (by rw [aF nb]) s⟩
 ·obtain⟨_,q1'⟩:=own j ys q1
  obtain⟨_,q2'⟩:=own l zs q2
  exact E.env.one j l _ _ b q1' q2' q3 q4
 ·have nb:b≠a:=fun z=>by rw [z,m1] at h; cases h
  rw [aF nb]; exact E.base.same b u h
 ·obtain⟨ys',q⟩:=own j ys q1
  exact E.mine j ys' b q q2
 ·have q:ρ[j]?=some (some (.nest dn)):=by
   rcases aP q with ⟨_,z⟩ | ⟨_,z⟩
   ·cases z
   ·exact z
  refine(E.nst j dn q).to rfl s (fun b q1 q2 q3 q4 _=>⟨aF fun z=>q4 i d hi (by rw [z]; exact ha),q1,q2,fun l d1 w=>?_⟩) fun l d1 w=>?_
  ·obtain⟨_,w'⟩:=own l d1 w
   exact q4 l _ w'
  ·rcases aP w with ⟨_,z⟩ | ⟨_,z⟩
   ·cases z
   ·exact⟨d1,z⟩
theorem dh.setNew {K:LQ} {Hb:Hp} {Ob O:List MP} {H H':Hp} {ρ:aq} {σ:St} (E:dh K Hb Ob O H ρ σ) {i:Nat} {d:D} {p:MP} (hi:i < σ.length) (sm:aX H H') (hp:H p=none) (m:∃ o,H' p=some o/\oN o) (new:cC K H' (p::O) p d) :
  dh K Hb Ob (p::O) H' (ρ.set i (some (.own d))) (σ.set i (some (.ref p))):=by
 have hpO:p∉O:=E.env.all.not hp
 have s:aX (hid H O) (hid H' (p::O)):=fun b o h=>by
  unfold hid at h ⊢
  by_cases hb:b∈O
  ·rw [if_pos hb] at h; cases h
  ·rw [if_neg hb] at h
   have ne:=aT h hp
   rw [if_neg (by intro z; rcases List.mem_cons.mp z with z | z; exact ne z; exact hb z)]; exact sm _ _ h
 have other:∀ (j:Nat) xs,ρ[j]?=some (some (.own xs))->σ[j]?≠some (some (.ref p)):=fun j xs e z=>by
  obtain⟨a,e1,e2,e3⟩:=E.env.own j xs e
  rw [z] at e1; cases e1
  obtain⟨o,e3⟩:=e3.some
  rw [hp] at e3; cases e3
 refine⟨⟨fun j d' e=>?_,fun j xs e=>?_,fun j k xs ys a e1 e2 e3 e4=>?_,⟨(E.env.all.same sm).1,fun a ha=>?_⟩⟩,⟨E.base.same.trans sm,fun a ha=>Jr _ (E.base.sub a ha),fun a ha=>?_⟩,fun j xs a e1 e2=>?_,fun j dn e=>?_⟩
 ·rcases aP e with ⟨_,q⟩ | ⟨ne,q⟩
  ·cases q
  ·obtain⟨v,q1,q2⟩:=E.env.val j d' q
   exact⟨v,by rw [Ju (Ne.symm ne)]; exact q1,q2.mono s⟩
 ·rcases aP e with ⟨hj,q⟩ | ⟨ne,q⟩
  ·cases q
   rw [hj]
   exact⟨p,Jt hi,Jq,new⟩
  ·obtain⟨a,q1,q2,q3⟩:=E.env.own j xs q
   obtain⟨o,ho⟩:=q3.some
   exact⟨a,by rw [Ju (Ne.symm ne)]; exact q1,Jr _ q2,q3.mono (ot sm ho) s⟩
 ·rcases aP e1 with ⟨hj,q1⟩ | ⟨nj,q1⟩
  ·rcases aP e2 with ⟨hk,q2⟩ | ⟨nk,q2⟩
   ·exact hj.trans hk.symm
   ·rw [hj,Jt hi] at e3
    cases e3
    rw [Ju (Ne.symm nk)] at e4
    exact absurd e4 (other k ys q2)
  ·rcases aP e2 with ⟨hk,q2⟩ | ⟨nk,q2⟩
   ·rw [hk,Jt hi] at e4
    cases e4
    rw [Ju (Ne.symm nj)] at e3
    exact absurd e3 (other j xs q1)
   ·rw [Ju (Ne.symm nj)] at e3
    rw [Ju (Ne.symm nk)] at e4
    exact E.env.one j k xs ys a q1 q2 e3 e4
 ·rcases List.mem_cons.mp ha with rfl | ha
  ·exact m
  ·exact(E.env.all.same sm).2 a ha
 ·rcases List.mem_cons.mp ha with rfl | ha
  ·exact .inr (E.base.same.free hp)
  ·exact E.base.new a ha
 ·rcases aP e1 with ⟨hj,q1⟩ | ⟨nj,q1⟩
  ·rw [hj,Jt hi] at e2
   cases e2
   exact⟨E.base.same.free hp,fun z=>hpO (E.base.sub p z)⟩
  ·rw [Ju (Ne.symm nj)] at e2
   exact E.mine j xs a q1 e2
 ·rcases aP e with ⟨_,q⟩ | ⟨ne,q⟩
  ·cases q
  ·refine(E.nst j dn q).to (Ju (Ne.symm ne)) s (fun b q1 q2 q3 q4 ⟨o,ho⟩=>⟨by rw [ho,sm _ _ ho],Jr _ q1,q2,fun l d1 w=>?_⟩) fun l d1 w=>?_
   ·rcases aP w with ⟨hl,z⟩ | ⟨nl,z⟩
    ·rw [hl,Jt hi]
     intro z
     cases z
     rw [hp] at ho; cases ho
    ·rw [Ju (Ne.symm nl)]; exact q4 l d1 z
   ·rcases aP w with ⟨_,z⟩ | ⟨_,z⟩
    ·cases z
    ·exact⟨d1,z⟩
def HI (X:Cx) (F:FX):TE:=fun σ H Q=>∃ O ρ,cQ X.K O H ρ σ/\gQ X σ O H (F ρ) fun d=>∀ p H',aX H H'->H p=none->(∃ o,H' p=some o/\oN o)->cC X.K H' (p::O) p d->Q (.ref p) H'
def FN (X:Cx) (e:M0) (F:FX):Prop:=PE X e (HI X F)
section
variable {X:Cx} {pos:Pos}
theorem tW {K:LQ} {H:Hp} {O:List MP} {p:MP} {ds:List D} {vs:List V} (hp:H p=none) (d:aL K (hid H O) ds vs):cC K (upd H p (.lst vs)) (p::O) p (.lst ds):=⟨_,vs,aN,rfl,d.mono (o3 hp)⟩
theorem GH {es:List M0} {g:aq->R (List D)} (h:FA X es g):FN X (.List es pos) (jb g) :=
 PE.weak (u9 h) fun σ H Q ⟨O,ρ,E,hF⟩=>⟨O,ρ,E,(gQ.bind hF).imp fun xs hF vs H1 s1 d1=>by
  obtain⟨d,e,q⟩:=gQ.rO hF
  obtain⟨hz,e⟩:=bv e
  subst e
  refine⟨by rw [<- d1.length]; exact cT hz,fun p hp=>?_⟩
  exact q p _ (s1.trans (bC hp _)) (s1.free hp) ⟨_,aN,trivial⟩ (tW hp d1)⟩
def qq:FX:=fun _=>.ok (.dct [] [])
theorem zW:FN X (.Dict [] [] pos) qq:=PE.weak yZ fun σ H Q ⟨O,ρ,E,q⟩ p hp=>q p _ (bC hp _) hp ⟨_,aN,trivial⟩ ⟨_,[],aN,cF.mpr rfl,.inr ⟨[],rfl,rfl,rfl⟩⟩
def lZ (i:Nat) (f:FX):cf:=fun k ρ=>pV (f ρ) k ρ fun d=>k.nx (ρ.set i (some (.own d)))
theorem xM {st:M2} {f:FX} {i:Nat} (hi:i < X.N.length) (h:PS X st (Dq (HI X f) (xq i))):FS X st (lZ i f):=fun Hb Ob pins s σ H E I ⟨O,ρ,k,r,S,hF,hk⟩ =>
 h pins s σ H E I ⟨O,ρ,S.env,gQ.on hF hk S fun d e p H1 s1 hp m o=>hk.nx _ _ _ H1 (S.setNew (by rw [I.len]; exact hi) s1 hp m o) e⟩
theorem Ig {i:Nat} {x:Str} {e:M0} {f:FX} {pos':Pos} (hN:X.N.Nodup) (hi:X.N[i]?=some x) (hx:Loc X.env.scope x) (he:FN X e f) (hs:swapsWith e (some (.Name x pos')) pos.line X.env=pure false:=by rfl) (hf:X.fn x=true\/X.env.scope.names.lookup x=some .local:=by first | exact .inl rfl | exact .inr rfl | assumption) :
  FS X (.Assign [.Name x pos'] e pos) (lZ i f):=xM (List.getElem?_eq_some_iff.mp hi).1 (v9 hN hi hx he hs hf)
end
theorem EA {X:Cx} {F:FX}:∀ σ H Q,HI X F σ H Q->Iy X F σ H Q:=fun σ H Q ⟨O,ρ,E,hF⟩=>⟨O,ρ,E,hF.imp fun d q D H' total acc e sm hD hD' dn=>by
 subst e
 exact q D H' sm hD ⟨_,hD',trivial⟩ ⟨_,acc,hD',rfl,dn⟩⟩
theorem IH {X:Cx} {elt tg iter:M0} {ifs:List M0} {scope:MY} {pos:Pos} {N:List Str} {ix:List (Option Nat)} {G:aq->R (List D)} {g:GF} {C:aq->R Bool} {Fe:FX} (hc:X.calm=true) (ok:lI X scope N ix) (tk:tO ix g) (hi:FI X tg iter G) (hb:GC X scope N tg elt ifs g C Fe)
  (hs:∀ x,Nb iter X.env x=pure x:=by intro _; rfl):FN X (.ListComp elt [⟨tg,iter,ifs,0⟩] scope pos) (mC ix G g C Fe) :=
 PE.weak (B4 hc ok.cell ok.kind ok.names ok.free ok.ix hi hb.k hs) fun σ H Q q=>Ca tk σ H _ (EA σ H _ q)
def yH (i:Nat) (u:List D->List D->Option (List D)) (f:aq->R (List D)):cf:=fun k ρ=>match ρ[i]? with
 | some (some (.own (.lst xs)))=>pV (f ρ) k ρ fun ds=>(rO (u xs ds)).bind fun ys=>k.nx (ρ.set i (some (.own (.lst ys))))
 | _=>un
def zq (K:LQ) (r:V->List V->Hp->VK->Prop) (u:List D->List D->Option (List D)):Prop :=
 ∀ (H:Hp) (O:List MP) (a:MP) (xs ys as:List D) (ws vs:List V) (Q:VK),dg H O->a∈O->H a=some (.lst ws)->aL K (hid H O) xs ws->aL K (hid H O) as vs->u xs as=some ys->(∀ ws' v,aL K (hid H O) ys ws'->Q v (upd H a (.lst ws')))->r (.ref a) vs H Q
theorem nP {K:LQ} {H:Hp} {O:List MP} {a:MP} {ys:List D} {ws:List V} (ha:a∈O) (h:aL K (hid H O) ys ws):cC K (upd H a (.lst ws)) O a (.lst ys):=⟨_,ws,aN,rfl,h.mono (fG ha)⟩
theorem Iz {X:Cx} {i:Nat} {x m:Str} {id:String} {r:V->List V->Hp->VK->Prop} {u:List D->List D->Option (List D)} {e:M0} {es:List M0} {f:aq->R (List D)} {npos apos cpos pos:Pos} (slot:Slot "list" m id) (hty:typeOf (.builtin id)=pure (.type "method_descriptor")) (hm:Fz X id r) (ok:zq X.K r u) (hx:PE X (.Name x npos) (nq i)) (he:FA X (e::es) f)
  (hbase:Nk (.Name x npos) m X.env (eval (.Name x npos) X.env)=eval (.Name x npos) X.env:=by rfl)
  (hfew:((backTo cpos (M1 (e::es) X.env)).all (fun x=>!x.1) && (backToKw cpos (Nn [] X.env)).all (fun x=>x.1.isSome)
   && decide ((e::es:List M0).length+([]:List NI).length+(if ([]:List NI).isEmpty then 0 else 1) < 30))=true:=by rfl)
  (hline:(apos.endLine==cpos.line)=true:=by rfl) (hs:M1 (e::es) X.env=(false,eval e X.env)::M1 es X.env:=by rfl) (hplain:(backTo cpos (M1 es X.env)).any (·.1)=false:=by rfl)
  (hsw:swapsWith (.Call (.Attribute (.Name x npos) m apos) (e::es) [] cpos) none pos.line X.env=pure false:=by rfl) :
  FS X (.Expr (.Call (.Attribute (.Name x npos) m apos) (e::es) [] cpos) pos) (yH i u f):=fun Hb Ob pins s σ H E I ⟨O,ρ,k,rr,S,hF,hk⟩=>by
 unfold yH at hF
 split at hF
 ·rename_i xs hxs
  obtain⟨a,ha,haO,hat⟩:=S.env.own i _ hxs
  obtain⟨o,vs0,ho,eo,dn⟩:=hat
  subst eo
  refine sk (wt F.plainAttrs_list slot hty hm hx he hbase hfew hline hs hplain) hsw pins s σ H E I ⟨.ref a,ha,.inl ⟨rfl,vs0,lU.of ho⟩,O,ρ,S.env,gQ.on hF hk S fun ds hr vs H1 s1 d1=>?_⟩
  have S1:=S.same s1
  cases hu1:u xs ds with
  | none=>rw [hu1] at hr; exact absurd hr.symm hk.ne
  | some ys =>
   rw [hu1] at hr
   exact ok H1 O a xs ys ds vs0 vs _ S1.env.all haO (s1 _ _ ho) (dn.mono (bx s1)) d1 hu1 fun ws' v new=>hk.nx O _ σ _ (S1.setO hxs ha trivial (nP haO new)) hr
 ·exact absurd hF.symm hk.ne
def fV (xs:List D) (ds:List D):Option (List D):=match ds with
 | [y]=>if small (xs.length+1) then some (xs++[y]) else none
 | _=>none
theorem eP {K:LQ}:zq K rK fV:=fun H O a xs ys as ws vs Q hO haO ha dx da hu q=>by
 unfold fV at hu
 split at hu
 ·rename_i y
  obtain⟨h1,h2⟩:=bv hu
  subst h2
  obtain⟨v,rfl,dv⟩:=da.one
  have:=cT h1
  rw [dx.length] at this
  exact⟨a,ws,v,rfl,rfl,ha,by omega,q _ _ (dx.snoc dv)⟩
 ·cases hu
def frz (i:Nat) (ρ:aq):aq:=match ρ[i]? with
 | some (some (.own d))=>setV i d ρ
 | _=>ρ
theorem cQ.frz {K:LQ} {O:List MP} {H:Hp} {ρ:aq} {σ:St} (E:cQ K O H ρ σ) (i:Nat):∃ O',cQ K O' H (frz i ρ) σ/\(∀ b∈O',b∈O)/\∀ b∈O,b∉O'->∃ d,ρ[i]?=some (some (.own d))/\σ[i]?=some (some (.ref b)):=by
 unfold TG.frz
 split
 ·rename_i d hd
  obtain⟨a,ha,haO,hat⟩:=E.own i d hd
  have sub:∀ b∈O.filter (fun b=>decide (b≠a)),b∈O:=fun b hb=>(List.mem_filter.mp hb).1
  have s:aX (hid H O) (hid H (O.filter fun b=>decide (b≠a))):=gP sub
  have na:a∉O.filter fun b=>decide (b≠a):=fun z=>absurd rfl (of_decide_eq_true (List.mem_filter.mp z).2)
  refine⟨O.filter fun b=>decide (b≠a),⟨fun j d' e=>?_,fun j ys e=>?_,fun j l ys zs b q1 q2 q3 q4=>?_,⟨E.all.1,fun b hb=>E.all.2 b (sub b hb)⟩⟩,sub,fun b hb nb=>?_⟩
  ·rcases aP e with ⟨hj,q⟩ | ⟨ne,q⟩
   ·cases q
    rw [hj]
    exact⟨.ref a,ha,hat.den s na⟩
   ·obtain⟨w,q1,q2⟩:=E.val j d' q
    exact⟨w,q1,q2.mono s⟩
  ·rcases aP e with ⟨_,q⟩ | ⟨ne,q⟩
   ·cases q
   ·obtain⟨b,q1,q2,q3⟩:=E.own j ys q
    have nb:b≠a:=fun z=>ne (E.one j i ys d a q hd (by rw [<- z]; exact q1) ha)
    exact⟨b,q1,List.mem_filter.mpr ⟨q2,decide_eq_true nb⟩,q3.mono rfl s⟩
  ·rcases aP q1 with ⟨_,q⟩ | ⟨_,q⟩
   ·cases q
   ·rcases aP q2 with ⟨_,q'⟩ | ⟨_,q'⟩
    ·cases q'
    ·exact E.one j l ys zs b q q' q3 q4
  ·by_cases z:b=a
   ·exact⟨d,hd,by rw [z]; exact ha⟩
   ·exact absurd (List.mem_filter.mpr ⟨hb,decide_eq_true z⟩) nb
 ·exact⟨O,E,fun _ z=>z,fun b hb nb=>absurd hb nb⟩
theorem dh.frz {K:LQ} {Hb:Hp} {Ob O:List MP} {H:Hp} {ρ:aq} {σ:St} (E:dh K Hb Ob O H ρ σ) (i:Nat):∃ O',dh K Hb Ob O' H (frz i ρ) σ:=by
 obtain⟨O',E',sub,gone⟩:=E.env.frz i
 refine⟨O',E',⟨E.base.same,fun a ha=>?_,fun a ha=>E.base.new a (sub a ha)⟩,fun j xs a q1 q2=>?_,fun j dn q1=>?_⟩
 ·by_cases z:a∈O'
  ·exact z
  ·obtain⟨d,e1,e2⟩:=gone a (E.base.sub a ha) z
   exact absurd ha (E.mine i d a e1 e2).2
 ·have q:ρ[j]?=some (some (.own xs)):=by
   unfold TG.frz at q1
   split at q1
   ·rcases aP q1 with ⟨_,q⟩ | ⟨_,q⟩
    ·cases q
    ·exact q
   ·exact q1
  exact E.mine j xs a q q2
 ·have bk:∀ (l:Nat) x,(TG.frz i ρ)[l]?=some (some x)->(∀ d,x≠.val d)->ρ[l]?=some (some x):=fun l x e nv=>by
   unfold TG.frz at e
   split at e
   ·rcases aP e with ⟨_,q⟩ | ⟨_,q⟩
    ·cases q; exact absurd rfl (nv _)
    ·exact q
   ·exact e
  refine(E.nst j dn (bk j _ q1 (fun _ z=>nomatch z))).to rfl (gP sub) (fun b w1 w2 w3 w4 _=>⟨rfl,?_,w2,fun l d1 w=>w4 l d1 (bk l _ w (fun _ z=>nomatch z))⟩) fun l d1 w=>⟨d1,bk l _ w (fun _ z=>nomatch z)⟩
  by_cases z:b∈O'
  ·exact z
  ·obtain⟨d,e1,e2⟩:=gone b w1 z
   exact absurd e2 (w4 i d e1)
def gI (i:Nat) (F:cf):cf:=fun k ρ=>F k (frz i ρ)
theorem Ga {X:Cx} {st:List M2} {F:cf} (i:Nat) (h:vN X st F):vN X st (gI i F):=fun Hb Ob=>tq.weak (h Hb Ob) fun E σ H ⟨O,ρ,k,r,S,hF,hk⟩=>by
 obtain⟨O',S'⟩:=S.frz i
 exact⟨O',TG.frz i ρ,k,r,S',hF,hk⟩
def frzs (is:List Nat) (ρ:aq):aq:=is.foldl (fun ρ i=>frz i ρ) ρ
theorem cQ.frzs {K:LQ} {H:Hp} {σ:St}:∀ (is:List Nat) {O:List MP} {ρ:aq},cQ K O H ρ σ->∃ O',cQ K O' H (frzs is ρ) σ
 | [],O,_,E=>⟨O,E⟩
 | i::is,_,_,E=>by
  obtain⟨O',E',_⟩:=E.frz i
  exact cQ.frzs is E'
def jL (is:List Nat) (f:aq->R Bool):aq->R Bool:=fun ρ=>yF (f (frzs is ρ))
theorem FQ {X:Cx} {e:M0} {f:aq->R Bool} (is:List Nat) (h:FT X e f):FT X e (jL is f):=PT.weak h fun σ H Q ⟨O,ρ,E,hF⟩=>by
 obtain⟨O',E'⟩:=E.frzs is
 refine⟨O',TG.frzs is ρ,E',?_⟩
 unfold jL at hF
 cases hf:f (TG.frzs is ρ) with
 | error z=>rw [hf] at hF; exact hF.elim
 | ok d=>rw [hf] at hF; exact hF
end TG
namespace TG
open PySem PySem.Spec L2
variable [aM]

def yY (K:LQ) (n:Nat) (g:List D->R D):Sp:=fun vs H Q E=>∃ O ds,vs.length=n/\dg H O/\aL K (hid H O) ds vs/\match g ds with
 | .ok d=>∀ v H',aX H H'->cm K (hid H' O) d v->Q v H'
 | .error (some x)=>Hu K H O x E
 | .error none=>False
section
variable {X:Cx} {k:Nat} {f C:MP} {fd:Nq} {ps:List Str} {sp:Sp} {x m:Str} {p pos apos:Pos} {e o:M0} {es:List M0} {ta:TE} {t:TA}
theorem w8 {pins:List (MP×Obj)} {σ:St} {H:Hp} {s:MX} {Q:VK} {E:XK} {us:List MM} {vs:List V} (F:hX X.prog X.w X.K X.mg X.base (mS X.prog X.w) k f fd ps sp) (hr:e7 k X.A) (hb:Binds X.K fd ps []) (hx:jA (mS X.prog X.w) X σ E)
  (I:Inv X pins σ H s) (r:Vals vs us) (h:sp vs H Q E):MZ (model X.prog X.w) X.A (call (.ref f) us) (EP X pins σ Q) X.xe s:=by
 have hl:(us++[]).length=ps.length:=by rw [JH,<- r.length]; exact F.len _ _ _ _ h
 have hb':=hb s us I.kIn hl
 rw [JH] at hb'
 refine wpAny_call (Nt (F.run X.A X.stack s H ⟨us,[]⟩ us vs Q E hr I.env0 hb' r h) fun r s' hq=>?_)
 cases r with
 | error e=>exact hx pins H s e s' I hq
 | ok fl =>
  cases fl with
  | ret u=>exact I.after hq
  | next=>exact False.elim hq
  | brk=>exact False.elim hq
  | cont=>exact False.elim hq
def zt (X:Cx) (sp:Sp) (t:TA):TE:=fun σ H Q=>t σ H fun vs H1=>∃ E,jA (mS X.prog X.w) X σ E/\sp vs H1 Q E
theorem zb (F:hX X.prog X.w X.K X.mg X.base (mS X.prog X.w) k f fd ps sp) (hr:e7 k X.A) (hg:Gl X x) (hm:X.mg x=some (.ref f)) (hk:L6 X.K (.ref f)=true) (hb:Binds X.K fd ps [])
  (ha:PA X (e::es) t) (hdb:(x==("__debug__":Str))=false:=by decide) (he:M1 (e::es) X.env=(false,eval e X.env)::M1 es X.env:=by rfl) (hpl:(backTo pos (M1 es X.env)).any (·.1)=false:=by rfl) :
  PE X (.Call (.Name x p) (e::es) [] pos) (zt X sp t):=by
 intro pins s σ H Q I h
 refine Nu (xh I hg hm ?_ hdb)
 refine L7 (h₀:=X.base) I.ok.mod.kin hk (dH (ha pos pins s σ H _ I h) fun us s1 ⟨vs,H1,I1,r,E,hx,q⟩=>⟨I1.kIn,?_⟩) he hpl
 exact w8 F hr hb hx I1 r q
theorem yD {n:Nat} {g:List D->R D} {f:aq->R (List D)} (hn:∀ ds,g ds≠un->ds.length=n):∀ σ H Q,tF X (fR g f) σ H Q->zt X (yY X.K n g) (FV X f) σ H Q:=fun σ H Q ⟨O,ρ,E,hF⟩ =>
 ⟨O,ρ,E,(gQ.bind hF).imp fun ds hF vs H1 s1 d1=>by
  cases hg:g ds with
  | ok d =>
   rw [hg] at hF
   refine⟨E0,wO,O,ds,by rw [<- d1.length]; exact hn ds (by rw [hg]; intro z; cases z),E.all.same s1,d1,?_⟩
   rw [hg]
   exact fun v H2 s2 d2=>hF v H2 (s1.trans s2) d2
  | error z =>
   rw [hg] at hF
   cases z with
   | none=>exact hF.elim
   | some x =>
    refine⟨xr X O H1 x,xn (D3.mono hF s1),O,ds,by rw [<- d1.length]; exact hn ds (by rw [hg]; intro z; cases z),E.all.same s1,d1,?_⟩
    rw [hg]
    exact sY⟩
end
def Callee (P:MO) (w:MN) (K:LQ) (mg:Str->Option MM) (base:MR) (k:Nat) (x:Str) (ps:List Str) (g:List D->R D):Prop :=
 ∃ f fd,hX P w K mg base (mS P w) k f fd ps (yY K ps.length g)/\Binds K fd ps []/\L6 K (.ref f)=true/\mg x=some (.ref f)
def Ar (n:Nat) (g:List D->R D):Prop:=∀ ds,g ds≠un->ds.length=n
theorem D8 {X:Cx} {k k':Nat} {ps:List Str} {g:List D->R D} {h:aq->R (List D)} {x:Str} {p pos:Pos} {e:M0} {es:List M0}
  (C:Callee X.prog X.w X.K X.mg X.base k x ps g) (hn:Ar ps.length g) (hr:e7 k' X.A) (hk:k<=k') (ha:FA X (e::es) h) (hg:Gl X x:=by rfl)
  (hdb:(x==("__debug__":Str))=false:=by decide) (hns:(e::es).all noStar=true:=by rfl) :
  FE X (.Call (.Name x p) (e::es) [] pos) (fR g h):=by
 obtain⟨f,fd,F,b,kp,m⟩:=C
 exact PE.weak (zb F (hr.mono hk) hg m kp b ha hdb (cP (JU _ _ ▸ hns).1) (gO (JU _ _ ▸ hns).2)) (yD hn)
def K0:Ks:={ nx:=fun _=>.ok .non }
def env0 (n:Nat) (ds:List D):aq:=ds.map (fun d=>some (.val d))++List.replicate (n - ds.length) none
def bj (B:cf) (np n:Nat):List D->R D:=fun ds=>if ds.length=np then B K0 (env0 n ds) else un
theorem bf {B:cf} {np n:Nat}:Ar np (bj B np n):=fun ds h=>by
 unfold bj at h
 split at h
 ·assumption
 ·exact absurd rfl h
theorem jI {n:Nat} {ds:List D} (i:Nat) (x:S) (e:(env0 n ds)[i]?=some (some x)):∃ d,ds[i]?=some d/\x=.val d:=by
 unfold env0 at e
 by_cases hi:i < ds.length
 ·rw [JO (by rw [JE]; exact hi),JP,Kg hi] at e
  have e':some (S.val ds[i])=some x:=Option.some.inj e
  exact⟨ds[i],by rw [Kg hi],(Option.some.inj e').symm⟩
 ·rw [JM (by rw [JE]; omega),JE,JN] at e
  split at e
  ·cases e
  ·cases e
theorem vE {K:LQ} {O:List MP} {H:Hp} {N:List Str} {ds:List D} {vs:List V} (hO:dg H O) (h:aL K (hid H O) ds vs):cQ K O H (env0 N.length ds) (L2.start N vs):=by
 refine⟨fun i d e=>?_,fun i xs e=>?_,fun i j xs ys a e=>?_,hO⟩
 ·obtain⟨d',e1,e2⟩:=jI i _ e
  cases e2
  obtain⟨v,e3,e4⟩:=h.get e1
  refine⟨v,?_,e4⟩
  unfold L2.start
  have hi:i < vs.length:=(List.getElem?_eq_some_iff.mp e3).1
  rw [JO (by rw [JE]; exact hi),JP,e3]; rfl
 ·obtain⟨d',_,e2⟩:=jI i _ e
  cases e2
 ·obtain⟨d',_,e2⟩:=jI i _ e
  cases e2
section
variable {P:MO} {w:MN} {K:LQ} {mg:Str->Option MM} {base:MR}
structure BodyOk (P:MO) (w:MN) (K:LQ) (mg:Str->Option MM) (base:MR) (k:Nat) (N:List Str) (qual:Str) (st:M2) (f:MP) (B:cf):Prop where
 h:∀ (cdv:MM) (A:MV) (outer:List Env) (s:MX) (H:Hp) (E:XK),e7 k (A.deeper (My qual (aA st) s.heap.objs.size f cdv))->M9 (model P w) (A.deeper (My qual (aA st) s.heap.objs.size f cdv)) (My qual (aA st) s.heap.objs.size f cdv) (jG (mS P w) P w K mg base N qual (aA st) f cdv A outer s H E).xe ->
  vN (jG (mS P w) P w K mg base N qual (aA st) f cdv A outer s H E) (eD st) B
theorem GQ {x qual:Str} {st:M2} {f:MP} {fd:Nq} {N ps:List Str} {k:Nat} {sp:Sp} {CX:wf} (F:uT K x qual st f fd) (S:bd N ps (aA st)) (len:∀ vs H Q E,sp vs H Q E->vs.length=ps.length)
  (hbody:∀ (cdv:MM) (A:MV) (outer:List Env) (s:MX) (H:Hp) (vs:List V) (Q:VK) (E:XK),e7 k (A.deeper (My qual (aA st) s.heap.objs.size f cdv))->sp vs H Q E ->
   ∃ t,tq (jG CX P w K mg base N qual (aA st) f cdv A outer s H E) (eD st) t/\t { nx:=fun _ H'=>Q .non H',rt:=Q } (L2.start N vs) H):hX P w K mg base CX (k+1) f fd ps sp:=by
 obtain⟨oc,od,kV,doc,pm,an,cdv,ct,osl,rfl,lk,hcd⟩:=F.ex
 exact B2 lk hcd S len fun A outer s H vs Q E hr hsp=>hbody cdv A outer s H vs Q E hr hsp
theorem hX.any {CX:wf} {k:Nat} {f:MP} {fd:Nq} {ps:List Str} {sp:Sp} (F:hX P w K mg base Gj k f fd ps sp):hX P w K mg base CX k f fd ps sp :=
 ⟨F.len,fun A outer s H args us vs Q E hr he hb hv hs=>Nt (F.run A outer s H args us vs Q E hr he hb hv hs) fun r s' h=>by
  cases r with
  | error e=>exact False.elim h
  | ok fl=>cases fl <;> exact h⟩
theorem rR {x qual:Str} {st:M2} {f:MP} {fd:Nq} {N ps:List Str} {k:Nat} {B:cf} (F:uT K x qual st f fd) (SC:bd N ps (aA st)) (hb:BodyOk P w K mg base k N qual st f B) :
  hX P w K mg base (mS P w) (k+1) f fd ps (yY K ps.length (bj B ps.length N.length)):=by
 refine GQ F SC (fun vs H Q E h=>?_) fun cdv A outer s H vs Q E hr h=>?_
 ·obtain⟨O,ds,h1,_⟩:=h
  exact h1
 ·obtain⟨O,ds,h1,h2,h3,h4⟩:=h
  have hl:ds.length=ps.length:=h3.length.trans h1
  have e4:bj B ps.length N.length ds=B K0 (env0 N.length ds):=by unfold bj; rw [if_pos hl]
  rw [e4] at h4
  refine⟨_,hb.h cdv A outer s H E hr PassesOwn.leaving H O,O,env0 N.length ds,K0,_,⟨vE h2 h3,⟨aX.refl H,fun _ z=>z,fun a z=>.inl z⟩,fun i xs a e=>?_,fun i d e=>by obtain⟨d',_,e2⟩:=jI i _ e; cases e2⟩,rfl,?_⟩
  ·obtain⟨d',_,e2⟩:=jI i _ e
   cases e2
  ·generalize B K0 (env0 N.length ds)=r at h4
   refine⟨fun z=>by rw [z] at h4; exact h4,fun O' ρ' σ' H' S e=>?_,fun O' ρ' σ' H' S e=>?_,fun O' ρ' σ' H' S e=>?_,fun d O' v H' e b dv=>?_,fun O' ρ' σ' H' x S e=>?_⟩
   ·have e:(.ok .non:R D)=r:=e
    subst e
    exact h4 .non H' S.base.same (jd.mpr rfl)
   ·have e:(un:R D)=r:=e
    subst e
    exact h4.elim
   ·have e:(un:R D)=r:=e
    subst e
    exact h4.elim
   ·subst e
    exact h4 v H' b.same (dv.mono (gP b.sub))
   ·have e:(.error (some x):R D)=r:=e
    subst e
    exact Dj h4 S.base.same S.base.sub
theorem bw {x qual:Str} {st:M2} {f:MP} {fd:Nq} {N ps:List Str} {k:Nat} {B:cf} (F:uT K x qual st f fd) (b:Binds K fd ps []) (m:mg x=some (.ref f)) (SC:bd N ps (aA st)) (hb:BodyOk P w K mg base k N qual st f B) :
  Callee P w K mg base (k+1) x ps (bj B ps.length N.length):=⟨f,fd,rR F SC hb,b,F.kp,m⟩
theorem d9 {x qual:Str} {st:M2} {f:MP} {fd:Nq} {ps:List Str} (k:Nat) (F:uT K x qual st f fd) (b:Binds K fd ps []) (m:mg x=some (.ref f)):Callee P w K mg base k x ps (fun _=>un):=by
 have no:∀ vs H Q E,¬ yY K ps.length (fun _=>un) vs H Q E:=fun vs H Q E ⟨O,ds,_,_,_,e⟩=>e
 exact⟨f,fd,⟨fun vs H Q E h=>absurd h (no vs H Q E),fun A outer s H args us vs Q E _ _ _ _ h=>absurd h (no vs H Q E)⟩,b,F.kp,m⟩
end
theorem ou {K:LQ} {T:String} (h1:Mf K (.type "NoneType") (.type T)=some (T == "NoneType")) (h2:Mf K (.type "bool") (.type T)=some (T == "bool" || T == "int")) (h3:Mf K (.type "int") (.type T)=some (T == "int")) (h4:Mf K (.type "str") (.type T)=some (T == "str"))
  (h5:Mf K (.type "tuple") (.type T)=some (T == "tuple")) (h6:Mf K (.type "list") (.type T)=some (T == "list")):uq K T:=fun d hd=>by
 cases d with
 | dct _ _=>cases hd
 | obj _ _ _=>cases hd
 | exc _ _ _=>cases hd
 | non=>exact h1
 | bl _=>exact h2
 | int _=>exact h3
 | str _=>exact h4
 | tup _=>exact h5
 | lst _=>exact h6
theorem tS {K:LQ}:uq K "int":=ou rfl rfl rfl rfl rfl rfl
theorem kG {K:LQ}:uq K "bool":=ou rfl rfl rfl rfl rfl rfl
theorem sZ {K:LQ}:uq K "str":=ou rfl rfl rfl rfl rfl rfl
theorem v6 {K:LQ}:uq K "tuple":=ou rfl rfl rfl rfl rfl rfl
end TG
namespace TG
open PySem PySem.Spec L2
variable [aM]

section
variable {X:Cx} {a b c:M0} {fa fb fc:FX} {pos:Pos}
theorem Do {r:V->Hp->VK->Prop} {g:D->Option D} (s:Bm X.K r g):∀ σ H Q,tF X (f1 g fa) σ H Q->IE r (tF X fa) σ H Q:=fun σ H Q ⟨O,ρ,E,hF⟩=>⟨O,ρ,E,(gQ.bind hF).imp fun a hF x H1 s1 d1=>by
 obtain⟨d,e,q⟩:=gQ.rO hF
 exact s a d x O H1 Q (E.all.same s1) e d1 fun v H2 s2 d2=>q v H2 (s1.trans s2) d2⟩
def DF (g g':D->D->Option D) (fa fb fc:FX):FX:=fun ρ=>(fa ρ).bind fun x=>(fb ρ).bind fun y=>(rO (g x y)).bind fun z=>vn z ((fc ρ).bind fun w=>rO (g' y w))
def CZ:D->Option D
 | .int i=>some (.int (-i))
 | _=>none
def Bp (f:FX):FX:=f1 CZ f
theorem Hm (ha:FE X a fa):FE X (.UnaryOp .USub a pos) (Bp fa):=PE.weak (EY CV ha) (Do fun x d v O H Q _ e dv q=>by
 cases x with
 | int i=>cases e; exact⟨i,eB.mp dv,q _ H (aX.refl H) (eB.mpr rfl)⟩
 | _=>cases e)
def y9:D->Option D
 | .str x=>if small x.length then some (.str (Txt.upper x)) else none
 | _=>none
def DH (f:FX):FX:=f1 y9 f
def C2:D->Option D
 | .lst xs=>some (.lst xs.reverse)
 | .tup xs=>some (.tup xs.reverse)
 | _=>none
def Id (f:FX):FX:=f1 C2 f
end

end TG
namespace ZI
open PySem PySem.Spec PyProof.Rows
section
variable {prog:MO} {w:MN} {A:MV} {E:MM->MX->Prop} {s:MX}
theorem v8 {it t:MP} {i:Nat} {its:Array MM} {x:MM} {Q:MM->MX->Prop} (hit:s.heap.IsTupleIter it t i) (ht:s.heap.IsTuple t its) (hx:its[i]?=some x)
  (hQ:∀ g,g.IsTupleIter it t (i+1)->Mp it s.heap g->Q x { s with heap:=g }):MZ (model prog w) A (Builtin.SmallTypes.nextOf (.ref it)) Q E s:=by
 obtain⟨ob,h1,h2,h3⟩:=id hit
 obtain⟨ol,g1,_,n,g2⟩:=ht
 unfold Builtin.SmallTypes.nextOf
 refine M7 (NC (name:=Str.ofString "__next__") hit.typeIs F.slot_tuple_iterator_next (ND F.slot_tuple_iterator_next hit.typeIs F.entry_tuple_iterator_next ?_ (F.args_tuple_iterator_next_1 _)))
 show MZ _ _ (field (.ref it) 0 >>= _) _ _ s; refine M7 (NA h1 h3 (x:=.ref t) rfl ?_)
 show MZ _ _ (if (Value.ref t==Value.none)=true then _ else _) _ _ s; rw [if_neg (show ¬ ((Value.ref t==Value.none)=true) from fun z=>JB z)]
 show MZ _ _ (field (.ref it) 1 >>= _) _ _ s; refine M7 (NA h1 h3 (x:=.int i 0) rfl ?_)
 show MZ _ _ (seqItems? (.ref t) >>= _) _ _ s; refine M7 (NR g1 g2 ?_)
 simp only [JS,hx]
 refine M7 (NS h1 h3 (by simp) (M6 ⟨x,rfl,M6 (hQ _ ⟨_,Mt _ h1 (Obj.isFreed_of_fields (Obj.data_mapFields h3 _)),(Obj.cls_mapFields ..).trans h2,by rw [Obj.data_mapFields h3]; simp [rawInt]⟩ (Heap.SameBut.update ..))⟩))
theorem yh {it t:MP} {i:Nat} {its:Array MM} {Q:MM->MX->Prop} (hh:A.handled=none) (hit:s.heap.IsTupleIter it t i) (ht:s.heap.IsTuple t its) (hx:its[i]?=none)
  (hE:∀ g e,Mu it s.heap g->(∃ o,g.get? e=some o/\o.cls=.type "StopIteration")->E (.ref e) { s with heap:=g }):MZ (model prog w) A (Builtin.SmallTypes.nextOf (.ref it)) Q E s:=by
 obtain⟨ob,h1,h2,h3⟩:=id hit
 obtain⟨ol,g1,_,n,g2⟩:=ht
 unfold Builtin.SmallTypes.nextOf
 refine M7 (NC (name:=Str.ofString "__next__") hit.typeIs F.slot_tuple_iterator_next (ND F.slot_tuple_iterator_next hit.typeIs F.entry_tuple_iterator_next ?_ (F.args_tuple_iterator_next_1 _)))
 show MZ _ _ (field (.ref it) 0 >>= _) _ _ s; refine M7 (NA h1 h3 (x:=.ref t) rfl ?_)
 show MZ _ _ (if (Value.ref t==Value.none)=true then _ else _) _ _ s; rw [if_neg (show ¬ ((Value.ref t==Value.none)=true) from fun z=>JB z)]
 show MZ _ _ (field (.ref it) 1 >>= _) _ _ s; refine M7 (NA h1 h3 (x:=.int i 0) rfl ?_)
 show MZ _ _ (seqItems? (.ref t) >>= _) _ _ s; refine M7 (NR g1 g2 ?_)
 simp only [JS,hx]; refine M7 (NN (M7 (NS h1 h3 (by simp) ?_)))
 show MZ _ _ (newExc (.type "StopIteration") [] >>= _) _ _ _; refine M7 ?_
 simp only [newExc,newTuple]; refine M7 (NF ?_ (by size_fits))
 refine M7 (m:=firstArgMember _ _) (wpAny_of_eq (a:=Value.none) (by first | rfl | (simp only [firstArgMember]; rfl)) ?_); refine NF ?_ (by size_fits)
 simp only [raiseNew]; refine M7 (NT ?_)
 first | rw [show A.in1.handled=none from hh] | rw [hh]
 refine M7 (M6 (wpAny_throw ?_)); exact hE _ _ (((Heap.SameBut.update ..).extBut.push _).push _) ⟨_,Mr _ rfl,rfl⟩
end
theorem C1 {prog:MO} {w:MN} {A:MV} (hh:A.handled=none) (it t:MP) (hne:t≠it) (its:Array MM):Draws prog w A it [it,t] its.size (fun i v=>its[i]?=some v) (fun i h=>h.IsTupleIter it t i/\h.IsTuple t its) where
 live:=fun i h ⟨⟨o,e,_⟩,_⟩=>⟨o,e⟩
 frame:=fun i h h' ⟨x,y⟩ k=>⟨x.at fun o e=>k it (by simp) o e,let ⟨o,e,r⟩:=y; ⟨o,k t (by simp) o e,r⟩⟩
 item:=fun i s Q E hi ⟨x,y⟩ hQ=>v8 x y (Array.getElem?_eq_getElem hi) fun g hg hs=>hQ _ g s.toks (Array.getElem?_eq_getElem hi) ⟨hg,let ⟨o,e,r⟩:=y; ⟨o,(hs.2 t hne).trans e,r⟩⟩ hs
 done:=fun s Q E ⟨x,y⟩ hE=>yh hh x y (by simp) hE

structure Apart (z TI TO i1 i2:MP) (fp1 fp2:List MP):Prop where
 a1:TI≠z
 a2:TO≠z
 a3:TI≠TO
 b1:z∉fp1
 b2:TO∉fp1
 b3:i2∉fp1
 c1:z∉fp2
 c2:TO∉fp2
 c3:i1∉fp2
 d1:TI≠i1
 d2:TI≠i2
 e1:i1∈fp1
 e2:i2∈fp2
section
variable {prog:MO} {w:MN} {A:MV} {E:MM->MX->Prop} {s:MX} {z TI TO i1 i2:MP} {fp1 fp2:List MP} {n1 n2 i:Nat} {P1 P2:Nat->MM->Prop} {S1 S2:Nat->MR->Prop} {a b:MM}
theorem next_item {Q:MM->MX->Prop} (Ap:Apart z TI TO i1 i2 fp1 fp2) (D1:Draws prog w A i1 fp1 n1 P1 S1) (D2:Draws prog w A i2 fp2 n2 P2 S2) (hz:NU s.heap z TI TO .none) (hTI:NV s.heap TI (.ref i1) (.ref i2)) (hTO:NV s.heap TO a b) (st1:S1 i s.heap) (st2:S2 i s.heap) (l1:i < n1) (l2:i < n2)
  (hQ:∀ x y g tk,P1 i x->P2 i y->NU g z TI TO (rawInt s.heap.objs.size)->NV g TO x y->S1 (i+1) g->S2 (i+1) g->NV g s.heap.objs.size x y->g.objs.size=s.heap.objs.size+1 ->
   (∀ c o,c≠z->c≠TO->c≠i1->c≠i2->s.heap.get? c=some o->g.get? c=some o)->Q (.ref s.heap.objs.size) { s with heap:=g,toks:=tk }) :
  MZ (model prog w) A (Builtin.«zip.__next__» ⟨[.ref z],[]⟩) (fun fin s'=>∃ v,fin=.done (.ret v)/\Q v s') E s:=by
 have n1z:i1≠z:=fun e=>Ap.b1 (e ▸ Ap.e1)
 have n2z:i2≠z:=fun e=>Ap.c1 (e ▸ Ap.e2)
 have n1T:i1≠TO:=fun e=>Ap.b2 (e ▸ Ap.e1)
 have n2T:i2≠TO:=fun e=>Ap.c2 (e ▸ Ap.e2)
 show MZ _ _ (field (.ref z) 2 >>= _) _ _ _; refine M7 (NA hz rfl (x:=.bool false) rfl ?_)
 show MZ _ _ (field (.ref z) 3 >>= _) _ _ _; refine M7 (NA hz rfl (x:=.ref TI) rfl ?_); refine M7 (NR hTI rfl ?_)
 show MZ _ _ (Builtin.SmallTypes.ownedTupleIsFree (.ref z) >>= _) _ _ _; refine M7 ?_
 unfold Builtin.SmallTypes.ownedTupleIsFree; refine M7 (NA hz rfl (x:=.none) rfl (M6 ?_))
 simp only [if_true]; refine M7 (NN ?_); refine M7 (NA hz rfl (x:=.ref TO) rfl ?_)
 refine M7 (NW hz (by simp) fun g1 hz1 k1=>?_)
 have hz1:NU g1 z TI TO .ellipsis:=hz1
 refine M7 ?_; simp only [List.zipIdx_cons,List.zipIdx_nil,J5,List.forIn_nil]
 refine M7 (M7 (NX ?_)); show MZ _ _ (Builtin.SmallTypes.nextOf (.ref i1) >>= _) _ _ _
 have q1:S1 i g1:=D1.frame _ _ _ st1 fun b hb o e=>k1.extBut _ _ (fun z'=>Ap.b1 (z' ▸ hb)) e
 refine M7 (D1.item i { s with heap:=g1 } _ _ l1 q1 fun x g2 tk2 p1 q2 k2=>M6 ?_)
 have t2:NV g2 TO a b:=k2.extBut _ _ n1T.symm (k1.extBut _ _ Ap.a2 hTO)
 refine M7 (NR t2 rfl ?_); refine M7 (NY t2 fun g3 t3 k3=>?_)
 have t3:NV g3 TO x b:=t3
 refine M7 (NZ (M6 ?_)); refine M7 (M7 (NX ?_)); show MZ _ _ (Builtin.SmallTypes.nextOf (.ref i2) >>= _) _ _ _
 have q3:S2 i g3:=D2.frame _ _ _ st2 fun b hb o e=>k3.extBut _ _ (fun z'=>Ap.c2 (z' ▸ hb)) (k2.extBut _ _ (fun z'=>Ap.c3 (z' ▸ hb)) (k1.extBut _ _ (fun z'=>Ap.c1 (z' ▸ hb)) e))
 refine M7 (D2.item i { s with heap:=g3,toks:=tk2 } _ _ l2 q3 fun y g4 tk4 p2 q4 k4=>M6 ?_)
 have t4:NV g4 TO x b:=k4.extBut _ _ n2T.symm t3
 refine M7 (NR t4 rfl ?_); refine M7 (NY t4 fun g5 t5 k5=>?_)
 have t5:NV g5 TO x y:=t5
 refine M7 (NZ (M6 (M6 ?_))); refine M7 (NR t5 rfl ?_); refine M7 (N0 ?_)
 have hsz:g5.objs.size=s.heap.objs.size:=by rw [k5.1,k4.1,k3.1,k2.1,k1.1]
 have hz5:NU g5 z TI TO .ellipsis:=k5.extBut _ _ Ap.a2.symm (k4.extBut _ _ n2z.symm (k3.extBut _ _ Ap.a2.symm (k2.extBut _ _ n1z.symm hz1)))
 have k15:∀ c o,c≠z->c≠TO->c≠i1->c≠i2->s.heap.get? c=some o->g5.get? c=some o:=fun c o c1 c2 c3 c4 e=>k5.extBut _ _ c2 (k4.extBut _ _ c4 (k3.extBut _ _ c2 (k2.extBut _ _ c3 (k1.extBut _ _ c1 e))))
 have r1:S1 (i+1) g5:=D1.frame _ _ _ q2 fun b hb o e=>k5.extBut _ _ (fun z'=>Ap.b2 (z' ▸ hb)) (k4.extBut _ _ (fun z'=>Ap.b3 (z' ▸ hb)) (k3.extBut _ _ (fun z'=>Ap.b2 (z' ▸ hb)) e))
 have r2:S2 (i+1) g5:=D2.frame _ _ _ q4 fun b hb o e=>k5.extBut _ _ (fun z'=>Ap.c2 (z' ▸ hb)) e
 have lz:z < g5.objs.size:=Mm hz5
 show MZ _ _ (Builtin.SmallTypes.ownedTupleHandOut (.ref z) (.ref g5.objs.size) >>= _) _ _ _; refine M7 ?_
 unfold Builtin.SmallTypes.ownedTupleHandOut
 have hz6:NU (g5.push { cls:=.type "tuple",data:=.seq #[x,y] }) z TI TO .ellipsis:=Mq _ hz5
 refine M7 (NW hz6 (by simp) fun g7 hz7 k7=>?_)
 have hz7:NU g7 z TI TO (rawInt g5.objs.size):=hz7
 refine NW hz7 (by simp) fun g8 hz8 k8=>?_
 have hz8:NU g8 z TI TO (rawInt g5.objs.size):=hz8
 have up:∀ c o,c≠z->g5.get? c=some o->g8.get? c=some o:=fun c o c1 e=>k8.extBut _ _ c1 (k7.extBut _ _ c1 (Mq _ e))
 have t8:NV g8 g5.objs.size x y:=k8.extBut _ _ (Jv lz) (k7.extBut _ _ (Jv lz) (Mr _ rfl))
 have s8:g8.objs.size=g5.objs.size+1:=by rw [k8.1,k7.1,Ms]
 rw [hsz] at hz8 t8 s8
 refine M6 ⟨_,rfl,?_⟩
 show Q (.ref g5.objs.size) _
 rw [hsz]
 exact hQ x y g8 tk4 p1 p2 hz8 (up _ _ Ap.a2 t5) (D1.frame _ _ _ r1 fun b hb o e=>up b o (fun z'=>Ap.b1 (z' ▸ hb)) e) (D2.frame _ _ _ r2 fun b hb o e=>up b o (fun z'=>Ap.c1 (z' ▸ hb)) e) t8 s8 fun c o c1 c2 c3 c4 e=>up c o c1 (k15 c o c1 c2 c3 c4 e)
theorem next_end {Q:Fin->MX->Prop} (Ap:Apart z TI TO i1 i2 fp1 fp2) (D1:Draws prog w A i1 fp1 n1 P1 S1) (D2:Draws prog w A i2 fp2 n2 P2 S2) (hz:NU s.heap z TI TO .none) (hTI:NV s.heap TI (.ref i1) (.ref i2)) (hTO:NV s.heap TO a b) (st1:S1 i s.heap) (st2:S2 i s.heap) (hend:i=n1\/(i < n1/\i=n2))
  (hE:∀ g e tk,(∀ c o,c≠z->c≠TO->c≠i1->c≠i2->s.heap.get? c=some o->g.get? c=some o)->(∃ o,g.get? e=some o/\o.cls=.type "StopIteration")->E (.ref e) { s with heap:=g,toks:=tk }) :
  MZ (model prog w) A (Builtin.«zip.__next__» ⟨[.ref z],[]⟩) Q E s:=by
 have n1z:i1≠z:=fun e=>Ap.b1 (e ▸ Ap.e1)
 have n2z:i2≠z:=fun e=>Ap.c1 (e ▸ Ap.e2)
 have n1T:i1≠TO:=fun e=>Ap.b2 (e ▸ Ap.e1)
 show MZ _ _ (field (.ref z) 2 >>= _) _ _ _; refine M7 (NA hz rfl (x:=.bool false) rfl ?_)
 show MZ _ _ (field (.ref z) 3 >>= _) _ _ _; refine M7 (NA hz rfl (x:=.ref TI) rfl ?_); refine M7 (NR hTI rfl ?_)
 show MZ _ _ (Builtin.SmallTypes.ownedTupleIsFree (.ref z) >>= _) _ _ _; refine M7 ?_
 unfold Builtin.SmallTypes.ownedTupleIsFree; refine M7 (NA hz rfl (x:=.none) rfl (M6 ?_))
 simp only [if_true]; refine M7 (NN ?_); refine M7 (NA hz rfl (x:=.ref TO) rfl ?_)
 refine M7 (NW hz (by simp) fun g1 hz1 k1=>?_)
 have hz1:NU g1 z TI TO .ellipsis:=hz1
 refine M7 ?_; simp only [List.zipIdx_cons,List.zipIdx_nil,J5,List.forIn_nil]
 refine M7 (M7 (NX ?_)); show MZ _ _ (Builtin.SmallTypes.nextOf (.ref i1) >>= _) _ _ _
 have q1:S1 i g1:=D1.frame _ _ _ st1 fun b hb o e=>k1.extBut _ _ (fun z'=>Ap.b1 (z' ▸ hb)) e
 rcases hend with hend | ⟨l1,hend⟩
 ·subst hend
  refine M7 (D1.done { s with heap:=g1 } _ _ q1 fun g2 e k2 he=>?_)
  obtain⟨oe,hoe,hce⟩:=he
  have hz2:NU g2 z TI TO .ellipsis:=k2 _ _ n1z.symm hz1
  have hez:e≠z:=fun x=>by rw [x,hz2] at hoe; cases hoe; simp at hce
  exact NW hz2 (by simp) fun g3 _ k3=>hE g3 e s.toks (fun c o c1 _ c3 _ x=>k3.extBut _ _ c1 (k2 _ _ c3 (k1.extBut _ _ c1 x))) ⟨oe,k3.extBut _ _ hez hoe,hce⟩
 ·refine M7 (D1.item i { s with heap:=g1 } _ _ l1 q1 fun x g2 tk2 p1 q2 k2=>M6 ?_)
  have t2:NV g2 TO a b:=k2.extBut _ _ n1T.symm (k1.extBut _ _ Ap.a2 hTO)
  refine M7 (NR t2 rfl ?_); refine M7 (NY t2 fun g3 t3 k3=>?_)
  refine M7 (NZ (M6 ?_)); refine M7 (M7 (NX ?_)); show MZ _ _ (Builtin.SmallTypes.nextOf (.ref i2) >>= _) _ _ _
  have q3:S2 i g3:=D2.frame _ _ _ st2 fun b hb o e=>k3.extBut _ _ (fun z'=>Ap.c2 (z' ▸ hb)) (k2.extBut _ _ (fun z'=>Ap.c3 (z' ▸ hb)) (k1.extBut _ _ (fun z'=>Ap.c1 (z' ▸ hb)) e))
  subst hend
  refine M7 (D2.done { s with heap:=g3,toks:=tk2 } _ _ q3 fun g4 e k4 he=>?_)
  obtain⟨oe,hoe,hce⟩:=he
  have hz4:NU g4 z TI TO .ellipsis:=k4 _ _ n2z.symm (k3.extBut _ _ Ap.a2.symm (k2.extBut _ _ n1z.symm hz1))
  have hez:e≠z:=fun x=>by rw [x,hz4] at hoe; cases hoe; simp at hce
  exact NW hz4 (by simp) fun g5 _ k5=>hE g5 e tk2 (fun c o c1 c2 c3 c4 x=>k5.extBut _ _ c1 (k4 _ _ c4 (k3.extBut _ _ c2 (k2.extBut _ _ c3 (k1.extBut _ _ c1 x))))) ⟨oe,k5.extBut _ _ hez hoe,hce⟩
end
def SQ (b:Bool) (h:MR) (l:MP) (xs:Array MM):Prop:=if b then h.IsList l xs else h.IsTuple l xs
def SI (b:Bool) (h:MR) (i l:MP) (k:Nat):Prop:=if b then h.IsListIter i l k else h.IsTupleIter i l k
def Gu (b:Bool):String:=if b then "list_iterator" else "tuple_iterator"
theorem SQ.keep {b:Bool} {h h':MR} {l:MP} {xs:Array MM} (x:SQ b h l xs) (k:∀ o,h.get? l=some o->h'.get? l=some o):SQ b h' l xs:=by
 cases b with
 | true=>exact Heap.IsList.at x k
 | false=>obtain⟨o,e,r⟩:=(show h.IsTuple l xs from x); exact(show h'.IsTuple l xs from ⟨o,k o e,r⟩)
theorem SI.keep {b:Bool} {h h':MR} {i l:MP} {n:Nat} (x:SI b h i l n) (k:∀ o,h.get? i=some o->h'.get? i=some o):SI b h' i l n:=by
 cases b with
 | true=>exact Heap.IsListIter.at x k
 | false=>exact Heap.IsTupleIter.at x k
theorem SQ.lt {b:Bool} {h:MR} {l:MP} {xs:Array MM} (x:SQ b h l xs):l < h.objs.size:=by
 cases b with
 | true=>obtain⟨o,e,_⟩:=(show h.IsList l xs from x); exact Mm e
 | false=>obtain⟨o,e,_⟩:=(show h.IsTuple l xs from x); exact Mm e
theorem SI.get {b:Bool} {h:MR} {i l:MP} {n:Nat} (x:SI b h i l n):∃ o,h.get? i=some o/\∀ v,o.data≠.cell v:=by
 cases b with
 | true=>obtain⟨o,e,_,d⟩:=(show h.IsListIter i l n from x); exact⟨o,e,fun v z=>by rw [d] at z; cases z⟩
 | false=>obtain⟨o,e,_,d⟩:=(show h.IsTupleIter i l n from x); exact⟨o,e,fun v z=>by rw [d] at z; cases z⟩
theorem SI.new {b:Bool} {h:MR} {l:MP}:SI b (h.push { cls:=.type (Gu b),data:=.fields #[.ref l,.int 0 0] }) h.objs.size l 0:=by
 cases b with
 | true=>exact⟨_,Mr _ rfl,rfl,rfl⟩
 | false=>exact⟨_,Mr _ rfl,rfl,rfl⟩
theorem pM {b:Bool} {prog:MO} {w:MN} {A:MV} {E:MM->MX->Prop} {s:MX} {l:MP} {xs:Array MM} {Q:MM->MX->Prop} (h:SQ b s.heap l xs)
  (hQ:Q (.ref s.heap.objs.size) { s with heap:=s.heap.push { cls:=.type (Gu b),data:=.fields #[.ref l,.int 0 0] } }):MZ (model prog w) A (pyIter (.ref l)) Q E s:=by
 cases b with
 | true=>exact M8 h hQ
 | false=>exact wpAny_pyIter_tuple h hQ
theorem kD {prog:MO} {w:MN} {A:MV} (b:Bool) (hh:A.handled=none) (it l:MP) (hne:l≠it) (its:Array MM):Draws prog w A it [it,l] its.size (fun i v=>its[i]?=some v) (fun i h=>SI b h it l i/\SQ b h l its):=by
 cases b with
 | true=>exact Draws.list hh it l hne its
 | false=>exact C1 hh it l hne its
abbrev yT (b1:Bool) (h:MR) (l1:MP):MR:=h.push { cls:=.type (Gu b1),data:=.fields #[.ref l1,.int 0 0] }
abbrev EV (b1 b2:Bool) (h:MR) (l1 l2:MP):MR:=(yT b1 h l1).push { cls:=.type (Gu b2),data:=.fields #[.ref l2,.int 0 0] }
abbrev Gb (b1 b2:Bool) (h:MR) (l1 l2:MP):MR:=(EV b1 b2 h l1 l2).push { cls:=.type "tuple",data:=.seq #[.ref h.objs.size,.ref (yT b1 h l1).objs.size] }
abbrev Gc (b1 b2:Bool) (h:MR) (l1 l2:MP):MR:=(Gb b1 b2 h l1 l2).push { cls:=.type "tuple",data:=.seq #[.none,.none] }
abbrev B9 (b1 b2:Bool) (h:MR) (l1 l2:MP):MR:=(Gc b1 b2 h l1 l2).push { cls:=.type "zip",data:=.fields #[.none,.bool false,.bool false,.ref (EV b1 b2 h l1 l2).objs.size,.ref (Gb b1 b2 h l1 l2).objs.size] }
theorem zp (b1 b2:Bool) (l1 l2:MP) (xs ys:Array MM):Meets (Builtin.«zip.__new__» ⟨[.type "zip",.ref l1,.ref l2],[]⟩) (fun _ R s=>SQ b1 s.heap l1 xs/\SQ b2 s.heap l2 ys/\R (.ok (.ret (.ref (Gc b1 b2 s.heap l1 l2).objs.size))) { s with heap:=B9 b1 b2 s.heap l1 l2 }) :=
 .of_wp fun prog w A R s h=>by
  obtain⟨hp,g,d,tk,os⟩:=s
  obtain⟨q1,q2,h⟩:=h
  have hsub:=sub_zip
  have e1:SQ b1 (Shared.heap ⟨hp,g,d,tk,os⟩) l1 xs:=q1
  have e2:SQ b2 (Shared.heap ⟨yT b1 hp l1,g,d,tk,os⟩) l2 ys:=q2.keep fun o e=>Mq _ e
  wp_walk using pM e1,pM e2
  exact⟨_,rfl,h⟩
theorem zY {prog:MO} {w:MN} {A:MV} {E:MM->MX->Prop} {s:MX} {b1 b2:Bool} {l1 l2:MP} {xs ys:Array MM} {Q:MM->MX->Prop} (h1:SQ b1 s.heap l1 xs) (h2:SQ b2 s.heap l2 ys)
  (h:∀ g,NU g (s.heap.objs.size+4) (s.heap.objs.size+2) (s.heap.objs.size+3) .none->NV g (s.heap.objs.size+2) (.ref s.heap.objs.size) (.ref (s.heap.objs.size+1))->NV g (s.heap.objs.size+3) .none .none->SI b1 g s.heap.objs.size l1 0->SI b2 g (s.heap.objs.size+1) l2 0 ->
   (∀ c o,s.heap.get? c=some o->g.get? c=some o)->Q (.ref (s.heap.objs.size+4)) { s with heap:=g }):MZ (model prog w) A (call (.type "zip") [.ref l1,.ref l2]) Q E s:=by
 refine callType_new F.called_zip (by decide) (F.typeCall_zip_2 _ _) (F.newCall_zip_2 _ _) (fun obj=>F.args_object_init_3 obj _ _) F.entry_zip_new (zp b1 b2 l1 l2 xs ys) ⟨h1,h2,?_⟩
 have z1:(yT b1 s.heap l1).objs.size=s.heap.objs.size+1:=Ms ..
 have z2:(EV b1 b2 s.heap l1 l2).objs.size=s.heap.objs.size+2:=by rw [Ms,z1]
 have z3:(Gb b1 b2 s.heap l1 l2).objs.size=s.heap.objs.size+3:=by rw [Ms,z2]
 have z4:(Gc b1 b2 s.heap l1 l2).objs.size=s.heap.objs.size+4:=by rw [Ms,z3]
 have u1:∀ c o,(yT b1 s.heap l1).get? c=some o->(B9 b1 b2 s.heap l1 l2).get? c=some o:=fun c o e=>Mq _ (Mq _ (Mq _ (Mq _ e)))
 have u2:∀ c o,(EV b1 b2 s.heap l1 l2).get? c=some o->(B9 b1 b2 s.heap l1 l2).get? c=some o:=fun c o e=>Mq _ (Mq _ (Mq _ e))
 have g5:(B9 b1 b2 s.heap l1 l2).get? (Gc b1 b2 s.heap l1 l2).objs.size=some _:=Mr _ rfl
 have g4:(B9 b1 b2 s.heap l1 l2).get? (Gb b1 b2 s.heap l1 l2).objs.size=some _:=Mq _ (Mr _ rfl)
 have g3:(B9 b1 b2 s.heap l1 l2).get? (EV b1 b2 s.heap l1 l2).objs.size=some _:=Mq _ (Mq _ (Mr _ rfl))
 have g2:SI b2 (B9 b1 b2 s.heap l1 l2) (yT b1 s.heap l1).objs.size l2 0:=SI.keep (SI.new (h:=yT b1 s.heap l1)) fun o e=>u2 _ o e
 have g1:SI b1 (B9 b1 b2 s.heap l1 l2) s.heap.objs.size l1 0:=SI.keep SI.new fun o e=>u1 _ o e
 show _/\_
 rw [z2,z3,z4] at g5
 rw [z1,z2] at g3
 rw [z3] at g4
 rw [z1] at g2
 rw [z4]
 exact⟨⟨_,g5,rfl⟩,h _ g5 g3 g4 g1 g2 fun c o e=>u1 c o (Mq _ e)⟩
theorem yA (b : Bool) (l : MP) (xs : Array MM) : Meets (Builtin.«enumerate.__new__» ⟨[.type "enumerate", .ref l], []⟩) (fun _ R s => SQ b s.heap l xs /\
      R (.ok (.ret (.ref (yT b s.heap l).objs.size))) { s with heap:=(yT b s.heap l).push { cls:=.type "enumerate",data:=.fields #[.none,.bool false,.ref s.heap.objs.size,rawInt 0,.none,.none] } }) :=
  .of_wp fun prog w A R s h=>by
    obtain⟨hp,g,d,tk,os⟩:=s
    obtain⟨q1,h⟩:=h
    have hsub:=sub_enumerate
    have e1:SQ b (Shared.heap ⟨hp,g,d,tk,os⟩) l xs:=q1
    wp_walk using pM e1
    refine wpAny_stack_any fun st=>M6 ?_
    split
    · rename_i c _ _ _ _ _
      cases (c==Value.type "enumerate") <;> (wp_walk using pM e1; exact⟨_,rfl,h⟩)
    · wp_walk using pM e1
      exact⟨_,rfl,h⟩
end ZI
namespace TG
open PySem PySem.Spec L2 ZI
variable [aM]
section
variable {X:Cx} {pins:List (MP×Obj)} {σ:St} {H:Hp} {s:MX} {h':MR}
theorem Inv.turnedL {ch:List MP} {p:MP} {o:HO} {t':Nat} (I:Inv X pins σ H s) (hf:∀ b∈ch,p4 X pins H b) (k:∀ b u,b∉ch->s.heap.get? b=some u->h'.get? b=some u) (hp:s.heap.objs.size<=p) (new:cc X.prog X.w (upd H p o) h' p o) :
  Inv X pins σ (upd H p o) { s with heap:=h',toks:=t' }:=by
 have hn:=I.hok.fresh hp
 have nch:∀ b u,H b=some u->b∉ch:=fun b u e z=>by rw [(hf b z).1] at e; cases e
 refine I.step (g':=s.gens) (d':=s.drawn) (ch:=ch) (fun b hb=>?_) (fun b o _ _ hc e _=>k b o hc e) (fun b o _ _ hc e _=>⟨o.slots,k b o hc e⟩) (fun b u _ q n=>by rw [aF (Jm (Jk (Mm q) hp))]; exact n)
  (fun b o hc e=>⟨o,k b o hc e⟩) (fun b xs q=>by rw [aF (aT q hn)]; exact q) (fun b u xs q=>by rw [aF (aT q hn)]; exact q) (fun b ps q=>⟨#[],by rw [aF (aT q hn),q]; simp⟩) (fun m hm=>?_) (fun b u e=>?_) I.bare
 ·obtain⟨_,f1,_,f3,f4,f5⟩:=hf b hb
  exact⟨f3,f1,f4,f5⟩
 ·obtain⟨o,es,ep,ho,r⟩:=hm
  exact⟨o,es,ep,k _ o (fun z=>(hf _ z).2.1 rfl) ho,r⟩
 ·by_cases hb:b=p
  ·subst hb; rw [aN] at e; cases e; exact new
  ·rw [aF hb] at e
   refine(I.hok b u e).stay (fun c v hc q=>k c v ?_ q) (fun c q=>by rw [aF (aT q hn)]; exact q) fun c xs q=>by rw [aF (aT q hn)]; exact q
   rcases hc with z | z
   ·rw [z]; exact nch b u e
   ·exact nch c _ z
theorem Inv.turned0 {ch:List MP} {t':Nat} (I:Inv X pins σ H s) (hf:∀ b∈ch,p4 X pins H b) (k:∀ b u,b∉ch->s.heap.get? b=some u->h'.get? b=some u):Inv X pins σ H { s with heap:=h',toks:=t' }:=by
 have nch:∀ b u,H b=some u->b∉ch:=fun b u e z=>by rw [(hf b z).1] at e; cases e
 refine I.step (g':=s.gens) (d':=s.drawn) (ch:=ch) (fun b hb=>?_) (fun b o _ _ hc e _=>k b o hc e) (fun b o _ _ hc e _=>⟨o.slots,k b o hc e⟩) (fun _ _ _ _ n=>n)
  (fun b o hc e=>⟨o,k b o hc e⟩) (fun _ _ e=>e) (fun _ _ _ e=>e) (fun b ps e=>⟨#[],by rw [e]; simp⟩) (fun m hm=>?_) (fun b u e=>?_) I.bare
 ·obtain⟨_,f1,_,f3,f4,f5⟩:=hf b hb
  exact⟨f3,f1,f4,f5⟩
 ·obtain⟨o,es,ep,ho,r⟩:=hm
  exact⟨o,es,ep,k _ o (fun z=>(hf _ z).2.1 rfl) ho,r⟩
 ·refine(I.hok b u e).stay (fun c v hc q=>k c v ?_ q) (fun _ q=>q) fun _ _ q=>q
  rcases hc with z | z
  ·rw [z]; exact nch b u e
  ·exact nch c _ z
end
def SX (K:LQ) (b:Bool) (H:Hp) (a:MP) (xs:List V):Prop:=if b then lU K H a xs else nL K H a xs
theorem SX.same {K:LQ} {b:Bool} {H H':Hp} {a:MP} {xs:List V} (e:aX H H') (h:SX K b H a xs):SX K b H' a xs:=by
 cases b with
 | true=>exact e.seq (show lU K H a xs from h)
 | false=>exact yo e (show nL K H a xs from h)
section
variable {X:Cx} {pins:List (MP×Obj)} {σ:St} {H:Hp} {s:MX}
theorem Inv.sx (I:Inv X pins σ H s) {b:Bool} {a:MP} {xs:List V} (h:SX X.K b H a xs):∃ its:List MM,Vals xs its/\SQ b s.heap a its.toArray/\xs.length<=MS:=by
 cases b with
 | true=>obtain⟨its,r,p,z⟩:=I.list (show lU X.K H a xs from h); exact⟨its,r,p.isList,z⟩
 | false=>obtain⟨its,r,p,z⟩:=I.tuple (show nL X.K H a xs from h); exact⟨its,r,p,z⟩
theorem Inv.sx_inj (I:Inv X pins σ H s) {b:Bool} {a:MP} {xs ys:List V} (h:SX X.K b H a xs) (h':SX X.K b H a ys):xs=ys:=by
 cases b with
 | true=>exact I.list_inj h h'
 | false=>exact I.tuple_inj h h'
end
def IB (K:LQ) (b1 b2:Bool) (a1 a2:MP):It :=
  ⟨fun i H=>∃ xs ys,SX K b1 H a1 xs/\SX K b2 H a2 ys/\i < xs.length/\i < ys.length,
   fun i H v H'=>∃ p x y,v=.ref p/\H p=none/\H'=upd H p (.tup [x,y])/\(∀ xs,SX K b1 H a1 xs->xs[i]?=some x)/\∀ ys,SX K b2 H a2 ys->ys[i]?=some y,
   fun i H=>∃ xs ys,SX K b1 H a1 xs/\SX K b2 H a2 ys/\(i=xs.length\/(i < xs.length/\i=ys.length))⟩
theorem zQ {P:MO} {w:MN} {K:LQ} {es:List M0} {k:Nat} {pos:Pos} {b1 b2:Bool} {a1 a2 z TI TO i1 i2:MP} (Ap:Apart z TI TO i1 i2 [i1,a1] [i2,a2]) (n1:a1≠i1) (n2:a2≠i2) (n3:z≠i1) (n4:z≠i2):Turn P w K (.Tuple es k pos) (IB K b1 b2 a1 a2) [z,TI,TO,i1,i2] z
  (fun i h=>NU h z TI TO .none/\NV h TI (.ref i1) (.ref i2)/\(∃ a b,NV h TO a b)/\SI b1 h i1 a1 i/\SI b2 h i2 a2 i) where
 mem:=by simp
 obj:=fun i h ⟨hz,hI,⟨a,b,hO⟩,s1,s2⟩ c hc=>by
  simp only [Kw,Kx,or_false] at hc
  rcases hc with rfl | rfl | rfl | rfl | rfl
  ·exact⟨_,hz,fun v q=>by cases q⟩
  ·exact⟨_,hI,fun v q=>by cases q⟩
  ·exact⟨_,hO,fun v q=>by cases q⟩
  ·exact s1.get
  ·exact s2.get
 keep:=fun i h h' ⟨hz,hI,⟨a,b,hO⟩,s1,s2⟩ kp=>⟨kp z (by simp) _ hz,kp TI (by simp) _ hI,⟨a,b,kp TO (by simp) _ hO⟩,s1.keep fun o e=>kp i1 (by simp) o e,s2.keep fun o e=>kp i2 (by simp) o e⟩
 item:=by
  intro X hP hw hK hc i pins s σ H E I hf ⟨hz,hI,⟨a,b,hO⟩,s1,s2⟩ hg
  subst hP hw hK
  obtain⟨xs,ys,g1,g2,l1,l2⟩:=hg
  obtain⟨its1,r1,q1,z1⟩:=Inv.sx I g1
  obtain⟨its2,r2,q2,z2⟩:=Inv.sx I g2
  have hh:X.A.in1.handled=none:=I.ok.hd hc
  have hT:s.TypeIs (.ref z) "zip":=⟨_,hz,rfl⟩
  unfold pyNext
  refine M7 (N1 (NC (name:=Str.ofString "__next__") hT F.slot_zip_next (ND F.slot_zip_next hT F.entry_zip_next
   (next_item Ap (kD (A:=X.A.in1) b1 hh i1 a1 n1 its1.toArray) (kD (A:=X.A.in1) b2 hh i2 a2 n2 its2.toArray) hz hI hO ⟨s1,q1⟩ ⟨s2,q2⟩ (by rw [JA,<- r1.length]; exact l1) (by rw [JA,<- r2.length]; exact l2) fun u v g tk p1 p2 hz' hO' t1 t2 hp sz kp=>?_) (F.args_zip_next_1 _))))
  have e1:its1[i]?=some u:=by simpa using p1
  have e2:its2[i]?=some v:=by simpa using p2
  have hx:∃ x,xs[i]?=some x/\RelV x u:=by
   obtain⟨u',hu,ru⟩:=r1.get (i:=i) (x:=xs[i]) (by simp [l1])
   rw [e1] at hu; cases hu
   exact⟨xs[i],by simp [l1],ru⟩
  have hy:∃ y,ys[i]?=some y/\RelV y v:=by
   obtain⟨u',hu,ru⟩:=r2.get (i:=i) (x:=ys[i]) (by simp [l2])
   rw [e2] at hu; cases hu
   exact⟨ys[i],by simp [l2],ru⟩
  obtain⟨x,ex,rx⟩:=hx
  obtain⟨y,ey,ry⟩:=hy
  refine M6 ⟨_,rfl,?_⟩
  refine wpAny_letOwnedTupleGo_zip hz' fun g' hz2 sb=>?_
  have hpz:s.heap.objs.size≠z:=Jv (Mm hz)
  have hp':NV g' s.heap.objs.size u v:=sb.extBut _ _ hpz hp
  have I':Inv X pins σ (upd H s.heap.objs.size (.tup [x,y])) { s with heap:=g',toks:=tk }:=Inv.turnedL (ch:=[z,TI,TO,i1,i2]) I hf (fun c o hc e=>by
   simp only [Kw,Kx,or_false,not_or] at hc
   exact sb.extBut _ _ hc.1 (kp c o hc.1 hc.2.2.1 hc.2.2.2.1 hc.2.2.2.2 e)) (Jw _) ⟨by show 2<=MS; decide,[u,v],.cons rx (.cons ry .nil),_,hp',rfl,_,rfl⟩
  have fr:H s.heap.objs.size=none:=I.fresh
  have ne:∀ c∈[z,TI,TO,i1,i2],c≠s.heap.objs.size:=fun c hc e=>by
   simp only [Kw,Kx,or_false] at hc
   rcases hc with rfl | rfl | rfl | rfl | rfl
   ·exact hpz e.symm
   ·exact absurd (Mm hI) (by rw [e]; exact Jl _)
   ·exact absurd (Mm hO) (by rw [e]; exact Jl _)
   ·obtain⟨o,q,_⟩:=s1.get; exact absurd (Mm q) (by rw [e]; exact Jl _)
   ·obtain⟨o,q,_⟩:=s2.get; exact absurd (Mm q) (by rw [e]; exact Jl _)
  refine⟨.ref s.heap.objs.size,_,I',rfl,⟨_,x,y,rfl,fr,rfl,fun xs' h=>by rw [Inv.sx_inj I h g1]; exact ex,fun ys' h=>by rw [Inv.sx_inj I h g2]; exact ey⟩,⟨hz2,?_,⟨u,v,sb.extBut _ _ Ap.a2 hO'⟩,?_,?_⟩,fun c hc=>by rw [aF (ne c hc)]; exact(hf c hc).1⟩
  ·exact sb.extBut _ _ Ap.a1 (kp TI _ Ap.a1 Ap.a3 Ap.d1 Ap.d2 hI)
  ·exact t1.1.keep fun o e=>sb.extBut _ _ n3.symm e
  ·exact t2.1.keep fun o e=>sb.extBut _ _ n4.symm e
 done:=by
  intro X hP hw hK hc i pins s σ H E I hf ⟨hz,hI,⟨a,b,hO⟩,s1,s2⟩ hg
  subst hP hw hK
  obtain⟨xs,ys,g1,g2,hl⟩:=hg
  obtain⟨its1,r1,q1,z1⟩:=Inv.sx I g1
  obtain⟨its2,r2,q2,z2⟩:=Inv.sx I g2
  have hh:X.A.in1.handled=none:=I.ok.hd hc
  have hT:s.TypeIs (.ref z) "zip":=⟨_,hz,rfl⟩
  unfold pyNext
  refine M7 (N1 (NC (name:=Str.ofString "__next__") hT F.slot_zip_next (ND F.slot_zip_next hT F.entry_zip_next
   (next_end (i:=i) Ap (kD (A:=X.A.in1) b1 hh i1 a1 n1 its1.toArray) (kD (A:=X.A.in1) b2 hh i2 a2 n2 its2.toArray) hz hI hO ⟨s1,q1⟩ ⟨s2,q2⟩ (by rw [JA,JA,<- r1.length,<- r2.length]; exact hl) fun g e tk kp he=>?_) (F.args_zip_next_1 _))))
  obtain⟨o,ho,hce⟩:=he
  refine M7 (N2 (T := "StopIteration") (b:=true) ⟨o,ho,hce⟩ N3 ?_)
  refine M6 ⟨rfl,Inv.turned0 (ch:=[z,TI,TO,i1,i2]) I hf fun c o hc e=>?_⟩
  simp only [Kw,Kx,or_false,not_or] at hc
  exact kp c o hc.1 hc.2.2.1 hc.2.2.2.1 hc.2.2.2.2 e
 self:=fun _ _ _ _ _ ⟨hz,_⟩ h=>wpAny_pyIter_zip hz h
def B1:D->Option (Bool×List D)
 | .lst xs=>some (true,xs)
 | .tup xs=>some (false,xs)
 | _=>none
theorem pL {K:LQ} {H:Hp} {d:D} {b:Bool} {xs:List D} {v:V} (e:B1 d=some (b,xs)) (h:cm K H d v):∃ a vs,v=.ref a/\SX K b H a vs/\aL K H xs vs:=by
 cases d with
 | lst ys=>cases e; exact cu.mp h
 | tup ys=>cases e; obtain⟨a,vs,e1,e2,e3⟩:=cq.mp h; exact⟨a,vs,e1,nL.of e2,e3⟩
 | _=>cases e
def mq:List D->List D->List D
 | x::xs,y::ys=>.tup [x,y]::mq xs ys
 | _,_=>[]
theorem nU:∀ xs ys:List D,(mq xs ys).length=min xs.length ys.length
 | [],_=>by simp [mq]
 | _::_,[]=>by simp [mq]
 | x::xs,y::ys=>by
  rw [mq,JC,nU xs ys,JC,JC]; omega
theorem uk:∀ {xs ys:List D} {i:Nat} {d:D},(mq xs ys)[i]?=some d->∃ x y,xs[i]?=some x/\ys[i]?=some y/\d=.tup [x,y]
 | [],_,i,d,h=>by simp [mq] at h
 | _::_,[],i,d,h=>by simp [mq] at h
 | x::xs,y::ys,0,d,h=>by
  rw [mq,Ky] at h
  cases h
  exact⟨x,y,rfl,rfl,rfl⟩
 | x::xs,y::ys,i+1,d,h=>by
  rw [mq,Kz] at h
  obtain⟨a,b,h1,h2,h3⟩:=uk h
  exact⟨a,b,by rw [Kz]; exact h1,by rw [Kz]; exact h2,h3⟩
theorem AC {K:LQ} {Hd:Hp} {b1 b2:Bool} {a1 a2:MP} {ds es:List D} {vs ws:List V} (h1:SX K b1 Hd a1 vs) (g1:aL K Hd ds vs) (h2:SX K b2 Hd a2 ws) (g2:aL K Hd es ws):Walk K Hd (IB K b1 b2 a1 a2) (mq ds es):=fun Hn O' i hO sm =>
  have s':aX Hd Hn:=sm.trans (aE Hn O')
  ⟨fun d e=>by
    obtain⟨x,y,e1,e2,rfl⟩:=uk e
    have l1:i < ds.length:=(List.getElem?_eq_some_iff.mp e1).1
    have l2:i < es.length:=(List.getElem?_eq_some_iff.mp e2).1
    obtain⟨v,ev,dv⟩:=g1.get e1
    obtain⟨w,ew,dw⟩:=g2.get e2
    refine⟨⟨vs,ws,h1.same s',h2.same s',by rw [<- g1.length]; exact l1,by rw [<- g2.length]; exact l2⟩,fun u H2 ⟨p,x',y',eu,hp,eH,q1,q2⟩=>?_⟩
    have z1:=q1 vs (h1.same s')
    rw [ev] at z1; cases z1
    have z2:=q2 ws (h2.same s')
    rw [ew] at z2; cases z2
    subst eH eu
    exact⟨bC hp _,dA hO hp (bc.mpr ⟨v,_,rfl,dv.mono sm,bc.mpr ⟨w,_,rfl,dw.mono sm,cF.mpr rfl⟩⟩)⟩,
   fun hl=>by
    rw [nU] at hl
    refine⟨vs,ws,h1.same s',h2.same s',?_⟩
    rw [<- g1.length,<- g2.length]
    omega⟩
def yv:List D->Option (List D)
 | [a,b]=>(B1 a).bind fun x=>(B1 b).bind fun y=>some (mq x.2 y.2)
 | _=>none
def AW (f:aq->R (List D)):aq->R (List D):=fun ρ=>(f ρ).bind fun ds=>rO (yv ds)
section
variable {X:Cx}
theorem Dy {a b c:MP} (h1:a≠b) (h2:a≠c):a∉[b,c]:=fun h=>by
 rcases List.mem_cons.mp h with z | z
 ·exact h1 z
 ·exact h2 (List.mem_singleton.mp z)
theorem x5 {n a1 a2:MP} (h1:a1 < n) (h2:a2 < n):Apart (n+4) (n+2) (n+3) n (n+1) [n,a1] [n+1,a2]:=by
 have lt:∀ {a b:Nat},a < b->(b:MP)≠(a:MP):=fun h=>Jv h
 have lt':∀ {a b:Nat},a < b->(a:MP)≠(b:MP):=fun h=>Jm h
 have g:∀ k:Nat,a1 < n+k:=fun k=>Jk h1 (KA _ _)
 have g':∀ k:Nat,a2 < n+k:=fun k=>Jk h2 (KA _ _)
 have p:∀ {j k:Nat},j < k->n+j < n+k:=fun h=>KC h n
 have p0:∀ {k:Nat},0 < k->n < n+k:=fun h=>KD h
 exact⟨lt' (p (by decide)),lt' (p (by decide)),lt' (p (by decide)),Dy (lt (p0 (by decide))) (lt (g 4)),Dy (lt (p0 (by decide))) (lt (g 3)),Dy (lt (p0 (by decide))) (lt (g 1)),
  Dy (lt (p (by decide))) (lt (g' 4)),Dy (lt (p (by decide))) (lt (g' 3)),Dy (lt' (p0 (by decide))) (lt h2),lt (p0 (by decide)),lt (p (by decide)),Jq,Jq⟩
theorem Du {pins:List (MP×Obj)} {s:MX} {σ:St} {H:Hp} {O:List MP} {es:List M0} {k:Nat} {tpos:Pos} {ds r:List D} {vs:List V} {us:List MM} {RR:It->Hp->Prop} (I:Inv X pins σ H s) (hc:yv ds=some r) (d1:aL X.K (hid H O) ds vs) (rv:Vals vs us) (q:∀ J,Walk X.K (hid H O) J r->RR J H) :
  MZ (model X.prog X.w) X.A (call (.type "zip") us) (fun v s1=>MZ (model X.prog X.w) X.A (pyIter v) (PIE X pins σ (.Tuple es k tpos) RR) X.xe s1) X.xe s:=by
 unfold yv at hc
 split at hc
 ·rename_i a b
  obtain⟨⟨b1,xs⟩,e1,hc⟩:=bind_some hc
  obtain⟨⟨b2,ys⟩,e2,hc⟩:=bind_some hc
  cases hc
  obtain⟨va,vb,rfl,da,db⟩:=d1.two
  obtain⟨u1,u2,rfl,r1,r2⟩:=vals2 rv
  obtain⟨a1,ws1,rfl,x1,y1⟩:=pL e1 da
  obtain⟨a2,ws2,rfl,x2,y2⟩:=pL e2 db
  cases r1
  cases r2
  obtain⟨its1,rr1,q1,_⟩:=Inv.sx I (x1.same (aE H O))
  obtain⟨its2,rr2,q2,_⟩:=Inv.sx I (x2.same (aE H O))
  refine zY q1 q2 fun g hz hI hO s1 s2 kp=>wpAny_pyIter_zip hz ?_
  have Ap:=x5 q1.lt q2.lt
  refine⟨_,_,_,_,H,rfl,I.kept (t':=s.toks) kp,zQ (b1:=b1) (b2:=b2) Ap (Jm q1.lt) (Jm (Jk q2.lt (KA _ 1))) (Jv (KD (by decide))) (Jv (KC (by decide) _)),⟨hz,hI,⟨_,_,hO⟩,s1,s2⟩,fun b hb=>?_,q _ (AC x1 y1 x2 y2)⟩
  have le:s.heap.objs.size<=b:=by
   simp only [Kw,Kx,or_false] at hb
   rcases hb with rfl | rfl | rfl | rfl | rfl
   ·exact KA _ _
   ·exact KA _ _
   ·exact KA _ _
   ·exact Jw _
   ·exact KA _ _
  exact I.fpOk le (I.hok.fresh le)
 ·cases hc
theorem Iu {a b:M0} {es:List M0} {k:Nat} {tpos:Pos} {f:aq->R (List D)} {p pos:Pos} (hg:Gl X "zip") (hm:X.mg "zip"=none) (ha:FA X [a,b] f) (hs:M1 [a,b] X.env=(false,eval a X.env)::M1 [b] X.env:=by rfl) (hpl:(backTo pos (M1 [b] X.env)).any (·.1)=false:=by rfl):FI X (.Tuple es k tpos) (.Call (.Name "zip" p) [a,b] [] pos) (AW f):=by
 intro pins s σ H RR I ⟨O,ρ,E,hG⟩
 have hA:=ha pos pins s σ H (fun vs H1=>∃ ds r,yv ds=some r/\aL X.K (hid H1 O) ds vs/\∀ J,Walk X.K (hid H1 O) J r->RR J H1) I ⟨O,ρ,E,(gQ.bind hG).imp fun ds hG vs H1 s1 d1=>by
  obtain⟨r,e,q⟩:=gQ.rO hG
  exact⟨ds,r,e,d1,fun J wk=>q J H1 s1 wk⟩⟩
 refine MA (lC I hg hm PyProof.Rows.boot_zip (Mw (dH hA fun us s1 ⟨vs,H1,I1,r1,ds,r,er,d1,q⟩=>?_) hs hpl))
 exact Du I1 er d1 r1 q
end
def IC (K:LQ) (b:Bool) (a:MP):It :=
  ⟨fun i H=>∃ xs,SX K b H a xs/\i < xs.length,
   fun i H v H'=>∃ p x,v=.ref p/\H p=none/\H'=upd H p (.tup [.int i,x])/\∀ xs,SX K b H a xs->xs[i]?=some x,
   fun i H=>∃ xs,SX K b H a xs/\i=xs.length⟩
theorem yJ {P:MO} {w:MN} {K:LQ} {es:List M0} {k:Nat} {pos:Pos} {b:Bool} {a e it:MP} (n1:a≠it) (n2:e≠it) (n3:e≠a):Turn P w K (.Tuple es k pos) (IC K b a) [e,it] e (fun i h=>(∃ old,IsEnum h e it i old)/\SI b h it a i) where
 mem:=by simp
 obj:=fun i h ⟨⟨old,he⟩,s1⟩ c hc=>by
  simp only [Kw,Kx,or_false] at hc
  rcases hc with rfl | rfl
  ·exact⟨_,he,fun v q=>by cases q⟩
  ·exact s1.get
 keep:=fun i h h' ⟨⟨old,he⟩,s1⟩ kp=>⟨⟨old,kp e (by simp) _ he⟩,s1.keep fun o q=>kp it (by simp) o q⟩
 item:=by
  intro X hP hw hK hc i pins s σ H E I hf ⟨⟨old,he⟩,s1⟩ hg
  subst hP hw hK
  obtain⟨xs,g1,l1⟩:=hg
  obtain⟨its,r1,q1,z1⟩:=Inv.sx I g1
  have hh:X.A.in1.handled=none:=I.ok.hd hc
  refine wpAny_pyNext_enum_itemD (kD (A:=X.A.in1) b hh it a n1 its.toArray) he ⟨s1,q1⟩ (by rw [JA,<- r1.length]; exact l1) n2 (Dy n2 n3) fun u g tk p1 ho t1 hp sz kp=>?_
  have e1:its[i]?=some u:=by simpa using p1
  obtain⟨u',hu,ru⟩:=r1.get (i:=i) (x:=xs[i]) (by simp [l1])
  rw [e1] at hu; cases hu
  refine⟨_,rfl,wpAny_letOwnedTupleGo_enum ho fun g' he' sb=>?_⟩
  have hpe:s.heap.objs.size≠e:=Jv (Mm he)
  have hp':=sb.extBut _ _ hpe hp
  have I':Inv X pins σ (upd H s.heap.objs.size (.tup [.int i,xs[i]])) { s with heap:=g',toks:=tk+1 }:=Inv.turnedL (ch:=[e,it]) I hf (fun c o hc q=>by
   simp only [Kw,Kx,or_false,not_or] at hc
   exact sb.extBut _ _ hc.1 (kp c o hc.1 hc.2 q)) (Jw _) ⟨by show 2<=MS; decide,[.int i tk,u],.cons ⟨_,rfl⟩ (.cons ru .nil),_,hp',rfl,_,rfl⟩
  have ne:∀ c∈[e,it],c≠s.heap.objs.size:=fun c hc q=>by
   simp only [Kw,Kx,or_false] at hc
   rcases hc with rfl | rfl
   ·exact hpe q.symm
   ·obtain⟨o,q',_⟩:=s1.get; exact absurd (Mm q') (by rw [q]; exact Jl _)
  refine⟨.ref s.heap.objs.size,_,I',rfl,⟨_,xs[i],rfl,I.fresh,rfl,fun xs' h=>by rw [Inv.sx_inj I h g1]; simp [l1]⟩,⟨⟨u,?_⟩,t1.1.keep fun o q=>sb.extBut _ _ n2.symm q⟩,fun c hc=>by rw [aF (ne c hc)]; exact(hf c hc).1⟩
  have ei:((i+1:Nat):Int)=(i:Int)+1:=by omega
  rw [ei]; exact he'
 done:=by
  intro X hP hw hK hc i pins s σ H E I hf ⟨⟨old,he⟩,s1⟩ hg
  subst hP hw hK
  obtain⟨xs,g1,l1⟩:=hg
  obtain⟨its,r1,q1,z1⟩:=Inv.sx I g1
  have hh:X.A.in1.handled=none:=I.ok.hd hc
  have el:i=its.toArray.size:=by rw [JA,<- r1.length]; exact l1
  refine wpAny_pyNext_enum_endD (kD (A:=X.A.in1) b hh it a n1 its.toArray) he ⟨by rw [<- el]; exact s1,q1⟩ fun g kp=>⟨rfl,Inv.turned0 (ch:=[e,it]) I hf fun c o hc q=>?_⟩
  simp only [Kw,Kx,or_false,not_or] at hc
  exact kp c o hc.2 q
 self:=fun _ _ _ _ _ ⟨⟨old,he⟩,_⟩ h=>wpAny_pyIter_enum he h
def gX (i:Nat):List D->List D
 | []=>[]
 | x::xs=>.tup [.int i,x]::gX (i+1) xs
theorem gA:∀ (i:Nat) (xs:List D),(gX i xs).length=xs.length
 | _,[]=>rfl
 | i,x::xs=>by rw [gX,JC,gA (i+1) xs,JC]
theorem qZ:∀ {xs:List D} {k i:Nat} {d:D},(gX k xs)[i]?=some d->∃ x,xs[i]?=some x/\d=.tup [.int ((k+i:Nat):Int),x]
 | [],k,i,d,h=>by simp [gX] at h
 | x::xs,k,0,d,h=>by
  rw [gX,Ky] at h
  cases h
  exact⟨x,rfl,rfl⟩
 | x::xs,k,i+1,d,h=>by
  rw [gX,Kz] at h
  obtain⟨y,h1,h2⟩:=qZ h
  refine⟨y,by rw [Kz]; exact h1,?_⟩
  rw [h2]
  congr 4
  omega
theorem xP {K:LQ} {Hd:Hp} {b:Bool} {a:MP} {ds:List D} {vs:List V} (h1:SX K b Hd a vs) (g1:aL K Hd ds vs):Walk K Hd (IC K b a) (gX 0 ds):=fun Hn O' i hO sm =>
  have s':aX Hd Hn:=sm.trans (aE Hn O')
  ⟨fun d e=>by
    obtain⟨x,e1,rfl⟩:=qZ e
    have l1:i < ds.length:=(List.getElem?_eq_some_iff.mp e1).1
    obtain⟨v,ev,dv⟩:=g1.get e1
    refine⟨⟨vs,h1.same s',by rw [<- g1.length]; exact l1⟩,fun u H2 ⟨p,x',eu,hp,eH,q1⟩=>?_⟩
    have z1:=q1 vs (h1.same s')
    rw [ev] at z1; cases z1
    subst eH eu
    rw [KH]
    exact⟨bC hp _,dA hO hp (bc.mpr ⟨.int i,_,rfl,eB.mpr rfl,bc.mpr ⟨v,_,rfl,dv.mono sm,cF.mpr rfl⟩⟩)⟩,
   fun hl=>by
    rw [gA] at hl
    exact⟨vs,h1.same s',by rw [<- g1.length]; exact hl⟩⟩
def rg:List D->Option (List D)
 | [a]=>(B1 a).bind fun x=>some (gX 0 x.2)
 | _=>none
def dS (f:aq->R (List D)):aq->R (List D):=fun ρ=>(f ρ).bind fun ds=>rO (rg ds)
section
variable {X:Cx}
theorem xI {prog:MO} {w:MN} {A:MV} {E:MM->MX->Prop} {s:MX} {b:Bool} {l:MP} {xs:Array MM} {Q:MM->MX->Prop} (h1:SQ b s.heap l xs)
  (h:∀ g,IsEnum g (s.heap.objs.size+1) s.heap.objs.size 0 .none->SI b g s.heap.objs.size l 0->(∀ c o,s.heap.get? c=some o->g.get? c=some o)->Q (.ref (s.heap.objs.size+1)) { s with heap:=g }):MZ (model prog w) A (call (.type "enumerate") [.ref l]) Q E s:=by
 refine callType_new F.called_enumerate (by decide) (F.typeCall_enumerate_1 _) (F.newCall_enumerate_1 _) (fun obj=>F.args_object_init_2 obj _) F.entry_enumerate_new (yA b l xs) ⟨h1,?_⟩
 have z1:(yT b s.heap l).objs.size=s.heap.objs.size+1:=Ms ..
 have g2:=Mr (yT b s.heap l) (o:={ cls:=.type "enumerate",data:=.fields #[.none,.bool false,.ref s.heap.objs.size,rawInt 0,.none,.none] }) rfl
 have g1:SI b ((yT b s.heap l).push { cls:=.type "enumerate",data:=.fields #[.none,.bool false,.ref s.heap.objs.size,rawInt 0,.none,.none] }) s.heap.objs.size l 0:=SI.keep SI.new fun o e=>Mq _ e
 show _/\_
 rw [z1] at g2 ⊢
 exact⟨⟨_,g2,rfl⟩,h _ g2 g1 fun c o e=>Mq _ (Mq _ e)⟩
theorem A9 {pins:List (MP×Obj)} {s:MX} {σ:St} {H:Hp} {O:List MP} {es:List M0} {k:Nat} {tpos:Pos} {ds r:List D} {vs:List V} {us:List MM} {RR:It->Hp->Prop} (I:Inv X pins σ H s) (hc:rg ds=some r) (d1:aL X.K (hid H O) ds vs) (rv:Vals vs us) (q:∀ J,Walk X.K (hid H O) J r->RR J H) :
  MZ (model X.prog X.w) X.A (call (.type "enumerate") us) (fun v s1=>MZ (model X.prog X.w) X.A (pyIter v) (PIE X pins σ (.Tuple es k tpos) RR) X.xe s1) X.xe s:=by
 unfold rg at hc
 split at hc
 ·rename_i a
  obtain⟨⟨b1,xs⟩,e1,hc⟩:=bind_some hc
  cases hc
  obtain⟨va,rfl,da⟩:=d1.one
  obtain⟨u1,rfl,r1⟩:=vals1 rv
  obtain⟨a1,ws1,rfl,x1,y1⟩:=pL e1 da
  cases r1
  obtain⟨its1,rr1,q1,_⟩:=Inv.sx I (x1.same (aE H O))
  refine xI q1 fun g he s1 kp=>wpAny_pyIter_enum he ?_
  refine⟨_,_,_,_,H,rfl,I.kept (t':=s.toks) kp,yJ (b:=b1) (Jm q1.lt) (Jv (KD (by decide))) (Jv (Jk q1.lt (KA _ 1))),⟨⟨_,he⟩,s1⟩,fun b hb=>?_,q _ (xP x1 y1)⟩
  have le:s.heap.objs.size<=b:=by
   simp only [Kw,Kx,or_false] at hb
   rcases hb with rfl | rfl
   ·exact KA _ _
   ·exact Jw _
  exact I.fpOk le (I.hok.fresh le)
 ·cases hc
theorem Br {a:M0} {es:List M0} {k:Nat} {tpos:Pos} {f:aq->R (List D)} {p pos:Pos} (hg:Gl X "enumerate") (hm:X.mg "enumerate"=none) (ha:FA X [a] f) (hs:M1 [a] X.env=(false,eval a X.env)::M1 [] X.env:=by rfl) (hpl:(backTo pos (M1 [] X.env)).any (·.1)=false:=by rfl):FI X (.Tuple es k tpos) (.Call (.Name "enumerate" p) [a] [] pos) (dS f):=by
 intro pins s σ H RR I ⟨O,ρ,E,hG⟩
 have hA:=ha pos pins s σ H (fun vs H1=>∃ ds r,rg ds=some r/\aL X.K (hid H1 O) ds vs/\∀ J,Walk X.K (hid H1 O) J r->RR J H1) I ⟨O,ρ,E,(gQ.bind hG).imp fun ds hG vs H1 s1 d1=>by
  obtain⟨r,e,q⟩:=gQ.rO hG
  exact⟨ds,r,e,d1,fun J wk=>q J H1 s1 wk⟩⟩
 refine MA (lC I hg hm PyProof.Rows.boot_enumerate (Mw (dH hA fun us s1 ⟨vs,H1,I1,r1,ds,r,er,d1,q⟩=>?_) hs hpl))
 exact A9 I1 er d1 r1 q
end
end TG
namespace TG
open PySem PySem.Spec L2
variable [aM]

theorem qx {K:LQ} {c:Str} {C C':MP} (h:clsAt K c C) (h':clsAt K c C'):C=C':=by
 unfold clsAt at h h'
 rw [h] at h'
 cases h'; rfl
theorem o0 {K:LQ} {H:Hp} {f:Str}:∀ {fs:List Str} {ds:List D} {vs:List V} {d:D},aL K H ds vs->(fs.zip ds).lookup f=some d->∃ v,(fs.zip vs).lookup f=some v/\cm K H d v
 | [],_,_,_,_,e=>by simp at e
 | _::_,[],_,_,_,e=>by simp at e
 | g::fs,x::ds,vs,d,h,e=>by
  rw [bc] at h
  obtain⟨v,r,rfl,h1,h2⟩:=h
  rw [KI,J4] at e ⊢
  cases hg:f==g with
  | true=>rw [hg] at e; cases e; exact⟨v,rfl,h1⟩
  | false=>rw [hg] at e; exact o0 h2 e
theorem qP {f:Str}:∀ {fs:List Str} {vs:List V},fs.contains f=false->(fs.zip vs).lookup f=none
 | [],_,_=>by simp
 | _::_,[],_=>by simp
 | g::fs,x::vs,h=>by
  rw [KJ,KN] at h
  rw [KI,J4,h.1]
  exact qP h.2
def sN (f:Str) (cs:List Str) (d:D):Option D:=match d with
 | .obj c fs vs=>if cs.contains c then (fs.zip vs).lookup f else none
 | _=>none
def tH (K:LQ) (f:Str) (cs:List Str):Prop:=∀ c∈cs,∀ C,clsAt K c C->wg K C/\jj K C f
section
variable {X:Cx} {a o e:M0} {es:List M0} {fa fo:FX} {fas:aq->R (List D)} {f m x:Str} {cs:List Str} {pos apos p:Pos} {k k':Nat} {ps:List Str}
theorem Iq (ok:tH X.K f cs) (h:FE X a fa) (hb:Nk a f X.env (eval a X.env)=eval a X.env:=by rfl):FE X (.Attribute a f pos) (f1 (sN f cs) fa) :=
 PE.weak (CB h hb) fun σ H Q ⟨O,ρ,E,hF⟩=>⟨O,ρ,E,(gQ.bind hF).imp fun d hF v H1 s1 d1=>by
  obtain⟨r,e,q⟩:=gQ.rO hF
  cases d with
  | obj c fs vs =>
   have e':(if cs.contains c then (fs.zip vs).lookup f else none)=some r:=e
   cases hc:cs.contains c with
   | false=>rw [hc] at e'; cases e'
   | true =>
    rw [hc] at e'
    obtain⟨a,ws,ev,g1,g2,C,dx,g3,g4⟩:=Gs.mp d1
    obtain⟨w,l1,l2⟩:=o0 g1 e'
    obtain⟨cl,na⟩:=ok c (List.contains_iff_mem.mp hc) C g3
    exact⟨a,C,dx,_,w,ev,aE H1 O _ _ g4,cl,na,l1,q w H1 s1 l2⟩
  | _=>cases e⟩
def MethAt (P:MO) (w:MN) (K:LQ) (mg:Str->Option MM) (base:MR) (k:Nat) (c m:Str) (ps:List Str) (g:List D->R D):Prop :=
 ∃ C f fd,clsAt K c C/\wg K C/\Meth K C m f/\hX P w K mg base (mS P w) k f fd ps (yY K ps.length g)/\Binds K fd ps []
def iy (m:Str) (tbl:List (Str×(List D->R D))) (fo:FX) (fas:aq->R (List D)):FX:=fun ρ=>(fo ρ).bind fun o=>match o with
 | .obj c fs vs=>match tbl.lookup c with
  | some g=>if fs.contains m then un else (fas ρ).bind fun as=>g (o::as)
  | none=>un
 | _=>un
def lh (P:MO) (w:MN) (K:LQ) (mg:Str->Option MM) (base:MR) (k:Nat) (m:Str) (ps:List Str) (tbl:List (Str×(List D->R D))):Prop :=
 ∀ c g,tbl.lookup c=some g->MethAt P w K mg base k c m ps g/\Ar ps.length g
theorem wz {P:MO} {w:MN} {K:LQ} {mg:Str->Option MM} {base:MR}:lh P w K mg base k m ps []:=fun _ _ h=>nomatch h
theorem lW {P:MO} {w:MN} {K:LQ} {mg:Str->Option MM} {base:MR} {c:Str} {g:List D->R D} {tbl:List (Str×(List D->R D))} (h:MethAt P w K mg base k c m ps g) (hn:Ar ps.length g) (t:lh P w K mg base k m ps tbl):lh P w K mg base k m ps ((c,g)::tbl):=fun c' g' e=>by
 rw [J4] at e
 cases hc:c'==c with
 | true =>
  rw [hc] at e
  cases e
  have:c'=c:=by simpa using hc
  subst this
  exact⟨h,hn⟩
 | false=>rw [hc] at e; exact t c' g' e
theorem MethAt.mono {P:MO} {w:MN} {K:LQ} {mg:Str->Option MM} {base:MR} {c:Str} {g:List D->R D} (h:MethAt P w K mg base k c m ps g) (hk:k<=k'):MethAt P w K mg base k' c m ps g:=by
 obtain⟨C,f,fd,h1,h2,h3,h4,h5⟩:=h
 exact⟨C,f,fd,h1,h2,h3,h4.mono hk,h5⟩
theorem Ac {tbl:List (Str×(List D->R D))} {args:List M0} {pl:Sem Bool} (tb:lh X.prog X.w X.K X.mg X.base k m ps tbl) (hr:e7 k X.A) (ho:FE X o fo)
  (hc:∀ (pins:List (MP×Obj)) (s1:MX) (σ:St) (H1:Hp) (O:List MP) (ρ:aq) (a f:MP) (od:D) (Q:VK) (g:List D->R D) (fd:Nq) (w0:V),L6 X.K (.ref f)=true->hX X.prog X.w X.K X.mg X.base (mS X.prog X.w) k f fd ps (yY X.K ps.length g)->Binds X.K fd ps []->Ar ps.length g->Inv X pins σ H1 s1->cQ X.K O H1 ρ σ->cm X.K (hid H1 O) od (.ref a) ->
   (gQ X σ O H1 ((fas ρ).bind fun as=>g (od::as)) fun d=>∀ v H',aX H1 H'->cm X.K (hid H' O) d v->Q v H') ->
   MZ (model X.prog X.w) X.A (Nm pos (.ref f) [.ref a] (backTo pos (M1 args X.env)) (backToKw pos (Nn [] X.env))) (EP X pins σ Q) X.xe s1)
  (ht:eval (.Call (.Attribute o m apos) args [] pos) X.env=(do
   let ov <- eval o X.env
   standAt apos.atName
   let (f,first) <- holding [ov] (getMethod ov m pl)
   Nm pos f first (backTo pos (M1 args X.env)) (backToKw pos (Nn [] X.env)))) :
  FE X (.Call (.Attribute o m apos) args [] pos) (iy m tbl fo fas):=by
 intro pins s σ H Q I ⟨O,ρ,E,hF⟩
 refine uF ho I ?_ ht
 refine⟨O,ρ,E,(gQ.bind hF).imp fun d hF v H1 s1 d1=>?_⟩
 cases d with
 | obj c fs vs =>
  have hF':gQ X σ O H (match tbl.lookup c with | some g=>if fs.contains m then un else (fas ρ).bind fun as=>g (.obj c fs vs::as) | none=>un) _:=hF
  cases hg:tbl.lookup c with
  | none=>rw [hg] at hF'; exact hF'.elim
  | some g =>
   rw [hg] at hF'
   have hF2:gQ X σ O H (if fs.contains m then un else (fas ρ).bind fun as=>g (.obj c fs vs::as)) _:=hF'
   cases hm:fs.contains m with
   | true=>rw [hm] at hF2; exact hF2.elim
   | false =>
    rw [hm] at hF2
    have hF3:gQ X σ O H ((fas ρ).bind fun as=>g (.obj c fs vs::as)) _:=hF2
    have d0:=d1
    obtain⟨a,ws,ev,g1,g2,C,dx,g3,g4⟩:=Gs.mp d1
    obtain⟨⟨C',f,fd,m1,m2,m3,m4,m5⟩,ar⟩:=tb c g hg
    have eC:=qx g3 m1
    subst eC
    subst ev
    refine⟨a,C,dx,_,f,rfl,aE H1 O _ _ g4,m2,m3,qP hm,fun s2 I2=>?_⟩
    exact hc pins s2 σ H1 O ρ a f _ Q g fd (.ref a) m3.kp m4 m5 ar I2 (E.same s1) d0 ((hF3.mono s1).imp fun d q v H2 s2 d2=>q v H2 (s1.trans s2) d2)
 | _=>exact hF.elim
theorem vB {σ:St} {O:List MP} {H:Hp} {g:List D->R D} {ds:List D} {vs:List V} {Q:VK} {n:Nat} (ar:Ar n g) (hO:dg H O) (d1:aL X.K (hid H O) ds vs) (h:gQ X σ O H (g ds) fun d=>∀ v H',aX H H'->cm X.K (hid H' O) d v->Q v H'):∃ E,jA (mS X.prog X.w) X σ E/\yY X.K n g vs H Q E:=by
 cases hg:g ds with
 | ok d =>
  rw [hg] at h
  refine⟨E0,wO,O,ds,by rw [<- d1.length]; exact ar ds (by rw [hg]; intro z; cases z),hO,d1,?_⟩
  rw [hg]; exact h
 | error z =>
  rw [hg] at h
  cases z with
  | none=>exact h.elim
  | some x =>
   refine⟨xr X O H x,xn h,O,ds,by rw [<- d1.length]; exact ar ds (by rw [hg]; intro z; cases z),hO,d1,?_⟩
   rw [hg]; exact sY
theorem FP {tbl:List (Str×(List D->R D))} {pl:Sem Bool} (tb:lh X.prog X.w X.K X.mg X.base k m ps tbl) (hr:e7 k' X.A) (hk:k<=k') (ho:FE X o fo) (ha:FA X (e::es) fas)
  (hns:(e::es).all noStar=true:=by rfl)
  (ht:eval (.Call (.Attribute o m apos) (e::es) [] pos) X.env=(do
   let ov <- eval o X.env
   standAt apos.atName
   let (f,first) <- holding [ov] (getMethod ov m pl)
   Nm pos f first (backTo pos (M1 (e::es) X.env)) (backToKw pos (Nn [] X.env))):=by rfl) :
  FE X (.Call (.Attribute o m apos) (e::es) [] pos) (iy m tbl fo fas) :=
 Ac tb (hr.mono hk) ho (fun pins s1 σ H1 O ρ a f od Q g fd _ kp F b ar I1 E1 dO hP=>by
  refine L7 (first:=[.ref a]) (h₀:=X.base) I1.ok.mod.kin kp (dH (ha pos pins s1 σ H1 _ I1 ⟨O,ρ,E1,(gQ.bind hP).imp fun as hP vs H2 s2 d2=>vB (vs:=.ref a::vs) ar (E1.all.same s2) (bc.mpr ⟨_,_,rfl,dO.mono (bx s2),d2⟩) ((hP.mono s2).imp fun d q v H3 s3 d3=>q v H3 (s2.trans s3) d3)⟩) fun us s2 ⟨vs,H2,I2,r,Ex,hx,q2⟩=>⟨I2.kIn,?_⟩) (cP (JU _ _ ▸ hns).1) (gO (JU _ _ ▸ hns).2)
  exact w8 (us:=.ref a::us) (vs:=.ref a::vs) F (hr.mono hk) b hx I2 (.cons rfl r) q2) ht
theorem kQ {P:MO} {w:MN} {K:LQ} {mg:Str->Option MM} {base:MR} {c y qual:Str} {C f:MP} {fd:Nq} {st:M2} {N:List Str} {B:cf} (h1:clsAt K c C) (h2:wg K C) (h3:Meth K C m f) (F:uT K y qual st f fd) (b:Binds K fd ps []) (SC:bd N ps (aA st)) (hb:BodyOk P w K mg base k N qual st f B) :
  MethAt P w K mg base (k+1) c m ps (bj B ps.length N.length):=⟨C,f,fd,h1,h2,h3,rR F SC hb,b⟩
def IT (C:MP) (fs:List Str):Sp:=fun vs H Q _=>∃ x dx as,vs=.ref x::as/\as.length=fs.length/\H x=some (.ins C dx [])/\Q .non (upd H x (.ins C dx (fs.zip as)))
def oK (P:MO) (w:MN) (K:LQ) (mg:Str->Option MM) (base:MR) (k:Nat) (c:Str) (ps fs:List Str):Prop :=
 ∃ C f fd,clsAt K c C/\Mk K C f/\hX P w K mg base (mS P w) k f fd ps (IT C fs)/\Binds K fd ps []/\mg c=some (.ref C)
def fNew (c:Str) (fs:List Str) (fas:aq->R (List D)):FX:=fun ρ=>(fas ρ).bind fun as=>if as.length=fs.length then .ok (.obj c fs as) else un
theorem tQ {K:LQ} {H1:Hp} {O:List MP} {c:Str} {fs:List Str} {as:List D} {vs:List V} {C x dx:MP} (hc:clsAt K c C) (hl:as.length=fs.length) (d1:aL K (hid H1 O) as vs) (hO:dg H1 O) (hx:H1 x=none) (hd:H1 dx=none) (ne:dx≠x) :
  aX H1 (upd (upd (upd H1 dx (.own x)) x (.ins C dx [])) x (.ins C dx (fs.zip vs)))/\cm K (hid (upd (upd (upd H1 dx (.own x)) x (.ins C dx [])) x (.ins C dx (fs.zip vs))) O) (.obj c fs as) (.ref x):=by
 have sm:aX H1 (upd (upd (upd H1 dx (.own x)) x (.ins C dx [])) x (.ins C dx (fs.zip vs))):=fun b o h=>by
  have n1:=aT h hx
  have n2:=aT h hd
  rw [aF n1,aF n1,aF n2]; exact h
 exact⟨sm,Gs.mpr ⟨x,vs,rfl,d1.mono (bx sm),by rw [<- d1.length,hl],C,dx,hc,by rw [iR (hO.not hx),aN]⟩⟩
theorem Fl {X:Cx}:vd (mS X.prog X.w) X E0:=fun _ _ _ _ _ _ _ h=>by
 obtain⟨_,_,_,_,_,_,_,_,_,_,_,_,_,z⟩:=h
 exact z.elim
theorem G4 {c:Str} {fs:List Str} (IA:oK X.prog X.w X.K X.mg X.base k c ps fs) (hr:e7 k' X.A) (hk:k+1<=k') (hg:Gl X c) (ha:FA X (e::es) fas) (hdb:(c==("__debug__":Str))=false:=by decide)
  (hns:(e::es).all noStar=true:=by rfl):FE X (.Call (.Name c p) (e::es) [] pos) (fNew c fs fas):=by
 obtain⟨C,f,fd,h1,h2,h3,h4,h5⟩:=IA
 refine PE.weak (Bv (dvs:=[]) (E:=E0) h2 h3 (hr.mono hk) hg h5 h4 .nil Fl ha hdb (cP (JU _ _ ▸ hns).1) (gO (JU _ _ ▸ hns).2)) fun σ H Q ⟨O,ρ,E,hF⟩=>⟨O,ρ,E,(gQ.bind hF).imp fun as hF vs H1 s1 d1 x dx hx hd ne=>?_⟩
 by_cases hl:as.length=fs.length
 ·rw [if_pos hl] at hF
  rw [JH]
  refine⟨x,dx,vs,rfl,by rw [<- d1.length,hl],by rw [aN],rfl,?_⟩
  obtain⟨sm,dn⟩:=tQ h1 hl d1 (E.all.same s1) hx hd ne
  exact hF _ _ (s1.trans sm) dn
 ·rw [if_neg hl] at hF; exact hF.elim
theorem pR (f:Str) (v:V):∀ {fs:List (Str×V)},(fs.map (·.1)).contains f=false->jv f v fs=fs++[(f,v)]
 | [],_=>rfl
 | (g,w)::fs,h=>by
  rw [JD,KJ,KN] at h
  have ne:¬ g=f:=fun z=>by
   have:=h.1
   rw [z] at this
   simp at this
  have:=pR f v (fs:=fs) h.2
  unfold jv
  simp only [ne,if_false,this,J8]
def wY (X:Cx) (cs:List Str) (body:List M2) (fs:List Str) (i:Nat):Prop :=
 ∃ t,tq X body t/\∀ (D:Ends) (σ:St) (H:Hp) (x dx C:MP) (done:List (Str×V)) (as:List V),σ[0]?=some (some (.ref x))->(∀ j v,as[j]?=some v->σ[i+j]?=some (some v))->as.length=fs.length->wg X.K C->(∀ f∈fs,jj X.K C f)->done.length+fs.length < 1000->(done.map (·.1)++fs).Nodup->H x=some (.ins C dx done) ->
  D.nx σ (upd H x (.ins C dx (done++fs.zip as)))->t D σ H
theorem xK {st:M2} {f:Str} {i:Nat} {o v:M0} {p1 p2:Pos} (hst:st=.Assign [.Attribute o f p1] v p2) (ho:PE X o (nq 0)) (hv:PE X v (nq i)) (hs:swapsWith v (some (.Attribute o f p1)) p2.line X.env=pure false):wY X cs [st] [f] i:=by
 subst hst
 refine⟨_,wA (zc ho hv hs),fun D σ H x dx C done as h0 ha hl cl na hz nd hx q=>?_⟩
 obtain⟨a,rfl⟩:∃ a,as=[a]:=by
  match as,hl with
  | [a],_=>exact⟨a,rfl⟩
 refine⟨a,ha 0 a rfl,.ref x,h0,x,C,dx,done,rfl,hx,cl,na f (List.mem_singleton.mpr rfl),by simp at hz; omega,?_⟩
 rw [pR f a (by
  have:=nd
  rw [KO] at this
  have h3:=this.2.2
  cases hc:(done.map (·.1)).contains f with
  | false=>rfl
  | true=>exact absurd rfl (h3 f (List.contains_iff_mem.mp hc) f (List.mem_singleton.mpr rfl)))]
 exact q
theorem vZ {st:M2} {rest:List M2} {f:Str} {fs:List Str} {i:Nat} {o v:M0} {p1 p2:Pos} (hst:st=.Assign [.Attribute o f p1] v p2) (ho:PE X o (nq 0)) (hv:PE X v (nq i)) (hs:swapsWith v (some (.Attribute o f p1)) p2.line X.env=pure false) (hr:wY X cs rest fs (i+1)):wY X cs (st::rest) (f::fs) i:=by
 subst hst
 obtain⟨t,ht,hq⟩:=hr
 refine⟨_,ug (zc ho hv hs) ht,fun D σ H x dx C done as h0 ha hl cl na hz nd hx q=>?_⟩
 obtain⟨a,as,rfl⟩:∃ a r,as=a::r:=by
  match as,hl with
  | a::r,_=>exact⟨a,r,rfl⟩
 have hno:(done.map (·.1)).contains f=false:=by
  have:=nd
  rw [KO] at this
  have h3:=this.2.2
  cases hc:(done.map (·.1)).contains f with
  | false=>rfl
  | true=>exact absurd rfl (h3 f (List.contains_iff_mem.mp hc) f Jq)
 refine⟨a,ha 0 a rfl,.ref x,h0,x,C,dx,done,rfl,hx,cl,na f Jq,by simp at hz; omega,?_⟩
 rw [pR f a hno]
 refine hq D σ _ x dx C (done++[(f,a)]) as h0 (fun j v e=>?_) (by simpa using hl) cl (fun g hg=>na g (Jr _ hg)) (by simp at hz ⊢; omega) (by simpa [Ku] using nd) (by rw [aN]) ?_
 ·have:=ha (j+1) v (by simpa using e)
  rw [show i+1+j=i+(j+1) by omega]; exact this
 ·rw [Bi,Ku]; exact q
theorem yi {P:MO} {w:MN} {K:LQ} {mg:Str->Option MM} {base:MR} {c qual:Str} {C f:MP} {fd:Nq} {st:M2} {fs:List Str} (h1:clsAt K c C) (hM:Mk K C f) (cl:wg K C) (na:∀ g∈fs,jj K C g) (F:uT K "__init__" qual st f fd) (b:Binds K fd ps []) (hmg:mg c=some (.ref C)) (SC:bd ps ps (aA st)) (hps:ps.length=fs.length+1) (hnd:fs.Nodup) (hlen:fs.length < 1000)
  (hb:∀ (cdv:MM) (A:MV) (outer:List Env) (s:MX) (H:Hp) (E:XK),wY (jG Gj P w K mg base ps qual (aA st) f cdv A outer s H E).nox [] (eD st) fs 1):oK P w K mg base (k+1) c ps fs:=by
 refine⟨C,f,fd,h1,hM,?_,b,hmg⟩
 refine hX.any (F.ok SC (fun vs H Q E h=>?_) fun cdv A outer s H vs Q E hr h=>?_)
 ·obtain⟨x,dx,as,rfl,hl,_⟩:=h
  rw [JC,hl,hps]
 ·obtain⟨t,ht,hq⟩:=hb cdv A outer s H E
  obtain⟨x,dx,as,rfl,hl,hx,q⟩:=h
  have hst:L2.start ps (.ref x::as)=(.ref x::as).map some:=by
   unfold L2.start
   rw [JC,hl,hps,KP,KQ,JH]
  refine⟨t,ht,hq _ _ H x dx C [] as (by rw [hst]; rfl) (fun j v e=>?_) hl cl na (by simpa using hlen) (by simpa using hnd) hx q⟩
  rw [hst,Nat.add_comm,JD,Kz,JP,e]; rfl
end
end TG
namespace TG
open PySem PySem.Spec L2
variable [aM]
section
variable {X:Cx}
def Jg:D->Option Str
 | .str z=>some z
 | _=>none
def HS (a b:D):Option D:=match a,b with
 | .bl c,.bl d=>some (.bl (c==d))
 | _,_=>none
def AU (a b:D):Option D:=match a,b with
 | .bl c,.bl d=>some (.bl (!(c==d)))
 | _,_=>none
end
section
variable {X:Cx} {C:MP} {pins:List (MP×Obj)} {σ:St} {H:Hp} {s:MX} {Q:VK}
end
end TG
namespace TG
open PySem PySem.Spec PyProof.Rows L2
variable [aM]
def cY:List D->List D->Option Bool
 | [],[]=>some false
 | [],_::_=>some true
 | _::_,[]=>some false
 | a::as,b::bs=>match a,b with
  | .int i,.int j=>if i=j then cY as bs else some (decide (i < j))
  | .str x,.str y=>if x=y then cY as bs else some (decide (x.cps.toList < y.cps.toList))
  | _,_=>none
inductive fO:List MM->List D->Prop where
 | nil:fO [] []
 | int (i:Int) (t:Tok) {vs:List MM} {ds:List D} (h:fO vs ds):fO (.int i t::vs) (.int i::ds)
 | str (x:Str) (t:Tok) {vs:List MM} {ds:List D} (h:fO vs ds):fO (.str x t::vs) (.str x::ds)
theorem fO.length:∀ {vs:List MM} {ds:List D},fO vs ds->vs.length=ds.length
 | _,_,.nil=>rfl
 | _,_,.int _ _ h=>by rw [JC,JC,h.length]
 | _,_,.str _ _ h=>by rw [JC,JC,h.length]
theorem Cd (A:MV) (s:MX) (a:Int) (t:Tok) (c:Int) (u:Tok):∃ e,SeqAt.EqAt A s (.int a t) (.int c u) e/\(e=true↔a=c) :=
 ⟨(a==c),SeqAt.EqAt.int_int a t c u,by simp⟩
theorem B8 (A:MV) (s:MX) (a:Str) (t:Tok) (c:Str) (u:Tok):∃ e,SeqAt.EqAt A s (.str a t) (.str c u) e/\(e=true↔a=c) :=
 ⟨(a==c),SeqAt.EqAt.str_str a t c u,by simp⟩
theorem Fq (A:MV) (s:MX) (a:Str) (t:Tok) (c:Str) (u:Tok) (prog:MO) (w:MN) (E:MM->MX->Prop) (Q:MM->MX->Prop) (h:Q (.bool (decide (a.cps.toList < c.cps.toList))) s) :
  MZ (model prog w) A (richCompare .Lt (.str a t) (.str c u)) Q E s :=
 (PySem.P.lt_str h:MZ (model prog w) A (Ng .Lt (.str a t) (.str c u)) Q E s)
section
open PySem.SeqAt
open PySem.AutoSeq1 (wpAny_loadPart')
open PySem.MeetsSeq PySem.MeetsSeq2 PySem.MeetsSeq3
set_option maxHeartbeats 1000000 in
theorem p6 (l b:MP) (items items2:Array MM) (n n2:Nat) (dd dd2:Option MP) (sl sl2:Array (Option MM)) (ns ms:List D) (r:Bool) (hi:fO items.toList ns) (hj:fO items2.toList ms) (hr:cY ns ms=some r) :
  Meets (Builtin.«tuple.__lt__» ⟨[.ref l,.ref b],[]⟩)
   (fun _ R s=>s.heap.get? l=some { cls:=.type "tuple",dict:=dd,data:=.seq items n,slots:=sl }/\s.heap.get? b=some { cls:=.type "tuple",dict:=dd2,data:=.seq items2 n2,slots:=sl2 } /\
    R (.ok (.ret (.bool r))) s) :=
 .of_wp fun prog w A R s h=>by
  obtain⟨hp,g,d,tk,os⟩:=s; obtain⟨hl,hb,h⟩:=h
  have f2:=AutoSeq1.sub_tuple_tuple
  have z1:items.size=ns.length:=by rw [<- hi.length]; simp
  have z2:items2.size=ms.length:=by rw [<- hj.length]; simp
  wp_walk using wpAny_loadPart' hl,wpAny_loadPart' hb,wpAny_forIn_list _ (fun rest b s'=>b.1=none/\s'=⟨hp,g,d,tk,os⟩/\∃ (vs ws:List MM) (ns' ms':List D),rest=vs.zip ws /\
   fO vs ns'/\fO ws ms'/\ns'.length+items2.size=ms'.length+items.size/\cY ns' ms'=some r/\R (.ok (.ret (.bool r))) ⟨hp,g,d,tk,os⟩) _
  case turn =>
   rintro⟨y,x⟩ rest b s' ⟨hb',rfl,vs,ws,ns',ms',hz,hvi,hwi,hlen,hL,hR⟩
   cases hvi with
   | nil=>rw [List.zip_nil_left] at hz; cases hz
   | int a t hvi' =>
    cases hwi with
    | nil=>rw [KR] at hz; cases hz
    | str c u hwi'=>cases hL
    | int c u hwi' =>
     rw [KI] at hz
     injection hz with hyx hrest
     injection hyx with hy hx
     subst hy hx
     have hL':(if a=c then cY _ _ else some (decide (a < c)))=some r:=hL
     simp only [JC] at hlen
     obtain⟨e,he,hiff⟩:=Cd A.in1 ⟨hp,g,d,tk,os⟩ a t c u
     refine M7 (he prog w _ _ ?_)
     cases e with
     | true =>
      rw [if_pos (hiff.mp rfl)] at hL'
      wp_walk
      exact⟨rfl,rfl,_,_,_,_,hrest,hvi',hwi',by omega,hL',hR⟩
     | false =>
      rw [if_neg (fun q=>absurd (hiff.mpr q) JB)] at hL'
      cases hL'
      have hri:=HT.Eu A.in1 ⟨hp,g,d,tk,os⟩ a t c u prog w
      wp_walk using hri
      exact⟨_,rfl,by simpa using hR⟩
   | str a t hvi' =>
    cases hwi with
    | nil=>rw [KR] at hz; cases hz
    | int c u hwi'=>cases hL
    | str c u hwi' =>
     rw [KI] at hz
     injection hz with hyx hrest
     injection hyx with hy hx
     subst hy hx
     have hL':(if a=c then cY _ _ else some (decide (a.cps.toList < c.cps.toList)))=some r:=hL
     simp only [JC] at hlen
     obtain⟨e,he,hiff⟩:=B8 A.in1 ⟨hp,g,d,tk,os⟩ a t c u
     refine M7 (he prog w _ _ ?_)
     cases e with
     | true =>
      rw [if_pos (hiff.mp rfl)] at hL'
      wp_walk
      exact⟨rfl,rfl,_,_,_,_,hrest,hvi',hwi',by omega,hL',hR⟩
     | false =>
      rw [if_neg (fun q=>absurd (hiff.mpr q) JB)] at hL'
      cases hL'
      have hri:=Fq A.in1 ⟨hp,g,d,tk,os⟩ a t c u prog w
      wp_walk using hri
      exact⟨_,rfl,by simpa using hR⟩
  case fin =>
   rintro⟨b1,b2⟩ s' ⟨hb',rfl,vs,ws,ns',ms',hz,hvi,hwi,hlen,hL,hR⟩
   simp only at hb'
   subst hb'
   have hv:r=decide (items.size < items2.size):=by
    have l1:=hvi.length
    have l2:=hwi.length
    cases ns' with
    | nil =>
     cases ms' with
     | nil =>
      simp only [J1] at hlen
      cases hL
      exact(decide_eq_false ‹0›).symm
     | cons c u =>
      simp only [J1,JC] at hlen
      cases hL
      exact(decide_eq_true ‹0›).symm
    | cons a t =>
     cases ms' with
     | nil =>
      simp only [J1,JC] at hlen
      cases hL
      exact(decide_eq_false ‹0›).symm
     | cons c u =>
      have:=congrArg List.length hz
      simp only [J1,List.length_zip,l1,l2,JC] at this
      omega
   rw [hv] at hR
   wp_walk
   exact⟨_,rfl,by simpa [Builtin.Tuple.tupleCompareSizes] using hR⟩
  case h =>
   exact⟨rfl,rfl,items.toList,items2.toList,ns,ms,rfl,hi,hj,by omega,hr,h⟩
end
section
variable {X:Cx}
theorem qT {α:Type} {c:Bool} {o:Option α} {a:α} (h:(if c then o else none)=some a):c=true/\o=some a:=by
 cases c with
 | true=>exact⟨rfl,h⟩
 | false=>cases h
theorem wo {prog:MO} {w:MN} {A:MV} {E:MM->MX->Prop} {s:MX} {l b:MP} {items items2:Array MM} {ns ms:List D} {r:Bool} {Q:MM->MX->Prop} (hl:IsTup s.heap l items) (hb:IsTup s.heap b items2) (hi:fO items.toList ns) (hj:fO items2.toList ms) (hr:cY ns ms=some r)
  (hu:A.units < Np) (h:Q (.bool r) s):MZ (model prog w) A (Ng .Lt (.ref l) (.ref b)) Q E s:=by
 obtain⟨⟨cls,dd,data,sl⟩,ho,hc,n,hd⟩:=id hl
 obtain⟨⟨cls2,dd2,data2,sl2⟩,ho2,hc2,n2,hd2⟩:=id hb
 simp only at hc hd hc2 hd2
 subst hc hd hc2 hd2
 exact richCompare_meets_room (op:=.Lt) ⟨_,ho,rfl⟩ ⟨_,ho2,rfl⟩ PySem.F.slot_tuple_lt PySem.F.entry_tuple_lt (PySem.F.args_tuple_lt_2 _ _) (p6 l b items items2 n n2 dd dd2 sl sl2 ns ms r hi hj hr)
  ⟨ho,ho2,show Value.bool r≠Value.notImplemented/\Q (.bool r) s from ⟨(fun x=>nomatch x),h⟩⟩ hu
def nM:List D->Bool
 | []=>true
 | .int _::r=>nM r
 | .str _::r=>nM r
 | _=>false
theorem jx {K:LQ} {H:Hp}:∀ {ds:List D} {vs:List V} {us:List MM},nM ds=true->aL K H ds vs->Vals vs us->fO us ds
 | [],vs,us,_,h,r=>by
  rw [cF] at h
  subst h
  cases r
  exact .nil
 | d::ds,vs,us,hf,h,r=>by
  obtain⟨v,r',e,h1,h2⟩:=bc.mp h
  subst e
  cases r with
  | cons q1 q2 =>
   cases d with
   | int i =>
    rw [eB] at h1
    subst h1
    obtain⟨t,rfl⟩:=q1
    exact .int i t (jx hf h2 q2)
   | str x =>
    rw [dJ] at h1
    subst h1
    obtain⟨t,rfl⟩:=q1
    exact .str x t (jx hf h2 q2)
   | _=>cases hf
def rX (a b:D):Option D:=match a,b with
 | .int i,.int j=>some (.bl (decide (i < j)))
 | .str x,.str y=>some (.bl (decide (x.cps.toList < y.cps.toList)))
 | .tup xs,.tup ys=>if nM xs && nM ys then (cY xs ys).bind fun r=>some (.bl r) else none
 | _,_=>none
theorem pT (hu:X.A.units+64 < Np):kU X (Ng .Lt) (rD X.K rX):=by
 intro pins s σ H x y u v Q I rx ry ⟨O,a,b,d,hO,ha,hb,hg,q⟩
 cases a with
 | int i =>
  cases b with
  | int j =>
   cases hg
   exact ER pins s σ H x y u v Q I rx ry ⟨i,j,eB.mp ha,eB.mp hb,q _ H (aX.refl H) (jO.mpr rfl)⟩
  | _=>cases hg
 | str i =>
  cases b with
  | str j =>
   cases hg
   exact yQ pins s σ H x y u v Q I rx ry ⟨i,j,dJ.mp ha,dJ.mp hb,q _ H (aX.refl H) (jO.mpr rfl)⟩
  | _=>cases hg
 | tup xs =>
  cases b with
  | tup ys =>
   obtain⟨h1,h2⟩:=qT hg
   obtain⟨r,e1,e2⟩:=bind_some h2
   cases e2
   rw [JU] at h1
   obtain⟨p,vs,ex,g1,g2⟩:=cq.mp ha
   obtain⟨p',vs',ey,g1',g2'⟩:=cq.mp hb
   subst ex ey
   cases rx
   cases ry
   obtain⟨its,r1,t1,_⟩:=I.tuple (bM (aE H O) g1)
   obtain⟨its2,r2,t2,_⟩:=I.tuple (bM (aE H O) g1')
   exact wo t1 t2 (jx h1.1 g2 r1) (jx h1.2 g2' r2) e1 ‹0› (Au I (q _ H (aX.refl H) (jO.mpr rfl)) rfl)
  | _=>cases hg
 | _=>cases hg
end
end TG
namespace TG
open PySem PySem.Spec L2
variable [aM]
def kT (x:Str) (n:Int):Str:=if (n==1 || x.length==0)=true then x else ⟨(List.replicate n.toNat x.cps).foldl (·++·) #[]⟩
theorem foldl_size:∀ (n:Nat) (c a:Array Nat),((List.replicate n c).foldl (·++·) a).size=a.size+n*c.size
 | 0,_,a=>by simp
 | n+1,c,a=>by
  rw [List.replicate_succ,KS,foldl_size n c,Array.size_append,Nat.succ_mul]; omega
theorem zG {x:Str} {n:Int} (h:1<=n):(kT x n).length=n.toNat*x.length:=by
 unfold kT
 split
 ·rename_i q
  rw [Kj] at q
  rcases q with q | q
  ·have:n=1:=by simpa using q
   rw [this]; simp
  ·have:x.length=0:=by simpa using q
   rw [this]; simp
 ·show ((List.replicate n.toNat x.cps).foldl (·++·) #[]).size=n.toNat*x.cps.size
  rw [foldl_size]; simp
def uB (a b:D):Option D:=match a,b with
 | .int i,.int j=>lw (.int i) (.int j)
 | .str x,.int n=>if decide (1<=n/\n<=1000/\x.length<=1000) then some (.str (kT x n)) else none
 | _,_=>none
section
variable {X:Cx}
theorem rL:kU X (Nf .Mult) (rD X.K uB):=by
 intro pins s σ H x y u v Q I rx ry ⟨O,a,b,d,hO,ha,hb,hg,q⟩
 cases a with
 | int i =>
  cases b with
  | int j=>exact hZ pins s σ H x y u v Q I rx ry (h7 (.int i) (.int j) d x y O H Q hO hg ha hb q)
  | _=>cases hg
 | str z =>
  cases b with
  | int n =>
   obtain⟨h1,h2⟩:=bv hg
   subst h2
   obtain⟨n1,n2,zl⟩:=of_decide_eq_true h1
   rw [dJ] at ha
   rw [eB] at hb
   subst ha hb
   obtain⟨t,rfl⟩:=rx
   obtain⟨t',rfl⟩:=ry
   have zn:z.length*n.toNat<=1000*1000:=Nat.mul_le_mul zl ‹0›
   refine P.mul_str (by rw [decide_eq_false ‹0›,decide_eq_false ‹0›]; rfl) (fun _ _=>?_) (fun _ _=>?_) ?_
   ·have:(2 ^ 63 - 1:Int) / n>=(2 ^ 63 - 1) / 1000:=by
     rw [ge_iff_le,Int.le_ediv_iff_mul_le ‹0›]
     have h3:(2 ^ 63 - 1:Int) / 1000*n<=(2 ^ 63 - 1) / 1000*1000:=Int.mul_le_mul_of_nonneg_left n2 (by decide)
     have h4:(2 ^ 63 - 1:Int) / 1000*1000<=2 ^ 63 - 1:=by decide
     omega
    have h5:(2 ^ 63 - 1:Int) / 1000=9223372036854775:=by decide
    omega
   ·unfold Builtin.Str.tooLong
    rw [decide_eq_false]
    rw [Ni]; omega
   ·rw [if_neg ‹0›]
    have fin:∀ tk,EP X pins σ Q (.str (kT z n) tk) { s with toks:=s.toks+1 }/\EP X pins σ Q (.str (kT z n) tk) s:=fun tk=>⟨⟨.str (kT z n),H,I.tok _,⟨_,rfl⟩,q _ H (aX.refl H) (dJ.mpr rfl)⟩,⟨.str (kT z n),H,I,⟨_,rfl⟩,q _ H (aX.refl H) (dJ.mpr rfl)⟩⟩
    by_cases e:(n==1 || z.length==0)=true
    ·rw [if_pos e]
     have:kT z n=z:=by unfold kT; rw [if_pos e]
     rw [this] at fin
     exact(fin t).2
    ·rw [if_neg e]
     have e2:kT z n=⟨(List.replicate n.toNat z.cps).foldl (·++·) #[]⟩:=by unfold kT; rw [if_neg e]
     rw [e2] at fin
     refine⟨?_,(fin _).1⟩
     have rl:=zG (x:=z) (n:=n) ‹0›
     rw [e2] at rl
     rw [rl,Ni,Nat.mul_comm]; omega
  | _=>cases hg
 | _=>cases hg
end
end TG
namespace TG
open PySem PySem.Spec PyProof.Rows PySem.W L2
variable [aM]
theorem pq:∀ a:List Nat,¬ a < a
 | []=>KU _
 | x::xs=>fun h=>by
  rcases List.cons_lt_cons_iff.mp h with h | ⟨_,h⟩
  ·omega
  ·exact pq xs h
theorem jE:∀ {a b c:List Nat},a < b->b < c->a < c
 | _,_,[],_,h=>absurd h (KU _)
 | _,[],_::_,h,_=>absurd h (KU _)
 | [],_::_,_::_,_,_=>KW _ _
 | x::xs,y::ys,z::zs,h,h'=>by
  rw [KY] at h h' ⊢
  rcases h with h | ⟨e,h⟩ <;> rcases h' with h' | ⟨e',h'⟩
  ·exact .inl ‹0›
  ·exact .inl ‹0›
  ·exact .inl ‹0›
  ·exact .inr ⟨by omega,jE h h'⟩
theorem Aa:∀ a b:List Nat,a < b\/a=b\/b < a
 | [],[]=>.inr (.inl rfl)
 | [],_::_=>.inl (KW _ _)
 | _::_,[]=>.inr (.inr (KW _ _))
 | x::xs,y::ys=>by
  rw [KY,KY]
  rcases Nat.lt_trichotomy x y with h | h | h
  ·exact .inl (.inl h)
  ·rcases Aa xs ys with q | q | q
   ·exact .inl (.inr ⟨h,q⟩)
   ·exact .inr (.inl (by rw [h,q]))
   ·exact .inr (.inr (.inr ⟨h.symm,q⟩))
  ·exact .inr (.inr (.inl h))
theorem zS {x y:Str} (h:x.cps.toList=y.cps.toList):x=y:=by
 cases x; cases y
 congr 1
 exact Array.toList_inj.mp h
inductive Sh:List Bool->List D->Prop where
 | nil:Sh [] []
 | int (i:Int) {bs:List Bool} {ds:List D} (h:Sh bs ds):Sh (true::bs) (.int i::ds)
 | str (x:Str) {bs:List Bool} {ds:List D} (h:Sh bs ds):Sh (false::bs) (.str x::ds)
theorem Sh.length:∀ {σ:List Bool} {a:List D},Sh σ a->a.length=σ.length
 | _,_,.nil=>rfl
 | _,_,.int _ h=>by rw [JC,JC,h.length]
 | _,_,.str _ h=>by rw [JC,JC,h.length]
theorem rN:∀ {σ:List Bool} {a:List D},Sh σ a->nM a=true
 | _,_,.nil=>rfl
 | _,_,.int i h=>by
  unfold nM; exact rN h
 | _,_,.str i h=>by
  unfold nM; exact rN h
theorem lP (i j:Int) (as bs:List D):cY (.int i::as) (.int j::bs)=if i=j then cY as bs else some (decide (i < j)):=by rw [cY]
theorem lN (x y:Str) (as bs:List D):cY (.str x::as) (.str y::bs)=if x=y then cY as bs else some (decide (x.cps.toList < y.cps.toList)):=by rw [cY]
theorem Am:cY [] []=some false:=by rw [cY]
theorem ko:∀ {σ:List Bool} {a:List D},Sh σ a->cY a a=some false
 | _,_,.nil=>Am
 | _,_,.int i h=>by rw [lP,if_pos rfl]; exact ko h
 | _,_,.str x h=>by rw [lN,if_pos rfl]; exact ko h
theorem j7:∀ {σ:List Bool} {a b:List D},Sh σ a->Sh σ b->(cY a b=some true/\cY b a=some false/\a≠b)\/a=b\/(cY b a=some true/\cY a b=some false/\a≠b)
 | _,_,_,.nil,.nil=>.inr (.inl rfl)
 | _,_,_,.int i h,.int j h'=>by
  rw [lP,lP]
  by_cases e:i=j
  ·subst e
   rw [if_pos rfl,if_pos rfl]
   rcases j7 h h' with ⟨q1,q2,q3⟩ | q | ⟨q1,q2,q3⟩
   ·exact .inl ⟨q1,q2,fun z=>q3 (by injection z)⟩
   ·exact .inr (.inl (by rw [q]))
   ·exact .inr (.inr ⟨q1,q2,fun z=>q3 (by injection z)⟩)
  ·rw [if_neg e,if_neg (fun z=>e z.symm)]
   rcases Int.lt_or_gt_of_ne e with q | q
   ·exact .inl ⟨by rw [decide_eq_true q],by rw [decide_eq_false ‹0›],fun z=>e (by injection z with z1; injection z1)⟩
   ·exact .inr (.inr ⟨by rw [decide_eq_true q],by rw [decide_eq_false ‹0›],fun z=>e (by injection z with z1; injection z1)⟩)
 | _,_,_,.str x h,.str y h'=>by
  rw [lN,lN]
  by_cases e:x=y
  ·subst e
   rw [if_pos rfl,if_pos rfl]
   rcases j7 h h' with ⟨q1,q2,q3⟩ | q | ⟨q1,q2,q3⟩
   ·exact .inl ⟨q1,q2,fun z=>q3 (by injection z)⟩
   ·exact .inr (.inl (by rw [q]))
   ·exact .inr (.inr ⟨q1,q2,fun z=>q3 (by injection z)⟩)
  ·rw [if_neg e,if_neg (fun z=>e z.symm)]
   rcases Aa x.cps.toList y.cps.toList with q | q | q
   ·exact .inl ⟨by rw [decide_eq_true q],by rw [decide_eq_false fun z=>pq _ (jE q z)],fun z=>e (by injection z with z1; injection z1)⟩
   ·exact absurd (zS q) e
   ·exact .inr (.inr ⟨by rw [decide_eq_true q],by rw [decide_eq_false fun z=>pq _ (jE q z)],fun z=>e (by injection z with z1; injection z1)⟩)
theorem kP:∀ {σ:List Bool} {a b c:List D},Sh σ a->Sh σ b->Sh σ c->cY a b=some true->cY b c=some true->cY a c=some true
 | _,_,_,_,.nil,.nil,.nil,h,_=>by rw [Am] at h; cases h
 | _,_,_,_,.int i h,.int j h',.int k h'',q,q'=>by
  rw [lP] at q q' ⊢
  by_cases e:i=j
  ·subst e
   rw [if_pos rfl] at q
   by_cases e':i=k
   ·subst e'
    rw [if_pos rfl] at q' ⊢
    exact kP h h' h'' q q'
   ·rw [if_neg e'] at q' ⊢
    exact q'
  ·rw [if_neg e] at q
   have q1:=of_decide_eq_true (Option.some.inj q)
   by_cases e':j=k
   ·subst e'
    rw [if_neg e,decide_eq_true q1]
   ·rw [if_neg e'] at q'
    have q2:=of_decide_eq_true (Option.some.inj q')
    rw [if_neg ‹0›,decide_eq_true ‹0›]
 | _,_,_,_,.str i h,.str j h',.str k h'',q,q'=>by
  rw [lN] at q q' ⊢
  by_cases e:i=j
  ·subst e
   rw [if_pos rfl] at q
   by_cases e':i=k
   ·subst e'
    rw [if_pos rfl] at q' ⊢
    exact kP h h' h'' q q'
   ·rw [if_neg e'] at q' ⊢
    exact q'
  ·rw [if_neg e] at q
   have q1:=of_decide_eq_true (Option.some.inj q)
   by_cases e':j=k
   ·subst e'
    rw [if_neg e,decide_eq_true q1]
   ·rw [if_neg e'] at q'
    have q2:=of_decide_eq_true (Option.some.inj q')
    rw [if_neg (show ¬ i=k from fun z=>by rw [z] at q1; exact pq _ (jE q1 q2)),decide_eq_true (jE q1 q2)]
theorem uy {σ:List Bool} {a b:List D} (h:Sh σ a) (h':Sh σ b) (q:cY a b=some true):cY b a=some false:=by
 rcases j7 h h' with ⟨_,q2,_⟩ | e | ⟨_,q2,_⟩
 ·exact q2
 ·subst e; rw [ko h] at q; cases q
 ·rw [q2] at q; cases q
def kLt (a b:List D):Bool:=cY a b==some true
theorem BP {a b:List D}:kLt a b=true↔cY a b=some true:=by unfold kLt; simp
section
variable {α:Type}
def yL (key:α->List D) (x:α):List α->List α
 | []=>[x]
 | y::ys=>if kLt (key x) (key y) then x::y::ys else y::yL key x ys
def iz (key:α->List D):List α->List α
 | []=>[]
 | x::xs=>yL key x (iz key xs)
theorem mI (key:α->List D) (x:α):∀ ys:List α,(yL key x ys).Perm (x::ys)
 | []=>.refl _
 | y::ys=>by
  unfold yL
  split
  ·exact .refl _
  ·exact(List.Perm.cons y (mI key x ys)).trans (.swap x y ys)
theorem eR (key:α->List D):∀ xs:List α,(iz key xs).Perm xs
 | []=>.refl _
 | x::xs=>(mI key x _).trans (.cons x (eR key xs))
def uA (key:α->List D) (xs:List α):Prop:=xs.Pairwise fun x y=>cY (key x) (key y)=some true
theorem ux {key:α->List D} {σ:List Bool} {x:α} (hx:Sh σ (key x)):∀ {ys:List α},(∀ y∈ys,Sh σ (key y)/\key x≠key y)->uA key ys->uA key (yL key x ys)
 | [],_,_=>KZ _ _
 | y::ys,h,p=>by
  have p':=List.pairwise_cons.mp p
  obtain⟨hy,ne⟩:=h y Jq
  unfold yL
  split
  ·rename_i q
   have q:=BP.mp q
   refine List.pairwise_cons.mpr ⟨fun z hz=>?_,p⟩
   rcases List.mem_cons.mp hz with rfl | hz
   ·exact q
   ·exact kP hx hy (h z (Jr _ hz)).1 q (p'.1 z hz)
  ·rename_i q
   have q:cY (key y) (key x)=some true:=by
    rcases j7 hx hy with ⟨z,_⟩ | z | ⟨z,_⟩
    ·exact absurd (BP.mpr z) q
    ·exact absurd z ne
    ·exact z
   refine List.pairwise_cons.mpr ⟨fun z hz=>?_,ux hx (fun z hz=>h z (Jr _ hz)) p'.2⟩
   rcases List.mem_cons.mp ((mI key x ys).mem_iff.mp hz) with rfl | hz
   ·exact q
   ·exact p'.1 z hz
theorem nh {key:α->List D} {σ:List Bool}:∀ {xs:List α},(∀ x∈xs,Sh σ (key x))->xs.Pairwise (fun x y=>key x≠key y)->uA key (iz key xs)
 | [],_,_=>List.Pairwise.nil
 | x::xs,h,p=>by
  have p':=List.pairwise_cons.mp p
  refine ux (h x Jq) (fun y hy=>?_) (nh (fun y hy=>h y (Jr _ hy)) p'.2)
  have hy:=(eR key xs).mem_iff.mp hy
  exact⟨h y (Jr _ hy),p'.1 y hy⟩
theorem wN {key:α->List D} {σ:List Bool}:∀ {xs ys:List α},(∀ x∈xs,Sh σ (key x))->uA key xs->uA key ys->xs.Perm ys->xs=ys
 | [],ys,_,_,_,e=>(List.perm_nil.mp e.symm).symm
 | x::xs,[],_,_,_,e=>List.perm_nil.mp e
 | x::xs,y::ys,h,p,q,e=>by
  have p':=List.pairwise_cons.mp p
  have q':=List.pairwise_cons.mp q
  have exy:x=y:=by
   rcases List.mem_cons.mp (e.mem_iff.mp Jq) with z | z
   ·exact z
   ·have w1:=q'.1 x z
    rcases List.mem_cons.mp (e.symm.mem_iff.mp Jq) with z' | z'
    ·exact z'.symm
    ·have w2:=p'.1 y z'
     have:=uy (h x Jq) (h y (Jr _ z')) w2
     rw [w1] at this; cases this
  subst exy
  rw [wN (fun z hz=>h z (Jr _ hz)) p'.2 q'.2 (List.Perm.cons_inv e)]
theorem ur {key:α->List D} {σ:List Bool} {xs ys:List α} (h:∀ x∈xs,Sh σ (key x)) (p:xs.Pairwise fun x y=>key x≠key y) (q:uA key ys) (e:ys.Perm xs):iz key xs=ys :=
 wN (fun x hx=>h x ((eR key xs).mem_iff.mp hx)) (nh h p) q ((eR key xs).trans e.symm)
def rank (ks:List (List D)) (i:Nat):Nat:=(ks.filter fun k=>kLt k (ks.getD i [])).length
theorem sG {ks:List (List D)} {σ:List Bool} (h:∀ k∈ks,Sh σ k) {i j:Nat} (hi:i < ks.length) (hj:j < ks.length):decide (rank ks i < rank ks j)=kLt (ks.getD i []) (ks.getD j []):=by
 have gi:ks.getD i []=ks[i]:=by simp [hi]
 have gj:ks.getD j []=ks[j]:=by simp [hj]
 have mono:∀ a b:List D,Sh σ a->Sh σ b->cY a b=some true->∀ l:List (List D),(∀ k∈l,Sh σ k)->(l.filter fun k=>kLt k a).length<=(l.filter fun k=>kLt k b).length/\(a∈l->(l.filter fun k=>kLt k a).length < (l.filter fun k=>kLt k b).length):=by
  intro a b ha hb hab l
  induction l with
  | nil=>exact fun _=>⟨Jw _,fun z=>nomatch z⟩
  | cons k l ih =>
   intro hl
   obtain⟨i1,i2⟩:=ih fun z hz=>hl z (Jr _ hz)
   have hk:=hl k Jq
   by_cases q:kLt k a=true
   ·have q':kLt k b=true:=BP.mpr (kP hk ha hb (BP.mp q) hab)
    rw [K1 (p:=fun k=>kLt k a) q,K1 (p:=fun k=>kLt k b) q',JC,JC]
    refine⟨by omega,fun z=>?_⟩
    rcases List.mem_cons.mp z with rfl | z
    ·rw [BP,ko ha] at q; cases q
    ·have:=i2 z; omega
   ·rw [K2 (p:=fun k=>kLt k a) q]
    by_cases q':kLt k b=true
    ·rw [K1 (p:=fun k=>kLt k b) q',JC]
     exact⟨by omega,fun _=>by omega⟩
    ·rw [K2 (p:=fun k=>kLt k b) q']
     refine⟨i1,fun z=>?_⟩
     rcases List.mem_cons.mp z with rfl | z
     ·exact absurd (BP.mpr hab) q'
     ·exact i2 z
 unfold rank
 rw [gi,gj]
 have hi':=h _ (K3 hi)
 have hj':=h _ (K3 hj)
 rcases j7 hi' hj' with ⟨z,_⟩ | z | ⟨z,z',_⟩
 ·rw [BP.mpr z]
  exact decide_eq_true ((mono _ _ hi' hj' z ks h).2 (K3 hi))
 ·rw [z]
  have:kLt ks[j] ks[j]=false:=by unfold kLt; rw [ko hj']; rfl
  rw [this]
  exact decide_eq_false (Jl _)
 ·have e:kLt ks[i] ks[j]=false:=by unfold kLt; rw [z']; rfl
  rw [e]
  exact decide_eq_false (Nat.not_lt.mpr (mono _ _ hj' hi' z ks h).1)
end
section
variable {cmp:Nat->Nat->(Bool->MX->Prop)->MX->Prop} {r:Nat->Nat} {N:Nat}
def lg (cmp:Nat->Nat->(Bool->MX->Prop)->MX->Prop) (r:Nat->Nat) (N:Nat) (s:MX):Prop:=∀ (i j:Nat) (C:Bool->MX->Prop),i < N->j < N->C (decide (r i < r j)) s->cmp i j C s
def PM (N:Nat) (p:Array Nat):Prop:=p.Perm (List.toArray (List.range N))
theorem PM.size {p:Array Nat} (h:PM N p):p.size=N:=by
 have:=h.size_eq; simpa using this
theorem PM.lt {p:Array Nat} (h:PM N p) {i:Nat} (hi:i < N):p.getD i 0 < N:=by
 have hs:=h.size
 have e:p.getD i 0=p[i]'‹0›:=by simp [Array.getD,hs,hi]
 rw [e]
 have m:p[i]'‹0›∈p:=Array.getElem_mem _
 have:=(h.mem_iff (a:=p[i]'‹0›)).mp m
 simpa using this
theorem PM.rev {p:Array Nat} (h:PM N p) (i j:Nat):PM N (kas_rev p i j):=(mirror_perm p i j _).trans h
abbrev Rk (r:Nat->Nat) (p:Array Nat) (i:Nat):Nat:=r (p.getD i 0)
theorem sQ {p:Array Nat} {i j:Nat} (hj:j<=p.size) (k:Nat):Rk r (kas_rev p i j) k=if i<=k/\k < j then Rk r p (i+j - 1 - k) else Rk r p k:=by
 have e:=getElem?_mirror_all (xs:=p) (i:=i) (j:=j) hj k
 have g:∀ (q:Array Nat) (k:Nat),q.getD k 0=(q[k]?).getD 0:=fun q k=>by simp
 show r ((kas_rev p i j).getD k 0)=_
 rw [g]
 show r (((mirror p i j ((j - i) / 2))[k]?).getD 0)=_
 rw [e]
 split
 ·show _=r (p.getD _ 0); rw [g]
 ·show _=r (p.getD _ 0); rw [g]
theorem zA {p:Array Nat} {src d:Nat} (hs:src < p.size) (hd:d<=src) (k:Nat):Rk r (bubble p src d) k=if k=src - d then Rk r p src else if src - d < k/\k<=src then Rk r p (k - 1) else Rk r p k:=by
 have e:=getElem?_bubble (xs:=p) hs d hd k
 have g:∀ (q:Array Nat) (k:Nat),q.getD k 0=(q[k]?).getD 0:=fun q k=>by simp
 show r ((bubble p src d).getD k 0)=_
 rw [g,e]
 split
 ·show _=r (p.getD _ 0); rw [g]
 ·split
  ·show _=r (p.getD _ 0); rw [g]
  ·show _=r (p.getD _ 0); rw [g]
def Up (r:Nat->Nat) (p:Array Nat) (k:Nat):Prop:=∀ i j,i<=j->j < k->Rk r p i<=Rk r p j
def Dn (r:Nat->Nat) (p:Array Nat) (k:Nat):Prop:=∀ i j,i<=j->j < k->Rk r p j<=Rk r p i
variable {s:MX}
theorem vY (hc:lg cmp r N s) {p:Array Nat} (hp:PM N p) {G:Nat->MX->Prop}:∀ (f n:Nat),1<=n->n+f<=N->Up r p n->(∀ m,n<=m->m<=n+f->Up r p m->(m=n+f\/Rk r p m < Rk r p (m - 1))->G m s)->(kas_asc p f n).kasWp cmp G s
 | 0,n,_,_,u,h=>h n (Jw _) (Jw _) u (.inl rfl)
 | f+1,n,h1,h2,u,h=>by
  refine hc _ _ _ (hp.lt ‹0›) (hp.lt ‹0›) ?_
  by_cases q:Rk r p n < Rk r p (n - 1)
  ·rw [decide_eq_true q]; dsimp only; rw [if_pos rfl]
   exact h n (Jw _) ‹0› u (.inr q)
  ·rw [decide_eq_false q]; dsimp only; rw [if_neg JB]
   refine vY hc hp f (n+1) ‹0› ‹0› (fun i j hij hj=>?_) fun m a b=>?_
   ·by_cases hjn:j < n
    ·exact u i j hij hjn
    ·have ej:j=n:=by omega
     subst ej
     by_cases ei:i=j
     ·subst ei; exact Jw _
     ·have:=u i (j - 1) ‹0› ‹0›
      omega
   ·intro um hm
    exact h m ‹0› ‹0› um (by rcases hm with z | z; exact .inl ‹0›; exact .inr z)
theorem zM {p:Array Nat} {n q:Nat} (hn:n<=p.size) (hq:q+1<=n) (he:∀ i,n - (q+1)<=i->i < n->Rk r p i=Rk r p (n - 1)) (k:Nat):Rk r (kas_rev p (n - (q+1)) n) k=Rk r p k:=by
 rw [sQ hn]
 split
 ·rename_i h
  rw [he _ ‹0› ‹0›,he k h.1 h.2]
 ·rfl
theorem oy (hc:lg cmp r N s) {G:Array Nat×Nat×Nat->MX->Prop}:∀ (f:Nat) (p:Array Nat) (n q:Nat),PM N p->1<=n->n+f<=N->Dn r p n->q+1<=n->(∀ i,n - (q+1)<=i->i < n->Rk r p i=Rk r p (n - 1)) ->
  (∀ p' m q',PM N p'->n<=m->m<=n+f->Dn r p' m->q'+1<=m->(∀ i,m - (q'+1)<=i->i < m->Rk r p' i=Rk r p' (m - 1))->G (p',m,q') s)->(kas_desc f p n q).kasWp cmp G s
 | 0,p,n,q,hp,_,_,d,hq,he,h=>h p n q hp (Jw _) (Jw _) d hq he
 | f+1,p,n,q,hp,h1,h2,d,hq,he,h=>by
  have hs:=hp.size
  have step:∀ p',(∀ k,Rk r p' k=Rk r p k)->Rk r p n<=Rk r p (n - 1)->Dn r p' (n+1):=fun p' hk hl i j hij hj=>by
   rw [hk,hk]
   by_cases hjn:j < n
   ·exact d i j hij hjn
   ·have ej:j=n:=by omega
    subst ej
    by_cases ei:i=j
    ·subst ei; exact Jw _
    ·have:=d i (j - 1) ‹0› ‹0›
     omega
  refine hc _ _ _ (hp.lt ‹0›) (hp.lt ‹0›) ?_
  by_cases q1:Rk r p n < Rk r p (n - 1)
  ·rw [decide_eq_true q1]; dsimp only; rw [if_pos rfl]
   by_cases hq0:q > 0
   ·rw [if_pos hq0]
    refine oy hc f _ (n+1) 0 (hp.rev _ _) ‹0› ‹0› (step _ (zM ‹0› hq he) ‹0›) ‹0› (fun i a b=>by rw [show i=n+1 - 1 by omega]) fun p' m q' a b c=>h p' m q' a ‹0› ‹0›
   ·rw [if_neg hq0]
    refine oy hc f _ (n+1) 0 hp ‹0› ‹0› (step _ (fun _=>rfl) ‹0›) ‹0› (fun i a b=>by rw [show i=n+1 - 1 by omega]) fun p' m q' a b c=>h p' m q' a ‹0› ‹0›
  ·rw [decide_eq_false q1]; dsimp only; rw [if_neg JB]
   refine hc _ _ _ (hp.lt ‹0›) (hp.lt ‹0›) ?_
   by_cases q2:Rk r p (n - 1) < Rk r p n
   ·rw [decide_eq_true q2]; dsimp only; rw [if_pos rfl]
    exact h p n q hp (Jw _) ‹0› d hq he
   ·rw [decide_eq_false q2]; dsimp only; rw [if_neg JB]
    refine oy hc f _ (n+1) (q+1) hp ‹0› ‹0› (step _ (fun _=>rfl) ‹0›) ‹0› (fun i a b=>?_) fun p' m q' a b c=>h p' m q' a ‹0› ‹0›
    rw [show n+1 - 1=n by omega]
    by_cases ei:i=n
    ·subst ei; rfl
    ·have:=he i ‹0› ‹0›
     omega
theorem ue (hc:lg cmp r N s) {p:Array Nat} (hp:PM N p) {n:Nat} (h1:1<=n) (hn:n<=N) (d:Dn r p n) {G:Nat×Array Nat->MX->Prop} (h:∀ m p',PM N p'->1<=m->m<=N->Up r p' m->G (m,p') s):(kas_tail3 n N p).kasWp cmp G s:=by
 unfold kas_tail3
 rw [KasT.kasWp_bind]
 have hs:=hp.size
 refine vY hc (hp.rev 0 n) _ _ h1 ‹0› (fun i j hij hj=>?_) fun m a b u _=>h m _ (hp.rev 0 n) ‹0› ‹0› u
 rw [sQ ‹0›,sQ ‹0›,if_pos ‹0›,if_pos ‹0›]
 exact d _ _ ‹0› ‹0›
theorem nR (hc:lg cmp r N s) {p:Array Nat} (hp:PM N p) {n:Nat} (hn:n+1<=N) (d:Dn r p (n+1)) {G:Nat×Array Nat->MX->Prop} (h:∀ m p',PM N p'->1<=m->m<=N->Up r p' m->G (m,p') s):(kas_descPart n N p).kasWp cmp G s:=by
 unfold kas_descPart
 rw [KasT.kasWp_bind]
 refine oy hc _ _ _ _ hp ‹0› ‹0› d ‹0› (fun i a b=>by rw [show i=n+1 - 1 by omega]) fun p' m q' hp' a b d' hq he=>?_
 have hs:=hp'.size
 dsimp only
 by_cases hq0:q' > 0
 ·rw [if_pos hq0]
  refine ue hc (hp'.rev _ _) ‹0› ‹0› (fun i j hij hj=>?_) h
  rw [zM ‹0› hq he,zM ‹0› hq he]
  exact d' i j hij hj
 ·rw [if_neg hq0]
  exact ue hc hp' ‹0› ‹0› d' h
theorem zP (hc:lg cmp r N s) (h1:1<=N) {p:Array Nat} (hp:PM N p) {G:Nat×Array Nat->MX->Prop} (h:∀ m p',PM N p'->1<=m->m<=N->Up r p' m->G (m,p') s):(kas_count N p).kasWp cmp G s:=by
 unfold kas_count
 rw [KasT.kasWp_bind]
 have hs:=hp.size
 refine vY hc hp _ _ (Jw _) ‹0› (fun i j hij hj=>by rw [show i=j by omega]; exact Jw _) fun n a b u hor=>?_
 by_cases hn:n=N
 ·rw [if_pos (by simpa using hn)]
  exact h n p hp a ‹0› u
 ·rw [if_neg (by simpa using hn)]
  have hlt:Rk r p n < Rk r p (n - 1):=by
   rcases hor with z | z
   ·omega
   ·exact z
  by_cases hg:n > 1
  ·rw [if_pos hg]
   refine hc _ _ _ (hp.lt ‹0›) (hp.lt ‹0›) ?_
   by_cases q:Rk r p 0 < Rk r p (n - 1)
   ·rw [decide_eq_true q]; dsimp only; rw [if_pos rfl]
    exact h n p hp a ‹0› u
   ·rw [decide_eq_false q]; dsimp only; rw [if_neg JB]
    have hall:∀ k,k < n->Rk r p k=Rk r p (n - 1):=fun k hk=>by
     have a1:=u 0 k ‹0› hk
     have a2:=u k (n - 1) ‹0› ‹0›
     omega
    have hr:∀ k,Rk r (kas_rev p 0 n) k=Rk r p k:=fun k=>by
     rw [sQ ‹0›]
     split
     ·rename_i z
      rw [hall _ ‹0›,hall k z.2]
     ·rfl
    refine nR hc (hp.rev _ _) ‹0› (fun i j hij hj=>?_) h
    rw [hr,hr]
    by_cases hjn:j < n
    ·rw [hall i ‹0›,hall j hjn]; exact Jw _
    ·have ej:j=n:=by omega
     subst ej
     by_cases ei:i=j
     ·subst ei; exact Jw _
     ·rw [hall i ‹0›]; omega
  ·rw [if_neg hg]
   have en:n=1:=by omega
   subst en
   refine nR hc hp ‹0› (fun i j hij hj=>?_) h
   by_cases ei:i=j
   ·subst ei; exact Jw _
   ·have e0:i=0:=by omega
    have e1:j=1:=by omega
    subst e0 e1
    exact Jo hlt
theorem pD (hc:lg cmp r N s) {p:Array Nat} (hp:PM N p) {k:Nat} (hk:k < N) (u:Up r p k) {G:Nat->MX->Prop} (h:∀ l,l<=k->(∀ i,i < l->Rk r p i<=Rk r p k)->(∀ i,l<=i->i < k->Rk r p k < Rk r p i)->G l s) :
  ∀ (f l t:Nat),t - l<=f->l<=t->t<=k->(∀ i,i < l->Rk r p i<=Rk r p k)->(∀ i,t<=i->i < k->Rk r p k < Rk r p i)->(kas_place p k f l t).kasWp cmp G s
 | 0,l,t,a,b,c,d,e=>h l ‹0› d fun i x y=>e i ‹0› y
 | f+1,l,t,a,b,c,d,e=>by
  unfold kas_place
  by_cases hl:l>=t
  ·rw [if_pos hl]
   exact h l ‹0› d fun i x y=>e i ‹0› y
  ·rw [if_neg hl]
   refine hc _ _ _ (hp.lt hk) (hp.lt ‹0›) ?_
   by_cases q:Rk r p k < Rk r p ((l+t) / 2)
   ·rw [decide_eq_true q]; dsimp only; rw [if_pos rfl]
    refine pD hc hp hk u h f l ((l+t) / 2) ‹0› ‹0› ‹0› d fun i x y=>?_
    have:=u ((l+t) / 2) i x y
    omega
   ·rw [decide_eq_false q]; dsimp only; rw [if_neg JB]
    refine pD hc hp hk u h f ((l+t) / 2+1) t ‹0› ‹0› ‹0› (fun i x=>?_) e
    have:=u i ((l+t) / 2) ‹0› ‹0›
    omega
theorem y8 (hc:lg cmp r N s) {G:Array Nat->MX->Prop} (h:∀ p,PM N p->Up r p N->G p s):∀ (f:Nat) (p:Array Nat) (k:Nat),PM N p->k+f=N->Up r p k->(kas_bin f p k).kasWp cmp G s
 | 0,p,k,hp,e,u=>h p hp (by rw [<- e]; exact u)
 | f+1,p,k,hp,e,u=>by
  unfold kas_bin
  rw [KasT.kasWp_bind]
  have hs:=hp.size
  refine pD hc hp ‹0› u (fun l hl d e'=>?_) k 0 k ‹0› (JG _) (Jw _) (fun i x=>by omega) fun i x y=>by omega
  refine y8 hc h f _ (k+1) ((bubble_perm p k _).trans hp) ‹0› fun i j hij hj=>?_
  rw [zA ‹0› ‹0›,zA ‹0› ‹0›,show k - (k - l)=l by omega]
  have U:=u
  by_cases i1:i=l
  ·rw [if_pos i1]
   by_cases j1:j=l
   ·rw [if_pos j1]; exact Jw _
   ·rw [if_neg j1,if_pos ‹0›]
    exact Jo (e' (j - 1) ‹0› ‹0›)
  ·rw [if_neg i1]
   by_cases i2:l < i/\i<=k
   ·rw [if_pos i2,if_neg ‹0›,if_pos ‹0›]
    exact U _ _ ‹0› ‹0›
   ·rw [if_neg i2]
    by_cases j1:j=l
    ·rw [if_pos j1]; exact d i ‹0›
    ·rw [if_neg j1]
     by_cases j2:l < j/\j<=k
     ·rw [if_pos j2]
      exact U _ _ ‹0› ‹0›
     ·rw [if_neg j2]
      exact U _ _ hij ‹0›
theorem A2 (hc:lg cmp r N s) (h2:1<=N) {G:Array Nat->MX->Prop} (h:∀ p,PM N p->Up r p N->G p s):(kas_sort N).kasWp cmp G s:=by
 unfold kas_sort
 rw [KasT.kasWp_bind]
 refine zP hc h2 (Array.Perm.refl _) fun m p' hp a b u=>?_
 dsimp only
 by_cases hm:m < N
 ·rw [if_pos hm,show max m 1=m by omega]
  exact y8 hc h _ p' m hp ‹0› u
 ·rw [if_neg hm]
  exact h p' hp (by rw [show N=m by omega]; exact u)
end
section
variable {prog:MO} {w:MN} {A:MV} {E:MM->MX->Prop} {s:MX}
theorem qb {a:MP} {vs:List MM} {n:Nat} {P:PySem.Fin->MX->Prop} {κ:SortKind} {r:Nat->Nat} (ho:s.heap.get? a=some (seqObj "list" vs.toArray n)) (h64:vs.length < 64)
  (hk:2<=vs.length->∀ h':MR,(∀ b o,b≠a->s.heap.get? b=some o->h'.get? b=some o)->∀ (Q:SortKind->MX->Prop),Q κ { s with heap:=h' }->MZ (model prog w) A (keyKind' vs.toArray) Q E { s with heap:=h' })
  (hr:2<=vs.length->∀ h':MR,(∀ b o,b≠a->s.heap.get? b=some o->h'.get? b=some o)->lg (kas_ask prog w A κ vs) r vs.length { s with heap:=h' })
  (h:∀ p:Array Nat,PM vs.length p->Up r p vs.length->P (.done (.ret .none)) { s with heap:=sortedHeap s.heap a vs (List.toArray (p.toList.map fun i=>vs.getD i Value.none)) }) :
  MZ (model prog w) A (Builtin.«list.sort» ⟨[.ref a],[]⟩) P E s:=by
 rw [list_sort_plain]
 have ha:a < s.heap.objs.size:=Mm ho
 refine M7 (listItems_at ho rfl ?_)
 refine M7 (N4 ho rfl ?_ (by rw [JA,Ni]; omega) (JG _))
 obtain⟨e1,ho1⟩:∃ e1,(s.heap.update a (Obj.mapSeq fun _=>(#[]:Array MM))).get? a=some (seqObj "list" #[] e1):=⟨_,get?_update_seq ho (fun _=>#[])⟩
 refine M7 (seqEpoch_at ho1 rfl ?_)
 refine M7 (N0 ?_ (by show vs.length<=_; rw [Ni]; omega))
 refine M7 (wpAny_newList ?_ (JG _))
 refine NB ?_
 have ho6:(((s.heap.update a (Obj.mapSeq fun _=>(#[]:Array MM))).push (seqObj "tuple" vs.toArray 0)).push (seqObj "list" #[] 0)).get? a=some (seqObj "list" #[] e1):=by
  rw [Mv _ _ _ (by rw [size_push',Heap.size_update]; exact Jm (J7 ha)),Mv _ _ _ (by rw [Heap.size_update]; exact Jm ha)]
  exact ho1
 have kept:∀ b o,b≠a->s.heap.get? b=some o->(((s.heap.update a (Obj.mapSeq fun _=>(#[]:Array MM))).push (seqObj "tuple" vs.toArray 0)).push (seqObj "list" #[] 0)).get? b=some o:=fun b o hb e =>
  Mq _ (Mq _ (by rw [Heap.get?_update_ne _ _ _ _ hb]; exact e))
 show MZ (model prog w) A _ P E { s with heap:=((s.heap.update a (Obj.mapSeq fun _=>(#[]:Array MM))).push (seqObj "tuple" vs.toArray 0)).push (seqObj "list" #[] 0) }
 dsimp only
 have hsz:vs.toArray.size=vs.length:=by simp
 by_cases h2:vs.toArray.size < 2
 ·rw [if_pos h2,if_pos h2]
  refine M7 (M6 ?_)
  rw [StateT.run_pure]
  refine M7 (M6 ?_)
  dsimp only
  refine M7 (seqEpoch_at ho6 rfl ?_)
  have hout:(arrOf (SortSt.mk' general' (vs.toArray.zip vs.toArray) #[] 7 none)).map (·.2)=List.toArray ((List.toArray (List.range vs.length)).toList.map fun i=>vs.getD i Value.none):=by
   refine kat_snds rfl ?_
   show vs.toArray.zip vs.toArray=_
   have e:=kas_range (vs.toArray.zip vs.toArray)
   rw [show (vs.toArray.zip vs.toArray).size=vs.length by simp] at e
   exact e.symm
  rw [hout]
  refine M7 (N4 ho6 rfl ?_ (JG _) (by rw [JA,JE,Ni]; simp; omega))
  simp only [bne_self_eq_false,J6,if_false]
  refine M6 (h _ (Array.Perm.refl _) fun i j hij hj=>?_)
  have:i=j:=by omega
  subst this; exact Jw _
 ·rw [if_neg h2,if_neg h2]
  have h2':2<=vs.length:=by omega
  refine M7 (hk h2' _ kept _ ?_)
  refine M7 (M3 (kat_run (Q:=fun st' s'=>∃ p:Array Nat,arrOf st'=p.map (kas_item (vs.toArray.zip vs.toArray))/\failedOf st'=none/\PM vs.length p/\Up r p vs.length/\s'={ s with heap:=((s.heap.update a (Obj.mapSeq fun _=>(#[]:Array MM))).push (seqObj "tuple" vs.toArray 0)).push (seqObj "list" #[] 0) })
   (G:=fun p s'=>PM vs.length p/\Up r p vs.length/\s'={ s with heap:=((s.heap.update a (Obj.mapSeq fun _=>(#[]:Array MM))).push (seqObj "tuple" vs.toArray 0)).push (seqObj "list" #[] 0) })
   rfl h2' h64 (fun p' st' s' a1 a2 a3 a4=>⟨p',a2,a3,a4.1,a4.2.1,a4.2.2⟩) (A2 (hr h2' _ kept) ‹0› fun p hp hu=>⟨hp,hu,rfl⟩)) ?_ fun _ _ e=>e)
  rintro⟨⟨⟩,st'⟩ s' ⟨p,har,hf,hp,hu,rfl⟩
  dsimp only
  refine M7 (seqEpoch_at ho6 rfl ?_)
  have hout:=kat_snds rfl har
  rw [hout]
  refine M7 (N4 ho6 rfl ?_ (JG _) (by rw [JA,JE,Array.length_toList,hp.size,Ni]; omega))
  rw [hf]
  simp only [bne_self_eq_false,J6,if_false]
  exact M6 (h p hp hu)
theorem o8 {src:MM} {vs:List MM} {Q:MM->MX->Prop} {κ:SortKind} {r:Nat->Nat} (h64:vs.length < 64)
  (hcol:∀ (Q':List MM->MX->Prop),(∀ h' tk,(∀ b o,s.heap.get? b=some o->h'.get? b=some o)->Q' vs { s with heap:=h',toks:=tk })->MZ (model prog w) A.in1 (collect src) Q' E s)
  (hk:2<=vs.length->∀ (h':MR) (tk:Nat),(∀ b o,s.heap.get? b=some o->h'.get? b=some o)->∀ (Q:SortKind->MX->Prop),Q κ { s with heap:=h',toks:=tk }->MZ (model prog w) A.in1.in1 (keyKind' vs.toArray) Q E { s with heap:=h',toks:=tk })
  (hr:2<=vs.length->∀ (h':MR) (tk:Nat),(∀ b o,s.heap.get? b=some o->h'.get? b=some o)->lg (kas_ask prog w A.in1.in1 κ vs) r vs.length { s with heap:=h',toks:=tk })
  (h:∀ (p:Array Nat) (h1 h':MR) (l:MP) (e tk:Nat),PM vs.length p->Up r p vs.length->(∀ b o,s.heap.get? b=some o->h1.get? b=some o)->(∀ b o,h1.get? b=some o->h'.get? b=some o)->h1.objs.size<=l->h'.get? l=some (seqObj "list" (List.toArray (p.toList.map fun i=>vs.getD i Value.none)) e)->Q (.ref l) { s with heap:=h',toks:=tk }) :
  MZ (model prog w) A (call (.builtin "sorted") [src]) Q E s:=by
 refine Calls.call_function_entry kind_sorted plain_sorted entry_sorted (args_sorted1 _) ?_
 unfold Builtin.«sorted»
 refine M7 (m:=checkCount "sorted" 1 1 _) (M6 ?_)
 refine M7 (hcol _ fun h1 tk k1=>?_)
 refine M7 (wpAny_newList ?_ (by rw [Ni]; omega))
 have hoL:(h1.push (seqObj "list" vs.toArray 0)).get? h1.objs.size=some (seqObj "list" vs.toArray 0):=Mr _ rfl
 have k2:∀ b o,s.heap.get? b=some o->(h1.push (seqObj "list" vs.toArray 0)).get? b=some o:=fun b o e=>Mq _ (k1 b o e)
 have ne:∀ b o,s.heap.get? b=some o->b≠h1.objs.size:=fun b o e=>Jm (Mm (k1 b o e))
 refine M7 (NB (ND slot_list_sort ⟨_,hoL,rfl⟩ entry_list_sort (qb (s:={ s with heap:=h1.push (seqObj "list" vs.toArray 0),toks:=tk }) (r:=r) (κ:=κ) hoL h64
  (fun h2 h' k=>hk h2 h' tk fun b o e=>k b o (ne b o e) (k2 b o e)) (fun h2 h' k=>hr h2 h' tk fun b o e=>k b o (ne b o e) (k2 b o e)) fun p hp hu=>⟨_,rfl,?_⟩) (args_list_sort _)))
 refine M6 ⟨_,rfl,?_⟩
 obtain⟨e,he⟩:=sortedHeap_at (vs:=vs) (out:=List.toArray (p.toList.map fun i=>vs.getD i Value.none)) hoL
 exact h p h1 _ h1.objs.size e tk hp hu k1 (fun b o q=>by rw [sortedHeap_old (Jm (Mm q)) (by rw [size_push']; exact J7 (Mm q))]; exact Mq _ q) (Jw _) he
end
def cU:D->List D
 | .tup ks=>ks
 | _=>[]
def oneOf (d:D):List D:=[d]
def DU (xs:List D):Prop:=xs.length < 64/\∃ σ:List Bool,σ≠[]/\(∀ x∈xs,∃ k,x=.tup k/\Sh σ k)/\xs.Pairwise fun x y=>cU x≠cU y
def FK (xs:List D):Prop:=xs.length < 64/\∃ b:Bool,(∀ x∈xs,Sh [b] [x])/\xs.Pairwise fun x y=>oneOf x≠oneOf y
open Classical in
noncomputable def nN (xs:List D):Option D:=if DU xs then some (.lst (iz cU xs)) else if FK xs then some (.lst (iz oneOf xs)) else none
noncomputable def dP:List D->Option D
 | [.lst xs]=>nN xs
 | [.tup xs]=>nN xs
 | _=>none
theorem jW {prog:MO} {w:MN} {A:MV} {s:MX} {Q:Bool->MX->Prop} {fin:Bool} (hf:fin=false):∀ {σ:List Bool} {ns ms:List D} {xs ys:List MM} {i:Nat},Sh σ ns->Sh σ ms->fO xs ns->fO ys ms->Q (kLt ns ms) s->KatLex prog w A true fin Q (xs.zip ys) i s
 | _,_,_,_,_,i,.nil,.nil,.nil,.nil,h=>by
  subst hf
  exact kat_nil (by simpa [kLt,cY] using h)
 | _,_,_,_,_,i,.int a h1,.int c h2,.int _ t f1,.int _ u f2,h=>by
  rw [KI]
  obtain⟨e,he,hiff⟩:=Cd A s a t c u
  refine kat_cons (he prog w _ _ ?_)
  cases e with
  | true =>
   have ac:=hiff.mp rfl
   refine kat_yes (jW hf h1 h2 f1 f2 ?_)
   unfold kLt at h ⊢
   rw [lP,if_pos ac] at h
   exact h
  | false =>
   have ac:¬ a=c:=fun q=>absurd (hiff.mpr q) JB
   have h':Q (decide (a < c)) s:=by
    unfold kLt at h
    rw [lP,if_neg ac] at h
    cases hd:decide (a < c) <;> rw [hd] at h <;> exact h
   refine kat_no ?_
   cases hi:(i==0) with
   | true=>exact oneLt_int h'
   | false=>exact kat_one _ _ (PySem.P.lt_int (show Mh Q (.bool _) s from h'))
 | _,_,_,_,_,i,.str a h1,.str c h2,.str _ t f1,.str _ u f2,h=>by
  rw [KI]
  obtain⟨e,he,hiff⟩:=B8 A s a t c u
  refine kat_cons (he prog w _ _ ?_)
  cases e with
  | true =>
   have ac:=hiff.mp rfl
   refine kat_yes (jW hf h1 h2 f1 f2 ?_)
   unfold kLt at h ⊢
   rw [lN,if_pos ac] at h
   exact h
  | false =>
   have ac:¬ a=c:=fun q=>absurd (hiff.mpr q) JB
   have h':Q (decide (a.cps.toList < c.cps.toList)) s:=by
    unfold kLt at h
    rw [lN,if_neg ac] at h
    cases hd:decide (a.cps.toList < c.cps.toList) <;> rw [hd] at h <;> exact h
   refine kat_no ?_
   cases hi:(i==0) with
   | true=>exact oneLt_str h'
   | false=>exact kat_one _ _ (PySem.P.lt_str (show Mh Q (.bool _) s from h'))
theorem pU {h:MR} {PT:MM->Prop}:∀ {its:List MM},(∀ v∈its,∃ a o xs n f,v=.ref a/\h.get? a=some o/\o.cls=.type "tuple"/\o.data=.seq xs n/\xs[0]?=some f/\PT f)->∃ fs,KatTups h its fs/\fs.length=its.length/\∀ f∈fs,PT f
 | [],_=>⟨[],.nil,rfl,fun _ h=>nomatch h⟩
 | v::its,hh=>by
  obtain⟨a,o,xs,n,f,rfl,h1,h2,h3,h4,h5⟩:=hh v Jq
  obtain⟨fs,k1,k2,k3⟩:=pU (its:=its) fun u hu=>hh u (Jr _ hu)
  refine⟨f::fs,.cons h1 h2 h3 h4 k1,by rw [JC,JC,k2],fun g hg=>?_⟩
  rcases List.mem_cons.mp hg with rfl | z
  ·exact h5
  ·exact k3 g z
theorem fO.first {σ:List Bool} {b:Bool} {xs:List MM} {ns:List D} (f:fO xs ns) (h:Sh (b::σ) ns):∃ v,xs[0]?=some v/\typeOf v=pure (.type (if b then "int" else "str")):=by
 cases f with
 | nil=>cases h
 | int i t f=>cases h; exact⟨_,rfl,rfl⟩
 | str i t f=>cases h; exact⟨_,rfl,rfl⟩
theorem tL {key:D->List D} {σ:List Bool} {ds:List D} (h:∀ x∈ds,Sh σ (key x)) (pw:ds.Pairwise fun x y=>key x≠key y) {p:Array Nat} (hp:PM ds.length p) (hu:Up (rank (ds.map key)) p ds.length):p.toList.map (fun i=>ds.getD i .non)=iz key ds:=by
 have hr:p.toList.Perm (List.range ds.length):=by
  have:=Array.perm_iff_toList_perm.mp hp
  simpa using this
 have hmap:(List.range ds.length).map (fun i=>ds.getD i .non)=ds:=by
  apply List.ext_getElem
  ·simp
  ·intro i h1 h2
   simp at h1
   simp [h1]
 have hperm:(p.toList.map fun i=>ds.getD i .non).Perm ds:=by
  have:=hr.map (fun i=>ds.getD i .non)
  rwa [hmap] at this
 have hn:p.toList.Nodup:=hr.nodup_iff.mpr List.nodup_range
 refine(ur h pw ?_ hperm).symm
 have hl:p.toList.length=ds.length:=by rw [hr.length_eq,Kn]
 have kd:∀ i,i < ds.length->(ds.map key).getD i []=key (ds.getD i .non):=fun i hi=>by simp [hi]
 have hsh:∀ k∈ds.map key,Sh σ k:=fun k hk=>by
  obtain⟨x,hx,rfl⟩:=List.mem_map.mp hk
  exact h x hx
 unfold uA
 rw [K4,List.pairwise_iff_getElem]
 intro i j hi hj hij
 have hi':p.toList[i] < ds.length:=by simpa using hr.mem_iff.mp (K3 hi)
 have hj':p.toList[j] < ds.length:=by simpa using hr.mem_iff.mp (K3 hj)
 have ne:p.toList[i]≠p.toList[j]:=List.pairwise_iff_getElem.mp hn i j hi hj hij
 have up:=hu i j ‹0› ‹0›
 have gi:p.getD i 0=p.toList[i]:=by
  have:i < p.size:=by rw [<- Array.length_toList]; exact hi
  simp [Array.getD,this]
 have gj:p.getD j 0=p.toList[j]:=by
  have:j < p.size:=by rw [<- Array.length_toList]; exact hj
  simp [Array.getD,this]
 unfold Rk at up
 rw [gi,gj] at up
 have rl:=sG hsh (i:=p.toList[j]) (j:=p.toList[i]) (by rw [JE]; exact hj') (by rw [JE]; exact hi')
 rw [kd _ hj',kd _ hi',decide_eq_false ‹0›] at rl
 have ei:ds.getD p.toList[i] .non=ds[p.toList[i]]:=by rw [K5,Kg hi']; rfl
 have ej:ds.getD p.toList[j] .non=ds[p.toList[j]]:=by rw [K5,Kg hj']; rfl
 have s1:=h _ (show ds.getD p.toList[i] .non∈ds by rw [ei]; exact K3 hi')
 have s2:=h _ (show ds.getD p.toList[j] .non∈ds by rw [ej]; exact K3 hj')
 rcases j7 s1 s2 with ⟨z,_⟩ | z | ⟨z,_⟩
 ·exact z
 ·exfalso
  have pw':=List.pairwise_iff_getElem.mp pw
  rw [ei,ej] at z
  rcases Nat.lt_or_gt_of_ne ne with q | q
  ·exact pw' _ _ hi' hj' q z
  ·exact pw' _ _ hj' hi' q z.symm
 ·rw [BP.mpr z] at rl; cases rl
theorem rp {vs:List V} {us:List MM} (r:Vals vs us):∀ l:List Nat,(∀ i∈l,i < vs.length)->Vals (l.map fun i=>vs.getD i .non) (l.map fun i=>us.getD i Value.none)
 | [],_=>.nil
 | i::l,h=>by
  have hi:=h i Jq
  obtain⟨u,e,q⟩:=r.get (i:=i) (x:=vs[i]) (by simp [hi])
  refine .cons ?_ (rp r l fun j hj=>h j (Jr _ hj))
  have e1:vs.getD i .non=vs[i]:=by simp [hi]
  have e2:us.getD i Value.none=u:=by simp [K5,e]
  show L2.RelV (vs.getD i .non) (us.getD i Value.none)
  rw [e1,e2]; exact q
theorem rz {K:LQ} {H:Hp} {ds:List D} {vs:List V} (g:aL K H ds vs):∀ l:List Nat,(∀ i∈l,i < ds.length)->aL K H (l.map fun i=>ds.getD i .non) (l.map fun i=>vs.getD i .non)
 | [],_=>cF.mpr rfl
 | i::l,h=>by
  have hi:=h i Jq
  obtain⟨v,e,q⟩:=g.get (i:=i) (d:=ds[i]) (by simp [hi])
  refine bc.mpr ⟨_,_,rfl,?_,rz g l fun j hj=>h j (Jr _ hj)⟩
  have e1:ds.getD i .non=ds[i]:=by simp [hi]
  have e2:vs.getD i .non=v:=by simp [K5,e]
  show cm K H (ds.getD i .non) (vs.getD i .non)
  rw [e1,e2]; exact q
section
variable {X:Cx} {pins:List (MP×Obj)} {s:MX} {σ:L2.St} {H:Hp} {O:List MP}
theorem qS {u:MM} {ds:List D} {vs:List V} {its:List MM} {d:D} {Q:VK} (I:Inv X pins σ H s) (hO:dg H O) (dn:aL X.K (hid H O) ds vs) (rv:Vals vs its) (hs:nN ds=some d)
  (hcol:∀ (Q':List MM->MX->Prop),(∀ h' tk,(∀ b o,s.heap.get? b=some o->h'.get? b=some o)->Q' its { s with heap:=h',toks:=tk })->MZ (model X.prog X.w) X.A.in1 (collect u) Q' X.xe s)
  (q:∀ v H',aX H H'->cm X.K (hid H' O) d v->Q v H'):MZ (model X.prog X.w) X.A (call (.builtin "sorted") [u]) (EP X pins σ Q) X.xe s:=by
 have l1:=dn.length
 have l2:=rv.length
 have fin:∀ (key:D->List D) (σ':List Bool),(∀ x∈ds,Sh σ' (key x))->ds.Pairwise (fun x y=>key x≠key y)->ds.length < 64->d=.lst (iz key ds)->∀ (p:Array Nat) (h1 h':MR) (l:MP) (e tk:Nat),PM its.length p->Up (rank (ds.map key)) p its.length->(∀ b o,s.heap.get? b=some o->h1.get? b=some o)->(∀ b o,h1.get? b=some o->h'.get? b=some o)->h1.objs.size<=l ->
   h'.get? l=some (seqObj "list" (List.toArray (p.toList.map fun i=>its.getD i Value.none)) e)->EP X pins σ Q (.ref l) { s with heap:=h',toks:=tk }:=by
  intro key σ' hsh pw h64 ed p h1 h' l e tk hp hu k1 k2 hl he
  have el:its.length=ds.length:=by omega
  rw [el] at hp hu
  have ps:=tL hsh pw hp hu
  have hr:p.toList.Perm (List.range ds.length):=by
   have:=Array.perm_iff_toList_perm.mp hp
   simpa using this
  have hlt:∀ i∈p.toList,i < ds.length:=fun i hi=>by simpa using hr.mem_iff.mp hi
  have I1:Inv X pins σ H { s with heap:=h1,toks:=tk }:=I.kept k1
  have hn:H l=none:=I1.hok.fresh hl
  have rv':=rp rv p.toList fun i hi=>by have:=hlt i hi; omega
  have dn':=rz dn p.toList hlt
  have hlen:p.toList.length=ds.length:=by rw [hr.length_eq,Kn]
  refine⟨.ref l,_,Inv.laid (s:={ s with heap:=h1,toks:=tk }) (t':=tk) I1 k2 hl (show cc X.prog X.w _ h' _ (.lst (p.toList.map fun i=>vs.getD i .non)) from ⟨by rw [JE,hlen,Ni]; omega,_,e,rv',he⟩),rfl,?_⟩
  refine q _ _ (bC hn _) ?_
  rw [ed,<- ps]
  exact d5 hO hn dn'
 unfold nN at hs
 split at hs
 ·rename_i h
  cases hs
  obtain⟨h64,σ',hσ,hsh,pw⟩:=h
  obtain⟨b,σ1,rfl⟩:∃ b σ1,σ'=b::σ1:=by
   cases σ' with
   | nil=>exact absurd rfl hσ
   | cons b σ1=>exact⟨b,σ1,rfl⟩
  have hsh':∀ x∈ds,Sh (b::σ1) (cU x):=fun x hx=>by
   obtain⟨k,rfl,hk⟩:=hsh x hx
   exact hk
  have at':∀ i (hi:i < ds.length),∃ a o xs n,its[i]?=some (.ref a)/\s.heap.get? a=some o/\o.cls=.type "tuple"/\o.data=.seq xs n/\fO xs.toList (cU ds[i]):=fun i hi=>by
   obtain⟨v,e1,dv⟩:=dn.get (i:=i) (d:=ds[i]) (by simp [hi])
   obtain⟨w,e2,rw'⟩:=rv.get e1
   obtain⟨k,ek,hk⟩:=hsh _ (K3 hi)
   rw [ek] at dv ⊢
   obtain⟨a,ws,rfl,ha,dk⟩:=cq.mp dv
   cases rw'
   obtain⟨it2,r2,⟨o,ho,hc,n,hd⟩,_⟩:=I.tuple (bM (aE H O) ha)
   exact⟨a,o,_,n,e2,ho,hc,hd,by simpa [cU] using jx (rN hk) dk r2⟩
  refine o8 (κ:=tuples' true) (r:=rank (ds.map cU)) ‹0› hcol (fun h2 h' tk kp Q' hQ=>?_) (fun h2 h' tk kp i j C hi hj hC=>?_) (fin cU _ hsh' pw h64 rfl)
  ·obtain⟨fs,t1,t2,t3⟩:=pU (h:=h') (PT:=fun f=>typeOf f=pure (.type (if b then "int" else "str"))) (its:=its) fun v hv=>by
    obtain⟨i,hi,rfl⟩:=K6 hv
    obtain⟨a,o,xs,n,e1,ho,hc,hd,ff⟩:=at' i ‹0›
    obtain⟨f,ef,tf⟩:=ff.first (hsh' _ (K3 _))
    refine⟨a,o,xs,n,f,?_,kp _ _ ho,hc,hd,by simpa using ef,tf⟩
    have:=Kg hi
    rw [e1] at this
    exact(Option.some.inj this).symm
   refine kat_kind (T:=.type (if b then "int" else "str")) t1 ‹0› (fun f hf=>Looks.of_pure (t3 f hf)) (by cases b <;> rfl) ?_
   have:(Value.type (if b then "int" else "str") != Value.type "tuple")=true:=by cases b <;> rfl
   rw [this]; exact hQ
  ·obtain⟨a,o,xs,n,e1,ho,hc,hd,ff⟩:=at' i ‹0›
   obtain⟨a2,o2,xs2,n2,e2,ho2,hc2,hd2,ff2⟩:=at' j ‹0›
   unfold kas_ask
   have g1:its.getD i Value.none=.ref a:=by simp [K5,e1]
   have g2:its.getD j Value.none=.ref a2:=by simp [K5,e2]
   rw [g1,g2]
   have hi':i < ds.length:=by omega
   have hj':j < ds.length:=by omega
   have sh1:=hsh' _ (K3 hi')
   have sh2:=hsh' _ (K3 hj')
   have rl:=sG (ks:=ds.map cU) (σ:=b::σ1) (fun k hk=>by obtain⟨x,hx,rfl⟩:=List.mem_map.mp hk; exact hsh' x hx) (i:=i) (j:=j) (by rw [JE]; exact hi') (by rw [JE]; exact hj')
   have k1:(ds.map cU).getD i []=cU ds[i]:=by simp [hi']
   have k2:(ds.map cU).getD j []=cU ds[j]:=by simp [hj']
   rw [k1,k2] at rl
   rw [rl] at hC
   refine kat_lt (kp _ _ ho) hd (kp _ _ ho2) hd2 (jW ?_ sh1 sh2 ff ff2 hC)
   have z1:xs.size=(cU ds[i]).length:=by have:=ff.length; simpa using this
   have z2:xs2.size=(cU ds[j]).length:=by have:=ff2.length; simpa using this
   have z3:(cU ds[i]).length=(cU ds[j]).length:=by rw [Sh.length sh1,Sh.length sh2]
   exact decide_eq_false ‹0›
 ·split at hs
  ·rename_i _ h
   cases hs
   obtain⟨h64,b,hsh,pw⟩:=h
   have at':∀ i (hi:i < ds.length),(∃ (n:Int) (t:Tok),b=true/\its[i]?=some (.int n t)/\ds[i]=.int n)\/∃ (x:Str) (t:Tok),b=false/\its[i]?=some (.str x t)/\ds[i]=.str x:=fun i hi=>by
    obtain⟨v,e1,dv⟩:=dn.get (i:=i) (d:=ds[i]) (by simp [hi])
    obtain⟨w,e2,rw'⟩:=rv.get e1
    have hk:=hsh _ (K3 hi)
    generalize ds[i]=di at dv hk
    cases hk with
    | int n _ =>
     rw [eB] at dv; subst dv
     obtain⟨t,rfl⟩:=rw'
     exact .inl ⟨n,t,rfl,e2,rfl⟩
    | str x _ =>
     rw [dJ] at dv; subst dv
     obtain⟨t,rfl⟩:=rw'
     exact .inr ⟨x,t,rfl,e2,rfl⟩
   refine o8 (κ:=oneType') (r:=rank (ds.map oneOf)) ‹0› hcol (fun h2 h' tk kp Q' hQ=>?_) (fun h2 h' tk kp i j C hi hj hC=>?_) (fin oneOf [b] hsh pw h64 rfl)
   ·refine kas_kind (T:=.type (if b then "int" else "str")) h2 (fun v hv=>?_) (by cases b <;> rfl) (by cases b <;> rfl) hQ
    obtain⟨i,hi,rfl⟩:=K6 hv
    have hg:=Kg hi
    rcases at' i ‹0› with ⟨n,t,rfl,e,_⟩ | ⟨x,t,rfl,e,_⟩
    ·rw [hg] at e; rw [Option.some.inj e]; exact Looks.of_pure rfl
    ·rw [hg] at e; rw [Option.some.inj e]; exact Looks.of_pure rfl
   ·have hi':i < ds.length:=by omega
    have hj':j < ds.length:=by omega
    unfold kas_ask
    have rl:=sG (ks:=ds.map oneOf) (σ:=[b]) (fun k hk=>by obtain⟨x,hx,rfl⟩:=List.mem_map.mp hk; exact hsh x hx) (i:=i) (j:=j) (by rw [JE]; exact hi') (by rw [JE]; exact hj')
    have k1:(ds.map oneOf).getD i []=[ds[i]]:=by simp [hi',oneOf]
    have k2:(ds.map oneOf).getD j []=[ds[j]]:=by simp [hj',oneOf]
    rw [k1,k2] at rl
    rw [rl] at hC
    rcases at' i hi' with ⟨n,t,hb,e1,q1⟩ | ⟨x,t,hb,e1,q1⟩
    ·rcases at' j hj' with ⟨n2,t2,hb2,e2,q2⟩ | ⟨x2,t2,hb2,e2,q2⟩
     ·have g1:its.getD i Value.none=.int n t:=by simp [K5,e1]
      have g2:its.getD j Value.none=.int n2 t2:=by simp [K5,e2]
      rw [g1,g2,keyLt'_oneType]
      refine oneLt_int ?_
      rw [q1,q2] at hC
      unfold kLt at hC
      rw [lP] at hC
      by_cases z:n=n2
      ·rw [if_pos z] at hC
       rw [decide_eq_false ‹0›]
       exact hC
      ·rw [if_neg z] at hC
       cases hd:decide (n < n2) <;> rw [hd] at hC <;> exact hC
     ·rw [hb] at hb2; cases hb2
    ·rcases at' j hj' with ⟨n2,t2,hb2,e2,q2⟩ | ⟨x2,t2,hb2,e2,q2⟩
     ·rw [hb] at hb2; cases hb2
     ·have g1:its.getD i Value.none=.str x t:=by simp [K5,e1]
      have g2:its.getD j Value.none=.str x2 t2:=by simp [K5,e2]
      rw [g1,g2,keyLt'_oneType]
      refine oneLt_str ?_
      rw [q1,q2] at hC
      unfold kLt at hC
      rw [lN] at hC
      by_cases z:x=x2
      ·rw [if_pos z] at hC
       rw [decide_eq_false (by rw [z]; exact pq _)]
       exact hC
      ·rw [if_neg z] at hC
       cases hd:decide (x.cps.toList < x2.cps.toList) <;> rw [hd] at hC <;> exact hC
  ·cases hs
theorem iZ:dq X (.builtin "sorted") (we X.K dP):=by
 intro pins s σ H xs us Q I r ⟨O,ds,d,hO,hd,hg,q⟩
 unfold dP at hg
 split at hg
 ·obtain⟨v,rfl,h1⟩:=hd.one
  obtain⟨p,ws,rfl,g1,g2⟩:=cu.mp h1
  obtain⟨u,rfl,ru⟩:=vals1 r
  cases ru
  obtain⟨its,rv,pl,hz⟩:=I.list ((aE H O).seq g1)
  have hlen:=rv.length
  obtain⟨o,ho,hc,n,hd'⟩:=pl.isList
  exact qS I hO g2 rv hg (fun Q' hQ=>wpAny_collect_seq p (.inl rfl) ho hc hd' (fun h' k=>by simpa using hQ h' s.toks k) (by simp only [JA] <;> omega)) q
 ·obtain⟨v,rfl,h1⟩:=hd.one
  obtain⟨p,ws,rfl,g1,g2⟩:=cq.mp h1
  obtain⟨u,rfl,ru⟩:=vals1 r
  cases ru
  obtain⟨its,rv,⟨o,ho,hc,n,hd'⟩,hz⟩:=I.tuple (bM (aE H O) g1)
  have hlen:=rv.length
  exact qS I hO g2 rv hg (fun Q' hQ=>wpAny_collect_seq p (.inr rfl) ho hc hd' (fun h' k=>by simpa using hQ h' s.toks k) (by simp only [JA] <;> omega)) q
 ·cases hg
end
end TG
namespace TG
open PySem PySem.Spec L2
variable [aM]
section
variable {X:Cx} {tg:M0}
end
end TG
namespace TG
open PySem PySem.Spec L2
variable [aM]

end TG
namespace TG
open PySem PySem.Spec L2
variable [aM]
end TG
namespace TG
open PySem PySem.Spec L2
variable [aM]
def keyOf:D->Option Key
 | .int i=>some (.inl i)
 | .str x=>some (.inr x)
 | _=>none
def keysOf:List D->Option (List Key)
 | []=>some []
 | d::r=>(keyOf d).bind fun k=>(keysOf r).map (k::·)
def iG:D->Option (List Key)
 | .tup ds=>keysOf ds
 | _=>none
theorem pE {d:D} {k:Key} (h:keyOf d=some k):d=aY k:=by
 cases d with
 | int i=>cases h; rfl
 | str x=>cases h; rfl
 | _=>cases h
theorem km:∀ {ds:List D} {ks:List Key},keysOf ds=some ks->ds=ks.map aY
 | [],_,h=>by cases h; rfl
 | d::r,ks,h=>by
  unfold keysOf at h
  cases e1:keyOf d with
  | none=>rw [e1] at h; cases h
  | some k =>
   rw [e1] at h
   cases e2:keysOf r with
   | none=>rw [e2] at h; cases h
   | some ks'=>rw [e2] at h; cases h; rw [pE e1,km e2]; rfl
theorem lK {d:D} {k:List Key} (h:iG d=some k):d=.tup (k.map aY):=by
 cases d with
 | tup ds=>rw [km (show keysOf ds=some k from h)]
 | _=>cases h
theorem bQ:∀ ks:List Key,keysOf (ks.map aY)=some ks
 | []=>rfl
 | k::r=>by
  show (keyOf (aY k)).bind _=_
  have e:keyOf (aY k)=some k:=by cases k <;> rfl
  rw [e]
  show (keysOf (r.map aY)).map (k::·)=_
  rw [bQ r]; rfl
theorem pG {K:LQ} {H:Hp} {k:Key} {v:V} (h:cm K H (aY k) v):v=kV k:=by
 cases k with
 | inl i=>exact eB.mp h
 | inr x=>exact dJ.mp h
theorem iw {K:LQ} {H:Hp}:∀ {ks:List Key} {vs:List V},aL K H (ks.map aY) vs->vs=ks.map kV
 | [],vs,h=>by rw [JY,cF] at h; exact h
 | k::r,vs,h=>by
  rw [JD,bc] at h
  obtain⟨v,r',e1,h1,h2⟩:=h
  rw [e1,pG h1,iw h2]; rfl
section
variable {P:MO} {w:MN} {H H':Hp} {h:MR} {a:MP}
theorem zu (x:cc P w H h a (.dK [])):cc P w H' h a (.dT []):=by
 obtain⟨z,hd,vs,rel,o,es,ep,h1,h2,h3,h4,h5,h6⟩:=x
 have e:vs=[]:=by have:=rel.length; simpa using this.symm
 subst e
 refine⟨JG _,hd,[],.nil,o,es,ep,h1,h2,h3,?_,by simp⟩
 have:=h5.length
 simpa using this
theorem uL (x:cc P w H h a (.dT [])):cc P w H' h a (.dK []):=by
 obtain⟨z,hd,xs,rel,o,es,ep,h1,h2,h3,h4,h5⟩:=x
 have e:xs=[]:=by have:=rel.length; simpa using this.symm
 subst e
 have e2:es=#[]:=by simpa using h4
 subst e2
 exact⟨JG _,hd,[],.nil,o,#[],ep,h1,h2,h3,fun e he=>by simp at he,.nil,by simp⟩
end
section
variable {X:Cx} {pins:List (MP×Obj)} {σ:St} {H:Hp} {s:MX} {a:MP}
theorem Bl (I:Inv X pins σ H s) (h1:H a=some (.dK [])):Inv X pins σ (upd H a (.dT [])) s:=by
 have hx:=I.hok a _ h1
 have hq:∃ q,s.heap.get? a=some q:=by obtain⟨_,_,_,_,o,_,_,e,_⟩:=id hx; exact⟨o,e⟩
 exact kE (ob:=.dT []) (h':=s.heap) (t':=s.toks) I (by rw [h1]; exact trivial) ⟨rfl,fun _ _=>rfl⟩ hq (zu hx)
theorem Hy (I:Inv X pins σ H s) (h1:H a=some (.dT [])):Inv X pins σ (upd H a (.dK [])) s:=by
 have hx:=I.hok a _ h1
 have hq:∃ q,s.heap.get? a=some q:=by obtain⟨_,_,_,_,o,_,_,e,_⟩:=id hx; exact⟨o,e⟩
 exact kE (ob:=.dK []) (h':=s.heap) (t':=s.toks) I (by rw [h1]; exact trivial) ⟨rfl,fun _ _=>rfl⟩ hq (uL hx)
end
def js:List D->List D->Option (List (List Key×D))
 | [],[]=>some []
 | k::ks,d::ds=>(iG k).bind fun k=>(js ks ds).map ((k,d)::·)
 | _,_=>none
abbrev encK (al:List (List Key×D)):List D:=al.map fun p=>.tup (p.1.map aY)
abbrev cG (al:List (List Key×D)):D:=.dct (encK al) (al.map (·.2))
theorem gU:∀ {ks ds:List D} {al:List (List Key×D)},js ks ds=some al->ks=encK al/\ds=al.map (·.2)
 | [],[],_,h=>by cases h; exact⟨rfl,rfl⟩
 | k::ks,d::ds,al,h=>by
  unfold js at h
  cases e1:iG k with
  | none=>rw [e1] at h; cases h
  | some k' =>
   rw [e1] at h
   cases e2:js ks ds with
   | none=>rw [e2] at h; cases h
   | some al' =>
    rw [e2] at h; cases h
    obtain⟨h1,h2⟩:=gU e2
    rw [lK e1,h1,h2]; exact⟨rfl,rfl⟩
 | [],_::_,_,h=>by cases h
 | _::_,[],_,h=>by cases h
theorem ik:∀ al:List (List Key×D),js (encK al) (al.map (·.2))=some al
 | []=>rfl
 | p::r=>by
  show (iG (.tup (p.1.map aY))).bind _=_
  have e:iG (.tup (p.1.map aY))=some p.1:=bQ p.1
  rw [e]
  show (js (encK r) (r.map (·.2))).map ((p.1,p.2)::·)=_
  rw [ik r]; rfl
theorem jK:∀ {al:List (List Key×D)} {ks:List (List Key)},encK al=ks.map (fun k=>.tup (k.map aY))->al.map (·.1)=ks
 | [],[],_=>rfl
 | p::r,k::ks,h=>by
  have h:D.tup (p.1.map aY)::encK r=D.tup (k.map aY)::ks.map (fun k=>.tup (k.map aY)):=h
  injection h with h1 h2
  injection h1 with h1
  have e:some p.1=some k:=by rw [<- bQ p.1,h1,bQ k]
  rw [JD,Option.some.inj e,jK h2]
 | [],_::_,h=>by cases h
 | _::_,[],h=>by cases h
theorem Ij {K:LQ} {H:Hp} {O:List MP} {a:MP} {al:List (List Key×D)} (h:cC K H O a (cG al)) :
  (∃ kvs:List (List Key×V),H a=some (.dT kvs)/\kvs.map (·.1)=al.map (·.1)/\aL K (hid H O) (al.map (·.2)) (kvs.map (·.2)))\/(H a=some (.dK [])/\al=[]):=by
 obtain⟨o,vs,h1,h2,h3⟩:=h
 rcases h3 with ⟨kvs,e,e1,e2⟩ | ⟨kvs,e,e1,e2⟩
 ·subst e
  cases kvs with
  | nil =>
   refine .inr ⟨h1,?_⟩
   simpa using e1
  | cons p r =>
   cases al with
   | nil=>cases e1
   | cons q r' =>
    have e1:D.tup (q.1.map aY)::encK r'=aY p.1::r.map (fun p=>aY p.1):=e1
    injection e1 with e1 _
    rcases p with ⟨k,v⟩
    cases k <;> cases e1
 ·subst e
  refine .inl ⟨kvs,h1,?_,by rw [<- e2]; exact h2⟩
  exact(jK (ks:=kvs.map (·.1)) (by rw [K7]; exact e1)).symm
def EL (ks ds:List D) (k:D):Option D:=(js ks ds).bind fun al=>(iG k).bind fun k=>some (.bl (al.any fun p=>decide (p.1=k)))
def Jd (i:Nat) (f:FX):FX:=fun ρ=>(f ρ).bind fun k=>match ρ[i]? with
 | some (some (.own (.dct ks ds)))=>rO (EL ks ds k)
 | _=>un
def eX (al:List (List Key×D)) (k:List Key) (v:D):List (List Key×D):=if (al.any fun p=>decide (p.1=k))=true then al.map (fun p=>if p.1=k then (p.1,v) else p) else al++[(k,v)]
def rq (ks ds:List D) (k v:D):Option (List (List Key×D)):=(js ks ds).bind fun al=>(iG k).bind fun k=>if small al.length then some (eX al k v) else none
def pf (i:Nat) (fk fv:FX):cf:=fun k ρ=>match ρ[i]? with
 | some (some (.own (.dct ks ds)))=>pV ((fv ρ).bind fun v=>(fk ρ).bind fun q=>rO (rq ks ds q v)) k ρ fun al=>k.nx (ρ.set i (some (.own (cG al))))
 | _=>un
theorem vT {ks ds:List D} {k v:D} {al':List (List Key×D)} (h:rq ks ds k v=some al'):∃ al q,ks=encK al/\ds=al.map (·.2)/\k=.tup (q.map aY)/\small al.length=true/\al'=eX al q v:=by
 unfold rq at h
 cases e1:js ks ds with
 | none=>rw [e1] at h; cases h
 | some al =>
  rw [e1] at h
  cases e2:iG k with
  | none=>rw [e2] at h; cases h
  | some q =>
   rw [e2] at h
   obtain⟨h3,h4⟩:=bv (show (if small al.length then some (eX al q v) else none)=some al' from h)
   obtain⟨h1,h2⟩:=gU e1
   exact⟨al,q,h1,h2,lK e2,h3,h4.symm⟩
theorem uE {kvs:List (List Key×V)} {al:List (List Key×D)} (e:kvs.map (·.1)=al.map (·.1)) (k:List Key) (w:V) (d:D):(putK kvs k w).map (·.1)=(eX al k d).map (·.1):=by
 have e2:(kvs.any fun p=>decide (p.1=k))=(al.any fun p=>decide (p.1=k)):=by
  have:=congrArg (fun l=>l.any fun q=>decide (q=k)) e
  simpa [K8,Function.comp_def] using this
 unfold putK eX
 rw [e2]
 split
 ·have e3:∀ (l:List (List Key×V)),(l.map fun kv=>if kv.1=k then (kv.1,w) else kv).map (·.1)=l.map (·.1):=fun l=>by
   rw [K7]; refine Kl fun p _=>?_
   show (if p.1=k then (p.1,w) else p).1=p.1
   split <;> rfl
  have e4:∀ (l:List (List Key×D)),(l.map fun kv=>if kv.1=k then (kv.1,d) else kv).map (·.1)=l.map (·.1):=fun l=>by
   rw [K7]; refine Kl fun p _=>?_
   show (if p.1=k then (p.1,d) else p).1=p.1
   split <;> rfl
  rw [e3,e4,e]
 ·rw [Km,Km,e]; rfl
theorem sU {K:LQ} {H:Hp} {k:List Key} {w:V} {d:D} (hw:cm K H d w):∀ {kvs:List (List Key×V)} {al:List (List Key×D)},kvs.map (·.1)=al.map (·.1)->aL K H (al.map (·.2)) (kvs.map (·.2)) ->
  aL K H ((al.map fun p=>if p.1=k then (p.1,d) else p).map (·.2)) ((kvs.map fun p=>if p.1=k then (p.1,w) else p).map (·.2))
 | [],[],_,h=>h
 | p::r,q::r',e,h=>by
  rw [JD,JD] at e
  injection e with e1 e2
  rw [JD,JD,bc] at h
  obtain⟨v,ws,h0,h1,h2⟩:=h
  injection h0 with h0 h0'
  subst h0 h0'
  have ih:=sU (k:=k) hw e2 h2
  rw [JD,JD,JD,JD,bc]
  refine⟨_,_,rfl,?_,ih⟩
  rw [e1]
  split
  ·exact hw
  ·exact h1
 | [],_::_,e,_=>by cases e
 | _::_,[],e,_=>by cases e
theorem wV {K:LQ} {H:Hp} {k:List Key} {w:V} {d:D} (hw:cm K H d w) {kvs:List (List Key×V)} {al:List (List Key×D)} (e:kvs.map (·.1)=al.map (·.1)) (h:aL K H (al.map (·.2)) (kvs.map (·.2))) :
  aL K H ((eX al k d).map (·.2)) ((putK kvs k w).map (·.2)):=by
 have e2:(kvs.any fun p=>decide (p.1=k))=(al.any fun p=>decide (p.1=k)):=by
  have:=congrArg (fun l=>l.any fun q=>decide (q=k)) e
  simpa [K8,Function.comp_def] using this
 unfold putK eX
 rw [e2]
 split
 ·exact sU hw e h
 ·rw [Km,Km]
  exact h.append (bc.mpr ⟨w,[],rfl,hw,cF.mpr rfl⟩)
theorem sK {kvs:List (List Key×V)} {al:List (List Key×D)} (e:kvs.map (·.1)=al.map (·.1)):encK al=kvs.map fun p=>D.tup (p.1.map aY):=by
 have:=congrArg (List.map fun k:List Key=>D.tup (k.map aY)) e
 rw [K7,K7] at this
 exact this.symm
theorem oW {H:Hp} {a:MP} {o1 o2:HO}:upd (upd H a o1) a o2=upd H a o2:=by
 funext b
 by_cases e:b=a
 ·subst e; rw [aN,aN]
 ·rw [aF e,aF e,aF e]
def DT (td ty tv:TE):TS:=fun D σ H=>tv σ H fun v H1=>td σ H1 fun x H2=>ty σ H2 fun y H3=>∃ a k b kvs,x=.ref a/\y=.ref b/\H3 b=some (.tup (k.map kV))/\(H3 a=some (.dT kvs)\/(H3 a=some (.dK [])/\kvs=[]))/\kvs.length < MS/\D.nx σ (upd H3 a (.dT (putK kvs k v)))
section
variable {X:Cx} {o idx value:M0} {pos pos':Pos} {td ty tv:TE}
theorem zo (hu:X.A.units+1 < Np) (ho:PE X o td) (hi:PE X idx ty) (hv:PE X value tv) (hs:swapsWith value (some (.Subscript o idx pos')) pos.line X.env=pure false):PS X (.Assign [.Subscript o idx pos'] value pos) (DT td ty tv):=by
 intro pins s σ H D I h
 refine wpAny_Assign_Subscript (dH (hv pins s σ H _ I h) fun r s1 ⟨v,H1,I1,rv,q1⟩=>dH (ho pins s1 σ H1 _ I1 q1) fun u s2 ⟨x,H2,I2,rx,q2⟩=>dH (hi pins s2 σ H2 _ I2 q2) fun iv s3 ⟨y,H3,I3,ry,a,k,b,kvs,ex,ey,hb,ha,hl,q3⟩=>?_) hs
 subst ex ey
 obtain rfl:u=Value.ref a:=rx
 rcases ha with ha | ⟨ha,rfl⟩
 ·exact kA hu I3 (DP.t ha hb hl) ry rv fun s4 I4=>⟨σ,_,I4,q3⟩
 ·have ne:b≠a:=fun z=>by rw [z,ha] at hb; cases hb
  refine kA hu (Bl I3 ha) (DP.t aN (by rw [aF ne]; exact hb) hl) ry rv fun s4 I4=>⟨σ,_,I4,?_⟩
  rw [oW]; exact q3
end
theorem GA {X:Cx} {i:Nat} {x:Str} {idx value:M0} {fk fv:FX} {npos tpos pos:Pos} (hu:X.A.units+64 < Np) (hx:PE X (.Name x npos) (nq i)) (hi:FE X idx fk) (hv:FE X value fv)
  (hs:swapsWith value (some (.Subscript (.Name x npos) idx tpos)) pos.line X.env=pure false:=by rfl) :
  FS X (.Assign [.Subscript (.Name x npos) idx tpos] value pos) (pf i fk fv):=fun Hb Ob pins s σ H E I ⟨O,ρ,k,rr,S,hF,hk⟩=>by
 unfold pf at hF
 split at hF
 ·rename_i ks ds hxs
  obtain⟨a,ha,haO,hat⟩:=S.env.own i _ hxs
  have hP:=gQ.on hF hk S (Q:=fun al=>k.nx (ρ.set i (some (.own (cG al))))=rr) fun p e=>e
  refine zo ‹0› hx hi hv hs pins s σ H E I ⟨O,ρ,S.env,(gQ.bind hP).imp fun y hP v H1 s1 d1=>?_⟩
  have S1:=S.same s1
  refine⟨.ref a,ha,O,ρ,S1.env,((gQ.bind hP).mono s1).imp fun j hP w H2 s2 d2=>?_⟩
  have S2:=S1.same s2
  obtain⟨al',hg,e⟩:=gQ.rO hP
  obtain⟨al,q,f1,f2,f3,f4,f5⟩:=vT hg
  subst f1 f2 f3 f5
  have s12:=s1.trans s2
  obtain⟨b,ws,eb,g1,g2⟩:=cq.mp d2
  rw [iw g2] at g1
  have hat2:cC X.K H2 O a (cG al):=hat.mono (let ⟨_,z⟩:=hat.some; ot s12 z) (bx s12)
  have dv:cm X.K (hid H2 O) y v:=d1.mono (bx s2)
  have fin:∀ kvs:List (List Key×V),kvs.map (·.1)=al.map (·.1)->aL X.K (hid H2 O) (al.map (·.2)) (kvs.map (·.2))->cC X.K (upd H2 a (.dT (putK kvs q v))) O a (cG (eX al q y)):=fun kvs k2 k3 =>
   ⟨_,_,aN,(wV dv k2 k3).mono (fG haO),.inr ⟨putK kvs q v,rfl,sK (uE k2 q v y),rfl⟩⟩
  rcases Ij hat2 with ⟨kvs,k1,k2,k3⟩ | ⟨k1,rfl⟩
  ·have hl:kvs.length=al.length:=by have:=congrArg List.length k2; simpa using this
   exact⟨a,q,b,kvs,rfl,eb,(aE H2 O) _ _ g1,.inl k1,by rw [hl]; exact Kt (of_decide_eq_true f4) (by decide),hk.nx O _ σ _ (S2.setO hxs ha trivial (fin kvs k2 k3)) e⟩
  ·exact⟨a,q,b,[],rfl,eb,(aE H2 O) _ _ g1,.inr ⟨k1,rfl⟩,by decide,hk.nx O _ σ _ (S2.setO hxs ha trivial (fin [] rfl (cF.mpr rfl))) e⟩
 ·exact absurd hF.symm hk.ne
end TG
namespace TG
open PySem PySem.Spec L2
variable [aM]
end TG
namespace TG
open PySem PySem.Spec PySem.W PySem.Calls PyProof.Rows Builtin Builtin.ObjectAttr Builtin.Getset_descriptor
variable [aM]
end TG
namespace TG
open PySem PySem.Spec L2
variable [aM]
open PyProof.Rows (AllBare OwnCls)
end TG
namespace TG
open PySem PySem.Spec L2
variable [aM]
end TG
namespace TG
open PySem PySem.Spec L2
variable [aM]
end TG
namespace TG
open PySem PySem.Spec L2
variable [aM]
end TG
namespace TG
open PySem PySem.Spec L2
end TG
namespace TG
open PySem PySem.Spec PyProof.Rows PySem.W L2
variable [aM]
end TG
namespace TG
open PySem PySem.Spec PyProof.Rows PySem.W L2
variable [aM]
end TG
namespace TG
open PySem PySem.Spec PyProof.Rows PySem.W L2
variable [aM]
theorem i9:MU "sorted"=some (.builtin "sorted"):=by first | rfl | decide +kernel
end TG
namespace TG
open PySem PySem.Spec PyProof.Rows PySem.W L2
end TG
namespace TG
open PySem PySem.Spec PySem.Calls L2
open PySem.SeqAt (EqAt list_indexAt)
variable [aM]
section
variable {X:Cx} {p pos:Pos} {e:M0}
end
end TG
namespace TG
open PySem PySem.Spec L2
variable [aM]
end TG
namespace TG
open PySem PySem.Spec PySem.Calls L2
open PySem.SeqAt (EqAt list_countAt)
variable [aM]
def A4:=D9 (fun _ j=>decide (0<=j)) fun i j=>i / 2 ^ j.toNat
theorem CN {K:LQ}:dm K (rI (fun _ j=>0<=j) fun i j=>.int (i / 2 ^ j.toNat)) A4:=il fun _ _ h=>of_decide_eq_true h
def xf:=Dl fun i j=>.int (Builtin.bitAnd i j)
theorem Cr {K:LQ}:dm K (BI fun i j=>.int (Builtin.bitAnd i j)) xf:=o7
def nK:List D->List D->Option (List (Key×D))
 | [],[]=>some []
 | k::ks,d::ds=>(keyOf k).bind fun k=>(nK ks ds).map ((k,d)::·)
 | _,_=>none
abbrev fM (al:List (Key×D)):List D:=al.map fun p=>aY p.1
abbrev t6 (al:List (Key×D)):D:=.dct (fM al) (al.map (·.2))
theorem iW (k:Key):keyOf (aY k)=some k:=by cases k <;> rfl
theorem pp {a b:Key} (h:aY a=aY b):a=b:=by
 have e:=congrArg keyOf h
 rw [iW,iW] at e
 exact Option.some.inj e
theorem uD:∀ {ks ds:List D} {al:List (Key×D)},nK ks ds=some al->ks=fM al/\ds=al.map (·.2)
 | [],[],_,h=>by cases h; exact⟨rfl,rfl⟩
 | k::ks,d::ds,al,h=>by
  unfold nK at h
  cases e1:keyOf k with
  | none=>rw [e1] at h; cases h
  | some k' =>
   rw [e1] at h
   cases e2:nK ks ds with
   | none=>rw [e2] at h; cases h
   | some al' =>
    rw [e2] at h; cases h
    obtain⟨h1,h2⟩:=uD e2
    rw [pE e1,h1,h2]; exact⟨rfl,rfl⟩
 | [],_::_,_,h=>by cases h
 | _::_,[],_,h=>by cases h
theorem rA:∀ al:List (Key×D),nK (fM al) (al.map (·.2))=some al
 | []=>rfl
 | p::r=>by
  show (keyOf (aY p.1)).bind _=_
  rw [iW]
  show (nK (fM r) (r.map (·.2))).map ((p.1,p.2)::·)=_
  rw [rA r]; rfl
theorem qO:∀ {al:List (Key×D)} {ks:List Key},fM al=ks.map aY->al.map (·.1)=ks
 | [],[],_=>rfl
 | p::r,k::ks,h=>by
  have h:aY p.1::fM r=aY k::ks.map aY:=h
  injection h with h1 h2
  rw [JD,pp h1,qO h2]
 | [],_::_,h=>by cases h
 | _::_,[],h=>by cases h
theorem Ho {K:LQ} {H:Hp} {O:List MP} {a:MP} {al:List (Key×D)} (h:cC K H O a (t6 al)) :
  (∃ kvs:List (Key×V),H a=some (.dK kvs)/\kvs.map (·.1)=al.map (·.1)/\aL K (hid H O) (al.map (·.2)) (kvs.map (·.2)))\/(H a=some (.dT [])/\al=[]):=by
 obtain⟨o,vs,h1,h2,h3⟩:=h
 rcases h3 with ⟨kvs,e,e1,e2⟩ | ⟨kvs,e,e1,e2⟩
 ·subst e
  refine .inl ⟨kvs,h1,?_,by rw [<- e2]; exact h2⟩
  exact(qO (ks:=kvs.map (·.1)) (by rw [K7]; exact e1)).symm
 ·subst e
  cases kvs with
  | nil =>
   refine .inr ⟨h1,?_⟩
   simpa using e1
  | cons p r =>
   cases al with
   | nil=>cases e1
   | cons q r' =>
    have e1:aY q.1::fM r'=D.tup (p.1.map aY)::r.map (fun p=>D.tup (p.1.map aY)):=e1
    injection e1 with e1 _
    rcases q with ⟨k,v⟩
    cases k <;> cases e1
section
variable {κ:Type} [DecidableEq κ]
def nV (al:List (κ×D)) (k:κ) (v:D):List (κ×D):=if (al.any fun p=>decide (p.1=k))=true then al.map (fun p=>if p.1=k then (p.1,v) else p) else al++[(k,v)]
theorem xS {kvs:List (κ×V)} {al:List (κ×D)} (e:kvs.map (·.1)=al.map (·.1)) (k:κ) (w:V) (d:D):(putK kvs k w).map (·.1)=(nV al k d).map (·.1):=by
 have e2:(kvs.any fun p=>decide (p.1=k))=(al.any fun p=>decide (p.1=k)):=by
  have:=congrArg (fun l=>l.any fun q=>decide (q=k)) e
  simpa [K8,Function.comp_def] using this
 unfold putK nV
 rw [e2]
 split
 ·have e3:∀ (l:List (κ×V)),(l.map fun kv=>if kv.1=k then (kv.1,w) else kv).map (·.1)=l.map (·.1):=fun l=>by
   rw [K7]; refine Kl fun p _=>?_
   show (if p.1=k then (p.1,w) else p).1=p.1
   split <;> rfl
  have e4:∀ (l:List (κ×D)),(l.map fun kv=>if kv.1=k then (kv.1,d) else kv).map (·.1)=l.map (·.1):=fun l=>by
   rw [K7]; refine Kl fun p _=>?_
   show (if p.1=k then (p.1,d) else p).1=p.1
   split <;> rfl
  rw [e3,e4,e]
 ·rw [Km,Km,e]; rfl
theorem qE {K:LQ} {H:Hp} {k:κ} {w:V} {d:D} (hw:cm K H d w):∀ {kvs:List (κ×V)} {al:List (κ×D)},kvs.map (·.1)=al.map (·.1)->aL K H (al.map (·.2)) (kvs.map (·.2)) ->
  aL K H ((al.map fun p=>if p.1=k then (p.1,d) else p).map (·.2)) ((kvs.map fun p=>if p.1=k then (p.1,w) else p).map (·.2))
 | [],[],_,h=>h
 | p::r,q::r',e,h=>by
  rw [JD,JD] at e
  injection e with e1 e2
  rw [JD,JD,bc] at h
  obtain⟨v,ws,h0,h1,h2⟩:=h
  injection h0 with h0 h0'
  subst h0 h0'
  have ih:=qE (k:=k) hw e2 h2
  rw [JD,JD,JD,JD,bc]
  refine⟨_,_,rfl,?_,ih⟩
  rw [e1]
  split
  ·exact hw
  ·exact h1
 | [],_::_,e,_=>by cases e
 | _::_,[],e,_=>by cases e
theorem zf {K:LQ} {H:Hp} {k:κ} {w:V} {d:D} (hw:cm K H d w) {kvs:List (κ×V)} {al:List (κ×D)} (e:kvs.map (·.1)=al.map (·.1)) (h:aL K H (al.map (·.2)) (kvs.map (·.2))) :
  aL K H ((nV al k d).map (·.2)) ((putK kvs k w).map (·.2)):=by
 have e2:(kvs.any fun p=>decide (p.1=k))=(al.any fun p=>decide (p.1=k)):=by
  have:=congrArg (fun l=>l.any fun q=>decide (q=k)) e
  simpa [K8,Function.comp_def] using this
 unfold putK nV
 rw [e2]
 split
 ·exact qE hw e h
 ·rw [Km,Km]
  exact h.append (bc.mpr ⟨w,[],rfl,hw,cF.mpr rfl⟩)
end
def qD (ks ds:List D) (k v:D):Option (List (Key×D)):=(nK ks ds).bind fun al=>(keyOf k).bind fun k=>if small al.length then some (nV al k v) else none
def lL (i:Nat) (fk fv:FX):cf:=fun k ρ=>match ρ[i]? with
 | some (some (.own (.dct ks ds)))=>pV ((fv ρ).bind fun v=>(fk ρ).bind fun q=>rO (qD ks ds q v)) k ρ fun al=>k.nx (ρ.set i (some (.own (t6 al))))
 | _=>un
theorem vL {ks ds:List D} {k v:D} {al':List (Key×D)} (h:qD ks ds k v=some al'):∃ al q,ks=fM al/\ds=al.map (·.2)/\k=aY q/\small al.length=true/\al'=nV al q v:=by
 unfold qD at h
 cases e1:nK ks ds with
 | none=>rw [e1] at h; cases h
 | some al =>
  rw [e1] at h
  cases e2:keyOf k with
  | none=>rw [e2] at h; cases h
  | some q =>
   rw [e2] at h
   obtain⟨h3,h4⟩:=bv (show (if small al.length then some (nV al q v) else none)=some al' from h)
   obtain⟨h1,h2⟩:=uD e1
   exact⟨al,q,h1,h2,pE e2,h3,h4.symm⟩
theorem A5 {kvs:List (Key×V)} {al:List (Key×D)} (e:kvs.map (·.1)=al.map (·.1)):fM al=kvs.map fun p=>aY p.1:=by
 have:=congrArg (List.map aY) e
 rw [K7,K7] at this
 exact this.symm
def CD (td ty tv:TE):TS:=fun D σ H=>tv σ H fun v H1=>td σ H1 fun x H2=>ty σ H2 fun y H3=>∃ a k kvs,x=.ref a/\y=kV k/\(H3 a=some (.dK kvs)\/(H3 a=some (.dT [])/\kvs=[]))/\kvs.length < MS/\D.nx σ (upd H3 a (.dK (putK kvs k v)))
section
variable {X:Cx} {o idx value:M0} {pos pos':Pos} {td ty tv:TE}
theorem zK (hu:X.A.units+1 < Np) (ho:PE X o td) (hi:PE X idx ty) (hv:PE X value tv) (hs:swapsWith value (some (.Subscript o idx pos')) pos.line X.env=pure false):PS X (.Assign [.Subscript o idx pos'] value pos) (CD td ty tv):=by
 intro pins s σ H D I h
 refine wpAny_Assign_Subscript (dH (hv pins s σ H _ I h) fun r s1 ⟨v,H1,I1,rv,q1⟩=>dH (ho pins s1 σ H1 _ I1 q1) fun u s2 ⟨x,H2,I2,rx,q2⟩=>dH (hi pins s2 σ H2 _ I2 q2) fun iv s3 ⟨y,H3,I3,ry,a,k,kvs,ex,ey,ha,hl,q3⟩=>?_) hs
 subst ex ey
 obtain rfl:u=Value.ref a:=rx
 rcases ha with ha | ⟨ha,rfl⟩
 ·exact kA hu I3 (DP.k ha hl) ry rv fun s4 I4=>⟨σ,_,I4,q3⟩
 ·refine kA hu (Hy I3 ha) (DP.k aN hl) ry rv fun s4 I4=>⟨σ,_,I4,?_⟩
  rw [oW]; exact q3
end
theorem GB {X:Cx} {i:Nat} {x:Str} {idx value:M0} {fk fv:FX} {npos tpos pos:Pos} (hu:X.A.units+64 < Np) (hx:PE X (.Name x npos) (nq i)) (hi:FE X idx fk) (hv:FE X value fv)
  (hs:swapsWith value (some (.Subscript (.Name x npos) idx tpos)) pos.line X.env=pure false:=by rfl) :
  FS X (.Assign [.Subscript (.Name x npos) idx tpos] value pos) (lL i fk fv):=fun Hb Ob pins s σ H E I ⟨O,ρ,k,rr,S,hF,hk⟩=>by
 unfold lL at hF
 split at hF
 ·rename_i ks ds hxs
  obtain⟨a,ha,haO,hat⟩:=S.env.own i _ hxs
  have hP:=gQ.on hF hk S (Q:=fun al=>k.nx (ρ.set i (some (.own (t6 al))))=rr) fun p e=>e
  refine zK ‹0› hx hi hv hs pins s σ H E I ⟨O,ρ,S.env,(gQ.bind hP).imp fun y hP v H1 s1 d1=>?_⟩
  have S1:=S.same s1
  refine⟨.ref a,ha,O,ρ,S1.env,((gQ.bind hP).mono s1).imp fun j hP w H2 s2 d2=>?_⟩
  have S2:=S1.same s2
  obtain⟨al',hg,e⟩:=gQ.rO hP
  obtain⟨al,q,f1,f2,f3,f4,f5⟩:=vL hg
  subst f1 f2 f3 f5
  have s12:=s1.trans s2
  have hat2:cC X.K H2 O a (t6 al):=hat.mono (let ⟨_,z⟩:=hat.some; ot s12 z) (bx s12)
  have dv:cm X.K (hid H2 O) y v:=d1.mono (bx s2)
  have fin:∀ kvs:List (Key×V),kvs.map (·.1)=al.map (·.1)->aL X.K (hid H2 O) (al.map (·.2)) (kvs.map (·.2))->cC X.K (upd H2 a (.dK (putK kvs q v))) O a (t6 (nV al q y)):=fun kvs k2 k3 =>
   ⟨_,_,aN,(zf dv k2 k3).mono (fG haO),.inl ⟨putK kvs q v,rfl,A5 (xS k2 q v y),rfl⟩⟩
  rcases Ho hat2 with ⟨kvs,k1,k2,k3⟩ | ⟨k1,rfl⟩
  ·have hl:kvs.length=al.length:=by have:=congrArg List.length k2; simpa using this
   exact⟨a,q,kvs,rfl,pG d2,.inl k1,by rw [hl]; exact Kt (of_decide_eq_true f4) (by decide),hk.nx O _ σ _ (S2.setO hxs ha trivial (fin kvs k2 k3)) e⟩
  ·exact⟨a,q,[],rfl,pG d2,.inr ⟨k1,rfl⟩,by decide,hk.nx O _ σ _ (S2.setO hxs ha trivial (fin [] rfl (cF.mpr rfl))) e⟩
 ·exact absurd hF.symm hk.ne
section
variable {X:Cx}
theorem EC {pins:List (MP×Obj)} {σ:St} {H:Hp} {s:MX} {O:List MP} {ks ds:List D} {v:V} {qs:List Key} (I:Inv X pins σ H s) (h:cm X.K (hid H O) (.dct ks ds) v) (hk:keysOf ks=some qs) :
  ∃ a vs,v=.ref a/\qs.length<=MS/\(a==sysModules)=false/\s.heap.DictOf (bE X.prog X.w) a vs/\vs.map (·.1)=qs:=by
 obtain⟨a,vs,e,_,h2⟩:=Gk.mp h
 have ek:=km hk
 rcases h2 with ⟨kvs,h3,h4,_⟩ | ⟨kvs,h3,h4,_⟩ | ⟨kvs,o,h3,h4,_⟩
 rotate_left 2
 ·rw [h4] at hk; cases hk
 ·obtain⟨z,hd,us,rel,dd⟩:=B5 I.hok ((aE H O) _ _ h3)
  have e1:kvs.map (·.1)=qs:=by
   have:(kvs.map (·.1)).map aY=qs.map aY:=by rw [K7,<- ek,h4]; rfl
   have e2:=congrArg keysOf this
   rw [bQ,bQ] at e2
   exact Option.some.inj e2
  refine⟨a,us,e,?_,hd,dd,?_⟩
  ·have:=congrArg List.length e1
   rw [JE] at this
   omega
  ·rw [<- rel.keys,e1]
 ·cases kvs with
  | nil =>
   rw [h4] at hk
   cases hk
   obtain⟨z,hd,us,rel,dd⟩:=(show cc X.prog X.w H s.heap a (.dK []) from uL (I.hok a _ ((aE H O) _ _ h3)))
   refine⟨a,us,e,JG _,hd,dd,?_⟩
   rw [<- rel.keys]; rfl
  | cons p r =>
   rw [h4] at hk
   cases hk
def qX:List D->Option D
 | [.dct ks _]=>(keysOf ks).bind fun qs=>some (.int qs.length)
 | _=>none
theorem yg:dq X (.builtin "len") (we X.K qX):=by
 intro pins s σ H xs us Q I r ⟨O,ds,d,hO,hd,hg,q⟩
 unfold qX at hg
 split at hg
 ·rename_i ks vs0
  cases hk:keysOf ks with
  | none=>rw [hk] at hg; cases hg
  | some qs =>
   rw [hk] at hg
   cases hg
   obtain⟨v,ev,h1⟩:=hd.one
   obtain⟨a,vs,e,z,hs,dd,e1⟩:=EC I h1 hk
   subst ev e
   obtain⟨u,rfl,ru⟩:=vals1 r
   cases ru
   have hl:vs.length=qs.length:=by have:=congrArg List.length e1; simpa using this
   refine call_len_dict hs dd (by rw [Ni] at z; omega) ?_
   rw [hl]
   exact⟨.int qs.length,H,I.tok _,⟨_,rfl⟩,q _ H (aX.refl H) (eB.mpr rfl)⟩
 ·cases hg
theorem xJ {k:Key} {v:MM} (h:nO k v=true):RelV (kV k) v:=by
 rcases bY h with ⟨i,t,rfl,rfl⟩ | ⟨x,t,rfl,rfl⟩
 ·exact⟨_,rfl⟩
 ·exact⟨_,rfl⟩
theorem qJ {P:MO} {w:MN}:∀ {vs:List (Key×MM)} {its:List MM},its.length=vs.length->(∀ (j:Nat) (v:MM),its[j]?=some v->∃ (k:Key) (x:MM),vs[j]?=some (k,x)/\(bE P w).is k v=true)->Vals (vs.map fun p=>kV p.1) its
 | [],[],_,_=>.nil
 | p::r,u::us,hl,h=>by
  obtain⟨k,x,e,hk⟩:=h 0 u rfl
  cases e
  exact .cons (xJ (by rw [vi] at hk; exact hk)) (qJ (by simpa using hl) fun j v e=>h (j+1) v (by simpa using e))
 | [],_::_,hl,_=>by cases hl
 | _::_,[],hl,_=>by cases hl
theorem ra {K:LQ} {H:Hp}:∀ qs:List Key,aL K H (qs.map aY) (qs.map kV)
 | []=>cF.mpr rfl
 | k::r=>bc.mpr ⟨kV k,_,rfl,by cases k with
  | inl i=>exact eB.mpr rfl
  | inr x=>exact dJ.mpr rfl,ra r⟩
def m8:List D->Option D
 | [.dct ks _]=>(keysOf ks).bind fun _=>some (.lst ks)
 | _=>none
theorem wj (hc:X.calm=true):dq X (.type "list") (we X.K m8):=by
 intro pins s σ H xs us Q I r ⟨O,ds,d,hO,hd,hg,q⟩
 unfold m8 at hg
 split at hg
 ·rename_i ks vs0
  cases hk:keysOf ks with
  | none=>rw [hk] at hg; cases hg
  | some qs =>
   rw [hk] at hg
   cases hg
   obtain⟨v,ev,h1⟩:=hd.one
   obtain⟨a,vs,e,z,hs,dd,e1⟩:=EC I h1 hk
   subst ev e
   obtain⟨u,rfl,ru⟩:=vals1 r
   cases ru
   have hl:vs.length=qs.length:=by have:=congrArg List.length e1; simpa using this
   obtain⟨ep,da⟩:=dd.dictAt
   refine Mi (PySem.W.kdl_dict hs) (I.ok.hd hc) da ‹0› fun h' tk acc' c' kp e2 it=>?_
   have rv:Vals (qs.map kV) acc'.toList:=by
    have:=qJ (P:=X.prog) (w:=X.w) (vs:=vs) (its:=acc'.toList) (by rw [Array.length_toList]; exact it.1) fun j v e=>it.2 j v (by rw [<- Array.getElem?_toList]; exact e)
    rw [<- e1,K7]; exact this
   refine⟨.ref s.heap.objs.size,_,I.laid (t':=tk) kp (Jw _) (show cc X.prog X.w _ h' _ (.lst (qs.map kV)) from ⟨by rw [JE]; exact z,acc'.toList,c',rv,by simpa using e2⟩),rfl,?_⟩
   have hf:=I.hok.fresh (Jw s.heap.objs.size)
   refine q _ _ (bC hf _) ?_
   rw [km hk]
   exact d5 hO hf (ra qs)
 ·cases hg
end
end TG
namespace TG
open PySem PySem.Spec L2
variable [aM]
end TG
namespace TG
open PySem PySem.Spec PySem.Calls L2
variable [aM]
theorem yI:typeLookup (.type "list") "keys"=pure none:=by rw [typeLookup_type,builtinLookup_eq_fast]; kernel_rfl
theorem AZ {prog:MO} {w:MN} {A:MV} {E:MM->MX->Prop} {s:MX} {a:MP} {o:Obj} {xs:Array MM} {k:Nat} {u:Tok} {Q:MM->MX->Prop}
  (hx:s.heap.get? a=some o) (hc:o.cls=.type "list") (hdat:o.data=.seq xs k) (hd:o.dict=none) (hA:A.handled=none)
  (h:∀ h' tk e,Heap.NewExcOf s.heap h' e "AttributeError"->E (.ref e) { s with heap:=h',toks:=tk }) :
  MZ (model prog w) A (getAttrBy (.ref a) (.str "keys" u) false) Q E s:=by
 obtain⟨c,dct,dat,sl⟩:=o
 simp only at hc hdat hd
 subst hc hdat hd
 obtain⟨hp,g,d,tk,os⟩:=s
 have hT:∀ tk',(⟨hp,g,d,tk',os⟩:MX).TypeIs (.ref a) "list":=fun _=>⟨_,hx,rfl⟩
 have f1:=sub_AttributeError
 have f3:=F.slot_list_getattribute.lookup
 have f4:=F.slot_list_getattribute.bind (.ref a)
 have f5:=am_list_getattr_none
 unfold getAttrBy
 repeat (any_goals (first | assumption | exact hT _ | ((with_reducible show MZ _ _ (call (Value.builtin "list.__getattribute__") _ _) _ _ _); refine call_meets F.slot_list_getattribute (hT _) am_entry_list_getattribute (F.args_list_getattribute_2 _ _) (meets_getattribute_miss_list a xs k sl "keys" _ yI (by decide +kernel) (by decide +kernel)) ⟨hx,hA,fun h' tk' e hx'=>?_⟩) | wp_step))
 obtain⟨t',u',he⟩:=hx'.there
 show MZ _ _ (getattributeRaised _ _ _ _ _ _ _) _ _ _
 unfold getattributeRaised
 repeat (any_goals (first | assumption | wp_step))
 exact h _ _ _ hx'.of
theorem Bf {prog:MO} {w:MN} {A:MV} {E:MM->MX->Prop} {s:MX} {a:MP} {o:Obj} {xs:Array MM} {k:Nat} {Q:Option MM->MX->Prop}
  (hx:s.heap.get? a=some o) (hc:o.cls=.type "list") (hdat:o.data=.seq xs k) (hd:o.dict=none) (hA:A.handled=none)
  (h:∀ h' tk,(∀ b o,s.heap.get? b=some o->h'.get? b=some o)->Q none { s with heap:=h',toks:=tk }) :
  MZ (model prog w) A (getAttr? (.ref a) "keys") Q E s:=by
 obtain⟨hp,g,d,tk,os⟩:=s
 have f1:=sub_AttributeError
 unfold getAttr? getAttrBy?
 refine M7 (wpAny_mkText ?_)
 refine M7 (N1 (AZ (s:=⟨hp,g,d,tk+1,os⟩) hx hc hdat hd hA fun h' tk' e ne=>?_))
 obtain⟨ob,vs,e1,e2,_⟩:=ne.there
 refine M7 (N2 (s:=⟨h',g,d,tk',os⟩) ⟨ob,e1,e2⟩ f1 ?_)
 exact M6 (h h' tk' ne.keeps)

abbrev Keeps (h0 h:MR):Prop:=∀ b o,h0.get? b=some o->h.get? b=some o
section
variable {prog:MO} {w:MN} {A:MV} {E:MM->MX->Prop} {K:Type} [DecidableEq K] {knd:HeapKind prog w K} {d:MP} {h0:MR}
def DI (knd:HeapKind prog w K) (h0:MR) (d:MP) (h:MR) (xs:List (K×MP×MM)):Prop :=
 (∃ o es ep,h.get? d=some o/\o.ExactDict/\o.data=.dict es ep/\es.toList=xs.map (entryOfKey knd)/\(xs.map (·.1)).Nodup)/\∀ x∈xs,∀ h,Keeps h0 h->knd.is h x.1 x.2.1
theorem DI.dict {h:MR} {xs:List (K×MP×MM)} (x:DI knd h0 d h xs) (k:Keeps h0 h):h.DictOfH knd d xs:=by
 obtain⟨⟨o,es,ep,h1,h2,h3,h4,h5⟩,h6⟩:=x
 exact⟨o,es,ep,h1,h2,h3,h4,fun y hy=>h6 y hy h k,h5⟩
theorem DI.stay {h h':MR} {xs:List (K×MP×MM)} (x:DI knd h0 d h xs) (k:∀ o,h.get? d=some o->h'.get? d=some o):DI knd h0 d h' xs:=by
 obtain⟨⟨o,es,ep,h1,r⟩,h6⟩:=x
 exact⟨⟨o,es,ep,k o h1,r⟩,h6⟩
theorem mem_storedH {xs:List (K×MP×MM)} {k:K} {a:MP} {v:MM} {x:K×MP×MM} (h:x∈storedH xs k a v):(∃ y∈xs,y.1=x.1/\y.2.1=x.2.1)\/(x.1=k/\x.2.1=a):=by
 unfold storedH at h
 split at h
 ·obtain⟨y,hy,rfl⟩:=List.mem_map.mp h
  refine .inl ⟨y,hy,?_⟩
  unfold putAt
  split <;> exact⟨rfl,rfl⟩
 ·rcases List.mem_append.mp h with z | z
  ·exact .inl ⟨x,z,rfl,rfl⟩
  ·rw [K9] at z
   subst z; exact .inr ⟨rfl,rfl⟩
theorem DI.put {h h':MR} {xs:List (K×MP×MM)} {k:K} {a:MP} {v:MM} (x:DI knd h0 d h xs) (hk:∀ h,Keeps h0 h->knd.is h k a) (dd:h'.DictOfH knd d (storedH xs k a v)):DI knd h0 d h' (storedH xs k a v):=by
 obtain⟨o,es,ep,h1,h2,h3,h4,_,h5⟩:=dd
 refine⟨⟨o,es,ep,h1,h2,h3,h4,h5⟩,fun y hy g kg=>?_⟩
 rcases mem_storedH hy with ⟨z,hz,e1,e2⟩ | ⟨e1,e2⟩
 ·rw [<- e1,<- e2]; exact x.2 z hz g kg
 ·rw [e1,e2]; exact hk g kg
theorem uo (xs:List (K×MP×MM)) (k:K) (a:MP) (v:MM):(storedH xs k a v).length<=xs.length+1:=by
 unfold storedH
 split
 ·rw [JE]; omega
 ·simp
theorem tI:entryFor table "dict.update.loop"=some Builtin.«dict.update.loop»:=entryFor_of_tree (by kernel_rfl)
theorem lT:plainId "dict.update.loop"=true:=by decide +kernel
theorem xN {R:Result->MX->Prop} {I:MP} {fp wr:List MP} {P:Nat->MM->Prop} {St:Nat->MR->Prop} {L:List (K×MP×MM)} (W:Walks prog w A.in1 I fp wr L.length P St) (hwr:∀ b∈wr,h0.get? b=none) (hdn:h0.get? d=none) (hdf:d∉fp)
  (hn:L.length<=MS) (hu:knd.room A.in1) (hP:∀ i v,P i v->∃ x t,L[i]?=some x/\v=.ref t/\∀ h,Keeps h0 h->h.IsTuple t #[.ref x.2.1,x.2.2]) (hK:∀ x∈L,∀ h,Keeps h0 h->knd.is h x.1 x.2.1) (res:MM) :
  ∀ (m i:Nat) (s:MX) (xs:List (K×MP×MM)) (j:Int) (u:Tok),i+m=L.length->St i s.heap->Keeps h0 s.heap->DI knd h0 d s.heap xs->xs.length<=i ->
  (∀ h' tk,Keeps h0 h'->DI knd h0 d h' ((L.drop i).foldl (fun xs x=>storedH xs x.1 x.2.1 x.2.2) xs)->R (.ok (.ret res)) { s with heap:=h',toks:=tk }) ->
  Nj (model prog w) A (.builtin "dict.update.loop" ⟨[.ref d,.ref I,.int j u,res],[]⟩) R s:=by
 have hdw:d∉wr:=fun h=>hdf (W.sub _ h)
 intro m
 induction m with
 | zero =>
  intro i s xs j u hi st kp di hl hR
  have hin:i=L.length:=by omega
  subst hin
  refine codeAny_builtin tI ?_
  rw [Around.under_plainId lT _]
  show MZ _ A.in1 (pyNext (.ref I) >>= _) _ _ s
  refine M7 (W.done s _ _ st fun h' tk hk=>?_)
  refine M7 (M6 (M6 ?_))
  have:=hR h' tk (fun b o q=>hk b o (fun z=>by have:=hwr b z; rw [q] at this; cases this) (kp b o q)) (by
   rw [Kv,List.foldl_nil]
   exact di.stay fun o q=>hk d o hdw q)
  exact this
 | succ m ih =>
  intro i s xs j u hi st kp di hl hR
  refine codeAny_builtin tI ?_
  rw [Around.under_plainId lT _]
  show MZ _ A.in1 (pyNext (.ref I) >>= _) _ _ s
  refine M7 (W.item i s _ _ ‹0› st fun v h' tk hv st' hk=>?_)
  obtain⟨x,t,hx,rfl,ht⟩:=hP i v hv
  have kp':Keeps h0 h':=fun b o q=>hk b o (fun z=>by have:=hwr b z; rw [q] at this; cases this) (kp b o q)
  obtain⟨o,ho,hc,n,hd⟩:=ht h' kp'
  have xm:x∈L:=JQ hx
  refine M7 (NB (M7 (wpAny_tryCatch ?_)))
  unfold Builtin.Dict.pairItems
  refine M7 (NE (T := "tuple") ⟨o,ho,hc⟩ ?_)
  rw [if_pos (by decide)]
  refine M7 (NR ho hd (M6 ?_))
  show MZ _ _ (holding [.ref x.2.1,x.2.2] (dictSet d (.ref x.2.1) x.2.2)) _ _ _
  have di':DI knd h0 d h' xs:=di.stay fun o q=>hk d o hdw q
  refine NB (wpAny_dictSet_heap (s:={ s with heap:=h',toks:=tk }) (hsz:=by omega) hu (hK x xm h' kp') (di'.dict kp') fun h2 dd sb=>?_)
  have kp2:Keeps h0 h2:=fun b o q=>(sb.2 b (fun z=>by rw [z,hdn] at q; cases q)).trans (kp' b o q)
  refine M6 ⟨plainId_quiet lT _,?_⟩
  refine ih (i+1) _ (storedH xs x.1 x.2.1 x.2.2) (j+1) 0 ‹0› (W.frame _ _ _ st' fun b hb o q=>(sb.2 b (fun z=>hdf (by rw [<- z]; exact hb))).trans q) kp2 (di'.put (hK x xm) dd) (by have:=uo xs x.1 x.2.1 x.2.2; omega) fun h3 tk3 kp3 di3=>?_
  refine hR h3 tk3 kp3 ?_
  have e:L.drop i=x::L.drop (i+1):=by
   have hil:i < L.length:=by omega
   rw [Kr hil]
   rw [Kg hil] at hx
   rw [Option.some.inj hx]
  rw [e,KS]
  exact di3
theorem oF {s:MX} {Q:MM->MX->Prop} {l:MP} {o:Obj} {items:Array MM} {n:Nat} {L:List (K×MP×MM)} (ho:s.heap.get? l=some o) (hc:o.cls=.type "list") (hd:o.data=.seq items n) (hdd:o.dict=none) (hh:A.handled=none) (hu:knd.room A.in1.in1)
  (hl:items.size=L.length) (hn:L.length<=MS) (hP:∀ (i:Nat) v,items[i]?=some v->∃ x t,L[i]?=some x/\v=.ref t/\s.heap.IsTuple t #[.ref x.2.1,x.2.2]) (hK:∀ x∈L,∀ h,Keeps s.heap h->knd.is h x.1 x.2.1)
  (hQ:∀ h' tk,Keeps s.heap h'->DI knd s.heap s.heap.objs.size h' (L.foldl (fun xs x=>storedH xs x.1 x.2.1 x.2.2) [])->Q (.ref s.heap.objs.size) { s with heap:=h',toks:=tk }) :
  MZ (model prog w) A (call (.type "dict") [.ref l]) Q E s:=by
 refine callType_codes (Q₁:=fun obj s₁=>obj=.ref s.heap.objs.size/\s₁={ s with heap:=s.heap.push { cls:=.type "dict",data:=.dict #[] } }) F.kt_called_dict (F.kt_typeCall_dict_1 _) F.entry_dict_init (kt_code_dict_new _ ⟨rfl,rfl⟩) ?_
 rintro obj s₁ ⟨rfl,rfl⟩
 have hnew:(s.heap.push { cls:=.type "dict",data:=.dict #[] }).DictOfH knd s.heap.objs.size []:=Heap.DictOfH.new s.heap
 have hlt:=Mm ho
 have hl1:(s.heap.push { cls:=.type "dict",data:=.dict #[] }).get? l=some o:=Mq _ ho
 refine⟨hnew.typeIs,F.args_dict_init_2 _ _,?_⟩
 unfold Builtin.«dict.__init__»
 refine M7 ?_
 unfold Builtin.Dict.selfAndRest
 refine M7 (N5 hnew.typeIs ?_)
 show MZ _ _ (pure (s.heap.objs.size,[Value.ref l])) _ _ _
 refine M6 ?_
 show MZ _ _ (Builtin.Dict.updateFrom "dict.__init__" s.heap.objs.size (.ref l) [] .none) _ _ _
 unfold Builtin.Dict.updateFrom
 refine M7 (NE (T := "list") ⟨o,hl1,hc⟩ ?_)
 rw [if_pos (by decide)]
 refine M7 (Bf hl1 hc hd hdd hh fun h1 tk1 k1=>?_)
 rw [if_pos (show (none:Option MM).isNone=true from rfl)]
 refine M7 (NN ?_)
 have hd1:h1.get? s.heap.objs.size=some { cls:=.type "dict",data:=.dict #[] }:=k1 _ _ (Mr _ rfl)
 have hl2:h1.IsList l items:=⟨o,k1 _ _ hl1,hc,n,hd⟩
 have dlt:=Mm hd1
 refine M7 (M8 (s:={ s with heap:=h1,toks:=tk1 }) hl2 ?_)
 refine M6 ⟨plainId_quiet lT _,?_⟩
 have W:=Walks.list (prog:=prog) (w:=w) (A:=A.in1.in1) hh h1.objs.size l (Jm (J2 hlt dlt)) items
 rw [hl] at W
 refine xN (A:=A.in1) (knd:=knd) (h0:=s.heap) (d:=s.heap.objs.size) W (fun b hb=>?_) (Mo (Jw _)) (fun z=>?_) hn hu (fun i v hv=>?_) hK .none L.length 0 _ [] 0 0 ‹0› ?_ (fun b o q=>?_) ⟨⟨_,#[],0,Mq _ hd1,⟨rfl,rfl,rfl⟩,rfl,rfl,J3⟩,fun x hx=>by simp at hx⟩ (Jw _) fun h' tk kp di=>?_
 ·rw [K9] at hb
  subst hb
  exact Mo (Jo dlt)
 ·simp only [Kw,Kx,or_false] at z
  rcases z with z | z
  ·exact absurd z (Jm dlt)
  ·exact absurd z.symm (Jm hlt)
 ·obtain⟨x,t,e1,e2,e3⟩:=hP i v hv
  obtain⟨ob,q1,q2⟩:=e3
  exact⟨x,t,e1,e2,fun h kh=>⟨ob,kh _ _ q1,q2⟩⟩
 ·exact⟨⟨_,Mr _ rfl,rfl,rfl⟩,let ⟨ob,q1,q2⟩:=hl2; ⟨ob,Mq _ q1,q2⟩⟩
 ·exact Mq _ (k1 _ _ (Mq _ q))
 ·exact⟨rfl,hQ h' tk kp di⟩
end
def uG:D->Option (List Key×D)
 | .tup [k,v]=>(iG k).map fun q=>(q,v)
 | _=>none
def iX:List D->Option (List (List Key×D))
 | []=>some []
 | d::r=>(uG d).bind fun p=>(iX r).map (p::·)
def yW (ps:List (List Key×D)):List (List Key×D):=ps.foldl (fun al p=>eX al p.1 p.2) []
theorem Ai {d:D} {p:List Key×D} (h:uG d=some p):d=.tup [.tup (p.1.map aY),p.2]:=by
 unfold uG at h
 split at h
 ·rename_i k v
  cases e:iG k with
  | none=>rw [e] at h; cases h
  | some q=>rw [e] at h; cases h; rw [lK e]
 ·cases h
theorem qL:∀ {xs:List D} {ps:List (List Key×D)},iX xs=some ps->xs=ps.map fun p=>.tup [.tup (p.1.map aY),p.2]
 | [],_,h=>by cases h; rfl
 | d::r,ps,h=>by
  unfold iX at h
  cases e1:uG d with
  | none=>rw [e1] at h; cases h
  | some p =>
   rw [e1] at h
   cases e2:iX r with
   | none=>rw [e2] at h; cases h
   | some ps'=>rw [e2] at h; cases h; rw [Ai e1,qL e2]; rfl
section
variable {X:Cx}
theorem qw {pins:List (MP×Obj)} {σ:St} {H:Hp} {s:MX} {O:List MP} (I:L2.Inv X pins σ H s):∀ {ps:List (List Key×D)} {ws:List V} {its:List MM},aL X.K (hid H O) (ps.map fun p=>.tup [.tup (p.1.map aY),p.2]) ws->Vals ws its ->
  ∃ (L:List (List Key×MP×MM)) (ks:List (List Key×V)),its.length=L.length/\(∀ (i:Nat) (v:MM),its[i]?=some v->∃ (x:List Key×MP×MM) (t:MP),L[i]?=some x/\v=.ref t/\s.heap.IsTuple t #[.ref x.2.1,x.2.2])/\KT H ks L/\ks.map (·.1)=ps.map (·.1)/\aL X.K (hid H O) (ps.map (·.2)) (ks.map (·.2))
 | [],ws,its,h,r=>by
  rw [JY,cF] at h
  subst h
  cases r
  exact⟨[],[],rfl,(fun i v e=>by simp at e),.nil,rfl,cF.mpr rfl⟩
 | p::ps,ws,its,h,r=>by
  rw [JD,bc] at h
  obtain⟨w,ws',rfl,h1,h2⟩:=h
  cases r with
  | @cons _ u _ us ru rr =>
   obtain⟨L,ks,l1,l2,l3,l4,l5⟩:=qw I h2 rr
   obtain⟨t,vs,rfl,t1,t2⟩:=cq.mp h1
   obtain⟨v1,v2,rfl,d1,d2⟩:=t2.two
   obtain⟨a,ks1,rfl,a1,a2⟩:=cq.mp d1
   rw [iw a2] at a1
   obtain⟨its',r',⟨o,q1,q2⟩,_⟩:=I.tuple (bM (K:=X.K) (aE H O) t1)
   obtain⟨x1,x2,rfl,rx1,rx2⟩:=vals2 r'
   cases rx1
   obtain rfl:u=Value.ref t:=ru
   refine⟨(p.1,a,x2)::L,(p.1,v2)::ks,by rw [JC,JC,l1],fun i v e=>?_,.cons ⟨rfl,(aE H O) _ _ a1,rx2⟩ l3,by rw [JD,JD,l4],bc.mpr ⟨v2,_,rfl,d2,l5⟩⟩
   cases i with
   | zero =>
    have e:Value.ref t=v:=by simpa using e
    subst e
    exact⟨_,t,rfl,rfl,o,q1,q2⟩
   | succ i=>exact l2 i v (by simpa using e)
theorem uS {K:LQ} {H:Hp} {H0:Hp}:∀ {ps:List (List Key×D)} {ks:List (List Key×V)} {L:List (List Key×MP×MM)} {al:List (List Key×D)} {kvs:List (List Key×V)} {xs:List (List Key×MP×MM)},KT H ks L->ks.map (·.1)=ps.map (·.1)->aL K H0 (ps.map (·.2)) (ks.map (·.2)) ->
  KT H kvs xs->kvs.map (·.1)=al.map (·.1)->aL K H0 (al.map (·.2)) (kvs.map (·.2)) ->
  KT H (ks.foldl (fun m p=>putK m p.1 p.2) kvs) (L.foldl (fun xs x=>storedH xs x.1 x.2.1 x.2.2) xs)/\(ks.foldl (fun m p=>putK m p.1 p.2) kvs).map (·.1)=(ps.foldl (fun al p=>eX al p.1 p.2) al).map (·.1) /\
   aL K H0 ((ps.foldl (fun al p=>eX al p.1 p.2) al).map (·.2)) ((ks.foldl (fun m p=>putK m p.1 p.2) kvs).map (·.2))/\(ks.foldl (fun m p=>putK m p.1 p.2) kvs).length<=kvs.length+ks.length
 | [],[],_,al,kvs,xs,.nil,_,_,h1,h2,h3=>⟨h1,h2,h3,by simp⟩
 | p::ps,q::ks,_,al,kvs,xs,.cons (b:=x) hq hr,e,d,h1,h2,h3=>by
  rw [JD,JD] at e
  injection e with e1 e2
  rw [JD,JD,bc] at d
  obtain⟨v,vs,d0,d1,d2⟩:=d
  injection d0 with d0 d0'
  subst d0 d0'
  obtain⟨y1,y2,y3⟩:=hq
  have z1:=KT.put h1 q.1 y2 y3
  rw [y1] at z1
  have z2:=uE h2 q.1 q.2 p.2
  have z3:=wV (k:=q.1) d1 h2 h3
  have:=uS (kvs:=putK kvs q.1 q.2) (al:=eX al q.1 p.2) (xs:=storedH xs x.1 x.2.1 x.2.2) hr e2 d2 (by rw [y1]; exact z1) z2 z3
  rw [KS,KS,KS,<- e1]
  refine⟨this.1,this.2.1,this.2.2.1,Jn this.2.2.2 ?_⟩
  have:=hU kvs q.1 q.2
  rw [JC]; omega
 | [],_::_,_,_,_,_,_,e,_,_,_,_=>by cases e
 | _::_,[],_,_,_,_,_,e,_,_,_,_=>by cases e
end
def nW (al:List (List Key×D)) (q:List Key):Option D:=(al.find? fun p=>decide (p.1=q)).map (·.2)
theorem zX {K:LQ} {H:Hp} {v:V} {al:List (List Key×D)} (h:cm K H (cG al) v) :
  ∃ a,v=.ref a/\((∃ kvs:List (List Key×V),H a=some (.dT kvs)/\kvs.map (·.1)=al.map (·.1)/\aL K H (al.map (·.2)) (kvs.map (·.2)))\/(H a=some (.dK [])/\al=[])):=by
 obtain⟨a,vs,e0,h2,h3⟩:=Gk.mp h
 refine⟨a,e0,?_⟩
 rcases h3 with ⟨kvs,e,e1,e2⟩ | ⟨kvs,e,e1,e2⟩ | ⟨kvs,o,e,e1,e2⟩
 rotate_left 2
 ·cases al with
  | nil=>cases e1
  | cons _ _=>injection e1 with e1 _; cases e1
 ·cases kvs with
  | nil=>exact .inr ⟨e,by simpa using e1⟩
  | cons p r =>
   cases al with
   | nil=>cases e1
   | cons q r' =>
    have e1:D.tup (q.1.map aY)::encK r'=aY p.1::r.map (fun p=>aY p.1):=e1
    injection e1 with e1 _
    rcases p with ⟨k,v⟩
    cases k <;> cases e1
 ·refine .inl ⟨kvs,e,?_,by rw [<- e2]; exact h2⟩
  exact(jK (ks:=kvs.map (·.1)) (by rw [K7]; exact e1)).symm
theorem tK {K:LQ} {H:Hp} (q:List Key):∀ {kvs:List (List Key×V)} {al:List (List Key×D)},kvs.map (·.1)=al.map (·.1)->aL K H (al.map (·.2)) (kvs.map (·.2))->(jc kvs q=none/\nW al q=none)\/∃ v d,jc kvs q=some v/\nW al q=some d/\cm K H d v
 | [],[],_,_=>.inl ⟨rfl,rfl⟩
 | p::r,a::al,e,h=>by
  rw [JD,JD] at e
  injection e with e1 e2
  rw [JD,JD,bc] at h
  obtain⟨v,ws,h0,h1,h2⟩:=h
  injection h0 with h0 h0'
  subst h0 h0'
  by_cases z:p.1=q
  ·refine .inr ⟨p.2,a.2,jJ z,?_,h1⟩
   unfold nW
   rw [La (by rw [<- e1]; simpa using z)]; rfl
  ·have ih:=tK q e2 h2
   have g:nW (a::al) q=nW al q:=by
    unfold nW
    rw [Lb (by rw [<- e1]; simpa using z)]
   rw [ir z,g]
   exact ih
 | [],_::_,e,_=>by cases e
 | _::_,[],e,_=>by cases e
end TG
namespace TG
open PySem PySem.Spec L2
variable [aM]
end TG
namespace TG
open PySem PySem.Spec L2
variable [aM]
end TG
namespace TG
open PySem PySem.Spec L2
variable [aM]
end TG
namespace TG
open PySem PySem.Spec PySem.Calls L2
section
variable {prog:MO} {w:MN} {K:Type} [DecidableEq K] {knd:HeapKind prog w K} {A:MV} {E:MM->MX->Prop} {s:MX} {d a:MP} {k:K} {xs:List (K×MP×MM)}
theorem uO {v:MM} {Q:MM->MX->Prop} (hu:knd.room A) (hkey:knd.is s.heap k a) (hm:s.heap.DictOfH knd d xs) (hsz:xs.length<=MS)
  (h1:∀ p,atKey xs k=some p->Q p.2 { s with toks:=s.toks+knd.draws k })
  (h2:atKey xs k=none->∀ h',h'.DictOfH knd d (storedH xs k a v)->Mp d s.heap h'->Q v { s with heap:=h',toks:=s.toks+knd.draws k }) :
  MZ (model prog w) A (dictSetDefault d (.ref a) v) Q E s:=by
 obtain⟨o,es,ep,ho,hc,hd,he,his,hn⟩:=hm
 unfold dictSetDefault
 try with_reducible refine NB ?_
 refine M7 (knd.pyHash hu hkey (M7 (wpAny_dictFind_heap (s:={ s with toks:=s.toks+knd.draws k }) hu hkey ho hd he his hn (fun hno=>?_) fun j p hj=>?_)))
 ·have hnone:=atKey_none_of_get hno
  refine M7 (NN (M7 (wpAny_updateDictKeys (hz:=by have e:=size_of_entries he; omega) (s:={ s with toks:=s.toks+knd.draws k }) ho hd (M6 (h2 hnone _ ⟨_,_,ep+1,Mt _ ho (Obj.isFreed_of_dict (Obj.data_mapDictKeys hd _)),hc.mapDictKeys _,Obj.data_mapDictKeys hd _,?_,?_,?_⟩ (Heap.SameBut.update ..))))))
  ·rw [storedH_new hnone]; simp [he,entryOfKey]
  ·rw [storedH_new hnone]
   intro x hx
   rcases List.mem_append.mp hx with hx | hx
   ·exact knd.keeps (his x hx) ho hd (Heap.SameBut.update ..)
   ·rw [K9] at hx; subst hx; exact knd.keeps hkey ho hd (Heap.SameBut.update ..)
  ·rw [storedH_new hnone,Km,KO]
   refine⟨hn,by simp,fun x hx y hy=>?_⟩
   simp only [JD,JY,K9] at hy
   subst hy; exact fun e=>not_mem_keys_of_get hno (e ▸ hx)
 ·refine M7 (N6 (s:={ s with toks:=s.toks+knd.draws k }) ho hd ?_)
  rw [entry_at he j,hj]
  exact M7 (NN (M6 (h1 p (atKey_of_get hn hj))))
theorem t7 {v:MM} {Q:MM->MX->Prop} (hu:knd.room A.in1) (hkey:knd.is s.heap k a) (hm:s.heap.DictOfH knd d xs) (hsm:(d==sysModules)=false) (hsz:xs.length<=MS)
  (h1:∀ p,atKey xs k=some p->Q p.2 { s with toks:=s.toks+knd.draws k })
  (h2:atKey xs k=none->∀ h',h'.DictOfH knd d (storedH xs k a v)->Mp d s.heap h'->Q v { s with heap:=h',toks:=s.toks+knd.draws k }) :
  MZ (model prog w) A (call (.builtin "dict.setdefault") [.ref d,.ref a,v]) Q E s:=by
 refine ND PySem.F.slot_dict_setdefault hm.typeIs PySem.F.entry_dict_setdefault ?_ (PySem.F.args_dict_setdefault_3 _ _ _)
 unfold Builtin.«dict.setdefault»
 refine M7 ?_
 unfold Builtin.Dict.keyAndDefault
 refine M7 (N5 hm.typeIs ?_)
 show MZ _ _ (pure (d,Value.ref a,some v)) _ _ s
 refine M6 ?_
 show MZ _ _ (if (d==sysModules)=true then _ else (dictSetDefault d (.ref a) v >>= _)) _ _ s
 rw [if_neg (by rw [hsm]; exact JB)]
 exact M7 (uO hu hkey hm hsz (fun p hp=>M6 ⟨_,rfl,h1 p hp⟩) fun hn h' hm' hs'=>M6 ⟨_,rfl,h2 hn h' hm' hs'⟩)
end
theorem yB {o:Option V} {w:MM} (h:oJ o (some w)):∃ v,o=some v/\RelV v w:=by
 cases o with
 | none=>exact h.elim
 | some v=>exact⟨v,rfl,h⟩
theorem yc {o:Option V} (h:oJ o none):o=none:=by
 cases o with
 | none=>rfl
 | some v=>exact h.elim
section
variable {X:Cx} {pins:List (MP×Obj)} {σ:St} {H:Hp} {s:MX} {a b:MP} {v:V} {r:MM} {kvs:List (List Key×V)} {k:List Key} {A:MV} {E:MM->MX->Prop}
theorem tP {Q:MM->MX->Prop} (hu:A.units+1 < Np) (I:Inv X pins σ H s) (e:H a=some (.dT kvs)) (eb:H b=some (.tup (k.map kV))) (hl:kvs.length < MS) (rv:RelV v r)
  (h1:∀ v' w' s',jc kvs k=some v'->Inv X pins σ H s'->RelV v' w'->Q w' s') (h2:jc kvs k=none->∀ s',Inv X pins σ (upd H a (.dT (putK kvs k v))) s'->Q r s') :
  MZ (model X.prog X.w) A (call (.builtin "dict.setdefault") [.ref a,.ref b,r]) Q E s:=by
 obtain⟨z,hd,xs,rel,dd⟩:=Cb I.hok e
 have hz:xs.length<=MS:=by rw [<- Paired.length rel]; exact z
 have hl2:(putK kvs k v).length<=MS:=by have:=hU kvs k v; omega
 have q:=rel.val k
 refine t7 (NM hu) (o4 I.hok eb) dd hd hz (fun p hp=>?_) fun hn h' dd' hs=>?_
 ·rw [hp] at q
  obtain⟨v',ev,rv'⟩:=yB q
  exact h1 v' _ _ ev (I.tok _) rv'
 ·rw [hn] at q
  refine h2 (yc q) _ ?_
  obtain⟨q,es,ep,hq,g2,g3,g4,_,g5⟩:=dd'
  refine kE I (by rw [e]; exact True.intro) hs ⟨q,hq⟩ ⟨hl2,hd,_,(rel.put k eb rv).keeps fun c ys ec=>?_,q,es,ep,hq,g2,g3,g4,g5⟩
  rw [aF (zm ec e (fun z=>nomatch z))]; exact ec
end
variable [aM]
def Es:V->List V->Hp->VK->Prop:=fun x vs H Q=>∃ a b k kvs v,x=.ref a/\vs=[.ref b,v]/\H b=some (.tup (k.map kV))/\(H a=some (.dT kvs)\/(H a=some (.dK [])/\kvs=[]))/\kvs.length < MS/\(∀ v',jc kvs k=some v'->Q v' H)/\(jc kvs k=none->Q v (upd H a (.dT (putK kvs k v))))
theorem Bn {X:Cx} (hu:X.A.units+64 < Np):Fz X "dict.setdefault" Es:=by
 intro pins s σ H x vs v us Q I rx rv h
 obtain⟨a,b,k,kvs,v',rfl,rfl,hb,ha,hl,h1,h2⟩:=h
 cases rx
 obtain⟨u1,u,rfl,r1,ru⟩:=rv.two
 obtain rfl:u1=Value.ref b:=r1
 rcases ha with ha | ⟨ha,rfl⟩
 ·exact tP ‹0› I ha hb hl ru (fun v1 w1 s1 e I1 r=>⟨v1,H,I1,r,h1 v1 e⟩) fun e s1 I1=>⟨v',_,I1,ru,h2 e⟩
 ·have ne:b≠a:=fun z=>by rw [z,ha] at hb; cases hb
  refine tP ‹0› (Bl I ha) aN (by rw [aF ne]; exact hb) hl ru (fun v1 w1 s1 e=>by cases e) fun e s1 I1=>⟨v',_,?_,ru,h2 e⟩
  rw [oW] at I1; exact I1
end TG
namespace TG
open PySem PySem.Spec L2
variable [aM]
theorem dh.setN {K:LQ} {Hb:Hp} {Ob O O':List MP} {H H':Hp} {ρ:aq} {σ:St} (S:dh K Hb Ob O H ρ σ) {i:Nat} {d d':D} (hi:ρ[i]?=some (some (.nest d))) (sub:∀ b∈O,b∈O') (s:aX (hid H O) (hid H' O')) (hb:Base Hb Ob H' O') (all:dg H' O')
  (keep:∀ (j:Nat) xs b,ρ[j]?=some (some (.own xs))->σ[j]?=some (some (.ref b))->H b=H' b) (new:xk K Hb Ob O' H' (ρ.set i (some (.nest d'))) σ i d'):dh K Hb Ob O' H' (ρ.set i (some (.nest d'))) σ:=by
 have own:∀ (j:Nat) xs,(ρ.set i (some (.nest d')))[j]?=some (some (.own xs))->ρ[j]?=some (some (.own xs)):=fun j xs e=>by
  rcases aP e with ⟨_,q⟩ | ⟨_,q⟩
  ·cases q
  ·exact q
 refine⟨⟨fun j d1 e=>?_,fun j xs e=>?_,fun j l xs ys a e1 e2 e3 e4=>S.env.one j l xs ys a (own j xs e1) (own l ys e2) e3 e4,all⟩,hb,fun j xs a e1 e2=>S.mine j xs a (own j xs e1) e2,fun j dn e=>?_⟩
 ·rcases aP e with ⟨_,q⟩ | ⟨_,q⟩
  ·cases q
  ·obtain⟨v,q1,q2⟩:=S.env.val j d1 q
   exact⟨v,q1,q2.mono s⟩
 ·obtain⟨a,q1,q2,q3⟩:=S.env.own j xs (own j xs e)
  exact⟨a,q1,sub a q2,q3.mono (keep j xs a (own j xs e) q1) s⟩
 ·rcases aP e with ⟨hj,q⟩ | ⟨ne,q⟩
  ·cases q; rw [hj]; exact new
  ·obtain⟨_,_,_,_,_,_,one⟩:=S.nst i d hi
   exact absurd (one j dn q) ne
def Et:aq->Bool
 | []=>true
 | some (.nest _)::_=>false
 | _::ρ=>Et ρ
theorem lM:∀ {ρ:aq},Et ρ=true->∀ (j:Nat) d,ρ[j]?≠some (some (.nest d))
 | [],_,j,d,e=>by simp at e
 | none::ρ,h,j,d,e=>by
  cases j with
  | zero=>simp at e
  | succ j=>exact lM (ρ:=ρ) h j d (by simpa using e)
 | some (.val _)::ρ,h,j,d,e=>by
  cases j with
  | zero=>simp at e
  | succ j=>exact lM (ρ:=ρ) h j d (by simpa using e)
 | some (.own _)::ρ,h,j,d,e=>by
  cases j with
  | zero=>simp at e
  | succ j=>exact lM (ρ:=ρ) h j d (by simpa using e)
 | some (.nest _)::ρ,h,j,d,e=>by cases h
theorem dh.setNewN {K:LQ} {Hb:Hp} {Ob O:List MP} {H H':Hp} {ρ:aq} {σ:St} (E:dh K Hb Ob O H ρ σ) {i:Nat} {p:MP} (hi:i < σ.length) (sm:aX H H') (hp:H p=none) (m:∃ o,H' p=some o/\oN o) (hn:Et ρ=true) (new:cC K H' (p::O) p (.dct [] [])) :
  dh K Hb Ob (p::O) H' (ρ.set i (some (.nest (.dct [] [])))) (σ.set i (some (.ref p))):=by
 have T:=E.setNew hi sm hp m new
 have key:∀ (j:Nat) (x:S),(ρ.set i (some (.nest (.dct [] []))))[j]?=some (some x)->(j=i/\x=.nest (.dct [] []))\/(j≠i/\(ρ.set i (some (.own (.dct [] []))))[j]?=some (some x)):=fun j x e=>by
  rcases aP e with ⟨hj,q⟩ | ⟨ne,q⟩
  ·cases q; exact .inl ⟨hj,rfl⟩
  ·exact .inr ⟨ne,by rw [Ju (Ne.symm ne)]; exact q⟩
 refine⟨⟨fun j d e=>?_,fun j xs e=>?_,fun j l xs ys a e1 e2 e3 e4=>?_,T.env.all⟩,T.base,fun j xs a e1 e2=>?_,fun j dn e=>?_⟩
 ·rcases key j _ e with ⟨_,q⟩ | ⟨_,q⟩
  ·cases q
  ·exact T.env.val j d q
 ·rcases key j _ e with ⟨_,q⟩ | ⟨_,q⟩
  ·cases q
  ·exact T.env.own j xs q
 ·rcases key j _ e1 with ⟨_,q⟩ | ⟨_,q1⟩
  ·cases q
  ·rcases key l _ e2 with ⟨_,q⟩ | ⟨_,q2⟩
   ·cases q
   ·exact T.env.one j l xs ys a q1 q2 e3 e4
 ·rcases key j _ e1 with ⟨_,q⟩ | ⟨_,q⟩
  ·cases q
  ·exact T.mine j xs a q e2
 ·rcases key j _ e with ⟨hj,q⟩ | ⟨ne,q⟩
  ·cases q
   subst hj
   refine⟨p,[],Jt hi,⟨[],trivial,?_⟩,by simp,fun b hb=>?_,fun l d' w=>?_⟩
   ·obtain⟨o,vs,h1,h2,h3⟩:=new
    rcases h3 with ⟨kvs,e1,e2,_⟩ | ⟨kvs,e1,e2,_⟩
    ·have:kvs=[]:=by cases kvs with | nil=>rfl | cons _ _=>cases e2
     subst this e1
     exact .inr (.inr ⟨rfl,rfl,h1⟩)
    ·have:kvs=[]:=by cases kvs with | nil=>rfl | cons _ _=>cases e2
     subst this e1
     exact .inr (.inl ⟨[],rfl,h1,rfl⟩)
   ·rw [List.mem_singleton.mp hb]
    refine⟨Jq,E.base.same.free hp,fun z=>E.env.all.not hp (E.base.sub p z),fun l d' w z=>?_⟩
    rcases key l _ w with ⟨_,q⟩ | ⟨nl,q⟩
    ·cases q
    ·exact nl (T.env.one l j d' (.dct [] []) p q (Jt (by
      have:=(List.getElem?_eq_some_iff.mp e).1
      rw [List.length_set] at this; exact this)) z (Jt hi))
   ·rcases key l _ w with ⟨hl,_⟩ | ⟨nl,q⟩
    ·exact hl
    ·rw [Ju (Ne.symm nl)] at q
     exact absurd q (lM hn l d')
  ·rw [Ju (Ne.symm ne)] at q
   exact absurd q (lM hn j dn)
def sW (i:Nat):cf:=fun k ρ=>if Et ρ then k.nx (ρ.set i (some (.nest (.dct [] [])))) else un
section
variable {X:Cx} {pos:Pos}
theorem Gf {i:Nat} {x:Str} {dp pos':Pos} (hN:X.N.Nodup) (hi:X.N[i]?=some x) (hx:Loc X.env.scope x) (hs:swapsWith (.Dict [] [] dp) (some (.Name x pos')) pos.line X.env=pure false:=by rfl) (hf:X.fn x=true\/X.env.scope.names.lookup x=some .local:=by first | exact .inl rfl | exact .inr rfl | assumption) :
  FS X (.Assign [.Name x pos'] (.Dict [] [] dp) pos) (sW i):=fun Hb Ob pins s σ H E I ⟨O,ρ,k,r,S,hF,hk⟩=>by
 unfold sW at hF
 cases hn:Et ρ with
 | false=>rw [hn] at hF; exact absurd hF.symm hk.ne
 | true =>
  rw [hn] at hF
  exact v9 hN hi hx zW hs hf pins s σ H E I ⟨O,ρ,S.env,fun p H1 s1 hp m o=>hk.nx _ _ _ H1 (S.setNewN (by rw [I.len]; exact(List.getElem?_eq_some_iff.mp hi).1) s1 hp m hn o) hF⟩
end
theorem jN.den {K:LQ} {H:Hp} {O O':List MP} (s:aX (hid H O) (hid H O')):∀ {bs:List MP} {xs:List D},jN K H O bs xs->(∀ b∈bs,b∉O')->aL K (hid H O') xs (bs.map .ref)
 | [],[],_,_=>cF.mpr rfl
 | b::bs,x::xs,h,n=>bc.mpr ⟨_,_,rfl,h.1.den s (n b Jq),jN.den s h.2 fun b' hb=>n b' (Jr _ hb)⟩
 | [],_::_,h,_=>h.elim
 | _::_,[],h,_=>h.elim
end TG
namespace TG
open PySem PySem.Spec L2
variable [aM]
def p8:List (List Key×D)->List Key->D->Option (List (List Key×D))
 | [],q,v=>some [(q,.lst [v])]
 | p::r,q,v=>if p.1=q then (match p.2 with
   | .lst ys=>if small (ys.length+1) then some ((p.1,.lst (ys++[v]))::r) else none
   | _=>none) else (p8 r q v).map (p::·)
def uX (ks xs:List D) (k v:D):Option (List (List Key×D)):=(js ks xs).bind fun al=>(iG k).bind fun q=>if small al.length then p8 al q v else none
theorem yx {ks ds:List D} {k v:D} {al':List (List Key×D)} (h:uX ks ds k v=some al'):∃ al q,ks=encK al/\ds=al.map (·.2)/\k=.tup (q.map aY)/\small al.length=true/\p8 al q v=some al':=by
 unfold uX at h
 cases e1:js ks ds with
 | none=>rw [e1] at h; cases h
 | some al =>
  rw [e1] at h
  cases e2:iG k with
  | none=>rw [e2] at h; cases h
  | some q =>
   rw [e2] at h
   obtain⟨h3,h4⟩:=qT (show (if small al.length then p8 al q v else none)=some al' from h)
   exact⟨al,q,(gU e1).1,(gU e1).2,lK e2,h3,h4⟩
theorem jN.imp {K:LQ} {H H':Hp} {O O':List MP}:∀ {bs:List MP} {xs:List D},jN K H O bs xs->(∀ c∈bs,∀ x,cC K H O c x->cC K H' O' c x)->jN K H' O' bs xs
 | [],[],_,_=>trivial
 | b::bs,x::xs,h,f=>⟨f b Jq x h.1,jN.imp h.2 fun c hc=>f c (Jr _ hc)⟩
 | [],_::_,h,_=>h.elim
 | _::_,[],h,_=>h.elim
theorem jN.snoc {K:LQ} {H:Hp} {O:List MP} {b:MP} {x:D} (hx:cC K H O b x):∀ {bs:List MP} {xs:List D},jN K H O bs xs->jN K H O (bs++[b]) (xs++[x])
 | [],[],_=>⟨hx,trivial⟩
 | b'::bs,x'::xs,h=>⟨h.1,jN.snoc hx h.2⟩
 | [],_::_,h=>h.elim
 | _::_,[],h=>h.elim
theorem sy {K:LQ} {H:Hp} {O:List MP} {q:List Key} {v:D}:∀ {al al':List (List Key×D)} {kvs:List (List Key×V)} {bs:List MP},kvs.map (·.1)=al.map (·.1)->kvs.map (·.2)=bs.map .ref->jN K H O bs (al.map (·.2))->bs.Nodup->p8 al q v=some al' ->
  (∃ b ys,jc kvs q=some (.ref b)/\b∈bs/\cC K H O b (.lst ys)/\small (ys.length+1)=true/\al'.map (·.1)=al.map (·.1)/\∀ H' O',(∀ c∈bs,c≠b->∀ x,cC K H O c x->cC K H' O' c x)->cC K H' O' b (.lst (ys++[v]))->jN K H' O' bs (al'.map (·.2))) \/
  (jc kvs q=none/\al'=al++[(q,.lst [v])])
 | [],al',kvs,bs,e1,e2,h,nd,g=>by
  cases kvs with
  | cons _ _=>cases e1
  | nil=>cases g; exact .inr ⟨rfl,rfl⟩
 | p::al,al',kvs,bs,e1,e2,h,nd,g=>by
  cases kvs with
  | nil=>cases e1
  | cons p' kvs =>
   cases bs with
   | nil=>cases e2
   | cons b bs =>
    rw [JD,JD] at e1 e2
    injection e1 with f1 f2
    injection e2 with f3 f4
    obtain⟨n1,n2⟩:=List.nodup_cons.mp nd
    have h:cC K H O b p.2/\jN K H O bs (al.map (·.2)):=h
    unfold p8 at g
    by_cases eq:p.1=q
    ·rw [if_pos eq] at g
     left
     split at g
     ·rename_i ys hp
      obtain⟨g1,g2⟩:=bv g
      subst g2
      rw [hp] at h
      refine⟨b,ys,by rw [jJ (f1.trans eq),f3],Jq,h.1,g1,rfl,fun H' O' oth new=>⟨new,h.2.imp fun c hc=>oth c (Jr _ hc) fun z=>n1 (by rw [<- z]; exact hc)⟩⟩
     ·cases g
    ·rw [if_neg eq] at g
     cases g2:p8 al q v with
     | none=>rw [g2] at g; cases g
     | some al2 =>
      rw [g2] at g
      cases g
      rcases sy f2 f4 h.2 n2 g2 with ⟨c,ys,w1,w2,w3,w4,w5,w6⟩ | ⟨w1,w2⟩
      ·refine .inl ⟨c,ys,by rw [ir (by rw [f1]; exact eq)]; exact w1,Jr _ w2,w3,w4,by rw [JD,JD,w5],fun H' O' oth new=>⟨oth b Jq (fun z=>n1 (by rw [z]; exact w2)) _ h.1,w6 H' O' (fun c' hc=>oth c' (Jr _ hc)) new⟩⟩
      ·exact .inr ⟨by rw [ir (by rw [f1]; exact eq)]; exact w1,by rw [w2]; rfl⟩
theorem qm {kvs:List (List Key×V)} {q:List Key} {v:V} (h:jc kvs q=none):putK kvs q v=kvs++[(q,v)]:=by
 unfold putK
 rw [oO,h]; rfl
def yy (i:Nat) (fk fv:FX):cf:=fun k ρ=>match ρ[i]? with
 | some (some (.nest (.dct ks xs)))=>((yF (fk ρ)).bind fun q=>(yF (fv ρ)).bind fun v=>rO (uX ks xs q v)).bind fun al=>k.nx (ρ.set i (some (.nest (cG al))))
 | _=>un
theorem yt {i:Nat} {fk fv:FX} {k:Ks} {ρ:aq} {r:R D} (h:yy i fk fv k ρ=r) (hr:r≠un):∃ al q v al',ρ[i]?=some (some (.nest (cG al)))/\fk ρ=.ok (.tup (q.map aY))/\fv ρ=.ok v/\small al.length=true/\p8 al q v=some al'/\k.nx (ρ.set i (some (.nest (cG al'))))=r:=by
 unfold yy at h
 split at h
 ·rename_i ks xs hi
  cases e1:fk ρ with
  | error z=>rw [e1] at h; exact absurd h.symm hr
  | ok qd =>
   rw [e1] at h
   cases e2:fv ρ with
   | error z=>rw [e2] at h; exact absurd h.symm hr
   | ok v =>
    rw [e2] at h
    have h':(rO (uX ks xs qd v)).bind (fun al=>k.nx (ρ.set i (some (.nest (cG al)))))=r:=h
    clear h
    cases e3:uX ks xs qd v with
    | none=>rw [e3] at h'; exact absurd h'.symm hr
    | some al' =>
     rw [e3] at h'
     obtain⟨al,q,f1,f2,f3,f4,f5⟩:=yx e3
     subst f1 f2 f3
     exact⟨al,q,v,al',hi,rfl,rfl,f4,f5,h'⟩
 ·exact absurd h.symm hr
theorem oQ {K:LQ} {H:Hp} {O:List MP} {a:MP} {bs:List MP} {al:List (List Key×D)} (h:uI K H O a bs (cG al)):∃ kvs:List (List Key×V),(H a=some (.dT kvs)\/(H a=some (.dK [])/\kvs=[]))/\kvs.map (·.1)=al.map (·.1)/\kvs.map (·.2)=bs.map .ref/\jN K H O bs (al.map (·.2)):=by
 obtain⟨xs,h1,h2⟩:=h
 rcases h2 with ⟨e,_⟩ | ⟨kvs,e,q,e2⟩ | ⟨e,e2,q⟩
 ·cases e
 ·injection e with f1 f2
  subst f2
  refine⟨kvs,.inl q,?_,e2,h1⟩
  exact(jK (ks:=kvs.map (·.1)) (by rw [K7]; exact f1)).symm
 ·injection e with f1 f2
  subst f2 e2
  have:al=[]:=by
   cases al with
   | nil=>rfl
   | cons _ _=>cases f1
  subst this
  exact⟨[],.inr ⟨q,rfl⟩,rfl,rfl,h1⟩
section
variable {X:Cx}
theorem GK {i:Nat} {x:Str} {ke ve:M0} {fk fv:FX} {npos ap1 cp1 lp ap2 cp2 pos:Pos} (hu:X.A.units+64 < Np) (hx:PE X (.Name x npos) (nq i)) (hke:FE X ke fk) (hve:FE X ve fv) (hn1:noStar ke=true:=by rfl) (hn2:noStar ve=true:=by rfl)
  (hb1:Nk (.Name x npos) "setdefault" X.env (eval (.Name x npos) X.env)=eval (.Name x npos) X.env:=by rfl)
  (hf1:((backTo cp1 (M1 [ke,.List [] lp] X.env)).all (fun x=>!x.1) && (backToKw cp1 (Nn [] X.env)).all (fun x=>x.1.isSome) && decide (([ke,.List [] lp]:List M0).length+([]:List NI).length+(if ([]:List NI).isEmpty then 0 else 1) < 30))=true:=by rfl)
  (hl1:(ap1.endLine==cp1.line)=true:=by rfl) (hp1:(backTo cp1 (M1 [.List [] lp] X.env)).any (·.1)=false:=by rfl)
  (hb2:Nk (.Call (.Attribute (.Name x npos) "setdefault" ap1) [ke,.List [] lp] [] cp1) "append" X.env (eval (.Call (.Attribute (.Name x npos) "setdefault" ap1) [ke,.List [] lp] [] cp1) X.env)=eval (.Call (.Attribute (.Name x npos) "setdefault" ap1) [ke,.List [] lp] [] cp1) X.env:=by rfl)
  (hf2:((backTo cp2 (M1 [ve] X.env)).all (fun x=>!x.1) && (backToKw cp2 (Nn [] X.env)).all (fun x=>x.1.isSome) && decide (([ve]:List M0).length+([]:List NI).length+(if ([]:List NI).isEmpty then 0 else 1) < 30))=true:=by rfl)
  (hl2:(ap2.endLine==cp2.line)=true:=by rfl) (hp2:(backTo cp2 (M1 [] X.env)).any (·.1)=false:=by rfl)
  (hsw:swapsWith (.Call (.Attribute (.Call (.Attribute (.Name x npos) "setdefault" ap1) [ke,.List [] lp] [] cp1) "append" ap2) [ve] [] cp2) none pos.line X.env=pure false:=by rfl) :
  FS X (.Expr (.Call (.Attribute (.Call (.Attribute (.Name x npos) "setdefault" ap1) [ke,.List [] lp] [] cp1) "append" ap2) [ve] [] cp2) pos) (yy i fk fv):=fun Hb Ob pins s σ H E I ⟨O,ρ,k,rr,S,hF,hk⟩=>by
 obtain⟨al,q,v,al',hi,hfk,hfv,hsm,hg,hnx⟩:=yt hF hk.ne
 obtain⟨a,bs,ha,hat,nd,hbs,one⟩:=S.nst i _ hi
 obtain⟨kvs,hH,ek,ev,hO⟩:=oQ hat
 obtain⟨na,nb⟩:=List.nodup_cons.mp nd
 obtain⟨aO,aHb,aOb,aS⟩:=hbs a Jq
 have hlen:kvs.length < MS:=by
  have:kvs.length=al.length:=by have:=congrArg List.length ek; simpa using this
  rw [this]; exact Kt (of_decide_eq_true hsm) (by decide)
 refine sk (wt F.plainAttrs_list F.slot_list_append F.type_list_append dE (wt F.plainAttrs_dict F.slot_dict_setdefault F.type_dict_setdefault (Bn hu) hx (kc hke (kc (u9 o6) o6) (cP hn1)) hb1 hf1 hl1 (cP hn1) hp1) (A1 hve Cy hn2) hb2 hf2 hl2 (cP hn2) hp2) hsw pins s σ H E I ?_
 refine⟨.ref a,ha,.inr (.inr (.inl ⟨rfl,?_⟩)),O,ρ,S.env,?_⟩
 ·rcases hH with h | ⟨h,_⟩
  ·exact .inr ⟨_,h⟩
  ·exact .inl ⟨_,h⟩
 rw [hfk]
 intro y H1 s1 d1
 refine⟨JG _,fun p hp=>?_⟩
 obtain⟨b,ws,eb,g1,g2⟩:=cq.mp d1
 rw [iw g2] at g1
 have hb1':H1 b=some (.tup (q.map kV)):=(aE H1 O) _ _ g1
 have bp:b≠p:=aT hb1' hp
 have ap:a≠p:=by
  rcases hH with h | ⟨h,_⟩
  ·exact aT (s1 _ _ h) hp
  ·exact aT (s1 _ _ h) hp
 have pHb:Hb p=none:=(S.base.same.trans s1).free hp
 have pO:p∉O:=(S.env.all.same s1).not hp
 have pOb:p∉Ob:=fun z=>pO (S.base.sub p z)
 have bsp:∀ c∈bs,c≠p:=fun c hc=>by
  obtain⟨o,ho⟩:=hO.some c hc
  exact aT (s1 _ _ ho) hp
 have E2:cQ X.K (p::O) (upd H1 p (.lst [])) ρ σ:=(S.env.same s1).hideNew trivial hp
 have sm2:aX (hid H O) (hid (upd H1 p (.lst [])) (p::O)):=(bx s1).trans (o3 hp)
 have sH2:aX H (upd H1 p (.lst [])):=s1.trans (bC hp _)
 have pS:∀ (j:Nat) d',ρ[j]?=some (some (.own d'))->σ[j]?≠some (some (.ref p)):=fun j d' w z=>by
  obtain⟨c,e1,e2,_⟩:=S.env.own j d' w
  rw [z] at e1; cases e1
  exact pO e2
 have fin:∀ (H3:Hp) (l:MP) (wl:List V) (ys:List D) (bs':List MP) (kvs':List (List Key×V)),cQ X.K (p::O) H3 ρ σ->aX (hid (upd H1 p (.lst [])) (p::O)) (hid H3 (p::O))->(∀ c o,c≠a->(upd H1 p (.lst [])) c=some o->H3 c=some o)->l∈bs'->l≠a->H3 l=some (.lst wl)->aL X.K (hid H3 (p::O)) ys wl->ys.length+1<=100000 ->
   (H3 a=some (.dT kvs'))->kvs'.map (·.1)=al'.map (·.1)->kvs'.map (·.2)=bs'.map .ref->(a::bs').Nodup->(∀ c∈bs',c∈bs\/c=p) ->
   (∀ H' O',(∀ c∈bs',c≠l->∀ x,cC X.K H3 (p::O) c x->cC X.K H' O' c x)->cC X.K H' O' l (.lst (ys++[v]))->jN X.K H' O' bs' (al'.map (·.2))) ->
   Hx X.K "list" (.ref l) H3/\FV X (af fv aw) σ H3 fun vs H4=>rK (.ref l) vs H4 fun _ H5=>E.nx σ H5:=by
  intro H3 l wl ys bs' kvs' E3 sm3 keep3 lb la hl3 dl ln ha3 k1 k2 nd' mem new
  refine⟨.inl ⟨rfl,wl,lU.of hl3⟩,p::O,ρ,E3,?_⟩
  have e1:(af fv aw) ρ=.ok [v]:=by
   show (fv ρ).bind _=_
   rw [hfv]; rfl
  rw [e1]
  intro vs H4 s4 dv
  obtain⟨y',rfl,dy⟩:=dv.one
  have lO:l∈p::O:=by
   rcases mem l lb with z | z
   ·exact Jr _ (hbs l (Jr _ z)).1
   ·rw [z]; exact Jq
  have lHb:Hb l=none:=by
   rcases mem l lb with z | z
   ·exact(hbs l (Jr _ z)).2.1
   ·rw [z]; exact pHb
  have lS:∀ (j:Nat) d',ρ[j]?=some (some (.own d'))->σ[j]?≠some (some (.ref l)):=by
   rcases mem l lb with z | z
   ·exact(hbs l (Jr _ z)).2.2.2
   ·rw [z]; exact pS
  have hl4:=s4 _ _ hl3
  have sm5:aX (hid H3 (p::O)) (hid (upd H4 l (.lst (wl++[y']))) (p::O)):=(bx s4).trans (fG lO)
  have wlen:=dl.length
  refine⟨l,wl,y',rfl,rfl,hl4,by rw [<- wlen]; exact Jk (Nat.lt_of_succ_le ln) (by decide),hk.nx (p::O) _ σ _ (S.setN hi (fun c hc=>Jr _ hc) ((sm2.trans sm3).trans sm5) ⟨fun c u h=>?_,fun c hc=>Jr _ (S.base.sub c hc),fun c hc=>?_⟩ ((E3.all.same s4).upd lO trivial) (fun j xs c w1 w2=>?_) ?_) hnx⟩
  ·have ca:c≠a:=fun z=>by rw [z,aHb] at h; cases h
   have cl:c≠l:=fun z=>by rw [z,lHb] at h; cases h
   rw [aF cl]
   exact s4 _ _ (keep3 c u ca (sH2 _ _ (S.base.same c u h)))
  ·rcases List.mem_cons.mp hc with z | z
   ·rw [z]; exact .inr pHb
   ·exact S.base.new c z
  ·obtain⟨c',q1,q2,q3⟩:=S.env.own j xs w1
   rw [w2] at q1; cases q1
   obtain⟨o,ho⟩:=q3.some
   have ca:c≠a:=fun z=>aS j xs w1 (by rw [<- z]; exact w2)
   have cl:c≠l:=fun z=>lS j xs w1 (by rw [<- z]; exact w2)
   rw [ho,aF cl]
   exact(s4 _ _ (keep3 c o ca (sH2 _ _ ho))).symm
  ·refine⟨a,bs',ha,⟨al'.map (·.2),new _ _ (fun c hc ne x hx=>hx.mono ?_ sm5) ⟨_,_,aN,rfl,?_⟩,.inr (.inl ⟨kvs',?_,?_,k2⟩)⟩,nd',fun c hc=>?_,fun j d' w=>?_⟩
   ·obtain⟨o,ho⟩:=hx.some
    rw [aF ne,ho,s4 _ _ ho]
   ·exact(dl.mono sm5).append (bc.mpr ⟨y',[],rfl,dy.mono (fG lO),cF.mpr rfl⟩)
   ·show D.dct (encK al') _=_
    rw [sK k1]
   ·rw [aF (Ne.symm la)]; exact s4 _ _ ha3
   ·have own:∀ (j:Nat) d',(ρ.set i (some (.nest (cG al'))))[j]?=some (some (.own d'))->ρ[j]?=some (some (.own d')):=fun j d' w=>by
     rcases aP w with ⟨_,z⟩ | ⟨_,z⟩
     ·cases z
     ·exact z
    rcases List.mem_cons.mp hc with z | z
    ·rw [z]; exact⟨Jr _ aO,aHb,aOb,fun j d' w=>aS j d' (own j d' w)⟩
    ·rcases mem c z with z' | z'
     ·obtain⟨w1,w2,w3,w4⟩:=hbs c (Jr _ z')
      exact⟨Jr _ w1,w2,w3,fun j d' w=>w4 j d' (own j d' w)⟩
     ·rw [z']; exact⟨Jq,pHb,pOb,fun j d' w=>pS j d' (own j d' w)⟩
   ·rcases aP w with ⟨hj,_⟩ | ⟨_,z⟩
    ·exact hj
    ·exact one j d' z
 have hH2:upd H1 p (.lst []) a=some (.dT kvs)\/(upd H1 p (.lst []) a=some (.dK [])/\kvs=[]):=by
  rw [aF ap]
  rcases hH with h | ⟨h,z⟩
  ·exact .inl (s1 _ _ h)
  ·exact .inr ⟨s1 _ _ h,z⟩
 have hO2:jN X.K (upd H1 p (.lst [])) (p::O) bs (al.map (·.2)):=hO.mono sm2 fun c hc ⟨o,ho⟩=>by rw [aF (bsp c hc),ho,s1 _ _ ho]
 refine⟨a,b,q,kvs,.ref p,rfl,by rw [eb],by rw [aF bp]; exact hb1',hH2,hlen,fun v' hv=>?_,fun hv=>?_⟩
 ·rcases sy ek ev hO2 nb hg with ⟨c,ys,w1,w2,w3,w4,w5,w6⟩ | ⟨w1,_⟩
  ·rw [w1] at hv; cases hv
   obtain⟨o,wl,h1,h2,h3⟩:=w3
   subst h2
   rcases hH2 with hH2 | ⟨_,z⟩
   ·exact fin _ c wl ys bs kvs E2 (fun _ _ z=>z) (fun _ _ _ z=>z) w2 (fun z=>na (by rw [<- z]; exact w2)) h1 h3 (of_decide_eq_true w4) hH2 (ek.trans w5.symm) ev nd (fun _ z=>.inl z) w6
   ·subst z; cases w1
  ·rw [w1] at hv; cases hv
 ·rcases sy ek ev hO2 nb hg with ⟨c,ys,w1,_⟩ | ⟨_,w2⟩
  ·rw [w1] at hv; cases hv
  ·subst w2
   have aO2:a∈p::O:=Jr _ aO
   refine fin (upd (upd H1 p (.lst [])) a (.dT (putK kvs q (.ref p)))) p [] [] (bs++[p]) (putK kvs q (.ref p)) (E2.rewrite (show oN (.dT (putK kvs q (.ref p))) from trivial) aO2 aS) (fG aO2) (fun c o ne z=>by rw [aF ne]; exact z) (by simp) (Ne.symm ap) (by rw [aF (Ne.symm ap)]; exact aN) (cF.mpr rfl) (by decide) aN ?_ ?_ ?_ (fun c hc=>?_) fun H' O' oth new=>?_
   ·rw [qm hv,Km,Km,ek]; rfl
   ·rw [qm hv,Km,Km,ev]; rfl
   ·refine List.nodup_cons.mpr ⟨fun z=>?_,List.nodup_append.mpr ⟨nb,by simp,fun c hc c' hc' e=>?_⟩⟩
    ·rcases List.mem_append.mp z with z | z
     ·exact na z
     ·exact ap (List.mem_singleton.mp z)
    ·rw [List.mem_singleton.mp hc'] at e
     exact bsp c hc e
   ·rcases List.mem_append.mp hc with z | z
    ·exact .inl z
    ·exact .inr (List.mem_singleton.mp z)
   ·rw [Km]
    refine jN.snoc new (hO2.imp fun c hc x hx=>oth c (Js _ hc) (bsp c hc) x (hx.mono ?_ (fG aO2)))
    exact(aF fun z=>na (by rw [<- z]; exact hc)).symm
end
end TG
namespace TG
open PySem PySem.Spec L2
section
variable {prog:MO} {w:MN} {A:MV} {E:MM->MX->Prop} {s:MX} {it d v:MP} {i ep:Nat} {o:Obj} {es:Array NK} {ok ov:MM}
theorem vf {Q:MM->MX->Prop} (ho:s.heap.get? d=some o) (hx:o.ExactDict) (hd:(d==sysModules)=false) (h:Q (.ref s.heap.objs.size) { s with heap:=s.heap.push { cls:=.type "dict_items",data:=.fields #[.ref d] } }) :
  MZ (model prog w) A (call (.builtin "dict.items") [.ref d]) Q E s:=by
 refine ND PySem.F.slot_dict_items ⟨o,ho,hx.1⟩ PySem.F.entry_dict_items ?_ (PySem.F.args_dict_items_1 _)
 unfold Builtin.«dict.items»; refine M7 ?_; unfold Builtin.Dict.noArgs; refine M7 (N5 ⟨o,ho,hx.1⟩ ?_)
 show MZ _ _ (pure d) _ _ s; refine M6 ?_; show MZ _ _ (Builtin.Dict.showsAll d >>= _) _ _ s; unfold Builtin.Dict.showsAll; rw [if_neg (by rw [hd]; exact JB)]
 exact M7 (M6 (M7 (NF (M6 ⟨_,rfl,h⟩))))
theorem vK {Q:MM->MX->Prop} (hv:s.heap.IsItemsView v d) (ho:s.heap.get? d=some o) (hdat:o.data=.dict es ep)
  (hQ:Q (.ref s.heap.objs.size) { s with heap:=s.heap.push { cls:=.type "dict_itemiterator",data:=.fields #[.none,.bool false,.ref d,.int 0 0,.int es.size 0,.int ep 0,.none,.none] } }):MZ (model prog w) A (pyIter (.ref v)) Q E s:=by
 obtain⟨w1,hov,hcv,hdv⟩:=id hv
 refine wpAny_pyIter_slot hv.typeIs F.slot_dict_items_iter (ND F.slot_dict_items_iter hv.typeIs F.entry_dict_items_iter ?_ (F.args_dict_items_iter_1 _))
 unfold Builtin.«dict_items.__iter__»; refine M7 (M6 (M7 ?_)); unfold Builtin.Dict_items.dictOf
 refine M7 (NA hov hdv (x:=.ref d) rfl (M6 (M7 ?_))); unfold Builtin.Dict_items.newIterator
 refine M7 (N6 ho hdat (M7 (N7 ho hdat ?_)))
 simp only [show Builtin.Dict_items.ownsTuple "dict_itemiterator"=true by decide,if_true]
 refine NF (M6 ⟨_,rfl,"dict_itemiterator",_,⟨_,Mr _ rfl,rfl⟩,F.slot_dict_itemiterator_next.lookup,?_⟩) (by simp only [sizeOk,Builtin.Dict_items.ownedTupleFields,JA,JR,JC,J1,Ni]; omega)
 simpa [rawInt,Builtin.Dict_items.ownedTupleFields] using hQ
theorem vI {Q:Option MM->MX->Prop} (hit:N8 s.heap it d i es.size ep ok ov) (hod:s.heap.get? d=some o) (hdd:o.data=.dict es ep) (hlt:i < es.size)
  (hQ:∀ h',N9 h' it d (i+1) es.size ep es[i].key es[i].val s.heap.objs.size->h'.get? s.heap.objs.size=some { cls:=.type "tuple",data:=.seq #[es[i].key,es[i].val] }->h'.objs.size=s.heap.objs.size+1 ->
   (∀ b o,b≠it->s.heap.get? b=some o->h'.get? b=some o)->Q (some (.ref s.heap.objs.size)) { s with heap:=h' }):MZ (model prog w) A (pyNext (.ref it)) Q E s:=by
 obtain⟨hp,g,dr,tk,os⟩:=s
 have hT:Shared.TypeIs ⟨hp,g,dr,tk,os⟩ (.ref it) "dict_itemiterator":=⟨_,hit,rfl⟩
 unfold pyNext
 refine M7 (N1 (NC (name:=Str.ofString "__next__") hT F.slot_dict_itemiterator_next (ND F.slot_dict_itemiterator_next hT F.entry_dict_itemiterator_next ?_ (F.args_dict_itemiterator_next_1 _))))
 refine M7 (M6 (M7 (M7 ?_))); first | refine M7 (Oa hT (M6 ?_)) | refine M7 (Oc hT (M6 ?_))
 refine M7 (Od hit rfl ?_); have hown:Builtin.Dict_items.ownsTuple "dict_itemiterator"=true:=by decide
 simp only [hown,if_true]; show MZ _ _ (if (Value.ref d==Value.none)=true then _ else _) _ _ _; rw [if_neg (show ¬ ((Value.ref d==Value.none)=true) from JB)]
 refine M7 (M6 (M7 (N6 hod hdd ?_))); rw [if_neg (by simp)]
 refine M7 (M6 (M7 (N7 hod hdd ?_))); rw [if_neg (by simp)]
 refine M6 ?_; simp only [show ¬ ((i:Int) < 0) from by omega,if_false,JS,Array.getElem?_eq_getElem hlt]
 refine M7 ?_; first | refine M7 (Oa hT (M6 ?_)) | refine M7 (Oc hT (M6 ?_))
 refine M7 (Oe hT ?_); show MZ _ _ (setField (.ref it) 3 (rawInt ((i:Int)+1)) >>= _) _ _ ⟨hp,g,dr,tk,os⟩
 refine M7 (NW hit (by simp) fun h₁ he₁ hs₁=>?_); replace hs₁:Mp it hp h₁:=hs₁
 replace he₁:N8 h₁ it d (i+1) es.size ep ok ov:=by
  have e:((i+1:Nat):Int)=(i:Int)+1:=by omega
  unfold N8; rw [e]; simpa [rawInt] using he₁
 have hT₁:Shared.TypeIs ⟨h₁,g,dr,tk,os⟩ (.ref it) "dict_itemiterator":=⟨_,he₁,rfl⟩
 refine M7 (NB (M7 (Oe hT₁ (M7 (Oe hT₁ ?_)))))
 show MZ _ _ (Builtin.Dict_items.pairFromOwner (.ref it) 6 es[i].key es[i].val) _ _ ⟨h₁,g,dr,tk,os⟩; unfold Builtin.Dict_items.pairFromOwner; refine M7 (N0 ?_)
 have he₂:N8 (h₁.push { cls:=.type "tuple",data:=.seq #[es[i].key,es[i].val] }) it d (i+1) es.size ep ok ov:=Mq _ he₁
 generalize hh₂:h₁.push { cls:=.type "tuple",data:=.seq #[es[i].key,es[i].val] }=h₂ at he₂
 have hz₁:h₁.objs.size=hp.objs.size:=hs₁.1
 have hil:it < hp.objs.size:=Mm hit
 have ht₂:h₂.get? hp.objs.size=some { cls:=.type "tuple",data:=.seq #[es[i].key,es[i].val] }:=by rw [<- hh₂,<- hz₁]; exact Mr _ rfl
 have hz₂:h₂.objs.size=hp.objs.size+1:=by rw [<- hh₂,Ms,hz₁]
 have hk₂:∀ b o,b≠it->hp.get? b=some o->h₂.get? b=some o:=fun b o hb e=>by rw [<- hh₂]; exact Mq _ (hs₁.extBut b o hb e)
 show MZ _ _ (Builtin.Dict_items.ownedTupleIsFree (.ref it) >>= _) _ _ ⟨h₂,g,dr,tk,os⟩; rw [hz₁]; clear hh₂ he₁ hs₁ hT₁ hz₁ h₁
 refine M7 ?_; unfold Builtin.Dict_items.ownedTupleIsFree; refine M7 (NA he₂ rfl (x:=.none) rfl (M6 ?_)); simp only [if_true]
 refine M7 (NA he₂ rfl (x:=ok) rfl (M7 (NA he₂ rfl (x:=ov) rfl ?_)))
 refine M7 (NW he₂ (by simp) fun h₃ he₃ hs₃=>?_); replace hs₃:Mp it h₂ h₃:=hs₃
 replace he₃:N8 h₃ it d (i+1) es.size ep es[i].key ov:=he₃
 refine M7 (NW he₃ (by simp) fun h₄ he₄ hs₄=>?_); replace hs₄:Mp it h₃ h₄:=hs₄
 replace he₄:N8 h₄ it d (i+1) es.size ep es[i].key es[i].val:=he₄
 refine M7 (NW he₄ (by simp) fun h₅ he₅ hs₅=>?_); replace hs₅:Mp it h₄ h₅:=hs₅
 replace he₅:N9 h₅ it d (i+1) es.size ep es[i].key es[i].val hp.objs.size:=he₅
 refine M7 (NW he₅ (by simp) fun h₆ he₆ hs₆=>?_); replace hs₆:Mp it h₅ h₆:=hs₆
 replace he₆:N9 h₆ it d (i+1) es.size ep es[i].key es[i].val hp.objs.size:=he₆
 refine M7 (NZ (M6 (M6 ⟨_,rfl,M6 (hQ h₆ he₆ ?_ ?_ ?_)⟩)))
 ·have n:=Jv hil; exact hs₆.extBut _ _ n (hs₅.extBut _ _ n (hs₄.extBut _ _ n (hs₃.extBut _ _ n ht₂)))
 ·show h₆.objs.size=hp.objs.size+1; rw [hs₆.1,hs₅.1,hs₄.1,hs₃.1,hz₂]
 ·exact fun b o hb e=>hs₆.extBut b o hb (hs₅.extBut b o hb (hs₄.extBut b o hb (hs₃.extBut b o hb (hk₂ b o hb e))))
theorem x9 {Q:Option MM->MX->Prop} (hh:A.handled=none) (hit:N8 s.heap it d i es.size ep ok ov) (hod:s.heap.get? d=some o) (hdd:o.data=.dict es ep) (hge:es.size<=i)
  (hQ:∀ h',Mu it s.heap h'->Q none { s with heap:=h' }):MZ (model prog w) A (pyNext (.ref it)) Q E s:=by
 have hT:s.TypeIs (.ref it) "dict_itemiterator":=⟨_,hit,rfl⟩
 unfold pyNext
 refine M7 (N1 (NC (name:=Str.ofString "__next__") hT F.slot_dict_itemiterator_next (ND F.slot_dict_itemiterator_next hT F.entry_dict_itemiterator_next ?_ (F.args_dict_itemiterator_next_1 _))))
 refine M7 (M6 (M7 (M7 ?_))); first | refine M7 (Oa hT (M6 ?_)) | refine M7 (Oc hT (M6 ?_))
 refine M7 (Od hit rfl ?_); have hown:Builtin.Dict_items.ownsTuple "dict_itemiterator"=true:=by decide
 simp only [hown,if_true]; show MZ _ _ (if (Value.ref d==Value.none)=true then _ else _) _ _ s; rw [if_neg (show ¬ ((Value.ref d==Value.none)=true) from JB)]
 refine M7 (M6 (M7 (N6 hod hdd ?_))); rw [if_neg (by simp)]
 refine M7 (M6 (M7 (N7 hod hdd ?_))); rw [if_neg (by simp)]
 refine M6 ?_; simp only [show ¬ ((i:Int) < 0) from by omega,if_false,JS,Array.getElem?_eq_none hge]
 refine M7 ?_; first | refine M7 (Oa hT (M6 ?_)) | refine M7 (Oc hT (M6 ?_))
 show MZ _ _ (setField (.ref it) 2 .none >>= _) _ _ s; refine M7 (NS hit rfl (by simp) ?_)
 show MZ _ _ (newExc (.type "StopIteration") [] >>= _) _ _ _; refine M7 ?_; simp only [newExc,newTuple]; refine M7 (NF ?_ (by size_fits))
 refine M7 (m:=firstArgMember _ _) (wpAny_of_eq (a:=Value.none) (by first | rfl | (simp only [firstArgMember]; rfl)) ?_); refine NF ?_ (by size_fits)
 simp only [raiseNew]; refine M7 (NT ?_); rw [show A.in1.handled=none from hh]; refine M7 (M6 (wpAny_throw ?_))
 refine M7 (N2 (T := "StopIteration") (b:=true) ⟨_,Mr _ rfl,rfl⟩ N3 ?_); exact M6 (hQ _ (((Heap.SameBut.update ..).extBut.push _).push _))
end
variable [aM]
abbrev lB (al:List (List Key×D)):D:=.dct (.non::encK al) (al.map (·.2))
theorem vx {X:Cx} {pins:List (MP×Obj)} {σ:St} {H:Hp} {s:MX} {a:MP} {o:Obj} {kvs:List (List Key×V)} (I:Inv X pins σ H s) (e:H a=some (.frz o (.dT kvs))):s.heap.get? a=some o/\o.ExactDict/\(a==sysModules)=false/\∃ es ep xs,o.data=.dict es ep/\KT H kvs xs/\es.toList=xs.map (entryOfKey (tupleKind (bE X.prog X.w))):=by
 obtain⟨ho,z,hd,xs,rel,o',es,ep,h1,h2,h3,h4,h5⟩:=(show cc X.prog X.w H s.heap a (.frz o (.dT kvs)) from I.hok a _ e)
 rw [ho] at h1; cases h1
 exact⟨ho,h2,hd,es,ep,xs,h3,rel,h4⟩
def Hq (a:MP) (o:Obj) (kvs:List (List Key×V)):It :=
  ⟨fun i H=>H a=some (.frz o (.dT kvs))/\i < kvs.length,
   fun i H v H'=>∃ p b q w,v=.ref p/\H p=none/\H'=upd H p (.tup [.ref b,w])/\kvs[i]?=some (q,w)/\H b=some (.tup (q.map kV)),
   fun i H=>H a=some (.frz o (.dT kvs))/\i=kvs.length⟩
theorem pF {α β:Type} {R:α->β->Prop}:∀ {xs:List α} {ys:List β},MQ R xs ys->∀ {i:Nat} {x:α},xs[i]?=some x->∃ y,ys[i]?=some y/\R x y:=fun h=>by
 induction h with
 | nil=>intro i x e; simp at e
 | cons hq _ ih =>
  intro i x e
  cases i with
  | zero=>rw [Ky] at e; cases e; exact⟨_,rfl,hq⟩
  | succ i=>rw [Kz] at e ⊢; exact ih e
theorem wc {P:MO} {w:MN} {K:LQ} {es':List M0} {k:Nat} {pos:Pos} {a it:MP} {o:Obj} {es:Array NK} {ep:Nat} {kvs:List (List Key×V)} (hda:o.data=.dict es ep):Turn P w K (.Tuple es' k pos) (Hq a o kvs) [it] it (fun i h=>∃ ok ov,N8 h it a i es.size ep ok ov) where
 mem:=by simp
 obj:=fun i h ⟨ok,ov,hz⟩ c hc=>by rw [List.mem_singleton.mp hc]; exact⟨_,hz,fun v q=>by cases q⟩
 keep:=fun i h h' ⟨ok,ov,hz⟩ kp=>⟨ok,ov,kp it (by simp) _ hz⟩
 item:=by
  intro X hP hw hK hc i pins s σ H E I hf ⟨ok,ov,hit⟩ ⟨ha,hi⟩
  subst hP hw hK
  obtain⟨ho,hx,_,es2,ep2,xs,h3,rel,h4⟩:=vx I ha
  rw [hda] at h3; cases h3
  have hl:es.size=xs.length:=by rw [<- Array.length_toList,h4,JE]
  have hkl:kvs.length=xs.length:=Paired.length rel
  have hlt:i < es.size:=by omega
  obtain⟨x,ex,f1,f2,f3⟩:=pF rel (i:=i) (x:=kvs[i]) (by simp [hi])
  have ee:es[i]=entryOfKey (tupleKind (bE X.prog X.w)) x:=by
   have:es.toList[i]?=some (entryOfKey (tupleKind (bE X.prog X.w)) x):=by rw [h4,JP,ex]; rfl
   rw [Array.getElem?_toList,Array.getElem?_eq_getElem hlt] at this
   exact Option.some.inj this
  refine vI hit ho hda hlt fun h' out tp sz kp=>⟨_,rfl,wpAny_letOwnedTupleGo_items out fun h2 hit2 sb=>?_⟩
  have hpz:s.heap.objs.size≠it:=Jv (Mm hit)
  have tp2:=sb.extBut _ _ hpz tp
  rw [ee] at tp2
  have I':Inv X pins σ (upd H s.heap.objs.size (.tup [.ref x.2.1,kvs[i].2])) { s with heap:=h2 }:=Inv.turnedL (ch:=[it]) (t':=s.toks) I hf (fun c u hc e=>by
   have hc:c≠it:=by simpa using hc
   exact sb.extBut _ _ hc (kp c u hc e)) (Jw _) ⟨by show 2<=MS; decide,[.ref x.2.1,x.2.2],.cons rfl (.cons f3 .nil),_,tp2,rfl,_,rfl⟩
  refine⟨.ref s.heap.objs.size,_,I',rfl,⟨_,x.2.1,kvs[i].1,kvs[i].2,rfl,I.fresh,rfl,by simp [hi],f2⟩,⟨_,_,hit2⟩,fun c hc=>?_⟩
  rw [List.mem_singleton.mp hc,aF (Ne.symm hpz)]; exact(hf it (by simp)).1
 done:=by
  intro X hP hw hK hc i pins s σ H E I hf ⟨ok,ov,hit⟩ ⟨ha,hi⟩
  subst hP hw hK
  obtain⟨ho,hx,_,es2,ep2,xs,h3,rel,h4⟩:=vx I ha
  rw [hda] at h3; cases h3
  have hl:es.size=xs.length:=by rw [<- Array.length_toList,h4,JE]
  have hkl:kvs.length=xs.length:=Paired.length rel
  exact x9 (I.ok.hd hc) hit ho hda ‹0› fun h' eb=>⟨rfl,Inv.turned0 (ch:=[it]) I hf fun c u hc e=>eb c u (by simpa using hc) e⟩
 self:=fun _ _ _ _ _ ⟨_,_,hz⟩ h=>PySem.W.kcp_self hz h
theorem sJ {K:LQ} {H:Hp}:∀ q:List Key,aL K H (q.map aY) (q.map kV)
 | []=>cF.mpr rfl
 | k::q=>bc.mpr ⟨kV k,_,rfl,by cases k with | inl i=>exact eB.mpr rfl | inr x=>exact dJ.mpr rfl,sJ q⟩
abbrev kY (p:List Key×D):D:=.tup [.tup (p.1.map aY),p.2]
theorem vQ {K:LQ} {Hd:Hp} {a:MP} {o:Obj} {kvs:List (List Key×V)} {al:List (List Key×D)} (h:Hd a=some (.frz o (.dT kvs))) (e1:kvs.map (·.1)=al.map (·.1)) (e2:aL K Hd (al.map (·.2)) (kvs.map (·.2))):Walk K Hd (Hq a o kvs) (al.map kY):=fun Hn O' i hO sm=>by
 have s':aX Hd Hn:=sm.trans (aE Hn O')
 have hl:kvs.length=al.length:=by have:=congrArg List.length e1; simpa using this
 refine⟨fun d e=>?_,fun hl'=>⟨s' _ _ h,by rw [hl',JE,hl]⟩⟩
 rw [JP] at e
 cases ep:al[i]? with
 | none=>rw [ep] at e; cases e
 | some p =>
  rw [ep] at e; cases e
  have hi:i < al.length:=(List.getElem?_eq_some_iff.mp ep).1
  refine⟨⟨s' _ _ h,by omega⟩,fun x H2 ⟨c,b,q,w,ex,hc,eH,ek,hb⟩=>?_⟩
  subst ex eH
  have k1:q=p.1:=by
   have:=congrArg (fun l=>l[i]?) e1
   simp only [JP,ek,ep] at this
   exact Option.some.inj this
  obtain⟨w',ew,dw⟩:=e2.get (i:=i) (d:=p.2) (by rw [JP,ep]; rfl)
  rw [JP,ek] at ew
  cases ew
  subst k1
  have bO:b∉O':=fun z=>by
   obtain⟨u,q1,q2⟩:=hO.2 b z
   rw [hb] at q1; cases q1; exact q2
  exact⟨bC hc _,dA hO hc (bc.mpr ⟨.ref b,_,rfl,cq.mpr ⟨b,_,rfl,by rw [iR bO]; exact hb,sJ p.1⟩,bc.mpr ⟨w,_,rfl,dw.mono sm,cF.mpr rfl⟩⟩)⟩
def vC:D->Option (List D)
 | .dct (.non::ks) ds=>(js ks ds).map fun al=>al.map kY
 | _=>none
def jk (f:FX):aq->R (List D):=fun ρ=>(f ρ).bind fun d=>rO (vC d)
theorem tE {K:LQ} {H:Hp} {v:V} {al:List (List Key×D)} (h:cm K H (lB al) v):∃ a o kvs,v=.ref a/\H a=some (.frz o (.dT kvs))/\kvs.map (·.1)=al.map (·.1)/\aL K H (al.map (·.2)) (kvs.map (·.2)):=by
 obtain⟨a,vs,e0,h2,h3⟩:=Gk.mp h
 rcases h3 with ⟨kvs,e,e1,e2⟩ | ⟨kvs,e,e1,e2⟩ | ⟨kvs,o,e,e1,e2⟩
 ·cases kvs with
  | nil=>cases e1
  | cons p r =>
   injection e1 with e1 _
   rcases p with ⟨k,v⟩
   cases k <;> cases e1
 ·cases kvs with
  | nil=>cases e1
  | cons p r=>injection e1 with e1 _; cases e1
 ·injection e1 with _ e1
  subst e2
  exact⟨a,o,kvs,e0,e,(jK (ks:=kvs.map (·.1)) (by rw [K7]; exact e1)).symm,h2⟩
section
variable {X:Cx}
theorem Ft {o:M0} {es:List M0} {k:Nat} {tpos:Pos} {f:FX} {apos cpos:Pos} (ho:FE X o f) (hbase:Nk o "items" X.env (eval o X.env)=eval o X.env:=by rfl) (hline:(apos.endLine==cpos.line)=true:=by rfl):FI X (.Tuple es k tpos) (.Call (.Attribute o "items" apos) [] [] cpos) (jk f):=by
 intro pins s σ H RR I ⟨O,ρ,E,hG⟩
 refine wpAny_Call_method0_late hbase hline (dH (ho pins s σ H (fun v H1=>∃ a o kvs,v=.ref a/\H1 a=some (.frz o (.dT kvs))/\RR (Hq a o kvs) H1) I ⟨O,ρ,E,(gQ.bind hG).imp fun d hG v H1 s1 d1=>?_⟩) fun v s1 ⟨x,H1,I1,r1,a,o,kvs,ex,ha,hR⟩=>?_)
 ·obtain⟨ds,hg,q⟩:=gQ.rO hG
  unfold vC at hg
  split at hg
  ·rename_i ks dl
   cases e1:js ks dl with
   | none=>rw [e1] at hg; cases hg
   | some al =>
    rw [e1] at hg; cases hg
    obtain⟨f1,f2⟩:=gU e1
    subst f1 f2
    obtain⟨a,o,kvs,q1,q2,q3,q4⟩:=tE d1
    exact⟨a,o,kvs,q1,(aE H1 O) _ _ q2,q _ H1 s1 (vQ q2 q3 q4)⟩
  ·cases hg
 ·subst ex
  cases r1
  obtain⟨hob,hx,hsm,es2,ep,xs,hda,_⟩:=vx I1 ha
  refine⟨"dict","dict.items",F.plainAttrs_dict,F.slot_dict_items,F.type_dict_items,⟨o,hob,hx.1⟩,fun c e=>by cases e; exact⟨o,hob,hx.2.1⟩,Calls.callWith_builtin rfl (PySem.evalArgs_none ?_)⟩
  refine vf hob hx hsm (vK ⟨_,Mr _ rfl,rfl,rfl⟩ (Mq _ hob) hda ?_)
  have le:s1.heap.objs.size<=(s1.heap.push { cls:=.type "dict_items",data:=.fields #[.ref a] }).objs.size:=by rw [Ms]; exact JI _
  refine⟨_,_,_,_,H1,rfl,I1.kept (t':=s1.toks) fun b u e=>Mq _ (Mq _ e),wc hda,⟨_,_,Mr _ rfl⟩,fun b hb=>?_,hR⟩
  rw [List.mem_singleton.mp hb]
  exact I1.fpOk le (I1.hok.fresh le)
end
theorem dh.frzG {K:LQ} {Hb:Hp} {Ob O:List MP} {H H':Hp} {ρ:aq} {σ:St} (E:dh K Hb Ob O H ρ σ) {i:Nat} {d d':D} (hd:ρ[i]?=some (some (.nest d))) {a:MP} {bs:List MP} (h1:σ[i]?=some (some (.ref a))) (h4:∀ b∈a::bs,b∈O/\Hb b=none/\b∉Ob/\∀ (j:Nat) d',ρ[j]?=some (some (.own d'))->σ[j]?≠some (some (.ref b))) (h5:∀ (j:Nat) d',ρ[j]?=some (some (.nest d'))->j=i)
  (hH:∀ b,b≠a->H' b=H b) (tab:aM.tab H') (dn:aX (hid H O) (hid H' (O.filter fun b=>decide (b∉a::bs)))->(∀ b∈a::bs,b∉O.filter fun b=>decide (b∉a::bs))->cm K (hid H' (O.filter fun b=>decide (b∉a::bs))) d' (.ref a)):dh K Hb Ob (O.filter fun b=>decide (b∉a::bs)) H' (TG.setV i d' ρ) σ:=by
 have sub:∀ b∈O.filter (fun b=>decide (b∉a::bs)),b∈O:=fun b hb=>(List.mem_filter.mp hb).1
 have na:∀ b∈a::bs,b∉O.filter fun b=>decide (b∉a::bs):=fun b hb z=>(of_decide_eq_true (List.mem_filter.mp z).2) hb
 have aO:=(h4 a Jq).1
 have s:aX (hid H O) (hid H' (O.filter fun b=>decide (b∉a::bs))):=fun b u e=>by
  unfold hid at e ⊢
  by_cases hb:b∈O
  ·rw [if_pos hb] at e; cases e
  ·rw [if_neg hb] at e
   rw [if_neg fun z=>hb (sub b z),hH b fun z=>hb (by rw [z]; exact aO)]; exact e
 have bk:∀ (l:Nat) x,(TG.setV i d' ρ)[l]?=some (some x)->(∀ d,x≠.val d)->ρ[l]?=some (some x):=fun l x e nv=>by
  rcases aP e with ⟨_,q⟩ | ⟨_,q⟩
  ·cases q; exact absurd rfl (nv _)
  ·exact q
 refine⟨⟨fun j d1 e=>?_,fun j xs e=>?_,fun j l xs ys b e1 e2 e3 e4=>E.env.one j l xs ys b (bk j _ e1 (fun _ z=>nomatch z)) (bk l _ e2 (fun _ z=>nomatch z)) e3 e4,⟨tab,fun b hb=>?_⟩⟩,⟨fun b u e=>?_,fun b hb=>?_,fun b hb=>E.base.new b (sub b hb)⟩,fun j xs b e1 e2=>E.mine j xs b (bk j _ e1 (fun _ z=>nomatch z)) e2,fun j dn e=>?_⟩
 ·rcases aP e with ⟨hj,q⟩ | ⟨ne,q⟩
  ·cases q; rw [hj]; exact⟨.ref a,h1,dn s na⟩
  ·obtain⟨w,q1,q2⟩:=E.env.val j d1 q
   exact⟨w,q1,q2.mono s⟩
 ·obtain⟨b,q1,q2,q3⟩:=E.env.own j xs (bk j _ e (fun _ z=>nomatch z))
  have nb:b∉a::bs:=fun z=>(h4 b z).2.2.2 j xs (bk j _ e (fun _ z=>nomatch z)) q1
  exact⟨b,q1,List.mem_filter.mpr ⟨q2,decide_eq_true nb⟩,q3.mono (hH b fun z=>nb (by rw [z]; exact Jq)).symm s⟩
 ·rw [hH b fun z=>na b (by rw [z]; exact Jq) hb]; exact E.env.all.2 b (sub b hb)
 ·rw [hH b fun z=>by rw [z,(h4 a Jq).2.1] at e; cases e]; exact E.base.same b u e
 ·exact List.mem_filter.mpr ⟨E.base.sub b hb,decide_eq_true fun z=>(h4 b z).2.2.1 hb⟩
 ·have q:=bk j _ e (fun _ z=>nomatch z)
  have hj:=h5 j dn q
  subst hj
  rcases aP e with ⟨_,q⟩ | ⟨ne,_⟩
  ·cases q
  ·exact absurd rfl ne
theorem Fa {X:Cx} {pins:List (MP×Obj)} {σ:St} {H:Hp} {s:MX} {a:MP} {kvs:List (List Key×V)} (I:Inv X pins σ H s) (h1:H a=some (.dT kvs)):∃ o,Inv X pins σ (upd H a (.frz o (.dT kvs))) s:=by
 obtain⟨z,hd,xs,rel,o,es,ep,g1,g2⟩:=(show cc X.prog X.w H s.heap a (.dT kvs) from I.hok a _ h1)
 refine⟨o,kE (ob:=.frz o (.dT kvs)) (h':=s.heap) (t':=s.toks) I (by rw [h1]; exact trivial) ⟨rfl,fun _ _=>rfl⟩ ⟨o,g1⟩ ⟨g1,z,hd,xs,KT.keeps rel fun b ys eb=>?_,o,es,ep,g1,g2⟩⟩
 rw [aF (zm eb h1 (fun z=>nomatch z))]; exact eb
def EQ (i:Nat) (ρ:aq):aq:=match ρ[i]? with
 | some (some (.nest (.dct ks ds)))=>match js ks ds with
  | some al=>setV i (lB al) ρ
  | none=>ρ
 | _=>ρ
def rd (i:Nat) (F:cf):cf:=fun k ρ=>F k (EQ i ρ)
theorem E8 {X:Cx} {st:List M2} {F:cf} (i:Nat) (h:vN X st F):vN X st (rd i F):=fun Hb Ob pins s σ H E I ⟨O,ρ,k,r,S,hF,hk⟩=>by
 unfold rd EQ at hF
 split at hF
 ·rename_i ks ds hd
  split at hF
  ·rename_i al hal
   obtain⟨f1,f2⟩:=gU hal
   subst f1 f2
   obtain⟨a,bs,h1,h2,h3,h4,h5⟩:=S.nst i _ hd
   obtain⟨kvs,hH,ek,ev,hO⟩:=oQ h2
   obtain⟨na,_⟩:=List.nodup_cons.mp h3
   have fin:∀ (H0:Hp) (I0:Inv X pins σ H0 s),H0 a=some (.dT kvs)->(∀ b,b≠a->H0 b=H b)->MZ (model X.prog X.w) X.A (execs st X.env) (SP X pins E) X.xe s:=fun H0 I0 ha0 hH0=>by
    obtain⟨o,I1⟩:=Fa I0 ha0
    have hH':∀ b,b≠a->upd H0 a (.frz o (.dT kvs)) b=H b:=fun b nb=>by rw [aF nb]; exact hH0 b nb
    have tab:aM.tab (upd H0 a (.frz o (.dT kvs))):=by
     have:upd H0 a (.frz o (.dT kvs))=upd H a (.frz o (.dT kvs)):=by
      funext b
      by_cases z:b=a
      ·rw [z,aN,aN]
      ·rw [aF z,aF z,hH0 b z]
     rw [this]
     obtain⟨u,q1,q2⟩:=S.env.all.2 a (h4 a Jq).1
     exact aM.own S.env.all.1 q1 q2
    refine h Hb Ob pins s σ _ E I1 ⟨_,_,k,r,S.frzG hd h1 h4 h5 hH' tab fun sm nn=>?_,hF,hk⟩
    have hO':jN X.K (upd H0 a (.frz o (.dT kvs))) O bs (al.map (·.2)):=hO.mono (fun b u e=>by
     unfold hid at e ⊢
     by_cases hb:b∈O
     ·rw [if_pos hb] at e; cases e
     ·rw [if_neg hb] at e
      rw [if_neg hb,hH' b fun z=>hb (by rw [z]; exact(h4 a Jq).1)]; exact e) fun b hb _=>hH' b fun z=>na (by rw [<- z]; exact hb)
    have sub:∀ b∈O.filter (fun b=>decide (b∉a::bs)),b∈O:=fun b hb=>(List.mem_filter.mp hb).1
    have g:=hO'.den (gP sub) fun b hb=>nn b (Jr _ hb)
    refine Gk.mpr ⟨a,_,rfl,g,.inr (.inr ⟨kvs,o,by rw [iR (nn a Jq)]; exact aN,by rw [sK ek],ev.symm⟩)⟩
   rcases hH with hH | ⟨hH,z⟩
   ·exact fin H I hH fun _ _=>rfl
   ·subst z
    exact fin _ (Bl I hH) aN fun b nb=>aF nb
  ·exact h Hb Ob pins s σ H E I ⟨O,ρ,k,r,S,hF,hk⟩
 ·exact h Hb Ob pins s σ H E I ⟨O,ρ,k,r,S,hF,hk⟩
end TG
namespace TG
open PySem PySem.Spec L2
section
variable {prog:MO} {w:MN} {A:MV} {E:MM->MX->Prop} {s:MX} {it d:MP} {i ep:Nat} {o:Obj} {es:Array NK}
theorem yr {Q:MM->MX->Prop} (hd:(d==sysModules)=false) (ho:s.heap.get? d=some o) (hx:o.ExactDict) (hdat:o.data=.dict es ep)
  (hQ:Q (.ref s.heap.objs.size) { s with heap:=s.heap.push { cls:=.type "dict_keyiterator",data:=.fields #[.ref d,.int 0 0,.int es.size 0,.int ep 0] } }):MZ (model prog w) A (pyIter (.ref d)) Q E s:=by
 have hT:s.TypeIs (.ref d) "dict":=⟨o,ho,hx.1⟩
 refine wpAny_pyIter_slot hT F.slot_dict_iter (ND F.slot_dict_iter hT F.entry_dict_iter ?_ (F.args_dict_iter_1 _))
 unfold Builtin.«dict.__iter__»; refine M7 ?_; unfold Builtin.Dict.dictSlotNone; refine M7 (N5 hT ?_)
 show MZ _ _ (pure (Value.ref d)) _ _ s; refine M6 ?_; show MZ _ _ (Builtin.Dict.showsAll d >>= _) _ _ s; unfold Builtin.Dict.showsAll; rw [if_neg (by rw [hd]; exact JB)]
 refine M7 (M6 (M7 (N6 ho hdat (M7 (N7 ho hdat ?_)))))
 refine M7 (NF (M6 ⟨_,rfl,"dict_keyiterator",_,⟨_,Mr _ rfl,rfl⟩,F.slot_dict_keyiterator_next.lookup,?_⟩)); simpa [rawInt] using hQ
theorem xH {Q:Option MM->MX->Prop} (hit:s.heap.IsKeyIter it d i es.size ep) (hod:s.heap.get? d=some o) (hdd:o.data=.dict es ep) (hlt:i < es.size)
  (hQ:∀ h',h'.IsKeyIter it d (i+1) es.size ep->Mp it s.heap h'->Q (some es[i].key) { s with heap:=h' }):MZ (model prog w) A (pyNext (.ref it)) Q E s:=by
 obtain⟨oi,ho,hc,hd⟩:=id hit
 unfold pyNext
 refine M7 (N1 (NC (name:=Str.ofString "__next__") hit.typeIs F.slot_dict_keyiterator_next (ND F.slot_dict_keyiterator_next hit.typeIs F.entry_dict_keyiterator_next ?_ (F.args_dict_keyiterator_next_1 _))))
 refine M7 (M6 (M7 (M7 ?_))); first | refine M7 (Of hit.typeIs (M6 ?_)) | refine M7 (Og hit.typeIs (M6 ?_))
 refine M7 (Od ho hd ?_); have hown:Builtin.Dict_items.ownsTuple "dict_keyiterator"=false:=by decide
 simp only [hown,J6,if_false]; show MZ _ _ (if (Value.ref d==Value.none)=true then _ else _) _ _ s; rw [if_neg (show ¬ ((Value.ref d==Value.none)=true) from JB)]
 refine M7 (M6 (M7 (N6 hod hdd ?_))); rw [if_neg (by simp)]
 refine M7 (M6 (M7 (N7 hod hdd ?_))); rw [if_neg (by simp)]
 refine M6 ?_; simp only [show ¬ ((i:Int) < 0) from by omega,if_false,JS,Array.getElem?_eq_getElem hlt]
 refine M7 ?_; first | refine M7 (Of hit.typeIs (M6 ?_)) | refine M7 (Og hit.typeIs (M6 ?_))
 refine M7 (wpAny_isOneOf_keyiter hit.typeIs ?_); show MZ _ _ (setField (.ref it) 1 (rawInt ((i:Int)+1)) >>= _) _ _ s; refine M7 (NS ho hd (by simp) ?_)
 have hit':(s.heap.update it (Obj.mapFields (·.setIfInBounds 1 (rawInt ((i:Int)+1))))).IsKeyIter it d (i+1) es.size ep:=⟨_,Mt _ ho (Obj.isFreed_of_fields (Obj.data_mapFields hd _)),(Obj.cls_mapFields ..).trans hc,by rw [Obj.data_mapFields hd]; simp [rawInt]⟩
 refine M7 (NB (M7 (wpAny_isOneOf_keyiter (s:={ s with heap:=s.heap.update it (Obj.mapFields (·.setIfInBounds 1 (rawInt ((i:Int)+1)))) }) hit'.typeIs ?_))); show MZ _ _ (pure es[i].key) _ _ _
 exact M6 (M6 ⟨_,rfl,M6 (hQ _ hit' (Heap.SameBut.update ..))⟩)
theorem Ag {Q:Option MM->MX->Prop} (hh:A.handled=none) (hit:s.heap.IsKeyIter it d i es.size ep) (hod:s.heap.get? d=some o) (hdd:o.data=.dict es ep) (hge:es.size<=i) (hQ:∀ h',Mu it s.heap h'->Q none { s with heap:=h' }):MZ (model prog w) A (pyNext (.ref it)) Q E s:=by
 obtain⟨oi,ho,hc,hd⟩:=id hit
 unfold pyNext
 refine M7 (N1 (NC (name:=Str.ofString "__next__") hit.typeIs F.slot_dict_keyiterator_next (ND F.slot_dict_keyiterator_next hit.typeIs F.entry_dict_keyiterator_next ?_ (F.args_dict_keyiterator_next_1 _))))
 refine M7 (M6 (M7 (M7 ?_))); first | refine M7 (Of hit.typeIs (M6 ?_)) | refine M7 (Og hit.typeIs (M6 ?_))
 refine M7 (Od ho hd ?_); have hown:Builtin.Dict_items.ownsTuple "dict_keyiterator"=false:=by decide
 simp only [hown,J6,if_false]; show MZ _ _ (if (Value.ref d==Value.none)=true then _ else _) _ _ s; rw [if_neg (show ¬ ((Value.ref d==Value.none)=true) from JB)]
 refine M7 (M6 (M7 (N6 hod hdd ?_))); rw [if_neg (by simp)]
 refine M7 (M6 (M7 (N7 hod hdd ?_))); rw [if_neg (by simp)]
 refine M6 ?_; simp only [show ¬ ((i:Int) < 0) from by omega,if_false,JS,Array.getElem?_eq_none hge]
 refine M7 ?_; first | refine M7 (Of hit.typeIs (M6 ?_)) | refine M7 (Og hit.typeIs (M6 ?_))
 show MZ _ _ (setField (.ref it) 0 .none >>= _) _ _ s; refine M7 (NS ho hd (by simp) ?_)
 show MZ _ _ (newExc (.type "StopIteration") [] >>= _) _ _ _; refine M7 ?_; simp only [newExc,newTuple]; refine M7 (NF ?_ (by size_fits))
 refine M7 (m:=firstArgMember _ _) (wpAny_of_eq (a:=Value.none) (by first | rfl | (simp only [firstArgMember]; rfl)) ?_); refine NF ?_ (by size_fits)
 simp only [raiseNew]; refine M7 (NT ?_); rw [show A.in1.handled=none from hh]; refine M7 (M6 (wpAny_throw ?_))
 refine M7 (N2 (T := "StopIteration") (b:=true) ⟨_,Mr _ rfl,rfl⟩ N3 ?_); exact M6 (hQ _ (((Heap.SameBut.update ..).extBut.push _).push _))
def DV (d:MP) (o:Obj) (es:Array NK) (ep:Nat) (h:MR):Prop:=h.get? d=some o/\o.ExactDict/\o.data=.dict es ep
theorem uZ (hh:A.handled=none) (I:MP) (hne:d≠I):Walks prog w A I [I,d] [I] es.size (fun i v=>∃ e,es[i]?=some e/\v=e.key) (fun i h=>h.IsKeyIter I d i es.size ep/\DV d o es ep h) where
 sub:=fun b hb=>by simp at hb; simp [hb]
 frame:=fun _ _ _ st hk=>⟨st.1.at fun o e=>hk I (by simp) o e,hk d (by simp) _ st.2.1,st.2.2⟩
 item:=fun i s Q E hi st hQ=>xH st.1 st.2.1 st.2.2.2 hi fun h' hit' hs'=>hQ _ h' s.toks ⟨es[i],by simp [hi],rfl⟩ ⟨hit',(hs'.2 d hne).trans st.2.1,st.2.2⟩ fun b o hb e=>hs'.extBut b o (fun h=>hb (by simp [h])) e
 done:=fun s Q E st hQ=>Ag hh st.1 st.2.1 st.2.2.2 (Jw _) fun h' he'=>hQ h' s.toks fun b o hb e=>he' b o (fun h=>hb (by simp [h])) e
 self:=fun _ _ _ _ st hQ=>wpAny_pyIter_keyiter st.1 hQ
theorem Aq (lo:(d==sysModules)=false):PySem.W.KdlSrc prog w "dict" d d es.size (fun i v=>∃ e,es[i]?=some e/\v=e.key) (DV d o es ep) where
 type:=fun _ hm=>⟨o,hm.1,hm.2.1.1⟩
 there:=fun _ hm=>⟨Mm hm.1,Mm hm.1⟩
 keep:=fun _ _ hm hk=>⟨hk d (.inl rfl) o hm.1,hm.2⟩
 notList:=by decide
 notTuple:=by decide
 hint:=fun _ _ _ _ hm hq=>PySem.W.kdl_hint_dict ⟨o,hm.1,hm.2.1.1⟩ hq
 iter:=fun _ _ hh hm=>⟨_,_,(fun _ _ hq=>yr lo hm.1 hm.2.1 hm.2.2 hq),uZ (ep:=ep) (o:=o) hh _ (Jm (Mm hm.1)),⟨⟨_,Mr _ rfl,rfl,rfl⟩,Mq _ hm.1,hm.2⟩⟩
end
variable [aM]
def AD:List D->List D->Option (List (List Key×D))
 | .non::ks,ds=>js ks ds
 | ks,ds=>js ks ds
theorem wH {K:LQ} {H:Hp} {v:V} {ks ds:List D} {al:List (List Key×D)} (h:cm K H (.dct ks ds) v) (e:AD ks ds=some al) :
  ∃ a,v=.ref a/\((∃ kvs:List (List Key×V),Rd H a (.dT kvs)/\kvs.map (·.1)=al.map (·.1)/\aL K H (al.map (·.2)) (kvs.map (·.2)))\/(H a=some (.dK [])/\al=[])):=by
 unfold AD at e
 split at e
 ·obtain⟨f1,f2⟩:=gU e
  subst f1 f2
  obtain⟨a,o,kvs,q1,q2,q3,q4⟩:=tE h
  exact⟨a,q1,.inl ⟨kvs,.inr ⟨o,q2⟩,q3,q4⟩⟩
 ·obtain⟨f1,f2⟩:=gU e
  subst f1 f2
  obtain⟨a,q1,q2⟩:=zX h
  rcases q2 with ⟨kvs,q2,q3⟩ | q2
  ·exact⟨a,q1,.inl ⟨kvs,.inl q2,q3⟩⟩
  ·exact⟨a,q1,.inr q2⟩
section
variable {X:Cx}
def jU:List D->Option D
 | [.dct ks ds]=>(AD ks ds).bind fun al=>some (.lst (encK al))
 | _=>none
theorem AA {pins:List (MP×Obj)} {σ:St} {H:Hp} {s:MX} (I:Inv X pins σ H s) {a:MP} {kvs:List (List Key×V)} (e:Rd H a (.dT kvs)):kvs.length<=MS/\(a==sysModules)=false/\∃ o es ep,DV a o es ep s.heap/\es.size=kvs.length/\∀ (i:Nat) u,es[i]?=some u->∃ b q,u.key=.ref b/\kvs[i]?.map (·.1)=some q/\H b=some (.tup (q.map kV)):=by
 obtain⟨z,hd,xs,rel,o,es,ep,h1,h2,h3,h4,_⟩:=xi I.hok e
 have hl:es.size=kvs.length:=by rw [<- Array.length_toList,h4,JE]; exact(Paired.length rel).symm
 refine⟨z,hd,o,es,ep,⟨h1,h2,h3⟩,hl,fun i u eu=>?_⟩
 have hi:i < kvs.length:=by
  have:=(Array.getElem?_eq_some_iff.mp eu).1
  omega
 obtain⟨x,ex,f1,f2,f3⟩:=pF rel (i:=i) (x:=kvs[i]) (by simp [hi])
 have:es.toList[i]?=some (entryOfKey (tupleKind (bE X.prog X.w)) x):=by rw [h4,JP,ex]; rfl
 rw [Array.getElem?_toList,eu] at this
 cases this
 exact⟨x.2.1,kvs[i].1,rfl,by simp [hi],f2⟩
theorem oT (hc:X.calm=true):dq X (.type "list") (we X.K jU):=by
 intro pins s σ H xs us Q I r ⟨O,ds,d,hO,hd,hg,q⟩
 unfold jU at hg
 split at hg
 ·rename_i ks vs0
  cases hk:AD ks vs0 with
  | none=>rw [hk] at hg; cases hg
  | some al =>
   rw [hk] at hg
   cases hg
   obtain⟨v,ev,h1⟩:=hd.one
   subst ev
   obtain⟨a,ea,hh⟩:=wH h1 hk
   subst ea
   obtain⟨u,rfl,ru⟩:=vals1 r
   cases ru
   have fin:∀ (H0:Hp) (kvs:List (List Key×V)),Inv X pins σ H0 s->Rd H0 a (.dT kvs)->kvs.map (·.1)=al.map (·.1)->(∀ b ys,H0 b=some (.tup ys)->H b=some (.tup ys))->MZ (model X.prog X.w) X.A (call (.type "list") [.ref a]) (EP X pins σ Q) X.xe s:=fun H0 kvs I0 hr hk2 ht=>by
    obtain⟨z,hs,o,es,ep,raw,hsz,hkey⟩:=AA I0 hr
    have hl:al.length=kvs.length:=by have:=congrArg List.length hk2; simpa using this.symm
    refine Mi (Aq hs) (I.ok.hd hc) raw (by rw [hsz]; exact z) fun h' tk acc' c' kp e2 it=>?_
    have key:∃ ws:List V,Vals ws acc'.toList/\aL X.K (hid H O) (encK al) ws:=by
     have hlen:acc'.toList.length=al.length:=by rw [Array.length_toList,it.1,hsz,hl]
     have each:∀ (j:Nat) (u:MM),acc'.toList[j]?=some u->∃ b q,u=.ref b/\al[j]?.map (·.1)=some q/\H b=some (.tup (q.map kV)):=fun j u e=>by
      obtain⟨en,e3,e4⟩:=it.2 j u (by rw [<- Array.getElem?_toList]; exact e)
      obtain⟨b,q,w1,w2,w3⟩:=hkey j en e3
      refine⟨b,q,by rw [e4,w1],?_,ht _ _ w3⟩
      have:=congrArg (fun l=>l[j]?) hk2
      simp only [JP] at this
      rw [<- this]; exact w2
     clear it e2
     generalize acc'.toList=us at hlen each
     clear hk hl hk2 h1 hh q
     induction us generalizing al with
     | nil =>
      cases al with
      | nil=>exact⟨[],.nil,cF.mpr rfl⟩
      | cons _ _=>cases hlen
     | cons u us ih =>
      cases al with
      | nil=>cases hlen
      | cons p al =>
       obtain⟨ws,w1,w2⟩:=ih (al:=al) (by simpa using hlen) fun j u e=>by
        have:=each (j+1) u (by rw [Kz]; exact e)
        rw [Kz] at this; exact this
       obtain⟨b,q,e1,e2,e3⟩:=each 0 u rfl
       cases e2
       have bO:b∉O:=fun z=>by
        obtain⟨u',q1,q2⟩:=hO.2 b z
        rw [e3] at q1; cases q1; exact q2
       exact⟨.ref b::ws,.cons (by rw [e1]; rfl) w1,bc.mpr ⟨.ref b,ws,rfl,cq.mpr ⟨b,_,rfl,by rw [iR bO]; exact e3,sJ p.1⟩,w2⟩⟩
    obtain⟨ws,rv,dn⟩:=key
    have wl:ws.length<=MS:=by rw [<- dn.length,JE,hl]; exact z
    refine⟨.ref s.heap.objs.size,_,I.laid (t':=tk) kp (Jw _) (show cc X.prog X.w _ h' _ (.lst ws) from ⟨wl,acc'.toList,c',rv,by simpa using e2⟩),rfl,?_⟩
    have hf:=I.hok.fresh (Jw s.heap.objs.size)
    exact q _ _ (bC hf _) (d5 hO hf dn)
   rcases hh with ⟨kvs,hr,e1,_⟩ | ⟨hr,e1⟩
   ·refine fin H kvs I ?_ e1 fun _ _ z=>z
    rcases hr with hr | ⟨o,hr⟩
    ·exact .inl ((aE H O) _ _ hr)
    ·exact .inr ⟨o,(aE H O) _ _ hr⟩
   ·have ha:=(aE H O) _ _ hr
    refine fin _ [] (Bl I ha) (.inl aN) (by rw [e1]; rfl) fun b ys eb=>?_
    by_cases z:b=a
    ·rw [z,aN] at eb; cases eb
    ·rw [aF z] at eb; exact eb
 ·cases hg
end
end TG
namespace TG
open PySem PySem.Spec PySem.Calls L2
variable [aM]
def vR (dd k:D):Option D:=match dd with
 | .dct ks ds=>(AD ks ds).bind fun al=>(iG k).bind fun q=>nW al q
 | _=>none
theorem CU {H:Hp} {O:List MP} {a:MP} {u:HO} (h:Rd (hid H O) a u):Rd H a u:=by
 rcases h with h | ⟨o,h⟩
 ·exact .inl ((aE H O) _ _ h)
 ·exact .inr ⟨o,(aE H O) _ _ h⟩
section
variable {X:Cx}
theorem HV {o e:M0} {fo fk:FX} {pos:Pos} (hu:X.A.units+64 < Np) (ho:FE X o fo) (hi:FE X e fk) (hs:Bt e):FE X (.Subscript o e pos) (f2 vR fo fk) :=
 PE.weak (BK ‹0› ho hi hs) fun σ H Q ⟨O,ρ,E,hF⟩=>⟨O,ρ,E,(gQ.bind hF).imp fun dd hF v H1 s1 d1=>⟨O,ρ,E.same s1,((gQ.bind hF).mono s1).imp fun k hF y H2 s2 d2=>by
  obtain⟨d,hg,q⟩:=gQ.rO hF
  cases dd with
  | dct ks ds =>
   have hg:(AD ks ds).bind (fun al=>(iG k).bind fun q=>nW al q)=some d:=hg
   cases hk:AD ks ds with
   | none=>rw [hk] at hg; cases hg
   | some al =>
    rw [hk] at hg
    cases ht:iG k with
    | none=>rw [ht] at hg; cases hg
    | some qk =>
     rw [ht] at hg
     have hg:nW al qk=some d:=hg
     obtain⟨a,ea,hh⟩:=wH (d1.mono (bx s2)) hk
     rw [lK ht] at d2
     obtain⟨b,ws,eb,g1,g2⟩:=cq.mp d2
     rw [iw g2] at g1
     rcases hh with ⟨kvs,hr,e1,e2⟩ | ⟨_,rfl⟩
     ·rcases tK qk e1 e2 with ⟨_,z2⟩ | ⟨w,d',z1,z2,z3⟩
      ·rw [z2] at hg; cases hg
      ·rw [z2] at hg; cases hg
       exact⟨a,w,ea,by rw [<- z1]; exact .inr ⟨kvs,qk,b,CU hr,eb,(aE H2 O) _ _ g1,rfl⟩,q w H2 (s1.trans s2) z3⟩
     ·cases hg
  | _=>cases hg⟩⟩
end
def Ax (i:Nat) (f:FX):cf:=fun k ρ=>match ρ[i]? with
 | some (some (.own (.lst xs)))=>pV (f ρ) k ρ fun d=>match d with
  | .lst ys=>if small (xs.length+ys.length) then k.nx (ρ.set i (some (.own (.lst (xs++ys))))) else un
  | _=>un
 | _=>un
theorem Hz {X:Cx} {i:Nat} {x:Str} {e:M0} {f:FX} {npos apos cpos pos:Pos} (hx:PE X (.Name x npos) (nq i)) (he:FN X e f) (hns:noStar e=true:=by rfl)
  (hbase:Nk (.Name x npos) "extend" X.env (eval (.Name x npos) X.env)=eval (.Name x npos) X.env:=by rfl)
  (hfew:((backTo cpos (M1 [e] X.env)).all (fun x=>!x.1) && (backToKw cpos (Nn [] X.env)).all (fun x=>x.1.isSome) && decide (([e]:List M0).length+([]:List NI).length+(if ([]:List NI).isEmpty then 0 else 1) < 30))=true:=by rfl)
  (hline:(apos.endLine==cpos.line)=true:=by rfl) (hplain:(backTo cpos (M1 [] X.env)).any (·.1)=false:=by rfl)
  (hsw:swapsWith (.Call (.Attribute (.Name x npos) "extend" apos) [e] [] cpos) none pos.line X.env=pure false:=by rfl) :
  FS X (.Expr (.Call (.Attribute (.Name x npos) "extend" apos) [e] [] cpos) pos) (Ax i f):=fun Hb Ob pins s σ H E I ⟨O,ρ,k,rr,S,hF,hk⟩=>by
 unfold Ax at hF
 split at hF
 ·rename_i xs hxs
  obtain⟨a,ha,haO,hat⟩:=S.env.own i _ hxs
  obtain⟨o,vs0,ho,eo,dn⟩:=hat
  subst eo
  refine sk (wt F.plainAttrs_list F.slot_list_extend F.type_list_extend xO hx (kc he o6 (cP hns)) hbase hfew hline (cP hns) hplain) hsw pins s σ H E I ⟨.ref a,ha,.inl ⟨rfl,vs0,lU.of ho⟩,O,ρ,S.env,gQ.on hF hk S fun d hr p H1 s1 hp m own=>?_⟩
  have S1:=S.same s1
  cases d with
  | lst ys =>
   have hr:(if small (xs.length+ys.length) then k.nx (ρ.set i (some (.own (.lst (xs++ys))))) else un)=rr:=hr
   cases hsm:small (xs.length+ys.length) with
   | false=>rw [hsm] at hr; exact absurd hr.symm hk.ne
   | true =>
    rw [hsm] at hr
    obtain⟨o,zs,h1,h2,h3⟩:=own
    subst h2
    have dz:aL X.K (hid H1 O) ys zs:=h3.mono (gP fun b hb=>Jr _ hb)
    have hz:=cT hsm
    exact⟨a,p,vs0,zs,rfl,rfl,s1 _ _ ho,h1,by rw [<- dn.length,<- dz.length]; exact hz,hk.nx O _ σ _ (S1.setO hxs ha trivial (nP haO ((dn.mono (bx s1)).append dz))) hr⟩
  | _=>exact absurd (show un=rr from hr).symm hk.ne
 ·exact absurd hF.symm hk.ne
def oH:List D->Option D
 | [.lst xs]=>(iX xs).bind fun ps=>if small ps.length then some (lB (yW ps)) else none
 | _=>none
section
variable {X:Cx}
theorem vv (hc:X.calm=true) (hu:X.A.units+64 < Np):dq X (.type "dict") (we X.K oH):=by
 intro pins s σ H xs us Q I r ⟨O,ds,d,hO,hd,hg,q⟩
 unfold oH at hg
 split at hg
 ·rename_i ys
  cases hp:iX ys with
  | none=>rw [hp] at hg; cases hg
  | some ps =>
   rw [hp] at hg
   obtain⟨sm,rfl⟩:=bv (show (if small ps.length then some (lB (yW ps)) else none)=some d from hg)
   obtain⟨v,rfl,h1⟩:=hd.one
   obtain⟨p,ws,rfl,g1,g2⟩:=cu.mp h1
   obtain⟨u,rfl,ru⟩:=vals1 r
   cases ru
   obtain⟨its,rv,⟨o,n,ho,hcl,hd',hdd⟩,hz⟩:=I.list ((aE H O).seq g1)
   rw [qL hp] at g2
   obtain⟨L,ks,l1,l2,l3,l4,l5⟩:=qw I g2 rv
   have kl:ks.length=ps.length:=by have:=congrArg List.length l4; simpa using this
   have ll:ks.length=L.length:=Paired.length l3
   have key:∀ {ks:List (List Key×V)} {L:List (List Key×MP×MM)},KT H ks L->∀ x∈L,∀ h,Keeps s.heap h->(tupleKind (bE X.prog X.w)).is h x.1 x.2.1:=fun {ks L} kt=>by
    induction kt with
    | nil=>intro x hx; cases hx
    | cons hq _ ih =>
     intro x hx h kh
     rcases List.mem_cons.mp hx with z | z
     ·subst z
      obtain⟨e1,e2,_⟩:=hq
      rw [e1] at e2
      obtain⟨o,xs,n,k1,k2⟩:=o4 I.hok e2
      exact⟨o,xs,n,kh _ _ k1,k2⟩
     ·exact ih x z h kh
   obtain⟨f1,f2,f3,f4⟩:=uS (K:=X.K) (H:=H) (H0:=hid H O) (al:=[]) (kvs:=[]) (xs:=[]) l3 l4 l5 .nil rfl (cF.mpr rfl)
   have hsz:ps.length<=100000:=of_decide_eq_true sm
   have sl:MS=16777216:=Ni
   refine oF (knd:=tupleKind (bE X.prog X.w)) (L:=L) ho hcl hdd hd' (I.ok.hd hc) (NM (by rw [in1_units]; omega)) (by simpa using l1) ‹0› (fun i v e=>l2 i v (by simpa using e)) (key l3) fun h' tk kp di=>?_
   have hf:=I.hok.fresh (Jw s.heap.objs.size)
   obtain⟨⟨od,es,ep,k1,k2,k3,k4,k5⟩,_⟩:=di
   have kt':KT (upd H s.heap.objs.size (.frz od (.dT (ks.foldl (fun m p=>putK m p.1 p.2) [])))) (ks.foldl (fun m p=>putK m p.1 p.2) []) (L.foldl (fun xs x=>storedH xs x.1 x.2.1 x.2.2) []):=KT.keeps f1 fun b ys eb=>by rw [aF (fun z=>by rw [z,hf] at eb; cases eb)]; exact eb
   refine⟨.ref s.heap.objs.size,_,I.laid (t':=tk) kp (Jw _) (show cc X.prog X.w _ h' _ (.frz od (.dT (ks.foldl (fun m p=>putK m p.1 p.2) []))) from ⟨k1,by simp only [J1] at f4; omega,beq_eq_false_iff_ne.mpr (Ne.symm (Jm I.big)),_,kt',od,es,ep,k1,k2,k3,k4,k5⟩),rfl,?_⟩
   refine q _ _ (bC hf _) ?_
   have pO:=hO.not hf
   refine Gk.mpr ⟨s.heap.objs.size,_,rfl,f3.mono (sM hf),.inr (.inr ⟨_,od,by rw [iR pO]; exact aN,congrArg _ (sK f2),rfl⟩)⟩
 ·cases hg
end
end TG
namespace TX
open PySem PySem.Spec L2 TG
variable [aM]
structure XE (X:Cx) (e:M0) (F:FX):Prop where h:FE X e F
structure XT (X:Cx) (e:M0) (F:aq->R Bool):Prop where h:FT X e F
structure XW (X:Cx) (e:M0) (F:aq->R Bool):Prop where h:FW X e F
structure XA (X:Cx) (e:List M0) (F:aq->R (List D)):Prop where h:FA X e F
structure XS (X:Cx) (e:M2) (F:cf):Prop where h:FS X e F
structure wu (X:Cx) (e:List M2) (F:cf):Prop where h:vN X e F
structure XI (X:Cx) (t e:M0) (F:aq->R (List D)):Prop where h:FI X t e F
structure XG (X:Cx) (e:M0) (F:GF):Prop where h:FG X e F
structure FU (X:Cx) (e:List M0) (F:yS):Prop where h:E9 X e F
structure XO (X:Cx) (e:Option M0) (F:aq->R (Option Int)):Prop where h:FO X e F
structure XN (X:Cx) (e:M0) (F:FX):Prop where h:FN X e F
structure Ip (X:Cx) (e:List M0) (F:aq->R Bool):Prop where h:Gw X e F
structure XV (X:Cx) (e:M0) (i:Nat):Prop where h:PE X e (nq i)
structure XB (X:Cx) (scope:MY) (N:List Str) (tg elt:M0) (ifs:List M0) (g:GF) (C:aq->R Bool) (Fe:FX) (cl:List (Str×MP)) (C':MP) (fp:List MP) (s:MX) (H:Hp) (E:MM->MX->Prop):Prop where
 a:XG (cj X scope N cl C' fp s H E) tg g
 b:Ip (cj X scope N cl C' fp s H E) ifs C
 c:XE (cj X scope N cl C' fp s H E) elt Fe
structure Cw (X:Cx) (scope:MY) (N:List Str) (tg elt:M0) (ifs:List M0) (g:GF) (C:aq->R Bool) (Fe:FX):Prop where
 q:∀ cl C' fp s H E,XB X scope N tg elt ifs g C Fe cl C' fp s H E
theorem Cw.h {X:Cx} {scope:MY} {N:List Str} {tg elt:M0} {ifs:List M0} {g:GF} {C:aq->R Bool} {Fe:FX} (x:Cw X scope N tg elt ifs g C Fe):GC X scope N tg elt ifs g C Fe:=fun cl C' fp s H E=>⟨(x.q cl C' fp s H E).a.h,(x.q cl C' fp s H E).b.h,(x.q cl C' fp s H E).c.h⟩
theorem xv {X:Cx} (i:Nat) {x:Str} {pos:Pos} (hN:X.N[i]?=some x:=by rfl) (hv:Em X.env.scope x:=by first | exact Or.inl rfl | exact Or.inr (Or.inl rfl) | exact Or.inr (Or.inr rfl)) (hd:(x==("__debug__":Str))=false:=by decide)
  (hcd:(x==("__classdict__":Str))=false:=by decide):XV X (.Name x pos) i:=⟨pv i hN hv hd hcd⟩
theorem Fx {X:Cx} {e:M0} {f:aq->R Bool} (h:XW X e f):XT X e f:=⟨FW.ft h.h⟩
section
variable [aM] {X:Cx}
theorem aa {i:Nat} {x:Str} {pos:Pos} (h:XV X (.Name x pos) i):XE X (.Name x pos) (ah i):=⟨TG.Hs h.h⟩
end
section
variable [aM] {X:Cx}
theorem ai {i j pos}:XE X (.Constant (.int i) j pos) (fC (.int i)):=⟨TG.G3 ⟩
end
section
variable [aM] {X:Cx}
theorem jf {b j pos}:XE X (.Constant (.bool b) j pos) (fC (.bl b)):=⟨TG.IK ⟩
end
section
variable [aM] {X:Cx}
theorem gh {x j pos}:XE X (.Constant (.str x) j pos) (fC (.str x)):=⟨TG.He ⟩
end
section
variable [aM] {X:Cx}
theorem ak :XA X [] aw:=⟨TG.Cy ⟩
end
section
variable [aM] {X:Cx}
theorem ae {e:M0} {es:List M0} {f:FX} {g:aq->R (List D)} (he:XE X e f) (hs:XA X es g) (hns:noStar e=true:=by rfl):XA X (e::es) (af f g):=⟨TG.A1 he.h hs.h hns⟩
end
section
variable [aM] {X:Cx}
theorem dL {es:List M0} {g:aq->R (List D)} {k pos} (h:XA X es g):XE X (.Tuple es k pos) (fY g):=⟨TG.Im h.h⟩
end
section
variable [aM] {X:Cx}
theorem j5 {es:List M0} {g:aq->R (List D)} {pos} (h:XA X es g):XE X (.List es pos) (jb g):=⟨TG.G6 h.h⟩
end
section
variable [aM] {X:Cx}
theorem aj {a b:M0} {op:Operator} {r:R2} {g:D->D->Option D} {fa fb:FX} {pos:Pos} (ho:kU X (Nf op) r) (s:dm X.K r g) (ha:XE X a fa) (hb:XE X b fb):XE X (.BinOp a op b pos) (f2 g fa fb):=⟨TG.GV ho s ha.h hb.h⟩
end
section
variable [aM] {X:Cx}
theorem om {a b:M0} {op:CmpOp} {r:R2} {g:D->D->Option D} {fa fb:FX} {pos:Pos} (ho:kU X (Ng op) r) (s:dm X.K r g) (ha:XE X a fa) (hb:XE X b fb) (hm:Nh op b=false):XE X (.Compare a [op] [b] pos) (f2 g fa fb):=⟨TG.Ia ho s ha.h hb.h hm⟩
end
section
variable [aM] {X:Cx}
theorem cv {a b:M0} {op:CmpOp} {r:R2} {g:D->D->Option D} {fa fb:FX} {pos:Pos} (ho:kU X (Ng op) r) (s:dm X.K r g) (ha:XE X a fa) (hb:XE X b fb) (hm:Nh op b=false):XT X (.Compare a [op] [b] pos) (fB (f2 g fa fb)):=⟨TG.Hc ho s ha.h hb.h hm⟩
end
section
variable [aM] {X:Cx} {a b c:M0} {rest:List M0} {pos:Pos} {f g:aq->R Bool}
theorem kF (h:XT X a f):XT X (.UnaryOp .Not a pos) (sR f):=⟨TG.G7 h.h⟩
end
section
variable [aM] {X:Cx} {a b c:M0} {rest:List M0} {pos:Pos} {f g:aq->R Bool}
theorem ml (h:XT X a f):XW X (.BoolOp .Or [a] pos) f:=⟨TG.Hf h.h⟩
end
section
variable [aM] {X:Cx} {a b c:M0} {rest:List M0} {pos:Pos} {f g:aq->R Bool}
theorem oY (ha:XT X a f) (hb:XW X (.BoolOp .Or (b::rest) pos) g):XW X (.BoolOp .Or (a::b::rest) pos) (Ci f g):=⟨TG.IL ha.h hb.h⟩
end
section
variable [aM] {X:Cx} {a b c:M0} {rest:List M0} {pos:Pos} {f g:aq->R Bool} {fa fb:FX}
theorem sC {op} (h:XE X a fa):XE X (.BoolOp op [a] pos) fa:=⟨TG.Ih h.h⟩
end
section
variable [aM] {X:Cx} {a b c:M0} {rest:List M0} {pos:Pos} {f g:aq->R Bool} {fa fb:FX}
theorem n6 (ha:XE X a fa) (hb:XE X (.BoolOp .And (b::rest) pos) fb):XE X (.BoolOp .And (a::b::rest) pos) (o5 fa fb):=⟨TG.Hv ha.h hb.h⟩
end
section
variable [aM] {X:Cx}
theorem bN {a b:M0} {fa fb:FX} {pos:Pos} (ha:XE X a fa) (hb:XE X b fb) (hs:sf b):XE X (.Subscript a b pos) (f2 bL fa fb):=⟨TG.IG ha.h hb.h hs⟩
end
section
variable [aM] {X:Cx}
theorem fI :XO X none bn:=⟨TG.Gy ⟩
end
section
variable [aM] {X:Cx}
theorem fQ {e:M0} {f:FX} (h:XE X e f):XO X (some e) (cI f):=⟨TG.Gd h.h⟩
end
section
variable [aM] {X:Cx}
theorem d7 {e:M0} {f:FX} {l h:aq->R (Option Int)} {lo hi:Option M0} {p2 pos:Pos} (he:XE X e f) (hl:XO X lo l) (hh:XO X hi h):XE X (.Subscript e (.Slice lo hi none p2) pos) (bJ f l h):=⟨TG.Fv he.h hl.h hh.h⟩
end
section
variable [aM] {X:Cx} {x:Str} {p pos:Pos} {e:M0} {es:List M0} {id T:String} {g:List D->Option D} {f:aq->R (List D)}
theorem bF (hc:dq X (.builtin id) (we X.K g)) (hg:Gl X x) (hm:X.mg x=none) (hv:MU x=some (.builtin id)) (ha:XA X (e::es) f) (hn:x ≠ "__name__":=by decide) (hdb:(x==("__debug__":Str))=false:=by decide) (hns:(e::es).all noStar=true:=by rfl):XE X (.Call (.Name x p) (e::es) [] pos) (fL g f):=⟨TG.Ej hc hg hm hv ha.h hn hdb hns⟩
end
section
variable [aM] {X:Cx} {x:Str} {p pos:Pos} {e:M0} {es:List M0} {id T:String} {g:List D->Option D} {f:aq->R (List D)}
theorem bo (hc:dq X (.type T) (we X.K g)) (hg:Gl X x) (hm:X.mg x=none) (hv:MU x=some (.type T)) (ha:XA X (e::es) f) (hn:x ≠ "__name__":=by decide) (hdb:(x==("__debug__":Str))=false:=by decide) (hns:(e::es).all noStar=true:=by rfl):XE X (.Call (.Name x p) (e::es) [] pos) (fL g f):=⟨TG.D7 hc hg hm hv ha.h hn hdb hns⟩
end
section
variable [aM] {X:Cx} {x:Str} {p pos:Pos} {e:M0} {es:List M0} {id T:String} {g:List D->Option D} {f:aq->R (List D)}
theorem gz {f:FX} {xT:Str} {p2:Pos} (ok:uq X.K T) (hg:Gl X "isinstance") (hm:X.mg "isinstance"=none) (hgT:Gl X xT) (hmT:X.mg xT=none) (hvT:MU xT=some (.type T)) (he:XE X e f) (hn2:xT ≠ "__name__":=by decide) (hd2:(xT==("__debug__":Str))=false:=by decide) (hns:noStar e=true:=by rfl):XE X (.Call (.Name "isinstance" p) [e,.Name xT p2] [] pos) (n5 T f):=⟨TG.HU ok hg hm hgT hmT hvT he.h hn2 hd2 hns⟩
end
section
variable [aM] {X:Cx} {a:M0} {f:FX} {pos:Pos}
theorem cV (h:XE X a f) (he:∀ whole,isTrue a X.env whole=(do let v <- whole; standAt a.pos; holding [v] (truthy v)):=by intro _; rfl):XT X a (eT f):=⟨TG.Ea h.h he⟩
end
section
variable [aM] {X:Cx} {tg:M0}
theorem gg {e:M0} {f:FX} (h:XE X e f):XI X tg e (cL f):=⟨TG.HX h.h⟩
end
section
variable [aM] {X:Cx} {tg:M0}
theorem jq {a:M0} {f:aq->R (List D)} {p pos:Pos} (hg:Gl X "range") (hm:X.mg "range"=none) (ha:XA X [a] f) (hs:M1 [a] X.env=[(false,eval a X.env)]:=by rfl):XI X tg (.Call (.Name "range" p) [a] [] pos) (gq f):=⟨TG.D5 hg hm ha.h hs⟩
end
section
variable [aM] {X:Cx} {tg:M0}
theorem vG {a b:M0} {f:aq->R (List D)} {p pos:Pos} (hg:Gl X "range") (hm:X.mg "range"=none) (ha:XA X [a,b] f) (hs:M1 [a,b] X.env=[(false,eval a X.env),(false,eval b X.env)]:=by rfl) (hs2:M1 [b] X.env=[(false,eval b X.env)]:=by rfl):XI X tg (.Call (.Name "range" p) [a,b] [] pos) (n8 f):=⟨TG.D4 hg hm ha.h hs hs2⟩
end
section
variable [aM] {X:Cx} {pos:Pos}
theorem bg {i:Nat} {x:Str} (hN:X.N.Nodup) (hi:X.N[i]?=some x) (hx:Loc X.env.scope x) (hf:X.fn x=true\/X.env.scope.names.lookup x=some .local:=by first | exact .inl rfl | exact .inr rfl | assumption):XG X (.Name x pos) (gN i):=⟨TG.Gg hN hi hx hf⟩
end
section
variable [aM] {X:Cx} {pos:Pos}
theorem iM :FU X [] zi:=⟨TG.Gp ⟩
end
section
variable [aM] {X:Cx} {pos:Pos}
theorem cy {e:M0} {es:List M0} {g:GF} {h:yS} (h1:XG X e g) (h2:FU X es h) (hs:(assignEach (e::es) X.env).map (·.2)=assign e X.env::(assignEach es X.env).map (·.2):=by rfl):FU X (e::es) (vD g h):=⟨TG.Ek h1.h h2.h hs⟩
end
section
variable [aM] {X:Cx} {pos:Pos}
theorem jZ {es:List M0} {k:Nat} {g:yS} {n:Nat} (hc:X.calm=true) (h:FU X es g) (hn:(assignEach es X.env).length=n:=by rfl) (hst:(assignEach es X.env).findIdx? (·.1)=none:=by rfl):XG X (.Tuple es k pos) (gT n g):=⟨TG.HJ hc h.h hn hst⟩
end
section
variable [aM]
theorem lY {X:Cx}:Ip X [] ga:=⟨TG.FY ⟩
end
section
variable [aM]
theorem oA {X:Cx} {c:M0} {F:aq->R Bool} (h:XT X c F):Ip X [c] F:=⟨TG.Ge h.h⟩
end
section
variable [aM] {X:Cx} {elt tg iter:M0} {ifs:List M0} {scope:MY} {pos:Pos} {N:List Str} {ix:List (Option Nat)} {G:aq->R (List D)} {g:GF} {C:aq->R Bool} {Fe:FX}
theorem mN (hc:X.calm=true) (ok:lI X scope N ix) (tk:tO ix g) (hi:XI X tg iter G) (hb:Cw X scope N tg elt ifs g C Fe) (hs:∀ x,Nb iter X.env x=pure x:=by intro _; rfl):XE X (.ListComp elt [⟨tg,iter,ifs,0⟩] scope pos) (mC ix G g C Fe):=⟨TG.II hc ok tk hi.h hb.h hs⟩
end
section
variable [aM] {X:Cx} {st:M2} {rest body:List M2} {pos:Pos}
theorem aV :wu X [] cS:=⟨TG.Gh ⟩
end
section
variable [aM] {X:Cx} {st:M2} {rest body:List M2} {pos:Pos}
theorem ao {F1 F2:cf} (h1:XS X st F1) (h2:wu X rest F2):wu X (st::rest) (aQ F1 F2):=⟨TG.Fp h1.h h2.h⟩
end
section
variable [aM] {X:Cx} {st:M2} {rest body:List M2} {pos:Pos}
theorem aC {F1:cf} (h1:XS X st F1):wu X [st] F1:=⟨TG.Gi h1.h⟩
end
section
variable [aM] {X:Cx} {st:M2} {rest body:List M2} {pos:Pos}
theorem aU {e:M0} {f:FX} (h:XE X e f):XS X (.Return (some e) pos) (bT f):=⟨TG.Ha h.h⟩
end
section
variable [aM] {X:Cx} {st:M2} {rest body:List M2} {pos:Pos}
theorem cJ {c:M0} {a b:List M2} {tc:aq->R Bool} {A B:cf} (hc:XT X c tc) (ha:wu X a A) (hb:wu X b B):XS X (.If c a b pos) (mJ tc A B):=⟨TG.IJ hc.h ha.h hb.h⟩
end
section
variable [aM] {X:Cx} {st:M2} {rest body:List M2} {pos:Pos}
theorem aR {i:Nat} {x:Str} {e:M0} {f:FX} {pos':Pos} (hN:X.N.Nodup) (hi:X.N[i]?=some x) (hx:Loc X.env.scope x) (he:XE X e f) (hs:swapsWith e (some (.Name x pos')) pos.line X.env=pure false:=by rfl) (hf:X.fn x=true\/X.env.scope.names.lookup x=some .local:=by first | exact .inl rfl | exact .inr rfl | assumption):XS X (.Assign [.Name x pos'] e pos) (cx i f):=⟨TG.Ic hN hi hx he.h hs hf⟩
end
section
variable [aM] {X:Cx} {st:M2} {rest body:List M2} {pos:Pos}
theorem cz {st:List M2} {F:cf} (is:List Nat) (h:wu X st F):wu X st (eN is F):=⟨TG.FH is h.h⟩
end
section
variable [aM] {X:Cx} {st:M2} {rest body:List M2} {pos:Pos}
theorem dN {tg iter:M0} {G:aq->R (List D)} {g:GF} {B:cf} (hp:M9 (model X.prog X.w) X.A X.env X.xe) (hc:X.calm=true) (hi:XI X tg iter G) (hg:XG X tg g) (hb:wu X body B) (hs:∀ x,Nb iter X.env x=pure x:=by intro _; rfl):XS X (.For tg iter body [] pos) (ju G g B):=⟨TG.GZ hp hc hi.h hg.h hb.h hs⟩
end
section
variable [aM] {X:Cx} {pos:Pos}
theorem iS {es:List M0} {g:aq->R (List D)} (h:XA X es g):XN X (.List es pos) (jb g):=⟨TG.GH h.h⟩
end
section
variable [aM] {X:Cx} {pos:Pos}
theorem nH :XN X (.Dict [] [] pos) qq:=⟨TG.zW ⟩
end
section
variable [aM] {X:Cx} {pos:Pos}
theorem fA {i:Nat} {x:Str} {e:M0} {f:FX} {pos':Pos} (hN:X.N.Nodup) (hi:X.N[i]?=some x) (hx:Loc X.env.scope x) (he:XN X e f) (hs:swapsWith e (some (.Name x pos')) pos.line X.env=pure false:=by rfl) (hf:X.fn x=true\/X.env.scope.names.lookup x=some .local:=by first | exact .inl rfl | exact .inr rfl | assumption):XS X (.Assign [.Name x pos'] e pos) (lZ i f):=⟨TG.Ig hN hi hx he.h hs hf⟩
end
section
variable [aM]
theorem DK {X:Cx} {elt tg iter:M0} {ifs:List M0} {scope:MY} {pos:Pos} {N:List Str} {ix:List (Option Nat)} {G:aq->R (List D)} {g:GF} {C:aq->R Bool} {Fe:FX} (hc:X.calm=true) (ok:lI X scope N ix) (tk:tO ix g) (hi:XI X tg iter G) (hb:Cw X scope N tg elt ifs g C Fe) (hs:∀ x,Nb iter X.env x=pure x:=by intro _; rfl):XN X (.ListComp elt [⟨tg,iter,ifs,0⟩] scope pos) (mC ix G g C Fe):=⟨TG.IH hc ok tk hi.h hb.h hs⟩
end
section
variable [aM]
theorem ly {X : Cx} {i : Nat} {x m : Str} {id : String} {r : V -> List V -> Hp -> VK -> Prop} {u : List D -> List D -> Option (List D)} {e : M0} {es : List M0} {f : aq -> R (List D)} {npos apos cpos pos : Pos} (slot : Slot "list" m id) (hty : typeOf (.builtin id) = pure (.type "method_descriptor")) (hm : Fz X id r) (ok : zq X.K r u) (hx : XV X (.Name x npos) i) (he : XA X (e :: es) f) (hbase : Nk (.Name x npos) m X.env (eval (.Name x npos) X.env) = eval (.Name x npos) X.env := by rfl) (hfew : ((backTo cpos (M1 (e :: es) X.env)).all (fun x => !x.1) && (backToKw cpos (Nn [] X.env)).all (fun x => x.1.isSome)
      && decide ((e::es:List M0).length+([]:List NI).length+(if ([]:List NI).isEmpty then 0 else 1) < 30))=true:=by rfl) (hline:(apos.endLine==cpos.line)=true:=by rfl) (hs:M1 (e::es) X.env=(false,eval e X.env)::M1 es X.env:=by rfl) (hplain:(backTo cpos (M1 es X.env)).any (·.1)=false:=by rfl) (hsw:swapsWith (.Call (.Attribute (.Name x npos) m apos) (e::es) [] cpos) none pos.line X.env=pure false:=by rfl):XS X (.Expr (.Call (.Attribute (.Name x npos) m apos) (e::es) [] cpos) pos) (yH i u f):=⟨TG.Iz slot hty hm ok hx.h he.h hbase hfew hline hs hplain hsw⟩
end
section
variable [aM]
theorem dI {X:Cx} {st:List M2} {F:cf} (i:Nat) (h:wu X st F):wu X st (gI i F):=⟨TG.Ga i h.h⟩
end
section
variable [aM]
theorem t9 {X:Cx} {e:M0} {f:aq->R Bool} (is:List Nat) (h:XT X e f):XT X e (jL is f):=⟨TG.FQ is h.h⟩
end
section
variable [aM]
theorem ay {X:Cx} {k k':Nat} {ps:List Str} {g:List D->R D} {h:aq->R (List D)} {x:Str} {p pos:Pos} {e:M0} {es:List M0} (C:Callee X.prog X.w X.K X.mg X.base k x ps g) (hn:Ar ps.length g) (hr:e7 k' X.A) (hk:k<=k') (ha:XA X (e::es) h) (hg:Gl X x:=by rfl) (hdb:(x==("__debug__":Str))=false:=by decide) (hns:(e::es).all noStar=true:=by rfl):XE X (.Call (.Name x p) (e::es) [] pos) (fR g h):=⟨TG.D8 C hn hr hk ha.h hg hdb hns⟩
end
section
variable [aM] {X:Cx} {a b c:M0} {fa fb fc:FX} {pos:Pos}
theorem Ba (ha:XE X a fa):XE X (.UnaryOp .USub a pos) (Bp fa):=⟨TG.Hm ha.h⟩
end
section
variable [aM] {X:Cx}
theorem AG {a b:M0} {es:List M0} {k:Nat} {tpos:Pos} {f:aq->R (List D)} {p pos:Pos} (hg:Gl X "zip") (hm:X.mg "zip"=none) (ha:XA X [a,b] f) (hs:M1 [a,b] X.env=(false,eval a X.env)::M1 [b] X.env:=by rfl) (hpl:(backTo pos (M1 [b] X.env)).any (·.1)=false:=by rfl):XI X (.Tuple es k tpos) (.Call (.Name "zip" p) [a,b] [] pos) (AW f):=⟨TG.Iu hg hm ha.h hs hpl⟩
end
section
variable [aM] {X:Cx}
theorem li {a:M0} {es:List M0} {k:Nat} {tpos:Pos} {f:aq->R (List D)} {p pos:Pos} (hg:Gl X "enumerate") (hm:X.mg "enumerate"=none) (ha:XA X [a] f) (hs:M1 [a] X.env=(false,eval a X.env)::M1 [] X.env:=by rfl) (hpl:(backTo pos (M1 [] X.env)).any (·.1)=false:=by rfl):XI X (.Tuple es k tpos) (.Call (.Name "enumerate" p) [a] [] pos) (dS f):=⟨TG.Br hg hm ha.h hs hpl⟩
end
section
variable [aM] {X:Cx} {a o e:M0} {es:List M0} {fa fo:FX} {fas:aq->R (List D)} {f m x:Str} {cs:List Str} {pos apos p:Pos} {k k':Nat} {ps:List Str}
theorem wM (ok:tH X.K f cs) (h:XE X a fa) (hb:Nk a f X.env (eval a X.env)=eval a X.env:=by rfl):XE X (.Attribute a f pos) (f1 (sN f cs) fa):=⟨TG.Iq ok h.h hb⟩
end
section
variable [aM] {X:Cx} {a o e:M0} {es:List M0} {fa fo:FX} {fas:aq->R (List D)} {f m x:Str} {cs:List Str} {pos apos p:Pos} {k k':Nat} {ps:List Str}
theorem fP {tbl : List (Str × (List D -> R D))} {pl : Sem Bool} (tb : lh X.prog X.w X.K X.mg X.base k m ps tbl) (hr : e7 k' X.A) (hk : k <= k') (ho : XE X o fo) (ha : XA X (e :: es) fas) (hns : (e :: es).all noStar = true := by rfl) (ht : eval (.Call (.Attribute o m apos) (e :: es) [] pos) X.env = (do
      let ov <- eval o X.env
      standAt apos.atName
      let (f,first) <- holding [ov] (getMethod ov m pl)
      Nm pos f first (backTo pos (M1 (e::es) X.env)) (backToKw pos (Nn [] X.env))):=by rfl):XE X (.Call (.Attribute o m apos) (e::es) [] pos) (iy m tbl fo fas):=⟨TG.FP tb hr hk ho.h ha.h hns ht⟩
end
section
variable [aM] {X:Cx} {a o e:M0} {es:List M0} {fa fo:FX} {fas:aq->R (List D)} {f m x:Str} {cs:List Str} {pos apos p:Pos} {k k':Nat} {ps:List Str}
theorem Bo {c:Str} {fs:List Str} (IA:oK X.prog X.w X.K X.mg X.base k c ps fs) (hr:e7 k' X.A) (hk:k+1<=k') (hg:Gl X c) (ha:XA X (e::es) fas) (hdb:(c==("__debug__":Str))=false:=by decide) (hns:(e::es).all noStar=true:=by rfl):XE X (.Call (.Name c p) (e::es) [] pos) (fNew c fs fas):=⟨TG.G4 IA hr hk hg ha.h hdb hns⟩
end
section
variable [aM]
theorem uf {X:Cx} {i:Nat} {x:Str} {idx value:M0} {fk fv:FX} {npos tpos pos:Pos} (hu:X.A.units+64 < Np) (hx:XV X (.Name x npos) i) (hi:XE X idx fk) (hv:XE X value fv) (hs:swapsWith value (some (.Subscript (.Name x npos) idx tpos)) pos.line X.env=pure false:=by rfl):XS X (.Assign [.Subscript (.Name x npos) idx tpos] value pos) (pf i fk fv):=⟨TG.GA hu hx.h hi.h hv.h hs⟩
end
section
variable [aM]
theorem tD {X:Cx} {i:Nat} {x:Str} {idx value:M0} {fk fv:FX} {npos tpos pos:Pos} (hu:X.A.units+64 < Np) (hx:XV X (.Name x npos) i) (hi:XE X idx fk) (hv:XE X value fv) (hs:swapsWith value (some (.Subscript (.Name x npos) idx tpos)) pos.line X.env=pure false:=by rfl):XS X (.Assign [.Subscript (.Name x npos) idx tpos] value pos) (lL i fk fv):=⟨TG.GB hu hx.h hi.h hv.h hs⟩
end
section
variable [aM] {X:Cx} {pos:Pos}
theorem zx {i:Nat} {x:Str} {dp pos':Pos} (hN:X.N.Nodup) (hi:X.N[i]?=some x) (hx:Loc X.env.scope x) (hs:swapsWith (.Dict [] [] dp) (some (.Name x pos')) pos.line X.env=pure false:=by rfl) (hf:X.fn x=true\/X.env.scope.names.lookup x=some .local:=by first | exact .inl rfl | exact .inr rfl | assumption):XS X (.Assign [.Name x pos'] (.Dict [] [] dp) pos) (sW i):=⟨TG.Gf hN hi hx hs hf⟩
end
section
variable [aM] {X:Cx}
theorem AQ {i:Nat} {x:Str} {ke ve:M0} {fk fv:FX} {npos ap1 cp1 lp ap2 cp2 pos:Pos} (hu:X.A.units+64 < Np) (hx:XV X (.Name x npos) i) (hke:XE X ke fk) (hve:XE X ve fv) (hn1:noStar ke=true:=by rfl) (hn2:noStar ve=true:=by rfl) (hb1:Nk (.Name x npos) "setdefault" X.env (eval (.Name x npos) X.env)=eval (.Name x npos) X.env:=by rfl) (hf1:((backTo cp1 (M1 [ke,.List [] lp] X.env)).all (fun x=>!x.1) && (backToKw cp1 (Nn [] X.env)).all (fun x=>x.1.isSome) && decide (([ke,.List [] lp]:List M0).length+([]:List NI).length+(if ([]:List NI).isEmpty then 0 else 1) < 30))=true:=by rfl) (hl1:(ap1.endLine==cp1.line)=true:=by rfl) (hp1:(backTo cp1 (M1 [.List [] lp] X.env)).any (·.1)=false:=by rfl) (hb2:Nk (.Call (.Attribute (.Name x npos) "setdefault" ap1) [ke,.List [] lp] [] cp1) "append" X.env (eval (.Call (.Attribute (.Name x npos) "setdefault" ap1) [ke,.List [] lp] [] cp1) X.env)=eval (.Call (.Attribute (.Name x npos) "setdefault" ap1) [ke,.List [] lp] [] cp1) X.env:=by rfl) (hf2:((backTo cp2 (M1 [ve] X.env)).all (fun x=>!x.1) && (backToKw cp2 (Nn [] X.env)).all (fun x=>x.1.isSome) && decide (([ve]:List M0).length+([]:List NI).length+(if ([]:List NI).isEmpty then 0 else 1) < 30))=true:=by rfl) (hl2:(ap2.endLine==cp2.line)=true:=by rfl) (hp2:(backTo cp2 (M1 [] X.env)).any (·.1)=false:=by rfl) (hsw:swapsWith (.Call (.Attribute (.Call (.Attribute (.Name x npos) "setdefault" ap1) [ke,.List [] lp] [] cp1) "append" ap2) [ve] [] cp2) none pos.line X.env=pure false:=by rfl):XS X (.Expr (.Call (.Attribute (.Call (.Attribute (.Name x npos) "setdefault" ap1) [ke,.List [] lp] [] cp1) "append" ap2) [ve] [] cp2) pos) (yy i fk fv):=⟨TG.GK hu hx.h hke.h hve.h hn1 hn2 hb1 hf1 hl1 hp1 hb2 hf2 hl2 hp2 hsw⟩
end
section
variable [aM] {X:Cx}
theorem qB {o:M0} {es:List M0} {k:Nat} {tpos:Pos} {f:FX} {apos cpos:Pos} (ho:XE X o f) (hbase:Nk o "items" X.env (eval o X.env)=eval o X.env:=by rfl) (hline:(apos.endLine==cpos.line)=true:=by rfl):XI X (.Tuple es k tpos) (.Call (.Attribute o "items" apos) [] [] cpos) (jk f):=⟨TG.Ft ho.h hbase hline⟩
end
section
variable [aM]
theorem xZ {X:Cx} {st:List M2} {F:cf} (i:Nat) (h:wu X st F):wu X st (rd i F):=⟨TG.E8 i h.h⟩
end
section
variable [aM] {X:Cx}
theorem A7 {o e:M0} {fo fk:FX} {pos:Pos} (hu:X.A.units+64 < Np) (ho:XE X o fo) (hi:XE X e fk) (hs:Bt e):XE X (.Subscript o e pos) (f2 vR fo fk):=⟨TG.HV hu ho.h hi.h hs⟩
end
section
variable [aM]
theorem BU {X:Cx} {i:Nat} {x:Str} {e:M0} {f:FX} {npos apos cpos pos:Pos} (hx:XV X (.Name x npos) i) (he:XN X e f) (hns:noStar e=true:=by rfl) (hbase:Nk (.Name x npos) "extend" X.env (eval (.Name x npos) X.env)=eval (.Name x npos) X.env:=by rfl) (hfew:((backTo cpos (M1 [e] X.env)).all (fun x=>!x.1) && (backToKw cpos (Nn [] X.env)).all (fun x=>x.1.isSome) && decide (([e]:List M0).length+([]:List NI).length+(if ([]:List NI).isEmpty then 0 else 1) < 30))=true:=by rfl) (hline:(apos.endLine==cpos.line)=true:=by rfl) (hplain:(backTo cpos (M1 [] X.env)).any (·.1)=false:=by rfl) (hsw:swapsWith (.Call (.Attribute (.Name x npos) "extend" apos) [e] [] cpos) none pos.line X.env=pure false:=by rfl):XS X (.Expr (.Call (.Attribute (.Name x npos) "extend" apos) [e] [] cpos) pos) (Ax i f):=⟨TG.Hz hx.h he.h hns hbase hfew hline hplain hsw⟩
end
abbrev Lk (K:LQ) (f:MP) (nm qual:Str) (st:M2) (oc:MM) (od:Option MP) (kV dc pm:MM) (an:Option MP) (cd ct:MM) (sl:Array (Option MM)):Prop:=K.lookup f=some ⟨oc,od,.func (L9 nm qual (kN st) (eD st) (aA st) .none kV dc pm an cd ct),sl⟩
structure dF (P:MO) (w:MN) (K:LQ) (mg:Str->Option MM) (base:MR) (k:Nat) (N:List Str) (qual:Str) (st:M2) (f:MP) (B:cf):Prop where
 h:∀ (cdv:MM) (A:MV) (outer:List Env) (s:MX) (H:Hp) (E:XK),e7 k (A.deeper (My qual (aA st) s.heap.objs.size f cdv))->M9 (model P w) (A.deeper (My qual (aA st) s.heap.objs.size f cdv)) (My qual (aA st) s.heap.objs.size f cdv) (jG (mS P w) P w K mg base N qual (aA st) f cdv A outer s H E).xe ->
  wu (jG (mS P w) P w K mg base N qual (aA st) f cdv A outer s H E) (eD st) B
theorem dF.ok {P:MO} {w:MN} {K:LQ} {mg:Str->Option MM} {base:MR} {k:Nat} {N:List Str} {qual:Str} {st:M2} {f:MP} {B:cf} (h:dF P w K mg base k N qual st f B):BodyOk P w K mg base k N qual st f B:=⟨fun cdv A outer s H E hr hp=>(h.h cdv A outer s H E hr hp).h⟩
end TX
namespace TG
open L2
instance (priority:=low) noTabs:aM:=⟨fun _=>True,fun _ _=>trivial,fun _ _ _=>trivial⟩
end TG
namespace TG
open PySem PySem.Spec L2
theorem nr {α:Sort _} {a b:α} (h:a=b):a=b:=h
theorem cB {α β:Type} (a:α) (f:α->R β):Except.bind (Except.ok a:R α) f=f a:=nr rfl
theorem q5 {α β:Type} (x:Option Ex) (f:α->R β):Except.bind (Except.error x:R α) f=.error x:=nr rfl
theorem nT {α:Type} (a:α) (k:Ks) (ρ:aq) (f:α->R D):pV (.ok a) k ρ f=f a:=nr rfl
theorem qN {α:Type} (x:Ex) (k:Ks) (ρ:aq) (f:α->R D):pV (.error (some x)) k ρ f=k.ex x ρ:=nr rfl
theorem gb {α:Type} (a:α):yF (.ok a:R α)=.ok a:=nr rfl
theorem dQ {α:Type} (a:α):rO (some a)=.ok a:=nr rfl
theorem ge_0 (d:D) (ρ:aq):pK (some (.val d)::ρ) 0=.ok d:=nr rfl
theorem yn (x:Option S) (ρ:aq) (i:Nat):pK (x::ρ) (i+1)=pK ρ i:=by
 unfold pK; rw [Kz]
theorem nF (i:Nat) (ρ:aq):ah i ρ=pK ρ i:=nr rfl
theorem ye (d:D) (ρ:aq):fC d ρ=.ok d:=nr rfl
theorem mB (ρ:aq):aw ρ=.ok []:=nr rfl
theorem j9 (f:FX) (g:aq->R (List D)) (ρ:aq):af f g ρ=(f ρ).bind fun x=>(g ρ).bind fun xs=>.ok (x::xs):=nr rfl
theorem mG (g:aq->R (List D)) (ρ:aq):fY g ρ=(g ρ).bind fun xs=>rO (qM xs):=nr rfl
theorem mK (g:aq->R (List D)) (ρ:aq):jb g ρ=(g ρ).bind fun xs=>rO (lV xs):=nr rfl
theorem yO (g:D->Option D) (f:FX) (ρ:aq):f1 g f ρ=(f ρ).bind fun a=>rO (g a):=nr rfl
theorem yk (g:D->D->Option D) (f h:FX) (ρ:aq):f2 g f h ρ=(f ρ).bind fun a=>(h ρ).bind fun b=>rO (g a b):=nr rfl
theorem yR (f:FX) (ρ:aq):fB f ρ=(f ρ).bind fun d=>rO (HH d):=nr rfl
theorem xR (g:List D->Option D) (f:aq->R (List D)) (ρ:aq):fL g f ρ=(f ρ).bind fun ds=>rO (g ds):=nr rfl
theorem x4 (g:List D->R D) (f:aq->R (List D)) (ρ:aq):fR g f ρ=(f ρ).bind g:=nr rfl
theorem ny (f:aq->R Bool) (ρ:aq):sR f ρ=(f ρ).bind fun b=>.ok (!b):=nr rfl
theorem my (f g:aq->R Bool) (ρ:aq):GD f g ρ=(f ρ).bind fun b=>if b then g ρ else .ok false:=nr rfl
theorem rB (f g:aq->R Bool) (ρ:aq):Ci f g ρ=(f ρ).bind fun b=>if b then .ok true else g ρ:=nr rfl
theorem iO (f:FX) (ρ:aq):eT f ρ=(f ρ).bind fun d=>rO (truth d):=nr rfl
theorem j8 (f g:FX) (ρ:aq):o5 f g ρ=(f ρ).bind fun d=>vn d (g ρ):=nr rfl
theorem mP (f g:FX) (ρ:aq):Hl f g ρ=(f ρ).bind fun d=>Ec d (g ρ):=nr rfl
theorem kB (f:FX) (ρ:aq):Ep f ρ=(f ρ).bind fun a=>rO (Cz a):=nr rfl
theorem qW (t:aq->R Bool) (f g:FX) (ρ:aq):Jh t f g ρ=(t ρ).bind fun c=>if c then f ρ else g ρ:=nr rfl
theorem nB (T:String) (f:FX) (ρ:aq):n5 T f ρ=(f ρ).bind fun a=>rO (me T a):=nr rfl
theorem mX (f:FX) (ρ:aq):HZ f ρ=(f ρ).bind fun a=>.ok (.bl (isNon a)):=nr rfl
theorem kC (f:FX) (ρ:aq):FC f ρ=(f ρ).bind fun a=>.ok (.bl (!isNon a)):=nr rfl
theorem ng (f:FX) (ρ:aq):Bp f ρ=(f ρ).bind fun a=>rO (CZ a):=nr rfl
theorem iD (f:FX) (ρ:aq):DH f ρ=(f ρ).bind fun a=>rO (y9 a):=nr rfl
theorem mL (f:FX) (ρ:aq):Id f ρ=(f ρ).bind fun a=>rO (C2 a):=nr rfl
theorem iK (g g':D->D->Option D) (fa fb fc:FX) (ρ:aq):DF g g' fa fb fc ρ=(fa ρ).bind fun x=>(fb ρ).bind fun y=>(rO (g x y)).bind fun z=>vn z ((fc ρ).bind fun w=>rO (g' y w)):=nr rfl
theorem ib (f:FX) (ρ:aq):cL f ρ=(f ρ).bind fun d=>rO (oU d):=nr rfl
theorem gC (f:aq->R (List D)) (ρ:aq):gq f ρ=(f ρ).bind fun ds=>rO (kK ds):=nr rfl
theorem gF (f:aq->R (List D)) (ρ:aq):n8 f ρ=(f ρ).bind fun ds=>rO (n9 ds):=nr rfl
theorem mD (f:aq->R (List D)) (ρ:aq):AW f ρ=(f ρ).bind fun ds=>rO (yv ds):=nr rfl
theorem kx (f:aq->R (List D)) (ρ:aq):dS f ρ=(f ρ).bind fun ds=>rO (rg ds):=nr rfl
theorem mZ (z:Str):Jg (.str z)=some z:=nr rfl
theorem gD (ρ:aq):bn ρ=.ok none:=nr rfl
theorem kL (f:FX) (ρ:aq):cI f ρ=(f ρ).bind fun d=>rO (vg d):=nr rfl
theorem iI (f:FX) (l h:aq->R (Option Int)) (ρ:aq):bJ f l h ρ=(f ρ).bind fun a=>(l ρ).bind fun lo=>(h ρ).bind fun hi=>rO (oI a lo hi):=nr rfl
theorem jY (ρ:aq):ga ρ=.ok true:=nr rfl
theorem kr (k:Ks) (ρ:aq):cS k ρ=k.nx ρ:=nr rfl
theorem gx (A B:cf) (k:Ks) (ρ:aq):aQ A B k ρ=A { k with nx:=B k } ρ:=nr rfl
theorem kz (f:FX) (k:Ks) (ρ:aq):bT f k ρ=pV (f ρ) k ρ .ok:=nr rfl
theorem iP (k:Ks) (ρ:aq):Ef k ρ=.ok .non:=nr rfl
theorem lj (c:aq->R Bool) (A B:cf) (k:Ks) (ρ:aq):mJ c A B k ρ=pV (c ρ) k ρ fun b=>if b then A k ρ else B k ρ:=nr rfl
theorem kn (i:Nat) (f:FX) (k:Ks) (ρ:aq):cx i f k ρ=pV (f ρ) k ρ fun d=>k.nx (setV i d ρ):=nr rfl
theorem ip (is:List Nat) (F:cf) (k:Ks) (ρ:aq):eN is F k ρ=F k (kill is ρ):=nr rfl
theorem hJ (G:aq->R (List D)) (g:GF) (B:cf) (k:Ks) (ρ:aq):ju G g B k ρ=pV (G ρ) k ρ fun ds=>jt g B k ds ρ:=nr rfl
theorem yN (d:D) (x:Option S) (ρ:aq):setV 0 d (x::ρ)=some (.val d)::ρ:=nr rfl
theorem yq (i:Nat) (d:D) (x:Option S) (ρ:aq):setV (i+1) d (x::ρ)=x::setV i d ρ:=nr rfl
theorem m9 (ρ:aq):kill [] ρ=ρ:=nr rfl
theorem kH (i:Nat) (is:List Nat) (ρ:aq):kill (i::is) ρ=kill is (ρ.set i none):=nr rfl
theorem vH (B:cf) (n:Nat) (a:D):bj B 1 n [a]=B K0 (env0 n [a]):=nr rfl
theorem fX (B:cf) (n:Nat) (a b:D):bj B 2 n [a,b]=B K0 (env0 n [a,b]):=nr rfl
theorem rM (B:cf) (n:Nat) (a b c:D):bj B 3 n [a,b,c]=B K0 (env0 n [a,b,c]):=nr rfl
theorem vp (B:cf) (n:Nat) (a b c d:D):bj B 4 n [a,b,c,d]=B K0 (env0 n [a,b,c,d]):=nr rfl
theorem Dk (B:cf) (n:Nat) (a b c d e:D):bj B 5 n [a,b,c,d,e]=B K0 (env0 n [a,b,c,d,e]):=nr rfl
theorem mR (ρ:aq):inB [] ρ=[]:=nr rfl
theorem kJ (ix:List (Option Nat)) (ρ:aq):inB (none::ix) ρ=none::inB ix ρ:=nr rfl
def pick (ρ:aq) (i:Nat):Option S:=match ρ[i]? with
 | some (some (.val d))=>some (.val d)
 | _=>none
theorem kj (i:Nat) (ix:List (Option Nat)) (ρ:aq):inB (some i::ix) ρ=pick ρ i::inB ix ρ:=nr rfl
theorem yj (d:D) (ρ:aq):pick (some (.val d)::ρ) 0=some (.val d):=rfl
theorem x3 (x:Option S) (ρ:aq) (i:Nat):pick (x::ρ) (i+1)=pick ρ i:=by
 unfold pick; rw [Kz]
theorem ki (i:Nat) (f:FX) (k:Ks) (ρ:aq):lZ i f k ρ=pV (f ρ) k ρ fun d=>k.nx (ρ.set i (some (.own d))):=nr rfl
theorem jX (i:Nat) (F:cf) (k:Ks) (ρ:aq):gI i F k ρ=F k (frz i ρ):=nr rfl
theorem yK (d:D) (ρ:aq):frz 0 (some (.own d)::ρ)=some (.val d)::ρ:=nr rfl
theorem qY (d:D) (ρ:aq):frz 0 (some (.val d)::ρ)=some (.val d)::ρ:=nr rfl
theorem xA (i:Nat) (x:Option S) (ρ:aq):frz (i+1) (x::ρ)=x::frz i ρ:=by
 unfold frz
 rw [Kz]
 split <;> rename_i h
 ·rw [h]; rfl
 ·rfl
theorem lH (i:Nat) (u:List D->List D->Option (List D)) (f:aq->R (List D)) (k:Ks) (ρ:aq) {xs:List D} (h:ρ[i]?=some (some (.own (.lst xs)))):yH i u f k ρ=pV (f ρ) k ρ fun ds=>(rO (u xs ds)).bind fun ys=>k.nx (ρ.set i (some (.own (.lst ys)))):=by
 unfold yH; rw [h]
theorem lm {xs:List D} {y:D} (h:xs.length < 100000):fV xs [y]=some (xs++[y]):=by
 show (if small (xs.length+1) then some (xs++[y]) else none)=_
 rw [dj ‹0›]; rfl
theorem mV (i j:Int):cp (.int i) (.int j)=some (.int (i+j)):=nr rfl
theorem nE (i j:Int):TG.vX (.int i) (.int j)=some (.int (i - j)):=nr rfl
theorem qU (i j:Int):Je (.int i) (.int j)=some (.bl (decide (i < j))):=nr rfl
theorem ni (i j:Int):rX (.int i) (.int j)=some (.bl (decide (i < j))):=nr rfl
theorem nz (x y:Str):rX (.str x) (.str y)=some (.bl (decide (x.cps.toList < y.cps.toList))):=nr rfl
theorem nA (c d:Bool):HS (.bl c) (.bl d)=some (.bl (c==d)):=nr rfl
theorem gE (c d:Bool):AU (.bl c) (.bl d)=some (.bl (!(c==d))):=nr rfl
theorem qz (i j:Int):Jb (.int i) (.int j)=some (.bl (decide (i<=j))):=nr rfl
theorem ro (i j:Int):Ja (.int i) (.int j)=some (.bl (decide (j < i))):=nr rfl
theorem rE (i j:Int):Jf (.int i) (.int j)=some (.bl (decide (j<=i))):=nr rfl
theorem nG (i:Int):CZ (.int i)=some (.int (-i)):=nr rfl
theorem bz {i j:Int} (h:0 < j):bK (.int i) (.int j)=some (.int (i%j)):=by
 show (if decide (0 < j) then some (D.int (i%j)) else none)=_
 rw [decide_eq_true h]; rfl
theorem bU {i j:Int} (h:0 < j) (h':j < 10 ^ 200):cN (.int i) (.int j)=some (.int (i / j)):=by
 show (if decide (0 < j/\j < 10 ^ 200) then some (D.int (i / j)) else none)=_
 rw [decide_eq_true ⟨h,h'⟩]; rfl
theorem oo {i j:Int} (h:-(2 ^ 64) < i) (h':i < 2 ^ 64):lw (.int i) (.int j)=some (.int (i*j)):=by
 show (if decide ((-(2 ^ 64) < i/\i < 2 ^ 64)\/(-(2 ^ 64) < j/\j < 2 ^ 64)) then some (D.int (i*j)) else none)=_
 rw [decide_eq_true (.inl ⟨h,h'⟩)]; rfl
theorem lX {i j:Int} (h:-(2 ^ 64) < j) (h':j < 2 ^ 64):lw (.int i) (.int j)=some (.int (i*j)):=by
 show (if decide ((-(2 ^ 64) < i/\i < 2 ^ 64)\/(-(2 ^ 64) < j/\j < 2 ^ 64)) then some (D.int (i*j)) else none)=_
 rw [decide_eq_true (.inr ⟨h,h'⟩)]; rfl
theorem vF (i:Int) (n:Nat) (h:n<=1000000) (h':i.natAbs < 2 ^ 64):nX (.int i) (.int n)=some (.int (i ^ n)):=by
 show (if decide (0<=(n:Int)/\(n:Int)<=1000000/\i.natAbs < 2 ^ 64) then some (D.int (i ^ (n:Int).toNat)) else none)=_
 rw [decide_eq_true ⟨by omega,by omega,h'⟩]; rfl
theorem yV:nX (.int 10) (.int 59)=some (.int (10 ^ 59)):=vF 10 59 (by decide) (by decide)
def B7:Int:=10 ^ 59
def Jj:Int:=10 ^ 60
theorem Fh:1000000 < B7/\B7*10=Jj:=by decide +kernel
theorem Ds:nX (.int 10) (.int 59)=some (.int B7):=yV
theorem iB (i j:Int):lA (.int i) (.int j)=some (.bl (i==j)):=by unfold lA pyEq; rfl
theorem iL (i j:Str):lA (.str i) (.str j)=some (.bl (i==j)):=by unfold lA pyEq; rfl
theorem iC (i j:Bool):lA (.bl i) (.bl j)=some (.bl (i==j)):=by unfold lA pyEq; rfl
theorem ia (i j:Int):uY (.int i) (.int j)=some (.bl (!(i==j))):=by unfold uY pyEq; rfl
theorem iF (i j:Str):uY (.str i) (.str j)=some (.bl (!(i==j))):=by unfold uY pyEq; rfl
theorem ic (i j:Bool):uY (.bl i) (.bl j)=some (.bl (!(i==j))):=by unfold uY pyEq; rfl
theorem DQ {α:Type} (xs:List α) (n:Nat):nw xs (n:Int)=xs[n]?:=by
 unfold nw DM
 rw [if_pos ‹0›]
 by_cases h:n < xs.length
 ·rw [if_pos ‹0›]; rfl
 ·rw [if_neg ‹0›,Lc ‹0›]; rfl
theorem xQ {α:Type} (a:α) (xs:List α):nw (a::xs) 0=some a:=DQ (a::xs) 0
theorem xF {α:Type} (a:α) (xs:List α) (n:Nat):nw (a::xs) ((n+1:Nat):Int)=nw xs (n:Int):=by
 rw [DQ,DQ,Kz]
theorem E7 (xs:List D) (i:Int):bL (.tup xs) (.int i)=nw xs i:=nr rfl
theorem GR (xs:List D) (i:Int):bL (.lst xs) (.int i)=nw xs i:=nr rfl
theorem rF (a:D) (xs:List D):bL (.tup (a::xs)) (.int 0)=some a:=xQ a xs
theorem qo (a b:D) (xs:List D):bL (.tup (a::b::xs)) (.int 1)=some b:=(xF a _ 0).trans (xQ b xs)
theorem qy (a b c:D) (xs:List D):bL (.tup (a::b::c::xs)) (.int 2)=some c:=(xF a _ 1).trans ((xF b _ 0).trans (xQ c xs))
theorem rk (a:D) (xs:List D):bL (.lst (a::xs)) (.int 0)=some a:=xQ a xs
theorem qt (a b:D) (xs:List D):bL (.lst (a::b::xs)) (.int 1)=some b:=(xF a _ 0).trans (xQ b xs)
theorem qH (a b c:D) (xs:List D):bL (.lst (a::b::c::xs)) (.int 2)=some c:=(xF a _ 1).trans ((xF b _ 0).trans (xQ c xs))
theorem iE (xs:List D):kR [.lst xs]=some (.int xs.length):=nr rfl
theorem iq (xs:List D):kR [.tup xs]=some (.int xs.length):=nr rfl
theorem eQ (xs:List D):bP [.lst xs]=some (.tup xs):=nr rfl
theorem fw (xs:List D):bP [.tup xs]=some (.tup xs):=nr rfl
theorem mH (b:Bool):HH (.bl b)=some b:=nr rfl
theorem gH (i:Int):vg (.int i)=some (some i):=nr rfl
theorem e8 (b:Bool):truth (.bl b)=some b:=nr rfl
theorem fh (xs:List D):truth (.tup xs)=some (!xs.isEmpty):=nr rfl
theorem eV (xs:List D):truth (.lst xs)=some (!xs.isEmpty):=nr rfl
theorem jg (i j:Int):oz [.int i,.int j]=some (.int (if j > i then j else i)):=nr rfl
theorem jy (i j:Int):tM [.int i,.int j]=some (.int (if j < i then j else i)):=nr rfl
theorem Ak (b:Bool):wv [.bl b]=some (.int (if b then 1 else 0)):=nr rfl
theorem e6 (xs:List D):oU (.lst xs)=some xs:=nr rfl
theorem eU (xs:List D):oU (.tup xs)=some xs:=nr rfl
theorem ie (k:R D):vn (.bl true) k=k:=nr rfl
theorem iJ (k:R D):vn (.bl false) k=.ok (.bl false):=nr rfl
theorem j0 (k:R D):Ec (.bl true) k=.ok (.bl true):=nr rfl
theorem kM (k:R D):Ec (.bl false) k=k:=nr rfl
theorem iA (a b:Bool):vn (.bl a) (.ok (.bl b))=.ok (.bl (a && b)):=by cases a <;> rfl
theorem kI (a b:Bool):Ec (.bl a) (.ok (.bl b))=.ok (.bl (a || b)):=by cases a <;> rfl
theorem nu (b:Bool):Cz (.bl b)=some (.bl (!b)):=nr rfl
theorem nC (xs:List D):C2 (.lst xs)=some (.lst xs.reverse):=nr rfl
theorem kO (n:Nat) (h:n < 2 ^ 62):kK [.int n]=some (dX 0 n):=by
 show (if okR (n:Int) then some (dX 0 ((n:Int).toNat)) else none)=_
 have:okR (n:Int)=true:=decide_eq_true ⟨by omega,by omega⟩
 rw [this]; rfl
theorem CG {xs:List D} (h:xs.length<=100000):lV xs=some (.lst xs):=by unfold lV; rw [dj h]; rfl
theorem mi (xs ys:List D) (h:xs.length+ys.length<=100000):cp (.tup xs) (.tup ys)=some (.tup (xs++ys)):=by
 show (if small (xs.length+ys.length) then some (D.tup (xs++ys)) else none)=_
 rw [dj h]; rfl
theorem j4 (xs:List D) (lo hi:Option Int):oI (.lst xs) lo hi=some (.lst (cutD xs lo hi)):=nr rfl
theorem j6 (xs:List D) (lo hi:Option Int):oI (.tup xs) lo hi=some (.tup (cutD xs lo hi)):=nr rfl
theorem jm {ix:List (Option Nat)} {G:aq->R (List D)} {g:GF} {C:aq->R Bool} {Fe:FX} {ρ:aq} {ds r:List D} (h1:G ρ=.ok ds) (h2:ds.length<=100000) (h3:vq (inB ix ρ) g C Fe ds=.ok r):mC ix G g C Fe ρ=.ok (.lst r):=by
 unfold mC
 rw [h1,cB,dj h2,h3]; rfl
theorem oZ {α:Type} {ρ:aq} {g:GF} {C:aq->R Bool} {Fe:FX} (mk:α->D) (p:α->Bool) (v:α->D):∀ xs:List α,(∀ a∈xs,∃ ρ1,g (mk a) ρ=some ρ1/\C ρ1=.ok (p a)/\Fe ρ1=.ok (v a)) ->
  vq ρ g C Fe (xs.map mk)=.ok ((xs.filter p).map v)
 | [],_=>rfl
 | a::xs,h=>by
  obtain⟨ρ1,h1,h2,h3⟩:=h a Jq
  rw [JD,jS,h1,dQ,cB,h2,gb,cB,h3,gb,cB,oZ mk p v xs fun b hb=>h b (Jr _ hb)]
  cases e:p a with
  | true=>rw [if_pos rfl,K1 e]; rfl
  | false=>rw [if_neg JB,K2 (by simp [e])]
theorem rP {α:Type} {ρ:aq} {g:GF} {C:aq->R Bool} {Fe:FX} (mk:α->D) (v:α->D) (xs:List α) (h:∀ a∈xs,∃ ρ1,g (mk a) ρ=some ρ1/\C ρ1=.ok true/\Fe ρ1=.ok (v a)):vq ρ g C Fe (xs.map mk)=.ok (xs.map v):=by
 rw [oZ mk (fun _=>true) v xs h,List.filter_eq_self.mpr fun _ _=>rfl]
theorem wy {g:GF} {B:cf} {k:Ks} (Iv:Nat->aq->Prop):∀ (ds:List D) (i:Nat) (ρ:aq),(∀ j d ρ (k':Ks),i<=j->ds[j - i]?=some d->Iv j ρ->∃ ρ1 ρ2,g d ρ=some ρ1/\Iv (j+1) ρ2/\B k' ρ1=k'.nx ρ2)->Iv i ρ->∃ ρ',Iv (i+ds.length) ρ'/\jt g B k ds ρ=k.nx ρ'
 | [],i,ρ,_,h=>⟨ρ,h,rfl⟩
 | d::ds,i,ρ,st,h=>by
  obtain⟨ρ1,ρ2,e1,h2,e2⟩:=st i d ρ ⟨jt g B k ds,k.nx,jt g B k ds,k.ex⟩ (Jw _) (by rw [KP]; rfl) h
  obtain⟨ρ',h3,e3⟩:=wy (g:=g) (B:=B) (k:=k) Iv ds (i+1) ρ2 (fun j d' ρ k' hj hd=>st j d' ρ k' ‹0› (by rw [show j - i=(j - (i+1))+1 by omega,Kz]; exact hd)) h2
  refine⟨ρ',?_,?_⟩
  ·rw [JC]
   have:i+(ds.length+1)=i+1+ds.length:=by omega
   rw [this]; exact h3
  ·show ((rO (g d ρ)).bind fun ρ1=>B ⟨jt g B k ds,k.nx,jt g B k ds,k.ex⟩ ρ1)=_
   rw [e1,dQ,cB,e2]
   exact e3
theorem dR {g:GF} {B:cf} {k:Ks} {ds:List D} {ρ:aq} {Q:R D->Prop} (Iv:Nat->aq->Prop) (st:∀ i d ρ (k':Ks),ds[i]?=some d->Iv i ρ->∃ ρ1 ρ2,g d ρ=some ρ1/\Iv (i+1) ρ2/\B k' ρ1=k'.nx ρ2) (h:Iv 0 ρ) (q:∀ ρ',Iv ds.length ρ'->Q (k.nx ρ')):Q (jt g B k ds ρ):=by
 obtain⟨ρ',h1,e⟩:=wy (k:=k) Iv ds 0 ρ (fun j d ρ k' _ hd=>st j d ρ k' hd) h
 rw [e]; rw [KH] at h1; exact q ρ' h1
theorem cM {α:Type} {xs:List α} {i:Nat} {a:α} (h:xs[i]?=some a):i < xs.length:=by
 rcases Nat.lt_or_ge i xs.length with z | z
 ·exact z
 ·rw [Lc z] at h; cases h
theorem wZ {α β:Type} (f:α->β) (xs:List α) (i:Int):nw (xs.map f) i=(nw xs i).map f:=by
 unfold nw
 rw [JE]
 cases DM xs.length i with
 | none=>rfl
 | some j=>simp
theorem oE {α:Type} {xs:List α} {k:Nat} (h:k < xs.length):nw xs (k:Int)=some xs[k]:=by
 unfold nw DM
 rw [if_pos ‹0›,if_pos ‹0›]
 simp [h]
theorem sg {α:Type} {xs:List α} {i:Int} (h0:0<=i) (h:i < xs.length):nw xs i=some (xs[i.toNat]'‹0›):=by
 have e:i=((i.toNat:Nat):Int):=by omega
 conv=>lhs; rw [e]
 exact oE ‹0›
def Cq:cf:=aQ (mJ (fB (f2 rX (ah 1) (fL kR (af (ah 0) (aw))))) (bT (f2 bL (ah 0) (ah 1))) (cS)) (bT (fC (.int 0)))
theorem AO (ns:List Int) (k:Nat):bj Cq 2 2 [.lst (ns.map .int),.int k]=.ok (.int (ns.getD k 0)):=by
 show (if decide ((k:Int) < ((ns.map D.int).length:Int)) then pV (rO (nw (ns.map D.int) (k:Int))) _ _ .ok else .ok (.int 0))=_
 rw [JE]
 by_cases h:k < ns.length
 ·rw [if_pos (by simpa using h),wZ,oE h,Option.map_some,K5,Kg h]; rfl
 ·rw [if_neg (by simpa using h),K5,Lc ‹0›]; rfl
theorem zF (ns:List Int) (i:Int) (h:0<=i):∃ c:Int,bj Cq 2 2 [.lst (ns.map .int),.int i]=.ok (.int c):=by
 have e:i=((i.toNat:Nat):Int):=by omega
 exact⟨ns.getD i.toNat 0,by rw [e]; exact AO ns i.toNat⟩
theorem wI (x y:Str):(x++y).length=x.length+y.length:=by
 show (x.cps++y.cps).size=_
 rw [Array.size_append]; rfl
theorem jw (x y:Str) (h:x.length<=1000) (h':y.length<=1000):cp (.str x) (.str y)=some (.str (x++y)):=by
 show (if small (x.length+y.length) then some (D.str (x++y)) else none)=_
 rw [dj ‹0›]; rfl
theorem mh (x:Str) (h:x.length<=1000) (i:Int) (h0:0<=i) (h1:i < x.length):∃ y:Str,y.length=1/\bL (.str x) (.int i)=some (.str y):=by
 have hl:x.cps.toList.length=x.length:=by simp [Str.length]
 have hi:i < x.cps.toList.length:=by omega
 refine⟨⟨#[x.cps.toList[i.toNat]'‹0›]⟩,rfl,?_⟩
 show (if small x.length then (nw x.cps.toList i).bind fun c=>some (D.str ⟨#[c]⟩) else none)=_
 rw [dj ‹0›,if_pos rfl,sg h0 hi]; rfl
theorem ku (lo:Int) (n:Nat):dX lo n=(List.range n).map fun (k:Nat)=>D.int (lo+(k:Int)):=nr rfl
theorem cR (lo:Int) (n:Nat):(dX lo n).length=n:=by unfold dX; rw [JE,Kn]
theorem oC {α:Type} (xs:List α) (m:Nat):cutD xs none (some (m:Int))=xs.take m:=by
 unfold cutD
 rw [HT.En,HT.FR,Kc,Kp]
 rcases Nat.le_total m xs.length with h | h
 ·rw [Ld h]
 ·rw [Nat.min_eq_right h,Le h,Le (Jw _)]
theorem uM {α:Type} (xs:List α) (m:Nat):cutD xs (some (m:Int)) none=xs.drop m:=by
 unfold cutD
 rw [HT.En,HT.FR]
 rcases Nat.le_total m xs.length with h | h
 ·rw [Ld h]
  exact Le (by rw [JT]; exact Jw _)
 ·rw [Nat.min_eq_right h,KP,J9,List.drop_eq_nil_of_le h]
theorem se (ρ:aq):qq ρ=.ok (.dct [] []):=nr rfl
theorem lQ (q:List Key):iG (.tup (q.map aY))=some q:=bQ q
theorem wx {i:Nat} {fk fv:FX} {k:Ks} {ρ:aq} {al:List (List Key×D)} {q:List Key} {v:D} (h:ρ[i]?=some (some (.own (cG al)))) (ek:fk ρ=.ok (.tup (q.map aY))) (ev:fv ρ=.ok v) (hl:al.length<=100000):pf i fk fv k ρ=k.nx (ρ.set i (some (.own (cG (eX al q v))))):=by
 have e:rq (encK al) (al.map (·.2)) (.tup (q.map aY)) v=some (eX al q v):=by
  unfold rq
  rw [ik]
  show (iG (.tup (q.map aY))).bind _=_
  rw [lQ]
  show (if small al.length then _ else _)=_
  rw [dj hl]; rfl
 unfold pf
 rw [h]
 show pV ((fv ρ).bind fun v=>(fk ρ).bind fun q=>rO (rq (encK al) (al.map (·.2)) q v)) k ρ _=_
 rw [ev,cB,ek,cB,e]; rfl
theorem vS:∀ {σ τ:List Bool} {a b:List D},Sh σ a->Sh τ b->Sh (σ++τ) (a++b)
 | _,_,_,_,.nil,h=>h
 | _,_,_,_,.int i h,h'=>.int i (vS h h')
 | _,_,_,_,.str i h,h'=>.str i (vS h h')
end TG
namespace TG
open PySem PySem.Spec L2
local macro_rules
 | `(tactic| simp! only [$xs,*])=>`(tactic| simp only [cB,q5,nT,qN,gb,dQ,ge_0,yn,nF,ye,mB,j9,mG,mK,yO,yk,yR,xR,x4,ny,my,rB,iO,j8,mP,kB,qW,nB,mX,kC,ng,iD,mL,iK,ib,gC,gF,mD,kx,gD,kL,iI,jY,kr,gx,kz,iP,lj,kn,ip,hJ,ki,jX,yK,qY,xA,yN,yq,m9,kH,mR,kJ,kj,yj,x3,Lf,Lg,JD,JY,J8,Kk,K0,env0,List.replicate,KQ,JH,KH,Nat.reduceAdd,Nat.reduceSub,JC,J1,mV,nE,qU,ni,nz,nA,gE,mZ,qz,ro,rE,nG,iB,iL,iC,ia,iF,ic,rF,qo,qy,rk,qt,qH,iE,iq,eQ,fw,mH,gH,e8,fh,eV,jg,jy,e6,eU,ie,iJ,j0,kM,iA,kI,nu,nC,j4,j6,gN,if_true,if_false,Lh,Li,J6,$xs,*])
theorem IP (a b c:D):qM [a,b,c]=some (.tup [a,b,c]):=nr rfl
theorem EW (a b:D):qM [a,b]=some (.tup [a,b]):=nr rfl
theorem IM (a:D):qM [a]=some (.tup [a]):=nr rfl
theorem Ji:qM []=some (.tup []):=nr rfl
theorem Dc:lV []=some (.lst []):=nr rfl
end TG
namespace TG
open PySem PySem.Spec L2
def Fg (m:Nat) (rows:List (List D)):Prop:=rows.Pairwise fun r s=>cY (r.take m) (s.take m)=some true
inductive F2 {α β:Type} (R:α->β->Prop):List α->List β->Prop where
 | nil:F2 R [] []
 | cons {a:α} {b:β} {as:List α} {bs:List β} (h:R a b) (t:F2 R as bs):F2 R (a::as) (b::bs)
theorem Ay {ρ:aq} {g:GF} {C:aq->R Bool} {Fe:FX}:∀ (ds:List D) (P:Nat->D->Prop),(∀ i d,ds[i]?=some d->∃ ρ1 v,g d ρ=some ρ1/\C ρ1=.ok true/\Fe ρ1=.ok v/\P i v)->∃ vs:List D,vs.length=ds.length/\(∀ i v,vs[i]?=some v->P i v)/\vq ρ g C Fe ds=.ok vs
 | [],_,_=>⟨[],rfl,(fun _ _ h=>nomatch h),rfl⟩
 | d::ds,P,h=>by
  obtain⟨ρ1,w,h1,h2,h3,h4⟩:=h 0 d rfl
  obtain⟨ws,e1,e2,e3⟩:=Ay (ρ:=ρ) (g:=g) (C:=C) (Fe:=Fe) ds (fun i v=>P (i+1) v) fun i d' hd=>h (i+1) d' (by rw [Kz]; exact hd)
  refine⟨w::ws,by rw [JC,JC,e1],fun i v hv=>?_,?_⟩
  ·cases i with
   | zero=>cases hv; exact h4
   | succ i=>rw [Kz] at hv; exact e2 i v hv
  ·rw [jS,h1,dQ,cB,h2,gb,cB,h3,gb,cB,e3]; rfl
theorem rH:∀ {σ:List Bool} {a b:List D},Sh σ a->Sh σ b->(fK a b=true↔a=b)
 | _,_,_,.nil,.nil=>by unfold fK; simp
 | _,_,_,.int i h,.int j h'=>by
  unfold fK pyEq
  rw [JU,rH h h']
  simp
 | _,_,_,.str i h,.str j h'=>by
  unfold fK pyEq
  rw [JU,rH h h']
  simp
theorem ww:∀ {σ:List Bool} {a:List D},Sh σ a->tV a=true
 | _,_,.nil=>rfl
 | _,_,.int i h=>by
  show (pl (.int i) && tV _)=true
  rw [ww h]; rfl
 | _,_,.str i h=>by
  show (pl (.str i) && tV _)=true
  rw [ww h]; rfl
theorem vP:∀ {σ:List Bool} {a:List D} (n:Nat),Sh σ a->a.all (gf (n+1))=true
 | _,_,_,.nil=>rfl
 | _,_,n,.int i h=>by rw [Kf,vP n h]; rfl
 | _,_,n,.str i h=>by rw [Kf,vP n h]; rfl
end TG
namespace TD
open PySem PySem.Spec L2 TG TX
def bS:cf:=aQ (mJ (fB (f2 rX (ah 1) (fL kR (af (ah 0) (aw))))) (bT (f2 bL (ah 0) (ah 1))) (cS)) (bT (fC (.int 0)))
def aK:cf:=bT (f2 bK (f2 cp (f2 cp (f2 lw (ah 0) (ah 0)) (f2 lw (fC (.int 48271)) (ah 0))) (fC (.int 11))) (fC (.int 2147483647)))
def bR:cf:=aQ (cx 2 (f2 bK (f2 cp (f2 cp (f2 bK (fR (bj bS 2 2) (af (ah 0) (af (ah 1) (aw)))) (fC (.int 2147483647))) (f2 lw (f2 lw (fC (.int 69621)) (ah 1)) (ah 1))) (fC (.int 5))) (fC (.int 2147483647)))) (bT (fR (bj aK 1 1) (af (fR (bj aK 1 1) (af (ah 2) (aw))) (aw))))
def bI:cf:=aQ (cx 2 (fC (.str "abcdefghijklmnopqrstuvwxyz"))) (aQ (cx 1 (f2 bK (f2 cp (f2 lw (ah 1) (f2 bL (jb (af (fC (.int 1)) (af (fC (.int 5)) (af (fC (.int 7)) (af (fC (.int 11)) (af (fC (.int 13)) (af (fC (.int 23)) (aw)))))))) (f2 bK (ah 0) (fC (.int 6))))) (f2 cN (ah 0) (fC (.int 6)))) (fC (.int 24)))) (aQ (cx 0 (f2 cN (ah 0) (fC (.int 144)))) (aQ (mJ (fB (f2 lA (f2 bK (ah 0) (fC (.int 3))) (fC (.int 0)))) (bT (f2 uB (f2 bL (ah 2) (f2 bK (f2 cp (f2 cN (ah 0) (fC (.int 3))) (f2 cN (ah 1) (fC (.int 8)))) (fC (.int 26)))) (f2 cp (fC (.int 1)) (f2 bK (ah 1) (fC (.int 8)))))) (cS)) (aQ (cx 3 (f2 cp (fC (.int 1)) (f2 bK (f2 cN (ah 0) (fC (.int 3))) (fC (.int 8))))) (aQ (cx 4 (fC (.str ""))) (aQ (ju (gq (af (ah 3) (aw))) (gN 5) (aQ (cx 6 (f2 cN (ah 0) (f2 cp (fC (.int 24)) (f2 lw (f2 lw (fC (.int 11)) (ah 5)) (ah 5))))) (aQ (mJ (fB (f2 lA (ah 5) (f2 bK (f2 cN (ah 0) (fC (.int 24))) (ah 3)))) (cx 6 (f2 cp (ah 6) (ah 1))) (cS)) (aQ (cx 4 (f2 cp (ah 4) (f2 bL (ah 2) (f2 bK (ah 6) (fC (.int 26)))))) (eN [5,6] cS))))) (bT (ah 4))))))))
noncomputable def bV:cf:=aQ (mJ (fB (f2 rX (f2 bK (ah 0) (fC (.int 3))) (fC (.int 2)))) (aQ (cx 1 (f2 bL (jb (af (fC (.int 0)) (af (Bp (fC (.int 3))) (af (f2 vX (fC (.int 0)) (f2 bK (f2 nX (ah 0) (fC (.int 7))) (f2 nX (fC (.int 10)) (fC (.int 59))))) (af (f2 bK (f2 nX (ah 0) (fC (.int 7))) (f2 nX (fC (.int 10)) (fC (.int 59)))) (aw)))))) (f2 bK (f2 cN (ah 0) (fC (.int 3))) (fC (.int 4))))) (bT (fY (af (fC (.str "number")) (af (ah 1) (af (f2 cp (ah 1) (f2 bL (jb (af (fC (.int 0)) (af (fC (.int 1)) (af (fC (.int 6)) (af (f2 nX (fC (.int 10)) (fC (.int 59))) (aw)))))) (f2 bK (f2 cN (ah 0) (fC (.int 12))) (fC (.int 4))))) (aw))))))) (cS)) (aQ (cx 2 (fC (.str "abcdefghijklmnopqrstuvwxyz"))) (aQ (cx 3 (f2 bL (ah 2) (f2 bK (f2 cN (ah 0) (fC (.int 3))) (fC (.int 26))))) (aQ (cx 4 (f2 bL (ah 2) (f2 bK (f2 cN (ah 0) (fC (.int 78))) (fC (.int 26))))) (aQ (cx 5 (jb (af (fC (.str "")) (af (ah 3) (af (ah 4) (af (f2 cp (ah 3) (ah 4)) (af (f2 cp (ah 4) (ah 3)) (af (f2 uB (ah 3) (fC (.int 8))) (af (f2 cp (ah 3) (ah 3)) (af (f2 uB (ah 4) (fC (.int 3))) (aw))))))))))) (aQ (lZ 6 qq) (eN [1,2,4] (aQ (ju (gq (af (fC (.int 8)) (aw))) (gN 7) (aQ (mJ (fB (f2 lA (f2 xf (f2 A4 (f2 cN (ah 0) (fC (.int 2028))) (ah 7)) (fC (.int 1))) (fC (.int 1)))) (lL 6 (f2 bL (ah 5) (ah 7)) (fC (.bl true))) (cS)) (eN [7] cS))) (aQ (mJ (jL [6] (fB (f2 lA (fL qX (af (ah 6) (aw))) (fC (.int 0))))) (lL 6 (ah 3) (fC (.bl true))) (cS)) (gI 6 (bT (fY (af (fC (.str "word")) (af (fL bP (af (fL dP (af (fL m8 (af (ah 6) (aw))) (aw))) (aw))) (aw))))))))))))))
end TD
namespace TD
open PySem PySem.Spec L2 TG
local macro_rules
 | `(tactic| simp! only [$xs,*])=>`(tactic| simp only [cB,q5,nT,qN,gb,dQ,ge_0,yn,nF,ye,mB,j9,mG,mK,yO,yk,yR,xR,x4,ny,my,rB,iO,j8,mP,kB,qW,nB,mX,kC,ng,iD,mL,iK,ib,gC,gF,mD,kx,gD,kL,iI,jY,kr,gx,kz,iP,lj,kn,ip,hJ,ki,jX,yK,qY,xA,yN,yq,m9,kH,mR,kJ,kj,yj,x3,Lf,Lg,JD,JY,J8,Kk,K0,env0,List.replicate,KQ,JH,KH,Nat.reduceAdd,Nat.reduceSub,JC,J1,mV,nE,qU,ni,nz,nA,gE,mZ,qz,ro,rE,nG,iB,iL,iC,ia,iF,ic,rF,qo,qy,rk,qt,qH,iE,iq,eQ,fw,mH,gH,e8,fh,eV,jg,jy,e6,eU,ie,iJ,j0,kM,iA,kI,nu,nC,j4,j6,gN,if_true,if_false,Lh,Li,J6,$xs,*])
theorem FZ (ns:List Int) (i:Int) (h:0<=i):∃ c:Int,bj bS 2 2 [.lst (ns.map .int),.int i]=.ok (.int c):=zF ns i h
theorem xV (xs ys:List D):yv [.tup xs,.tup ys]=some (mq xs ys):=nr rfl
end TD
namespace TD
open PySem PySem.Spec L2 TG
local macro_rules
 | `(tactic| simp! only [$xs,*])=>`(tactic| simp only [cB,q5,nT,qN,gb,dQ,ge_0,yn,nF,ye,mB,j9,mG,mK,yO,yk,yR,xR,x4,ny,my,rB,iO,j8,mP,kB,qW,nB,mX,kC,ng,iD,mL,iK,ib,gC,gF,mD,kx,gD,kL,iI,jY,kr,gx,kz,iP,lj,kn,ip,hJ,ki,jX,yK,qY,xA,yN,yq,m9,kH,mR,kJ,kj,yj,x3,Lf,Lg,JD,JY,J8,Kk,K0,env0,List.replicate,KQ,JH,KH,Nat.reduceAdd,Nat.reduceSub,JC,J1,mV,nE,qU,ni,nz,nA,gE,mZ,qz,ro,rE,nG,iB,iL,iC,ia,iF,ic,rF,qo,qy,rk,qt,qH,iE,iq,eQ,fw,mH,gH,e8,fh,eV,jg,jy,e6,eU,ie,iJ,j0,kM,iA,kI,nu,nC,j4,j6,gN,if_true,if_false,Lh,Li,J6,$xs,*])
abbrev fld (p:Str×D):D:=.tup [.str p.1,p.2]
theorem rC (xs:List D):rg [.tup xs]=some (gX 0 xs):=nr rfl
end TD
namespace T4
open PySem PySem.Spec L2 TG TD
local macro_rules
 | `(tactic| simp! only [$xs,*])=>`(tactic| simp only [cB,q5,nT,qN,gb,dQ,ge_0,yn,nF,ye,mB,j9,mG,mK,yO,yk,yR,xR,x4,ny,my,rB,iO,j8,mP,kB,qW,nB,mX,kC,ng,iD,mL,iK,ib,gC,gF,mD,kx,gD,kL,iI,jY,kr,gx,kz,iP,lj,kn,ip,hJ,ki,jX,yK,qY,xA,yN,yq,m9,kH,mR,kJ,kj,yj,x3,Lf,Lg,JD,JY,J8,Kk,K0,env0,List.replicate,KQ,JH,KH,Nat.reduceAdd,Nat.reduceSub,JC,J1,mV,nE,qU,ni,nz,nA,gE,mZ,qz,ro,rE,nG,iB,iL,iC,ia,iF,ic,rF,qo,qy,rk,qt,qH,iE,iq,eQ,fw,mH,gH,e8,fh,eV,jg,jy,e6,eU,ie,iJ,j0,kM,iA,kI,nu,nC,j4,j6,gN,if_true,if_false,Lh,Li,J6,$xs,*])
theorem Cu {x:Str} {n:Int} (h:1<=n) (h':n<=1000) (hx:x.length<=1000):uB (.str x) (.int n)=some (.str (kT x n)):=by
 show (if decide (1<=n/\n<=1000/\x.length<=1000) then some (D.str (kT x n)) else none)=_
 rw [decide_eq_true ⟨h,h',hx⟩]; rfl
theorem gv (x:Int) (h0:0<=x) (h1:x < 2147483700):∃ y:Int,0<=y/\y < 2147483647/\bj aK 1 1 [.int x]=.ok (.int y):=by
 have m1:=oo (i:=x) (j:=x) ‹0› ‹0›
 have m2:=oo (i:=48271) (j:=x) (by decide) (by decide)
 have g:=fun i=>bz (i:=i) (show (0:Int) < 2147483647 by decide)
 refine⟨(x*x+48271*x+11)%2147483647,Lj _ (by decide),Ln _ (by decide),?_⟩
 rw [vH]; unfold aK
 simp! only [m1,m2,g]
theorem si (ns:List Int) (k:Nat) (hk:k<=100):∃ y:Int,0<=y/\y < 2147483647/\bj bR 2 3 [.lst (ns.map .int),.int k]=.ok (.int y):=by
 obtain⟨c,ec⟩:=TD.FZ ns k ‹0›
 have m1:=oo (i:=69621) (j:=(k:Int)) (by decide) (by decide)
 have m2:=lX (i:=69621*(k:Int)) (j:=(k:Int)) ‹0› ‹0›
 have g:=fun i=>bz (i:=i) (show (0:Int) < 2147483647 by decide)
 obtain⟨y1,a1,b1,e1⟩:=gv ((c%2147483647+69621*(k:Int)*(k:Int)+5)%2147483647) (Lj _ (by decide)) (by have:=Ln (c%2147483647+69621*(k:Int)*(k:Int)+5) (show (0:Int) < 2147483647 by decide); omega)
 obtain⟨y2,a2,b2,e2⟩:=gv y1 a1 ‹0›
 refine⟨y2,a2,b2,?_⟩
 rw [fX]; unfold bR
 simp! only [ec,g,m1,m2,e1,e2]
theorem xg (b k:Int) (hb:0<=b) (hk:0<=k):∃ w:Str,bj bI 2 7 [.int b,.int k]=.ok (.str w):=by
 have LL:(("abcdefghijklmnopqrstuvwxyz":Str)).length=26:=by decide +kernel
 generalize hL:("abcdefghijklmnopqrstuvwxyz":Str)=L at LL
 have g3:=fun i=>bz (i:=i) (show (0:Int) < 3 by decide)
 have g6:=fun i=>bz (i:=i) (show (0:Int) < 6 by decide)
 have g8:=fun i=>bz (i:=i) (show (0:Int) < 8 by decide)
 have g24:=fun i=>bz (i:=i) (show (0:Int) < 24 by decide)
 have g26:=fun i=>bz (i:=i) (show (0:Int) < 26 by decide)
 have d3:=fun i=>bU (i:=i) (show (0:Int) < 3 by decide) (show (3:Int) < 10 ^ 200 by decide)
 have d6:=fun i=>bU (i:=i) (show (0:Int) < 6 by decide) (show (6:Int) < 10 ^ 200 by decide)
 have d8:=fun i=>bU (i:=i) (show (0:Int) < 8 by decide) (show (8:Int) < 10 ^ 200 by decide)
 have d24:=fun i=>bU (i:=i) (show (0:Int) < 24 by decide) (show (24:Int) < 10 ^ 200 by decide)
 have d144:=fun i=>bU (i:=i) (show (0:Int) < 144 by decide) (show (144:Int) < 10 ^ 200 by decide)
 obtain⟨st,hst,est⟩:∃ st:Int,(0<=st/\st<=25)/\bL (.lst [.int 1,.int 5,.int 7,.int 11,.int 13,.int 23]) (.int (b%6))=some (.int st):=by
  rcases(show b%6=0\/b%6=1\/b%6=2\/b%6=3\/b%6=4\/b%6=5 by omega) with z | z | z | z | z | z <;> rw [z]
  ·exact⟨1,by decide,rfl⟩
  ·exact⟨5,by decide,rfl⟩
  ·exact⟨7,by decide,rfl⟩
  ·exact⟨11,by decide,rfl⟩
  ·exact⟨13,by decide,rfl⟩
  ·exact⟨23,by decide,rfl⟩
 have l6:∀ a b c d e f:D,lV [a,b,c,d,e,f]=some (.lst [a,b,c,d,e,f]):=fun _ _ _ _ _ _=>rfl
 have ms:=lX (i:=k) (j:=st) ‹0› ‹0›
 generalize hk':(k*st+b / 6)%24=k'
 have k1:0<=k'/\k' < 24:=by omega
 generalize hb':b / 144=b'
 have b0:0<=b':=by omega
 rw [fX]; unfold bI
 by_cases h:b'%3=0
 ·have h':(b'%3==0)=true:=by simp [h]
  obtain⟨y,hy,e1⟩:=mh L ‹0› ((b' / 3+k' / 8)%26) ‹0› ‹0›
  have mu:=Cu (x:=y) (n:=1+k'%8) ‹0› ‹0› ‹0›
  refine⟨kT y (1+k'%8),?_⟩
  simp! only [hL,g6,l6,est,ms,d6,g24,hk',d144,hb',g3,h',d3,d8,g26,e1,g8,mu]
 ·have h':(b'%3==0)=false:=by simp [h]
  obtain⟨n,hn,hn1,hn2⟩:∃ n:Nat,1+b' / 3%8=(n:Int)/\1<=n/\n<=8:=⟨(1+b' / 3%8).toNat,by omega,by omega,by omega⟩
  have rn:=kO n ‹0›
  obtain⟨T,hT⟩:∃ T:cf,T=(aQ (ju (gq (af (ah 3) (aw))) (gN 5) (aQ (cx 6 (f2 cN (ah 0) (f2 cp (fC (.int 24)) (f2 lw (f2 lw (fC (.int 11)) (ah 5)) (ah 5))))) (aQ (mJ (fB (f2 lA (ah 5) (f2 bK (f2 cN (ah 0) (fC (.int 24))) (ah 3)))) (cx 6 (f2 cp (ah 6) (ah 1))) (cS)) (aQ (cx 4 (f2 cp (ah 4) (f2 bL (ah 2) (f2 bK (ah 6) (fC (.int 26)))))) (eN [5,6] cS))))) (bT (ah 4))):=⟨_,rfl⟩
  have key:∃ w:Str,T K0 [some (.val (.int b')),some (.val (.int k')),some (.val (.str L)),some (.val (.int n)),some (.val (.str "")),none,none]=.ok (.str w):=by
   rw [hT,gx,hJ]
   simp! only [rn]
   refine dR (Q:=fun z=>∃ w:Str,z=.ok (.str w)) (fun i ρ=>∃ w:Str,w.length<=i/\ρ=[some (.val (.int b')),some (.val (.int k')),some (.val (.str L)),some (.val (.int n)),some (.val (.str w)),none,none]) ?_ ?_ ?_
   ·rintro i d ρ kk hd ⟨w,hw,rfl⟩
    have hi:=cM hd
    rw [cR] at hi
    have hdi:d=.int (i:Int):=by
     rw [ku,JP,Kq hi] at hd
     cases hd; simp
    subst hdi
    have m1:=oo (i:=11) (j:=(i:Int)) (by decide) (by decide)
    have m2:=lX (i:=11*(i:Int)) (j:=(i:Int)) ‹0› ‹0›
    have ii:0<=11*(i:Int)*(i:Int):=Int.mul_nonneg ‹0› ‹0›
    have ii2:11*(i:Int)*(i:Int)<=11*8*8:=Int.mul_le_mul ‹0› ‹0› ‹0› (by decide)
    have dd:=fun z=>bU (i:=z) (show (0:Int) < 24+11*(i:Int)*(i:Int) by omega) (show 24+11*(i:Int)*(i:Int) < 10 ^ 200 by
     have:(10:Int) ^ 200 > 10000:=by decide +kernel
     omega)
    have gn:=fun z=>bz (i:=z) (show (0:Int) < (n:Int) by omega)
    generalize hs:b' / (24+11*(i:Int)*(i:Int))=s
    by_cases hq:((i:Int)==b' / 24%(n:Int))=true
    ·obtain⟨y,hy,e1⟩:=mh L ‹0› ((s+k')%26) ‹0› ‹0›
     have ad:=jw w y ‹0› ‹0›
     refine⟨_,_,rfl,⟨w++y,by rw [wI]; omega,rfl⟩,?_⟩
     simp! only [m1,m2,dd,hs,d24,gn,hq,g26,e1,ad]
    ·have hq':((i:Int)==b' / 24%(n:Int))=false:=by simpa using hq
     obtain⟨y,hy,e1⟩:=mh L ‹0› (s%26) ‹0› ‹0›
     have ad:=jw w y ‹0› ‹0›
     refine⟨_,_,rfl,⟨w++y,by rw [wI]; omega,rfl⟩,?_⟩
     simp! only [m1,m2,dd,hs,d24,gn,hq',g26,e1,ad]
   ·exact⟨"",by decide +kernel,rfl⟩
   ·rintro ρ' ⟨w,hw,rfl⟩
    exact⟨w,by simp! only []⟩
  obtain⟨w,ew⟩:=key
  refine⟨w,?_⟩
  rw [<- hT]
  simp only [K0] at ew
  simp! only [hL,g6,l6,est,ms,d6,g24,hk',d144,hb',g3,h',d3,g8,hn,ew]
theorem wU {i:Nat} {fk fv:FX} {k:Ks} {ρ:aq} {al:List (Key×D)} {q:Key} {d v:D} (h:ρ[i]?=some (some (.own (t6 al)))) (ek:fk ρ=.ok d) (hd:d=aY q) (ev:fv ρ=.ok v) (hl:al.length<=1000) :
  lL i fk fv k ρ=k.nx (ρ.set i (some (.own (t6 (nV al q v))))):=by
 subst hd
 have e:qD (fM al) (al.map (·.2)) (aY q) v=some (nV al q v):=by
  unfold qD
  rw [rA]
  show (keyOf (aY q)).bind _=_
  rw [iW]
  show (if small al.length then _ else _)=_
  rw [dj ‹0›]; rfl
 unfold lL
 rw [h]
 show pV ((fv ρ).bind fun v=>(fk ρ).bind fun q=>rO (qD (fM al) (al.map (·.2)) q v)) k ρ _=_
 rw [ev,cB,ek,cB,e]; rfl
abbrev xU (ws:List Str):List (Key×D):=ws.map fun w=>((.inr w:Key),D.bl true)
abbrev wd (ws:List Str):D:=t6 (xU ws)
def pW (ws:List Str) (w:Str):List Str:=if w∈ws then ws else ws++[w]
theorem Aw (ws:List Str) (w:Str):nV (xU ws) (.inr w) (.bl true)=xU (pW ws w):=by
 have e:((xU ws).any fun p=>decide (p.1=(.inr w:Key)))=decide (w∈ws):=by
  induction ws with
  | nil=>simp
  | cons a ws ih =>
   show (decide ((.inr a:Key)=.inr w) || (xU ws).any fun p=>decide (p.1=(.inr w:Key)))=_
   rw [ih]
   by_cases z:a=w
   ·subst z; simp
   ·have z':¬ (.inr a:Key)=.inr w:=fun q=>z (Sum.inr.inj q)
    have z2:¬ w=a:=fun q=>z q.symm
    simp [z',z2]
 unfold nV pW
 rw [e]
 by_cases h:w∈ws
 ·rw [if_pos (by simpa using h),if_pos h]
  show (ws.map _).map _=_
  rw [K7]
  refine Kl fun a _=>?_
  show (if (.inr a:Key)=.inr w then ((.inr a:Key),D.bl true) else ((.inr a:Key),D.bl true))=_
  split <;> rfl
 ·rw [if_neg (by simpa using h),if_neg h]
  show _=(ws++[w]).map _
  rw [Km]; rfl
theorem xt {ws:List Str} (w:Str) (h:ws.Nodup):(pW ws w).Nodup:=by
 unfold pW
 split
 ·exact h
 ·rename_i z
  exact List.nodup_append.mpr ⟨h,List.nodup_cons.mpr ⟨by simp,J3⟩,fun a ha b hb e=>by
   rw [K9] at hb
   subst hb e
   exact z ha⟩
theorem uN (ws:List Str) (w:Str):(pW ws w).length<=ws.length+1:=by
 unfold pW
 split
 ·omega
 ·simp
theorem B3 (ws:List Str):fM (xU ws)=ws.map D.str:=by
 show (ws.map _).map _=_
 rw [K7]; rfl
theorem zE (ws:List Str):keysOf (fM (xU ws))=some (ws.map .inr):=by
 rw [show fM (xU ws)=(ws.map (.inr:Str->Key)).map aY from by rw [B3,K7]; rfl]
 exact bQ _
theorem Bd (ws:List Str):qX [wd ws]=some (.int ws.length):=by
 show (keysOf (fM (xU ws))).bind _=_
 rw [zE]
 show some (D.int ((ws.map _).length:Int))=_
 rw [JE]
theorem zj (ws:List Str):m8 [wd ws]=some (.lst (ws.map .str)):=by
 show (keysOf (fM (xU ws))).bind _=_
 rw [zE]
 show some (D.lst (fM (xU ws)))=_
 rw [B3]
theorem pQ (is:List Nat) (f:aq->R Bool) (ρ:aq):jL is f ρ=yF (f (frzs is ρ)):=nr rfl
theorem Cv (i:Nat) (ρ:aq):frzs [i] ρ=frz i ρ:=nr rfl
theorem CK (i:Int) (k:Nat):A4 (.int i) (.int k)=some (.int (i / 2 ^ k)):=by
 show (if decide (0<=(k:Int)) then some (D.int (i / 2 ^ (k:Int).toNat)) else none)=_
 rw [decide_eq_true ‹0›]; rfl
theorem wD (i j:Int):xf (.int i) (.int j)=some (.int (Builtin.bitAnd i j)):=nr rfl
theorem G2 (a b c d:D):lV [a,b,c,d]=some (.lst [a,b,c,d]):=nr rfl
theorem IU (a b c d:D) (i:Int) (h0:0<=i) (h1:i < 4):∃ x∈[a,b,c,d],bL (.lst [a,b,c,d]) (.int i)=some x:=by
 rcases(show i=0\/i=1\/i=2\/i=3 by omega) with z | z | z | z <;> subst z
 ·exact⟨a,by simp,rfl⟩
 ·exact⟨b,by simp,rfl⟩
 ·exact⟨c,by simp,rfl⟩
 ·exact⟨d,by simp,rfl⟩
theorem CF (B:cf) (n:Nat) (a b c d e f:D):bj B 6 n [a,b,c,d,e,f]=B K0 (env0 n [a,b,c,d,e,f]):=nr rfl
abbrev fm (ps qs:List (Str×D)):D:=.tup [.tup (ps.map fld),.tup (qs.map fld)]
theorem wB {α:Type} {ρ:aq} {g:GF} {C:aq->R Bool} {Fe:FX} (mk:α->D) (p:α->Bool) (v:α->D):∀ xs:List α,(∀ a∈xs,∃ ρ1,g (mk a) ρ=some ρ1/\C ρ1=.ok (p a)/\(p a=true->Fe ρ1=.ok (v a))) ->
  vq ρ g C Fe (xs.map mk)=.ok ((xs.filter p).map v)
 | [],_=>rfl
 | a::xs,h=>by
  obtain⟨ρ1,h1,h2,h3⟩:=h a Jq
  rw [JD,jS,h1,dQ,cB,h2,gb,cB,wB mk p v xs fun b hb=>h b (Jr _ hb)]
  cases e:p a with
  | true=>rw [if_pos rfl,h3 e,gb,cB,K1 e]; rfl
  | false=>rw [if_neg JB,K2 (by simp [e])]
def mx (a b:Int):Int:=if b > a then b else a
end T4
namespace T4
open PySem PySem.Spec L2 TG TD
local macro_rules
 | `(tactic| simp! only [$xs,*])=>`(tactic| simp only [cB,q5,nT,qN,gb,dQ,ge_0,yn,nF,ye,mB,j9,mG,mK,yO,yk,yR,xR,x4,ny,my,rB,iO,j8,mP,kB,qW,nB,mX,kC,ng,iD,mL,iK,ib,gC,gF,mD,kx,gD,kL,iI,jY,kr,gx,kz,iP,lj,kn,ip,hJ,ki,jX,yK,qY,xA,yN,yq,m9,kH,mR,kJ,kj,yj,x3,Lf,Lg,JD,JY,J8,Kk,K0,env0,List.replicate,KQ,JH,KH,Nat.reduceAdd,Nat.reduceSub,JC,J1,mV,nE,qU,ni,nz,nA,gE,mZ,qz,ro,rE,nG,iB,iL,iC,ia,iF,ic,rF,qo,qy,rk,qt,qH,iE,iq,eQ,fw,mH,gH,e8,fh,eV,jg,jy,e6,eU,ie,iJ,j0,kM,iA,kI,nu,nC,j4,j6,gN,if_true,if_false,Lh,Li,J6,$xs,*])
def stp (b:Int):Int:=([1,5,7,11,13,23]:List Int).getD (b%6).toNat 0
def kk (b k:Int):Int:=(k*stp b+b / 6)%24
end T4
namespace T4
open PySem PySem.Spec L2 TG TD
theorem md {α:Type} {motive:List α->Prop} (nil:motive []) (snoc:∀ (t:List α) (r:α),motive t->motive (t++[r])) (t:List α):motive t:=by
 have h:∀ l:List α,motive l.reverse:=fun l=>by
  induction l with
  | nil=>exact nil
  | cons a l ih=>rw [List.reverse_cons]; exact snoc _ _ ih
 have:=h t.reverse
 rw [List.reverse_reverse] at this
 exact this
theorem oa:∀ {σ:List Bool} {a:List D} (m:Nat),Sh σ a->Sh (σ.take m) (a.take m)
 | _,_,0,_=>by rw [J9,J9]; exact .nil
 | _,_,m+1,.nil=>by rw [Ka,Ka]; exact .nil
 | _,_,m+1,.int i h=>by rw [Kb,Kb]; exact .int i (oa m h)
 | _,_,m+1,.str i h=>by rw [Kb,Kb]; exact .str i (oa m h)
theorem oh:∀ {σ:List Bool} {a:List D},Sh σ a->∃ q:List Key,a=q.map aY
 | _,_,.nil=>⟨[],rfl⟩
 | _,_,.int i h=>by
  obtain⟨q,e⟩:=oh h
  exact⟨.inl i::q,by rw [JD,e]; rfl⟩
 | _,_,.str x h=>by
  obtain⟨q,e⟩:=oh h
  exact⟨.inr x::q,by rw [JD,e]; rfl⟩
theorem pp:∀ {p q:List Key},p.map aY=q.map aY->p=q:=fun {p q} h=>by
 have:=congrArg keysOf h
 rw [bQ,bQ] at this
 exact Option.some.inj this
theorem pB:∀ {σ:List Bool} {a b:List D} (m:Nat),Sh σ a->Sh σ b->cY a b=some true->cY (a.take m) (b.take m)=some true\/a.take m=b.take m
 | _,_,_,0,_,_,_=>.inr (by rw [J9,J9])
 | _,_,_,m+1,.nil,.nil,_=>.inr rfl
 | _,_,_,m+1,.int i h,.int j h',e=>by
  rw [lP] at e
  rw [Kb,Kb,lP]
  by_cases z:i=j
  ·rw [if_pos z] at e ⊢
   rcases pB m h h' e with q | q
   ·exact .inl q
   ·exact .inr (by rw [z,q])
  ·rw [if_neg z] at e ⊢
   exact .inl e
 | _,_,_,m+1,.str i h,.str j h',e=>by
  rw [lN] at e
  rw [Kb,Kb,lN]
  by_cases z:i=j
  ·rw [if_pos z] at e ⊢
   rcases pB m h h' e with q | q
   ·exact .inl q
   ·exact .inr (by rw [z,q])
  ·rw [if_neg z] at e ⊢
   exact .inl e
section
open Classical
variable (m:Nat)
noncomputable def DG (acc:List (List D)) (r:List D):List (List D):=if r.take m∈acc then acc else acc++[r.take m]
noncomputable def fs (t:List (List D)):List (List D):=t.foldl (DG m) []
noncomputable def gp (t:List (List D)) (f:List D):List (List D):=(t.filter fun r=>decide (r.take m=f)).map (List.drop m)
theorem jn (t:List (List D)) (r:List D):fs m (t++[r])=DG m (fs m t) r:=by
 unfold fs
 rw [List.foldl_append]; rfl
theorem jQ {t:List (List D)} {f:List D}:f∈fs m t↔∃ r∈t,r.take m=f:=by
 induction t using md with
 | nil=>unfold fs; simp
 | snoc t r ih =>
  rw [jn]
  unfold DG
  split
  ·rename_i h
   rw [ih]
   constructor
   ·rintro⟨x,h1,h2⟩; exact⟨x,Js _ h1,h2⟩
   ·rintro⟨x,h1,h2⟩
    rcases List.mem_append.mp h1 with z | z
    ·exact⟨x,z,h2⟩
    ·rw [List.mem_singleton.mp z] at h2
     rw [h2] at h
     exact ih.mp h
  ·rw [List.mem_append,ih,K9]
   constructor
   ·rintro(⟨x,h1,h2⟩ | h2)
    ·exact⟨x,Js _ h1,h2⟩
    ·exact⟨r,by simp,h2.symm⟩
   ·rintro⟨x,h1,h2⟩
    rcases List.mem_append.mp h1 with z | z
    ·exact .inl ⟨x,z,h2⟩
    ·rw [List.mem_singleton.mp z] at h2
     exact .inr h2.symm
theorem uR (t:List (List D)):(fs m t).Nodup:=by
 induction t using md with
 | nil=>exact J3
 | snoc t r ih =>
  rw [jn]
  unfold DG
  split
  ·exact ih
  ·rename_i h
   exact List.nodup_append.mpr ⟨ih,by simp,fun a ha b hb e=>by
    rw [List.mem_singleton.mp hb] at e
    rw [e] at ha; exact h ha⟩
theorem lF (t:List (List D)):(fs m t).length<=t.length:=by
 induction t using md with
 | nil=>exact Jw _
 | snoc t r ih =>
  rw [jn]
  unfold DG
  split
  ·rw [JR]; omega
  ·rw [JR,JR]; simpa using ih
theorem zv {σ:List Bool} {n:Nat} (hn:n=σ.length) {t:List (List D)} (hs:∀ r∈t,Sh σ (r.take n)) (hm:m<=n) (p:Fg n t):(fs m t).Pairwise (fun a b=>cY a b=some true)/\∀ r,t.getLast?=some r->(fs m t).getLast?=some (r.take m):=by
 induction t using md with
 | nil=>exact⟨List.Pairwise.nil,fun r h=>by simp at h⟩
 | snoc t r ih =>
  obtain⟨p1,p2,p3⟩:=List.pairwise_append.mp p
  obtain⟨i1,i2⟩:=ih (fun x hx=>hs x (Js _ hx)) p1
  have sm:∀ x∈t++[r],Sh (σ.take m) (x.take m):=fun x hx=>by
   have:=oa m (hs x hx)
   rw [Lp,Ld hm] at this
   exact this
  have le:∀ x∈t,cY (x.take m) (r.take m)=some true\/x.take m=r.take m:=fun x hx=>by
   have:=pB m (hs x (Js _ hx)) (hs r (by simp)) (p3 x hx r (by simp))
   rw [Lp,Lp,Ld hm] at this
   exact this
  rw [jn]
  unfold DG
  split
  ·rename_i h
   refine⟨i1,fun x hx=>?_⟩
   rw [Lq] at hx
   have hx:r=x:=by simpa using hx
   subst hx
   obtain⟨y,hy,ey⟩:=(jQ m).mp h
   have ne:t≠[]:=fun z=>by rw [z] at hy; cases hy
   have e0:=i2 _ (Lr ne)
   have f0:fs m t≠[]:=fun z=>by rw [z] at h; cases h
   rw [Lr f0] at e0 ⊢
   have e0:=Option.some.inj e0
   rcases le _ (Ls ne) with q | q
   ·-- then it comes ahead of the last
    exfalso
    have hd:fs m t=(fs m t).dropLast++[(fs m t).getLast f0]:=(Lv f0).symm
    rw [hd] at h i1
    rcases List.mem_append.mp h with z | z
    ·have:=(List.pairwise_append.mp i1).2.2 _ z _ (List.mem_singleton.mpr rfl)
     rw [e0] at this
     have a:=uy (sm r (by simp)) (sm _ (Js _ (Ls ne))) this
     rw [q] at a; cases a
    ·have:=List.mem_singleton.mp z
     rw [e0] at this
     rw [this] at q
     rw [ko (sm _ (Js _ (Ls ne)))] at q
     cases q
   ·rw [e0,q]
  ·rename_i h
   refine⟨List.pairwise_append.mpr ⟨i1,KZ _ _,fun a ha b hb=>?_⟩,fun x hx=>?_⟩
   ·rw [List.mem_singleton.mp hb]
    obtain⟨y,hy,ey⟩:=(jQ m).mp ha
    rcases le y hy with q | q
    ·rw [ey] at q; exact q
    ·rw [ey] at q
     rw [q] at ha; exact absurd ha h
   ·rw [Lq] at hx ⊢
    have hx:r=x:=by simpa using hx
    subst hx
    simp
theorem ow (t:List (List D)) (r f:List D):gp m (t++[r]) f=gp m t f++(if r.take m=f then [r.drop m] else []):=by
 unfold gp
 rw [List.filter_append,Km]
 congr 1
 by_cases h:r.take m=f
 ·rw [if_pos h,K1 (by simpa using h)]; rfl
 ·rw [if_neg h,K2 (by simpa using h)]; rfl
noncomputable def flat (t:List (List D)):List (List D):=(fs m t).flatMap fun f=>(gp m t f).map (f++·)
theorem BG {σ:List Bool} {n:Nat} (hn:n=σ.length) {t:List (List D)} (hs:∀ r∈t,Sh σ (r.take n)) (hm:m<=n) (p:Fg n t):flat m t=t:=by
 induction t using md with
 | nil=>rfl
 | snoc t r ih =>
  have p1:=(List.pairwise_append.mp p).1
  have i0:=ih (fun x hx=>hs x (Js _ hx)) p1
  have hr:=zv m hn hs hm p
  unfold flat at i0 ⊢
  rw [jn] at hr ⊢
  unfold DG at hr ⊢
  have same:∀ L:List (List D),r.take m∉L->(L.flatMap fun f=>(gp m (t++[r]) f).map (f++·))=L.flatMap fun f=>(gp m t f).map (f++·):=fun L hL=>by
   induction L with
   | nil=>rfl
   | cons f L ih =>
    rw [Lw,Lw,ih fun z=>hL (Jr _ z),ow,if_neg fun z=>hL (by rw [z]; exact Jq),JH]
  split
  ·rename_i h
   rw [if_pos h] at hr
   have f0:fs m t≠[]:=fun z=>by rw [z] at h; cases h
   have last:=hr.2 r (by rw [Lq]; simp)
   rw [Lr f0] at last
   have last:=Option.some.inj last
   have hd:fs m t=(fs m t).dropLast++[r.take m]:=by
    rw [<- last]; exact(Lv f0).symm
   have nd:=uR m t
   rw [hd] at nd
   have nin:r.take m∉(fs m t).dropLast:=fun z=>(List.nodup_append.mp nd).2.2 _ z _ (List.mem_singleton.mpr rfl) rfl
   rw [hd,Lx] at i0 ⊢
   rw [same _ nin]
   conv=>rhs; rw [<- i0]
   rw [Ku]
   congr 1
   rw [Ly,Ly,ow,if_pos rfl,Km,Lz,LA]
  ·rename_i h
   rw [Lx,same _ h,i0,Ly,ow,if_pos rfl]
   congr 1
   have e:gp m t (r.take m)=[]:=by
    unfold gp
    rw [List.filter_eq_nil_iff.mpr]
    ·rfl
    ·intro x hx z
     exact h ((jQ m).mpr ⟨x,hx,by simpa using z⟩)
   rw [e,Kk,Lz,LA]
end
open Classical in
theorem qV (al:List (List Key×D)) (q:List Key) (v:D):(eX al q v).map (·.1)=if q∈al.map (·.1) then al.map (·.1) else al.map (·.1)++[q]:=by
 have e:(al.any fun p=>decide (p.1=q))=true↔q∈al.map (·.1):=by
  rw [List.any_eq_true,List.mem_map]
  simp only [decide_eq_true_eq]
 unfold eX
 by_cases h:q∈al.map (·.1)
 ·rw [if_pos (e.mpr h),if_pos h,K7]
  refine Kl fun p _=>?_
  show (if p.1=q then (p.1,v) else p).1=p.1
  split <;> rfl
 ·rw [if_neg fun z=>h (e.mp z),if_neg h,Km]; rfl
theorem zU {al:List (List Key×D)} {q:List Key} {v:D} {p:List Key×D} (h:p∈eX al q v):p∈al\/p=(q,v):=by
 unfold eX at h
 split at h
 ·obtain⟨a,ha,e⟩:=List.mem_map.mp h
  by_cases z:a.1=q
  ·rw [if_pos z] at e
   exact .inr (by rw [<- e,z])
  ·rw [if_neg z] at e
   exact .inl (by rw [<- e]; exact ha)
 ·rcases List.mem_append.mp h with z | z
  ·exact .inl z
  ·exact .inr (List.mem_singleton.mp z)
theorem BQ {al:List (List Key×D)} (q:List Key) (v:D) (h:(al.map (·.1)).Nodup):((eX al q v).map (·.1)).Nodup:=by
 rw [qV]
 split
 ·exact h
 ·rename_i z
  exact List.nodup_append.mpr ⟨h,by simp,fun a ha b hb e=>by
   rw [List.mem_singleton.mp hb] at e
   rw [e] at ha; exact z ha⟩
theorem yU (al:List (List Key×D)) (q:List Key) (v:D):(eX al q v).length<=al.length+1:=by
 have:=congrArg List.length (qV al q v)
 rw [JE] at this
 rw [this]
 split <;> simp
theorem tX:∀ {al:List (List Key×D)} {p:List Key×D},(al.map (·.1)).Nodup->p∈al->nW al p.1=some p.2
 | a::al,p,h,hp=>by
  obtain⟨h1,h2⟩:=List.nodup_cons.mp (by simpa using h:(a.1::al.map (·.1)).Nodup)
  unfold nW
  by_cases e:a.1=p.1
  ·rw [La (by simpa using e)]
   rcases List.mem_cons.mp hp with z | z
   ·rw [z]; rfl
   ·exact absurd (show a.1∈al.map (·.1) from by rw [e]; exact List.mem_map.mpr ⟨p,z,rfl⟩) h1
  ·rw [Lb (by simpa using e)]
   rcases List.mem_cons.mp hp with z | z
   ·exact absurd (by rw [z]) e
   ·exact tX h2 z
theorem wW (al:List (List Key×D)):AD (encK al) (al.map (·.2))=some al:=by
 cases al with
 | nil=>rfl
 | cons p al=>exact ik (p::al)
theorem uw (al:List (List Key×D)):jU [cG al]=some (.lst (encK al)):=by
 show (AD (encK al) (al.map (·.2))).bind _=_
 rw [wW]; rfl
theorem Dp (al:List (List Key×D)) (q:List Key):vR (cG al) (.tup (q.map aY))=nW al q:=by
 show (AD (encK al) (al.map (·.2))).bind _=_
 rw [wW]
 show (iG (.tup (q.map aY))).bind _=_
 rw [lQ]; rfl
theorem tR (al:List (List Key×D)):vC (lB al)=some (al.map kY):=by
 show (js (encK al) (al.map (·.2))).map _=_
 rw [ik]; rfl
theorem wL {al:List (List Key×D)} {σ:List Bool} (nd:(al.map (·.1)).Nodup) (hs:∀ p∈al,Sh σ (p.1.map aY)) (h0:σ≠[]) (hl:al.length < 64):dP [.lst (encK al)]=some (.lst (iz cU (encK al)))/\uA cU (iz cU (encK al)):=by
 have hx:∀ x∈encK al,∃ k,x=.tup k/\Sh σ k:=fun x hx=>by
  obtain⟨p,hp,rfl⟩:=List.mem_map.mp hx
  exact⟨_,rfl,hs p hp⟩
 have pw:(encK al).Pairwise fun x y=>cU x≠cU y:=by
  rw [K4]
  have:=List.pairwise_map.mp nd
  exact this.imp fun {a b} ne e=>ne (pp e)
 have a:DU (encK al):=⟨by rw [JE]; exact hl,σ,h0,hx,pw⟩
 refine⟨?_,nh (σ:=σ) (fun x h=>by obtain⟨k,e,s⟩:=hx x h; rw [e]; exact s) pw⟩
 show nN (encK al)=_
 unfold nN
 rw [if_pos a]
theorem wC:∀ vs:List D,(∀ v∈vs,∃ r,v=.tup r)->∃ t:List (List D),vs=t.map .tup
 | [],_=>⟨[],rfl⟩
 | v::vs,h=>by
  obtain⟨r,e⟩:=h v Jq
  obtain⟨t,et⟩:=wC vs fun v hv=>h v (Jr _ hv)
  exact⟨r::t,by rw [e,et]; rfl⟩
def AL:Nat->D->Prop
 | 0,d=>(∃ i,d=.int i)\/∃ x,d=.str x
 | n+1,d=>((∃ i,d=.int i)\/∃ x,d=.str x)\/∃ ds,d=.tup ds/\ds.length<=1000/\∀ x∈ds,AL n x
theorem AL.of0 {d:D} (h:AL 0 d):∀ n,AL n d
 | 0=>h
 | _+1=>.inl h
theorem AL.up:∀ {n:Nat} {d:D},AL n d->AL (n+1) d
 | 0,_,h=>.inl h
 | n+1,_,h=>by
  rcases h with h | ⟨ds,e,l,f⟩
  ·exact .inl h
  ·exact .inr ⟨ds,e,l,fun x hx=>AL.up (f x hx)⟩
theorem AL.le {n m:Nat} (h:n<=m) {d:D} (hd:AL n d):AL m d:=by
  induction m with
  | zero => have : n = 0 := by omega
            subst this; exact hd
  | succ m ih =>
    by_cases e:n=m+1
    · subst e; exact hd
    · exact AL.up (ih ‹0›)
theorem AL.tup {n:Nat} {ds:List D} (l:ds.length<=1000) (h:∀ x∈ds,AL n x):AL (n+1) (.tup ds):=.inr ⟨ds,rfl,l,h⟩
theorem uc:∀ {σ:List Bool} {a:List D},Sh σ a->∀ x∈a,AL 0 x
 | _,_,.int i h,x,hx=>by
  rcases List.mem_cons.mp hx with z | z
  ·exact .inl ⟨i,z⟩
  ·exact uc h x z
 | _,_,.str i h,x,hx=>by
  rcases List.mem_cons.mp hx with z | z
  ·exact .inr ⟨i,z⟩
  ·exact uc h x z
end T4
namespace Tk41
open PySem PySem.Spec L2 TG TX TD
def top (i:Nat):M2:=PySem.Challenge.pw_twoglass_k41_nests_put.main.body.getD i (.Pass ⟨0,0,0,0⟩)
abbrev dM:M2:=inClass (top 6) 0
theorem mE:bd ["self","many","name"] ["self","many","name"] (aA dM):=‹2›
abbrev eJ:M2:=top 21
theorem p5:bd ["_law_found","_law_due","_law_one","_law_other"] ["_law_found","_law_due"] (aA eJ):=‹2›
def cO (aI:List D->R D):cf:=aQ (mJ (eT (n5 "str" (ah 1))) (bT (o5 (n5 "str" (ah 0)) (f2 lA (ah 0) (ah 1)))) (cS)) (aQ (mJ (Ci (eT (n5 "bool" (ah 1))) (eT (n5 "bool" (ah 0)))) (bT (o5 (n5 "bool" (ah 1)) (o5 (n5 "bool" (ah 0)) (f2 lA (ah 0) (ah 1))))) (cS)) (aQ (mJ (eT (n5 "int" (ah 1))) (bT (o5 (n5 "int" (ah 0)) (f2 lA (ah 0) (ah 1)))) (cS)) (aQ (mJ (Ci (sR (eT (n5 "tuple" (ah 0)))) (fB (f2 uY (fL kR (af (ah 0) (aw))) (fL kR (af (ah 1) (aw)))))) (bT (fC (.bl false))) (cS)) (aQ (ju (AW (af (ah 0) (af (ah 1) (aw)))) (gT 2 (mF [2,3])) (aQ (mJ (sR (eT (fR aI (af (ah 2) (af (ah 3) (aw)))))) (bT (fC (.bl false))) (cS)) (eN [2,3] cS))) (bT (fC (.bl true)))))))
def aI:Nat->List D->R D
 | 0=>fun _=>un
 | n+1=>bj (cO (aI n)) 2 4
theorem gV (n:Nat):aI (n+1)=bj (cO (aI n)) 2 4:=by rw [aI]
theorem cA:∀ n:Nat,Ar 2 (aI n)
 | 0=>fun _ h=>absurd (by rw [aI]) h
 | n+1=>by rw [gV]; exact bf
abbrev iV:M2:=inClass (top 4) 3
theorem uH:bd ["self","form","table","view"] ["self","form","table","view"] (aA iV):=‹2›
def cH:cf:=bT (ah 3)
abbrev jr:M2:=top 7
theorem tT:bd ["many","table","rows","row"] ["many","table"] (aA jr):=‹2›
def dY:cf:=aQ (lZ 2 (jb (aw))) (aQ (ju (cL (ah 1)) (gN 3) (aQ (Ax 2 (mC [none,some 3,some 0] (cL (f2 bL (ah 3) (ah 0))) (gN 0) (ga) (f2 cp (bJ (ah 1) (bn) (cI (ah 2))) (ah 0)))) (eN [3] cS))) (gI 2 (bT (fL bP (af (ah 2) (aw))))))
abbrev jp:M2:=inClass (top 6) 4
theorem uV:bd ["self","form","table","view"] ["self","form","table","view"] (aA jp):=‹2›
def bA:cf:=bT (fR (bj dY 2 4) (af (f1 (sN "many" ["Nest"]) (ah 0)) (af (ah 3) (aw))))
abbrev fD:M2:=top 23
theorem pJ:bd ["_law_table_here","_law_many","_law_firsts","_law_row_here","_law_found","_law_first"] ["_law_table_here","_law_many"] (aA fD):=‹2›
noncomputable def cW:cf:=aQ (lZ 2 qq) (aQ (ju (cL (ah 0)) (gN 3) (pf 2 (bJ (ah 3) (bn) (cI (ah 1))) (fC (.bl true)))) (aQ (lZ 4 (jb (aw))) (gI 2 (aQ (ju (cL (fL dP (af (fL jU (af (ah 2) (aw))) (aw)))) (gN 5) (aQ (yH 4 fV (af (f2 cp (ah 5) (fY (af (fL bP (af (mC [none,some 1,some 5] (cL (ah 0)) (gN 0) (fB (f2 lA (bJ (ah 0) (bn) (cI (ah 1))) (ah 2))) (bJ (ah 0) (cI (ah 1)) (bn))) (aw))) (aw)))) (aw))) (eN [5] cS))) (gI 4 (bT (fL bP (af (ah 4) (aw)))))))))
abbrev je:M2:=inClass (top 4) 2
theorem uJ:bd ["self","form","table"] ["self","form","table"] (aA je):=‹2›
def eO:cf:=bT (ah 2)
abbrev ky:M2:=top 2
theorem vh:bd ["many","rows","groups","row"] ["many","rows"] (aA ky):=‹2›
def gG:cf:=aQ (sW 2) (aQ (ju (cL (ah 1)) (gN 3) (aQ (yy 2 (bJ (ah 3) (bn) (cI (ah 0))) (bJ (ah 3) (cI (ah 0)) (bn))) (eN [3] cS))) (rd 2 (bT (fL oH (af (mC [none,none] (jk (ah 2)) (gT 2 (mF [0,1])) (ga) (fY (af (ah 0) (af (fL bP (af (ah 1) (aw))) (aw))))) (aw))))))
abbrev iY:M2:=inClass (top 6) 3
theorem uC:bd ["self","form","table"] ["self","form","table"] (aA iY):=‹2›
def du:cf:=bT (fL bP (af (mC [none,none] (jk (fR (bj gG 2 4) (af (f1 (sN "many" ["Nest"]) (ah 0)) (af (ah 2) (aw))))) (gT 2 (mF [0,1])) (ga) (f2 cp (ah 0) (fY (af (ah 1) (aw))))) (aw)))
abbrev gZ:M2:=top 12
theorem sI:bd ["_law_base","_law_k","_law_letters","_law_size","_law_name_here","_law_j","_law_step"] ["_law_base","_law_k"] (aA gZ):=‹2›
abbrev eL:M2:=top 9
theorem n0:bd ["_law_script","_law_k"] ["_law_script","_law_k"] (aA eL):=‹2›
abbrev fF:M2:=top 18
theorem o9:bd ["_law_many","_law_rows_here","_law_found","_law_row_here"] ["_law_many","_law_rows_here"] (aA fF):=‹2›
noncomputable def bq:cf:=aQ (lZ 2 qq) (aQ (ju (cL (ah 1)) (gN 3) (aQ (pf 2 (bJ (ah 3) (bn) (cI (ah 0))) (ah 3)) (eN [3] cS))) (gI 2 (bT (fL bP (af (mC [none,some 2] (cL (fL dP (af (fL jU (af (ah 2) (aw))) (aw)))) (gN 0) (ga) (f2 vR (ah 1) (ah 0))) (aw))))))
abbrev gS:M2:=top 10
theorem rY:bd ["_law_x"] ["_law_x"] (aA gS):=‹2›
abbrev eG:M2:=top 16
theorem qf:bd ["_law_kind_here","_law_x"] ["_law_kind_here","_law_x"] (aA eG):=‹2›
abbrev gK:M2:=top 17
theorem uQ:bd ["_law_form_here","_law_many","_law_head","_law_tail","_law_row_here","_law_name_here","_law_kind_here"] ["_law_form_here","_law_many","_law_head","_law_tail"] (aA gK):=‹2›
abbrev fS:M2:=top 19
theorem sj:bd ["_law_form_here","_law_x","_law_many","_law_rows_here","_law_k"] ["_law_form_here","_law_x","_law_many"] (aA fS):=‹2›
noncomputable def eI (ax aB aD:List D->R D):cf:=aQ (mJ (fB (f2 lA (f2 bL (ah 0) (fC (.int 0))) (fC (.str "number")))) (bT (f2 cp (f2 bL (ah 0) (fC (.int 1))) (f2 bK (f2 nX (ah 1) (fC (.int 7))) (f2 cp (f2 vX (f2 bL (ah 0) (fC (.int 2))) (f2 bL (ah 0) (fC (.int 1)))) (fC (.int 1)))))) (cS)) (aQ (mJ (fB (f2 lA (f2 bL (ah 0) (fC (.int 0))) (fC (.str "word")))) (bT (f2 bL (f2 bL (ah 0) (fC (.int 1))) (f2 bK (ah 1) (fL kR (af (f2 bL (ah 0) (fC (.int 1))) (aw)))))) (cS)) (bT (fR aD (af (f2 bL (ah 0) (fC (.int 1))) (af (f2 cN (ah 1) (fC (.int 3))) (af (fL oz (af (f2 bK (ah 1) (fC (.int 3))) (af (fL wv (af (f2 bL (ah 0) (fC (.int 2))) (aw))) (aw)))) (aw)))))))
noncomputable def ja (ax aB aD:List D->R D):cf:=aQ (lZ 4 (jb (aw))) (aQ (ju (cL (f2 cp (f2 bL (ah 0) (fC (.int 0))) (f2 bL (ah 0) (fC (.int 1))))) (gT 2 (mF [5,6])) (aQ (mJ (jL [4] (fB (f2 rX (fL kR (af (ah 4) (aw))) (ah 1)))) (aQ (cx 2 (fR (bj aK 1 1) (af (ah 2) (aw)))) (yH 4 fV (af (fR ax (af (ah 6) (af (ah 2) (aw)))) (aw)))) (aQ (cx 3 (fR (bj aK 1 1) (af (ah 3) (aw)))) (yH 4 fV (af (fR ax (af (ah 6) (af (ah 3) (aw)))) (aw))))) (eN [5,6] cS))) (gI 4 (bT (fL bP (af (ah 4) (aw))))))
noncomputable def gY (ax aB aD:List D->R D):cf:=aQ (lZ 3 (jb (aw))) (aQ (ju (gq (af (ah 2) (aw))) (gN 4) (aQ (cx 1 (fR (bj aK 1 1) (af (ah 1) (aw)))) (aQ (yH 3 fV (af (fR aB (af (ah 0) (af (fC (.int 0)) (af (fC (.int 0)) (af (ah 1) (aw)))))) (aw))) (eN [4] cS)))) (gI 3 (bT (fR (bj bq 2 4) (af (fL kR (af (f2 bL (ah 0) (fC (.int 0))) (aw))) (af (ah 3) (aw)))))))
mutual
noncomputable def ax:Nat->List D->R D
 | 0=>fun _=>un
 | n+1=>bj (eI (ax n) (aB n) (aD n)) 2 2
noncomputable def aB:Nat->List D->R D
 | 0=>fun _=>un
 | n+1=>bj (ja (ax n) (aB n) (aD n)) 4 7
noncomputable def aD:Nat->List D->R D
 | 0=>fun _=>un
 | n+1=>bj (gY (ax n) (aB n) (aD n)) 3 5
end
theorem cZ (n:Nat):ax (n+1)=bj (eI (ax n) (aB n) (aD n)) 2 2:=by rw [ax]
theorem fZ:∀ n:Nat,Ar 2 (ax n)
 | 0=>fun _ h=>absurd (by rw [ax]) h
 | n+1=>by rw [cZ]; exact bf
theorem fW (n:Nat):aB (n+1)=bj (ja (ax n) (aB n) (aD n)) 4 7:=by rw [aB]
theorem fE:∀ n:Nat,Ar 4 (aB n)
 | 0=>fun _ h=>absurd (by rw [aB]) h
 | n+1=>by rw [fW]; exact bf
theorem fj (n:Nat):aD (n+1)=bj (gY (ax n) (aB n) (aD n)) 3 5:=by rw [aD]
theorem gJ:∀ n:Nat,Ar 3 (aD n)
 | 0=>fun _ h=>absurd (by rw [aD]) h
 | n+1=>by rw [fj]; exact bf
abbrev hV:M2:=top 11
theorem rG:bd ["_law_script","_law_k","_law_x"] ["_law_script","_law_k"] (aA hV):=‹2›
abbrev gB:M2:=top 20
theorem pX:bd ["_law_form_here","_law_many","_law_script","_law_start","_law_most","_law_rows_here","_law_k","_law_x"] ["_law_form_here","_law_many","_law_script","_law_start","_law_most"] (aA gB):=‹2›
noncomputable def eA:cf:=aQ (lZ 5 (jb (aw))) (aQ (ju (n8 (af (ah 3) (af (fL tM (af (fL oz (af (fL kR (af (ah 2) (aw))) (af (f2 cp (ah 3) (fC (.int 5))) (aw)))) (af (f2 cp (ah 3) (ah 4)) (aw)))) (aw)))) (gN 6) (aQ (cx 7 (fR (bj bR 2 3) (af (ah 2) (af (ah 6) (aw))))) (aQ (yH 5 fV (af (fR (aB 12) (af (ah 0) (af (ah 1) (af (f2 bL (jb (af (f2 bK (f2 cN (ah 7) (fC (.int 2))) (fC (.int 4))) (af (f2 cN (ah 7) (fC (.int 2))) (aw)))) (f2 bK (ah 7) (fC (.int 2)))) (af (fR (bj aK 1 1) (af (ah 7) (aw))) (aw)))))) (aw))) (eN [6,7] cS)))) (gI 5 (bT (fR (bj bq 2 4) (af (fL kR (af (f2 bL (ah 0) (fC (.int 0))) (aw))) (af (ah 5) (aw)))))))
abbrev gu:M2:=top 13
theorem qc:bd ["_law_x","_law_low","_law_letters","_law_one","_law_other","_law_some","_law_kept","_law_k"] ["_law_x"] (aA gu):=‹2›
abbrev fT:M2:=top 14
theorem rQ:bd ["_law_x","_law_base","_law_deep","_law_inner"] ["_law_x","_law_base","_law_deep"] (aA fT):=‹2›
abbrev fN:M2:=top 15
theorem sF:bd ["_law_x","_law_base","_law_start","_law_many","_law_more","_law_deep","_law_key","_law_rest","_law_k"] ["_law_x","_law_base","_law_start","_law_many","_law_more","_law_deep"] (aA fN):=‹2›
noncomputable def fJ (aJ aH:List D->R D):cf:=aQ (mJ (Ci (fB (f2 lA (ah 2) (fC (.int 0)))) (fB (f2 rX (f2 bK (ah 0) (fC (.int 3))) (fC (.int 2))))) (bT (fR (bj bV 1 8) (af (f2 cN (ah 0) (fC (.int 3))) (aw)))) (cS)) (aQ (cx 3 (fR aH (af (f2 cN (ah 0) (fC (.int 3))) (af (ah 1) (af (f2 bK (f2 cN (ah 0) (fC (.int 36))) (fC (.int 12))) (af (f2 cp (fC (.int 1)) (f2 bK (f2 cN (ah 0) (fC (.int 3))) (fC (.int 2)))) (af (f2 bK (f2 cN (ah 0) (fC (.int 6))) (fC (.int 3))) (af (f2 vX (ah 2) (fC (.int 1))) (aw))))))))) (bT (fY (af (fC (.str "rows")) (af (ah 3) (af (f2 lA (f2 bK (f2 cN (ah 0) (fC (.int 18))) (fC (.int 2))) (fC (.int 1))) (aw)))))))
noncomputable def gW (aJ aH:List D->R D):cf:=aQ (lZ 6 (jb (aw))) (aQ (lZ 7 (jb (aw))) (aQ (ju (gq (af (f2 cp (ah 3) (ah 4)) (aw))) (gN 8) (aQ (cx 0 (fR (bj aK 1 1) (af (ah 0) (aw)))) (aQ (mJ (fB (f2 rX (ah 8) (ah 3))) (yH 6 fV (af (fY (af (fR (bj bI 2 7) (af (ah 1) (af (f2 cp (ah 2) (ah 8)) (aw)))) (af (fR (bj bV 1 8) (af (ah 0) (aw))) (aw)))) (aw))) (yH 7 fV (af (fY (af (fR (bj bI 2 7) (af (ah 1) (af (f2 cp (ah 2) (ah 8)) (aw)))) (af (fR aJ (af (ah 0) (af (ah 1) (af (ah 5) (aw))))) (aw)))) (aw)))) (eN [8] cS)))) (gI 7 (gI 6 (bT (fY (af (fL bP (af (ah 6) (aw))) (af (fL bP (af (ah 7) (aw))) (aw)))))))))
mutual
noncomputable def aJ:Nat->List D->R D
 | 0=>fun _=>un
 | n+1=>bj (fJ (aJ n) (aH n)) 3 4
noncomputable def aH:Nat->List D->R D
 | 0=>fun _=>un
 | n+1=>bj (gW (aJ n) (aH n)) 6 9
end
theorem dC (n:Nat):aJ (n+1)=bj (fJ (aJ n) (aH n)) 3 4:=by rw [aJ]
theorem jM:∀ n:Nat,Ar 3 (aJ n)
 | 0=>fun _ h=>absurd (by rw [aJ]) h
 | n+1=>by rw [dC]; exact bf
theorem eY (n:Nat):aH (n+1)=bj (gW (aJ n) (aH n)) 6 9:=by rw [aH]
theorem gL:∀ n:Nat,Ar 6 (aH n)
 | 0=>fun _ h=>absurd (by rw [aH]) h
 | n+1=>by rw [eY]; exact bf
abbrev de:M2:=top 22
theorem lr:bd ["_law_script","_law_fewest","_law_x","_law_base","_law_many","_law_more","_law_deep"] ["_law_script","_law_fewest"] (aA de):=‹2›
noncomputable def cE:cf:=aQ (cx 2 (fR (bj bR 2 3) (af (ah 0) (af (fC (.int 0)) (aw))))) (aQ (cx 3 (f2 bK (f2 lw (fR (bj bS 2 2) (af (ah 0) (af (fC (.int 1)) (aw)))) (fC (.int 48271))) (fC (.int 2147483647)))) (aQ (cx 4 (f2 cp (ah 1) (f2 bK (ah 2) (f2 vX (fC (.int 5)) (ah 1))))) (aQ (cx 5 (f2 bK (f2 cN (ah 2) (fC (.int 8))) (fC (.int 4)))) (aQ (cx 6 (f2 bL (jb (af (fC (.int 0)) (af (fC (.int 0)) (af (fC (.int 1)) (af (fC (.int 2)) (aw)))))) (f2 bK (f2 cN (ah 2) (fC (.int 32))) (fC (.int 4))))) (aQ (mJ (fB (f2 lA (f2 bK (f2 cN (ah 2) (fC (.int 128))) (fC (.int 8))) (fC (.int 3)))) (aQ (cx 4 (f2 vX (fC (.int 8)) (f2 bK (f2 cN (ah 2) (fC (.int 1024))) (fC (.int 3))))) (aQ (cx 5 (f2 bK (f2 cN (ah 2) (fC (.int 4096))) (fC (.int 9)))) (cx 6 (fC (.int 0))))) (cS)) (bT (fR (aH 12) (af (fR (bj aK 1 1) (af (ah 2) (aw))) (af (ah 3) (af (fC (.int 0)) (af (ah 4) (af (ah 5) (af (ah 6) (aw))))))))))))))
abbrev oP:M2:=top 24
theorem C3:bd ["_law_script","_law_form_here","_law_x","_law_many","_law_rows_here","_law_one","_law_other","_law_step","_law_view","_law_put","_law_last"] ["_law_script"] (aA oP):=‹2›
noncomputable def pA:cf:=aQ (cx 1 (fR (bj cE 2 7) (af (ah 0) (af (fC (.int 2)) (aw))))) (aQ (cx 2 (fR (bj aK 1 1) (af (fR (bj bR 2 3) (af (ah 0) (af (fC (.int 2)) (aw)))) (aw)))) (aQ (cx 3 (f2 cp (fC (.int 1)) (f2 bK (ah 2) (f2 vX (fL kR (af (f2 bL (ah 1) (fC (.int 0))) (aw))) (fC (.int 1)))))) (aQ (cx 4 (fR (bj eA 5 8) (af (ah 1) (af (ah 3) (af (ah 0) (af (fC (.int 2)) (af (fC (.int 60)) (aw)))))))) (aQ (cx 5 (fL bP (af (mC [none,none,some 2] (dS (af (ah 4) (aw))) (gT 2 (mF [0,1])) (fB (f2 uY (f2 bK (ah 0) (fC (.int 3))) (f2 bK (f2 cN (ah 2) (fC (.int 8))) (fC (.int 3))))) (ah 1)) (aw)))) (aQ (cx 6 (fL bP (af (mC [none,none,some 2] (dS (af (ah 4) (aw))) (gT 2 (mF [0,1])) (fB (f2 uY (f2 bK (ah 0) (fC (.int 3))) (f2 bK (f2 cN (ah 2) (fC (.int 32))) (fC (.int 4))))) (ah 1)) (aw)))) (aQ (cx 7 (fNew "Nest" ["many","name"] (af (ah 3) (af (fR (bj bI 2 7) (af (f2 bK (f2 lw (fR (bj bS 2 2) (af (ah 0) (af (fC (.int 1)) (aw)))) (fC (.int 48271))) (fC (.int 2147483647))) (af (f2 cp (fC (.int 17)) (f2 bK (f2 cN (ah 2) (fC (.int 128))) (fC (.int 6)))) (aw)))) (aw))))) (aQ (cx 8 (fR (bj cW 2 6) (af (ah 5) (af (ah 3) (aw))))) (aQ (cx 9 (iy "put" [("Step",(bj cH 4 4)),("Nest",(bj bA 4 4))] (ah 7) (af (ah 1) (af (ah 6) (af (ah 8) (aw)))))) (aQ (mJ (Ci (sR (eT (fR (aI 12) (af (ah 9) (af (ah 5) (aw)))))) (sR (eT (fR (aI 12) (af (iy "got" [("Step",(bj eO 3 3)),("Nest",(bj du 3 3))] (ah 7) (af (ah 1) (af (ah 9) (aw)))) (af (ah 8) (aw))))))) (bT (fC (.bl false))) (cS)) (aQ (mJ (sR (eT (fR (aI 12) (af (iy "put" [("Step",(bj cH 4 4)),("Nest",(bj bA 4 4))] (ah 7) (af (ah 1) (af (ah 6) (af (iy "got" [("Step",(bj eO 3 3)),("Nest",(bj du 3 3))] (ah 7) (af (ah 1) (af (ah 6) (aw)))) (aw))))) (af (ah 6) (aw)))))) (bT (fC (.bl false))) (cS)) (aQ (mJ (Ci (fB (f2 uY (iy "put" [("Step",(bj cH 4 4)),("Nest",(bj bA 4 4))] (ah 7) (af (ah 1) (af (ah 6) (af (fY (aw)) (aw))))) (fY (aw)))) (sR (eT (fR (aI 12) (af (iy "put" [("Step",(bj cH 4 4)),("Nest",(bj bA 4 4))] (ah 7) (af (ah 1) (af (fY (aw)) (af (ah 8) (aw))))) (af (ah 5) (aw))))))) (bT (fC (.bl false))) (cS)) (aQ (cx 10 (fR (bj cW 2 6) (af (ah 6) (af (ah 3) (aw))))) (bT (fR (aI 12) (af (iy "put" [("Step",(bj cH 4 4)),("Nest",(bj bA 4 4))] (ah 7) (af (ah 1) (af (ah 9) (af (ah 10) (aw))))) (af (iy "put" [("Step",(bj cH 4 4)),("Nest",(bj bA 4 4))] (ah 7) (af (ah 1) (af (bJ (ah 5) (bn) (cI (fC (.int 1)))) (af (ah 10) (aw))))) (aw)))))))))))))))))
theorem G1:(["within","row","many"]:List Str).Nodup:=by decide +kernel
theorem HY:(["_law_row_here","_law_many","_law_first"]:List Str).Nodup:=by decide +kernel
theorem Fy:(["key","within"]:List Str).Nodup:=by decide +kernel
theorem E5:(["key","within"]:List Str).Nodup:=by decide +kernel
theorem GO:(["_law_key","_law_found"]:List Str).Nodup:=by decide +kernel
theorem Ew:(["_law_k","_law_row_here","_law_x"]:List Str).Nodup:=by decide +kernel
theorem Fd:(["_law_k","_law_row_here","_law_x"]:List Str).Nodup:=by decide +kernel
section
variable {P:MO} {w:MN} {K:LQ} {mg:Str->Option MM} {base:MR}
theorem p9 {n:Nat} {f:MP} (bm:mg "isinstance"=none) (oV:mg "str"=none) (iQ:mg "bool"=none) (fU:mg "int"=none) (aG:mg "tuple"=none) (bZ:mg "len"=none) (qC:mg "zip"=none) {aI:List D->R D} (bX:Callee P w K mg base (0+n) "_law_alike" ["_law_found","_law_due"] aI) (L__law_alike:Ar 2 aI):dF P w K mg base (0+n) ["_law_found","_law_due","_law_one","_law_other"] "_law_alike" eJ f (cO aI) :=
 ⟨fun cdv A outer s H E hr hp=>(ao (cJ (cV (gz sZ rfl bm rfl oV MB (aa (xv 1)))) (aC (aU (n6 (gz sZ rfl bm rfl oV MB (aa (xv 0))) (sC (om (fu hr.units) au (aa (xv 0)) (aa (xv 1)) (cw _)))))) (aV)) (ao (cJ (Fx (oY (cV (gz kG rfl bm rfl iQ MC (aa (xv 1)))) (ml (cV (gz kG rfl bm rfl iQ MC (aa (xv 0))))))) (aC (aU (n6 (gz kG rfl bm rfl iQ MC (aa (xv 1))) (n6 (gz kG rfl bm rfl iQ MC (aa (xv 0))) (sC (om (fu hr.units) au (aa (xv 0)) (aa (xv 1)) (cw _))))))) (aV)) (ao (cJ (cV (gz tS rfl bm rfl fU MD (aa (xv 1)))) (aC (aU (n6 (gz tS rfl bm rfl fU MD (aa (xv 0))) (sC (om (fu hr.units) au (aa (xv 0)) (aa (xv 1)) (cw _)))))) (aV)) (ao (cJ (Fx (oY (kF (cV (gz v6 rfl bm rfl aG ME (aa (xv 0))))) (ml (cv (sA hr.units) au (bF dD rfl bZ PySem.boot_len (ae (aa (xv 0)) (ak))) (bF dD rfl bZ PySem.boot_len (ae (aa (xv 1)) (ak))) (cw _))))) (aC (aU (jf))) (aV)) (ao (dN hp rfl (AG rfl qC (ae (aa (xv 0)) (ae (aa (xv 1)) (ak)))) (jZ (g:=mF [2,3]) rfl (cy (bg (i:=2) p5.nd rfl ‹1›) (cy (bg (i:=3) p5.nd rfl ‹1›) (iM)))) (ao (cJ (kF (cV (ay bX L__law_alike hr ‹0› (ae (aa (xv 2)) (ae (aa (xv 3)) (ak)))))) (aC (aU (jf))) (aV)) (cz [2,3] aV))) (aC (aU (jf))))))))⟩
theorem jP {f__law_alike:MP} {fd__law_alike:Nq} (F__law_alike:uT K "_law_alike" "_law_alike" eJ f__law_alike fd__law_alike) (i6:Binds K fd__law_alike ["_law_found","_law_due"] []) (m__law_alike:mg "_law_alike"=some (.ref f__law_alike)) (bm:mg "isinstance"=none) (oV:mg "str"=none) (iQ:mg "bool"=none) (fU:mg "int"=none) (aG:mg "tuple"=none) (bZ:mg "len"=none) (qC:mg "zip"=none):∀ n:Nat,Callee P w K mg base (0+n) "_law_alike" ["_law_found","_law_due"] (aI n)
 | 0=>by
  rw [aI]
  exact d9 0 F__law_alike i6 m__law_alike
 | n+1=>by
  have ih:=jP F__law_alike i6 m__law_alike bm oV iQ fU aG bZ qC n
  rw [gV]
  exact bw F__law_alike i6 m__law_alike p5 (dF.ok (p9 bm oV iQ fU aG bZ qC ih (cA n)))
theorem uv {f:MP} :dF P w K mg base 0 ["self","form","table","view"] "Step.put" iV f cH :=
 ⟨fun cdv A outer s H E hr hp=>(aC (aU (aa (xv 3))))⟩
theorem ua {f:MP} (aG:mg "tuple"=none):dF P w K mg base 0 ["many","table","rows","row"] "unnested" jr f dY :=
 ⟨fun cdv A outer s H E hr hp=>(ao (fA (i:=2) tT.nd rfl ‹1› (iS (ak))) (ao (dN hp rfl (gg (aa (xv 1))) (bg (i:=3) tT.nd rfl ‹1›) (ao (BU (xv 2) (DK (N:=["within","row","many"]) (ix:=[none,some 3,some 0]) rfl (.of rfl) (m7 rfl) (gg (bN (aa (xv 3)) (aa (xv 0)) (fun _ _=>rfl))) ⟨fun _ _ _ _ _ _=>⟨bg (i:=0) G1 rfl (Or.inl rfl),lY,aj bh au (d7 (aa (xv 1)) (fI) (fQ (aa (xv 2)))) (aa (xv 0))⟩⟩)) (cz [3] aV))) (dI 2 (aC (aU (bo bG rfl aG ME (ae (aa (xv 2)) (ak))))))))⟩
theorem tu {f:MP} (lD:Callee P w K mg base 1 "unnested" ["many","table"] (bj dY 2 4)) (dB:tH K "many" ["Nest"]):dF P w K mg base 1 ["self","form","table","view"] "Nest.put" jp f bA :=
 ⟨fun cdv A outer s H E hr hp=>(aC (aU (ay lD bf hr ‹0› (ae (wM dB (aa (xv 0))) (ae (aa (xv 3)) (ak))))))⟩
theorem oR {f:MP} (eK:mg "sorted"=none) (ji:mg "list"=none) (aG:mg "tuple"=none):dF P w K mg base 0 ["_law_table_here","_law_many","_law_firsts","_law_row_here","_law_found","_law_first"] "_law_nested" fD f cW :=
 ⟨fun cdv A outer s H E hr hp=>(ao (fA (i:=2) pJ.nd rfl ‹1› (nH)) (ao (dN hp rfl (gg (aa (xv 0))) (bg (i:=3) pJ.nd rfl ‹1›) (aC (uf (hr.units) (xv 2) (d7 (aa (xv 3)) (fI) (fQ (aa (xv 1)))) (jf)))) (ao (fA (i:=4) pJ.nd rfl ‹1› (iS (ak))) (dI 2 (ao (dN hp rfl (gg (bF iZ rfl eK i9 (ae (bo (oT rfl) rfl ji MF (ae (aa (xv 2)) (ak))) (ak)))) (bg (i:=5) pJ.nd rfl ‹1›) (ao (ly MK ML dE eP (xv 4) (ae (aj bh au (aa (xv 5)) (dL (ae (bo bG rfl aG ME (ae (mN (N:=["_law_row_here","_law_many","_law_first"]) (ix:=[none,some 1,some 5]) rfl (.of rfl) (m7 rfl) (gg (aa (xv 0))) ⟨fun _ _ _ _ _ _=>⟨bg (i:=0) HY rfl (Or.inl rfl),oA (cv (fu hr.units) au (d7 (aa (xv 0)) (fI) (fQ (aa (xv 1)))) (aa (xv 2)) (cw _)),d7 (aa (xv 0)) (fQ (aa (xv 1))) (fI)⟩⟩) (ak))) (ak)))) (ak))) (cz [5] aV))) (dI 4 (aC (aU (bo bG rfl aG ME (ae (aa (xv 4)) (ak)))))))))))⟩
theorem ud {f:MP} :dF P w K mg base 0 ["self","form","table"] "Step.got" je f eO :=
 ⟨fun cdv A outer s H E hr hp=>(aC (aU (aa (xv 2))))⟩
theorem wq {f:MP} (v5:mg "dict"=none) (aG:mg "tuple"=none):dF P w K mg base 0 ["many","rows","groups","row"] "grouped" ky f gG :=
 ⟨fun cdv A outer s H E hr hp=>(ao (zx (i:=2) vh.nd rfl ‹1›) (ao (dN hp rfl (gg (aa (xv 1))) (bg (i:=3) vh.nd rfl ‹1›) (ao (AQ hr.units (xv 2) (d7 (aa (xv 3)) (fI) (fQ (aa (xv 0)))) (d7 (aa (xv 3)) (fQ (aa (xv 0))) (fI))) (cz [3] aV))) (xZ 2 (aC (aU (bo (vv rfl hr.units) rfl v5 PyProof.Rows.boot_dict (ae (mN (N:=["key","within"]) (ix:=[none,none]) rfl (.of rfl) (jh rfl) (qB (aa (xv 2))) ⟨fun _ _ _ _ _ _=>⟨jZ (g:=mF [0,1]) rfl (cy (bg (i:=0) Fy rfl (Or.inl rfl)) (cy (bg (i:=1) Fy rfl (Or.inl rfl)) (iM))),lY,dL (ae (aa (xv 0)) (ae (bo bG rfl aG ME (ae (aa (xv 1)) (ak))) (ak)))⟩⟩) (ak))))))))⟩
theorem uU {f:MP} (mw:Callee P w K mg base 1 "grouped" ["many","rows"] (bj gG 2 4)) (dB:tH K "many" ["Nest"]) (aG:mg "tuple"=none):dF P w K mg base 1 ["self","form","table"] "Nest.got" iY f du :=
 ⟨fun cdv A outer s H E hr hp=>(aC (aU (bo bG rfl aG ME (ae (mN (N:=["key","within"]) (ix:=[none,none]) rfl (.of rfl) (jh rfl) (qB (ay mw bf hr ‹0› (ae (wM dB (aa (xv 0))) (ae (aa (xv 2)) (ak))))) ⟨fun _ _ _ _ _ _=>⟨jZ (g:=mF [0,1]) rfl (cy (bg (i:=0) E5 rfl (Or.inl rfl)) (cy (bg (i:=1) E5 rfl (Or.inl rfl)) (iM))),lY,aj bh au (aa (xv 0)) (dL (ae (aa (xv 1)) (ak)))⟩⟩) (ak)))))⟩
theorem rZ {f:MP} (bu:mg "range"=none):dF P w K mg base 0 ["_law_base","_law_k","_law_letters","_law_size","_law_name_here","_law_j","_law_step"] "_law_name" gZ f bI :=
 ⟨fun cdv A outer s H E hr hp=>(ao (aR (i:=2) sI.nd rfl ‹1› (gh)) (ao (aR (i:=1) sI.nd rfl ‹1› (aj bb aZ (aj bh au (aj hZ h7 (aa (xv 1)) (bN (j5 (ae (ai) (ae (ai) (ae (ai) (ae (ai) (ae (ai) (ae (ai) (ak)))))))) (aj bb aZ (aa (xv 0)) (ai)) (fun _ _=>rfl))) (aj aW bD (aa (xv 0)) (ai))) (ai))) (ao (aR (i:=0) sI.nd rfl ‹1› (aj aW bD (aa (xv 0)) (ai))) (ao (cJ (cv (fu hr.units) au (aj bb aZ (aa (xv 0)) (ai)) (ai) (cw _)) (aC (aU (aj rL au (bN (aa (xv 2)) (aj bb aZ (aj bh au (aj aW bD (aa (xv 0)) (ai)) (aj aW bD (aa (xv 1)) (ai))) (ai)) (fun _ _=>rfl)) (aj bh au (ai) (aj bb aZ (aa (xv 1)) (ai)))))) (aV)) (ao (aR (i:=3) sI.nd rfl ‹1› (aj bh au (ai) (aj bb aZ (aj aW bD (aa (xv 0)) (ai)) (ai)))) (ao (aR (i:=4) sI.nd rfl ‹1› (gh)) (ao (dN hp rfl (jq rfl bu (ae (aa (xv 3)) (ak))) (bg (i:=5) sI.nd rfl ‹1›) (ao (aR (i:=6) sI.nd rfl ‹1› (aj aW bD (aa (xv 0)) (aj bh au (ai) (aj hZ h7 (aj hZ h7 (ai) (aa (xv 5))) (aa (xv 5)))))) (ao (cJ (cv (fu hr.units) au (aa (xv 5)) (aj bb aZ (aj aW bD (aa (xv 0)) (ai)) (aa (xv 3))) (cw _)) (aC (aR (i:=6) sI.nd rfl ‹1› (aj bh au (aa (xv 6)) (aa (xv 1))))) (aV)) (ao (aR (i:=4) sI.nd rfl ‹1› (aj bh au (aa (xv 4)) (bN (aa (xv 2)) (aj bb aZ (aa (xv 6)) (ai)) (fun _ _=>rfl)))) (cz [5,6] aV))))) (aC (aU (aa (xv 4)))))))))))⟩
theorem nZ {f:MP} (bZ:mg "len"=none):dF P w K mg base 0 ["_law_script","_law_k"] "_law_cell_at" eL f bS :=
 ⟨fun cdv A outer s H E hr hp=>(ao (cJ (cv (pT hr.units) au (aa (xv 1)) (bF dD rfl bZ PySem.boot_len (ae (aa (xv 0)) (ak))) (cw _)) (aC (aU (bN (aa (xv 0)) (aa (xv 1)) (fun _ _=>rfl)))) (aV)) (aC (aU (ai))))⟩
theorem pP {f:MP} (aG:mg "tuple"=none) (eK:mg "sorted"=none) (ji:mg "list"=none):dF P w K mg base 0 ["_law_many","_law_rows_here","_law_found","_law_row_here"] "_law_sorted" fF f bq :=
 ⟨fun cdv A outer s H E hr hp=>(ao (fA (i:=2) o9.nd rfl ‹1› (nH)) (ao (dN hp rfl (gg (aa (xv 1))) (bg (i:=3) o9.nd rfl ‹1›) (ao (uf (hr.units) (xv 2) (d7 (aa (xv 3)) (fI) (fQ (aa (xv 0)))) (aa (xv 3))) (cz [3] aV))) (dI 2 (aC (aU (bo bG rfl aG ME (ae (mN (N:=["_law_key","_law_found"]) (ix:=[none,some 2]) rfl (.of rfl) (m7 rfl) (gg (bF iZ rfl eK i9 (ae (bo (oT rfl) rfl ji MF (ae (aa (xv 2)) (ak))) (ak)))) ⟨fun _ _ _ _ _ _=>⟨bg (i:=0) GO rfl (Or.inl rfl),lY,A7 hr.units (aa (xv 1)) (aa (xv 0)) (fun _ _=>rfl)⟩⟩) (ak))))))))⟩
theorem rS {f:MP} :dF P w K mg base 0 ["_law_x"] "_law_next" gS f aK :=
 ⟨fun cdv A outer s H E hr hp=>(aC (aU (aj bb aZ (aj bh au (aj bh au (aj hZ h7 (aa (xv 0)) (aa (xv 0))) (aj hZ h7 (ai) (aa (xv 0)))) (ai)) (ai))))⟩
theorem pY {n:Nat} {f:MP} (az:Callee P w K mg base 1 "_law_next" ["_law_x"] (bj aK 1 1)) (bi:Callee P w K mg base 1 "_law_sorted" ["_law_many","_law_rows_here"] (bj bq 2 4)) (bZ:mg "len"=none) (iH:mg "max"=none) (fU:mg "int"=none) (aG:mg "tuple"=none) (bu:mg "range"=none) {ax:List D->R D} (eM:Callee P w K mg base (1+n) "_law_value" ["_law_kind_here","_law_x"] ax) (L__law_value:Ar 2 ax) {aB:List D->R D} (dW:Callee P w K mg base (1+n) "_law_row" ["_law_form_here","_law_many","_law_head","_law_tail"] aB) (L__law_row:Ar 4 aB) {aD:List D->R D} (gR:Callee P w K mg base (1+n) "_law_rows" ["_law_form_here","_law_x","_law_many"] aD) (L__law_rows:Ar 3 aD):dF P w K mg base (1+n) ["_law_kind_here","_law_x"] "_law_value" eG f (eI ax aB aD) :=
 ⟨fun cdv A outer s H E hr hp=>(ao (cJ (cv (fu hr.units) au (bN (aa (xv 0)) (ai) (fun _ _=>rfl)) (gh) (cw _)) (aC (aU (aj bh au (bN (aa (xv 0)) (ai) (fun _ _=>rfl)) (aj bb aZ (aj mU mz (aa (xv 1)) (ai)) (aj bh au (aj mQ mY (bN (aa (xv 0)) (ai) (fun _ _=>rfl)) (bN (aa (xv 0)) (ai) (fun _ _=>rfl))) (ai)))))) (aV)) (ao (cJ (cv (fu hr.units) au (bN (aa (xv 0)) (ai) (fun _ _=>rfl)) (gh) (cw _)) (aC (aU (bN (bN (aa (xv 0)) (ai) (fun _ _=>rfl)) (aj bb aZ (aa (xv 1)) (bF dD rfl bZ PySem.boot_len (ae (bN (aa (xv 0)) (ai) (fun _ _=>rfl)) (ak)))) (fun _ _=>rfl)))) (aV)) (aC (aU (ay gR L__law_rows hr ‹0› (ae (bN (aa (xv 0)) (ai) (fun _ _=>rfl)) (ae (aj aW bD (aa (xv 1)) (ai)) (ae (bF (pj rfl) rfl iH MG (ae (aj bb aZ (aa (xv 1)) (ai)) (ae (bo vW rfl fU MD (ae (bN (aa (xv 0)) (ai) (fun _ _=>rfl)) (ak))) (ak)))) (ak)))))))))⟩
theorem tx {n:Nat} {f:MP} (az:Callee P w K mg base 1 "_law_next" ["_law_x"] (bj aK 1 1)) (bi:Callee P w K mg base 1 "_law_sorted" ["_law_many","_law_rows_here"] (bj bq 2 4)) (bZ:mg "len"=none) (iH:mg "max"=none) (fU:mg "int"=none) (aG:mg "tuple"=none) (bu:mg "range"=none) {ax:List D->R D} (eM:Callee P w K mg base (1+n) "_law_value" ["_law_kind_here","_law_x"] ax) (L__law_value:Ar 2 ax) {aB:List D->R D} (dW:Callee P w K mg base (1+n) "_law_row" ["_law_form_here","_law_many","_law_head","_law_tail"] aB) (L__law_row:Ar 4 aB) {aD:List D->R D} (gR:Callee P w K mg base (1+n) "_law_rows" ["_law_form_here","_law_x","_law_many"] aD) (L__law_rows:Ar 3 aD):dF P w K mg base (1+n) ["_law_form_here","_law_many","_law_head","_law_tail","_law_row_here","_law_name_here","_law_kind_here"] "_law_row" gK f (ja ax aB aD) :=
 ⟨fun cdv A outer s H E hr hp=>(ao (fA (i:=4) uQ.nd rfl ‹1› (iS (ak))) (ao (dN hp rfl (gg (aj bh au (bN (aa (xv 0)) (ai) (fun _ _=>rfl)) (bN (aa (xv 0)) (ai) (fun _ _=>rfl)))) (jZ (g:=mF [5,6]) rfl (cy (bg (i:=5) uQ.nd rfl ‹1›) (cy (bg (i:=6) uQ.nd rfl ‹1›) (iM)))) (ao (cJ (t9 [4] (cv (pT hr.units) au (bF dD rfl bZ PySem.boot_len (ae (aa (xv 4)) (ak))) (aa (xv 1)) (cw _))) (ao (aR (i:=2) uQ.nd rfl ‹1› (ay az bf hr ‹0› (ae (aa (xv 2)) (ak)))) (aC (ly MK ML dE eP (xv 4) (ae (ay eM L__law_value hr ‹0› (ae (aa (xv 6)) (ae (aa (xv 2)) (ak)))) (ak))))) (ao (aR (i:=3) uQ.nd rfl ‹1› (ay az bf hr ‹0› (ae (aa (xv 3)) (ak)))) (aC (ly MK ML dE eP (xv 4) (ae (ay eM L__law_value hr ‹0› (ae (aa (xv 6)) (ae (aa (xv 3)) (ak)))) (ak)))))) (cz [5,6] aV))) (dI 4 (aC (aU (bo bG rfl aG ME (ae (aa (xv 4)) (ak))))))))⟩
theorem sL {n:Nat} {f:MP} (az:Callee P w K mg base 1 "_law_next" ["_law_x"] (bj aK 1 1)) (bi:Callee P w K mg base 1 "_law_sorted" ["_law_many","_law_rows_here"] (bj bq 2 4)) (bZ:mg "len"=none) (iH:mg "max"=none) (fU:mg "int"=none) (aG:mg "tuple"=none) (bu:mg "range"=none) {ax:List D->R D} (eM:Callee P w K mg base (1+n) "_law_value" ["_law_kind_here","_law_x"] ax) (L__law_value:Ar 2 ax) {aB:List D->R D} (dW:Callee P w K mg base (1+n) "_law_row" ["_law_form_here","_law_many","_law_head","_law_tail"] aB) (L__law_row:Ar 4 aB) {aD:List D->R D} (gR:Callee P w K mg base (1+n) "_law_rows" ["_law_form_here","_law_x","_law_many"] aD) (L__law_rows:Ar 3 aD):dF P w K mg base (1+n) ["_law_form_here","_law_x","_law_many","_law_rows_here","_law_k"] "_law_rows" fS f (gY ax aB aD) :=
 ⟨fun cdv A outer s H E hr hp=>(ao (fA (i:=3) sj.nd rfl ‹1› (iS (ak))) (ao (dN hp rfl (jq rfl bu (ae (aa (xv 2)) (ak))) (bg (i:=4) sj.nd rfl ‹1›) (ao (aR (i:=1) sj.nd rfl ‹1› (ay az bf hr ‹0› (ae (aa (xv 1)) (ak)))) (ao (ly MK ML dE eP (xv 3) (ae (ay dW L__law_row hr ‹0› (ae (aa (xv 0)) (ae (ai) (ae (ai) (ae (aa (xv 1)) (ak)))))) (ak))) (cz [4] aV)))) (dI 3 (aC (aU (ay bi bf hr ‹0› (ae (bF dD rfl bZ PySem.boot_len (ae (bN (aa (xv 0)) (ai) (fun _ _=>rfl)) (ak))) (ae (aa (xv 3)) (ak)))))))))⟩
theorem jH {f__law_value:MP} {fd__law_value:Nq} (F__law_value:uT K "_law_value" "_law_value" eG f__law_value fd__law_value) (iU:Binds K fd__law_value ["_law_kind_here","_law_x"] []) (m__law_value:mg "_law_value"=some (.ref f__law_value)) {f__law_row:MP} {fd__law_row:Nq} (F__law_row:uT K "_law_row" "_law_row" gK f__law_row fd__law_row) (lG:Binds K fd__law_row ["_law_form_here","_law_many","_law_head","_law_tail"] []) (m__law_row:mg "_law_row"=some (.ref f__law_row)) {f__law_rows:MP} {fd__law_rows:Nq} (F__law_rows:uT K "_law_rows" "_law_rows" fS f__law_rows fd__law_rows) (jT:Binds K fd__law_rows ["_law_form_here","_law_x","_law_many"] []) (m__law_rows:mg "_law_rows"=some (.ref f__law_rows)) (az:Callee P w K mg base 1 "_law_next" ["_law_x"] (bj aK 1 1)) (bi:Callee P w K mg base 1 "_law_sorted" ["_law_many","_law_rows_here"] (bj bq 2 4)) (bZ:mg "len"=none) (iH:mg "max"=none) (fU:mg "int"=none) (aG:mg "tuple"=none) (bu:mg "range"=none):∀ n:Nat,Callee P w K mg base (1+n) "_law_value" ["_law_kind_here","_law_x"] (ax n)/\Callee P w K mg base (1+n) "_law_row" ["_law_form_here","_law_many","_law_head","_law_tail"] (aB n)/\Callee P w K mg base (1+n) "_law_rows" ["_law_form_here","_law_x","_law_many"] (aD n)
 | 0=>by
  rw [ax]; rw [aB]; rw [aD]
  exact⟨d9 1 F__law_value iU m__law_value,d9 1 F__law_row lG m__law_row,d9 1 F__law_rows jT m__law_rows⟩
 | n+1=>by
  have ih:=jH F__law_value iU m__law_value F__law_row lG m__law_row F__law_rows jT m__law_rows az bi bZ iH fU aG bu n
  rw [cZ]; rw [fW]; rw [fj]
  exact⟨bw F__law_value iU m__law_value qf (dF.ok (pY az bi bZ iH fU aG bu ih.1 (fZ n) ih.2.1 (fE n) ih.2.2 (gJ n))),bw F__law_row lG m__law_row uQ (dF.ok (tx az bi bZ iH fU aG bu ih.1 (fZ n) ih.2.1 (fE n) ih.2.2 (gJ n))),bw F__law_rows jT m__law_rows sj (dF.ok (sL az bi bZ iH fU aG bu ih.1 (fZ n) ih.2.1 (fE n) ih.2.2 (gJ n)))⟩
theorem rJ {f:MP} (bB:Callee P w K mg base 1 "_law_cell_at" ["_law_script","_law_k"] (bj bS 2 2)) (az:Callee P w K mg base 1 "_law_next" ["_law_x"] (bj aK 1 1)):dF P w K mg base 1 ["_law_script","_law_k","_law_x"] "_law_seed" hV f bR :=
 ⟨fun cdv A outer s H E hr hp=>(ao (aR (i:=2) rG.nd rfl ‹1› (aj bb aZ (aj bh au (aj bh au (aj bb aZ (ay bB bf hr ‹0› (ae (aa (xv 0)) (ae (aa (xv 1)) (ak)))) (ai)) (aj hZ h7 (aj hZ h7 (ai) (aa (xv 1))) (aa (xv 1)))) (ai)) (ai))) (aC (aU (ay az bf hr ‹0› (ae (ay az bf hr ‹0› (ae (aa (xv 2)) (ak))) (ak))))))⟩
theorem qj {f:MP} (cD:Callee P w K mg base 2 "_law_seed" ["_law_script","_law_k"] (bj bR 2 3)) (dW:Callee P w K mg base 13 "_law_row" ["_law_form_here","_law_many","_law_head","_law_tail"] (aB 12)) (az:Callee P w K mg base 1 "_law_next" ["_law_x"] (bj aK 1 1)) (bi:Callee P w K mg base 1 "_law_sorted" ["_law_many","_law_rows_here"] (bj bq 2 4)) (bu:mg "range"=none) (za:mg "min"=none) (iH:mg "max"=none) (bZ:mg "len"=none):dF P w K mg base 13 ["_law_form_here","_law_many","_law_script","_law_start","_law_most","_law_rows_here","_law_k","_law_x"] "_law_table" gB f eA :=
 ⟨fun cdv A outer s H E hr hp=>(ao (fA (i:=5) pX.nd rfl ‹1› (iS (ak))) (ao (dN hp rfl (vG rfl bu (ae (aa (xv 3)) (ae (bF (wm rfl) rfl za PyProof.Rows.boot_min (ae (bF (pj rfl) rfl iH MG (ae (bF dD rfl bZ PySem.boot_len (ae (aa (xv 2)) (ak))) (ae (aj bh au (aa (xv 3)) (ai)) (ak)))) (ae (aj bh au (aa (xv 3)) (aa (xv 4))) (ak)))) (ak)))) (bg (i:=6) pX.nd rfl ‹1›) (ao (aR (i:=7) pX.nd rfl ‹1› (ay cD bf hr ‹0› (ae (aa (xv 2)) (ae (aa (xv 6)) (ak))))) (ao (ly MK ML dE eP (xv 5) (ae (ay dW (fE 12) hr ‹0› (ae (aa (xv 0)) (ae (aa (xv 1)) (ae (bN (j5 (ae (aj bb aZ (aj aW bD (aa (xv 7)) (ai)) (ai)) (ae (aj aW bD (aa (xv 7)) (ai)) (ak)))) (aj bb aZ (aa (xv 7)) (ai)) (fun _ _=>rfl)) (ae (ay az bf hr ‹0› (ae (aa (xv 7)) (ak))) (ak)))))) (ak))) (cz [6,7] aV)))) (dI 5 (aC (aU (ay bi bf hr ‹0› (ae (bF dD rfl bZ PySem.boot_len (ae (bN (aa (xv 0)) (ai) (fun _ _=>rfl)) (ak))) (ae (aa (xv 5)) (ak)))))))))⟩
theorem qg {f:MP} (bu:mg "range"=none) (bZ:mg "len"=none) (aG:mg "tuple"=none) (eK:mg "sorted"=none) (ji:mg "list"=none):dF P w K mg base 0 ["_law_x","_law_low","_law_letters","_law_one","_law_other","_law_some","_law_kept","_law_k"] "_law_plain" gu f bV :=
 ⟨fun cdv A outer s H E hr hp=>(ao (cJ (cv (pT hr.units) au (aj bb aZ (aa (xv 0)) (ai)) (ai) (cw _)) (ao (aR (i:=1) qc.nd rfl ‹1› (bN (j5 (ae (ai) (ae (Ba (ai)) (ae (aj mQ mY (ai) (aj bb aZ (aj mU mz (aa (xv 0)) (ai)) (aj mU mz (ai) (ai)))) (ae (aj bb aZ (aj mU mz (aa (xv 0)) (ai)) (aj mU mz (ai) (ai))) (ak)))))) (aj bb aZ (aj aW bD (aa (xv 0)) (ai)) (ai)) (fun _ _=>rfl))) (aC (aU (dL (ae (gh) (ae (aa (xv 1)) (ae (aj bh au (aa (xv 1)) (bN (j5 (ae (ai) (ae (ai) (ae (ai) (ae (aj mU mz (ai) (ai)) (ak)))))) (aj bb aZ (aj aW bD (aa (xv 0)) (ai)) (ai)) (fun _ _=>rfl))) (ak)))))))) (aV)) (ao (aR (i:=2) qc.nd rfl ‹1› (gh)) (ao (aR (i:=3) qc.nd rfl ‹1› (bN (aa (xv 2)) (aj bb aZ (aj aW bD (aa (xv 0)) (ai)) (ai)) (fun _ _=>rfl))) (ao (aR (i:=4) qc.nd rfl ‹1› (bN (aa (xv 2)) (aj bb aZ (aj aW bD (aa (xv 0)) (ai)) (ai)) (fun _ _=>rfl))) (ao (aR (i:=5) qc.nd rfl ‹1› (j5 (ae (gh) (ae (aa (xv 3)) (ae (aa (xv 4)) (ae (aj bh au (aa (xv 3)) (aa (xv 4))) (ae (aj bh au (aa (xv 4)) (aa (xv 3))) (ae (aj rL au (aa (xv 3)) (ai)) (ae (aj bh au (aa (xv 3)) (aa (xv 3))) (ae (aj rL au (aa (xv 4)) (ai)) (ak))))))))))) (ao (fA (i:=6) qc.nd rfl ‹1› (nH)) (cz [1,2,4] (ao (dN hp rfl (jq rfl bu (ae (ai) (ak))) (bg (i:=7) qc.nd rfl ‹1›) (ao (cJ (cv (fu hr.units) au (aj DZ Cr (aj Dw CN (aj aW bD (aa (xv 0)) (ai)) (aa (xv 7))) (ai)) (ai) (cw _)) (aC (tD (hr.units) (xv 6) (bN (aa (xv 5)) (aa (xv 7)) (fun _ _=>rfl)) (jf))) (aV)) (cz [7] aV))) (ao (cJ (t9 [6] (cv (fu hr.units) au (bF yg rfl bZ PySem.boot_len (ae (aa (xv 6)) (ak))) (ai) (cw _))) (aC (tD (hr.units) (xv 6) (aa (xv 3)) (jf))) (aV)) (dI 6 (aC (aU (dL (ae (gh) (ae (bo bG rfl aG ME (ae (bF iZ rfl eK i9 (ae (bo (wj rfl) rfl ji MF (ae (aa (xv 6)) (ak))) (ak))) (ak))) (ak))))))))))))))))⟩
theorem rW {n:Nat} {f:MP} (bW:Callee P w K mg base 1 "_law_plain" ["_law_x"] (bj bV 1 8)) (az:Callee P w K mg base 1 "_law_next" ["_law_x"] (bj aK 1 1)) (bH:Callee P w K mg base 1 "_law_name" ["_law_base","_law_k"] (bj bI 2 7)) (bu:mg "range"=none) (aG:mg "tuple"=none) {aJ:List D->R D} (jB:Callee P w K mg base (1+n) "_law_kind" ["_law_x","_law_base","_law_deep"] aJ) (L__law_kind:Ar 3 aJ) {aH:List D->R D} (dZ:Callee P w K mg base (1+n) "_law_form" ["_law_x","_law_base","_law_start","_law_many","_law_more","_law_deep"] aH) (L__law_form:Ar 6 aH):dF P w K mg base (1+n) ["_law_x","_law_base","_law_deep","_law_inner"] "_law_kind" fT f (fJ aJ aH) :=
 ⟨fun cdv A outer s H E hr hp=>(ao (cJ (Fx (oY (cv (fu hr.units) au (aa (xv 2)) (ai) (cw _)) (ml (cv (pT hr.units) au (aj bb aZ (aa (xv 0)) (ai)) (ai) (cw _))))) (aC (aU (ay bW bf hr ‹0› (ae (aj aW bD (aa (xv 0)) (ai)) (ak))))) (aV)) (ao (aR (i:=3) rQ.nd rfl ‹1› (ay dZ L__law_form hr ‹0› (ae (aj aW bD (aa (xv 0)) (ai)) (ae (aa (xv 1)) (ae (aj bb aZ (aj aW bD (aa (xv 0)) (ai)) (ai)) (ae (aj bh au (ai) (aj bb aZ (aj aW bD (aa (xv 0)) (ai)) (ai))) (ae (aj bb aZ (aj aW bD (aa (xv 0)) (ai)) (ai)) (ae (aj mQ mY (aa (xv 2)) (ai)) (ak))))))))) (aC (aU (dL (ae (gh) (ae (aa (xv 3)) (ae (om (fu hr.units) au (aj bb aZ (aj aW bD (aa (xv 0)) (ai)) (ai)) (ai) (cw _)) (ak)))))))))⟩
theorem sd {n:Nat} {f:MP} (bW:Callee P w K mg base 1 "_law_plain" ["_law_x"] (bj bV 1 8)) (az:Callee P w K mg base 1 "_law_next" ["_law_x"] (bj aK 1 1)) (bH:Callee P w K mg base 1 "_law_name" ["_law_base","_law_k"] (bj bI 2 7)) (bu:mg "range"=none) (aG:mg "tuple"=none) {aJ:List D->R D} (jB:Callee P w K mg base (1+n) "_law_kind" ["_law_x","_law_base","_law_deep"] aJ) (L__law_kind:Ar 3 aJ) {aH:List D->R D} (dZ:Callee P w K mg base (1+n) "_law_form" ["_law_x","_law_base","_law_start","_law_many","_law_more","_law_deep"] aH) (L__law_form:Ar 6 aH):dF P w K mg base (1+n) ["_law_x","_law_base","_law_start","_law_many","_law_more","_law_deep","_law_key","_law_rest","_law_k"] "_law_form" fN f (gW aJ aH) :=
 ⟨fun cdv A outer s H E hr hp=>(ao (fA (i:=6) sF.nd rfl ‹1› (iS (ak))) (ao (fA (i:=7) sF.nd rfl ‹1› (iS (ak))) (ao (dN hp rfl (jq rfl bu (ae (aj bh au (aa (xv 3)) (aa (xv 4))) (ak))) (bg (i:=8) sF.nd rfl ‹1›) (ao (aR (i:=0) sF.nd rfl ‹1› (ay az bf hr ‹0› (ae (aa (xv 0)) (ak)))) (ao (cJ (cv (pT hr.units) au (aa (xv 8)) (aa (xv 3)) (cw _)) (aC (ly MK ML dE eP (xv 6) (ae (dL (ae (ay bH bf hr ‹0› (ae (aa (xv 1)) (ae (aj bh au (aa (xv 2)) (aa (xv 8))) (ak)))) (ae (ay bW bf hr ‹0› (ae (aa (xv 0)) (ak))) (ak)))) (ak)))) (aC (ly MK ML dE eP (xv 7) (ae (dL (ae (ay bH bf hr ‹0› (ae (aa (xv 1)) (ae (aj bh au (aa (xv 2)) (aa (xv 8))) (ak)))) (ae (ay jB L__law_kind hr ‹0› (ae (aa (xv 0)) (ae (aa (xv 1)) (ae (aa (xv 5)) (ak))))) (ak)))) (ak))))) (cz [8] aV)))) (dI 7 (dI 6 (aC (aU (dL (ae (bo bG rfl aG ME (ae (aa (xv 6)) (ak))) (ae (bo bG rfl aG ME (ae (aa (xv 7)) (ak))) (ak)))))))))))⟩
theorem kW {f__law_kind:MP} {fd__law_kind:Nq} (F__law_kind:uT K "_law_kind" "_law_kind" fT f__law_kind fd__law_kind) (jD:Binds K fd__law_kind ["_law_x","_law_base","_law_deep"] []) (m__law_kind:mg "_law_kind"=some (.ref f__law_kind)) {f__law_form:MP} {fd__law_form:Nq} (F__law_form:uT K "_law_form" "_law_form" fN f__law_form fd__law_form) (jF:Binds K fd__law_form ["_law_x","_law_base","_law_start","_law_many","_law_more","_law_deep"] []) (m__law_form:mg "_law_form"=some (.ref f__law_form)) (bW:Callee P w K mg base 1 "_law_plain" ["_law_x"] (bj bV 1 8)) (az:Callee P w K mg base 1 "_law_next" ["_law_x"] (bj aK 1 1)) (bH:Callee P w K mg base 1 "_law_name" ["_law_base","_law_k"] (bj bI 2 7)) (bu:mg "range"=none) (aG:mg "tuple"=none):∀ n:Nat,Callee P w K mg base (1+n) "_law_kind" ["_law_x","_law_base","_law_deep"] (aJ n)/\Callee P w K mg base (1+n) "_law_form" ["_law_x","_law_base","_law_start","_law_many","_law_more","_law_deep"] (aH n)
 | 0=>by
  rw [aJ]; rw [aH]
  exact⟨d9 1 F__law_kind jD m__law_kind,d9 1 F__law_form jF m__law_form⟩
 | n+1=>by
  have ih:=kW F__law_kind jD m__law_kind F__law_form jF m__law_form bW az bH bu aG n
  rw [dC]; rw [eY]
  exact⟨bw F__law_kind jD m__law_kind rQ (dF.ok (rW bW az bH bu aG ih.1 (jM n) ih.2 (gL n))),bw F__law_form jF m__law_form sF (dF.ok (sd bW az bH bu aG ih.1 (jM n) ih.2 (gL n)))⟩
theorem lu {f:MP} (cD:Callee P w K mg base 2 "_law_seed" ["_law_script","_law_k"] (bj bR 2 3)) (bB:Callee P w K mg base 1 "_law_cell_at" ["_law_script","_law_k"] (bj bS 2 2)) (dZ:Callee P w K mg base 13 "_law_form" ["_law_x","_law_base","_law_start","_law_many","_law_more","_law_deep"] (aH 12)) (az:Callee P w K mg base 1 "_law_next" ["_law_x"] (bj aK 1 1)):dF P w K mg base 13 ["_law_script","_law_fewest","_law_x","_law_base","_law_many","_law_more","_law_deep"] "_law_drawn_form" de f cE :=
 ⟨fun cdv A outer s H E hr hp=>(ao (aR (i:=2) lr.nd rfl ‹1› (ay cD bf hr ‹0› (ae (aa (xv 0)) (ae (ai) (ak))))) (ao (aR (i:=3) lr.nd rfl ‹1› (aj bb aZ (aj hZ h7 (ay bB bf hr ‹0› (ae (aa (xv 0)) (ae (ai) (ak)))) (ai)) (ai))) (ao (aR (i:=4) lr.nd rfl ‹1› (aj bh au (aa (xv 1)) (aj bb aZ (aa (xv 2)) (aj mQ mY (ai) (aa (xv 1)))))) (ao (aR (i:=5) lr.nd rfl ‹1› (aj bb aZ (aj aW bD (aa (xv 2)) (ai)) (ai))) (ao (aR (i:=6) lr.nd rfl ‹1› (bN (j5 (ae (ai) (ae (ai) (ae (ai) (ae (ai) (ak)))))) (aj bb aZ (aj aW bD (aa (xv 2)) (ai)) (ai)) (fun _ _=>rfl))) (ao (cJ (cv (fu hr.units) au (aj bb aZ (aj aW bD (aa (xv 2)) (ai)) (ai)) (ai) (cw _)) (ao (aR (i:=4) lr.nd rfl ‹1› (aj mQ mY (ai) (aj bb aZ (aj aW bD (aa (xv 2)) (ai)) (ai)))) (ao (aR (i:=5) lr.nd rfl ‹1› (aj bb aZ (aj aW bD (aa (xv 2)) (ai)) (ai))) (aC (aR (i:=6) lr.nd rfl ‹1› (ai))))) (aV)) (aC (aU (ay dZ (gL 12) hr ‹0› (ae (ay az bf hr ‹0› (ae (aa (xv 2)) (ak))) (ae (aa (xv 3)) (ae (ai) (ae (aa (xv 4)) (ae (aa (xv 5)) (ae (aa (xv 6)) (ak))))))))))))))))⟩
theorem C4 {f:MP} {fd:Nq} (F:uT K "law" "law" oP f fd) (eE:Callee P w K mg base 14 "_law_drawn_form" ["_law_script","_law_fewest"] (bj cE 2 7)) (az:Callee P w K mg base 1 "_law_next" ["_law_x"] (bj aK 1 1)) (cD:Callee P w K mg base 2 "_law_seed" ["_law_script","_law_k"] (bj bR 2 3)) (jl:Callee P w K mg base 14 "_law_table" ["_law_form_here","_law_many","_law_script","_law_start","_law_most"] (bj eA 5 8)) (bH:Callee P w K mg base 1 "_law_name" ["_law_base","_law_k"] (bj bI 2 7)) (bB:Callee P w K mg base 1 "_law_cell_at" ["_law_script","_law_k"] (bj bS 2 2)) (fH:Callee P w K mg base 1 "_law_nested" ["_law_table_here","_law_many"] (bj cW 2 6)) (bX:Callee P w K mg base 12 "_law_alike" ["_law_found","_law_due"] (aI 12)) (ce:lh P w K mg base 14 "put" ["self","form","table","view"] [("Step",(bj cH 4 4)),("Nest",(bj bA 4 4))]) (iN:lh P w K mg base 14 "got" ["self","form","table"] [("Step",(bj eO 3 3)),("Nest",(bj du 3 3))]) (v4:oK P w K mg base 1 "Nest" ["self","many","name"] ["many","name"]) (bZ:mg "len"=none) (aG:mg "tuple"=none) (g0:mg "enumerate"=none):hX P w K mg base (mS P w) 15 f fd ["_law_script"] (yY K 1 (bj pA 1 11)) :=
 rR (k:=14) F C3 (dF.ok ⟨fun cdv A outer s H E hr hp=>(ao (aR (i:=1) C3.nd rfl ‹1› (ay eE bf hr ‹0› (ae (aa (xv 0)) (ae (ai) (ak))))) (ao (aR (i:=2) C3.nd rfl ‹1› (ay az bf hr ‹0› (ae (ay cD bf hr ‹0› (ae (aa (xv 0)) (ae (ai) (ak)))) (ak)))) (ao (aR (i:=3) C3.nd rfl ‹1› (aj bh au (ai) (aj bb aZ (aa (xv 2)) (aj mQ mY (bF dD rfl bZ PySem.boot_len (ae (bN (aa (xv 1)) (ai) (fun _ _=>rfl)) (ak))) (ai))))) (ao (aR (i:=4) C3.nd rfl ‹1› (ay jl bf hr ‹0› (ae (aa (xv 1)) (ae (aa (xv 3)) (ae (aa (xv 0)) (ae (ai) (ae (ai) (ak)))))))) (ao (aR (i:=5) C3.nd rfl ‹1› (bo bG rfl aG ME (ae (mN (N:=["_law_k","_law_row_here","_law_x"]) (ix:=[none,none,some 2]) rfl (.of rfl) (jh rfl) (li rfl g0 (ae (aa (xv 4)) (ak))) ⟨fun _ _ _ _ _ _=>⟨jZ (g:=mF [0,1]) rfl (cy (bg (i:=0) Ew rfl (Or.inl rfl)) (cy (bg (i:=1) Ew rfl (Or.inl rfl)) (iM))),oA (cv (sA hr.units) au (aj bb aZ (aa (xv 0)) (ai)) (aj bb aZ (aj aW bD (aa (xv 2)) (ai)) (ai)) (cw _)),aa (xv 1)⟩⟩) (ak)))) (ao (aR (i:=6) C3.nd rfl ‹1› (bo bG rfl aG ME (ae (mN (N:=["_law_k","_law_row_here","_law_x"]) (ix:=[none,none,some 2]) rfl (.of rfl) (jh rfl) (li rfl g0 (ae (aa (xv 4)) (ak))) ⟨fun _ _ _ _ _ _=>⟨jZ (g:=mF [0,1]) rfl (cy (bg (i:=0) Fd rfl (Or.inl rfl)) (cy (bg (i:=1) Fd rfl (Or.inl rfl)) (iM))),oA (cv (sA hr.units) au (aj bb aZ (aa (xv 0)) (ai)) (aj bb aZ (aj aW bD (aa (xv 2)) (ai)) (ai)) (cw _)),aa (xv 1)⟩⟩) (ak)))) (ao (aR (i:=7) C3.nd rfl ‹1› (Bo v4 hr ‹0› rfl (ae (aa (xv 3)) (ae (ay bH bf hr ‹0› (ae (aj bb aZ (aj hZ h7 (ay bB bf hr ‹0› (ae (aa (xv 0)) (ae (ai) (ak)))) (ai)) (ai)) (ae (aj bh au (ai) (aj bb aZ (aj aW bD (aa (xv 2)) (ai)) (ai))) (ak)))) (ak))))) (ao (aR (i:=8) C3.nd rfl ‹1› (ay fH bf hr ‹0› (ae (aa (xv 5)) (ae (aa (xv 3)) (ak))))) (ao (aR (i:=9) C3.nd rfl ‹1› (fP ce hr ‹0› (aa (xv 7)) (ae (aa (xv 1)) (ae (aa (xv 6)) (ae (aa (xv 8)) (ak)))))) (ao (cJ (Fx (oY (kF (cV (ay bX (cA 12) hr ‹0› (ae (aa (xv 9)) (ae (aa (xv 5)) (ak)))))) (ml (kF (cV (ay bX (cA 12) hr ‹0› (ae (fP iN hr ‹0› (aa (xv 7)) (ae (aa (xv 1)) (ae (aa (xv 9)) (ak)))) (ae (aa (xv 8)) (ak))))))))) (aC (aU (jf))) (aV)) (ao (cJ (kF (cV (ay bX (cA 12) hr ‹0› (ae (fP ce hr ‹0› (aa (xv 7)) (ae (aa (xv 1)) (ae (aa (xv 6)) (ae (fP iN hr ‹0› (aa (xv 7)) (ae (aa (xv 1)) (ae (aa (xv 6)) (ak)))) (ak))))) (ae (aa (xv 6)) (ak)))))) (aC (aU (jf))) (aV)) (ao (cJ (Fx (oY (cv (sA hr.units) au (fP ce hr ‹0› (aa (xv 7)) (ae (aa (xv 1)) (ae (aa (xv 6)) (ae (dL (ak)) (ak))))) (dL (ak)) (cw _)) (ml (kF (cV (ay bX (cA 12) hr ‹0› (ae (fP ce hr ‹0› (aa (xv 7)) (ae (aa (xv 1)) (ae (dL (ak)) (ae (aa (xv 8)) (ak))))) (ae (aa (xv 5)) (ak))))))))) (aC (aU (jf))) (aV)) (ao (aR (i:=10) C3.nd rfl ‹1› (ay fH bf hr ‹0› (ae (aa (xv 6)) (ae (aa (xv 3)) (ak))))) (aC (aU (ay bX (cA 12) hr ‹0› (ae (fP ce hr ‹0› (aa (xv 7)) (ae (aa (xv 1)) (ae (aa (xv 9)) (ae (aa (xv 10)) (ak))))) (ae (fP ce hr ‹0› (aa (xv 7)) (ae (aa (xv 1)) (ae (d7 (aa (xv 5)) (fI) (fQ (ai))) (ae (aa (xv 10)) (ak))))) (ak)))))))))))))))))))⟩)
theorem xX {C f:MP} {fd:Nq} (h1:clsAt K "Nest" C) (hM:Mk K C f) (cl:wg K C) (na:∀ g∈(["many","name"]:List Str),jj K C g) (F:uT K "__init__" "Nest.__init__" dM f fd) (b:Binds K fd ["self","many","name"] []) (hmg:mg "Nest"=some (.ref C)):oK P w K mg base 1 "Nest" ["self","many","name"] ["many","name"] :=
 yi (k:=0) h1 hM cl na F b hmg mE rfl (by decide +kernel) (by decide) fun cdv A outer s H E=>(vZ rfl (pv 0) (pv 1) rfl (xK rfl (pv 0) (pv 2) rfl))
end
theorem EB {us:List MM} (h:us.length=1):∃ u0,us=[u0]:=match us,h with | [u0],_=>⟨u0,rfl⟩
theorem qa {us:List MM} (h:us.length=2):∃ u0 u1,us=[u0,u1]:=match us,h with | [u0,u1],_=>⟨u0,u1,rfl⟩
theorem Al {us:List MM} (h:us.length=3):∃ u0 u1 u2,us=[u0,u1,u2]:=match us,h with | [u0,u1,u2],_=>⟨u0,u1,u2,rfl⟩
theorem C0 {us:List MM} (h:us.length=4):∃ u0 u1 u2 u3,us=[u0,u1,u2,u3]:=match us,h with | [u0,u1,u2,u3],_=>⟨u0,u1,u2,u3,rfl⟩
theorem Hk {us:List MM} (h:us.length=5):∃ u0 u1 u2 u3 u4,us=[u0,u1,u2,u3,u4]:=match us,h with | [u0,u1,u2,u3,u4],_=>⟨u0,u1,u2,u3,u4,rfl⟩
theorem GW {us:List MM} (h:us.length=6):∃ u0 u1 u2 u3 u4 u5,us=[u0,u1,u2,u3,u4,u5]:=match us,h with | [u0,u1,u2,u3,u4,u5],_=>⟨u0,u1,u2,u3,u4,u5,rfl⟩
theorem all_mk {l:Mb} {w:MN} {K:LQ} {h:MR} {mg:Str->Option MM} {fa:MP} (X:K.In h) (G:h.Ns MT mg) (hfa:mg "law"=some (.ref fa)) {f0 f1 f2 f3 f4 f5 f6 f7 f8 f9 f10 f11 f12 f13 f14 f15 f16 f17 f18 f19 f20 f21 f22 Cl0 Cl1:MP} {od0 an0 od1 an1 od2 an2 od3 an3 od4 an4 od5 an5 od6 an6 od7 an7 od8 an8 od9 an9 od10 an10 od11 an11 od12 an12 od13 an13 od14 an14 od15 an15 od16 an16 od17 an17 od18 an18 od19 an19 od20 an20 od21 an21 od22 an22:Option MP} {sl0 sl1 sl2 sl3 sl4 sl5 sl6 sl7 sl8 sl9 sl10 sl11 sl12 sl13 sl14 sl15 sl16 sl17 sl18 sl19 sl20 sl21 sl22:Array (Option MM)} {oc0 kV0 dc0 pm0 cd0 ct0 oc1 kV1 dc1 pm1 cd1 ct1 oc2 kV2 dc2 pm2 cd2 ct2 oc3 kV3 dc3 pm3 cd3 ct3 oc4 kV4 dc4 pm4 cd4 ct4 oc5 kV5 dc5 pm5 cd5 ct5 oc6 kV6 dc6 pm6 cd6 ct6 oc7 kV7 dc7 pm7 cd7 ct7 oc8 kV8 dc8 pm8 cd8 ct8 oc9 kV9 dc9 pm9 cd9 ct9 oc10 kV10 dc10 pm10 cd10 ct10 oc11 kV11 dc11 pm11 cd11 ct11 oc12 kV12 dc12 pm12 cd12 ct12 oc13 kV13 dc13 pm13 cd13 ct13 oc14 kV14 dc14 pm14 cd14 ct14 oc15 kV15 dc15 pm15 cd15 ct15 oc16 kV16 dc16 pm16 cd16 ct16 oc17 kV17 dc17 pm17 cd17 ct17 oc18 kV18 dc18 pm18 cd18 ct18 oc19 kV19 dc19 pm19 cd19 ct19 oc20 kV20 dc20 pm20 cd20 ct20 oc21 kV21 dc21 pm21 cd21 ct21 oc22 kV22 dc22 pm22 cd22 ct22:MM}
  (ac0:Md K MT "Nest"=some (some (.ref Cl0)))
  (ac1:Md K MT "Step"=some (some (.ref Cl1)))
  (a0:Md K MT "_law_alike"=some (some (.ref f0)))
  (l0:Lk K f0 "_law_alike" "_law_alike" eJ oc0 od0 kV0 dc0 pm0 an0 cd0 ct0 sl0)
  (c0:Ma K cd0 "_law_alike"=true)
  (k0:L6 K (.ref f0)=true)
  (a1:LW K (.ref Cl1) "put"=some (some (.ref f1)))
  (i1:LZ K (.ref f1)=true)
  (l1:Lk K f1 "put" "Step.put" iV oc1 od1 kV1 dc1 pm1 an1 cd1 ct1 sl1)
  (c1:Ma K cd1 "Step.put"=true)
  (k1:L6 K (.ref f1)=true)
  (a2:Md K MT "unnested"=some (some (.ref f2)))
  (l2:Lk K f2 "unnested" "unnested" jr oc2 od2 kV2 dc2 pm2 an2 cd2 ct2 sl2)
  (c2:Ma K cd2 "unnested"=true)
  (k2:L6 K (.ref f2)=true)
  (a3:LW K (.ref Cl0) "put"=some (some (.ref f3)))
  (i3:LZ K (.ref f3)=true)
  (l3:Lk K f3 "put" "Nest.put" jp oc3 od3 kV3 dc3 pm3 an3 cd3 ct3 sl3)
  (c3:Ma K cd3 "Nest.put"=true)
  (k3:L6 K (.ref f3)=true)
  (a4:Md K MT "_law_nested"=some (some (.ref f4)))
  (l4:Lk K f4 "_law_nested" "_law_nested" fD oc4 od4 kV4 dc4 pm4 an4 cd4 ct4 sl4)
  (c4:Ma K cd4 "_law_nested"=true)
  (k4:L6 K (.ref f4)=true)
  (a5:LW K (.ref Cl1) "got"=some (some (.ref f5)))
  (i5:LZ K (.ref f5)=true)
  (l5:Lk K f5 "got" "Step.got" je oc5 od5 kV5 dc5 pm5 an5 cd5 ct5 sl5)
  (c5:Ma K cd5 "Step.got"=true)
  (k5:L6 K (.ref f5)=true)
  (a6:Md K MT "grouped"=some (some (.ref f6)))
  (l6:Lk K f6 "grouped" "grouped" ky oc6 od6 kV6 dc6 pm6 an6 cd6 ct6 sl6)
  (c6:Ma K cd6 "grouped"=true)
  (k6:L6 K (.ref f6)=true)
  (a7:LW K (.ref Cl0) "got"=some (some (.ref f7)))
  (i7:LZ K (.ref f7)=true)
  (l7:Lk K f7 "got" "Nest.got" iY oc7 od7 kV7 dc7 pm7 an7 cd7 ct7 sl7)
  (c7:Ma K cd7 "Nest.got"=true)
  (k7:L6 K (.ref f7)=true)
  (a8:Md K MT "_law_name"=some (some (.ref f8)))
  (l8:Lk K f8 "_law_name" "_law_name" gZ oc8 od8 kV8 dc8 pm8 an8 cd8 ct8 sl8)
  (c8:Ma K cd8 "_law_name"=true)
  (k8:L6 K (.ref f8)=true)
  (a9:Md K MT "_law_cell_at"=some (some (.ref f9)))
  (l9:Lk K f9 "_law_cell_at" "_law_cell_at" eL oc9 od9 kV9 dc9 pm9 an9 cd9 ct9 sl9)
  (c9:Ma K cd9 "_law_cell_at"=true)
  (k9:L6 K (.ref f9)=true)
  (a10:Md K MT "_law_sorted"=some (some (.ref f10)))
  (l10:Lk K f10 "_law_sorted" "_law_sorted" fF oc10 od10 kV10 dc10 pm10 an10 cd10 ct10 sl10)
  (c10:Ma K cd10 "_law_sorted"=true)
  (k10:L6 K (.ref f10)=true)
  (a11:Md K MT "_law_next"=some (some (.ref f11)))
  (l11:Lk K f11 "_law_next" "_law_next" gS oc11 od11 kV11 dc11 pm11 an11 cd11 ct11 sl11)
  (c11:Ma K cd11 "_law_next"=true)
  (k11:L6 K (.ref f11)=true)
  (a12:Md K MT "_law_value"=some (some (.ref f12)))
  (l12:Lk K f12 "_law_value" "_law_value" eG oc12 od12 kV12 dc12 pm12 an12 cd12 ct12 sl12)
  (c12:Ma K cd12 "_law_value"=true)
  (k12:L6 K (.ref f12)=true)
  (a13:Md K MT "_law_row"=some (some (.ref f13)))
  (l13:Lk K f13 "_law_row" "_law_row" gK oc13 od13 kV13 dc13 pm13 an13 cd13 ct13 sl13)
  (c13:Ma K cd13 "_law_row"=true)
  (k13:L6 K (.ref f13)=true)
  (a14:Md K MT "_law_rows"=some (some (.ref f14)))
  (l14:Lk K f14 "_law_rows" "_law_rows" fS oc14 od14 kV14 dc14 pm14 an14 cd14 ct14 sl14)
  (c14:Ma K cd14 "_law_rows"=true)
  (k14:L6 K (.ref f14)=true)
  (a15:Md K MT "_law_seed"=some (some (.ref f15)))
  (l15:Lk K f15 "_law_seed" "_law_seed" hV oc15 od15 kV15 dc15 pm15 an15 cd15 ct15 sl15)
  (c15:Ma K cd15 "_law_seed"=true)
  (k15:L6 K (.ref f15)=true)
  (a16:Md K MT "_law_table"=some (some (.ref f16)))
  (l16:Lk K f16 "_law_table" "_law_table" gB oc16 od16 kV16 dc16 pm16 an16 cd16 ct16 sl16)
  (c16:Ma K cd16 "_law_table"=true)
  (k16:L6 K (.ref f16)=true)
  (a17:Md K MT "_law_plain"=some (some (.ref f17)))
  (l17:Lk K f17 "_law_plain" "_law_plain" gu oc17 od17 kV17 dc17 pm17 an17 cd17 ct17 sl17)
  (c17:Ma K cd17 "_law_plain"=true)
  (k17:L6 K (.ref f17)=true)
  (a18:Md K MT "_law_kind"=some (some (.ref f18)))
  (l18:Lk K f18 "_law_kind" "_law_kind" fT oc18 od18 kV18 dc18 pm18 an18 cd18 ct18 sl18)
  (c18:Ma K cd18 "_law_kind"=true)
  (k18:L6 K (.ref f18)=true)
  (a19:Md K MT "_law_form"=some (some (.ref f19)))
  (l19:Lk K f19 "_law_form" "_law_form" fN oc19 od19 kV19 dc19 pm19 an19 cd19 ct19 sl19)
  (c19:Ma K cd19 "_law_form"=true)
  (k19:L6 K (.ref f19)=true)
  (a20:Md K MT "_law_drawn_form"=some (some (.ref f20)))
  (l20:Lk K f20 "_law_drawn_form" "_law_drawn_form" de oc20 od20 kV20 dc20 pm20 an20 cd20 ct20 sl20)
  (c20:Ma K cd20 "_law_drawn_form"=true)
  (k20:L6 K (.ref f20)=true)
  (a21:Md K MT "law"=some (some (.ref f21)))
  (l21:Lk K f21 "law" "law" oP oc21 od21 kV21 dc21 pm21 an21 cd21 ct21 sl21)
  (c21:Ma K cd21 "law"=true)
  (k21:L6 K (.ref f21)=true)
  (a22:LW K (.ref Cl0) "__init__"=some (some (.ref f22)))
  (i22:LZ K (.ref f22)=true)
  (l22:Lk K f22 "__init__" "Nest.__init__" dM oc22 od22 kV22 dc22 pm22 an22 cd22 ct22 sl22)
  (c22:Ma K cd22 "Nest.__init__"=true)
  (k22:L6 K (.ref f22)=true)
  (p0:LU K Cl0 Str.empty=true)
  (q0:LV K Cl0=true)
  (r0:L1 K Cl0=true)
  (s0:LW K (.ref Cl0) "__setattr__"=some (some (.builtin "object.__setattr__")))
  (n0_0:LW K (.ref Cl0) "many"=some none)
  (n0_1:LW K (.ref Cl0) "name"=some none)
  (m0:L4 K Cl0=true)
  (kp0:L6 K (.ref Cl0)=true)
  (p1:LU K Cl1 Str.empty=true)
  (q1:LV K Cl1=true)
  (r1:L1 K Cl1=true)
  (s1:LW K (.ref Cl1) "__setattr__"=some (some (.builtin "object.__setattr__")))
  (z0:Md K MT "isinstance"=some none)
  (z1:Md K MT "str"=some none)
  (z2:Md K MT "bool"=some none)
  (z3:Md K MT "int"=some none)
  (z4:Md K MT "tuple"=some none)
  (z5:Md K MT "len"=some none)
  (z6:Md K MT "zip"=some none)
  (z7:Md K MT "sorted"=some none)
  (z8:Md K MT "list"=some none)
  (z9:Md K MT "dict"=some none)
  (z10:Md K MT "range"=some none)
  (z11:Md K MT "max"=some none)
  (z12:Md K MT "min"=some none)
  (z13:Md K MT "enumerate"=some none) :
  ∃ fd:Nq,(∀ (s:MX) (v:MM),Nr s fd ⟨[v],[]⟩ [("_law_script",v)])/\∀ base:MR,K.In base->base.Ns MT mg->hX l.prog w K mg base (mS l.prog w) 15 fa fd ["_law_script"] (yY K 1 (bj pA 1 11)):=by
 have e:=hfa.symm.trans (Mj X G a21)
 cases e
 have bm:=Ml X G z0
 have oV:=Ml X G z1
 have iQ:=Ml X G z2
 have fU:=Ml X G z3
 have aG:=Ml X G z4
 have bZ:=Ml X G z5
 have qC:=Ml X G z6
 have eK:=Ml X G z7
 have ji:=Ml X G z8
 have v5:=Ml X G z9
 have bu:=Ml X G z10
 have iH:=Ml X G z11
 have za:=Ml X G z12
 have g0:=Ml X G z13
 have F0:=cn (st:=eJ) l0 c0 k0
 have b0:=F0.binds (ps:=["_law_found","_law_due"]) fun _ _ _ _ _ _ us hl=>by obtain⟨u0,u1,rfl⟩:=qa hl; rfl
 have F1:=cn (st:=iV) l1 c1 k1
 have b1:=F1.binds (ps:=["self","form","table","view"]) fun _ _ _ _ _ _ us hl=>by obtain⟨u0,u1,u2,u3,rfl⟩:=C0 hl; rfl
 have F2:=cn (st:=jr) l2 c2 k2
 have b2:=F2.binds (ps:=["many","table"]) fun _ _ _ _ _ _ us hl=>by obtain⟨u0,u1,rfl⟩:=qa hl; rfl
 have F3:=cn (st:=jp) l3 c3 k3
 have b3:=F3.binds (ps:=["self","form","table","view"]) fun _ _ _ _ _ _ us hl=>by obtain⟨u0,u1,u2,u3,rfl⟩:=C0 hl; rfl
 have F4:=cn (st:=fD) l4 c4 k4
 have b4:=F4.binds (ps:=["_law_table_here","_law_many"]) fun _ _ _ _ _ _ us hl=>by obtain⟨u0,u1,rfl⟩:=qa hl; rfl
 have F5:=cn (st:=je) l5 c5 k5
 have b5:=F5.binds (ps:=["self","form","table"]) fun _ _ _ _ _ _ us hl=>by obtain⟨u0,u1,u2,rfl⟩:=Al hl; rfl
 have F6:=cn (st:=ky) l6 c6 k6
 have b6:=F6.binds (ps:=["many","rows"]) fun _ _ _ _ _ _ us hl=>by obtain⟨u0,u1,rfl⟩:=qa hl; rfl
 have F7:=cn (st:=iY) l7 c7 k7
 have b7:=F7.binds (ps:=["self","form","table"]) fun _ _ _ _ _ _ us hl=>by obtain⟨u0,u1,u2,rfl⟩:=Al hl; rfl
 have F8:=cn (st:=gZ) l8 c8 k8
 have b8:=F8.binds (ps:=["_law_base","_law_k"]) fun _ _ _ _ _ _ us hl=>by obtain⟨u0,u1,rfl⟩:=qa hl; rfl
 have F9:=cn (st:=eL) l9 c9 k9
 have b9:=F9.binds (ps:=["_law_script","_law_k"]) fun _ _ _ _ _ _ us hl=>by obtain⟨u0,u1,rfl⟩:=qa hl; rfl
 have F10:=cn (st:=fF) l10 c10 k10
 have b10:=F10.binds (ps:=["_law_many","_law_rows_here"]) fun _ _ _ _ _ _ us hl=>by obtain⟨u0,u1,rfl⟩:=qa hl; rfl
 have F11:=cn (st:=gS) l11 c11 k11
 have b11:=F11.binds (ps:=["_law_x"]) fun _ _ _ _ _ _ us hl=>by obtain⟨u0,rfl⟩:=EB hl; rfl
 have F12:=cn (st:=eG) l12 c12 k12
 have b12:=F12.binds (ps:=["_law_kind_here","_law_x"]) fun _ _ _ _ _ _ us hl=>by obtain⟨u0,u1,rfl⟩:=qa hl; rfl
 have F13:=cn (st:=gK) l13 c13 k13
 have b13:=F13.binds (ps:=["_law_form_here","_law_many","_law_head","_law_tail"]) fun _ _ _ _ _ _ us hl=>by obtain⟨u0,u1,u2,u3,rfl⟩:=C0 hl; rfl
 have F14:=cn (st:=fS) l14 c14 k14
 have b14:=F14.binds (ps:=["_law_form_here","_law_x","_law_many"]) fun _ _ _ _ _ _ us hl=>by obtain⟨u0,u1,u2,rfl⟩:=Al hl; rfl
 have F15:=cn (st:=hV) l15 c15 k15
 have b15:=F15.binds (ps:=["_law_script","_law_k"]) fun _ _ _ _ _ _ us hl=>by obtain⟨u0,u1,rfl⟩:=qa hl; rfl
 have F16:=cn (st:=gB) l16 c16 k16
 have b16:=F16.binds (ps:=["_law_form_here","_law_many","_law_script","_law_start","_law_most"]) fun _ _ _ _ _ _ us hl=>by obtain⟨u0,u1,u2,u3,u4,rfl⟩:=Hk hl; rfl
 have F17:=cn (st:=gu) l17 c17 k17
 have b17:=F17.binds (ps:=["_law_x"]) fun _ _ _ _ _ _ us hl=>by obtain⟨u0,rfl⟩:=EB hl; rfl
 have F18:=cn (st:=fT) l18 c18 k18
 have b18:=F18.binds (ps:=["_law_x","_law_base","_law_deep"]) fun _ _ _ _ _ _ us hl=>by obtain⟨u0,u1,u2,rfl⟩:=Al hl; rfl
 have F19:=cn (st:=fN) l19 c19 k19
 have b19:=F19.binds (ps:=["_law_x","_law_base","_law_start","_law_many","_law_more","_law_deep"]) fun _ _ _ _ _ _ us hl=>by obtain⟨u0,u1,u2,u3,u4,u5,rfl⟩:=GW hl; rfl
 have F20:=cn (st:=de) l20 c20 k20
 have b20:=F20.binds (ps:=["_law_script","_law_fewest"]) fun _ _ _ _ _ _ us hl=>by obtain⟨u0,u1,rfl⟩:=qa hl; rfl
 have F21:=cn (st:=oP) l21 c21 k21
 have F22:=cn (st:=dM) l22 c22 k22
 have b22:=F22.binds (ps:=["self","many","name"]) fun _ _ _ _ _ _ us hl=>by obtain⟨u0,u1,u2,rfl⟩:=Al hl; rfl
 have cl0:wg K Cl0:=⟨p0,q0,r0,s0⟩
 have cl1:wg K Cl1:=⟨p1,q1,r1,s1⟩
 have dB:tH K "many" ["Nest"]:=by
  intro c hc C hC
  simp only [Kw,LC,or_false] at hc
  rcases hc with rfl
  ·cases qx hC ac0; exact⟨cl0,n0_0⟩
 refine⟨L9 "law" "law" (kN oP) (eD oP) (aA oP) .none kV21 dc21 pm21 an21 cd21 ct21,fun s v=>.of_eq rfl,fun base _ _=>?_⟩
 have v4:=xX (P:=l.prog) (w:=w) (base:=base) ac0 ⟨m0,a22,i22,kp0⟩ cl0 (by intro g hg; simp only [Kw,LC,or_false] at hg; rcases hg with rfl | rfl <;> first | exact n0_0 | exact n0_1) F22 b22 (Mj X G ac0)
 have fam:=jP (P:=l.prog) (w:=w) (base:=base) F0 b0 (Mj X G a0) bm oV iQ fU aG bZ qC 12
 have bX:=fam
 have okb_Step_put:=uv (P:=l.prog) (w:=w) (base:=base) (K:=K) (mg:=mg) (f:=f1)
 have lD:=bw F2 b2 (Mj X G a2) tT (dF.ok (ua (P:=l.prog) (w:=w) (base:=base) (f:=f2) aG))
 have okb_Nest_put:=tu (P:=l.prog) (w:=w) (base:=base) (K:=K) (mg:=mg) (f:=f3) lD dB
 have fH:=bw F4 b4 (Mj X G a4) pJ (dF.ok (oR (P:=l.prog) (w:=w) (base:=base) (f:=f4) eK ji aG))
 have okb_Step_got:=ud (P:=l.prog) (w:=w) (base:=base) (K:=K) (mg:=mg) (f:=f5)
 have mw:=bw F6 b6 (Mj X G a6) vh (dF.ok (wq (P:=l.prog) (w:=w) (base:=base) (f:=f6) v5 aG))
 have okb_Nest_got:=uU (P:=l.prog) (w:=w) (base:=base) (K:=K) (mg:=mg) (f:=f7) mw dB aG
 have bH:=bw F8 b8 (Mj X G a8) sI (dF.ok (rZ (P:=l.prog) (w:=w) (base:=base) (f:=f8) bu))
 have bB:=bw F9 b9 (Mj X G a9) n0 (dF.ok (nZ (P:=l.prog) (w:=w) (base:=base) (f:=f9) bZ))
 have bi:=bw F10 b10 (Mj X G a10) o9 (dF.ok (pP (P:=l.prog) (w:=w) (base:=base) (f:=f10) aG eK ji))
 have az:=bw F11 b11 (Mj X G a11) rY (dF.ok (rS (P:=l.prog) (w:=w) (base:=base) (f:=f11) ))
 have fam:=jH (P:=l.prog) (w:=w) (base:=base) F12 b12 (Mj X G a12) F13 b13 (Mj X G a13) F14 b14 (Mj X G a14) az bi bZ iH fU aG bu 12
 have eM:=fam.1
 have dW:=fam.2.1
 have gR:=fam.2.2
 have cD:=bw F15 b15 (Mj X G a15) rG (dF.ok (rJ (P:=l.prog) (w:=w) (base:=base) (f:=f15) bB az))
 have jl:=bw F16 b16 (Mj X G a16) pX (dF.ok (qj (P:=l.prog) (w:=w) (base:=base) (f:=f16) cD dW az bi bu za iH bZ))
 have bW:=bw F17 b17 (Mj X G a17) qc (dF.ok (qg (P:=l.prog) (w:=w) (base:=base) (f:=f17) bu bZ aG eK ji))
 have fam:=kW (P:=l.prog) (w:=w) (base:=base) F18 b18 (Mj X G a18) F19 b19 (Mj X G a19) bW az bH bu aG 12
 have jB:=fam.1
 have dZ:=fam.2
 have eE:=bw F20 b20 (Mj X G a20) lr (dF.ok (lu (P:=l.prog) (w:=w) (base:=base) (f:=f20) cD bB dZ az))
 have jC:lh l.prog w K mg base 14 "put" ["self","form","table","view"] [("Step",(bj cH 4 4)),("Nest",(bj bA 4 4))]:=lW (MethAt.mono (kQ (c := "Step") (m := "put") ac1 cl1 ⟨a1,i1,k1⟩ F1 b1 uH (dF.ok okb_Step_put)) (by decide)) bf (lW (MethAt.mono (kQ (c := "Nest") (m := "put") ac0 cl0 ⟨a3,i3,k3⟩ F3 b3 uV (dF.ok okb_Nest_put)) (by decide)) bf (wz))
 have jV:lh l.prog w K mg base 14 "got" ["self","form","table"] [("Step",(bj eO 3 3)),("Nest",(bj du 3 3))]:=lW (MethAt.mono (kQ (c := "Step") (m := "got") ac1 cl1 ⟨a5,i5,k5⟩ F5 b5 uJ (dF.ok okb_Step_got)) (by decide)) bf (lW (MethAt.mono (kQ (c := "Nest") (m := "got") ac0 cl0 ⟨a7,i7,k7⟩ F7 b7 uC (dF.ok okb_Nest_got)) (by decide)) bf (wz))
 exact C4 (P:=l.prog) (w:=w) (base:=base) F21 eE az cD jl bH bB fH bX jC jV v4 bZ aG g0
theorem walk {l:Mb} {q:MO} {loose:List Str} {XP:(Str->Option MM)->MR->Prop} {YP:MN->MR->Prop} {d:DefRec} {K:Params->LQ} (hn:l.most=some 63) (hdf:d.params.defaults=[])
  (hY:∀ (w:MN) (h:MR),YP w h->(K w.params).In h)
  (F:∀ (w:MN) (mg:Str->Option MM) (fa:MP) (h:MR),(K w.params).In h->h.Ns MT mg->mg d.name=some (.ref fa) ->
   ∃ fd:Nq,(∀ (s:MX) (u:MM),Nr s fd ⟨[u],[]⟩ [("_law_script",u)])/\∀ base:MR,(K w.params).In base->base.Ns MT mg->hX l.prog w (K w.params) mg base (mS l.prog w) 15 fa fd ["_law_script"] (yY (K w.params) 1 (bj pA 1 11)))
  (math:∀ ns:List Int,ns.length<=63->bj pA 1 11 [.lst (ns.map .int)]=.ok (.bl true)):PySem.W.WalkO q loose XP YP l.row.toRowW d [] (fun f vs=>PySem.call f vs) :=
 L2.Gm (n:=63) (k:=15) (x := "_law_script") (CX:=fun w=>mS l.prog w) (sp:=fun w=>yY (K w.params) 1 (bj pA 1 11)) hn (by decide) hdf ⟨rfl,by decide,by decide⟩ hY F
  (fun w H a ns hl _ hS=>⟨[],[.lst (ns.map .int)],rfl,⟨trivial,fun a h=>nomatch h⟩,by rw [Bh]; exact bc.mpr ⟨.ref a,[],rfl,cu.mpr ⟨a,_,rfl,hS,qR ns⟩,cF.mpr rfl⟩,by rw [math ns hl]; exact fun v H' _ d=>jO.mp d⟩) fun _ _ _ _ _ z=>by obtain⟨_,_,_,_,_,_,_,_,_,_,_,_,_,z⟩:=z; exact z
end Tk41
namespace Tk41
open PySem PySem.Spec L2 TG TD T4
local macro_rules
 | `(tactic| simp! only [$xs,*])=>`(tactic| simp only [cB,q5,nT,qN,gb,dQ,ge_0,yn,nF,ye,mB,j9,mG,mK,yO,yk,yR,xR,x4,ny,my,rB,iO,j8,mP,kB,qW,nB,mX,kC,ng,iD,mL,iK,ib,gC,gF,mD,kx,gD,kL,iI,jY,kr,gx,kz,iP,lj,kn,ip,hJ,ki,jX,yK,qY,xA,yN,yq,m9,kH,mR,kJ,kj,yj,x3,Lf,Lg,JD,JY,J8,Kk,K0,env0,List.replicate,KQ,JH,KH,Nat.reduceAdd,Nat.reduceSub,JC,J1,mV,nE,qU,ni,nz,nA,gE,mZ,qz,ro,rE,nG,iB,iL,iC,ia,iF,ic,rF,qo,qy,rk,qt,qH,iE,iq,eQ,fw,mH,gH,e8,fh,eV,jg,jy,e6,eU,ie,iJ,j0,kM,iA,kI,nu,nC,j4,j6,gN,if_true,if_false,Lh,Li,J6,$xs,*])
inductive Kd where
 | num (lo hi:Int) | wrd (ws:List Str)
def Kd.d:Kd->D
 | .num lo hi=>.tup [.str "number",.int lo,.int hi]
 | .wrd ws=>.tup [.str "word",.tup (ws.map .str)]
def Kd.gd:Kd->Prop
 | .num lo hi=>lo<=hi
 | .wrd ws=>ws≠[]/\ws.length<=100
def Kd.b:Kd->Bool
 | .num _ _=>true
 | .wrd _=>false
abbrev KL:=List (Str×Kd)
def kf (p:Str×Kd):D:=.tup [.str p.1,p.2.d]
abbrev fr (k:KL) (r:List (Str×D)):D:=.tup [.tup (k.map kf),.tup (r.map fld)]
def toD (p:Str×Kd):Str×D:=(p.1,p.2.d)
theorem C7 (k:KL):k.map kf=(k.map toD).map fld:=by rw [K7]; rfl
theorem DE:(("number":Str)==("number":Str))=true:=by decide +kernel
theorem A8:(("word":Str)==("word":Str))=true:=by decide +kernel
theorem Dx:(("word":Str)==("number":Str))=false:=by decide +kernel
theorem Dv:(("rows":Str)==("number":Str))=false:=by decide +kernel
theorem AV:(("rows":Str)==("word":Str))=false:=by decide +kernel
def KG:Nat->D->Prop
 | 0,d=>∃ c:Kd,c.gd/\d=c.d
 | n+1,d=>(∃ c:Kd,c.gd/\d=c.d)\/∃ (ks:KL) (qs:List (Str×D)) (b:Bool),d=.tup [.str "rows",fr ks qs,.bl b]/\1<=ks.length/\ks.length<=8/\(∀ p∈ks,p.2.gd)/\qs.length<=8/\∀ q∈qs,KG n q.2
theorem BV (ws:List Str) (w:Str):pW ws w≠[]:=by
 unfold pW
 split
 ·rename_i h
  intro z
  rw [z] at h
  simp at h
 ·simp
theorem Fu (ws:List Str) (h:ws.Nodup) (hl:ws.length < 64):∃ us:List Str,dP [.lst (ws.map .str)]=some (.lst (us.map .str))/\us.Perm ws:=by
 have pz:∀ zs:List D,zs.Perm (ws.map D.str)->∃ us:List Str,zs=us.map .str/\us.Perm ws:=fun zs p=>by
  have e:zs=(zs.map fun z=>match z with | .str w=>w | _ => "").map .str:=by
   rw [K7]
   conv=>lhs; rw [<- List.map_id zs]
   refine Kl fun z hz=>?_
   obtain⟨w,_,rfl⟩:=List.mem_map.mp (p.mem_iff.mp hz)
   rfl
  refine⟨_,e,?_⟩
  have q:=p.map fun z:D=>match z with | .str w=>w | _=>("":Str)
  rw [K7] at q
  have e2:ws.map ((fun z:D=>match z with | .str w=>w | _=>("":Str)) ∘ D.str)=ws:=by
   conv=>rhs; rw [<- List.map_id ws]
   exact Kl fun _ _=>rfl
  rw [e2] at q
  exact q
 have fin:∀ key:D->List D,∃ us:List Str,some (D.lst (iz key (ws.map .str)))=some (.lst (us.map .str))/\us.Perm ws:=fun key=>by
  obtain⟨us,e,q⟩:=pz _ (eR key (ws.map .str))
  exact⟨us,by rw [e],q⟩
 show ∃ us,nN (ws.map .str)=_/\_
 unfold nN
 by_cases a:DU (ws.map .str)
 ·rw [if_pos a]; exact fin _
 ·have b:FK (ws.map .str):=by
   refine⟨by rw [JE]; exact hl,false,fun x hx=>?_,?_⟩
   ·obtain⟨w,_,rfl⟩:=List.mem_map.mp hx
    exact .str w .nil
   ·rw [K4]
    refine h.imp fun hne e=>hne ?_
    have e:[D.str _]=[D.str _]:=e
    injection e with e _
    injection e
  rw [if_neg a,if_pos b]; exact fin _
theorem pI (x:Int) (h0:0<=x) (h1:x < 2147483700):∃ c:Kd,bj bV 1 8 [.int x]=.ok c.d/\c.gd:=by
 have g3:=fun i=>bz (i:=i) (show (0:Int) < 3 by decide)
 have g4:=fun i=>bz (i:=i) (show (0:Int) < 4 by decide)
 have g26:=fun i=>bz (i:=i) (show (0:Int) < 26 by decide)
 have d3:=fun i=>bU (i:=i) (show (0:Int) < 3 by decide) (show (3:Int) < 10 ^ 200 by decide)
 have d12:=fun i=>bU (i:=i) (show (0:Int) < 12 by decide) (show (12:Int) < 10 ^ 200 by decide)
 have d78:=fun i=>bU (i:=i) (show (0:Int) < 78 by decide) (show (78:Int) < 10 ^ 200 by decide)
 have d2028:=fun i=>bU (i:=i) (show (0:Int) < 2028 by decide) (show (2028:Int) < 10 ^ 200 by decide)
 have p7:nX (.int x) (.int 7)=some (.int (x ^ 7)):=vF x 7 (by decide) ‹0›
 have pb:=Fh
 have gp:=fun i=>bz (i:=i) (show (0:Int) < B7 by omega)
 rw [vH]; unfold bV
 by_cases h:x%3 < 2
 ·have h':decide (x%3 < 2)=true:=decide_eq_true h
  obtain⟨v,hv,e1⟩:=IU (.int 0) (.int (-3)) (.int (0 - x ^ 7%B7)) (.int (x ^ 7%B7)) (x / 3%4) ‹0› ‹0›
  obtain⟨lo,rfl⟩:∃ lo:Int,v=.int lo:=by
   simp only [Kw,LC,or_false] at hv
   rcases hv with rfl | rfl | rfl | rfl <;> exact⟨_,rfl⟩
  obtain⟨w,w0,e2⟩:∃ w:Int,0<=w/\bL (.lst [.int 0,.int 1,.int 6,.int B7]) (.int (x / 12%4))=some (.int w):=by
   rcases(show x / 12%4=0\/x / 12%4=1\/x / 12%4=2\/x / 12%4=3 by omega) with z | z | z | z <;> rw [z]
   ·exact⟨0,by decide,rfl⟩
   ·exact⟨1,by decide,rfl⟩
   ·exact⟨6,by decide,rfl⟩
   ·exact⟨B7,by omega,rfl⟩
  refine⟨.num lo (lo+w),?_,by show lo<=lo+w; omega⟩
  unfold Kd.d
  simp! only [g3,h',p7,Ds,gp,G2,d3,g4,e1,d12,e2,IP]
 ·have h':decide (x%3 < 2)=false:=decide_eq_false h
  have LL:(("abcdefghijklmnopqrstuvwxyz":Str)).length=26:=by decide +kernel
  have L0:(("":Str)).length<=1000:=by decide +kernel
  generalize hL:("abcdefghijklmnopqrstuvwxyz":Str)=L at LL
  obtain⟨one,ho,e1⟩:=mh L ‹0› (x / 3%26) ‹0› ‹0›
  obtain⟨oth,hq,e2⟩:=mh L ‹0› (x / 78%26) ‹0› ‹0›
  have a1:=jw one oth ‹0› ‹0›
  have a2:=jw oth one ‹0› ‹0›
  have a3:=jw one one ‹0› ‹0›
  have m1:=Cu (x:=one) (n:=8) (by decide) (by decide) ‹0›
  have m2:=Cu (x:=oth) (n:=3) (by decide) (by decide) ‹0›
  have r8:kK [.int 8]=some (dX 0 8):=kO 8 (by decide)
  generalize hW:[D.str "",.str one,.str oth,.str (one++oth),.str (oth++one),.str (kT one 8),.str (one++one),.str (kT oth 3)]=W
  have W8:W.length=8:=by rw [<- hW]; rfl
  have Ws:∀ d∈W,∃ w:Str,d=.str w:=by
   rw [<- hW]
   intro d hd
   simp only [Kw,LC,or_false] at hd
   rcases hd with rfl | rfl | rfl | rfl | rfl | rfl | rfl | rfl <;> exact⟨_,rfl⟩
  obtain⟨T,hT⟩:∃ T:cf,T=(aQ (ju (gq (af (fC (.int 8)) (aw))) (gN 7) (aQ (mJ (fB (f2 lA (f2 xf (f2 A4 (f2 cN (ah 0) (fC (.int 2028))) (ah 7)) (fC (.int 1))) (fC (.int 1)))) (lL 6 (f2 bL (ah 5) (ah 7)) (fC (.bl true))) (cS)) (eN [7] cS))) (aQ (mJ (jL [6] (fB (f2 lA (fL qX (af (ah 6) (aw))) (fC (.int 0))))) (lL 6 (ah 3) (fC (.bl true))) (cS)) (gI 6 (bT (fY (af (fC (.str "word")) (af (fL bP (af (fL dP (af (fL m8 (af (ah 6) (aw))) (aw))) (aw))) (aw)))))))):=⟨_,rfl⟩
  have fin:∀ ws:List Str,ws.Nodup->ws.length<=10->ws≠[]->∃ c:Kd,gI 6 (bT (fY (af (fC (.str "word")) (af (fL bP (af (fL dP (af (fL m8 (af (ah 6) (aw))) (aw))) (aw))) (aw))))) K0 [some (.val (.int x)),none,none,some (.val (.str one)),none,some (.val (.lst W)),some (.own (wd ws)),none]=.ok c.d/\c.gd:=fun ws nd hl wn=>by
   obtain⟨us,ez,pz⟩:=Fu ws nd ‹0›
   refine⟨.wrd us,?_,⟨fun z=>wn (by rw [z] at pz; exact pz.symm.eq_nil),by rw [pz.length_eq]; omega⟩⟩
   unfold Kd.d
   simp! only [zj,ez,EW]
  have key:∃ c:Kd,T K0 [some (.val (.int x)),none,none,some (.val (.str one)),none,some (.val (.lst W)),some (.own (.dct [] [])),none]=.ok c.d/\c.gd:=by
   rw [hT,gx,hJ]
   simp! only [r8]
   refine dR (Q:=fun z=>∃ c:Kd,z=.ok c.d/\c.gd) (fun i ρ=>∃ ws:List Str,ws.Nodup/\ws.length<=i/\ρ=[some (.val (.int x)),none,none,some (.val (.str one)),none,some (.val (.lst W)),some (.own (wd ws)),none]) ?_ ⟨[],J3,Jw _,rfl⟩ ?_
   ·rintro i d ρ kk hd ⟨ws,nd,hl,rfl⟩
    have hi:=cM hd
    rw [cR] at hi
    have hdi:d=.int (i:Int):=by
     rw [ku,JP,Kq hi] at hd
     cases hd; simp
    subst hdi
    obtain⟨w,ew⟩:=Ws (W[i]'‹0›) (K3 _)
    have ix:bL (.lst W) (.int (i:Int))=some (.str w):=by
     rw [GR,oE ‹0›,ew]
    have sh:=CK (x / 2028) i
    cases hb:(Builtin.bitAnd (x / 2028 / 2 ^ i) 1==1) with
    | false =>
     refine⟨_,_,rfl,⟨ws,nd,by omega,rfl⟩,?_⟩
     simp! only [d2028,sh,wD,hb]
    | true =>
     refine⟨_,_,rfl,⟨pW ws w,xt w nd,by have:=uN ws w; omega,rfl⟩,?_⟩
     have pk:=fun k:Ks=>wU (i:=6) (fk:=f2 bL (ah 5) (ah 7)) (fv:=fC (.bl true)) (k:=k) (ρ:=[some (.val (.int x)),none,none,some (.val (.str one)),none,some (.val (.lst W)),some (.own (wd ws)),some (.val (.int (i:Int)))]) (al:=xU ws) (q:=.inr w) (d:=.str w) (v:=.bl true) rfl (by simp! only [ix]) rfl rfl (by simp; omega)
     simp! only [d2028,sh,wD,hb,pk,Aw]
   ·rintro ρ' ⟨ws,nd,hl,rfl⟩
    rw [cR] at hl
    have pt:jL [6] (fB (f2 lA (fL qX (af (ah 6) (aw))) (fC (.int 0)))) [some (.val (.int x)),none,none,some (.val (.str one)),none,some (.val (.lst W)),some (.own (wd ws)),none]=.ok (((ws.length:Int))==0):=by
     simp! only [pQ,Cv,Bd]
    dsimp only
    rw [gx,lj,pt,nT]
    cases hb:((ws.length:Int)==0) with
    | false=>exact fin ws nd ‹0› fun z=>by rw [z] at hb; cases hb
    | true =>
     have pk:=fun k:Ks=>wU (i:=6) (fk:=ah 3) (fv:=fC (.bl true)) (k:=k) (ρ:=[some (.val (.int x)),none,none,some (.val (.str one)),none,some (.val (.lst W)),some (.own (wd ws)),none]) (al:=xU ws) (q:=.inr one) (d:=.str one) (v:=.bl true) rfl rfl rfl rfl (by simp; omega)
     rw [if_pos rfl,pk,Aw]
     exact fin (pW ws one) (xt one nd) (by have:=uN ws one; omega) (BV ws one)
  obtain⟨d,ed,fd⟩:=key
  have mW:lV W=some (.lst W):=CG ‹0›
  refine⟨d,?_,fd⟩
  rw [<- hT]
  simp only [K0] at ed
  simp! only [hL,g3,h',d3,g26,e1,d78,e2,a1,a2,a3,m1,m2,hW,mW,se,ed]
theorem xu (dp g:Nat) (hk:∀ x b:Int,0<=x->x < 2147483700->0<=b->∃ d,aJ g [.int x,.int b,.int dp]=.ok d/\KG dp d) (x b st:Int) (m r:Nat) (h0:0<=x) (h1:x < 2147483700) (hb:0<=b) (hs:0<=st) (hm:m<=8) (hr:r<=8) :
  ∃ (ks:KL) (qs:List (Str×D)),aH (g+1) [.int x,.int b,.int st,.int m,.int r,.int dp]=.ok (fr ks qs)/\ks.length=m/\qs.length=r/\(∀ p∈ks,p.2.gd)/\∀ q∈qs,KG dp q.2:=by
 rw [eY,CF]; unfold gW
 have rn:kK [.int ((m:Int)+(r:Int))]=some (dX 0 (m+r)):=by
  rw [show ((m:Int)+(r:Int))=((m+r:Nat):Int) by omega]
  exact kO (m+r) ‹0›
 obtain⟨T,hT⟩:∃ T:cf,T=gI 7 (gI 6 (bT (fY (af (fL bP (af (ah 6) (aw))) (af (fL bP (af (ah 7) (aw))) (aw)))))):=⟨_,rfl⟩
 rw [<- hT]
 simp! only [Dc,rn]
 refine dR (Q:=fun z=>∃ (ks:KL) (qs:List (Str×D)),z=.ok (fr ks qs)/\ks.length=m/\qs.length=r/\(∀ p∈ks,p.2.gd)/\∀ q∈qs,KG dp q.2)
  (fun i ρ=>∃ (y:Int) (ks:KL) (qs:List (Str×D)),0<=y/\y < 2147483700/\ks.length=min i m/\qs.length=i - m/\(∀ p∈ks,p.2.gd)/\(∀ q∈qs,KG dp q.2) /\
   ρ=[some (.val (.int y)),some (.val (.int b)),some (.val (.int st)),some (.val (.int m)),some (.val (.int r)),some (.val (.int dp)),some (.own (.lst (ks.map kf))),some (.own (.lst (qs.map fld))),none]) ?_ ⟨x,[],[],h0,h1,by simp,by simp,(fun _ h=>nomatch h),(fun _ h=>nomatch h),rfl⟩ ?_
 ·rintro i d ρ kk hd ⟨y,ps,qs,y0,y1,lp,lq,fp,fq,rfl⟩
  have hi:=cM hd
  rw [cR] at hi
  have hdi:d=.int (i:Int):=by
   rw [ku,JP,Kq hi] at hd
   cases hd; simp
  subst hdi
  obtain⟨y',y0',y1',ey⟩:=gv y y0 y1
  obtain⟨nm,en⟩:=xg b (st+(i:Int)) hb ‹0›
  by_cases h:i < m
  ·have h':decide ((i:Int) < (m:Int))=true:=decide_eq_true ‹0›
   obtain⟨c,ek,ck⟩:=pI y' y0' ‹0›
   refine⟨_,_,rfl,⟨y',ps++[(nm,c)],qs,y0',by omega,by rw [JR,JW]; omega,by omega,fun p hp=>?_,fq,rfl⟩,?_⟩
   ·rcases List.mem_append.mp hp with z | z
    ·exact fp p z
    ·rw [K9] at z; subst z; exact ck
   ·have ap:fV (ps.map kf) [.tup [.str nm,c.d]]=some ((ps++[(nm,c)]).map kf):=by
     rw [lm (by rw [JE]; omega),Km]; rfl
    have sm:=fun K:Ks=>lH 6 fV (af (fY (af (fR (bj bI 2 7) (af (ah 1) (af (f2 cp (ah 2) (ah 8)) (aw)))) (af (fR (bj bV 1 8) (af (ah 0) (aw))) (aw)))) (aw)) K [some (.val (.int y')),some (.val (.int b)),some (.val (.int st)),some (.val (.int m)),some (.val (.int r)),some (.val (.int dp)),some (.own (.lst (ps.map kf))),some (.own (.lst (qs.map fld))),some (.val (.int i))] (xs:=ps.map kf) rfl
    generalize (ps++[(nm,c)]).map kf=Y at ap ⊢
    simp! only [ey,h',sm,en,ek,EW,ap]
  ·have h':decide ((i:Int) < (m:Int))=false:=decide_eq_false ‹0›
   obtain⟨k,ek,fk⟩:=hk y' b y0' ‹0› hb
   refine⟨_,_,rfl,⟨y',ps,qs++[(nm,k)],y0',by omega,by omega,by rw [JR,JW]; omega,fp,fun p hp=>?_,rfl⟩,?_⟩
   ·rcases List.mem_append.mp hp with z | z
    ·exact fq p z
    ·rw [K9] at z; subst z; exact fk
   ·have ap:fV (qs.map fld) [.tup [.str nm,k]]=some ((qs++[(nm,k)]).map fld):=by
     rw [lm (by rw [JE]; omega),Km]; rfl
    have sm:=fun K:Ks=>lH 7 fV (af (fY (af (fR (bj bI 2 7) (af (ah 1) (af (f2 cp (ah 2) (ah 8)) (aw)))) (af (fR (aJ g) (af (ah 0) (af (ah 1) (af (ah 5) (aw))))) (aw)))) (aw)) K [some (.val (.int y')),some (.val (.int b)),some (.val (.int st)),some (.val (.int m)),some (.val (.int r)),some (.val (.int dp)),some (.own (.lst (ps.map kf))),some (.own (.lst (qs.map fld))),some (.val (.int i))] (xs:=qs.map fld) rfl
    generalize (qs++[(nm,k)]).map fld=Y at ap ⊢
    simp! only [ey,h',sm,en,ek,EW,ap]
 ·rintro ρ' ⟨y,ps,qs,y0,y1,lp,lq,fp,fq,rfl⟩
  rw [cR] at lp lq
  refine⟨ps,qs,?_,by omega,by omega,fp,fq⟩
  rw [hT]
  simp! only [EW]
theorem AF:∀ (dp g:Nat),2*dp+1<=g->∀ x b:Int,0<=x->x < 2147483700->0<=b->∃ d,aJ g [.int x,.int b,.int dp]=.ok d/\KG dp d:=by
 intro dp
 induction dp with
 | zero =>
  intro g hg x b h0 h1 hb
  obtain⟨g,rfl⟩:∃ g',g=g'+1:=⟨g - 1,by omega⟩
  have d3:=fun i=>bU (i:=i) (show (0:Int) < 3 by decide) (show (3:Int) < 10 ^ 200 by decide)
  obtain⟨c,e,f⟩:=pI (x / 3) ‹0› ‹0›
  refine⟨c.d,?_,c,f,rfl⟩
  rw [dC,rM]; unfold fJ
  have z:(((0:Nat):Int)==0)=true:=rfl
  simp! only [z,d3,e]
 | succ dp ih =>
  intro g hg x b h0 h1 hb
  obtain⟨g,rfl⟩:∃ g',g=g'+1+1:=⟨g - 2,by omega⟩
  have g2:=fun i=>bz (i:=i) (show (0:Int) < 2 by decide)
  have g3:=fun i=>bz (i:=i) (show (0:Int) < 3 by decide)
  have g12:=fun i=>bz (i:=i) (show (0:Int) < 12 by decide)
  have d3:=fun i=>bU (i:=i) (show (0:Int) < 3 by decide) (show (3:Int) < 10 ^ 200 by decide)
  have d6:=fun i=>bU (i:=i) (show (0:Int) < 6 by decide) (show (6:Int) < 10 ^ 200 by decide)
  have d18:=fun i=>bU (i:=i) (show (0:Int) < 18 by decide) (show (18:Int) < 10 ^ 200 by decide)
  have d36:=fun i=>bU (i:=i) (show (0:Int) < 36 by decide) (show (36:Int) < 10 ^ 200 by decide)
  have z:(((dp+1:Nat):Int)==0)=false:=by simp; omega
  rw [dC,rM]; unfold fJ
  by_cases h:x%3 < 2
  ·have h':decide (x%3 < 2)=true:=decide_eq_true h
   obtain⟨c,e,f⟩:=pI (x / 3) ‹0› ‹0›
   refine⟨c.d,?_,.inl ⟨c,f,rfl⟩⟩
   simp! only [z,g3,h',d3,e]
  ·have h':decide (x%3 < 2)=false:=decide_eq_false h
   obtain⟨m,hm,hm8,m1⟩:∃ m:Nat,1+x / 3%2=(m:Int)/\m<=8/\1<=m:=⟨(1+x / 3%2).toNat,by omega,by omega,by omega⟩
   obtain⟨r,hr,hr8⟩:∃ m:Nat,x / 6%3=(m:Int)/\m<=8:=⟨(x / 6%3).toNat,by omega,by omega⟩
   have hd:((dp+1:Nat):Int) - 1=(dp:Int):=by omega
   obtain⟨ps,qs,e,l1,l2,F1,F2⟩:=xu dp g (ih g ‹0›) (x / 3) b (x / 36%12) m r ‹0› ‹0› hb ‹0› hm8 hr8
   refine⟨.tup [.str "rows",fr ps qs,.bl (x / 18%2==1)],?_,.inr ⟨ps,qs,_,rfl,by omega,by omega,F1,by omega,F2⟩⟩
   simp! only [z,g3,h',d3,d36,g12,g2,d6,hm,hr,hd,e,d18,IP]
theorem wQ (dp:Nat) (hd:dp<=3) (x b st:Int) (m r:Nat) (h0:0<=x) (h1:x < 2147483700) (hb:0<=b) (hs:0<=st) (hm:m<=8) (hr:r<=8) :
  ∃ (ks:KL) (qs:List (Str×D)),aH 12 [.int x,.int b,.int st,.int m,.int r,.int dp]=.ok (fr ks qs)/\ks.length=m/\qs.length=r/\(∀ p∈ks,p.2.gd)/\∀ q∈qs,KG dp q.2 :=
 xu dp 11 (AF dp 11 ‹0›) x b st m r h0 h1 hb hs hm hr
theorem qK {σ:List Bool} {kl:Nat} (h0:σ≠[]) (hl:kl=σ.length) (rows:List (List D)) (hs:∀ r∈rows,Sh σ (r.take kl)) (hn:rows.length < 64):∃ t:List (List D),bj bq 2 4 [.int kl,.lst (rows.map .tup)]=.ok (.tup (t.map .tup))/\Fg kl t/\(∀ r∈t,r∈rows)/\t.length<=rows.length:=by
 obtain⟨T,hT⟩:∃ T:cf,T=(gI 2 (bT (fL bP (af (mC [none,some 2] (cL (fL dP (af (fL jU (af (ah 2) (aw))) (aw)))) (gN 0) (ga) (f2 vR (ah 1) (ah 0))) (aw))))):=⟨_,rfl⟩
 rw [fX]; unfold bq
 rw [<- hT]
 simp! only [se]
 refine dR (Q:=fun z=>∃ t:List (List D),z=.ok (.tup (t.map .tup))/\Fg kl t/\(∀ r∈t,r∈rows)/\t.length<=rows.length) (fun i ρ=>∃ al:List (List Key×D),(al.map (·.1)).Nodup/\al.length<=i/\(∀ p∈al,∃ r∈rows,p.2=.tup r/\r.take kl=p.1.map aY)/\ρ=[some (.val (.int kl)),some (.val (.lst (rows.map .tup))),some (.own (cG al)),none]) ?_ ⟨[],J3,Jw _,(fun _ h=>nomatch h),rfl⟩ ?_
 ·rintro i d ρ kk hd ⟨al,nd,ll,hp,rfl⟩
  have hi:=cM hd
  rw [JE] at hi
  rw [JP,Kg hi] at hd
  cases hd
  have rm:rows[i]∈rows:=K3 hi
  obtain⟨q,eq⟩:=oh (hs _ rm)
  have ct:cutD rows[i] none (some (kl:Int))=q.map aY:=by rw [oC,eq]
  refine⟨_,_,rfl,⟨eX al q (.tup rows[i]),BQ _ _ nd,by have:=yU al q (.tup rows[i]); omega,fun p h=>?_,rfl⟩,?_⟩
  ·rcases zU h with z | z
   ·exact hp p z
   ·subst z; exact⟨_,rm,rfl,eq⟩
  ·have pd:=fun K:Ks=>wx (i:=2) (fk:=bJ (ah 3) (bn) (cI (ah 0))) (fv:=ah 3) (k:=K) (ρ:=[some (.val (.int kl)),some (.val (.lst (rows.map .tup))),some (.own (cG al)),some (.val (.tup rows[i]))]) (al:=al) (q:=q) (v:=.tup rows[i]) rfl (by simp! only [ct]) rfl ‹0›
   generalize cG (eX al q (.tup rows[i]))=Y at pd ⊢
   generalize cG al=Z at pd ⊢
   simp! only [pd]
 ·rintro ρ' ⟨al,nd,ll,hp,rfl⟩
  rw [JE] at ll
  have hsk:∀ p∈al,Sh σ (p.1.map aY):=fun p h=>by
   obtain⟨r,hr,_,e⟩:=hp p h
   rw [<- e]; exact hs r hr
  obtain⟨es,ri⟩:=wL nd hsk h0 ‹0›
  have pm:=eR cU (encK al)
  have lt:=uw al
  generalize iz cU (encK al)=W at es ri pm
  have wl:W.length=al.length:=by rw [pm.length_eq,JE]
  have mem:∀ x∈W,∃ p∈al,x=.tup (p.1.map aY):=fun x hx=>by
   obtain⟨p,h1,h2⟩:=List.mem_map.mp (pm.mem_iff.mp hx)
   exact⟨p,h1,h2.symm⟩
  obtain⟨vs,v1,v2,v3⟩:=Ay (ρ:=[none,some (.val (cG al))]) (g:=gN 0) (C:=ga) (Fe:=f2 vR (ah 1) (ah 0)) W (fun i v=>∃ r∈rows,v=.tup r/\W[i]?=some (.tup (r.take kl))) fun i d hd=>by
   obtain⟨p,h1,h2⟩:=mem d (JQ hd)
   obtain⟨r,hr,e1,e2⟩:=hp p h1
   have dx:=Dp al p.1
   rw [tX nd h1,e1] at dx
   refine⟨[some (.val d),some (.val (cG al))],.tup r,rfl,rfl,?_,r,hr,rfl,by rw [hd,h2,e2]⟩
   subst h2
   generalize cG al=Z at dx
   simp! only [dx]
  obtain⟨t,rfl⟩:=wC vs fun v hv=>by
   obtain⟨i,hi,ei⟩:=K6 hv
   obtain⟨r,_,e,_⟩:=v2 i v (by rw [Kg hi,ei])
   exact⟨r,e⟩
  rw [JE] at v1
  have at_:∀ (i:Nat) (h:i < t.length),t[i]∈rows/\W[i]?=some (.tup (t[i].take kl)):=fun i h=>by
   obtain⟨r,hr,e,w⟩:=v2 i (.tup t[i]) (by rw [JP,Kg h]; rfl)
   injection e with e
   rw [e]; exact⟨hr,w⟩
  refine⟨t,?_,?_,fun r hr=>?_,by omega⟩
  ·have lc:mC [none,some 2] (cL (fL dP (af (fL jU (af (ah 2) (aw))) (aw)))) (gN 0) (ga) (f2 vR (ah 1) (ah 0)) [some (.val (.int kl)),some (.val (.lst (rows.map .tup))),some (.val (cG al)),none]=.ok (.lst (t.map .tup)):=by
    refine jm (ds:=W) ?_ ‹0› v3
    generalize cG al=Z at lt
    simp! only [lt,es]
   rw [hT]
   generalize cG al=Z at lc
   simp! only [lc]
  ·refine List.pairwise_iff_getElem.mpr fun i j hi hj hij=>?_
   have a:=(at_ i hi).2
   have b:=(at_ j hj).2
   rw [Kg ‹0›] at a b
   have:=List.pairwise_iff_getElem.mp ri i j ‹0› ‹0› hij
   rw [Option.some.inj a,Option.some.inj b] at this
   exact this
  ·obtain⟨i,hi,ei⟩:=K6 hr
   rw [<- ei]; exact(at_ i hi).1
theorem oB (c:Kd) (hg:c.gd) (g:Nat) (x:Int) (h0:0<=x) (h1:x < 2147483700):∃ v,ax (g+1) [c.d,.int x]=.ok v/\Sh [c.b] [v]:=by
 rw [cZ,fX]; unfold eI
 cases c with
 | num lo hi =>
  have hg:lo<=hi:=hg
  have p7:nX (.int x) (.int 7)=some (.int (x ^ 7)):=vF x 7 (by decide) ‹0›
  have gm:=fun i=>bz (i:=i) (show (0:Int) < hi - lo+1 by omega)
  refine⟨.int (lo+x ^ 7%(hi - lo+1)),?_,.int _ .nil⟩
  simp! only [Kd.d,DE,p7,gm]
 | wrd ws =>
  obtain⟨wn,_⟩:=(show ws≠[]/\ws.length<=100 from hg)
  have ul:0 < ws.length:=List.length_pos_iff.mpr wn
  have q1:=Lj x (show (ws.length:Int)≠0 by omega)
  have q2:=Ln x (show (0:Int) < (ws.length:Int) by omega)
  have gm:=fun i=>bz (i:=i) (show (0:Int) < (ws.length:Int) by omega)
  have ix:bL (.tup (ws.map .str)) (.int (x%(ws.length:Int)))=some (.str (ws[(x%(ws.length:Int)).toNat]'‹0›)):=by
   rw [E7,wZ,sg q1 q2]; rfl
  refine⟨_,?_,.str (ws[(x%(ws.length:Int)).toNat]'‹0›) .nil⟩
  simp! only [Kd.d,Dx,A8,JE,gm,ix]
theorem Az (n g:Nat) (hv:∀ (d:D) (x:Int),KG n d->0<=x->x < 2147483700->∃ v,ax (g+1) [d,.int x]=.ok v/\AL (2*n) v) (ks:KL) (qs:List (Str×D)) (k8:ks.length<=8) (q8:qs.length<=8) (hk:∀ p∈ks,p.2.gd) (hq:∀ q∈qs,KG n q.2) (mn hd tl:Int) (h0:0<=hd) (h1:hd < 2147483700) (t0:0<=tl) (t1:tl < 2147483700) :
  ∃ vs:List D,aB (g+2) [fr ks qs,.int mn,.int hd,.int tl]=.ok (.tup vs)/\vs.length=ks.length+qs.length/\Sh (ks.map (·.2.b)) (vs.take ks.length)/\∀ v∈vs,AL (2*n) v:=by
 rw [fW,vp]; unfold ja
 have ad:=mi (ks.map kf) (qs.map fld) (by rw [JE,JE]; omega)
 have em:ks.map kf++qs.map fld=(ks.map toD++qs).map fld:=by rw [Km,C7]
 rw [em] at ad
 have fl:(ks.map toD++qs).length=ks.length+qs.length:=by rw [JR,JE]
 obtain⟨T,hT⟩:∃ T:cf,T=(gI 4 (bT (fL bP (af (ah 4) (aw))))):=⟨_,rfl⟩
 rw [<- hT]
 simp! only [Dc,ad]
 refine dR (Q:=fun z=>∃ vs:List D,z=.ok (.tup vs)/\vs.length=ks.length+qs.length/\Sh (ks.map (·.2.b)) (vs.take ks.length)/\∀ v∈vs,AL (2*n) v)
  (fun i ρ=>∃ (y z:Int) (ka va:List D),0<=y/\y < 2147483700/\0<=z/\z < 2147483700/\Sh ((ks.take i).map (·.2.b)) ka/\va.length=i - ks.length/\(∀ v∈va,AL (2*n) v)/\ρ=[some (.val (fr ks qs)),some (.val (.int mn)),some (.val (.int y)),some (.val (.int z)),some (.own (.lst (ka++va))),none,none]) ?_ ⟨hd,tl,[],[],h0,h1,t0,t1,.nil,by simp,(fun _ h=>nomatch h),rfl⟩ ?_
 ·rintro i d ρ kk hd ⟨y,z,ka,va,y0,y1,z0,z1,hka,lva,hva,rfl⟩
  have hi:=cM hd
  rw [JE,fl] at hi
  rw [JP,Kg ‹0›] at hd
  cases hd
  have kal:ka.length=min i ks.length:=by rw [hka.length,JE,JL]
  obtain⟨y',y0',y1',ey⟩:=gv y y0 y1
  obtain⟨z',z0',z1',ez⟩:=gv z z0 z1
  have step:∀ x:Int,0<=x->x < 2147483700->∃ v,ax (g+1) [((ks.map toD++qs)[i]'‹0›).2,.int x]=.ok v/\∃ ka' va',ka++va++[v]=ka'++va'/\Sh ((ks.take (i+1)).map (·.2.b)) ka'/\va'.length=i+1 - ks.length/\∀ v∈va',AL (2*n) v:=fun x x0 x1=>by
   by_cases h:i < ks.length
   ·have e:(ks.map toD++qs)[i]'‹0›=toD ks[i]:=by rw [List.getElem_append_left (by rw [JE]; exact h),List.getElem_map]
    obtain⟨v,ev,sv⟩:=oB ks[i].2 (hk _ (K3 h)) g x x0 x1
    have v0:va=[]:=List.length_eq_zero_iff.mp ‹0›
    subst v0
    refine⟨v,by rw [e]; exact ev,ka++[v],[],by simp,?_,by simp; omega,fun _ h=>nomatch h⟩
    rw [LD h,Km]
    exact vS hka sv
   ·have e:(ks.map toD++qs)[i]'‹0›=qs[i - ks.length]'‹0›:=by rw [LI (by rw [JE]; omega)]; simp
    obtain⟨v,ev,sv⟩:=hv _ x (hq _ (K3 (show i - ks.length < qs.length by omega))) x0 x1
    refine⟨v,by rw [e]; exact ev,ka,va++[v],by rw [Ku],?_,by rw [JR,JW]; omega,fun w hw=>?_⟩
    ·rw [Le ‹0›] at hka ⊢; exact hka
    ·rcases List.mem_append.mp hw with z | z
     ·exact hva w z
     ·rw [List.mem_singleton.mp z]; exact sv
  have gt:gT 2 (mF [5,6]) (fld ((ks.map toD++qs)[i]'‹0›)) [some (.val (fr ks qs)),some (.val (.int mn)),some (.val (.int y)),some (.val (.int z)),some (.own (.lst (ka++va))),none,none]=some [some (.val (fr ks qs)),some (.val (.int mn)),some (.val (.int y)),some (.val (.int z)),some (.own (.lst (ka++va))),some (.val (.str ((ks.map toD++qs)[i]'‹0›).1)),some (.val ((ks.map toD++qs)[i]'‹0›).2)]:=rfl
  have alen:(ka++va).length < 1000:=by rw [JR]; omega
  generalize (ks.map toD++qs)[i]'‹0›=p at step gt
  cases hb:decide (((ka++va).length:Int) < mn) with
  | true =>
   obtain⟨v,ev,ka',va',e1,e2,e3,e4⟩:=step y' y0' ‹0›
   refine⟨_,_,gt,⟨y',z,ka',va',y0',by omega,z0,z1,e2,e3,e4,rfl⟩,?_⟩
   have ap:fV (ka++va) [v]=some (ka'++va'):=by rw [lm ‹0›,e1]
   have sm:=fun K:Ks=>lH 4 fV (af (fR (ax (g+1)) (af (ah 6) (af (ah 2) (aw)))) (aw)) K [some (.val (fr ks qs)),some (.val (.int mn)),some (.val (.int y')),some (.val (.int z)),some (.own (.lst (ka++va))),some (.val (.str p.1)),some (.val p.2)] (xs:=ka++va) rfl
   generalize ka++va=A at hb ap sm alen
   generalize ka'++va'=B at ap
   simp! only [pQ,Cv,hb,ey,sm,ev,ap]
  | false =>
   obtain⟨v,ev,ka',va',e1,e2,e3,e4⟩:=step z' z0' ‹0›
   refine⟨_,_,gt,⟨y,z',ka',va',y0,y1,z0',by omega,e2,e3,e4,rfl⟩,?_⟩
   have ap:fV (ka++va) [v]=some (ka'++va'):=by rw [lm ‹0›,e1]
   have sm:=fun K:Ks=>lH 4 fV (af (fR (ax (g+1)) (af (ah 6) (af (ah 3) (aw)))) (aw)) K [some (.val (fr ks qs)),some (.val (.int mn)),some (.val (.int y)),some (.val (.int z')),some (.own (.lst (ka++va))),some (.val (.str p.1)),some (.val p.2)] (xs:=ka++va) rfl
   generalize ka++va=A at hb ap sm alen
   generalize ka'++va'=B at ap
   simp! only [pQ,Cv,hb,ez,sm,ev,ap]
 ·rintro ρ' ⟨y,z,ka,va,y0,y1,z0,z1,hka,lva,hva,rfl⟩
  rw [JE,fl] at hka lva
  rw [Le ‹0›] at hka
  have kal:ka.length=ks.length:=by rw [hka.length,JE]
  refine⟨ka++va,?_,by rw [JR]; omega,by rw [<- kal,List.take_left]; exact hka,fun v hv=>?_⟩
  ·rw [hT]
   generalize ka++va=A
   simp! only []
  ·rcases List.mem_append.mp hv with w | w
   ·exact(uc hka v w).of0 _
   ·exact hva v w
theorem AR (n g:Nat) (hv:∀ (d:D) (x:Int),KG n d->0<=x->x < 2147483700->∃ v,ax (g+1) [d,.int x]=.ok v/\AL (2*n) v) (ks:KL) (qs:List (Str×D)) (k1:1<=ks.length) (k8:ks.length<=8) (q8:qs.length<=8) (hk:∀ p∈ks,p.2.gd) (hq:∀ q∈qs,KG n q.2) (x:Int) (m:Nat) (h0:0<=x) (h1:x < 2147483700) (hm:m<=3) :
  ∃ v:D,aD (g+3) [fr ks qs,.int x,.int m]=.ok v/\AL (2*n+2) v:=by
 have rn:=kO m ‹0›
 obtain⟨T,hT⟩:∃ T:cf,T=(gI 3 (bT (fR (bj bq 2 4) (af (fL kR (af (f2 bL (ah 0) (fC (.int 0))) (aw))) (af (ah 3) (aw)))))):=⟨_,rfl⟩
 rw [fj,rM]; unfold gY
 rw [<- hT]
 simp! only [Dc,rn]
 refine dR (Q:=fun z=>∃ v:D,z=.ok v/\AL (2*n+2) v)
  (fun i ρ=>∃ (y:Int) (rs:List (List D)),0<=y/\y < 2147483700/\rs.length=i/\(∀ r∈rs,r.length<=16/\Sh (ks.map (·.2.b)) (r.take ks.length)/\∀ v∈r,AL (2*n) v)/\ρ=[some (.val (fr ks qs)),some (.val (.int y)),some (.val (.int m)),some (.own (.lst (rs.map .tup))),none]) ?_ ⟨x,[],h0,h1,rfl,(fun _ h=>nomatch h),rfl⟩ ?_
 ·rintro i d ρ kk hd ⟨y,rs,y0,y1,rl,hr,rfl⟩
  have hi:=cM hd
  rw [cR] at hi
  obtain⟨y',y0',y1',ey⟩:=gv y y0 y1
  obtain⟨vs,ev,v1,v2,v3⟩:=Az n g hv ks qs k8 q8 hk hq 0 0 y' (by decide) (by decide) y0' ‹0›
  refine⟨_,_,rfl,⟨y',rs++[vs],y0',by omega,by rw [JR,JW,rl],fun r h=>?_,rfl⟩,?_⟩
  ·rcases List.mem_append.mp h with z | z
   ·exact hr r z
   ·rw [List.mem_singleton.mp z]; exact⟨by omega,v2,v3⟩
  ·have ap:fV (rs.map .tup) [.tup vs]=some ((rs++[vs]).map .tup):=by
    rw [lm (by rw [JE]; omega),Km]; rfl
   have sm:=fun K:Ks=>lH 3 fV (af (fR (aB (g+2)) (af (ah 0) (af (fC (.int 0)) (af (fC (.int 0)) (af (ah 1) (aw)))))) (aw)) K [some (.val (fr ks qs)),some (.val (.int y')),some (.val (.int m)),some (.own (.lst (rs.map .tup))),some (.val d)] (xs:=rs.map .tup) rfl
   generalize (rs++[vs]).map D.tup=Y at ap ⊢
   generalize rs.map D.tup=Z at ap sm ⊢
   simp! only [ey,sm,ev,ap]
 ·rintro ρ' ⟨y,rs,y0,y1,rl,hr,rfl⟩
  rw [cR] at rl
  obtain⟨t,et,_,tm,tl⟩:=qK (σ:=ks.map (·.2.b)) (kl:=ks.length) (fun z=>by have:=congrArg List.length z; rw [JE,J1] at this; omega) (by rw [JE]) rs (fun r h=>(hr r h).2.1) ‹0›
  refine⟨.tup (t.map .tup),?_,AL.tup (by rw [JE]; omega) fun v hv=>?_⟩
  ·rw [hT]
   simp! only [JE,et]
  ·obtain⟨r,h1,rfl⟩:=List.mem_map.mp hv
   obtain⟨w1,_,w3⟩:=hr r (tm r h1)
   exact AL.tup ‹0› w3
theorem y4:∀ (n g:Nat),3*n+1<=g->∀ (d:D) (x:Int),KG n d->0<=x->x < 2147483700->∃ v,ax g [d,.int x]=.ok v/\AL (2*n) v:=by
 intro n
 induction n with
 | zero =>
  intro g hg d x hd h0 h1
  obtain⟨g,rfl⟩:∃ g',g=g'+1:=⟨g - 1,by omega⟩
  obtain⟨c,cg,rfl⟩:=hd
  obtain⟨v,ev,sv⟩:=oB c cg g x h0 h1
  exact⟨v,ev,uc sv v Jq⟩
 | succ n ih =>
  intro g hg d x hd h0 h1
  obtain⟨g,rfl⟩:∃ g',g=g'+3+1:=⟨g - 4,by omega⟩
  rcases hd with ⟨c,cg,rfl⟩ | ⟨ks,qs,b,rfl,k1,k8,hk,q8,hq⟩
  ·obtain⟨v,ev,sv⟩:=oB c cg (g+3) x h0 h1
   exact⟨v,ev,(uc sv v Jq).of0 _⟩
  ·have d3:=fun i=>bU (i:=i) (show (0:Int) < 3 by decide) (show (3:Int) < 10 ^ 200 by decide)
   have g3:=fun i=>bz (i:=i) (show (0:Int) < 3 by decide)
   obtain⟨m,hm,em⟩:∃ m:Nat,m<=3/\oz [.int (x%3),.int (if b then 1 else 0)]=some (.int (m:Int)):=by
    refine⟨(if (if b then (1:Int) else 0) > x%3 then (if b then (1:Int) else 0) else x%3).toNat,?_,?_⟩
    ·cases b <;> simp <;> split <;> omega
    ·rw [jg]
     congr 2
     cases b <;> simp <;> split <;> omega
   obtain⟨v,ev,av⟩:=AR n g (ih (g+1) ‹0›) ks qs k1 k8 q8 hk hq (x / 3) m ‹0› ‹0› hm
   refine⟨v,?_,av⟩
   rw [cZ,fX]; unfold eI
   simp! only [Dv,AV,d3,g3,Ak,em,ev]
structure Tab (σ:List Bool) (t:List (List D)):Prop where
 sh:∀ r∈t,Sh σ (r.take σ.length)
 ri:Fg σ.length t
 ln:t.length < 64
 rl:∀ r∈t,r.length<=16/\σ.length<=r.length
 al:∀ r∈t,∀ v∈r,AL 4 v
theorem Af (ks:KL) (qs:List (Str×D)) (n:Nat) (hn:n<=2) (k1:1<=ks.length) (k8:ks.length<=8) (q8:qs.length<=8) (hk:∀ p∈ks,p.2.gd) (hq:∀ q∈qs,KG n q.2) (m:Int) (ns:List Int) (hl:ns.length<=63) :
  ∃ t:List (List D),Tab (ks.map (·.2.b)) t/\bj eA 5 8 [fr ks qs,.int m,.lst (ns.map .int),.int 2,.int 60]=.ok (.tup (t.map .tup)):=by
 have g2:=fun i=>bz (i:=i) (show (0:Int) < 2 by decide)
 have g4:=fun i=>bz (i:=i) (show (0:Int) < 4 by decide)
 have d2:=fun i=>bU (i:=i) (show (0:Int) < 2 by decide) (show (2:Int) < 10 ^ 200 by decide)
 have l2:∀ a b:D,lV [a,b]=some (.lst [a,b]):=fun _ _=>nr rfl
 obtain⟨N,hN,rn⟩:∃ N:Nat,N<=60/\∀ e1 e2:Int,oz [.int (ns.length:Int),.int 7]=some (.int e1)->tM [.int e1,.int 62]=some (.int e2)->n9 [.int 2,.int e2]=some (dX 2 N):=by
  refine⟨((if (62:Int) < (if (7:Int) > (ns.length:Int) then 7 else (ns.length:Int)) then 62 else (if (7:Int) > (ns.length:Int) then 7 else (ns.length:Int))) - 2).toNat,?_,fun e1 e2 h1 h2=>?_⟩
  ·split <;> split <;> omega
  ·rw [jg] at h1
   cases h1
   rw [jy] at h2
   cases h2
   generalize he:(if (62:Int) < (if (7:Int) > (ns.length:Int) then 7 else (ns.length:Int)) then 62 else (if (7:Int) > (ns.length:Int) then 7 else (ns.length:Int)))=e
   have e2:2<=e/\e<=62:=by rw [<- he]; split <;> split <;> omega
   show (if okR 2 && okR e then some (dX 2 ((e - 2).toNat)) else none)=_
   have o1:okR 2=true:=decide_eq_true ⟨by decide,by decide⟩
   have o2:okR e=true:=decide_eq_true ⟨by omega,by omega⟩
   rw [o1,o2]; rfl
 have mx:=jg (ns.length:Int) 7
 have rn:=rn _ _ mx (jy _ _)
 obtain⟨T,hT⟩:∃ T:cf,T=(gI 5 (bT (fR (bj bq 2 4) (af (fL kR (af (f2 bL (ah 0) (fC (.int 0))) (aw))) (af (ah 5) (aw)))))):=⟨_,rfl⟩
 rw [Dk]; unfold eA
 rw [<- hT]
 have p7:(2:Int)+5=7:=rfl
 have p62:(2:Int)+60=62:=rfl
 simp! only [Dc,JE,p7,p62,rn]
 refine dR (Q:=fun z=>∃ t:List (List D),Tab (ks.map (·.2.b)) t/\z=.ok (.tup (t.map .tup)))
  (fun i ρ=>∃ rs:List (List D),rs.length=i/\(∀ r∈rs,r.length=ks.length+qs.length/\Sh (ks.map (·.2.b)) (r.take ks.length)/\∀ v∈r,AL 4 v)/\ρ=[some (.val (fr ks qs)),some (.val (.int m)),some (.val (.lst (ns.map .int))),some (.val (.int 2)),some (.val (.int 60)),some (.own (.lst (rs.map .tup))),none,none]) ?_ ⟨[],rfl,(fun _ h=>nomatch h),rfl⟩ ?_
 ·rintro i d ρ kk hd ⟨rs,rl,hr,rfl⟩
  have hi:=cM hd
  rw [cR] at hi
  have hdi:d=.int ((2+i:Nat):Int):=by
   rw [ku,JP,Kq hi] at hd
   cases hd; simp
  subst hdi
  obtain⟨x,x0,x1,ex⟩:=si ns (2+i) ‹0›
  obtain⟨y,y0,y1,ey⟩:=gv x x0 ‹0›
  obtain⟨h,h0,h1,eh⟩:∃ h:Int,0<=h/\h < 2147483700/\bL (.lst [.int (x / 2%4),.int (x / 2)]) (.int (x%2))=some (.int h):=by
   rcases(show x%2=0\/x%2=1 by omega) with z | z <;> rw [z]
   ·exact⟨x / 2%4,by omega,by omega,rfl⟩
   ·exact⟨x / 2,by omega,by omega,rfl⟩
  obtain⟨vs,ev,v1,v2,v3⟩:=Az n 10 (y4 n 11 ‹0›) ks qs k8 q8 hk hq m h y h0 h1 y0 ‹0›
  have ev:aB 12 [fr ks qs,.int m,.int h,.int y]=.ok (.tup vs):=ev
  refine⟨_,_,rfl,⟨rs++[vs],by rw [JR,JW,rl],fun r h=>?_,rfl⟩,?_⟩
  ·rcases List.mem_append.mp h with z | z
   ·exact hr r z
   ·rw [List.mem_singleton.mp z]; exact⟨v1,v2,fun v hv=>AL.le ‹0› (v3 v hv)⟩
  ·have ap:fV (rs.map .tup) [.tup vs]=some ((rs++[vs]).map .tup):=by
    rw [lm (by rw [JE]; omega),Km]; rfl
   have sm:=fun K:Ks=>lH 5 fV (af (fR (aB 12) (af (ah 0) (af (ah 1) (af (f2 bL (jb (af (f2 bK (f2 cN (ah 7) (fC (.int 2))) (fC (.int 4))) (af (f2 cN (ah 7) (fC (.int 2))) (aw)))) (f2 bK (ah 7) (fC (.int 2)))) (af (fR (bj aK 1 1) (af (ah 7) (aw))) (aw)))))) (aw)) K [some (.val (fr ks qs)),some (.val (.int m)),some (.val (.lst (ns.map .int))),some (.val (.int 2)),some (.val (.int 60)),some (.own (.lst (rs.map .tup))),some (.val (.int ((2+i:Nat):Int))),some (.val (.int x))] (xs:=rs.map .tup) rfl
   generalize (rs++[vs]).map D.tup=Y at ap ⊢
   generalize rs.map D.tup=Z at ap sm ⊢
   simp! only [ex,sm,d2,g4,l2,g2,eh,ey,ev,ap]
 ·rintro ρ' ⟨rs,rl,hr,rfl⟩
  rw [cR] at rl
  have sl:(ks.map (·.2.b)).length=ks.length:=by rw [JE]
  obtain⟨t,et,ri,tm,tl⟩:=qK (σ:=ks.map (·.2.b)) (kl:=ks.length) (fun z=>by have:=congrArg List.length z; rw [JE,J1] at this; omega) sl.symm rs (fun r h=>(hr r h).2.1) ‹0›
  refine⟨t,⟨fun r h=>by rw [sl]; exact(hr r (tm r h)).2.1,by rw [sl]; exact ri,by omega,fun r h=>by have:=(hr r (tm r h)).1; rw [sl]; omega,fun r h=>(hr r (tm r h)).2.2⟩,?_⟩
  rw [hT]
  simp! only [JE,et]
theorem As (ns:List Int):∃ (ks:KL) (qs:List (Str×D)) (n:Nat),n<=2/\2<=ks.length/\ks.length<=8/\qs.length<=8/\(∀ p∈ks,p.2.gd)/\(∀ q∈qs,KG n q.2)/\bj cE 2 7 [.lst (ns.map .int),.int 2]=.ok (fr ks qs):=by
 obtain⟨x,x0,x1,ex⟩:=si ns 0 ‹0›
 have ex:bj bR 2 3 [.lst (ns.map .int),.int 0]=.ok (.int x):=ex
 obtain⟨c1,e1⟩:=TD.FZ ns 1 (by decide)
 obtain⟨y,y0,y1,ey⟩:=gv x x0 ‹0›
 have mm:=fun i=>lX (i:=i) (j:=48271) (by decide) (by decide)
 have gM:=fun i=>bz (i:=i) (show (0:Int) < 2147483647 by decide)
 have g3:=fun i=>bz (i:=i) (show (0:Int) < 3 by decide)
 have g4:=fun i=>bz (i:=i) (show (0:Int) < 4 by decide)
 have g8:=fun i=>bz (i:=i) (show (0:Int) < 8 by decide)
 have g9:=fun i=>bz (i:=i) (show (0:Int) < 9 by decide)
 have d8:=fun i=>bU (i:=i) (show (0:Int) < 8 by decide) (show (8:Int) < 10 ^ 200 by decide)
 have d32:=fun i=>bU (i:=i) (show (0:Int) < 32 by decide) (show (32:Int) < 10 ^ 200 by decide)
 have d128:=fun i=>bU (i:=i) (show (0:Int) < 128 by decide) (show (128:Int) < 10 ^ 200 by decide)
 have d1024:=fun i=>bU (i:=i) (show (0:Int) < 1024 by decide) (show (1024:Int) < 10 ^ 200 by decide)
 have d4096:=fun i=>bU (i:=i) (show (0:Int) < 4096 by decide) (show (4096:Int) < 10 ^ 200 by decide)
 have s52:(5:Int) - 2=3:=rfl
 obtain⟨b,hb,b0⟩:∃ b:Int,c1*48271%2147483647=b/\0<=b:=⟨_,rfl,Lj _ (by decide)⟩
 obtain⟨dp,dp2,ed⟩:∃ dp:Nat,dp<=2/\bL (.lst [.int 0,.int 0,.int 1,.int 2]) (.int (x / 32%4))=some (.int (dp:Int)):=by
  rcases(show x / 32%4=0\/x / 32%4=1\/x / 32%4=2\/x / 32%4=3 by omega) with z | z | z | z <;> rw [z]
  ·exact⟨0,by decide,rfl⟩
  ·exact⟨0,by decide,rfl⟩
  ·exact⟨1,by decide,rfl⟩
  ·exact⟨2,by decide,rfl⟩
 rw [fX]; unfold cE
 cases h3:(x / 128%8==3) with
 | true =>
  obtain⟨ks,qs,ef,l1,l2,f1,f2⟩:=wQ 0 (by decide) y b 0 (8 - x / 1024%3).toNat (x / 4096%9).toNat y0 ‹0› b0 (by decide) ‹0› ‹0›
  rw [LJ ‹0›,LJ ‹0›] at ef
  refine⟨ks,qs,0,by decide,by omega,by omega,by omega,f1,f2,?_⟩
  have ef:aH 12 [.int y,.int b,.int 0,.int (8 - x / 1024%3),.int (x / 4096%9),.int 0]=.ok (fr ks qs):=ef
  simp! only [ex,e1,mm,gM,hb,s52,g3,d8,g4,G2,d32,ed,d128,g8,h3,d1024,d4096,g9,ey,ef]
 | false =>
  obtain⟨ks,qs,ef,l1,l2,f1,f2⟩:=wQ dp ‹0› y b 0 (2+x%3).toNat (x / 8%4).toNat y0 ‹0› b0 (by decide) ‹0› ‹0›
  rw [LJ ‹0›,LJ ‹0›] at ef
  refine⟨ks,qs,dp,dp2,by omega,by omega,by omega,f1,f2,?_⟩
  simp! only [ex,e1,mm,gM,hb,s52,g3,d8,g4,G2,d32,ed,d128,g8,h3,ey,ef]
theorem zip_get:∀ (xs:List D) (i:Nat) (d:D),(mq xs xs)[i]?=some d->∃ x∈xs,d=.tup [x,x]
 | x::xs,0,d,h=>by cases h; exact⟨x,Jq,rfl⟩
 | x::xs,i+1,d,h=>by
  obtain⟨y,h1,h2⟩:=zip_get xs i d h
  exact⟨y,Jr _ h1,h2⟩
theorem lE:∀ (n g:Nat) (d:D),n < g->AL n d->aI g [d,d]=.ok (.bl true):=by
 intro n
 induction n with
 | zero =>
  intro g d hg hd
  obtain⟨g,rfl⟩:∃ g',g=g'+1:=⟨g - 1,by omega⟩
  show bj (cO (aI g)) 2 4 [d,d]=_
  rw [fX]; unfold cO
  rcases hd with ⟨i,rfl⟩ | ⟨x,rfl⟩
  ·have t2:me "str" (.int i)=some (.bl false):=rfl
   have t3:me "int" (.int i)=some (.bl true):=rfl
   have t4:me "bool" (.int i)=some (.bl false):=rfl
   simp! only [t2,t3,t4,beq_self_eq_true,Ki]
  ·have t2:me "str" (.str x)=some (.bl true):=rfl
   simp! only [t2,beq_self_eq_true,Ki]
 | succ n ih =>
  intro g d hg hd
  obtain⟨g,rfl⟩:∃ g',g=g'+1:=⟨g - 1,by omega⟩
  show bj (cO (aI g)) 2 4 [d,d]=_
  rw [fX]; unfold cO
  rcases hd with (⟨i,rfl⟩ | ⟨x,rfl⟩) | ⟨ds,rfl,dl,hds⟩
  ·have t2:me "str" (.int i)=some (.bl false):=rfl
   have t3:me "int" (.int i)=some (.bl true):=rfl
   have t4:me "bool" (.int i)=some (.bl false):=rfl
   simp! only [t2,t3,t4,beq_self_eq_true,Ki]
  ·have t2:me "str" (.str x)=some (.bl true):=rfl
   simp! only [t2,beq_self_eq_true,Ki]
  ·have t1:me "tuple" (.tup ds)=some (.bl true):=rfl
   have t2:me "str" (.tup ds)=some (.bl false):=rfl
   have t3:me "int" (.tup ds)=some (.bl false):=rfl
   have t4:me "bool" (.tup ds)=some (.bl false):=rfl
   simp! only [t1,t2,t3,t4,beq_self_eq_true,xV]
   refine dR (Q:=fun z=>z=.ok (.bl true)) (fun i ρ=>ρ=[some (.val (.tup ds)),some (.val (.tup ds)),none,none]) ?_ rfl ?_
   ·rintro i d ρ kk hd rfl
    obtain⟨x,hx,rfl⟩:=zip_get ds i d hd
    have ea:=ih g x ‹0› (hds x hx)
    refine⟨[some (.val (.tup ds)),some (.val (.tup ds)),some (.val x),some (.val x)],_,rfl,rfl,?_⟩
    simp! only [ea]
   ·rintro ρ' rfl
    rfl
noncomputable def kq (f:List D):List Key:=(keysOf f).getD []
theorem EZ (q:List Key):kq (q.map aY)=q:=by unfold kq; rw [bQ]; rfl
theorem ph {σ:List Bool} {f:List D} (h:Sh σ f):(kq f).map aY=f:=by
 obtain⟨q,e⟩:=oh h
 rw [e,EZ]
theorem vM {σ:List Bool} {f f':List D} (h:Sh σ f) (h':Sh σ f') (e:kq f=kq f'):f=f':=by
 rw [<- ph h,e,ph h']
section
open Classical
theorem Dr {σ:List Bool} (L:List (List D)) (k:List D) (v:D) (hL:∀ f∈L,Sh σ f) (hk:Sh σ k) :
  eX (L.map fun f=>(kq f,v)) (kq k) v=(if k∈L then L else L++[k]).map fun f=>(kq f,v):=by
 have e:((L.map fun f=>(kq f,v)).any fun p=>decide (p.1=kq k))=true↔k∈L:=by
  rw [List.any_eq_true]
  constructor
  ·rintro⟨p,hp,hq⟩
   obtain⟨f,hf,rfl⟩:=List.mem_map.mp hp
   rw [<- vM (hL f hf) hk (of_decide_eq_true hq)]; exact hf
  ·intro h
   exact⟨_,List.mem_map.mpr ⟨k,h,rfl⟩,decide_eq_true rfl⟩
 unfold eX
 by_cases h:k∈L
 ·rw [if_pos (e.mpr h),if_pos h,K7]
  refine Kl fun f _=>?_
  show (if kq f=kq k then (kq f,v) else (kq f,v))=(kq f,v)
  split <;> rfl
 ·rw [if_neg fun z=>h (e.mp z),if_neg h,Km]; rfl
theorem zz {σ:List Bool} (k:List D) (v:D) (hk:Sh σ k) (ψ:List D->List D):∀ L:List (List D),(∀ f∈L,Sh σ f)->L.Nodup->(∀ f∈L,(ψ f).length < 1000)->(k∉L->ψ k=[]) ->
  p8 (L.map fun f=>(kq f,.lst (ψ f))) (kq k) v=some ((if k∈L then L else L++[k]).map fun f=>(kq f,.lst (ψ f++if k=f then [v] else [])))
 | [],_,_,_,h0=>by
  rw [if_neg (by simp)]
  show some [(kq k,D.lst [v])]=some [(kq k,.lst (ψ k++if k=k then [v] else []))]
  rw [h0 (by simp),if_pos rfl]; rfl
 | f::L,hL,nd,hl,h0=>by
  obtain⟨n1,n2⟩:=List.nodup_cons.mp nd
  show (if kq f=kq k then _ else _)=_
  by_cases h:f=k
  ·subst h
   rw [if_pos rfl,if_pos Jq]
   show (if small ((ψ f).length+1) then some ((kq f,D.lst (ψ f++[v]))::L.map fun f=>(kq f,.lst (ψ f))) else none)=_
   have hl0:=hl f Jq
   rw [if_pos (show small ((ψ f).length+1)=true from decide_eq_true ‹0›),JD,if_pos rfl]
   congr 2
   refine Kl fun x hx=>?_
   rw [if_neg (fun z=>n1 (by rw [z]; exact hx)),JH]
  ·rw [if_neg (fun z=>h (vM (hL f Jq) hk z))]
   have ih:=zz k v hk ψ L (fun x hx=>hL x (Jr _ hx)) n2 (fun x hx=>hl x (Jr _ hx)) (fun z=>h0 fun y=>by
    rcases List.mem_cons.mp y with y | y
    ·exact h y.symm
    ·exact z y)
   rw [show p8 (List.map (fun f=>(kq f,D.lst (ψ f))) L) (kq k) v=_ from ih]
   have em:k∈f::L↔k∈L:=by
    rw [Kw]; exact⟨fun z=>z.resolve_left fun y=>h y.symm,.inr⟩
   by_cases hm:k∈L
   ·rw [if_pos hm,if_pos (em.mpr hm),JD,if_neg (fun z=>h z.symm),JH]; rfl
   ·rw [if_neg hm,if_neg (fun z=>hm (em.mp z)),J8,JD,if_neg (fun z=>h z.symm),JH]; rfl
theorem wF:∀ (ps al:List (List Key×D)),((al++ps).map (·.1)).Nodup->ps.foldl (fun al p=>eX al p.1 p.2) al=al++ps
 | [],al,_=>by rw [JH]; rfl
 | p::ps,al,h=>by
  rw [KS]
  have e:eX al p.1 p.2=al++[p]:=by
   unfold eX
   rw [if_neg]
   intro z
   obtain⟨a,ha,e⟩:=List.any_eq_true.mp z
   rw [Km,JD] at h
   exact(List.nodup_append.mp h).2.2 a.1 (List.mem_map.mpr ⟨a,ha,rfl⟩) p.1 Jq (of_decide_eq_true e)
  rw [e,wF ps (al++[p]) (by rw [Ku]; exact h),Ku]; rfl
theorem uP:∀ ps:List (List Key×D),iX (ps.map kY)=some ps
 | []=>rfl
 | p::ps=>by
  show (uG (kY p)).bind (fun q=>(iX (ps.map kY)).map (q::·))=_
  rw [uP ps]
  show ((iG (.tup (p.1.map aY))).map _).bind _=_
  rw [lQ]; rfl
end
theorem CQ {σ:List Bool} {a b:List D} (h:Sh σ a) (h':Sh σ b):lA (.tup a) (.tup b)=some (.bl (fK a b)):=by
 have e:lA (.tup a) (.tup b)=if (pl (.tup a) && pl (.tup b)) && (gf 8 (.tup a) || gf 8 (.tup b)) then some (.bl (pyEq (.tup a) (.tup b))) else none:=rfl
 have d:gf 8 (.tup a)=true:=by show a.all (gf 7)=true; exact vP 6 h
 rw [e,cX,cX,ww h,ww h',d]
 show some (D.bl (pyEq (.tup a) (.tup b)))=_
 rw [pyEq]
section
open Classical
theorem BZ {σ:List Bool} {a b:List D} (h:Sh σ a) (h':Sh σ b):lA (.tup a) (.tup b)=some (.bl (decide (a=b))):=by
 rw [CQ h h']
 congr 2
 by_cases e:a=b
 ·rw [decide_eq_true e]; exact(rH h h').mpr e
 ·rw [decide_eq_false e]
  cases z:fK a b with
  | false=>rfl
  | true=>exact absurd ((rH h h').mp z) e
noncomputable def eS (m:Nat) (t:List (List D)) (f:List D):List D:=f++[.tup ((gp m t f).map .tup)]
noncomputable def vw (m:Nat) (t:List (List D)):D:=.tup ((fs m t).map fun f=>.tup (eS m t f))
theorem vV (m:Nat) (t:List (List D)) (f:List D):(gp m t f).length<=t.length:=by
 unfold gp; rw [JE]; exact List.length_filter_le _ _
section
variable {σ:List Bool} {t:List (List D)} {m:Nat}
theorem Tab.fsh (T:Tab σ t) (hm:m<=σ.length):∀ r∈t,Sh (σ.take m) (r.take m):=fun r h=>by
 have:=oa m (T.sh r h)
 rw [Lp,Ld hm] at this
 exact this
theorem uz (s:List (List D)) (h:∀ r∈s,Sh (σ.take m) (r.take m)):∀ f∈fs m s,Sh (σ.take m) f:=fun f hf=>by
 obtain⟨r,hr,rfl⟩:=(jQ m).mp hf
 exact h r hr
theorem wR (T:Tab σ t) (f:List D) (h:f∈fs m t):f.length<=16:=by
 obtain⟨r,hr,rfl⟩:=(jQ m).mp h
 have:=(T.rl r hr).1
 rw [JL]; omega
theorem Hr (T:Tab σ t) (hm:m<=σ.length) (f:List D) (h:f∈fs m t):f.length=m:=by
 obtain⟨r,hr,rfl⟩:=(jQ m).mp h
 have:=(T.rl r hr).2
 rw [JL]; omega
theorem Tab.sub {s:List (List D)} (T:Tab σ t) (h:s.Sublist t):Tab σ s :=
 ⟨fun r hr=>T.sh r (h.subset hr),T.ri.sublist h,Kt h.length_le T.ln,fun r hr=>T.rl r (h.subset hr),fun r hr=>T.al r (h.subset hr)⟩
theorem oX {i:Nat} (h:i < t.length):t.take (i+1)=t.take i++[t[i]]:=LD h
theorem wJ (L:List (List D)) (nd:L.Nodup) (h:∀ f∈L,Sh (σ.take m) f) (v:List D->D):((L.map fun f=>(kq f,v f)).map (·.1)).Nodup:=by
 rw [K7]
 refine List.pairwise_map.mpr (List.Pairwise.imp_of_mem (fun {a b} ha hb ne e=>ne ?_) nd)
 exact vM (h a ha) (h b hb) e
theorem BM (L:List (List D)) (h:∀ f∈L,Sh (σ.take m) f) (v:List D->D):encK (L.map fun f=>(kq f,v f))=L.map .tup:=by
 show (L.map fun f=>(kq f,v f)).map _=_
 rw [K7]
 refine Kl fun f hf=>?_
 show D.tup ((kq f).map aY)=.tup f
 rw [ph (h f hf)]
theorem qu (T:Tab σ t) (m1:1<=m) (hm:m<=σ.length):bj cW 2 6 [.tup (t.map .tup),.int m]=.ok (vw m t):=by
 have fsh:=T.fsh hm
 have tl:=T.ln
 obtain⟨TT,hT⟩:∃ TT:cf,TT=(gI 2 (aQ (ju (cL (fL dP (af (fL jU (af (ah 2) (aw))) (aw)))) (gN 5) (aQ (yH 4 fV (af (f2 cp (ah 5) (fY (af (fL bP (af (mC [none,some 1,some 5] (cL (ah 0)) (gN 0) (fB (f2 lA (bJ (ah 0) (bn) (cI (ah 1))) (ah 2))) (bJ (ah 0) (cI (ah 1)) (bn))) (aw))) (aw)))) (aw))) (eN [5] cS))) (gI 4 (bT (fL bP (af (ah 4) (aw))))))):=⟨_,rfl⟩
 rw [fX]; unfold cW
 rw [<- hT]
 simp! only [se]
 refine dR (Q:=fun z=>z=.ok (vw m t)) (fun i ρ=>∃ x,ρ=[some (.val (.tup (t.map .tup))),some (.val (.int m)),some (.own (cG ((fs m (t.take i)).map fun f=>(kq f,.bl true)))),x,none,none]) ?_ ⟨none,rfl⟩ ?_
 ·rintro i d ρ kk hd ⟨x,rfl⟩
  have hi:=cM hd
  rw [JE] at hi
  rw [JP,Kg hi] at hd
  cases hd
  have rm:t[i]∈t:=K3 hi
  have ct:cutD t[i] none (some (m:Int))=(kq (t[i].take m)).map aY:=by rw [oC,ph (fsh _ rm)]
  refine⟨_,_,rfl,⟨some (.val (.tup t[i])),rfl⟩,?_⟩
  have pi:=Dr (σ:=σ.take m) (fs m (t.take i)) (t[i].take m) (.bl true) (uz _ fun r hr=>fsh r (LK hr)) (fsh _ rm)
  have fe:fs m (t.take (i+1))=if t[i].take m∈fs m (t.take i) then fs m (t.take i) else fs m (t.take i)++[t[i].take m]:=by
   rw [oX hi,jn]; rfl
  have fl:=lF m (t.take i)
  rw [JL] at fl
  have pd:=fun K:Ks=>wx (i:=2) (fk:=bJ (ah 3) (bn) (cI (ah 1))) (fv:=fC (.bl true)) (k:=K) (ρ:=[some (.val (.tup (t.map .tup))),some (.val (.int m)),some (.own (cG ((fs m (t.take i)).map fun f=>(kq f,.bl true)))),some (.val (.tup t[i])),none,none]) (al:=(fs m (t.take i)).map fun f=>(kq f,.bl true)) (q:=kq (t[i].take m)) (v:=.bl true) rfl (by simp! only [ct]) rfl (by rw [JE]; omega)
  rw [pi,<- fe] at pd
  generalize cG ((fs m (t.take (i+1))).map fun f=>(kq f,.bl true))=Y at pd ⊢
  generalize cG ((fs m (t.take i)).map fun f=>(kq f,.bl true))=Z at pd ⊢
  simp! only [pd]
 ·rintro ρ' ⟨x,rfl⟩
  rw [JE,Ko]
  have fl:=lF m t
  have fsL:=uz t fsh
  have en:=BM (m:=m) (σ:=σ) (fs m t) fsL (fun _=>.bl true)
  have knd:=wJ (m:=m) (σ:=σ) (fs m t) (uR m t) fsL (fun _=>.bl true)
  have s0:σ.take m≠[]:=fun z=>by
   have:=congrArg List.length z
   rw [JL,J1] at this; omega
  obtain⟨es,_⟩:=wL (σ:=σ.take m) knd (fun p hp=>by
   obtain⟨f,hf,rfl⟩:=List.mem_map.mp hp
   show Sh _ ((kq f).map aY)
   rw [ph (fsL f hf)]; exact fsL f hf) s0 (by rw [JE]; omega)
  have lt:=uw ((fs m t).map fun f=>(kq f,.bl true))
  rw [en] at es lt
  have so:iz cU ((fs m t).map .tup)=(fs m t).map .tup:=by
   refine ur (σ:=σ.take m) (fun x hx=>?_) ?_ ?_ (List.Perm.refl _)
   ·obtain⟨f,hf,rfl⟩:=List.mem_map.mp hx
    exact fsL f hf
   ·exact List.pairwise_map.mpr ((uR m t).imp fun {a b} ne e=>ne e)
   ·exact List.pairwise_map.mpr (zv m rfl T.sh hm T.ri).1
  rw [so] at es
  rw [hT]
  generalize cG ((fs m t).map fun f=>(kq f,.bl true))=Z at lt ⊢
  simp! only [Dc,lt,es]
  refine dR (Q:=fun z=>z=.ok (vw m t)) (fun i ρ=>ρ=[some (.val (.tup (t.map .tup))),some (.val (.int m)),some (.val Z),x,some (.own (.lst (((fs m t).take i).map fun f=>.tup (eS m t f)))),none]) ?_ rfl ?_
  ·rintro i d ρ kk hd rfl
   have hi:=cM hd
   rw [JE] at hi
   rw [JP,Kg hi] at hd
   cases hd
   obtain⟨f,ef⟩:∃ f,f=(fs m t)[i]:=⟨_,rfl⟩
   have fm:f∈fs m t:=by rw [ef]; exact K3 hi
   have ap:fV (((fs m t).take i).map fun f=>.tup (eS m t f)) [.tup (eS m t f)]=some (((fs m t).take (i+1)).map fun f=>.tup (eS m t f)):=by
    rw [lm (by rw [JE,JL]; omega),LD hi,<- ef,Km]; rfl
   rw [<- ef]
   have lc:mC [none,some 1,some 5] (cL (ah 0)) (gN 0) (fB (f2 lA (bJ (ah 0) (bn) (cI (ah 1))) (ah 2))) (bJ (ah 0) (cI (ah 1)) (bn)) [some (.val (.tup (t.map .tup))),some (.val (.int m)),some (.val Z),x,some (.own (.lst (((fs m t).take i).map fun f=>.tup (eS m t f)))),some (.val (.tup f))]=.ok (.lst ((gp m t f).map .tup)):=by
    refine jm (ds:=t.map .tup) (by generalize (((fs m t).take i).map fun f=>D.tup (eS m t f))=A; simp! only []) (by rw [JE]; omega) ?_
    have:=wB (ρ:=inB [none,some 1,some 5] [some (.val (.tup (t.map .tup))),some (.val (.int m)),some (.val Z),x,some (.own (.lst (((fs m t).take i).map fun f=>.tup (eS m t f)))),some (.val (.tup f))]) (g:=gN 0) (C:=fB (f2 lA (bJ (ah 0) (bn) (cI (ah 1))) (ah 2))) (Fe:=bJ (ah 0) (cI (ah 1)) (bn)) D.tup (fun r=>decide (r.take m=f)) (fun r=>.tup (r.drop m)) t fun r hr=>by
     have eq:=BZ (fsh r hr) (fsL f fm)
     refine⟨[some (.val (.tup r)),some (.val (.int m)),some (.val (.tup f))],rfl,?_,fun _=>?_⟩
     ·simp! only [oC,eq]
     ·simp! only [uM]
    rw [this]
    unfold gp
    rw [K7]; rfl
   have ad:cp (.tup f) (.tup [.tup ((gp m t f).map .tup)])=some (.tup (eS m t f)):=by
    have:=wR T f fm
    exact mi f _ (by rw [JW]; omega)
   have sm:=fun K:Ks=>lH 4 fV (af (f2 cp (ah 5) (fY (af (fL bP (af (mC [none,some 1,some 5] (cL (ah 0)) (gN 0) (fB (f2 lA (bJ (ah 0) (bn) (cI (ah 1))) (ah 2))) (bJ (ah 0) (cI (ah 1)) (bn))) (aw))) (aw)))) (aw)) K [some (.val (.tup (t.map .tup))),some (.val (.int m)),some (.val Z),x,some (.own (.lst (((fs m t).take i).map fun f=>.tup (eS m t f)))),some (.val (.tup f))] (xs:=((fs m t).take i).map fun f=>.tup (eS m t f)) rfl
   refine⟨_,_,rfl,rfl,?_⟩
   generalize (((fs m t).take (i+1)).map fun f=>D.tup (eS m t f))=Y at ap ⊢
   generalize (((fs m t).take i).map fun f=>D.tup (eS m t f))=A at ap sm lc ⊢
   simp! only [sm,lc,IM,ad,ap]
  ·rintro ρ' rfl
   rw [JE,Ko]
   unfold vw
   generalize ((fs m t).map fun f=>D.tup (eS m t f))=A
   simp! only []
theorem tB (T:Tab σ t) (hm:m<=σ.length):bj dY 2 4 [.int m,vw m t]=.ok (.tup (t.map .tup)):=by
 have fl:=lF m t
 have tl:=T.ln
 have fi:=BG m rfl T.sh hm T.ri
 unfold flat at fi
 rw [fX]; unfold dY
 unfold vw
 simp! only [Dc]
 refine dR (Q:=fun z=>z=.ok (.tup (t.map .tup))) (fun i ρ=>ρ=[some (.val (.int m)),some (.val (vw m t)),some (.own (.lst ((((fs m t).take i).flatMap fun f=>(gp m t f).map (f++·)).map .tup))),none]) ?_ rfl ?_
 ·rintro i d ρ kk hd rfl
  have hi:=cM hd
  rw [JE] at hi
  rw [JP,Kg hi] at hd
  cases hd
  obtain⟨f,ef⟩:∃ f,f=(fs m t)[i]:=⟨_,rfl⟩
  have fm:f∈fs m t:=by rw [ef]; exact K3 hi
  rw [<- ef]
  have fml:=Hr T hm f fm
  have f16:=wR T f fm
  have ix:bL (.tup (eS m t f)) (.int m)=some (.tup ((gp m t f).map .tup)):=by
   unfold eS
   rw [E7,sg (Jy _) (by rw [JR,JW]; omega)]
   congr 1
   rw [LI (by show f.length<=m; omega)]
   exact List.getElem_singleton _
  have ct:cutD (eS m t f) none (some (m:Int))=f:=by
   rw [oC,<- fml]; unfold eS; rw [List.take_left]
  have gl:=vV m t f
  have gw:∀ w∈gp m t f,w.length<=16:=fun w hw=>by
   unfold gp at hw
   obtain⟨r,hr,rfl⟩:=List.mem_map.mp hw
   have:=(T.rl r (List.mem_filter.mp hr).1).1
   rw [JT]; omega
  generalize hA:((((fs m t).take i).flatMap fun f=>(gp m t f).map (f++·)).map D.tup)=A
  have al:A.length<=t.length:=by
   rw [<- hA,JE]
   conv=>rhs; rw [<- fi,<- LA i (fs m t),Lx,JR]
   omega
  have lc:mC [none,some 3,some 0] (cL (f2 bL (ah 3) (ah 0))) (gN 0) (ga) (f2 cp (bJ (ah 1) (bn) (cI (ah 2))) (ah 0)) [some (.val (.int m)),some (.val (vw m t)),some (.own (.lst A)),some (.val (.tup (eS m t f)))]=.ok (.lst (((gp m t f).map (f++·)).map .tup)):=by
   refine jm (ds:=(gp m t f).map .tup) (by simp! only [ix]) (by rw [JE]; omega) ?_
   have:=rP (ρ:=inB [none,some 3,some 0] [some (.val (.int m)),some (.val (vw m t)),some (.own (.lst A)),some (.val (.tup (eS m t f)))]) (g:=gN 0) (C:=ga) (Fe:=f2 cp (bJ (ah 1) (bn) (cI (ah 2))) (ah 0)) D.tup (fun w=>.tup (f++w)) (gp m t f) fun w hw=>by
    have ad:=mi f w (by have:=gw w hw; omega)
    refine⟨[some (.val (.tup w)),some (.val (.tup (eS m t f))),some (.val (.int m))],rfl,rfl,?_⟩
    simp! only [ct,ad]
   rw [this,K7]; rfl
  refine⟨_,_,rfl,rfl,?_⟩
  have e1:(((fs m t).take (i+1)).flatMap fun f=>(gp m t f).map (f++·)).map D.tup=A++((gp m t f).map (f++·)).map .tup:=by
   rw [LD hi,<- ef,Lx,Km,hA,Ly]
  rw [e1]
  have ex:∀ K:Ks,Ax 2 (mC [none,some 3,some 0] (cL (f2 bL (ah 3) (ah 0))) (gN 0) (ga) (f2 cp (bJ (ah 1) (bn) (cI (ah 2))) (ah 0))) K [some (.val (.int m)),some (.val (vw m t)),some (.own (.lst A)),some (.val (.tup (eS m t f)))]=K.nx [some (.val (.int m)),some (.val (vw m t)),some (.own (.lst (A++((gp m t f).map (f++·)).map .tup))),some (.val (.tup (eS m t f)))]:=fun K=>by
   show pV _ K _ _=_
   rw [lc,nT]
   show (if small _ then _ else _)=_
   rw [if_pos (dj (by rw [JE,JE]; omega))]; rfl
  generalize A++((gp m t f).map (f++·)).map .tup=Y at ex ⊢
  simp! only [ex]
 ·rintro ρ' rfl
  rw [JE,Ko,fi]
  simp! only []
theorem sq (m:Nat):bj dY 2 4 [.int m,.tup []]=.ok (.tup []):=by
 rw [fX]; unfold dY
 simp! only [Dc]
 rfl
theorem vc (T:Tab σ t) (hm:m<=σ.length):bj gG 2 4 [.int m,.tup (t.map .tup)]=.ok (lB ((fs m t).map fun f=>(kq f,.tup ((gp m t f).map .tup)))):=by
 have fsh:=T.fsh hm
 have fl:=lF m t
 have tl:=T.ln
 have fsL:=uz t fsh
 obtain⟨TT,hT⟩:∃ TT:cf,TT=(rd 2 (bT (fL oH (af (mC [none,none] (jk (ah 2)) (gT 2 (mF [0,1])) (ga) (fY (af (ah 0) (af (fL bP (af (ah 1) (aw))) (aw))))) (aw))))):=⟨_,rfl⟩
 rw [fX]; unfold gG
 rw [<- hT]
 have nn:∀ K:Ks,sW 2 K [some (.val (.int m)),some (.val (.tup (t.map .tup))),none,none]=K.nx [some (.val (.int m)),some (.val (.tup (t.map .tup))),some (.nest (cG [])),none]:=fun K=>rfl
 simp! only [nn]
 refine dR (Q:=fun z=>z=.ok (lB ((fs m t).map fun f=>(kq f,.tup ((gp m t f).map .tup))))) (fun i ρ=>ρ=[some (.val (.int m)),some (.val (.tup (t.map .tup))),some (.nest (cG ((fs m (t.take i)).map fun f=>(kq f,.lst ((gp m (t.take i) f).map .tup))))),none]) ?_ rfl ?_
 ·rintro i d ρ kk hd rfl
  have hi:=cM hd
  rw [JE] at hi
  rw [JP,Kg hi] at hd
  cases hd
  have rm:t[i]∈t:=K3 hi
  have fi:=lF m (t.take i)
  rw [JL] at fi
  have gi:=zz (σ:=σ.take m) (t[i].take m) (.tup (t[i].drop m)) (fsh _ rm) (fun f=>(gp m (t.take i) f).map .tup) (fs m (t.take i)) (uz _ fun r hr=>fsh r (LK hr)) (uR m _) (fun f _=>by
   have:=vV m (t.take i) f
   rw [JL] at this
   rw [JE]; omega) (fun z=>by
    unfold gp
    rw [List.filter_eq_nil_iff.mpr]
    ·rfl
    ·intro x hx y
     exact z ((jQ m).mpr ⟨x,hx,by simpa using y⟩))
  have ge:∀ f,((gp m (t.take i) f).map D.tup++if t[i].take m=f then [.tup (t[i].drop m)] else [])=(gp m (t.take (i+1)) f).map .tup:=fun f=>by
   rw [oX hi,ow,Km]
   by_cases h:t[i].take m=f
   ·rw [if_pos h,if_pos h]; rfl
   ·rw [if_neg h,if_neg h]; rfl
  have fe:fs m (t.take (i+1))=if t[i].take m∈fs m (t.take i) then fs m (t.take i) else fs m (t.take i)++[t[i].take m]:=by
   rw [oX hi,jn]; rfl
  rw [<- fe] at gi
  simp only [ge] at gi
  refine⟨_,_,rfl,rfl,?_⟩
  have gr:∀ K:Ks,yy 2 (bJ (ah 3) (bn) (cI (ah 0))) (bJ (ah 3) (cI (ah 0)) (bn)) K [some (.val (.int m)),some (.val (.tup (t.map .tup))),some (.nest (cG ((fs m (t.take i)).map fun f=>(kq f,.lst ((gp m (t.take i) f).map .tup))))),some (.val (.tup t[i]))]=K.nx [some (.val (.int m)),some (.val (.tup (t.map .tup))),some (.nest (cG ((fs m (t.take (i+1))).map fun f=>(kq f,.lst ((gp m (t.take (i+1)) f).map .tup))))),some (.val (.tup t[i]))]:=fun K=>by
   generalize hal:((fs m (t.take i)).map fun f=>(kq f,D.lst ((gp m (t.take i) f).map .tup)))=al at gi
   have all:al.length<=t.length:=by rw [<- hal,JE]; omega
   have g2:uX (encK al) (al.map (·.2)) (.tup (t[i].take m)) (.tup (t[i].drop m))=some ((fs m (t.take (i+1))).map fun f=>(kq f,.lst ((gp m (t.take (i+1)) f).map .tup))):=by
    unfold uX
    rw [ik]
    show (iG (.tup (t[i].take m))).bind _=_
    have:t[i].take m=(kq (t[i].take m)).map aY:=(ph (fsh _ rm)).symm
    rw [this,lQ]
    show (if small al.length then _ else _)=_
    rw [if_pos (dj ‹0›)]
    exact gi
   have k1:bJ (ah 3) (bn) (cI (ah 0)) [some (.val (.int m)),some (.val (.tup (t.map .tup))),some (.nest (cG al)),some (.val (.tup t[i]))]=.ok (.tup (t[i].take m)):=by
    generalize cG al=Z
    simp! only [oC]
   have k2:bJ (ah 3) (cI (ah 0)) (bn) [some (.val (.int m)),some (.val (.tup (t.map .tup))),some (.nest (cG al)),some (.val (.tup t[i]))]=.ok (.tup (t[i].drop m)):=by
    generalize cG al=Z
    simp! only [uM]
   show (((yF _).bind fun q=>(yF _).bind fun v=>rO (uX (encK al) (al.map (·.2)) q v)).bind _)=_
   rw [k1,k2,gb,cB,gb,cB,g2,dQ,cB]; rfl
  generalize cG ((fs m (t.take (i+1))).map fun f=>(kq f,.lst ((gp m (t.take (i+1)) f).map .tup)))=Y at gr ⊢
  generalize cG ((fs m (t.take i)).map fun f=>(kq f,.lst ((gp m (t.take i) f).map .tup)))=Z at gr ⊢
  simp! only [gr]
 ·rintro ρ' rfl
  rw [JE,Ko,hT]
  generalize hal:((fs m t).map fun f=>(kq f,D.lst ((gp m t f).map .tup)))=al
  have all:al.length<=t.length:=by rw [<- hal,JE]; omega
  have fz:∀ (F:cf) (K:Ks),rd 2 F K [some (.val (.int m)),some (.val (.tup (t.map .tup))),some (.nest (cG al)),none]=F K [some (.val (.int m)),some (.val (.tup (t.map .tup))),some (.val (lB al)),none]:=fun F K=>by
   show F K (match js (encK al) (al.map (·.2)) with | some al=>setV 2 (lB al) _ | none=>_)=_
   rw [ik]; rfl
  have knd:=wJ (m:=m) (σ:=σ) (fs m t) (uR m t) fsL (fun f=>.tup ((gp m t f).map .tup))
  have pr:=uP ((fs m t).map fun f=>(kq f,D.tup ((gp m t f).map .tup)))
  have df:oH [.lst (((fs m t).map fun f=>(kq f,D.tup ((gp m t f).map .tup))).map kY)]=some (lB ((fs m t).map fun f=>(kq f,.tup ((gp m t f).map .tup)))):=by
   show (iX _).bind _=_
   rw [pr]
   show (if small _ then _ else _)=_
   rw [if_pos (dj (by rw [JE]; omega))]
   have:=wF ((fs m t).map fun f=>(kq f,D.tup ((gp m t f).map .tup))) [] knd
   unfold yW
   rw [this]; rfl
  have it:=tR al
  have lc:mC [none,none] (jk (ah 2)) (gT 2 (mF [0,1])) (ga) (fY (af (ah 0) (af (fL bP (af (ah 1) (aw))) (aw)))) [some (.val (.int m)),some (.val (.tup (t.map .tup))),some (.val (lB al)),none]=.ok (.lst (((fs m t).map fun f=>(kq f,D.tup ((gp m t f).map .tup))).map kY)):=by
   refine jm (ds:=al.map kY) ?_ (by rw [JE]; omega) ?_
   ·show ((ah 2 _).bind _)=_
    generalize lB al=Z at it
    simp! only [it]
   ·rw [<- hal,K7,K7]
    refine rP _ _ (fs m t) fun f hf=>?_
    refine⟨[some (.val (.tup ((kq f).map aY))),some (.val (.lst ((gp m t f).map .tup)))],rfl,rfl,?_⟩
    simp! only [EW]
    rfl
  generalize lB al=Z at lc fz
  generalize cG al=Z0 at fz ⊢
  generalize lB ((fs m t).map fun f=>(kq f,D.tup ((gp m t f).map .tup)))=Y at df ⊢
  simp! only [fz,lc,df]
theorem zN (T:Tab σ t) (hm:m<=σ.length) (o f:D) (ho:sN "many" ["Nest"] o=some (.int m)):bj du 3 3 [o,f,.tup (t.map .tup)]=.ok (vw m t):=by
 have gi:=vc T hm
 have fl:=lF m t
 have tl:=T.ln
 have fsL:=uz t (T.fsh hm)
 rw [rM]; unfold du
 have it:=tR ((fs m t).map fun f=>(kq f,D.tup ((gp m t f).map .tup)))
 have lc:mC [none,none] (jk (fR (bj gG 2 4) (af (f1 (sN "many" ["Nest"]) (ah 0)) (af (ah 2) (aw))))) (gT 2 (mF [0,1])) (ga) (f2 cp (ah 0) (fY (af (ah 1) (aw)))) [some (.val o),some (.val f),some (.val (.tup (t.map .tup)))]=.ok (.lst ((fs m t).map fun f=>.tup (eS m t f))):=by
  refine jm (ds:=((fs m t).map fun f=>(kq f,D.tup ((gp m t f).map .tup))).map kY) ?_ (by rw [JE,JE]; omega) ?_
  ·show (Except.bind _ _)=_
   generalize lB ((fs m t).map fun f=>(kq f,D.tup ((gp m t f).map .tup)))=Z at gi it
   simp! only [ho,gi,it]
  ·rw [K7]
   refine rP _ _ (fs m t) fun f hf=>?_
   have ad:cp (.tup ((kq f).map aY)) (.tup [.tup ((gp m t f).map .tup)])=some (.tup (eS m t f)):=by
    have:=wR T f hf
    rw [ph (fsL f hf)]
    exact mi f _ (by rw [JW]; omega)
   refine⟨[some (.val (.tup ((kq f).map aY))),some (.val (.tup ((gp m t f).map .tup)))],rfl,rfl,?_⟩
   simp! only [IM,ad]
 unfold vw
 simp! only [lc]
theorem wG (T:Tab σ t) (hm:m<=σ.length) (o f b:D) (ho:sN "many" ["Nest"] o=some (.int m)):bj bA 4 4 [o,f,b,vw m t]=.ok (.tup (t.map .tup)):=by
 have ui:=tB T hm
 rw [vp]; unfold bA
 simp! only [ho,ui]
theorem Bu (m:Nat) (o f b:D) (ho:sN "many" ["Nest"] o=some (.int m)):bj bA 4 4 [o,f,b,.tup []]=.ok (.tup []):=by
 have ui:=sq m
 rw [vp]; unfold bA
 simp! only [ho,ui]
theorem Tab.ALt (T:Tab σ t):AL 6 (.tup (t.map .tup)):=by
 have:=T.ln
 refine AL.tup (by rw [JE]; omega) fun v hv=>?_
 obtain⟨r,hr,rfl⟩:=List.mem_map.mp hv
 have:=(T.rl r hr).1
 exact AL.tup ‹0› (T.al r hr)
theorem Tab.ALv (T:Tab σ t) (m:Nat):AL 8 (vw m t):=by
 have:=T.ln
 have fl:=lF m t
 refine AL.tup (by rw [JE]; omega) fun v hv=>?_
 obtain⟨f,hf,rfl⟩:=List.mem_map.mp hv
 have f16:=wR T f hf
 refine AL.tup (by unfold eS; rw [JR,JW]; omega) fun w hw=>?_
 unfold eS at hw
 rcases List.mem_append.mp hw with z | z
 ·obtain⟨r,hr,rfl⟩:=(jQ m).mp hf
  exact AL.le (by decide) (T.al r hr w (LK z))
 ·rw [List.mem_singleton.mp z]
  have gl:=vV m t f
  refine AL.tup (by rw [JE]; omega) fun u hu=>?_
  obtain⟨g,hg,rfl⟩:=List.mem_map.mp hu
  unfold gp at hg
  obtain⟨r,hr,rfl⟩:=List.mem_map.mp hg
  have hr:=(List.mem_filter.mp hr).1
  have:=(T.rl r hr).1
  exact AL.tup (by rw [JT]; omega) fun x hx=>T.al r hr x (List.mem_of_mem_drop hx)
theorem qA {ρ:aq} {C:aq->R Bool} (t:List (List D)) (o:Nat) (hC:∀ (i:Nat) (r:List D),∃ ρ1 b,gT 2 (mF [0,1]) (.tup [.int i,.tup r]) ρ=some ρ1/\C ρ1=.ok b/\ah 1 ρ1=.ok (.tup r)):∃ s:List (List D),s.Sublist t/\vq ρ (gT 2 (mF [0,1])) C (ah 1) (gX o (t.map .tup))=.ok (s.map .tup):=by
 induction t generalizing o with
 | nil=>exact⟨[],List.Sublist.refl _,rfl⟩
 | cons r t ih =>
  obtain⟨s,h1,h2⟩:=ih (o+1)
  obtain⟨ρ1,b,e1,e2,e3⟩:=hC o r
  show ∃ s,_/\vq ρ _ C (ah 1) (D.tup [.int o,.tup r]::gX (o+1) (t.map .tup))=_
  rw [jS,e1,dQ,cB,e2,gb,cB,h2]
  cases b with
  | false=>exact⟨s,h1.cons _,rfl⟩
  | true =>
   refine⟨r::s,h1.cons₂ _,?_⟩
   rw [if_pos rfl,e3,gb,cB,cB]; rfl
end
end
abbrev nst (m:Nat) (nm:Str):D:=.obj "Nest" ["many","name"] [.int m,.str nm]
theorem zL (m:Nat) (nm:Str):sN "many" ["Nest"] (nst m nm)=some (.int m):=by rfl
theorem Cp {m:Nat} {nm:Str} (w:Str) (g1 g2:List D->R D) (fo:FX) (fas:aq->R (List D)) (ρ:aq) (h:fo ρ=.ok (nst m nm)) (hm:(["many","name"]:List Str).contains w=false):iy w [("Step",g1),("Nest",g2)] fo fas ρ=(fas ρ).bind fun as=>g2 (nst m nm::as):=by
 unfold iy
 rw [h,cB]
 have h1:(("Nest":Str)==("Step":Str))=false:=by decide +kernel
 have:List.lookup ("Nest":Str) [(("Step":Str),g1),(("Nest":Str),g2)]=some g2:=by
  rw [J4,h1,J4,BEq.rfl]
 simp only [this,hm]
 rfl
theorem HF:(["many","name"]:List Str).contains "put"=false:=by decide +kernel
theorem Io:(["many","name"]:List Str).contains "got"=false:=by decide +kernel
theorem BX (c:Str) (a b:Str) (fas:aq->R (List D)) (ρ:aq):fNew c [a,b] fas ρ=(fas ρ).bind fun as=>if as.length=2 then .ok (.obj c [a,b] as) else un:=nr rfl
theorem Dm:uY (.tup []) (.tup [])=some (.bl false):=nr rfl
theorem math (ns:List Int) (hl:ns.length<=63):bj pA 1 11 [.lst (ns.map .int)]=.ok (.bl true):=by
 obtain⟨ks,qs,n,hn,k2,k8,q8,hk,hq,ed⟩:=As ns
 obtain⟨x,x0,x1,ex⟩:=si ns 2 (by decide)
 have ex:bj bR 2 3 [.lst (ns.map .int),.int 2]=.ok (.int x):=ex
 obtain⟨y,y0,y1,ey⟩:=gv x x0 ‹0›
 obtain⟨c1,e1⟩:=TD.FZ ns 1 (by decide)
 have gk:=fun i=>bz (i:=i) (show (0:Int) < (ks.length:Int) - 1 by omega)
 have m0:=Lj y (show (ks.length:Int) - 1≠0 by omega)
 have m1:=Ln y (show (0:Int) < (ks.length:Int) - 1 by omega)
 obtain⟨m,hm,em⟩:∃ m:Nat,(1<=m/\m < ks.length)/\(1:Int)+y%((ks.length:Int) - 1)=m:=⟨(1+y%((ks.length:Int) - 1)).toNat,by omega,by omega⟩
 obtain⟨t,T,et⟩:=Af ks qs n hn ‹0› k8 q8 hk hq m ns hl
 have sl:(ks.map (·.2.b)).length=ks.length:=by rw [JE]
 generalize ks.map (·.2.b)=σ at T sl
 have tl:=T.ln
 have g3:=fun i=>bz (i:=i) (show (0:Int) < 3 by decide)
 have g4:=fun i=>bz (i:=i) (show (0:Int) < 4 by decide)
 have g6:=fun i=>bz (i:=i) (show (0:Int) < 6 by decide)
 have gM:=fun i=>bz (i:=i) (show (0:Int) < 2147483647 by decide)
 have mm:=fun i=>lX (i:=i) (j:=48271) (by decide) (by decide)
 have d8:=fun i=>bU (i:=i) (show (0:Int) < 8 by decide) (show (8:Int) < 10 ^ 200 by decide)
 have d32:=fun i=>bU (i:=i) (show (0:Int) < 32 by decide) (show (32:Int) < 10 ^ 200 by decide)
 have d128:=fun i=>bU (i:=i) (show (0:Int) < 128 by decide) (show (128:Int) < 10 ^ 200 by decide)
 obtain⟨s1,b1,c1'⟩:=qA (ρ:=[none,none,some (.val (.int y))]) (C:=fB (f2 uY (f2 bK (ah 0) (fC (.int 3))) (f2 bK (f2 cN (ah 2) (fC (.int 8))) (fC (.int 3))))) t 0 fun i r=>⟨[some (.val (.int i)),some (.val (.tup r)),some (.val (.int y))],_,rfl,by simp! only [g3,d8]; rfl,rfl⟩
 obtain⟨s2,b2,c2'⟩:=qA (ρ:=[none,none,some (.val (.int y))]) (C:=fB (f2 uY (f2 bK (ah 0) (fC (.int 3))) (f2 bK (f2 cN (ah 2) (fC (.int 32))) (fC (.int 4))))) t 0 fun i r=>⟨[some (.val (.int i)),some (.val (.tup r)),some (.val (.int y))],_,rfl,by simp! only [g3,g4,d32]; rfl,rfl⟩
 have T1:=T.sub b1
 have T2:=T.sub b2
 obtain⟨nm,en⟩:=xg (c1*48271%2147483647) (17+y / 128%6) (Lj _ (by decide)) ‹0›
 have lc1:∀ a5 a6 a7 a8 a9 a10:Option S,mC [none,none,some 2] (dS (af (ah 4) (aw))) (gT 2 (mF [0,1])) (fB (f2 uY (f2 bK (ah 0) (fC (.int 3))) (f2 bK (f2 cN (ah 2) (fC (.int 8))) (fC (.int 3))))) (ah 1) [some (.val (.lst (ns.map .int))),some (.val (fr ks qs)),some (.val (.int y)),some (.val (.int m)),some (.val (.tup (t.map .tup))),a5,a6,a7,a8,a9,a10]=.ok (.lst (s1.map .tup)):=fun _ _ _ _ _ _ =>
  jm (ds:=gX 0 (t.map .tup)) (by simp! only [rC]) (by rw [gA,JE]; omega) c1'
 have lc2:∀ a5 a6 a7 a8 a9 a10:Option S,mC [none,none,some 2] (dS (af (ah 4) (aw))) (gT 2 (mF [0,1])) (fB (f2 uY (f2 bK (ah 0) (fC (.int 3))) (f2 bK (f2 cN (ah 2) (fC (.int 32))) (fC (.int 4))))) (ah 1) [some (.val (.lst (ns.map .int))),some (.val (fr ks qs)),some (.val (.int y)),some (.val (.int m)),some (.val (.tup (t.map .tup))),a5,a6,a7,a8,a9,a10]=.ok (.lst (s2.map .tup)):=fun _ _ _ _ _ _ =>
  jm (ds:=gX 0 (t.map .tup)) (by simp! only [rC]) (by rw [gA,JE]; omega) c2'
 have mp:=fun (fo:FX) (fas:aq->R (List D)) (ρ:aq) (h:fo ρ=.ok (nst m nm))=>Cp (m:=m) (nm:=nm) "put" (bj cH 4 4) (bj bA 4 4) fo fas ρ h HF
 have mg:=fun (fo:FX) (fas:aq->R (List D)) (ρ:aq) (h:fo ρ=.ok (nst m nm))=>Cp (m:=m) (nm:=nm) "got" (bj eO 3 3) (bj du 3 3) fo fas ρ h Io
 have n1:=qu T1 hm.1 (show m<=σ.length by omega)
 have n2:=qu T2 hm.1 (show m<=σ.length by omega)
 have p1:=fun f b=>wG T1 (show m<=σ.length by omega) (nst m nm) f b (zL m nm)
 have p2:=fun f b=>wG T2 (show m<=σ.length by omega) (nst m nm) f b (zL m nm)
 have p0:=fun f b=>Bu m (nst m nm) f b (zL m nm)
 have q1:=fun f=>zN T1 (show m<=σ.length by omega) (nst m nm) f (zL m nm)
 have q2:=fun f=>zN T2 (show m<=σ.length by omega) (nst m nm) f (zL m nm)
 have a1:=lE 6 12 _ (by decide) T1.ALt
 have a2:=lE 6 12 _ (by decide) T2.ALt
 have a3:=lE 8 12 _ (by decide) (T1.ALv m)
 generalize vw m s1=V1 at n1 p1 q1 a3
 generalize vw m s2=V2 at n2 p2 q2
 generalize s1.map D.tup=S1 at n1 p1 q1 a1 lc1
 generalize s2.map D.tup=S2 at n2 p2 q2 a2 lc2
 have mp:=fun (fas:aq->R (List D)) (ρ:aq) (h:ah 7 ρ=.ok (nst m nm))=>mp (ah 7) fas ρ h
 have mg:=fun (fas:aq->R (List D)) (ρ:aq) (h:ah 7 ρ=.ok (nst m nm))=>mg (ah 7) fas ρ h
 rw [vH]; unfold pA
 simp! only [ed,ex,ey,JE,gk,em,et,lc1,lc2,BX,e1,mm,gM,d128,g6,en,n1,mp,mg,p1,p2,p0,q1,q2,a1,a2,a3,Ji,Dm,n2]
end Tk41
open PySem PySem.W PyProof.Rows
theorem PySem.W.Fast.tw1170202879064252937 : True := trivial
theorem PySem.W.Fast.tw2786278161913198824 : True := trivial
theorem PySem.W.Fast.tw8161290787425927914 : True := trivial
theorem PySem.W.Fast.tw7187010898510462855 : True := trivial
theorem PySem.W.Fast.tw13730464930586750512 : True := trivial
theorem PySem.W.Fast.tw4634962156239325337 : True := trivial
theorem PySem.W.Fast.tw10539298282220201702 : True := trivial
theorem PySem.W.Fast.tw10106983005101815708 : True := trivial
theorem PySem.W.Fast.tw9753724374743644111 : True := trivial
theorem PySem.W.Fast.tw418804789335470257 : True := trivial
theorem PySem.W.Fast.tw3138918787378726108 : True := trivial
theorem PySem.W.Fast.tw8459578220019813557 : True := trivial
theorem PySem.W.Fast.tw15601646473296199568 : True := trivial
theorem PySem.W.Fast.tw3460414404701658472 : True := trivial
theorem PySem.W.Fast.tw5081015495147764361 : True := trivial
theorem PySem.W.Fast.tw6522153238012261436 : True := trivial
theorem PySem.W.Fast.tw3534429115517901549 : True := trivial
theorem PySem.W.Fast.tw2993668949104836766 : True := trivial
theorem PySem.W.Fast.tw2926869905084825064 : True := trivial
theorem PySem.W.Fast.tw3982222579080766559 : True := trivial
theorem PySem.W.Fast.tw1219864519265255453 : True := trivial
theorem PySem.W.Fast.tw3429022633363684845 : True := trivial
theorem PySem.W.Fast.tw4410722194936560707 : True := trivial
theorem PySem.W.Fast.tw466671500901345697 : True := trivial
theorem PySem.W.Fast.tw4435492659564188274 : True := trivial
theorem PySem.W.Fast.tw1504279040314504631 : True := trivial
theorem PySem.W.Fast.tw8901772958262634573 : True := trivial
theorem PySem.W.Fast.tw14488559664408652046 : True := trivial
theorem PySem.W.Fast.tw861179236985698762 : True := trivial
theorem PySem.W.Fast.tw10224081401764331190 : True := trivial
theorem PySem.W.Fast.tw9559565299391629965 : True := trivial
theorem PySem.W.Fast.tw14682334564731709702 : True := trivial
theorem PySem.W.Fast.tw629073466001289271 : True := trivial
theorem PySem.W.Fast.tw15615237325783041824 : True := trivial
theorem PySem.W.Fast.tw2815827060440302157 : True := trivial
theorem PySem.W.Fast.tw3493058535285546914 : True := trivial
theorem PySem.W.Fast.tw11991876834037864172 : True := trivial
theorem PySem.W.Fast.tw2892604864599466587 : True := trivial
theorem PySem.W.Fast.tw6948561787362744859 : True := trivial
theorem PySem.W.Fast.tw10481005973383158467 : True := trivial
theorem PySem.W.Fast.tw17924611830041181179 : True := trivial
theorem PySem.W.Fast.tw12650167023420522098 : True := trivial
theorem PySem.W.Fast.tw15424500573804248024 : True := trivial
theorem PySem.W.Fast.tw8035208799157653629 : True := trivial
theorem PySem.W.Fast.tw10356834047668819357 : True := trivial
theorem PySem.W.Fast.tw17586854500796306731 : True := trivial
theorem PySem.W.Fast.tw14199534443110482848 : True := trivial
theorem PySem.W.Fast.tw6965613483554220465 : True := trivial
theorem PySem.W.Fast.tw14109359714848613414 : True := trivial
theorem PySem.W.Fast.tw4352725357932168587 : True := trivial
theorem PySem.W.Fast.tw6904471628435150270 : True := trivial
theorem PySem.W.Fast.tw3430371961979661075 : True := trivial
theorem PySem.W.Fast.tw2761850859099228863 : True := trivial
theorem PySem.W.Fast.tw13582944238554942132 : True := trivial
theorem PySem.W.Fast.tw16143255506913543048 : True := trivial
theorem PySem.W.Fast.tw13404920728308118012 : True := trivial
theorem PySem.W.Fast.tw9965225011654517640 : True := trivial
theorem PySem.W.Fast.tw3415895807601761765 : True := trivial
set_option maxRecDepth 100000 in
set_option maxHeartbeats 0 in
theorem PySem.Challenge.cw_twoglass_k41_nests_put_holds : PySem.Challenge.rw_twoglass_k41_nests_put.Holds := by
  w_on; o_law; k_head; (case hw => w_witness2)
  k_fill
  refine Tk41.walk (l := PySem.Challenge.rw_twoglass_k41_nests_put) rfl rfl (fun w h Y => PySem.W.kIn_of Y) ?F Tk41.math
  case F =>
    intro w mg fa h KX G hmg
    refine' Tk41.all_mk KX G hmg ?ac0 ?ac1 ?a0 ?l0 ?c0 ?k0 ?a1 ?i1 ?l1 ?c1 ?k1 ?a2 ?l2 ?c2 ?k2 ?a3 ?i3 ?l3 ?c3 ?k3 ?a4 ?l4 ?c4 ?k4 ?a5 ?i5 ?l5 ?c5 ?k5 ?a6 ?l6 ?c6 ?k6 ?a7 ?i7 ?l7 ?c7 ?k7 ?a8 ?l8 ?c8 ?k8 ?a9 ?l9 ?c9 ?k9 ?a10 ?l10 ?c10 ?k10 ?a11 ?l11 ?c11 ?k11 ?a12 ?l12 ?c12 ?k12 ?a13 ?l13 ?c13 ?k13 ?a14 ?l14 ?c14 ?k14 ?a15 ?l15 ?c15 ?k15 ?a16 ?l16 ?c16 ?k16 ?a17 ?l17 ?c17 ?k17 ?a18 ?l18 ?c18 ?k18 ?a19 ?l19 ?c19 ?k19 ?a20 ?l20 ?c20 ?k20 ?a21 ?l21 ?c21 ?k21 ?a22 ?i22 ?l22 ?c22 ?k22 ?p0 ?q0 ?r0 ?s0 ?n0_0 ?n0_1 ?m0 ?kp0 ?p1 ?q1 ?r1 ?s1 ?z0 ?z1 ?z2 ?z3 ?z4 ?z5 ?z6 ?z7 ?z8 ?z9 ?z10 ?z11 ?z12 ?z13
    (case ac0 => k_is)
    (case ac1 => k_is)
    (case a0 => k_is)
    (case l0 => delta TX.Lk; k_is)
    (case c0 => k_is)
    (case k0 => k_is)
    (case a1 => k_is)
    (case i1 => k_is)
    (case l1 => delta TX.Lk; k_is)
    (case c1 => k_is)
    (case k1 => k_is)
    (case a2 => k_is)
    (case l2 => delta TX.Lk; k_is)
    (case c2 => k_is)
    (case k2 => k_is)
    (case a3 => k_is)
    (case i3 => k_is)
    (case l3 => delta TX.Lk; k_is)
    (case c3 => k_is)
    (case k3 => k_is)
    (case a4 => k_is)
    (case l4 => delta TX.Lk; k_is)
    (case c4 => k_is)
    (case k4 => k_is)
    (case a5 => k_is)
    (case i5 => k_is)
    (case l5 => delta TX.Lk; k_is)
    (case c5 => k_is)
    (case k5 => k_is)
    (case a6 => k_is)
    (case l6 => delta TX.Lk; k_is)
    (case c6 => k_is)
    (case k6 => k_is)
    (case a7 => k_is)
    (case i7 => k_is)
    (case l7 => delta TX.Lk; k_is)
    (case c7 => k_is)
    (case k7 => k_is)
    (case a8 => k_is)
    (case l8 => delta TX.Lk; k_is)
    (case c8 => k_is)
    (case k8 => k_is)
    (case a9 => k_is)
    (case l9 => delta TX.Lk; k_is)
    (case c9 => k_is)
    (case k9 => k_is)
    (case a10 => k_is)
    (case l10 => delta TX.Lk; k_is)
    (case c10 => k_is)
    (case k10 => k_is)
    (case a11 => k_is)
    (case l11 => delta TX.Lk; k_is)
    (case c11 => k_is)
    (case k11 => k_is)
    (case a12 => k_is)
    (case l12 => delta TX.Lk; k_is)
    (case c12 => k_is)
    (case k12 => k_is)
    (case a13 => k_is)
    (case l13 => delta TX.Lk; k_is)
    (case c13 => k_is)
    (case k13 => k_is)
    (case a14 => k_is)
    (case l14 => delta TX.Lk; k_is)
    (case c14 => k_is)
    (case k14 => k_is)
    (case a15 => k_is)
    (case l15 => delta TX.Lk; k_is)
    (case c15 => k_is)
    (case k15 => k_is)
    (case a16 => k_is)
    (case l16 => delta TX.Lk; k_is)
    (case c16 => k_is)
    (case k16 => k_is)
    (case a17 => k_is)
    (case l17 => delta TX.Lk; k_is)
    (case c17 => k_is)
    (case k17 => k_is)
    (case a18 => k_is)
    (case l18 => delta TX.Lk; k_is)
    (case c18 => k_is)
    (case k18 => k_is)
    (case a19 => k_is)
    (case l19 => delta TX.Lk; k_is)
    (case c19 => k_is)
    (case k19 => k_is)
    (case a20 => k_is)
    (case l20 => delta TX.Lk; k_is)
    (case c20 => k_is)
    (case k20 => k_is)
    (case a21 => k_is)
    (case l21 => delta TX.Lk; k_is)
    (case c21 => k_is)
    (case k21 => k_is)
    (case a22 => k_is)
    (case i22 => k_is)
    (case l22 => delta TX.Lk; k_is)
    (case c22 => k_is)
    (case k22 => k_is)
    (case p0 => k_is)
    (case q0 => k_is)
    (case r0 => k_is)
    (case s0 => k_is)
    (case n0_0 => k_is)
    (case n0_1 => k_is)
    (case m0 => k_is)
    (case kp0 => k_is)
    (case p1 => k_is)
    (case q1 => k_is)
    (case r1 => k_is)
    (case s1 => k_is)
    (case z0 => k_is)
    (case z1 => k_is)
    (case z2 => k_is)
    (case z3 => k_is)
    (case z4 => k_is)
    (case z5 => k_is)
    (case z6 => k_is)
    (case z7 => k_is)
    (case z8 => k_is)
    (case z9 => k_is)
    (case z10 => k_is)
    (case z11 => k_is)
    (case z12 => k_is)
    (case z13 => k_is)
