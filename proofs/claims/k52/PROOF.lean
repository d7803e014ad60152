import PyProof.Rows.All
import Wide.All
import OpenK.AllK
import Wide.FinOn
import Lean
import PyProof.EqAt
import PyProof.EqKinds
import PyProof.TupleCall
import PyProof.NeKinds
import PyProof.ZipIter
import PyProof.Draws
import PyProof.FactsAll.zip
import KE.KSortTup
import KE.KDictSum
import PyProof.TupleOfSeq
import PyProof.StrWalks
import PyProof.Rows.SetFrom
import KE.KRevIter
import PyProof.Rows.Range3
import KE.KTryMore
import KE.KIsNot
import PyProof.ExcArgsOwn
import PyProof.ExcAttrAll.ValueError
import PyProof.ExcBaseAll.ValueError
import PyProof.NsDelKeeps
import PyProof.Rows.CallKwBuiltin
import PyProof.WalkInts
import PyProof.Rows.Catch
import KE.KLam
import KE.KNestM
import PyProof.FactsAll.list_3
import KE.KDictList
import PyProof.Rows.CountFlat
import KE.KDictOf
import PyProof.AttrMissHeap
import PyProof.DictFindH
import PySem.Challenge.RW_twoglass_k52_joins_refused
set_option Elab.async false
set_option linter.all false
set_option maxRecDepth 100000
open List renaming filterMap_cons→Jm, mem_cons_self→Jn, mem_cons_of_mem→Jo, mem_append_left→Jp, getElem?_set_self→Jq, getElem?_set_ne→Jr, mem_append_right→Ju, size_toArray→Jw, append_nil→JA, of_mem_zip→JB, getElem?_append_right→JC, getElem?_replicate→JD, getElem?_append_left→JE, getElem?_map→JF, mem_of_getElem?→JG, length_append→JH, length_map→JI, length_set→JK, length_singleton→JM, map_nil→JN, map_cons→JO, find?_cons→JP, any_cons→JQ, length_cons→JT, length_nil→JU, nodup_nil→JV, lookup_cons→JW, forIn_cons→JX, cons_append→J1, take_succ_cons→J2, drop_zero→J3, drop_succ_cons→J4, reverse_cons→J5, range_succ_eq_map→J6, all_map→J7, getElem?_eq_getElem→J8, getElem_of_mem→Ke, nil_append→Kf, length_range→Kg, getElem?_range→Kh, drop_eq_getElem_cons→Ki, append_assoc→Kk, zipIdx_cons→Km, mem_cons→Kn, not_mem_nil→Ko, getElem?_cons_zero→Kp, getElem?_cons_succ→Kq, contains_cons→Kw, zip_cons_cons→Kx, any_map→Ky, zip_nil_right→Kz, length_zip→KA, replicate_succ→KC, not_lt_nil→KG, nil_lt_cons→KH, cons_lt_cons_iff→KI, filter_cons_of_pos→KJ, filter_cons_of_neg→KN, getElem_mem→KO, pairwise_map→KP, getD_eq_getElem?_getD→KQ, map_map→KR, map_congr_left→KS, map_append→KU, eraseIdx_eq_take_drop_succ→KW, length_reverse→KY, getElem?_eq_none→KZ, set_cons_zero→K4, set_cons_succ→K5, replicate_zero→K6, mem_singleton→Lb, mem_nil_iff→Lc, length_filter_le→Le, length_zipIdx→Lf
open Int renaming fdiv_eq_ediv_of_nonneg→Jv, toNat_natCast→Kl, emod_nonneg→K9, emod_lt_of_pos→La, toNat_of_nonneg→Lg
open Nat renaming lt_of_lt_of_le→Jh, lt_irrefl→Ji, ne_of_lt→Jj, le_trans→Jk, le_of_lt→Jl, ne_of_gt→Js, le_refl→Jt, le_of_eq→Jy, zero_le→Jz, le_succ→JL, lt_succ_of_lt→J0, min_self→J9, lt_of_le_of_lt→Kj, le_add_right→Kr, add_lt_add_left→Kt, lt_add_of_pos_right→Ku, zero_add→Kv, sub_self→K1
open Bool renaming false_ne_true→Jx, true_or→JR, false_or→JS, false_eq_true→JY, and_eq_true→JZ, and_true→Ka, and_false→Kb, or_eq_true→Kc, not_true→K7, not_false→K8, eq_iff_iff→Ld
open Option renaming map_some→K2
open PySem renaming Value→MC, World→MD, Program→ME, Addr→MF, Heap→MG, sizeLine→MH, mainGlobals→MI, bootBuiltins→MJ, Around→MK, Shared→ML, Scope→MM, wpAny→MN, Expr→MO, starEach→MP, Stmt→MQ, wpAny_mono→MR, wpAny_truthy_bool→MS, wpAny_execs_nil→MT, wpAny_bind→MU, wpAny_holding→MV, wpAny_standAt→MX, wpAny_pure→MY, wpAny_pyIter_list→MZ, PassesOwn→M0, foldedSetIterable→M1, wpAny_passesOwn→M2, binaryOp→M3, compareOp→M4, behindInMarks→M5, sizeLine_eq→M6, codeAny→M7, callWith→M8, keywordEach→M9, recursionLimit→Nb, cLine→Nc, FuncData→Nf, BindsTo→Ng, NameKind→Nh, wpAny_newFunctionEnv_cells→Ni, wpAny_Call_Name_kw→Nj, concat_meets→Nk, noFill_tuple_add→Nm, seq_tuple_add→Nn, attributeBase→Np, Keyword→Nq, call_meets→Nr, codeAny_mono→Nt, wpAny_newObj_type→Nu, wpAny_comprehension_free→Nv, wpAny_call→Nw, wpAny_callSpecial?_slot→Nx, wpAny_call_entry→Ny, wpAny_field→Nz, wpAny_seqItems→NB, IsZip→NC, IsPair→ND, wpAny_setField_rec→NE, wpAny_onRaise→NF, wpAny_updateSeq_pair→NI, wpAny_attempt→NK, codeAny_call_builtin→NM
open PySem.W renaming instObj→Lh, methodObj→Li, Frag→Lj, lookIn→Ln, plainGet→Lp, findIn→Lq, isFn→Lr, plainGet_of→Ls, makesIn→Lv, Looks→Lw, emptyDict→Lx, makes_of→Ly, hasDictIn→Lz, plainOver→LA, keepIn→LC, cellsFrom_some→LD, fnOf→LJ, codeIn→LK, codeRec_of→LN, OpenLaw→LO, nsIn→LQ, callWith_K→LR, BoolBack→LU, excIn→LV, exmOne→LW, kitOne→LX, mroIn→LY, subIn→LZ, typeIn→L6, kitCls→L7, mg_of→L8, mg_none_of→L9
open PySem.Heap renaming lt_size→Ma, SameBut→Mb, get?_push_of_some→Md, get?_push_size→Mf, size_push→Mg, get?_update_self→Mh, get?_update_other→Mi, get?_push_ne→Mj
open PyProof.Rows renaming callWith_type1→Mk, envOfC→Ml, Call_→Mm, boot_tuple→Mp, boot_max→Mq, boot_min→Mr, boot_list→Ms, listUpdate_at→NN
open PySem.F renaming slot_tuple_add→Mu, entry_tuple_add→Mv, args_tuple_add_2→Mw, slot_list_index→Mx, plainAttrs_list→My, slot_list_count→Mz, slot_list_append→MA, type_list_append→MB
set_option maxHeartbeats 1000000
local macro_rules | `(‹1›)=>`(by first | exact Or.inl rfl | exact Or.inr rfl)
local macro_rules | `(‹2›)=>`(⟨rfl, rfl, rfl, by decide +kernel, rfl, by decide +kernel, by decide +kernel⟩)
local macro_rules | `(‹0›)=>`(by omega)
namespace L2
open PySem PySem.Spec PyProof.Rows

abbrev Key:=Sum Int Str
def nZ:Key->MC->Bool
 | .inl k,v=>Value.isInt k v
 | .inr x,v=>Value.isStrOf x v
def Hg (w:MD):Key->Int
 | .inl k=>hashInt k
 | .inr x=>hashStr w x
theorem cA:∀ {k:Key} {v:MC},nZ k v=true->(∃ i t,k=Sum.inl i/\v=Value.int i t)\/(∃ x t,k=Sum.inr x/\v=Value.str x t)
 | .inl i,v,h=>by
  obtain⟨t,e⟩:=Value.isInt_shape (k:=i) (v:=v) h
  exact .inl ⟨i,t,rfl,e⟩
 | .inr x,v,h=>by
  obtain⟨t,e⟩:=Value.isStrOf_shape (x:=x) (v:=v) h
  exact .inr ⟨x,t,rfl,e⟩
theorem xh (i:Int) (t:Tok):nZ (.inl i) (.int i t)=true:=by simp [nZ,Value.isInt]
theorem wI (x:Str) (t:Tok):nZ (.inr x) (.str x t)=true:=by simp [nZ,Value.isStrOf]
theorem DV (a b:Int):decide ((Sum.inl a:Key)=Sum.inl b)=(a==b):=by
 by_cases e:a=b
 ·subst e; simp
 ·have h:¬ (Sum.inl a:Key)=Sum.inl b:=fun q=>e (Sum.inl.inj q)
  rw [decide_eq_false h]
  exact(beq_eq_false_iff_ne.mpr e).symm
theorem Dx (a b:Str):decide ((Sum.inr a:Key)=Sum.inr b)=decide (a=b):=by
 by_cases e:a=b
 ·subst e; simp
 ·have h:¬ (Sum.inr a:Key)=Sum.inr b:=fun q=>e (Sum.inr.inj q)
  rw [decide_eq_false h,decide_eq_false e]
theorem CM (a:Int) (b:Str):decide ((Sum.inl a:Key)=Sum.inr b)=false:=decide_eq_false (fun q=>nomatch q)
theorem Dp (a:Str) (b:Int):decide ((Sum.inr a:Key)=Sum.inl b)=false:=decide_eq_false (fun q=>nomatch q)

def cJ (prog:ME) (w:MD):PySem.KeyKind prog w Key where
 is:=nZ
 hash:=Hg w
 inj:=fun v a b ha hb=>by
  rcases cA ha with ⟨i,t,rfl,rfl⟩ | ⟨x,t,rfl,rfl⟩
  ·rcases cA hb with ⟨j,u,rfl,e⟩ | ⟨y,u,rfl,e⟩
   ·injection e with e1 _; rw [e1]
   ·exact nomatch e
  ·rcases cA hb with ⟨j,u,rfl,e⟩ | ⟨y,u,rfl,e⟩
   ·exact nomatch e
   ·injection e with e1 _; rw [e1]
 byValue:=fun k v h=>by
  rcases cA h with ⟨i,t,rfl,rfl⟩ | ⟨x,t,rfl,rfl⟩ <;> rfl
 pyHash:=fun hv h=>by
  rcases cA hv with ⟨i,t,rfl,rfl⟩ | ⟨x,t,rfl,rfl⟩
  ·exact wpAny_pyHash_int h
  ·exact wpAny_pyHash_str h
 eqBool:=fun hu hv h=>by
  rcases cA hu with ⟨i,t,rfl,rfl⟩ | ⟨x,t,rfl,rfl⟩
  ·rcases cA hv with ⟨j,u,rfl,rfl⟩ | ⟨y,u,rfl,rfl⟩
   ·rw [DV] at h; exact wpAny_eqBool_int h
   ·rw [CM] at h; exact SeqAt.EqAt.int_str i t y u _ _ _ _ h
  ·rcases cA hv with ⟨j,u,rfl,rfl⟩ | ⟨y,u,rfl,rfl⟩
   ·rw [Dp] at h; exact SeqAt.EqAt.str_int x t j u _ _ _ _ h
   ·rw [Dx] at h; exact wpAny_eqBool_str h
 «strs»:=fun k x t v h=>by
  rcases cA h with ⟨i,u,rfl,e⟩ | ⟨y,u,rfl,e⟩
  ·exact nomatch e
  ·injection e with e1 _
   subst e1
   cases v <;> rfl

theorem vc (prog:ME) (w:MD) (k:Key) (v:MC):(cJ prog w).is k v=nZ k v:=rfl
theorem tR (prog:ME) (w:MD) (i:Int) (t:Tok):(cJ prog w).is (.inl i) (.int i t)=true:=xh i t
theorem uA (prog:ME) (w:MD) (x:Str) (t:Tok):(cJ prog w).is (.inr x) (.str x t)=true:=wI x t
end L2

namespace L2
open PySem PySem.Spec PyProof.Rows

inductive V where
 | non | bl (b:Bool) | int (i:Int) | str (x:Str) | byt (b:Array UInt8) | flt (b:UInt64) | ref (a:MF) | ty (n:String)
 deriving DecidableEq

def RelV:V->MC->Prop
 | .non,u=>u=Value.none
 | .bl b,u=>u=Value.bool b
 | .int i,u=>∃ t,u=Value.int i t
 | .str x,u=>∃ t,u=Value.str x t
 | .byt b,u=>∃ t,u=Value.bytes b t
 | .flt b,u=>∃ t,u=Value.float b t
 | .ref a,u=>u=Value.ref a
 | .ty n,u=>u=Value.type n

abbrev Vals:List V->List MC->Prop:=Paired RelV
theorem Vals.length {xs:List V} {us:List MC} (r:Vals xs us):xs.length=us.length:=Paired.length r
theorem Vals.get:∀ {xs:List V} {us:List MC} {i:Nat} {x:V},Vals xs us->xs[i]?=some x->∃ u,us[i]?=some u/\RelV x u
 | _,_,_,_,.nil,e=>by simp at e
 | _,_,0,_,.cons r _,e=>by simp at e; subst e; exact⟨_,rfl,r⟩
 | _,_,i+1,x,.cons _ t,e=>by
  obtain⟨u,h1,h2⟩:=Vals.get (i:=i) (x:=x) t (by simpa using e)
  exact⟨u,by simpa using h1,h2⟩
theorem Vals.set {x:V} {u:MC} (r:RelV x u):∀ {xs:List V} {us:List MC} (i:Nat),Vals xs us->Vals (xs.set i x) (us.set i u)
 | _,_,_,.nil=>.nil
 | _,_,0,.cons _ t=>.cons r t
 | _,_,i+1,.cons q t=>.cons q (Vals.set r i t)
theorem Vals.append:∀ {xs ys:List V} {us ws:List MC},Vals xs us->Vals ys ws->Vals (xs++ys) (us++ws)
 | _,_,_,_,.nil,s=>s
 | _,_,_,_,.cons r t,s=>.cons r (Vals.append t s)
theorem Vals.take:∀ {xs:List V} {us:List MC} (n:Nat),Vals xs us->Vals (xs.take n) (us.take n)
 | _,_,0,_=>.nil
 | _,_,_+1,.nil=>.nil
 | _,_,n+1,.cons r t=>.cons r (Vals.take n t)
theorem Vals.drop:∀ {xs:List V} {us:List MC} (n:Nat),Vals xs us->Vals (xs.drop n) (us.drop n)
 | _,_,0,r=>r
 | _,_,_+1,.nil=>.nil
 | _,_,n+1,.cons _ t=>Vals.drop n t
def xg:Option V->Option MC->Prop
 | some v,some u=>RelV v u
 | none,none=>True
 | _,_=>False
def KV {κ:Type}:List (κ×V)->List (κ×MC)->Prop:=Paired fun (p:κ×V) (q:κ×MC)=>p.1=q.1/\RelV p.2 q.2

def kV:Key->V
 | .inl i=>.int i
 | .inr x=>.str x

inductive HO where
  | lst (xs:List V)
  | tup (xs:List V)
  | dK (kvs:List (Key×V)) | dT (kvs:List (List Key×V))
  | set (S:Int->Bool) (n:Nat)
  | ins (C dx:MF) (fs:List (Str×V))
  | own (x:MF)
  | xd (fs:List (Str×V))
  | met (f x:MF)
  | rng (lo hi:Int)
  | frz (o:Obj) (u:HO)
  | tbl (ps:Array MC)
  | ext (φ:(MF->Prop)->MG->Prop)

abbrev Hp:=MF->Option HO
def upd (H:Hp) (a:MF) (o:HO):Hp:=fun b=>if b=a then some o else H b
theorem bF {H:Hp} {a:MF} {o:HO}:upd H a o a=some o:=by unfold upd; rw [if_pos rfl]
theorem aW {H:Hp} {a b:MF} {o:HO} (h:b≠a):upd H a o b=H b:=by unfold upd; rw [if_neg h]
theorem Bo {H:Hp} {a:MF} {o u:HO}:upd (upd H a o) a u=upd H a u:=by
 funext b; unfold upd; split <;> rfl
theorem Et {H:Hp} {a b:MF} {o u:HO} (h:H a=some o) (h':H b=some u) (d:o≠u):a≠b:=by
 intro e; subst e; rw [h] at h'; exact d (Option.some.inj h')
theorem bz {H:Hp} {a b:MF} {o:HO} (h:H a=some o) (h':H b=none):a≠b:=by
 intro e; subst e; rw [h] at h'; cases h'

section
variable (P:ME) (w:MD)
def cM (H:Hp) (h:MG) (a:MF):HO->Prop
 | .lst xs=>xs.length<=MH/\∃ (its:List MC) (n:Nat),Vals xs its/\h.get? a=some { cls:=.type "list",data:=.seq its.toArray n }
 | .tup xs=>xs.length<=MH/\∃ its:List MC,Vals xs its/\IsTup h a its.toArray
 | .dK kvs=>kvs.length<=MH/\(a==sysModules)=false/\∃ vs,KV kvs vs/\h.DictOf (cJ P w) a vs
 | .dT kvs=>kvs.length<=MH/\(a==sysModules)=false/\∃ xs:List (List Key×MF×MC),
   Paired (fun (p:List Key×V) (q:List Key×MF×MC)=>p.1=q.1/\H q.2.1=some (.tup (p.1.map kV))/\RelV p.2 q.2.2) kvs xs /\
   ∃ o es ep,h.get? a=some o/\o.ExactDict/\o.data=.dict es ep/\es.toList=xs.map (entryOfKey (tupleKind (cJ P w)))/\(xs.map (·.1)).Nodup
 | .set S n=>h.SetOf (intKind P w) a S n
 | .ins C dx fs=>H dx=some (.own a)/\fs.length<=1000/\dx≠a/\h.get? a=some (Lh C dx) /\
   ∃ mA,h.Ns1 dx mA/\(∀ f,xg (fs.lookup f) (mA f))/\PySem.Within mA (fs.map (·.1))
 | .own _=>∃ o,h.get? a=some o
 | .xd fs=>∃ mA,h.Ns1 a mA/\∀ f,xg (fs.lookup f) (mA f)
 | .rng lo hi=>∃ t u v,h.get? a=some { cls:=.type "range",data:=.fields #[.int lo t,.int hi u,.int 1 v] }
 | .frz o u=>h.get? a=some o/\cM H h a u
 | .tbl ps=>h.get? a=some { cls:=.none,data:=.fields ps }
 | .met f x=>h.get? a=some (Li (.ref f) (.ref x))
 | .ext φ=>φ (fun b=>H b=some (.own a)) h/\(∃ o,h.get? a=some o)/\∀ (S1 S2:MF->Prop) (h1 h2:MG),φ S1 h1->(∀ b,S1 b->S2 b)->(∀ b o,(b=a\/S1 b)->h1.get? b=some o->h2.get? b=some o)->φ S2 h2
def mV (H:Hp) (h:MG):Prop:=∀ a o,H a=some o->cM P w H h a o
end

section
variable {P:ME} {w:MD} {H H':Hp} {h h':MG} {a:MF} {o:HO}
theorem cM.lt (x:cM P w H h a o):a < h.objs.size:=by
 cases o with
 | lst xs=>obtain⟨_,_,_,_,e⟩:=x; exact Ma e
 | tup xs=>obtain⟨_,_,_,p⟩:=x; exact p.lt
 | dK kvs=>obtain⟨_,_,_,_,o,_,_,e,_⟩:=x; exact Ma e
 | dT kvs=>obtain⟨_,_,_,_,o,_,_,e,_⟩:=x; exact Ma e
 | set S n=>obtain⟨o,_,_,_,e,_⟩:=x; exact Ma e
 | ins C dx fs=>obtain⟨_,_,_,e,_⟩:=x; exact Ma e
 | own y=>obtain⟨_,e⟩:=x; exact Ma e
 | xd fs=>obtain⟨_,⟨_,_,_,e,_⟩,_⟩:=x; exact Ma e
 | rng lo hi=>obtain⟨_,_,_,e⟩:=x; exact Ma e
 | frz ob u=>obtain⟨e,_⟩:=x; exact Ma e
 | tbl ps=>exact Ma (show h.get? a=some _ from x)
 | met f y=>exact Ma (show h.get? a=some _ from x)
 | ext φ=>obtain⟨_,⟨_,e⟩,_⟩:=x; exact Ma e
theorem Paired.mapP {α β:Type} {F G:α->β->Prop}:∀ {l₁:List α} {l₂:List β},Paired F l₁ l₂->(∀ a b,F a b->G a b)->Paired G l₁ l₂
 | _,_,.nil,_=>.nil
 | _,_,.cons r t,f=>.cons (f _ _ r) (Paired.mapP t f)
theorem cM.stay (x:cM P w H h a o) (k:∀ b u,(b=a\/H b=some (.own a))->h.get? b=some u->h'.get? b=some u)
  (ho:∀ b,H b=some (.own a)->H' b=some (.own a)) (ht:∀ b xs,H b=some (.tup xs)->H' b=some (.tup xs)):cM P w H' h' a o:=by
 induction o with
 | lst xs=>obtain⟨z,its,n,r,e⟩:=x; exact⟨z,its,n,r,k _ _ (.inl rfl) e⟩
 | tup xs=>obtain⟨z,its,r,ob,e,c⟩:=x; exact⟨z,its,r,ob,k _ _ (.inl rfl) e,c⟩
 | dK kvs=>obtain⟨z,y,vs,r,ob,es,ep,e,c⟩:=x; exact⟨z,y,vs,r,ob,es,ep,k _ _ (.inl rfl) e,c⟩
 | dT kvs =>
  obtain⟨z,y,xs,r,ob,es,ep,e,c⟩:=x
  exact⟨z,y,xs,Paired.mapP r fun p q z=>⟨z.1,ht _ _ z.2.1,z.2.2⟩,ob,es,ep,k _ _ (.inl rfl) e,c⟩
 | set S n=>obtain⟨ob,es,ep,t,e,c⟩:=x; exact⟨ob,es,ep,t,k _ _ (.inl rfl) e,c⟩
 | ins C dx fs =>
  obtain⟨d,z,ne,e,mA,⟨od,es,ep,e2,c⟩,r⟩:=x
  exact⟨ho _ d,z,ne,k _ _ (.inl rfl) e,mA,⟨od,es,ep,k _ _ (.inr d) e2,c⟩,r⟩
 | own y=>obtain⟨ob,e⟩:=x; exact⟨ob,k _ _ (.inl rfl) e⟩
 | xd fs=>obtain⟨mA,⟨od,es,ep,e,c⟩,r⟩:=x; exact⟨mA,⟨od,es,ep,k _ _ (.inl rfl) e,c⟩,r⟩
 | rng lo hi=>obtain⟨t,u,v,e⟩:=x; exact⟨t,u,v,k _ _ (.inl rfl) e⟩
 | frz ob u ih=>obtain⟨e,q⟩:=x; exact⟨k _ _ (.inl rfl) e,ih q⟩
 | tbl ps =>
  have e:h.get? a=some { cls:=.none,data:=.fields ps }:=x
  show h'.get? a=some { cls:=.none,data:=.fields ps }
  exact k a _ (.inl rfl) e
 | met f y =>
  have e:h.get? a=some (Li (.ref f) (.ref y)):=x
  show h'.get? a=some (Li (.ref f) (.ref y))
  exact k a _ (.inl rfl) e
 | ext φ=>obtain⟨p,⟨o,e⟩,st⟩:=x; exact⟨st _ _ _ _ p ho k,⟨o,k _ _ (.inl rfl) e⟩,st⟩
theorem mV.lt (x:mV P w H h) (e:H a=some o):a < h.objs.size:=(x a o e).lt
theorem mV.fresh (x:mV P w H h) (e:h.objs.size<=a):H a=none:=by
 cases q:H a with
 | none=>rfl
 | some u=>exact absurd (Jh (x.lt q) e) (Ji _)
theorem mV.kept (x:mV P w H h) (k:∀ b u,h.get? b=some u->h'.get? b=some u):mV P w H h':=fun a o e =>
 (x a o e).stay (fun b u _ q=>k b u q) (fun _ q=>q) fun _ _ q=>q
theorem mV.laid (x:mV P w H h) (k:∀ b u,h.get? b=some u->h'.get? b=some u) (hp:h.objs.size<=a) (new:cM P w (upd H a o) h' a o):mV P w (upd H a o) h':=fun b u e=>by
 have hn:=x.fresh hp
 by_cases hb:b=a
 ·subst hb; rw [bF] at e; cases e; exact new
 ·rw [aW hb] at e
  exact(x b u e).stay (fun c v _ q=>k c v q) (fun c q=>by rw [aW (bz q hn)]; exact q) fun c xs q=>by rw [aW (bz q hn)]; exact q
end

def Rd (H:Hp) (a:MF) (u:HO):Prop:=H a=some u\/∃ o,H a=some (.frz o u)
theorem Rd.ok {P:ME} {w:MD} {H:Hp} {h:MG} {a:MF} {u:HO} (r:Rd H a u) (x:mV P w H h):cM P w H h a u:=by
 rcases r with r | ⟨o,r⟩
 ·exact x a u r
 ·obtain⟨_,q⟩:=x a _ r
  exact q
def EZ:Option HO->Prop
 | some (.lst _)=>True
 | some (.dK _)=>True
 | some (.dT _)=>True
 | some (.set _ _)=>True
 | some (.ins _ _ _)=>True
 | some (.ext _)=>True
 | _=>False
section
variable {P:ME} {w:MD} {H:Hp} {h h':MG} {x e:MF} {o':HO}
theorem mV.write (ok:mV P w H h) (mu:EZ (H x)) (he:e=x\/H e=some (.own x)) (k:∀ b u,b≠e->h.get? b=some u->h'.get? b=some u) (heo:∃ u,h'.get? e=some u)
  (new:cM P w (upd H x o') h' x o'):mV P w (upd H x o') h':=fun b u q=>by
 have nown:∀ c y,H c=some (.own y)->c≠x:=fun c y r z=>by subst z; rw [r] at mu; exact mu
 have ntup:∀ c xs,H c=some (.tup xs)->c≠x:=fun c xs r z=>by subst z; rw [r] at mu; exact mu
 by_cases hb:b=x
 ·subst hb; rw [bF] at q; cases q; exact new
 ·rw [aW hb] at q
  by_cases hbe:b=e
  ·have q':H b=some (.own x):=by
    rcases he with z | z
    ·exact absurd (hbe.trans z) hb
    ·rw [hbe]; exact z
   rw [q] at q'; cases q'
   obtain⟨v,hv⟩:=heo
   exact⟨v,by rw [hbe]; exact hv⟩
  ·refine(ok b u q).stay (fun c v hc r=>k c v ?_ r) (fun c r=>by rw [aW (nown c b r)]; exact r) fun c xs r=>by rw [aW (ntup c xs r)]; exact r
   rcases hc with rfl | hc
   ·exact hbe
   ·rintro rfl
    rcases he with z | z
    ·exact nown c b hc z
    ·rw [hc] at z; cases z; exact hb rfl
end

structure Un (fs ex:List MF) (H H':Hp) (h h':MG):Prop where
 keep:∀ b o,h.get? b=some o->H b=none->b∉fs->b∉ex->h'.get? b=some o
 slot:∀ b o,h.get? b=some o->H b=none->b∈fs->b∉ex->∃ sl,h'.get? b=some { o with slots:=sl }
 free:∀ b o,h.get? b=some o->H b=none->b∉ex->H' b=none
 there:∀ b o,h.get? b=some o->b∉ex->∃ o',h'.get? b=some o'
 tups:∀ b xs,H b=some (.tup xs)->H' b=some (.tup xs)
 frzs:∀ b o u,H b=some (.frz o u)->H' b=some (.frz o u)
 tbls:∀ b ps,H b=some (.tbl ps)->∃ more,H' b=some (.tbl (ps++more))
section
variable {fs fs' ex ex':List MF} {H H1 H2:Hp} {h h1 h2 h':MG} {a x e:MF} {o:HO}
theorem Un.any (u:Un fs ex H H1 h h1) {b:MF} {ob:Obj} (q:h.get? b=some ob) (n:H b=none) (hx:b∉ex):∃ sl,h1.get? b=some { ob with slots:=sl }:=by
 by_cases hb:b∈fs
 ·exact u.slot b ob q n hb hx
 ·exact⟨ob.slots,u.keep b ob q n hb hx⟩
theorem Un.kept (k:∀ b u,h.get? b=some u->h'.get? b=some u):Un fs ex H H h h' :=
 ⟨fun b ob q _ _ _=>k b ob q,fun b ob q _ _ _=>⟨ob.slots,k b ob q⟩,fun _ _ _ n _=>n,fun b ob q _=>⟨ob,k b ob q⟩,fun _ _ q=>q,fun _ _ _ q=>q,fun _ ps q=>⟨#[],by rw [q]; simp⟩⟩
theorem Un.refl:Un fs ex H H h h:=Un.kept fun _ _ q=>q
theorem Un.laid (k:∀ b u,h.get? b=some u->h'.get? b=some u) (hp:h.objs.size<=a) (hn:H a=none):Un fs ex H (upd H a o) h h' where
 keep:=fun b u q _ _ _=>k b u q
 slot:=fun b u q _ _ _=>⟨u.slots,k b u q⟩
 free:=fun b u q n _=>by rw [aW (Jj (Jh (Ma q) hp))]; exact n
 there:=fun b u q _=>⟨u,k b u q⟩
 tups:=fun b xs q=>by rw [aW (bz q hn)]; exact q
 frzs:=fun b u xs q=>by rw [aW (bz q hn)]; exact q
 tbls:=fun b ps q=>⟨#[],by rw [aW (bz q hn),q]; simp⟩
theorem Un.write (mu:EZ (H x)) (he:e=x\/H e=some (.own x)) (k:∀ b u,b≠e->h.get? b=some u->h'.get? b=some u) (heo:∃ u,h'.get? e=some u):Un fs ex H (upd H x o) h h':=by
 have hx:∀ b,H b=none->b≠x:=fun b n z=>by subst z; rw [n] at mu; exact mu
 have hb:∀ b,H b=none->b≠e:=fun b n z=>by
  subst z
  rcases he with r | r
  ·exact hx b n r
  ·rw [n] at r; cases r
 have hm:∀ b u,H b=some u->¬ EZ (some u)->b≠x:=fun b u q nm z=>by subst z; rw [q] at mu; exact nm mu
 refine⟨fun b u q n _ _=>k b u (hb b n) q,fun b u q n _ _=>⟨u.slots,k b u (hb b n) q⟩,fun b u q n _=>by rw [aW (hx b n)]; exact n,fun b u q _=>?_,
  fun b xs q=>by rw [aW (hm b _ q fun z=>z)]; exact q,fun b u xs q=>by rw [aW (hm b _ q fun z=>z)]; exact q,fun b ps q=>⟨#[],by rw [aW (hm b _ q fun z=>z),q]; simp⟩⟩
 by_cases hbe:b=e
 ·subst hbe; exact heo
 ·exact⟨u,k b u hbe q⟩
end

def GC (h:MG) (H:Hp):List MF:=(List.range h.objs.size).filter fun a=>(H a).isSome
def mD (h:MG) (H:Hp):MG:=PySem.W.hideAll h (GC h H)
theorem xO (h:MG) (H:Hp):(mD h H).objs.size=h.objs.size:=PySem.W.hideAll_size _ _
theorem tU {h:MG} {H:Hp} {b:MF} {o:Obj} (e:h.get? b=some o) (n:H b=none):(mD h H).get? b=some o :=
 PySem.W.hideAll_get _ e fun hm=>by
  have q:(H b).isSome=true:=(List.mem_filter.mp hm).2
  rw [n] at q; simp at q
theorem vO {h:MG} {H:Hp} {b:MF} {o:Obj} (e:(mD h H).get? b=some o):h.get? b=some o/\H b=none:=by
 have e':h.get? b=some o:=PySem.W.of_hideAll (GC h H) e
 refine⟨e',?_⟩
 cases q:H b with
 | none=>rfl
 | some x =>
  have hm:b∈GC h H:=List.mem_filter.mpr ⟨List.mem_range.mpr (Ma e'),by simp [q]⟩
  have z:(mD h H).get? b=none:=PySem.W.hideAll_none (GC h H) hm
  rw [z] at e; cases e

def Bl (g h:MG) (L:MF):List (MF×Obj):=(List.range h.objs.size).filterMap fun a=>if a=L\/(g.get? a).isSome=true then none else (h.get? a).map fun o=>(a,o)
def rest (g h:MG) (L d:MF):List (MF×Obj):=(Bl g h L).filter fun p=>decide (p.1≠d)
end L2

namespace L2
open PySem PySem.Spec PyProof.Rows

structure Mod (K:Lj) (mg:Str->Option MC) (base:MG):Prop where
 kin:K.In base
 glob:base.Ns MI mg
 blt:∃ mb,base.Ns builtinsNs mb/\∀ x:Str,x ≠ "__name__"->mb x=MJ x
 nolimit:base.NoLimit

structure Cx where
 prog:ME
 w:MD
 K:Lj
 mg:Str->Option MC
 base:MG
 A:MK
 N:List Str
 s₀:ML
 H₀:Hp
 env:Env
 outer:List Env
 stack:List Env
 ex:List MF
 fn:Str->Bool
 calm:Bool
 pn:List (MF×Obj)
 xe:MC->ML->Prop
def frs (l:List Env):List MF:=l.filterMap (·.frame)
abbrev Cx.fs (X:Cx):List MF:=frs X.outer

def DZ (sc:MM) (x:Str):Prop:=sc.names.lookup x=some .local\/sc.names.lookup x=some .cell\/sc.names.lookup x=some .free
def Loc (sc:MM) (x:Str):Prop:=sc.names.lookup x=some .local\/sc.names.lookup x=some .cell
def Look (env:Env) (h:MG) (m:Str->Option MC) (x:Str) (u:MC):Prop :=
 (env.kindOf x=some .local/\m x=some u)\/((env.kindOf x=some .cell\/env.kindOf x=some .free)/\∃ c,env.cells.lookup x=some c/\h.IsCell c (some u))

structure Cx.Ok (X:Cx):Prop where
 mod:Mod X.K X.mg X.base
 kind:X.env.scope.kind=.function
 glob:X.env.globals=MI
 blt:X.env.builtins=builtinsNs
 above:X.s₀.heap.objs.size<=X.env.locals
 inj:∀ x y c,X.env.cells.lookup x=some c->X.env.cells.lookup y=some c->x=y
 has:∀ x,(X.env.kindOf x=some .cell\/X.env.kindOf x=some .free)->∃ c,X.env.cells.lookup x=some c
 cab:∀ x c,X.fn x=true->X.env.cells.lookup x=some c->X.s₀.heap.objs.size<=c
 hd:X.calm=true->X.A.handled=none
 frames:X.A.frames=some X.stack
 stk:X.stack=X.outer\/(X.stack=X.env::X.outer/\X.env.frame=some X.env.locals)
 exf:∀ b∈X.ex,b≠X.env.locals/\∀ x c,X.env.cells.lookup x=some c->c≠b
 bs:∀ b o,X.base.get? b=some o->X.s₀.heap.get? b=some o/\X.H₀ b=none
 bsz:X.base.objs.size<=X.s₀.heap.objs.size
 noex:∀ b o,X.base.get? b=some o->b∉X.ex
 exfs:∀ b∈X.ex,b∉X.fs
 funs:X.s₀.heap.FunFrames X.base X.outer
 frf:∀ b∈X.fs,X.H₀ b=none

structure Inv (X:Cx) (pins:List (MF×Obj)) (σ:List (Option V)) (H:Hp) (s:ML):Prop where
 ok:X.Ok
 os:s.os=X.s₀.os
 bare:AllBare s.gens
 base:Un X.fs X.ex X.H₀ H X.s₀.heap s.heap
 loc:∃ m,s.heap.Ns X.env.locals m/\∀ (i:Nat) (x:Str) (v:V),X.N[i]?=some x->σ[i]?=some (some v)->DZ X.env.scope x->∃ u,RelV v u/\Look X.env s.heap m x u
 cell:∀ x c,X.env.cells.lookup x=some c->∃ v,s.heap.IsCell c v
 free:H X.env.locals=none
 freeC:∀ x c,X.env.cells.lookup x=some c->H c=none
 pin:∀ p∈X.pn++pins,s.heap.get? p.1=some p.2/\H p.1=none/\p.1≠X.env.locals/\p.1∉X.fs/\∀ v,p.2.data≠.cell v
 hok:mV X.prog X.w H s.heap
 len:σ.length=X.N.length

section
variable {X:Cx} {pins:List (MF×Obj)} {σ:List (Option V)} {H H':Hp} {s:ML} {h':MG}

theorem Cx.Ok.nofr (ok:X.Ok) {b:MF} {o:Obj} (e:X.base.get? b=some o):b∉X.fs:=fun hb=>by
 have:=(ok.funs.mem hb).1
 rw [e] at this; cases this
theorem Inv.bs (I:Inv X pins σ H s):∀ b o,X.base.get? b=some o->s.heap.get? b=some o/\H b=none:=fun b o e =>
 ⟨I.base.keep b o (I.ok.bs b o e).1 (I.ok.bs b o e).2 (I.ok.nofr e) (I.ok.noex b o e),I.base.free b o (I.ok.bs b o e).1 (I.ok.bs b o e).2 (I.ok.noex b o e)⟩
theorem Inv.bk (I:Inv X pins σ H s):∀ b o,X.base.get? b=some o->s.heap.get? b=some o:=fun b o e=>(I.bs b o e).1
theorem Inv.mod (I:Inv X pins σ H s):Mod X.K X.mg X.base:=I.ok.mod
theorem Inv.kIn (I:Inv X pins σ H s):X.K.In s.heap:=I.ok.mod.kin.keeps I.bk
theorem Inv.lt (I:Inv X pins σ H s):X.env.locals < s.heap.objs.size:=let ⟨_,hn,_⟩:=I.loc; hn.lt
theorem Inv.sz (I:Inv X pins σ H s):X.s₀.heap.objs.size<=s.heap.objs.size:=Jk I.ok.above (Jl I.lt)
theorem Inv.nofs (I:Inv X pins σ H s) {a:MF} (h:s.heap.objs.size<=a):a∉X.fs:=fun hb=>by
 obtain⟨_,o,ho,_⟩:=I.ok.funs.mem hb
 exact absurd (Jh (Ma ho) (Jk I.sz h)) (Ji _)
theorem Inv.cne (I:Inv X pins σ H s):∀ x c,X.env.cells.lookup x=some c->c≠X.env.locals:=fun x c e z=>by
 obtain⟨v,o,ho,hd⟩:=I.cell x c e
 obtain⟨m,⟨o',es,ep,ho',hd',_⟩,_⟩:=I.loc
 rw [z,ho'] at ho; cases ho; rw [hd'] at hd; cases hd
theorem Inv.funs (I:Inv X pins σ H s):s.heap.FunFrames X.base X.outer:=by
 have all:∀ (l:List Env),(∀ b∈frs l,b∈X.fs)->X.s₀.heap.FunFrames X.base l->s.heap.FunFrames X.base l:=by
  intro l
  induction l with
  | nil=>intro _ _; trivial
  | cons env r ih =>
   intro hs hl
   obtain⟨hk,⟨L,o,hf,hn,ho,hd⟩,hr⟩:=hl
   have hL:L∈X.fs:=hs L (by unfold frs; rw [Jm,hf]; exact Jn)
   obtain⟨sl,e⟩:=I.base.slot L o ho (I.ok.frf L hL) hL fun z=>I.ok.exfs L z hL
   exact⟨hk,⟨L,_,hf,hn,e,hd⟩,ih (fun b hb=>hs b (by unfold frs; rw [Jm,hf]; exact Jo _ hb)) hr⟩
 exact all X.outer (fun _ hb=>hb) I.ok.funs

theorem Inv.stack (I:Inv X pins σ H s):s.heap.FunFrames X.base X.stack:=by
 rcases I.ok.stk with e | ⟨e,hf⟩
 ·rw [e]; exact I.funs
 ·rw [e]
  obtain⟨m,hn,_⟩:=I.loc
  refine .cons (by rw [I.ok.kind]; decide) hf hn ?_ I.funs
  exact Heap.get?_none_of_le (Jk I.ok.bsz I.ok.above)
theorem Inv.stkSub (I:Inv X pins σ H s):∀ b∈frs X.stack,b∈X.env.locals::X.fs:=fun b hb=>by
 rcases I.ok.stk with e | ⟨e,hf⟩
 ·rw [e] at hb; exact Jo _ hb
 ·rw [e] at hb
  unfold frs at hb
  rw [Jm,hf] at hb
  exact hb
theorem Inv.stkFree (I:Inv X pins σ H s):∀ b∈frs X.stack,H b=none:=fun b hb=>by
 rcases List.mem_cons.mp (I.stkSub b hb) with e | hb
 ·rw [e]; exact I.free
 ·obtain⟨_,o,ho,_⟩:=I.ok.funs.mem hb
  exact I.base.free b o ho (I.ok.frf b hb) fun z=>I.ok.exfs b z hb

theorem Inv.step {g':Array GenState} {t':Nat} {d':Drawn} {ch:List MF} (I:Inv X pins σ H s)
  (hch:∀ b∈ch,(b∈X.ex\/X.s₀.heap.objs.size<=b)/\b≠X.env.locals/\(∀ x c,X.env.cells.lookup x=some c->c≠b)/\∀ p∈X.pn++pins,p.1≠b)
  (keep:∀ b o,b≠X.env.locals->b∉X.fs->b∉ch->s.heap.get? b=some o->H b=none->h'.get? b=some o)
  (slot:∀ b o,b≠X.env.locals->b∈X.fs->b∉ch->s.heap.get? b=some o->H b=none->∃ sl,h'.get? b=some { o with slots:=sl }) (free:∀ b o,b∉ch->s.heap.get? b=some o->H b=none->H' b=none)
  (there:∀ b o,b∉ch->s.heap.get? b=some o->∃ o',h'.get? b=some o')
  (tups:∀ b xs,H b=some (.tup xs)->H' b=some (.tup xs)) (frzs:∀ b o u,H b=some (.frz o u)->H' b=some (.frz o u)) (tbls:∀ b ps,H b=some (.tbl ps)->∃ more,H' b=some (.tbl (ps++more)))
  (ns:∀ m,s.heap.Ns X.env.locals m->h'.Ns X.env.locals m) (hok:mV X.prog X.w H' h') (hg:AllBare g') :
  Inv X pins σ H' { s with heap:=h',gens:=g',drawn:=d',toks:=t' }:=by
 have neL:∀ b o,X.s₀.heap.get? b=some o->b≠X.env.locals:=fun b o e=>Jj (Jh (Ma e) I.ok.above)
 have neC:∀ b o,X.s₀.heap.get? b=some o->b∉X.ex->b∉ch:=fun b o e hx hb=>by
  rcases(hch b hb).1 with z | z
  ·exact hx z
  ·exact absurd (Jh (Ma e) z) (Ji _)
 have cellK:∀ x c,X.env.cells.lookup x=some c->∀ v,s.heap.IsCell c v->h'.IsCell c v:=fun x c e v ⟨o,ho,hd⟩=>by
  have nch:c∉ch:=fun z=>(hch c z).2.2.1 x c e rfl
  by_cases hc:c∈X.fs
  ·obtain⟨sl,q⟩:=slot c o (I.cne x c e) hc nch ho (I.freeC x c e)
   exact⟨_,q,hd⟩
  ·exact⟨o,keep c o (I.cne x c e) hc nch ho (I.freeC x c e),hd⟩
 refine⟨I.ok,I.os,hg,⟨fun b o e n hb hx=>?_,fun b o e n hb hx=>?_,fun b o e n hx=>?_,fun b o e hx=>?_,fun b xs e=>tups b xs (I.base.tups b xs e),fun b o xs e=>frzs b o xs (I.base.frzs b o xs e),fun b ps e=>?_⟩,?_,fun x c e=>?_,?_,fun x c e=>?_,fun p hp=>?_,hok,I.len⟩
 ·exact keep b o (neL b o e) hb (neC b o e hx) (I.base.keep b o e n hb hx) (I.base.free b o e n hx)
 ·obtain⟨sl,e1⟩:=I.base.slot b o e n hb hx
  obtain⟨sl',e2⟩:=slot b _ (neL b o e) hb (neC b o e hx) e1 (I.base.free b o e n hx)
  exact⟨sl',e2⟩
 ·obtain⟨o',e1⟩:=I.base.there b o e hx
  exact free b o' (neC b o e hx) e1 (I.base.free b o e n hx)
 ·obtain⟨o',e1⟩:=I.base.there b o e hx
  exact there b o' (neC b o e hx) e1
 ·obtain⟨m1,e1⟩:=I.base.tbls b ps e
  obtain⟨m2,e2⟩:=tbls b _ e1
  exact⟨m1++m2,by rw [e2,Array.append_assoc]⟩
 ·obtain⟨m,hn,hl⟩:=I.loc
  refine⟨m,ns m hn,fun i x v e1 e2 e3=>?_⟩
  obtain⟨u,r,l⟩:=hl i x v e1 e2 e3
  refine⟨u,r,?_⟩
  rcases l with l | ⟨k,c,e,z⟩
  ·exact .inl l
  ·exact .inr ⟨k,c,e,cellK x c e _ z⟩
 ·obtain⟨v,z⟩:=I.cell x c e
  exact⟨v,cellK x c e v z⟩
 ·obtain⟨m,⟨o,_,_,ho,_⟩,_⟩:=I.loc
  exact free _ o (fun z=>(hch _ z).2.1 rfl) ho I.free
 ·obtain⟨v,o,ho,hd⟩:=I.cell x c e
  exact free c o (fun z=>(hch c z).2.2.1 x c e rfl) ho (I.freeC x c e)
 ·obtain⟨e,n,ne,nf,d⟩:=I.pin p hp
  have nch:p.1∉ch:=fun z=>(hch p.1 z).2.2.2 p hp rfl
  exact⟨keep p.1 p.2 ne nf nch e n,free p.1 p.2 nch e n,ne,nf,d⟩
theorem Inv.un {t':Nat} (I:Inv X pins σ H s) (u:Un X.fs [] H H' s.heap h') (hok:mV X.prog X.w H' h'):Inv X pins σ H' { s with heap:=h',toks:=t' }:=by
 obtain⟨m,⟨o,es,ep,ho,r⟩,_⟩:=id I.loc
 obtain⟨sl,hL⟩:=u.any ho I.free (by simp)
 exact I.step (g':=s.gens) (d':=s.drawn) (ch:=[]) (fun _ z=>nomatch z) (fun b o _ hb _ e n=>u.keep b o e n hb (by simp)) (fun b o _ hb _ e n=>u.slot b o e n hb (by simp)) (fun b o _ e n=>u.free b o e n (by simp)) (fun b o _ e=>u.there b o e (by simp)) u.tups u.frzs u.tbls (fun m' hm=>by
  obtain⟨o',es',ep',ho',r'⟩:=hm
  rw [ho] at ho'; cases ho'
  exact⟨_,es',ep',hL,r'⟩) hok I.bare
theorem Inv.call {g':Array GenState} {t':Nat} {d':Drawn} {ch:List MF} (I:Inv X pins σ H s) (u:Un (frs X.stack) ch H H' s.heap h') (hok:mV X.prog X.w H' h') (hg:AllBare g')
  (hch:∀ b∈ch,(b∈X.ex\/X.s₀.heap.objs.size<=b)/\b≠X.env.locals/\(∀ x c,X.env.cells.lookup x=some c->c≠b)/\∀ p∈X.pn++pins,p.1≠b) :
  Inv X pins σ H' { s with heap:=h',gens:=g',drawn:=d',toks:=t' }:=by
 obtain⟨m,⟨o,es,ep,ho,r⟩,_⟩:=id I.loc
 obtain⟨sl,hL⟩:=u.any ho I.free fun z=>(hch _ z).2.1 rfl
 exact I.step (ch:=ch) hch (fun b o hL hb hc e n=>u.keep b o e n (fun z=>(List.mem_cons.mp (I.stkSub b z)).elim hL hb) hc) (fun b o _ _ hc e n=>u.any e n hc) (fun b o hc e n=>u.free b o e n hc) (fun b o hc e=>u.there b o e hc) u.tups u.frzs u.tbls (fun m' hm=>by
  obtain⟨o',es',ep',ho',r'⟩:=hm
  rw [ho] at ho'; cases ho'
  exact⟨_,es',ep',hL,r'⟩) hok hg
theorem Inv.turned {t':Nat} {it:MF} (I:Inv X pins σ H s) (k:∀ b o,b≠it->s.heap.get? b=some o->h'.get? b=some o) (hn:H it=none) (hL:it≠X.env.locals)
  (h1:it∈X.ex\/X.s₀.heap.objs.size<=it) (h2:∀ x c,X.env.cells.lookup x=some c->c≠it) (h3:∀ p∈X.pn++pins,p.1≠it):Inv X pins σ H { s with heap:=h',toks:=t' }:=by
 have nit:∀ b u,H b=some u->b≠it:=fun b u e z=>by rw [z,hn] at e; cases e
 refine I.step (g':=s.gens) (d':=s.drawn) (ch:=[it]) (fun b hb=>?_) (fun b o _ _ hc e _=>k b o (fun z=>hc (by simp [z])) e) (fun b o _ _ hc e _=>⟨o.slots,k b o (fun z=>hc (by simp [z])) e⟩) (fun _ _ _ _ n=>n)
  (fun b o hc e=>⟨o,k b o (fun z=>hc (by simp [z])) e⟩) (fun _ _ e=>e) (fun _ _ _ e=>e) (fun b ps e=>⟨#[],by rw [e]; simp⟩) (fun m hm=>?_) (fun b u e=>?_) I.bare
 ·have e:b=it:=by simpa using hb
  subst e
  exact⟨h1,hL,h2,h3⟩
 ·obtain⟨o,es,ep,ho,r⟩:=hm
  exact⟨o,es,ep,k _ o (Ne.symm hL) ho,r⟩
 ·refine(I.hok b u e).stay (fun c v hc q=>k c v ?_ q) (fun _ q=>q) fun _ _ q=>q
  rcases hc with z | z
  ·rw [z]; exact nit b u e
  ·exact nit c _ z
theorem Inv.tok (I:Inv X pins σ H s) (t:Nat):Inv X pins σ H { s with toks:=t }:=I.un (h':=s.heap) (t':=t) Un.refl I.hok
theorem Inv.kept {t':Nat} (I:Inv X pins σ H s) (k:∀ b u,s.heap.get? b=some u->h'.get? b=some u):Inv X pins σ H { s with heap:=h',toks:=t' }:=I.un (Un.kept k) (I.hok.kept k)
theorem Inv.laid {a:MF} {o:HO} {t':Nat} (I:Inv X pins σ H s) (k:∀ b u,s.heap.get? b=some u->h'.get? b=some u) (hp:s.heap.objs.size<=a) (new:cM X.prog X.w (upd H a o) h' a o) :
  Inv X pins σ (upd H a o) { s with heap:=h',toks:=t' }:=I.un (Un.laid k hp (I.hok.fresh hp)) (I.hok.laid k hp new)
theorem Inv.write {x e:MF} {o:HO} {t':Nat} (I:Inv X pins σ H s) (mu:EZ (H x)) (he:e=x\/H e=some (.own x)) (k:∀ b u,b≠e->s.heap.get? b=some u->h'.get? b=some u) (heo:∃ u,h'.get? e=some u)
  (new:cM X.prog X.w (upd H x o) h' x o):Inv X pins σ (upd H x o) { s with heap:=h',toks:=t' }:=I.un (Un.write mu he k heo) (I.hok.write mu he k heo new)
theorem Inv.pins_of {pins':List (MF×Obj)} (I:Inv X pins σ H s) (h:∀ p∈pins',s.heap.get? p.1=some p.2/\H p.1=none/\p.1≠X.env.locals/\p.1∉X.fs/\∀ v,p.2.data≠.cell v):Inv X pins' σ H s :=
 ⟨I.ok,I.os,I.bare,I.base,I.loc,I.cell,I.free,I.freeC,fun p hp=>(List.mem_append.mp hp).elim (fun z=>I.pin p (Jp _ z)) (h p),I.hok,I.len⟩

theorem tT {N:List Str} (hN:N.Nodup) {i j:Nat} {x:Str} (a:N[i]?=some x) (b:N[j]?=some x):i=j:=by
 obtain⟨h1,e1⟩:=List.getElem?_eq_some_iff.mp a
 obtain⟨h2,e2⟩:=List.getElem?_eq_some_iff.mp b
 exact(List.getElem_inj hN).mp (e1.trans e2.symm)

theorem rA {M:Model} {A:MK} {E:MC->ML->Prop} {i:Nat} {x:Str} {v:V} {u:MC} {Q:Unit->ML->Prop} (I:Inv X pins σ H s) (hN:X.N.Nodup) (hi:X.N[i]?=some x) (hx:Loc X.env.scope x) (r:RelV v u)
  (h:∀ s',Inv X pins (σ.set i (some v)) H s'->(∃ a,Mb a s.heap s'.heap/\(a=X.env.locals\/X.env.cells.lookup x=some a))->Q () s') (hf:X.fn x=true\/X.env.scope.names.lookup x=some .local:=by first | exact .inl rfl | exact .inr rfl | assumption):MN M A (storeName X.env x u) Q E s:=by
 obtain⟨m,hn,hl⟩:=id I.loc
 have hcls:(X.env.scope.kind==.class || (X.env.scope.kind==.module && X.env.locals != X.env.globals))=false:=by rw [I.ok.kind]; rfl
 have hiσ:i < σ.length:=by rw [I.len]; exact(List.getElem?_eq_some_iff.mp hi).1
 have cne:=I.cne
 have tracked:∀ {a:MF} {h':MG},(∃ o,s.heap.get? a=some o/\H a=none)->Mb a s.heap h'->mV X.prog X.w H h':=fun {a h'} ha hs b ob e=>by
  obtain⟨_,_,hfree⟩:=ha
  refine(I.hok b ob e).stay (fun c w' hc q=>(hs.2 c ?_).trans q) (fun _ q=>q) fun _ _ q=>q
  rintro rfl
  rcases hc with rfl | hc
  ·rw [hfree] at e; cases e
  ·rw [hfree] at hc; cases hc
 rcases hx with hk | hk
 ·refine wpAny_storeName_local hk hn (fun h' hn' hs=>?_) hcls
  obtain⟨oL,_,_,hoL,_⟩:=id hn
  refine h _ ⟨I.ok,I.os,I.bare,⟨fun b o e n hb hx=>?_,fun b o e n hb hx=>?_,I.base.free,fun b o e hx=>?_,I.base.tups,I.base.frzs,I.base.tbls⟩,⟨_,hn',fun j y v' e1 e2 e3=>?_⟩,fun y c e=>?_,I.free,I.freeC,fun p hp=>?_,tracked ⟨oL,hoL,I.free⟩ hs,by simpa using I.len⟩ ⟨_,hs,.inl rfl⟩
  ·exact(hs.2 b (Jj (Jh (Ma e) I.ok.above))).trans (I.base.keep b o e n hb hx)
  ·obtain⟨sl,e1⟩:=I.base.slot b o e n hb hx
   exact⟨sl,(hs.2 b (Jj (Jh (Ma e) I.ok.above))).trans e1⟩
  ·obtain⟨o',e1⟩:=I.base.there b o e hx
   exact⟨o',(hs.2 b (Jj (Jh (Ma e) I.ok.above))).trans e1⟩
  ·by_cases hj:j=i
   ·subst hj
    rw [hi] at e1; cases e1
    rw [Jq hiσ] at e2
    cases e2
    exact⟨u,r,.inl ⟨hk,by simp⟩⟩
   ·rw [Jr (Ne.symm hj)] at e2
    obtain⟨u',r',q⟩:=hl j y v' e1 e2 e3
    refine⟨u',r',?_⟩
    rcases q with ⟨k,e⟩ | ⟨k,c,e,z⟩
    ·refine .inl ⟨k,?_⟩
     have:y≠x:=fun e=>hj (tT hN e1 (e ▸ hi))
     simp [this,e]
    ·exact .inr ⟨k,c,e,z.sameBut hs (cne y c e)⟩
  ·obtain⟨w',z⟩:=I.cell y c e
   exact⟨w',z.sameBut hs (cne y c e)⟩
  ·obtain⟨e,n,ne,nf,d⟩:=I.pin p hp
   exact⟨(hs.2 p.1 ne).trans e,n,ne,nf,d⟩
 ·have hfn:X.fn x=true:=by
   rcases hf with z | z
   ·exact z
   ·rw [z] at hk; cases hk
  obtain⟨c,hc⟩:=I.ok.has x (.inl hk)
  obtain⟨w',z⟩:=I.cell x c hc
  refine wpAny_storeName_cell I.ok.kind hk hc z (fun h' hc' hs=>?_)
  obtain⟨oc,hoc,hocd⟩:=id z
  refine h { s with heap:=h' } ⟨I.ok,I.os,I.bare,⟨fun b o e n hb hx=>?_,fun b o e n hb hx=>?_,I.base.free,fun b o e hx=>?_,I.base.tups,I.base.frzs,I.base.tbls⟩,⟨m,hn.sameBut hs (Ne.symm (cne x c hc)),fun j y v' e1 e2 e3=>?_⟩,fun y c' e=>?_,I.free,I.freeC,fun p hp=>?_,tracked ⟨oc,hoc,I.freeC x c hc⟩ hs,by simpa using I.len⟩ ⟨c,hs,.inr hc⟩
  ·exact(hs.2 b (Jj (Jh (Ma e) (I.ok.cab x c hfn hc)))).trans (I.base.keep b o e n hb hx)
  ·obtain⟨sl,e1⟩:=I.base.slot b o e n hb hx
   exact⟨sl,(hs.2 b (Jj (Jh (Ma e) (I.ok.cab x c hfn hc)))).trans e1⟩
  ·obtain⟨o',e1⟩:=I.base.there b o e hx
   exact⟨o',(hs.2 b (Jj (Jh (Ma e) (I.ok.cab x c hfn hc)))).trans e1⟩
  ·by_cases hj:j=i
   ·subst hj
    rw [hi] at e1; cases e1
    rw [Jq hiσ] at e2
    cases e2
    exact⟨u,r,.inr ⟨.inl hk,c,hc,hc'⟩⟩
   ·rw [Jr (Ne.symm hj)] at e2
    obtain⟨u',r',q⟩:=hl j y v' e1 e2 e3
    refine⟨u',r',?_⟩
    rcases q with q | ⟨k,c',e,z'⟩
    ·exact .inl q
    ·refine .inr ⟨k,c',e,z'.sameBut hs ?_⟩
     rintro rfl
     exact hj (tT hN e1 (I.ok.inj _ _ _ e hc ▸ hi))
  ·by_cases hcc:c'=c
   ·subst hcc; exact⟨_,hc'⟩
   ·obtain⟨w2,z2⟩:=I.cell y c' e
    exact⟨w2,z2.sameBut hs hcc⟩
  ·obtain⟨e,n,ne,nf,d⟩:=I.pin p hp
   refine⟨(hs.2 p.1 ?_).trans e,n,ne,nf,d⟩
   intro q
   rw [q,hoc] at e
   have q':oc=p.2:=Option.some.inj e
   exact d w' (by rw [<- q']; exact hocd)
theorem pO {M:Model} {A:MK} {E:MC->ML->Prop} {i:Nat} {x:Str} {v:V} {u:MC} {Q:Unit->ML->Prop} (I:Inv X pins σ H s) (hN:X.N.Nodup) (hi:X.N[i]?=some x) (hx:Loc X.env.scope x) (r:RelV v u)
  (h:∀ s',Inv X pins (σ.set i (some v)) H s'->Q () s') (hf:X.fn x=true\/X.env.scope.names.lookup x=some .local:=by first | exact .inl rfl | exact .inr rfl | assumption):MN M A (storeName X.env x u) Q E s :=
 rA I hN hi hx r (fun s' I' _=>h s' I') hf
theorem Inv.call' {s':ML} {ch:List MF} (I:Inv X pins σ H s) (ho:s'.os=s.os) (u:Un (frs X.stack) ch H H' s.heap s'.heap) (hok:mV X.prog X.w H' s'.heap) (hg:AllBare s'.gens)
  (hch:∀ b∈ch,(b∈X.ex\/X.s₀.heap.objs.size<=b)/\b≠X.env.locals/\(∀ x c,X.env.cells.lookup x=some c->c≠b)/\∀ p∈X.pn++pins,p.1≠b):Inv X pins σ H' s':=by
 obtain⟨h',g',d',t',o'⟩:=s'
 have e:o'=s.os:=ho
 subst e
 exact I.call (g':=g') (t':=t') (d':=d') u hok hg hch
end

abbrev XK:=MC->Option MF->Hp->Prop
abbrev St:=List (Option V)
abbrev VK:=V->Hp->Prop
abbrev TE:=St->Hp->VK->Prop
abbrev TT:=St->Hp->(Bool->Hp->Prop)->Prop
abbrev TA:=St->Hp->(List V->Hp->Prop)->Prop
structure Ends where
 nx:St->Hp->Prop
 rt:VK
 bk:St->Hp->Prop:=fun _ _=>False
 ct:St->Hp->Prop:=fun _ _=>False
abbrev TS:=Ends->St->Hp->Prop

def EP (X:Cx) (pins:List (MF×Obj)) (σ:St) (Q:VK) (u:MC) (s':ML):Prop:=∃ v H',Inv X pins σ H' s'/\RelV v u/\Q v H'
def TP (X:Cx) (pins:List (MF×Obj)) (σ:St) (Q:Bool->Hp->Prop) (b:Bool) (s':ML):Prop:=∃ H',Inv X pins σ H' s'/\Q b H'
def AP (X:Cx) (pins:List (MF×Obj)) (σ:St) (Q:List V->Hp->Prop) (us:List MC) (s':ML):Prop:=∃ vs H',Inv X pins σ H' s'/\Vals vs us/\Q vs H'
def SP (X:Cx) (pins:List (MF×Obj)) (D:Ends) (f:Flow) (s':ML):Prop :=
 match f with
 | .next=>∃ σ' H',Inv X pins σ' H' s'/\D.nx σ' H'
 | .brk=>∃ σ' H',Inv X pins σ' H' s'/\D.bk σ' H'
 | .cont=>∃ σ' H',Inv X pins σ' H' s'/\D.ct σ' H'
 | .ret u=>∃ v σ' H',Inv X pins σ' H' s'/\RelV v u/\D.rt v H'

def PE (X:Cx) (e:MO) (t:TE):Prop :=
 ∀ (pins:List (MF×Obj)) (s:ML) (σ:St) (H:Hp) (Q:VK),Inv X pins σ H s->t σ H Q->MN (model X.prog X.w) X.A (eval e X.env) (EP X pins σ Q) X.xe s
def PT (X:Cx) (e:MO) (t:TT):Prop :=
 ∀ (pins:List (MF×Obj)) (s:ML) (σ:St) (H:Hp) (Q:Bool->Hp->Prop),Inv X pins σ H s->t σ H Q->MN (model X.prog X.w) X.A (isTrue e X.env (eval e X.env)) (TP X pins σ Q) X.xe s
def PW (X:Cx) (e:MO) (t:TT):Prop :=
 ∀ (whole:Sem MC) (pins:List (MF×Obj)) (s:ML) (σ:St) (H:Hp) (Q:Bool->Hp->Prop),Inv X pins σ H s->t σ H Q->MN (model X.prog X.w) X.A (isTrue e X.env whole) (TP X pins σ Q) X.xe s
theorem PW.pt {X:Cx} {e:MO} {t:TT} (h:PW X e t):PT X e t:=h _
def PA (X:Cx) (es:List MO) (t:TA):Prop :=
 ∀ (pos:Pos) (pins:List (MF×Obj)) (s:ML) (σ:St) (H:Hp) (Q:List V->Hp->Prop),Inv X pins σ H s->t σ H Q->MN (model X.prog X.w) X.A (spliced (backTo pos (MP es X.env))) (AP X pins σ Q) X.xe s
def PS (X:Cx) (st:MQ) (t:TS):Prop :=
 ∀ (pins:List (MF×Obj)) (s:ML) (σ:St) (H:Hp) (D:Ends),Inv X pins σ H s->t D σ H->MN (model X.prog X.w) X.A (exec st X.env) (SP X pins D) X.xe s
def ww (X:Cx) (st:List MQ) (t:TS):Prop :=
 ∀ (pins:List (MF×Obj)) (s:ML) (σ:St) (H:Hp) (D:Ends),Inv X pins σ H s->t D σ H->MN (model X.prog X.w) X.A (execs st X.env) (SP X pins D) X.xe s
theorem dR {α:Type} {t:Sem α} {Q Q':α->ML->Prop} {M:Model} {A:MK} {E:MC->ML->Prop} {s:ML} (h:MN M A t Q E s) (hQ:∀ a s,Q a s->Q' a s):MN M A t Q' E s:=MR h hQ fun _ _ x=>x
end L2

namespace L2
open PySem PySem.Spec PyProof.Rows
section
variable {X:Cx}

def qg (i:Nat):TE:=fun σ H Q=>∃ v,σ[i]?=some (some v)/\Q v H
def tC (v:V):TE:=fun _ H Q=>Q v H
theorem Cu {i:Nat} {x:Str} {pos:Pos} (hN:X.N[i]?=some x) (hv:DZ X.env.scope x) (hd:(x==("__debug__":Str))=false:=by decide) (hcd:(x==("__classdict__":Str))=false:=by decide):PE X (.Name x pos) (qg i):=by
 intro pins s σ H Q I h
 obtain⟨v,e,h⟩:=h
 obtain⟨m,hn,hl⟩:=I.loc
 obtain⟨u,r,l⟩:=hl i x v hN e hv
 have fin:EP X pins σ Q u s:=⟨v,H,I,r,h⟩
 rcases l with ⟨hk,hm⟩ | ⟨hk,c,hc,hcell⟩
 ·exact wpAny_Name (wpAny_loadName_local I.ok.kind hk hn hm fin) hd
 ·rcases hk with hk | hk
  ·exact wpAny_Name (wpAny_loadName_cell I.ok.kind hk hc hcell fin) hd
  ·exact wpAny_Name (wpAny_loadName_free I.ok.kind hk hc hcell fin hcd) hd
theorem Dm {i j pos}:PE X (.Constant (.int i) j pos) (tC (.int i)):=fun _ _ _ H _ I h=>wpAny_Constant_int ⟨.int i,H,I.tok _,⟨_,rfl⟩,h⟩
theorem D6 {b j pos}:PE X (.Constant (.bool b) j pos) (tC (.bl b)):=fun _ _ _ H _ I h=>Constant_bool ⟨.bl b,H,I,rfl,h⟩
theorem De {j pos}:PE X (.Constant .none j pos) (tC .non):=fun _ _ _ H _ I h=>Constant_none ⟨.non,H,I,rfl,h⟩
theorem Cz {x j pos}:PE X (.Constant (.str x) j pos) (tC (.str x)):=fun _ _ _ H _ I h=>Calls.Constant_str ⟨.str x,H,I.tok _,⟨_,rfl⟩,h⟩

def Gl (X:Cx) (x:Str):Prop:=X.env.kindOf x=some .globalImplicit
theorem km {E:MC->ML->Prop} {pins:List (MF×Obj)} {s:ML} {σ:St} {H:Hp} {x:Str} {u:MC} {pos:Pos} {Q:MC->ML->Prop} (I:Inv X pins σ H s) (hg:Gl X x) (hm:X.mg x=some u) (h:Q u s)
  (hd:(x==("__debug__":Str))=false:=by decide):MN (model X.prog X.w) X.A (eval (.Name x pos) X.env) Q E s :=
 Calls.Name_function_global I.ok.kind hg (Calls.loadGlobal_global (by rw [I.ok.glob]; exact I.mod.glob.keeps I.bk) hm h) hd
theorem ny {E:MC->ML->Prop} {pins:List (MF×Obj)} {s:ML} {σ:St} {H:Hp} {x:Str} {u:MC} {pos:Pos} {Q:MC->ML->Prop} (I:Inv X pins σ H s) (hg:Gl X x) (hm:X.mg x=none) (hv:MJ x=some u) (h:Q u s)
  (hn:x ≠ "__name__":=by decide) (hd:(x==("__debug__":Str))=false:=by decide):MN (model X.prog X.w) X.A (eval (.Name x pos) X.env) Q E s:=by
 obtain⟨mb,h1,h2⟩:=I.mod.blt
 exact Calls.Name_function_global I.ok.kind hg (Calls.loadGlobal_builtin (by rw [I.ok.glob]; exact I.mod.glob.keeps I.bk) hm (by rw [I.ok.blt]; exact h1.keeps I.bk) ((h2 x hn).trans hv) h) hd
theorem vF {x:Str} {v:V} {u:MC} {pos:Pos} (hg:Gl X x) (hm:X.mg x=some u) (r:RelV v u) (hd:(x==("__debug__":Str))=false:=by decide):PE X (.Name x pos) (tC v) :=
 fun _ _ _ H _ I h=>km I hg hm ⟨v,H,I,r,h⟩ hd
theorem BE {x:Str} {v:V} {u:MC} {pos:Pos} (hg:Gl X x) (hm:X.mg x=none) (hv:MJ x=some u) (r:RelV v u) (hn:x ≠ "__name__":=by decide) (hd:(x==("__debug__":Str))=false:=by decide):PE X (.Name x pos) (tC v) :=
 fun _ _ _ H _ I h=>ny I hg hm hv ⟨v,H,I,r,h⟩ hn hd

variable {a b:MO} {ta tb:TE} {pos:Pos}
variable {tA tB':TT} {rest:List MO}
def HE (t u:TT):TT:=fun σ H Q=>t σ H fun c H1=>if c=true then u σ H1 Q else Q false H1
def Jg (t u:TT):TT:=fun σ H Q=>t σ H fun c H1=>if c=true then Q true H1 else u σ H1 Q
def HV (t:TT):TT:=fun σ H Q=>t σ H fun c H1=>Q (!c) H1
theorem AV (ha:PT X a tA):PW X (.BoolOp .And [a] pos) tA:=by
 intro wh pins s σ H Q I h
 refine isTrue_and (dR (ha pins s σ H Q I h) fun c s1 e=>?_)
 cases c with
 | true=>exact isTrue_and_nil e
 | false=>exact e
theorem C4 (ha:PT X a tA):PW X (.BoolOp .Or [a] pos) tA:=by
 intro wh pins s σ H Q I h
 refine isTrue_or (dR (ha pins s σ H Q I h) fun c s1 e=>?_)
 cases c with
 | false=>exact isTrue_or_nil e
 | true=>exact e
theorem Du (ha:PT X a tA) (hb:PW X (.BoolOp .And (b::rest) pos) tB'):PW X (.BoolOp .And (a::b::rest) pos) (HE tA tB'):=by
 intro wh pins s σ H Q I h
 refine isTrue_and (dR (ha pins s σ H _ I h) fun c s1 ⟨H1,I1,q1⟩=>?_)
 cases c with
 | true=>exact hb wh pins s1 σ H1 Q I1 q1
 | false=>exact⟨H1,I1,q1⟩
theorem Ff (ha:PT X a tA) (hb:PW X (.BoolOp .Or (b::rest) pos) tB'):PW X (.BoolOp .Or (a::b::rest) pos) (Jg tA tB'):=by
 intro wh pins s σ H Q I h
 refine isTrue_or (dR (ha pins s σ H _ I h) fun c s1 ⟨H1,I1,q1⟩=>?_)
 cases c with
 | true=>exact⟨H1,I1,q1⟩
 | false=>exact hb wh pins s1 σ H1 Q I1 q1
theorem DP (ha:PT X a tA):PT X (.UnaryOp .Not a pos) (HV tA):=by
 intro pins s σ H Q I h
 exact isTrue_not (ha pins s σ H (fun c H1=>Q (!c) H1) I h)
def Fb (ta tb:TE):TE:=fun σ H Q=>ta σ H fun x H1=>∃ c,x=.bl c/\if c=true then tb σ H1 Q else Q (.bl false) H1
theorem Dr {op} {t:TE} (h:PE X a t):PE X (.BoolOp op [a] pos) t:=fun pins s σ H Q I hw=>BoolOp_one (h pins s σ H Q I hw)
theorem CV (ha:PE X a ta) (hb:PE X (.BoolOp .And (b::rest) pos) tb):PE X (.BoolOp .And (a::b::rest) pos) (Fb ta tb):=by
 intro pins s σ H Q I h
 refine BoolOp_and (dR (ha pins s σ H _ I h) fun v s1 ⟨x,H1,I1,r1,q1⟩=>?_)
 obtain⟨c,rfl,q1⟩:=q1
 cases r1
 refine MS ?_
 cases c with
 | true=>exact hb pins s1 σ H1 Q I1 q1
 | false=>exact⟨.bl false,H1,I1,rfl,q1⟩
def IW (t:TT) (ta tb:TE):TE:=fun σ H Q=>t σ H fun c H1=>if c=true then ta σ H1 Q else tb σ H1 Q
theorem zx {c:MO} (hc:PT X c tA) (ha:PE X a ta) (hb:PE X b tb):PE X (.IfExp c a b pos) (IW tA ta tb):=by
 intro pins s σ H Q I h
 refine wpAny_IfExp (dR (hc pins s σ H _ I h) fun d s1 ⟨H1,I1,q1⟩=>?_)
 cases d with
 | true=>exact ha pins s1 σ H1 Q I1 q1
 | false=>exact hb pins s1 σ H1 Q I1 q1
end
end L2

namespace L2
open PySem PySem.Spec PyProof.Rows

def la (K:Lj) (H:Hp) (a:MF) (xs:List V):Prop :=
 Rd H a (.lst xs) \/
  ∃ (o:Obj) (its:Array MC) (n:Nat),K.lookup a=some o/\o.cls=.type "list"/\o.dict=none/\o.data=.seq its n/\its.size<=MH/\Vals xs its.toList
def nR (K:Lj) (H:Hp) (a:MF) (xs:List V):Prop :=
 Rd H a (.tup xs) \/
  ∃ (o:Obj) (its:Array MC) (n:Nat),K.lookup a=some o/\o.cls=.type "tuple"/\o.data=.seq its n/\its.size<=MH/\Vals xs its.toList
def Hs:MC->Option V
 | .none=>some .non
 | .bool b=>some (.bl b)
 | .int i _=>some (.int i)
 | .str x _=>some (.str x)
 | .bytes b _=>some (.byt b)
 | .float b _=>some (.flt b)
 | .ref a=>some (.ref a)
 | .type n=>some (.ty n)
 | _=>none
theorem RelV.abs {x:V} {u:MC} (r:RelV x u):Hs u=some x:=by
 cases x with
 | non=>cases r; rfl
 | bl _=>cases r; rfl
 | int _=>obtain⟨t,rfl⟩:=r; rfl
 | str _=>obtain⟨t,rfl⟩:=r; rfl
 | byt _=>obtain⟨t,rfl⟩:=r; rfl
 | flt _=>obtain⟨t,rfl⟩:=r; rfl
 | ref _=>cases r; rfl
 | ty _=>cases r; rfl
theorem RelV.inj {x y:V} {u:MC} (r:RelV x u) (q:RelV y u):x=y:=Option.some.inj (r.abs.symm.trans q.abs)
theorem Vals.inj:∀ {xs ys:List V} {us:List MC},Vals xs us->Vals ys us->xs=ys
 | _,_,_,.nil,.nil=>rfl
 | _,_,_,.cons r t,.cons r' t'=>by rw [r.inj r',Vals.inj t t']
section
variable {X:Cx} {pins:List (MF×Obj)} {σ:St} {H:Hp} {s:ML} {a:MF} {xs ys:List V}
theorem la.of {K:Lj} (h:H a=some (.lst xs)):la K H a xs:=.inl (.inl h)
theorem nR.of {K:Lj} (h:H a=some (.tup xs)):nR K H a xs:=.inl (.inl h)
theorem Inv.list (I:Inv X pins σ H s) (h:la X.K H a xs):∃ its:List MC,Vals xs its/\PlainL s.heap a its.toArray/\xs.length<=MH:=by
 rcases h with h | ⟨o,its,n,hk,hc,hd,hs,hz,r⟩
 ·obtain⟨z,its,n,r,e⟩:=h.ok I.hok
  exact⟨its,r,⟨_,n,e,rfl,rfl,rfl⟩,z⟩
 ·refine⟨its.toList,r,⟨o,n,I.kIn a o hk,hc,hd,by simpa using hs⟩,?_⟩
  have e:=r.length
  simp only [Array.length_toList] at e
  omega
theorem Inv.tuple (I:Inv X pins σ H s) (h:nR X.K H a xs):∃ its:List MC,Vals xs its/\IsTup s.heap a its.toArray/\xs.length<=MH:=by
 rcases h with h | ⟨o,its,n,hk,hc,hs,hz,r⟩
 ·obtain⟨z,its,r,p⟩:=h.ok I.hok
  exact⟨its,r,p,z⟩
 ·refine⟨its.toList,r,⟨o,I.kIn a o hk,hc,n,by simpa using hs⟩,?_⟩
  have e:=r.length
  simp only [Array.length_toList] at e
  omega
theorem Inv.list_inj (I:Inv X pins σ H s) (h:la X.K H a xs) (h':la X.K H a ys):xs=ys:=by
 obtain⟨its,r,⟨o,n,e,_,_,d⟩,_⟩:=I.list h
 obtain⟨its',r',⟨o',n',e',_,_,d'⟩,_⟩:=I.list h'
 rw [e] at e'; cases e'
 rw [d] at d'
 injection d' with d1 _
 have:its=its':=by simpa using congrArg Array.toList d1
 subst this
 exact r.inj r'
theorem Inv.tuple_inj (I:Inv X pins σ H s) (h:nR X.K H a xs) (h':nR X.K H a ys):xs=ys:=by
 obtain⟨its,r,⟨o,e,_,n,d⟩,_⟩:=I.tuple h
 obtain⟨its',r',⟨o',e',_,n',d'⟩,_⟩:=I.tuple h'
 rw [e] at e'; cases e'
 rw [d] at d'
 injection d' with d1 _
 have:its=its':=by simpa using congrArg Array.toList d1
 subst this
 exact r.inj r'
end


section
variable {X:Cx} {st:MQ} {rest:List MQ} {t u:TS} {e:MO} {te:TE} {pos:Pos}
def E8:TS:=fun D σ H=>D.nx σ H
def G9 (t u:TS):TS:=fun D σ H=>t { D with nx:=u D } σ H
theorem wH:ww X [] E8:=fun _ _ σ H _ I h=>MT ⟨σ,H,I,h⟩
theorem yt (h1:PS X st t) (h2:ww X rest u):ww X (st::rest) (G9 t u):=by
 intro pins s σ H D I h
 refine wpAny_execs_cons (dR (h1 pins s σ H { D with nx:=u D } I h) fun f s1 q=>?_)
 cases f with
 | next =>
  obtain⟨σ',H',I',q⟩:=q
  exact h2 pins s1 σ' H' D I' q
 | ret v=>exact q
 | brk=>exact q
 | cont=>exact q
theorem Bn (h1:PS X st t):ww X [st] t:=by
 intro pins s σ H D I h
 refine wpAny_execs_cons (dR (h1 pins s σ H D I h) fun f s1 q=>?_)
 cases f with
 | next=>exact MT q
 | ret v=>exact q
 | brk=>exact q
 | cont=>exact q
theorem Inv.quiet {pins:List (MF×Obj)} {σ:St} {H:Hp} {s:ML} (I:Inv X pins σ H s):interactive X.env=false:=by simp [interactive,I.ok.kind]
def EA (te:TE):TS:=fun D σ H=>te σ H fun _ H1=>D.nx σ H1
theorem sM (he:PE X e te) (hs:swapsWith e none pos.line X.env=pure false:=by rfl):PS X (.Expr e pos) (EA te):=by
 intro pins s σ H D I h
 exact wpAny_Expr_any (dR (he pins s σ H _ I h) fun v s1 ⟨x,H1,I1,r1,q1⟩=>⟨σ,H1,I1,q1⟩) I.quiet hs
def H0 (te:TE):TS:=fun D σ H=>te σ H D.rt
theorem DU (he:PE X e te):PS X (.Return (some e) pos) (H0 te):=by
 intro pins s σ H D I h
 exact wpAny_Return_some (dR (he pins s σ H _ I h) fun v s1 ⟨x,H1,I1,r1,q1⟩=>⟨x,σ,H1,I1,r1,q1⟩)
def Hw (c:TT) (t u:TS):TS:=fun D σ H=>c σ H fun b H1=>if b=true then t D σ H1 else u D σ H1
theorem Fk {c:MO} {a b:List MQ} {tc:TT} (hc:PT X c tc) (ha:ww X a t) (hb:ww X b u):PS X (.If c a b pos) (Hw tc t u):=by
 intro pins s σ H D I h
 refine wpAny_If (dR (hc pins s σ H _ I h) fun d s1 ⟨H1,I1,q1⟩=>?_)
 cases d with
 | true=>exact ha pins s1 σ H1 D I1 q1
 | false=>exact hb pins s1 σ H1 D I1 q1
end

abbrev TG:=V->St->Hp->(St->Hp->Prop)->Prop
abbrev BO:=List V->St->Hp->(St->Hp->Prop)->Prop
def PG (X:Cx) (target:MO) (t:TG):Prop :=
 ∀ (pins:List (MF×Obj)) (s:ML) (σ:St) (H:Hp) (v:V) (u:MC) (Q:St->Hp->Prop),Inv X pins σ H s->RelV v u->t v σ H Q ->
  MN (model X.prog X.w) X.A (assign target X.env u) (fun _ s'=>∃ σ' H',Inv X pins σ' H' s'/\Q σ' H') X.xe s
def Fi (X:Cx) (ts:List MO) (t:BO):Prop :=
 ∀ (pins:List (MF×Obj)) (s:ML) (σ:St) (H:Hp) (vs:List V) (us:List MC) (Q:St->Hp->Prop),Inv X pins σ H s->Vals vs us->t vs σ H Q ->
  MN (model X.prog X.w) X.A (assignInOrder ((assignEach ts X.env).map (·.2)) us) (fun _ s'=>∃ σ' H',Inv X pins σ' H' s'/\Q σ' H') X.xe s
abbrev Do:=V->V->V->Hp->(Hp->Prop)->Prop
def E7 (X:Cx) (t:Do):Prop :=
 ∀ (pins:List (MF×Obj)) (s:ML) (σ:St) (H:Hp) (o i v:V) (ov iv u:MC) (Q:Hp->Prop),Inv X pins σ H s->RelV o ov->RelV i iv->RelV v u->t o i v H Q ->
  MN (model X.prog X.w) X.A (setItem ov iv u) (fun _ s'=>∃ H',Inv X pins σ H' s'/\Q H') X.xe s
section
variable {X:Cx} {pos:Pos}
def qS (i:Nat):TG:=fun v σ H Q=>Q (σ.set i (some v)) H
theorem Ax {i:Nat} {x:Str} (hN:X.N.Nodup) (hi:X.N[i]?=some x) (hx:Loc X.env.scope x) (hf:X.fn x=true\/X.env.scope.names.lookup x=some .local:=by first | exact .inl rfl | exact .inr rfl | assumption):PG X (.Name x pos) (qS i):=by
 intro pins s σ H v u Q I r h
 exact wpAny_assign_Name (pO I hN hi hx r (fun s' I'=>⟨_,H,I',h⟩) hf)
def Hm:BO:=fun vs σ H Q=>vs=[]/\Q σ H
def EI (t:TG) (u:BO):BO:=fun vs σ H Q=>∃ v r,vs=v::r/\t v σ H fun σ' H'=>u r σ' H' Q
theorem Bp:Fi X [] Hm:=by
 intro pins s σ H vs us Q I r h
 obtain⟨e,h⟩:=h
 subst e
 cases r
 exact assignInOrder_nil ⟨σ,H,I,h⟩
theorem zF {e:MO} {es:List MO} {t:TG} {u:BO} (h1:PG X e t) (h2:Fi X es u)
  (hs:(assignEach (e::es) X.env).map (·.2)=assign e X.env::(assignEach es X.env).map (·.2):=by rfl):Fi X (e::es) (EI t u):=by
 intro pins s σ H vs us Q I r h
 obtain⟨v,vr,e1,h⟩:=h
 subst e1
 cases r with
 | cons r rr =>
  rw [hs]
  refine assignInOrder_cons (dR (h1 pins s σ H _ _ _ I r h) fun _ s1 ⟨σ1,H1,I1,q1⟩=>?_)
  exact h2 pins s1 σ1 H1 _ _ Q I1 rr q1
def GZ (K:Lj) (n:Nat) (t:BO):TG:=fun v σ H Q=>∃ a xs,v=.ref a/\nR K H a xs/\xs.length=n/\t xs σ H Q
theorem DJ {es:List MO} {k:Nat} {t:BO} {n:Nat} (hc:X.calm=true) (h:Fi X es t)
  (hn:(assignEach es X.env).length=n:=by rfl) (hst:(assignEach es X.env).findIdx? (·.1)=none:=by rfl):PG X (.Tuple es k pos) (GZ X.K n t):=by
 intro pins s σ H v u Q I r hw
 obtain⟨a,xs,e1,hq,hl,hw⟩:=hw
 subst e1
 cases r
 obtain⟨its,rv,ht,hz⟩:=I.tuple hq
 refine assign_Tuple_tuple (I.ok.hd hc) ht (by simp [hn,<- hl,rv.length]) hst fun h' hx=>?_
 have I1:Inv X pins σ H { s with heap:=h' }:=I.kept (t':=s.toks) fun b o e=>hx b o (Jj (Ma e)) e
 exact h pins _ σ H xs _ Q I1 (by simpa using rv) hw
def pX (to ti:TE) (t:Do):TG:=fun v σ H Q=>to σ H fun o H1=>ti σ H1 fun i H2=>t o i v H2 fun H3=>Q σ H3
theorem Df {o i:MO} {to ti:TE} {t:Do} (ho:PE X o to) (hi:PE X i ti) (hs:E7 X t)
  (ha:∀ v,assign (.Subscript o i pos) X.env v=(do
   let ov <- holding [v] (eval o X.env)
   let iv <- holding [v,ov] (eval i X.env)
   standAt pos
   holding [v,ov,iv] (setItem ov iv v)
   release [v,ov,iv] []):=by intro _; rfl):PG X (.Subscript o i pos) (pX to ti t):=by
 intro pins s σ H v u Q I r h
 rw [ha]
 refine MU (MV (dR (ho pins s σ H _ I h) fun ov s1 ⟨x,H1,I1,r1,q1⟩=>?_))
 refine MU (MV (dR (hi pins s1 σ H1 _ I1 q1) fun iv s2 ⟨y,H2,I2,r2,q2⟩=>?_))
 refine MU (MX (MU (MV (dR (hs pins s2 σ H2 x y v ov iv u _ I2 r1 r2 r q2) fun _ s3 ⟨H3,I3,q3⟩=>?_))))
 exact wpAny_release ⟨σ,H3,I3,q3⟩
def zy (te:TE) (g:TG):TS:=fun D σ H=>te σ H fun x H1=>g x σ H1 D.nx
theorem yY {tg e:MO} {te:TE} {g:TG} (he:PE X e te) (hg:PG X tg g) (hs:swapsWithSole [tg] e pos.line X.env=pure false:=by rfl) (hw:swappedStores [tg] e X.env=pure none:=by rfl)
  (h1:(assignEach [tg] X.env).map (·.2)=[assign tg X.env]:=by rfl):PS X (.Assign [tg] e pos) (zy te g):=by
 intro pins s σ H D I h
 refine wpAny_Assign_stores (dR (he pins s σ H _ I h) fun v s1 ⟨x,H1,I1,r1,q1⟩=>?_) hs hw
 rw [h1]
 exact dR (hg pins s1 σ H1 x v _ I1 r1 q1) fun _ s2 q=>q
theorem zk {i:Nat} {x:Str} {e:MO} {te:TE} {pos':Pos} (hN:X.N.Nodup) (hi:X.N[i]?=some x) (hx:Loc X.env.scope x) (he:PE X e te) (hs:swapsWith e (some (.Name x pos')) pos.line X.env=pure false:=by rfl) (hf:X.fn x=true\/X.env.scope.names.lookup x=some .local:=by first | exact .inl rfl | exact .inr rfl | assumption) :
  PS X (.Assign [.Name x pos'] e pos) (zy te (qS i)):=by
 intro pins s σ H D I h
 refine wpAny_Assign_Name (dR (he pins s σ H _ I h) fun v s1 ⟨y,H1,I1,r1,q1⟩=>?_) hs
 exact pO I1 hN hi hx r1 (fun s2 I2=>⟨_,H1,I2,q1⟩) hf
end


structure It where
 go:Nat->Hp->Prop
 yld:Nat->Hp->V->Hp->Prop
 stop:Nat->Hp->Prop
def qj (X:Cx) (pins:List (MF×Obj)) (H:Hp) (b:MF):Prop :=
 H b=none/\b≠X.env.locals/\b∉X.fs/\(b∈X.ex\/X.s₀.heap.objs.size<=b)/\(∀ x c,X.env.cells.lookup x=some c->c≠b)/\∀ p∈X.pn++pins,p.1≠b
theorem Inv.fpOk {X:Cx} {pins:List (MF×Obj)} {σ:St} {H H':Hp} {s:ML} {b:MF} (I:Inv X pins σ H s) (hb:s.heap.objs.size<=b) (hn:H' b=none):qj X pins H' b:=by
 refine⟨hn,Js (Jh I.lt hb),I.nofs hb,.inr (Jk I.sz hb),fun x c e z=>?_,fun p hp z=>?_⟩
 ·obtain⟨v,q⟩:=I.cell x c e
  exact absurd (Jh q.lt (by rw [z]; exact hb)) (Ji _)
 ·exact absurd (Jh (Ma (I.pin p hp).1) (by rw [z]; exact hb)) (Ji _)
structure Turn (P:ME) (w:MD) (K:Lj) (tg:MO) (J:It) (fp:List MF) (it:MF) (tn:Nat->MG->Prop):Prop where
 mem:it∈fp
 obj:∀ i h,tn i h->∀ b∈fp,∃ o,h.get? b=some o/\∀ v,o.data≠.cell v
 keep:∀ i h h',tn i h->(∀ b∈fp,∀ o,h.get? b=some o->h'.get? b=some o)->tn i h'
 item:∀ (X:Cx),X.prog=P->X.w=w->X.K=K->X.calm=true->∀ (i:Nat) (pins:List (MF×Obj)) (s:ML) (σ:St) (H:Hp) (E:MC->ML->Prop),Inv X pins σ H s->(∀ b∈fp,qj X pins H b)->tn i s.heap->J.go i H ->
  MN (model P w) X.A (pyNext (.ref it)) (fun r s1=>∃ u,r=some u /\
   MN (model P w) X.A (letOwnedTupleGo tg (.ref it) u) (fun _ s2=>∃ x H',Inv X pins σ H' s2/\RelV x u/\J.yld i H x H'/\tn (i+1) s2.heap/\∀ b∈fp,H' b=none) E s1) E s
 done:∀ (X:Cx),X.prog=P->X.w=w->X.K=K->X.calm=true->∀ (i:Nat) (pins:List (MF×Obj)) (s:ML) (σ:St) (H:Hp) (E:MC->ML->Prop),Inv X pins σ H s->(∀ b∈fp,qj X pins H b)->tn i s.heap->J.stop i H ->
  MN (model P w) X.A (pyNext (.ref it)) (fun r s1=>r=none/\Inv X pins σ H s1) E s
 self:∀ (A:MK) (i:Nat) (s:ML) (Q:MC->ML->Prop) (E:MC->ML->Prop),tn i s.heap->Q (.ref it) s->MN (model P w) A (pyIter (.ref it)) Q E s
abbrev TI:=St->Hp->(It->Hp->Prop)->Prop
def PIE (X:Cx) (pins:List (MF×Obj)) (σ:St) (tg:MO) (R:It->Hp->Prop) (itv:MC) (s2:ML):Prop :=
 ∃ (it:MF) (fp:List MF) (tn:Nat->MG->Prop) (J:It) (H':Hp),itv=.ref it/\Inv X pins σ H' s2/\Turn X.prog X.w X.K tg J fp it tn/\tn 0 s2.heap/\(∀ b∈fp,qj X pins H' b)/\R J H'
def PI (X:Cx) (tg iter:MO) (wi:TI):Prop :=
 ∀ (pins:List (MF×Obj)) (s:ML) (σ:St) (H:Hp) (R:It->Hp->Prop),Inv X pins σ H s->wi σ H R ->
  MN (model X.prog X.w) X.A (eval iter X.env) (fun v s1=>MN (model X.prog X.w) X.A (pyIter v) (PIE X pins σ tg R) X.xe s1) X.xe s

theorem zU {M:Model} {A:MK} {E:MC->ML->Prop} {s:ML} {tg:MO} {it:MF} {u:MC} {o:Obj} {n:String} {vs:Array MC} {Q:Unit->ML->Prop} (ho:s.heap.get? it=some o) (hc:o.cls=.type n) (hd:o.data=.fields vs)
    (hn:["enumerate","zip","dict_itemiterator","dict_reverseitemiterator","odict_iterator","itertools.zip_longest","itertools.pairwise"].contains n=false) (hQ:Q () s):MN M A (letOwnedTupleGo tg (.ref it) u) Q E s:=by
  unfold letOwnedTupleGo
  cases tg <;> first
    | exact MY hQ
    | (cases u <;> first
        | exact MY hQ
        | (refine MU (wpAny_load ho ?_)
           rw [hc,hd]
           show MN M A (if (["enumerate","zip","dict_itemiterator","dict_reverseitemiterator","odict_iterator","itertools.zip_longest","itertools.pairwise"].contains n && vs[0]?==some (rawInt _))=true then _ else _) Q E s
           rw [if_neg (by intro h; rw [hn,Bool.false_and] at h; cases h)]
           exact MY hQ))

def Hc (K:Lj) (a:MF):It :=
 ⟨fun i H=>∃ xs x,la K H a xs/\xs[i]?=some x,fun i H x H'=>H'=H/\∀ xs,la K H a xs->xs[i]?=some x,fun i H=>∃ xs,la K H a xs/\xs.length<=i⟩
def Hy (K:Lj) (a:MF):It :=
 ⟨fun i H=>∃ xs x,nR K H a xs/\xs[i]?=some x,fun i H x H'=>H'=H/\∀ xs,nR K H a xs->xs[i]?=some x,fun i H=>∃ xs,nR K H a xs/\xs.length<=i⟩
def Gj (lo:Int) (n:Nat):It:=⟨fun i _=>i < n,fun i H x H'=>H'=H/\x=.int (lo+i),fun i _=>n<=i⟩
theorem ya {P:ME} {w:MD} {K:Lj} {tg:MO} (a it:MF):Turn P w K tg (Hc K a) [it] it (fun i h=>h.IsListIter it a i) where
 mem:=by simp
 obj:=fun i h st b hb=>by
  have e:b=it:=by simpa using hb
  subst e
  obtain⟨o,e,c,d⟩:=st
  exact⟨o,e,fun v z=>by rw [d] at z; cases z⟩
 keep:=fun i h h' st k=>st.at fun o e=>k it (by simp) o e
 item:=by
  intro X hP hw hK hc i pins s σ H E I hf st hg
  subst hP hw hK
  obtain⟨xs,x,hq,hx⟩:=hg
  obtain⟨its,rv,p,hz⟩:=I.list hq
  obtain⟨u,hu,ru⟩:=rv.get hx
  obtain⟨f0,f1,f2,f3,f4,f5⟩:=hf it (by simp)
  refine wpAny_pyNext_list_item st p.isList (x:=u) (by simpa using hu) fun h' st' sb=>?_
  have I1:Inv X pins σ H { s with heap:=h' }:=I.turned (t':=s.toks) (fun b o hb e=>(sb.2 b hb).trans e) f0 f1 f3 f4 f5
  obtain⟨o,e,c,d⟩:=id st'
  exact⟨u,rfl,zU (s:={ s with heap:=h' }) e c d (by decide) ⟨x,H,I1,ru,⟨rfl,fun ys hy=>by rw [I.list_inj hy hq]; exact hx⟩,st',fun b hb=>(hf b hb).1⟩⟩
 done:=by
  intro X hP hw hK hc i pins s σ H E I hf st hg
  subst hP hw hK
  obtain⟨xs,hq,hx⟩:=hg
  obtain⟨its,rv,p,hz⟩:=I.list hq
  obtain⟨f0,f1,f2,f3,f4,f5⟩:=hf it (by simp)
  have hl:=rv.length
  exact wpAny_pyNext_list_end (I.ok.hd hc) st p.isList (by simp; omega) fun h' eb=>⟨rfl,I.turned (t':=s.toks) (fun b o hb e=>eb b o hb e) f0 f1 f3 f4 f5⟩
 self:=fun _ _ _ _ _ st h=>wpAny_pyIter_listiter st h
theorem vn {P:ME} {w:MD} {K:Lj} {tg:MO} (a it:MF):Turn P w K tg (Hy K a) [it] it (fun i h=>h.IsTupleIter it a i) where
 mem:=by simp
 obj:=fun i h st b hb=>by
  have e:b=it:=by simpa using hb
  subst e
  obtain⟨o,e,c,d⟩:=st
  exact⟨o,e,fun v z=>by rw [d] at z; cases z⟩
 keep:=fun i h h' st k=>st.at fun o e=>k it (by simp) o e
 item:=by
  intro X hP hw hK hc i pins s σ H E I hf st hg
  subst hP hw hK
  obtain⟨xs,x,hq,hx⟩:=hg
  obtain⟨its,rv,p,hz⟩:=I.tuple hq
  obtain⟨u,hu,ru⟩:=rv.get hx
  obtain⟨f0,f1,f2,f3,f4,f5⟩:=hf it (by simp)
  refine wpAny_pyNext_tuple_item st (show s.heap.IsTuple a its.toArray from p) (x:=u) (by simpa using hu) fun h' st' sb=>?_
  have I1:Inv X pins σ H { s with heap:=h' }:=I.turned (t':=s.toks) (fun b o hb e=>(sb.2 b hb).trans e) f0 f1 f3 f4 f5
  obtain⟨o,e,c,d⟩:=id st'
  exact⟨u,rfl,zU (s:={ s with heap:=h' }) e c d (by decide) ⟨x,H,I1,ru,⟨rfl,fun ys hy=>by rw [I.tuple_inj hy hq]; exact hx⟩,st',fun b hb=>(hf b hb).1⟩⟩
 done:=by
  intro X hP hw hK hc i pins s σ H E I hf st hg
  subst hP hw hK
  obtain⟨xs,hq,hx⟩:=hg
  obtain⟨its,rv,p,hz⟩:=I.tuple hq
  obtain⟨f0,f1,f2,f3,f4,f5⟩:=hf it (by simp)
  have hl:=rv.length
  exact wpAny_pyNext_tuple_end (I.ok.hd hc) st (show s.heap.IsTuple a its.toArray from p) (by simp; omega) fun h' eb=>⟨rfl,I.turned (t':=s.toks) (fun b o hb e=>eb b o hb e) f0 f1 f3 f4 f5⟩
 self:=fun _ _ _ _ _ st h=>wpAny_pyIter_tupleiter st h
theorem uR {P:ME} {w:MD} {K:Lj} {tg:MO} (it:MF) (lo:Int) (n:Nat):Turn P w K tg (Gj lo n) [it] it (fun i h=>IsRangeIter h it (lo+(i:Nat)*1) ((n:Int) - (i:Nat)) 1) where
 mem:=by simp
 obj:=fun i h st b hb=>by
  have e:b=it:=by simpa using hb
  subst e
  exact⟨_,st,fun v z=>by
   have z':Data.fields _=Data.cell v:=z
   cases z'⟩
 keep:=fun i h h' st k=>k it (by simp) _ st
 item:=by
  intro X hP hw hK hc i pins s σ H E I hf st hg
  subst hP hw hK
  obtain⟨f0,f1,f2,f3,f4,f5⟩:=hf it (by simp)
  have W:=Walks.range (prog:=X.prog) (w:=X.w) (I.ok.hd hc) it lo 1 n
  refine W.item i s _ _ hg st fun v h' tk hv st' kk=>?_
  obtain⟨t,rfl⟩:=hv
  have I1:Inv X pins σ H { s with heap:=h',toks:=tk }:=I.turned (fun b o hb e=>kk b o (by simpa using hb) e) f0 f1 f3 f4 f5
  refine⟨_,rfl,zU (s:={ s with heap:=h',toks:=tk }) (n := "range_iterator") st' rfl rfl (by decide) ⟨.int (lo+i),H,I1,⟨t,?_⟩,⟨rfl,rfl⟩,st',fun b hb=>(hf b hb).1⟩⟩
  rw [Int.mul_one]
 done:=by
  intro X hP hw hK hc i pins s σ H E I hf st hg
  subst hP hw hK
  obtain⟨f0,f1,f2,f3,f4,f5⟩:=hf it (by simp)
  exact wpAny_pyNext_range_end (I.ok.hd hc) st (by have:n<=i:=hg; omega) fun h' eb=>⟨rfl,I.turned (t':=s.toks) (fun b o hb e=>eb b o hb e) f0 f1 f3 f4 f5⟩
 self:=fun _ _ _ _ _ st h=>wpAny_pyIter_rangeiter st h
end L2

namespace L2
open PySem PySem.Spec PyProof.Rows
section
variable {X:Cx} {tg:MO}
def EC (K:Lj) (tl:TE):TI:=fun σ H R=>tl σ H fun x H1=>∃ a,x=.ref a/\(∃ xs,la K H1 a xs)/\R (Hc K a) H1
def Io (K:Lj) (tl:TE):TI:=fun σ H R=>tl σ H fun x H1=>∃ a,x=.ref a/\(∃ xs,nR K H1 a xs)/\R (Hy K a) H1
theorem wn {l:MO} {tl:TE} (hl:PE X l tl):PI X tg l (EC X.K tl):=by
 intro pins s σ H R I h
 refine dR (hl pins s σ H _ I h) fun v s1 ⟨x,H1,I1,r1,q1⟩=>?_
 obtain⟨a,e,⟨xs,hq⟩,q⟩:=q1
 subst e
 cases r1
 obtain⟨its,rv,p,hz⟩:=I1.list hq
 refine MZ p.isList ?_
 refine⟨s1.heap.objs.size,[s1.heap.objs.size],_,_,H1,rfl,I1.kept (t':=s1.toks) fun b o e=>Md _ e,ya a _,⟨_,Mf _ rfl,rfl,rfl⟩,fun b hb=>?_,q⟩
 have e:b=s1.heap.objs.size:=by simpa using hb
 subst e
 exact I1.fpOk (Jt _) (I1.hok.fresh (Jt _))
theorem DR {l:MO} {tl:TE} (hl:PE X l tl):PI X tg l (Io X.K tl):=by
 intro pins s σ H R I h
 refine dR (hl pins s σ H _ I h) fun v s1 ⟨x,H1,I1,r1,q1⟩=>?_
 obtain⟨a,e,⟨xs,hq⟩,q⟩:=q1
 subst e
 cases r1
 obtain⟨its,rv,p,hz⟩:=I1.tuple hq
 refine wpAny_pyIter_tuple (show s1.heap.IsTuple a its.toArray from p) ?_
 refine⟨s1.heap.objs.size,[s1.heap.objs.size],_,_,H1,rfl,I1.kept (t':=s1.toks) fun b o e=>Md _ e,vn a _,⟨_,Mf _ rfl,rfl,rfl⟩,fun b hb=>?_,q⟩
 have e:b=s1.heap.objs.size:=by simpa using hb
 subst e
 exact I1.fpOk (Jt _) (I1.hok.fresh (Jt _))
theorem yp {pins:List (MF×Obj)} {σ:St} {H:Hp} {s:ML} {R:It->Hp->Prop} {E:MC->ML->Prop} {lo hi:Int} {t u v:Tok} {tk:Nat} (I:Inv X pins σ H s) (h1:-(2 ^ 62)<=lo) (h2:lo < 2 ^ 62) (h3:-(2 ^ 62)<=hi) (h4:hi < 2 ^ 62)
  (q:R (Gj lo (hi - lo).toNat) H):MN (model X.prog X.w) X.A (pyIter (.ref s.heap.objs.size)) (PIE X pins σ tg R) E { s with heap:=s.heap.push { cls:=.type "range",data:=.fields #[.int lo t,.int hi u,.int 1 v] },toks:=tk }:=by
 refine wpAny_pyIter_range (IsRange.new ..) (small_one h1 h2 h3 h4) ?_
 have I1:Inv X pins σ H { s with heap:=s.heap.push { cls:=.type "range",data:=.fields #[.int lo t,.int hi u,.int 1 v] },toks:=tk }:=I.kept fun b o e=>Md _ e
 refine⟨(s.heap.push { cls:=.type "range",data:=.fields #[.int lo t,.int hi u,.int 1 v] }).objs.size,[(s.heap.push { cls:=.type "range",data:=.fields #[.int lo t,.int hi u,.int 1 v] }).objs.size],_,_,H,rfl,
  I1.kept (t':=tk) fun b o e=>Md _ e,uR _ lo (hi - lo).toNat,?_,fun b hb=>?_,q⟩
 ·have e1:lo+((0:Nat):Int)*1=lo:=by simp
  have e2:(((hi - lo).toNat:Nat):Int) - ((0:Nat):Int)=Builtin.Range.rangeSize lo hi 1:=by rw [rangeSize_one]; split <;> omega
  show IsRangeIter _ _ (lo+((0:Nat):Int)*1) ((((hi - lo).toNat:Nat):Int) - ((0:Nat):Int)) 1
  rw [e1,e2]
  exact Mf _ rfl
 ·have e:b=(s.heap.push { cls:=.type "range",data:=.fields #[.int lo t,.int hi u,.int 1 v] }).objs.size:=by simpa using hb
  subst e
  exact I1.fpOk (Jt _) (I1.hok.fresh (Jt _))
def Fx (ta:TA):TI:=fun σ H R=>ta σ H fun vs H1=>∃ j:Int,vs=[.int j]/\-(2 ^ 62)<=j/\j < 2 ^ 62/\R (Gj 0 j.toNat) H1
theorem xL {a:MO} {ta:TA} {p pos:Pos} (hg:Gl X "range") (hm:X.mg "range"=none) (ha:PA X [a] ta) (hs:MP [a] X.env=[(false,eval a X.env)]:=by rfl):PI X tg (.Call (.Name "range" p) [a] [] pos) (Fx ta):=by
 intro pins s σ H R I h
 refine Call_ (ny I hg hm boot_range (Mk (dR (ha pos pins s σ H _ I h) fun us s1 ⟨vs,H1,I1,r1,q1⟩=>?_) hs rfl))
 obtain⟨j,e,q1,q2,q⟩:=q1
 subst e
 cases r1 with
 | cons r rr =>
  cases rr
  obtain⟨t,rfl⟩:=r
  exact call_range_1 (yp I1 ‹0› ‹0› q1 q2 (by simpa using q))
def Hu (wi:TI) (g:TG) (tb:TS):TS:=fun D σ H=>wi σ H fun J H1=>∃ W:Nat->Nat->St->Hp->Prop,(∃ m,W 0 m σ H1)/\∀ i m σ H,W i m σ H ->
 (J.stop i H/\D.nx σ H)\/(J.go i H/\∃ N:St->Hp->Prop,(∀ σ' H',N σ' H'->∃ m',m' < m/\W (i+1) m' σ' H')/\∀ x H',J.yld i H x H'->g x σ H' fun σ2 H2=>tb { D with nx:=N,ct:=N,bk:=D.nx } σ2 H2)
def oZ (fp:List MF) (h:MG):List (MF×Obj):=fp.filterMap fun b=>(h.get? b).map fun o=>(b,o)
theorem je {fp:List MF} {h:MG} {b:MF} {o:Obj} (hb:b∈fp) (e:h.get? b=some o):(b,o)∈oZ fp h:=List.mem_filterMap.mpr ⟨b,hb,by rw [e]; rfl⟩
theorem xf {fp:List MF} {h:MG} {p:MF×Obj} (hp:p∈oZ fp h):p.1∈fp/\h.get? p.1=some p.2:=by
 obtain⟨b,hb,e⟩:=List.mem_filterMap.mp hp
 cases q:h.get? b with
 | none=>rw [q] at e; cases e
 | some o =>
  rw [q] at e
  have e':(b,o)=p:=Option.some.inj e
  subst e'
  exact⟨hb,q⟩
theorem Inv.pinned {pins:List (MF×Obj)} {σ:St} {H:Hp} {s:ML} {fp:List MF} (I:Inv X pins σ H s) (hf:∀ b∈fp,qj X pins H b) (ho:∀ b∈fp,∃ o,s.heap.get? b=some o/\∀ v,o.data≠.cell v):Inv X (pins++oZ fp s.heap) σ H s :=
 I.pins_of fun p hp=>(List.mem_append.mp hp).elim (fun z=>I.pin p (Ju _ z)) fun z=>by
  obtain⟨hb,e⟩:=xf z
  obtain⟨f0,f1,f2,_⟩:=hf p.1 hb
  obtain⟨o,e',d⟩:=ho p.1 hb
  rw [e] at e'; cases e'
  exact⟨e,f0,f1,f2,d⟩
theorem Inv.unpinned {pins pl:List (MF×Obj)} {σ:St} {H:Hp} {s:ML} (I:Inv X (pins++pl) σ H s):Inv X pins σ H s:=I.pins_of fun p hp=>I.pin p (Ju _ (Jp _ hp))
theorem DQ {iter:MO} {body:List MQ} {wi:TI} {g:TG} {tb:TS} {pos:Pos} (hp:M0 (model X.prog X.w) X.A X.env X.xe) (hc:X.calm=true) (hi:PI X tg iter wi) (hg:PG X tg g) (hb:ww X body tb)
  (hs:∀ x,M1 iter X.env x=pure x:=by intro _; rfl):PS X (.For tg iter body [] pos) (Hu wi g tb):=by
 intro pins s σ H D I h
 refine wpAny_For (dR (hi pins s σ H _ I h) fun v s1 h1=>dR h1 fun itv s2 h2=>?_) hs
 obtain⟨it,fp,tn,J,H2,e,I2,T,st2,f2,W,⟨m0,w0⟩,turn⟩:=h2
 subst e
 have stat:∀ {H':Hp},(∀ b∈fp,H' b=none)->∀ b∈fp,qj X pins H' b:=fun hn b hb=>⟨hn b hb,(f2 b hb).2⟩
 refine codeAny_forLoop_any (fun n s'=>∃ i σ' H',Inv X pins σ' H' s'/\tn i s'.heap/\(∀ b∈fp,H' b=none)/\W i n σ' H') ?_ m0 ⟨0,σ,H2,I2,st2,fun b hb=>(f2 b hb).1,w0⟩
 rintro n s3 ⟨i,σ3,H3,I3,st3,fr3,w3⟩
 rcases turn i n σ3 H3 w3 with ⟨stop,qn⟩ | ⟨go,N,hN,step⟩
 ·refine M2 hp (dR (T.done X rfl rfl rfl hc i pins s3 σ3 H3 X.xe I3 (stat fr3) st3 stop) fun r s4 ⟨hr,I4⟩=>?_)
  subst hr
  exact MT ⟨σ3,H3,I4,qn⟩
 ·refine M2 hp (dR (T.item X rfl rfl rfl hc i pins s3 σ3 H3 X.xe I3 (stat fr3) st3 go) fun r s4 ⟨u,hr,h4⟩=>?_)
  subst hr
  refine M2 hp (dR h4 fun _ s5 ⟨x,H5,I5,r5,y5,st5,fr5⟩=>?_)
  have I5':=I5.pinned (stat fr5) (T.obj _ _ st5)
  refine M2 hp (dR (hg _ s5 σ3 H5 x u _ I5' r5 (step x H5 y5)) fun _ s6 ⟨σ6,H6,I6,q6⟩=>?_)
  refine M2 hp (dR (hb _ s6 σ6 H6 _ I6 q6) fun f s7 q7=>?_)
  have again:∀ {σ7:St} {H7:Hp},Inv X (pins++oZ fp s5.heap) σ7 H7 s7->N σ7 H7->∃ m,m < n/\∃ i σ' H',Inv X pins σ' H' s7/\tn i s7.heap/\(∀ b∈fp,H' b=none)/\W i m σ' H':=fun {σ7 H7} I7 n7=>by
   obtain⟨m',hm,w7⟩:=hN σ7 H7 n7
   refine⟨m',hm,i+1,σ7,H7,I7.unpinned,T.keep _ _ _ st5 fun b hb o e=>(I7.pin (b,o) (Ju _ (Ju _ (je hb e)))).1,fun b hb=>?_,w7⟩
   obtain⟨o,e,d⟩:=T.obj _ _ st5 b hb
   exact(I7.pin (b,o) (Ju _ (Ju _ (je hb e)))).2.1
  cases f with
  | next=>obtain⟨σ7,H7,I7,n7⟩:=q7; exact again I7 n7
  | cont=>obtain⟨σ7,H7,I7,n7⟩:=q7; exact again I7 n7
  | brk=>obtain⟨σ7,H7,I7,q7⟩:=q7; exact⟨σ7,H7,I7.unpinned,q7⟩
  | ret v=>obtain⟨x7,σ7,H7,I7,r7,q7⟩:=q7; exact⟨x7,σ7,H7,I7.unpinned,r7,q7⟩
end

end L2

namespace L2
open PySem PySem.Spec PyProof.Rows

abbrev R2:=V->V->Hp->VK->Prop
def jw (X:Cx) (f:MC->MC->Sem MC) (r:R2):Prop :=
 ∀ (pins:List (MF×Obj)) (s:ML) (σ:St) (H:Hp) (x y:V) (v u:MC) (Q:VK),Inv X pins σ H s->RelV x v->RelV y u->r x y H Q ->
  MN (model X.prog X.w) X.A (f v u) (EP X pins σ Q) X.xe s
def HN (X:Cx) (f:MC->Sem MC) (r:V->Hp->VK->Prop):Prop :=
 ∀ (pins:List (MF×Obj)) (s:ML) (σ:St) (H:Hp) (x:V) (v:MC) (Q:VK),Inv X pins σ H s->RelV x v->r x H Q ->
  MN (model X.prog X.w) X.A (f v) (EP X pins σ Q) X.xe s
def dA (X:Cx) (f:MC) (r:List V->Hp->VK->Prop):Prop :=
 ∀ (pins:List (MF×Obj)) (s:ML) (σ:St) (H:Hp) (xs:List V) (us:List MC) (Q:VK),Inv X pins σ H s->Vals xs us->r xs H Q ->
  MN (model X.prog X.w) X.A (call f us) (EP X pins σ Q) X.xe s
def HP (X:Cx) (r:V->Hp->(Bool->Hp->Prop)->Prop):Prop :=
 ∀ (pins:List (MF×Obj)) (s:ML) (σ:St) (H:Hp) (x:V) (v:MC) (Q:Bool->Hp->Prop),Inv X pins σ H s->RelV x v->r x H Q ->
  MN (model X.prog X.w) X.A (truthy v) (TP X pins σ Q) X.xe s

def Fz (r:R2) (ta tb:TE):TE:=fun σ H Q=>ta σ H fun x H1=>tb σ H1 fun y H2=>r x y H2 Q
def IB (r:V->Hp->VK->Prop) (ta:TE):TE:=fun σ H Q=>ta σ H fun x H1=>r x H1 Q
def rI (C:Int->Int->Prop) (g:Int->Int->V):R2:=fun x y H Q=>∃ i j,x=.int i/\y=.int j/\C i j/\Q (g i j) H
def yd (g:Int->Int->V):R2:=fun x y H Q=>∃ i j,x=.int i/\y=.int j/\Q (g i j) H
def rU (g:Int->V):V->Hp->VK->Prop:=fun x H Q=>∃ i,x=.int i/\Q (g i) H

section
variable {X:Cx} {a b c:MO} {ta tb tc:TE} {pos:Pos}

theorem C8 (ha:PE X a ta) (hb:PE X b tb) {pins:List (MF×Obj)} {s:ML} {σ:St} {H:Hp} {R:V->V->Hp->Prop} (I:Inv X pins σ H s)
  (h:ta σ H fun x H1=>tb σ H1 fun y H2=>R x y H2) {Q:MC->ML->Prop} {f:MC->MC->Sem MC}
  (hf:∀ v u s2 x y H2,Inv X pins σ H2 s2->RelV x v->RelV y u->R x y H2->MN (model X.prog X.w) X.A (f v u) Q X.xe s2) :
  MN (model X.prog X.w) X.A (eval a X.env) (fun v s₁=>MN (model X.prog X.w) X.A (eval b X.env) (fun u s₂=>MN (model X.prog X.w) X.A (f v u) Q X.xe s₂) X.xe s₁) X.xe s:=by
 refine dR (ha pins s σ H _ I h) fun v s1 ⟨x,H1,I1,r1,q1⟩=>?_
 refine dR (hb pins s1 σ H1 _ I1 q1) fun u s2 ⟨y,H2,I2,r2,q2⟩=>?_
 exact hf v u s2 x y H2 I2 r1 r2 q2

theorem B9 {op:Operator} {r:R2} (ho:jw X (M3 op) r) (ha:PE X a ta) (hb:PE X b tb):PE X (.BinOp a op b pos) (Fz r ta tb):=by
 intro pins s σ H Q I h
 exact wpAny_BinOp (C8 ha hb I h fun v u s2 x y H2 I2 rx ry q=>ho pins s2 σ H2 x y v u Q I2 rx ry q)
theorem ED {op:UnaryOp} {r:V->Hp->VK->Prop} (ho:HN X (unaryOp op) r) (ha:PE X a ta):PE X (.UnaryOp op a pos) (IB r ta):=by
 intro pins s σ H Q I h
 exact UnaryOp_ (dR (ha pins s σ H _ I h) fun v s1 ⟨x,H1,I1,r1,q1⟩=>ho pins s1 σ H1 x v Q I1 r1 q1)
theorem D9 {f:MC->MC->Sem MC} {C:Int->Int->Prop} {g:Int->Int->Int}
  (rule:∀ (i j:Int) (t u:Tok) (s:ML) (Q:MC->ML->Prop) (E:MC->ML->Prop),C i j->Q (.int (g i j) s.toks) { s with toks:=s.toks+1 }->MN (model X.prog X.w) X.A (f (.int i t) (.int j u)) Q E s) :
  jw X f (rI C fun i j=>.int (g i j)):=by
 intro pins s σ H x y v u Q I rx ry h
 obtain⟨i,j,rfl,rfl,hc,q⟩:=h
 obtain⟨t,rfl⟩:=rx
 obtain⟨t',rfl⟩:=ry
 exact rule i j t t' s _ _ hc ⟨.int (g i j),H,I.tok _,⟨_,rfl⟩,q⟩
theorem Dg {f:MC->MC->Sem MC} {g:Int->Int->Int}
  (rule:∀ (i j:Int) (t u:Tok) (s:ML) (Q:MC->ML->Prop) (E:MC->ML->Prop),Q (.int (g i j) s.toks) { s with toks:=s.toks+1 }->MN (model X.prog X.w) X.A (f (.int i t) (.int j u)) Q E s) :
  jw X f (yd fun i j=>.int (g i j)):=by
 intro pins s σ H x y v u Q I rx ry h
 obtain⟨i,j,rfl,rfl,q⟩:=h
 obtain⟨t,rfl⟩:=rx
 obtain⟨t',rfl⟩:=ry
 exact rule i j t t' s _ _ ⟨.int (g i j),H,I.tok _,⟨_,rfl⟩,q⟩
theorem CJ {f:MC->MC->Sem MC} {g:Int->Int->Bool}
  (rule:∀ (i j:Int) (t u:Tok) (s:ML) (Q:MC->ML->Prop) (E:MC->ML->Prop),Q (.bool (g i j)) s->MN (model X.prog X.w) X.A (f (.int i t) (.int j u)) Q E s) :
  jw X f (yd fun i j=>.bl (g i j)):=by
 intro pins s σ H x y v u Q I rx ry h
 obtain⟨i,j,rfl,rfl,q⟩:=h
 obtain⟨t,rfl⟩:=rx
 obtain⟨t',rfl⟩:=ry
 exact rule i j t t' s _ _ ⟨.bl (g i j),H,I,rfl,q⟩

def EK (i j:Int):Prop:=0<=j/\j<=1000000/\i.natAbs < 2 ^ 64
def DN (i j:Int):Prop:=(-(2 ^ 64) < i/\i < 2 ^ 64)\/(-(2 ^ 64) < j/\j < 2 ^ 64)
theorem DN.ok {i j:Int} (h:DN i j):IntMulOk i j:=by
 rcases h with ⟨h1,h2⟩ | ⟨h1,h2⟩
 ·exact .of_left (intBits_le_64 h1 h2)
 ·exact .of_right (intBits_le_64 h1 h2)
theorem vm (k:Nat):(0:Int)<=2 ^ k:=by
 rw [two_pow_cast]
 exact Int.natCast_nonneg _

theorem Dh:jw X (M3 .Add) (yd fun i j=>.int (i+j)):=Dg fun _ _ _ _ _ _ _ q=>add_int q
theorem oQ:jw X (M3 .Sub) (yd fun i j=>.int (i - j)):=Dg fun _ _ _ _ _ _ _ q=>sub_int q
theorem il:jw X (M3 .Mult) (rI DN fun i j=>.int (i*j)):=D9 fun _ _ _ _ _ _ _ hc q=>mul_int q hc.ok
theorem aQ:jw X (M3 .Mod) (rI (fun _ j=>0 < j) fun i j=>.int (i%j)):=D9 fun i j _ _ _ _ _ hc q=>by
 have h1:(0:Int) < j:=hc
 exact mod_int' ‹0› (by rw [Int.fmod_eq_emod_of_nonneg i ‹0›]; exact q)
theorem gb:jw X (M3 .Pow) (rI EK fun i j=>.int (i ^ j.toNat)):=D9 fun _ _ _ _ _ _ _ hc q=>pow_int_small hc.1 hc.2.1 hc.2.2 q
theorem uV:jw X (M3 .RShift) (rI (fun _ j=>0<=j) fun i j=>.int (i / 2 ^ j.toNat)):=D9 fun i j _ _ _ _ _ hc q =>
 rshift_int hc (by rw [Jv i (vm _)]; exact q)
theorem vw:jw X (M3 .BitAnd) (yd fun i j=>.int (Builtin.bitAnd i j)):=Dg fun _ _ _ _ _ _ _ q=>and_int q
theorem IX {f:MC->Sem MC} {g:Int->Int}
  (rule:∀ (i:Int) (t:Tok) (s:ML) (Q:MC->ML->Prop) (E:MC->ML->Prop),Q (.int (g i) s.toks) { s with toks:=s.toks+1 }->MN (model X.prog X.w) X.A (f (.int i t)) Q E s) :
  HN X f (rU fun i=>.int (g i)):=by
 intro pins s σ H x v Q I rx h
 obtain⟨i,rfl,q⟩:=h
 obtain⟨t,rfl⟩:=rx
 exact rule i t s _ _ ⟨.int (g i),H,I.tok _,⟨_,rfl⟩,q⟩
theorem CZ:HN X (unaryOp .USub) (rU fun i=>.int (-i)):=IX fun _ _ _ _ _ q=>neg_int q
end

section
variable {X:Cx} {a b c:MO} {ta tb tc:TE} {pos:Pos}
theorem Ag {pins:List (MF×Obj)} {σ:St} {H:Hp} {s:ML} {Q:VK} {k k':Bool} (I:Inv X pins σ H s) (q:Q (.bl k) H) (e:k=k'):EP X pins σ Q (.bool k') s:=by
 subst e
 exact⟨.bl k,H,I,rfl,q⟩
theorem Ep:jw X (M4 .Lt) (yd fun i j=>.bl (decide (i < j))):=CJ fun _ _ _ _ _ _ _ q=>lt_int q
theorem Fw:jw X (M4 .LtE) (yd fun i j=>.bl (decide (i<=j))):=CJ fun _ _ _ _ _ _ _ q=>le_int q
theorem vS:jw X (M4 .Gt) (yd fun i j=>.bl (decide (j < i))):=CJ fun _ _ _ _ _ _ _ q=>gt_int q
theorem xi:jw X (M4 .Lt) (fun x y H Q=>∃ i j,x=.str i/\y=.str j/\Q (.bl (decide (i.cps.toList < j.cps.toList))) H):=by
 intro pins s σ H x y v u Q I rx ry h
 obtain⟨i,j,rfl,rfl,q⟩:=h
 obtain⟨t,rfl⟩:=rx
 obtain⟨t',rfl⟩:=ry
 exact lt_str (Ag I q rfl)
theorem aV (b:MO) {op:CmpOp} (h:op≠.In:=by decide) (h2:op≠.NotIn:=by decide):M5 op b=false:=by
 have e1:(op==CmpOp.In)=false:=by cases op <;> first | rfl | exact absurd rfl h
 have e2:(op==CmpOp.NotIn)=false:=by cases op <;> first | rfl | exact absurd rfl h2
 cases b <;> simp [M5,e1,e2]
theorem Bz {op:CmpOp} {r:R2} (ho:jw X (M4 op) r) (ha:PE X a ta) (hb:PE X b tb) (hm:M5 op b=false):PE X (.Compare a [op] [b] pos) (Fz r ta tb):=by
 intro pins s σ H Q I h
 exact wpAny_Compare1 (C8 ha hb I h fun v u s2 x y H2 I2 rx ry q=>ho pins s2 σ H2 x y v u Q I2 rx ry q) hm
def BP (t:TE):TT:=fun σ H Q=>t σ H fun x H'=>∃ k,x=.bl k/\Q k H'
theorem AC {op:CmpOp} {r:R2} (ho:jw X (M4 op) r) (ha:PE X a ta) (hb:PE X b tb) (hm:M5 op b=false):PT X (.Compare a [op] [b] pos) (BP (Fz r ta tb)):=by
 intro pins s σ H Q I h
 refine wpAny_isTrue_Compare1 (dR (ha pins s σ H _ I h) fun v s1 ⟨x,H1,I1,r1,q1⟩=>dR (hb pins s1 σ H1 _ I1 q1) fun u s2 ⟨y,H2,I2,r2,q2⟩ =>
  dR (ho pins s2 σ H2 x y v u _ I2 r1 r2 q2) fun c s3 ⟨z,H3,I3,r3,k,e,q3⟩=>?_) hm
 subst e
 cases r3
 exact MS ⟨H3,I3,q3⟩
def ER (K:Lj) (x:V) (H:Hp) (k:Bool):Prop :=
 match x with
 | .non=>k=false
 | .bl b=>k=b
 | .int i=>k=(i != 0)
 | .str y=>y.length<=MH/\k=((y.length:Int) != 0)
 | .byt y=>y.size<=MH/\k=((y.size:Int) != 0)
 | .ref p=>(∃ xs,la K H p xs/\k=!xs.isEmpty)\/(∃ xs,nR K H p xs/\k=!xs.isEmpty)\/∃ kvs,H p=some (.dK kvs)/\k=!kvs.isEmpty
 | _=>False
theorem vu {κ:Type} {kvs:List (κ×V)} {vs:List (κ×MC)} (r:KV kvs vs):(!vs.isEmpty)=!kvs.isEmpty:=by
 cases r <;> rfl
theorem oR {xs:List V} {its:List MC} (r:Vals xs its):(!its.toArray.isEmpty)=!xs.isEmpty:=by
 cases r <;> simp
theorem kY:(MH:Nat) < 2 ^ 63:=by rw [M6]; decide
theorem C1:HP X (fun x H Q=>∃ k,ER X.K x H k/\Q k H):=by
 intro pins s σ H x v Q I rx h
 obtain⟨k,e,q⟩:=h
 have hl:=kY
 have hs:MH=16777216:=M6
 cases x with
 | non =>
  cases rx
  have e':k=false:=e
  subst e'
  exact truthy_none ⟨H,I,q⟩
 | bl b =>
  cases rx
  have e':k=b:=e
  subst e'
  exact MS ⟨H,I,q⟩
 | int i =>
  obtain⟨t,rfl⟩:=rx
  have e':k=(i != 0):=e
  subst e'
  exact PySem.P.truthy_int ⟨H,I,q⟩
 | str y =>
  obtain⟨t,rfl⟩:=rx
  obtain⟨hy,e'⟩:y.length<=MH/\k=((y.length:Int) != 0):=e
  subst e'
  exact PySem.P.truthy_str ‹0› ⟨H,I.tok _,q⟩
 | byt y =>
  obtain⟨t,rfl⟩:=rx
  obtain⟨hy,e'⟩:y.size<=MH/\k=((y.size:Int) != 0):=e
  subst e'
  exact PySem.W.truthy_bytes ‹0› ⟨H,I.tok _,q⟩
 | ref p =>
  cases rx
  have e':(∃ xs,la X.K H p xs/\k=!xs.isEmpty)\/(∃ xs,nR X.K H p xs/\k=!xs.isEmpty)\/∃ kvs,H p=some (.dK kvs)/\k=!kvs.isEmpty:=e
  rcases e' with ⟨xs,hx,e'⟩ | ⟨xs,hx,e'⟩ | ⟨kvs,hx,e'⟩
  ·subst e'
   obtain⟨its,r,pl,hz⟩:=I.list hx
   have hlen:=r.length
   exact wpAny_truthy_list pl.isList (by simp only [Jw]; omega) ⟨H,I.tok _,by rw [oR r]; exact q⟩
  ·subst e'
   obtain⟨its,r,pl,hz⟩:=I.tuple hx
   have hlen:=r.length
   exact truthy_tuple pl (by simp only [Jw]; omega) ⟨H,I.tok _,by rw [oR r]; exact q⟩
  ·subst e'
   obtain⟨hz,hS,vs,r,m⟩:kvs.length<=MH/\(p==sysModules)=false/\∃ vs,KV kvs vs/\s.heap.DictOf (cJ X.prog X.w) p vs:=I.hok p _ hx
   have hlen:kvs.length=vs.length:=Paired.length r
   exact wpAny_truthy_dict hS m ‹0› ⟨H,I.tok _,by rw [vu r]; exact q⟩
 | _=>exact(show False from e).elim
theorem yS (ha:PE X a ta) (he:∀ whole,isTrue a X.env whole=(do let v <- whole; standAt a.pos; holding [v] (truthy v))) :
  PT X a (fun σ H Q=>ta σ H fun x H'=>∃ k,ER X.K x H' k/\Q k H'):=by
 intro pins s σ H Q I h
 exact isTrue_plain (dR (ha pins s σ H _ I h) fun v s1 ⟨x,H1,I1,r1,q1⟩=>C1 pins s1 σ H1 x v Q I1 r1 q1) (he _)

theorem vx:jw X (M3 .Add) (fun x y H Q=>∃ i j,x=.str i/\y=.str j/\i.length+j.length<=MH/\Q (.str (i++j)) H):=by
 intro pins s σ H x y v u Q I rx ry h
 obtain⟨i,j,rfl,rfl,hz,q⟩:=h
 obtain⟨t,rfl⟩:=rx
 obtain⟨t',rfl⟩:=ry
 exact add_str (fun t' tk=>⟨.str (i++j),H,I.tok _,⟨_,rfl⟩,q⟩) hz
theorem vals1 {x:V} {us:List MC} (r:Vals [x] us):∃ u,us=[u]/\RelV x u:=by
 cases r with
 | cons r1 r2=>cases r2; exact⟨_,rfl,r1⟩
theorem vals2 {x y:V} {us:List MC} (r:Vals [x,y] us):∃ u w',us=[u,w']/\RelV x u/\RelV y w':=by
 cases r with
 | cons r1 r2 =>
  cases r2 with
  | cons r3 r4=>cases r4; exact⟨_,_,rfl,r1,r3⟩
theorem wZ (hc:X.calm=true):dA X (.builtin "max") (fun xs H Q=>∃ i j,xs=[.int i,.int j]/\Q (.int (if j > i then j else i)) H):=by
 intro pins s σ H xs us Q I r h
 obtain⟨i,j,rfl,q⟩:=h
 obtain⟨u,w',rfl,⟨t,rfl⟩,⟨t',rfl⟩⟩:=vals2 r
 refine max_two_ints (I.ok.hd hc) fun h' tk k=>⟨_,H,I.kept k,?_,q⟩
 by_cases hj:j > i
 ·rw [if_pos hj,if_pos hj]; exact⟨_,rfl⟩
 ·rw [if_neg hj,if_neg hj]; exact⟨_,rfl⟩
theorem xE (hc:X.calm=true):dA X (.builtin "min") (fun xs H Q=>∃ i j,xs=[.int i,.int j]/\Q (.int (if j < i then j else i)) H):=by
 intro pins s σ H xs us Q I r h
 obtain⟨i,j,rfl,q⟩:=h
 obtain⟨u,w',rfl,⟨t,rfl⟩,⟨t',rfl⟩⟩:=vals2 r
 refine min_two_ints (I.ok.hd hc) fun h' tk k=>⟨_,H,I.kept k,?_,q⟩
 by_cases hj:j < i
 ·rw [if_pos hj,if_pos hj]; exact⟨_,rfl⟩
 ·rw [if_neg hj,if_neg hj]; exact⟨_,rfl⟩
theorem rh:dA X (.type "int") (fun xs H Q=>(∃ i,xs=[.int i]/\Q (.int i) H)\/∃ k,xs=[.bl k]/\Q (.int (if k then 1 else 0)) H):=by
 intro pins s σ H xs us Q I r h
 rcases h with ⟨i,rfl,q⟩ | ⟨k,rfl,q⟩
 ·obtain⟨u,rfl,t,rfl⟩:=vals1 r
  exact call_int_int ⟨.int i,H,I,⟨_,rfl⟩,q⟩
 ·obtain⟨u,rfl,r1⟩:=vals1 r
  cases r1
  exact call_int_bool ⟨.int (if k then 1 else 0),H,I.tok _,⟨_,rfl⟩,q⟩
end
end L2

namespace L2
open PySem PySem.Spec PyProof.Rows

structure DS (h:MG) (x dx C:MF) (mA:Str->Option MC):Prop where
 obj:h.get? x=some (Lh C dx)
 ns:h.Ns1 dx mA
 ne:dx≠x

theorem wQ {h:MG} {dx:MF} {mA:Str->Option MC} (n:h.Ns1 dx mA):∃ od,h.get? dx=some od/\∀ name,Ln name od=some (mA name):=by
 obtain⟨o,es,ep,ho,hd,hk,_,hm⟩:=n
 refine⟨o,ho,fun name=>?_⟩
 have e:=hm name
 unfold nsFind findBy at e
 rw [<- Array.find?_toList] at e
 unfold Ln
 rw [hd]
 dsimp only
 split
 ·rename_i y q
  rw [q] at e
  exact congrArg some e
 ·rename_i q
  rw [q] at e
  have a:es.toList.any (·.refKey)=false:=by
   rw [List.any_eq_false]
   intro y hy
   obtain⟨z,t,hkey⟩:=hk y (Array.mem_toList_iff.mp hy)
   simp [DictEntry.refKey,hkey]
  have a':¬ es.toList.any (·.refKey)=true:=by rw [a]; exact Jx
  rw [if_neg a']
  exact congrArg some e

theorem DS.look {h:MG} {x dx C:MF} {mA:Str->Option MC} (I:DS h x dx C mA):∃ od,PySem.W.InstAt h x (Lh C dx) C (some od)/\∀ name,Ln name od=some (mA name) :=
 let ⟨od,ho,hl⟩:=wQ I.ns
 ⟨od,⟨I.obj,rfl,rfl,ho⟩,hl⟩

section
variable {prog:ME} {w:MD} {A:MK} {E:MC->ML->Prop} {s:ML} {K:Lj} {x dx C f:MF} {mA:Str->Option MC} {name:Str} {v:MC}

theorem zB {pl:Sem Bool} {Q:MC×List MC->ML->Prop} (X:K.In s.heap) (I:DS s.heap x dx C mA) (hg:Lp K C name=true)
  (hf:Lq K (.ref C) name=some (some (.ref f))) (ht:Lr K (.ref f)=true) (hv:mA name=none) (h:Q (.ref f,[.ref x]) s) :
  MN (model prog w) A (getMethod (.ref x) name pl) Q E s:=by
 obtain⟨od,J,hl⟩:=I.look
 exact PySem.W.method_fn X J (Ls hg).1 (Ls hg).2 hf (beq_iff_eq.mp ht) (by show (Ln name od).map (·.isSome)=some false; rw [hl,hv]; rfl) h

theorem xS {R:Result->ML->Prop} (X:K.In s.heap) (hm:Lv K C=true)
  (hi:Lq K (.ref C) "__init__"=some (some (.builtin "object.__init__")))
  (hb:∀ self,Lw (model prog w) s.heap (bindSpecial (.builtin "object.__init__") self) (.builtin "object.__init__",[self]))
  (h:M7 (model prog w) (A.under (.builtin "type.__call__" ⟨[.ref C],[]⟩)) (.call (.builtin "object.__init__") ⟨[.ref (s.heap.objs.size+1)],[]⟩) (PySem.W.InitBack (s.heap.objs.size+1) R)
   { s with heap:=(s.heap.push Lx).push (Lh C s.heap.objs.size) }) :
  M7 (model prog w) A (.call (.ref C) ⟨[],[]⟩) R s:=by
 obtain⟨hh,g,d,t,os⟩:=s
 exact PySem.W.make_core (Ly X hm) (PySem.W.looks_findIn X hi) hb (.inr ⟨rfl,rfl⟩) h
end

theorem xg.none_of {o:Option MC} (r:xg none o):o=none:=by
 cases o with
 | none=>rfl
 | some u=>exact(show False from r).elim
section
variable {P:ME} {w:MD} {H H':Hp} {h h':MG} {a C dx:MF} {fs fs':List (Str×V)}
theorem Bj (hok:mV P w H h) (e:H a=some (.ins C dx fs)):∃ mA,DS h a dx C mA/\(∀ f,xg (fs.lookup f) (mA f))/\PySem.Within mA (fs.map (·.1))/\fs.length<=1000/\H dx=some (.own a):=by
 obtain⟨d,z,ne,ob,mA,n,r,q⟩:=(show cM P w H h a (.ins C dx fs) from hok a _ e)
 exact⟨mA,⟨ob,n,ne⟩,r,q,z,d⟩
end

structure Dc (K:Lj) (C:MF):Prop where
 pg:Lp K C Str.empty=true
 hd:Lz K C=true
 po:LA K C=true
 sa:Lq K (.ref C) "__setattr__"=some (some (.builtin "object.__setattr__"))
theorem Dc.get {K:Lj} {C:MF} (c:Dc K C) (f:Str):Lp K C f=true:=c.pg
structure Meth (K:Lj) (C:MF) (m:Str) (f:MF):Prop where
 at_:Lq K (.ref C) m=some (some (.ref f))
 fn:Lr K (.ref f)=true
 kp:LC K (.ref f)=true

section
variable {X:Cx} {pins:List (MF×Obj)} {σ:St} {H:Hp} {s:ML} {a C dx:MF} {fs:List (Str×V)} {f:Str} {v:V} {A:MK} {E:MC->ML->Prop}

theorem uW {m:Str} {g:MF} {pl:Sem Bool} {Q:MC×List MC->ML->Prop} (I:Inv X pins σ H s) (e:H a=some (.ins C dx fs)) (c:Dc X.K C) (k:Meth X.K C m g) (l:fs.lookup m=none)
  (h:Q (.ref g,[.ref a]) s):MN (model X.prog X.w) A (getMethod (.ref a) m pl) Q E s:=by
 obtain⟨mA,O,r,_,_,_⟩:=Bj I.hok e
 have hn:mA m=none:=xg.none_of (by rw [<- l]; exact r m)
 exact zB I.kIn O (c.get m) k.at_ k.fn hn h

theorem Inv.made (I:Inv X pins σ H s):Inv X pins σ (upd (upd H s.heap.objs.size (.own (s.heap.objs.size+1))) (s.heap.objs.size+1) (.ins C s.heap.objs.size []))
  { s with heap:=(s.heap.push Lx).push (Lh C s.heap.objs.size) }:=by
 have e1:(s.heap.push Lx).get? s.heap.objs.size=some Lx:=Mf s.heap rfl
 have e2:((s.heap.push Lx).push (Lh C s.heap.objs.size)).get? (s.heap.objs.size+1)=some (Lh C s.heap.objs.size):=by
  have:=Mf (s.heap.push Lx) (o:=Lh C s.heap.objs.size) rfl
  rwa [Mg] at this
 have e3:(s.heap.push Lx).Ns s.heap.objs.size (fun _=>none):=⟨Lx,#[],_,e1,rfl,(fun e he=>absurd he (by simp)),fun _=>rfl⟩
 have I1:=I.laid (a:=s.heap.objs.size) (o:=.own (s.heap.objs.size+1)) (h':=s.heap.push Lx) (t':=s.toks) (fun b u q=>Md _ q) (Jt _) ⟨_,e1⟩
 refine I1.laid (a:=s.heap.objs.size+1) (o:=.ins C s.heap.objs.size []) (t':=s.toks) (fun b u q=>Md _ q) (Jy (Mg _ _)) ?_
 have ne:s.heap.objs.size≠s.heap.objs.size+1:=Jj (Nat.lt_succ_self _)
 refine⟨by rw [aW ne,bF],Jz _,ne,e2,fun _=>none,(Heap.Ns1.of_empty e3).at fun o q=>Md _ q,fun _=>True.intro,fun y hy=>absurd rfl hy⟩

end

section
variable {X:Cx} {o e value:MO} {f:Str} {pos pos' tpos:Pos} {ta tv:TE}
theorem tG {pl:Sem Bool} {m:Str} {apos:Pos} {args:List MO} {pins:List (MF×Obj)} {s:ML} {σ:St} {H:Hp} {Q:MC->ML->Prop} {te:TE} (he:PE X e te) (I:Inv X pins σ H s)
  (h:te σ H fun x H1=>∃ a C dx fs g,x=.ref a/\H1 a=some (.ins C dx fs)/\Dc X.K C/\Meth X.K C m g/\fs.lookup m=none /\
   ∀ s1,Inv X pins σ H1 s1->MN (model X.prog X.w) X.A (M8 pos (.ref g) [.ref a] (backTo pos (MP args X.env)) (backToKw pos (M9 [] X.env))) Q X.xe s1)
  (ht:eval (.Call (.Attribute e m apos) args [] pos) X.env=(do
   let ov <- eval e X.env
   standAt apos.atName
   let (f,first) <- holding [ov] (getMethod ov m pl)
   M8 pos f first (backTo pos (MP args X.env)) (backToKw pos (M9 [] X.env)))) :
  MN (model X.prog X.w) X.A (eval (.Call (.Attribute e m apos) args [] pos) X.env) Q X.xe s:=by
 refine PySem.W.methodCall_KW (pl:=pl) (dR (he pins s σ H _ I h) fun u s1 ⟨x,H1,I1,rx,a,C,dx,fs,g,ex,ea,c,k,l,q⟩=>?_) ht
 subst ex
 obtain rfl:u=Value.ref a:=rx
 exact uW I1 ea c k l (q s1 I1)
end

end L2

namespace L2
open PySem PySem.Spec PyProof.Rows

structure ik (k:Nat) (A:MK):Prop where
 hd:A.handled=none
 dp:A.depth+3*k+5 < Nb
 un:A.units+16*k+200 < Nc
theorem ik.mono {j k:Nat} {A:MK} (r:ik k A) (h:j<=k):ik j A:=⟨r.hd,by have:=r.dp; omega,by have:=r.un; omega⟩
theorem ik.deeper {k:Nat} {A:MK} (r:ik (k+1) A) (env:Env):ik k (A.deeper env) :=
 ⟨r.hd,by have:=r.dp; show A.depth+1+3*k+5 < _; omega,by have:=r.un; show A.units+3+16*k+200 < _; omega⟩
theorem ik.depth {k:Nat} {A:MK} (r:ik k A):A.depth < Nb:=by have:=r.dp; omega
theorem ik.units {k:Nat} {A:MK} (r:ik k A):A.units+64 < Nc:=by have:=r.un; omega
def Fm:TA:=fun _ H Q=>Q [] H
def zD (ta:TE) (tr:TA):TA:=fun σ H Q=>ta σ H fun x H1=>tr σ H1 fun xs H2=>Q (x::xs) H2
section
variable {X:Cx} {e:MO} {es:List MO} {te:TE} {t:TA} {pos:Pos}
theorem uJ:PA X [] Fm:=fun _ _ _ _ H Q I h=>Calls.spliced_nil ⟨[],H,I,.nil,h⟩
theorem me (ha:PE X e te) (hr:PA X es t) (hs:MP (e::es) X.env=(false,eval e X.env)::MP es X.env:=by rfl):PA X (e::es) (zD te t):=by
 intro pos pins s σ H Q I h
 rw [hs]
 show MN _ _ (spliced ((false,eval e X.env)::backTo pos (MP es X.env))) _ _ s
 refine Calls.spliced_cons (dR (ha pins s σ H _ I h) fun u s1 ⟨x,H1,I1,r1,q1⟩=>?_)
 exact dR (hr pos pins s1 σ H1 _ I1 q1) fun us s2 ⟨xs,H2,I2,r2,q2⟩=>⟨x::xs,H2,I2,.cons r1 r2,q2⟩

def HJ (t:TA):TE:=fun σ H Q=>t σ H fun xs H1=>xs.length<=MH/\∀ p,H1 p=none->Q (.ref p) (upd H1 p (.tup xs))
def GU (t:TA):TE:=fun σ H Q=>t σ H fun xs H1=>xs.length<=MH/\∀ p,H1 p=none->Q (.ref p) (upd H1 p (.lst xs))
theorem Dy {x1} (h:PA X es t):PE X (.Tuple es x1 pos) (HJ t):=by
 intro pins s σ H Q I hq
 refine wpAny_Tuple_spliced (dR (h pos pins s σ H _ I hq) fun us s1 ⟨xs,H1,I1,r,z,q⟩=>⟨by rw [<- r.length]; exact z,?_⟩)
 have hf:H1 s1.heap.objs.size=none:=I1.hok.fresh (Jt _)
 refine⟨.ref s1.heap.objs.size,upd H1 s1.heap.objs.size (.tup xs),I1.laid (t':=s1.toks) (fun b u e=>Md _ e) (Jt _) ?_,rfl,q _ hf⟩
 exact⟨z,us,r,⟨_,Mf _ rfl,rfl,_,rfl⟩⟩
theorem yn (h:PA X es t):PE X (.List es pos) (GU t):=by
 intro pins s σ H Q I hq
 refine wpAny_List_spliced (dR (h pos pins s σ H _ I hq) fun us s1 ⟨xs,H1,I1,r,z,q⟩=>⟨by rw [<- r.length]; exact z,?_⟩)
 have hf:H1 s1.heap.objs.size=none:=I1.hok.fresh (Jt _)
 refine⟨.ref s1.heap.objs.size,upd H1 s1.heap.objs.size (.lst xs),I1.laid (t':=s1.toks) (fun b u e=>Md _ e) (Jt _) ?_,rfl,q _ hf⟩
 exact⟨z,us,0,r,Mf _ rfl⟩
end

abbrev Sp:=List V->Hp->VK->XK->Prop
abbrev yf:=List Env->Hp->ML->XK->MC->ML->Prop

structure uU (P:ME) (w:MD) (K:Lj) (mg:Str->Option MC) (base:MG) (A:MK) (outer:List Env) (s:ML) (H:Hp):Prop where
 frames:A.frames=some outer
 mod:Mod K mg base
 bs:∀ b o,base.get? b=some o->s.heap.get? b=some o/\H b=none
 bsz:base.objs.size<=s.heap.objs.size
 funs:s.heap.FunFrames base outer
 frf:∀ b∈frs outer,H b=none
 hok:mV P w H s.heap
 bare:AllBare s.gens
def CE (outer:List Env) (P:ME) (w:MD) (H:Hp) (s:ML) (Q:VK) (u:MC) (s':ML):Prop :=
 ∃ v H',s'.os=s.os/\AllBare s'.gens/\Un (frs outer) [] H H' s.heap s'.heap/\mV P w H' s'.heap/\RelV v u/\Q v H'
def CR (CX:yf) (outer:List Env) (P:ME) (w:MD) (H:Hp) (s:ML) (Q:VK) (E:XK) (r:Result) (s':ML):Prop :=
 match r with
 | .ok (.ret u)=>CE outer P w H s Q u s'
 | .ok _=>False
 | .error e=>CX outer H s E e s'
structure kT (P:ME) (w:MD) (K:Lj) (mg:Str->Option MC) (base:MG) (CX:yf) (k:Nat) (f:MF) (fd:Nf) (ps:List Str) (sp:Sp):Prop where
 len:∀ vs H Q E,sp vs H Q E->vs.length=ps.length
 run:∀ (A:MK) (outer:List Env) (s:ML) (H:Hp) (args:Args) (us:List MC) (vs:List V) (Q:VK) (E:XK),ik k A->uU P w K mg base A outer s H->Ng s fd args (ps.zip us)->Vals vs us->sp vs H Q E ->
  M7 (model P w) A (.call (.ref f) args) (CR CX outer P w H s Q E) s
theorem kT.mono {P:ME} {w:MD} {K:Lj} {mg:Str->Option MC} {base:MG} {CX:yf} {j k:Nat} {f:MF} {fd:Nf} {ps:List Str} {sp:Sp} (F:kT P w K mg base CX j f fd ps sp) (h:j<=k) :
  kT P w K mg base CX k f fd ps sp:=⟨F.len,fun A outer s H args us vs Q E hr=>F.run A outer s H args us vs Q E (hr.mono h)⟩
section
variable {X:Cx} {pins:List (MF×Obj)} {σ:St} {H:Hp} {s s':ML}
theorem Inv.env0 (I:Inv X pins σ H s):uU X.prog X.w X.K X.mg X.base X.A X.stack s H :=
 ⟨I.ok.frames,I.ok.mod,I.bs,Jk I.ok.bsz I.sz,I.stack,I.stkFree,I.hok,I.bare⟩
theorem Inv.after {Q:VK} {u:MC} (I:Inv X pins σ H s) (h:CE X.stack X.prog X.w H s Q u s'):EP X pins σ Q u s':=by
 obtain⟨v,H',os,bare,un,hok,r,q⟩:=h
 obtain⟨hh,g,d,t,os'⟩:=s'
 obtain rfl:os'=s.os:=os
 exact⟨v,H',I.call (h':=hh) (g':=g) (d':=d) (t':=t) (ch:=[]) un hok bare (fun b z=>absurd z (by simp)),r,q⟩
end

def Binds (K:Lj) (fd:Nf) (ps:List Str) (ds:List MC):Prop :=
 ∀ (s:ML) (us:List MC),K.In s.heap->(us++ds).length=ps.length->Ng s fd ⟨us,[]⟩ (ps.zip (us++ds))
theorem Binds.all {K:Lj} {fd:Nf} {ps:List Str} (h:∀ us:List MC,us.length=ps.length->bindArgs fd ⟨us,[]⟩=pure (ps.zip us)):Binds K fd ps []:=fun s us _ hl=>by
 rw [JA] at hl ⊢
 exact .of_eq (h us hl)

section
variable {X:Cx} {CX:yf} {k:Nat} {f C:MF} {fd:Nf} {ps:List Str} {sp:Sp} {dvs:List V} {ds:List MC} {E:XK} {x m:Str} {p pos apos:Pos} {e o:MO} {es:List MO} {ta:TE} {t:TA}

end


structure bi (N P:List Str) (sc:MM):Prop where
 kind:sc.kind=.function
 co:sc.isCoroutine=false
 gen:sc.isGenerator=false
 nd:N.Nodup
 pre:N.take P.length=P
 par:∀ x∈P,sc.names.lookup x=some .local\/sc.names.lookup x=some .cell
 nofree:∀ y∈sc.names,y.2≠.free

theorem qY {kindOf:Str->Option Nh} {x:Str}:∀ {binds:List (Str×MC)} {m:Str->Option MC},(∀ v,(x,v)∉binds)->bindL kindOf binds m x=m x
 | [],_,_=>rfl
 | (n,v)::r,m,h=>by
  unfold bindL
  rw [qY fun w hw=>h w (Jo _ hw)]
  split
  ·have:x≠n:=by rintro rfl; exact h v Jn
   simp [this]
  ·rfl
theorem rd {kindOf:Str->Option Nh} {x:Str}:∀ {binds:List (Str×MC)} {m:Str->Option MC},(∀ v,(x,v)∉binds)->bindC kindOf binds m x=m x
 | [],_,_=>rfl
 | (n,v)::r,m,h=>by
  unfold bindC
  rw [rd fun w hw=>h w (Jo _ hw)]
  split
  ·rfl
  ·have:x≠n:=by rintro rfl; exact h v Jn
   simp [this]
theorem rB {kindOf:Str->Option Nh} {x:Str} {v:MC}:∀ {P:List Str} {vs:List MC} {i:Nat} {m:Str->Option MC},P.Nodup->P[i]?=some x->vs[i]?=some v->kindOf x=some .local ->
  bindL kindOf (P.zip vs) m x=some v
 | [],_,_,_,_,h,_,_=>by simp at h
 | _::_,[],_,_,_,_,h,_=>by simp at h
 | p::P,w::vs,0,m,nd,h1,h2,hk=>by
  simp at h1 h2; subst h1; subst h2
  show bindL kindOf ((p,w)::P.zip vs) m p=_
  unfold bindL
  rw [qY fun v hv=>(List.nodup_cons.mp nd).1 (JB hv).1,if_pos hk]
  simp
 | p::P,w::vs,i+1,m,nd,h1,h2,hk=>by
  show bindL kindOf ((p,w)::P.zip vs) m x=_
  unfold bindL
  exact rB (i:=i) (List.nodup_cons.mp nd).2 (by simpa using h1) (by simpa using h2) hk
theorem rL {kindOf:Str->Option Nh} {x:Str} {v:MC}:∀ {P:List Str} {vs:List MC} {i:Nat} {m:Str->Option MC},P.Nodup->P[i]?=some x->vs[i]?=some v->kindOf x≠some .local ->
  bindC kindOf (P.zip vs) m x=some v
 | [],_,_,_,_,h,_,_=>by simp at h
 | _::_,[],_,_,_,_,h,_=>by simp at h
 | p::P,w::vs,0,m,nd,h1,h2,hk=>by
  simp at h1 h2; subst h1; subst h2
  show bindC kindOf ((p,w)::P.zip vs) m p=_
  unfold bindC
  rw [rd fun v hv=>(List.nodup_cons.mp nd).1 (JB hv).1,if_neg hk]
  simp
 | p::P,w::vs,i+1,m,nd,h1,h2,hk=>by
  show bindC kindOf ((p,w)::P.zip vs) m x=_
  unfold bindC
  exact rL (i:=i) (List.nodup_cons.mp nd).2 (by simpa using h1) (by simpa using h2) hk

def start (N:List Str) (vs:List V):St:=vs.map some++List.replicate (N.length - vs.length) none

def kL (CX:yf) (P:ME) (w:MD) (K:Lj) (mg:Str->Option MC) (base:MG) (N:List Str) (qual:Str) (scope:MM) (f:MF) (cd:MC) (A:MK) (outer:List Env) (s:ML) (H:Hp) (E:XK):Cx where
 prog:=P
 w:=w
 K:=K
 mg:=mg
 base:=base
 A:=A.deeper (envOfC qual scope s.heap.objs.size f cd)
 N:=N
 s₀:=s
 H₀:=H
 env:=envOfC qual scope s.heap.objs.size f cd
 outer:=outer
 stack:=envOfC qual scope s.heap.objs.size f cd::outer
 ex:=[]
 calm:=true
 fn:=fun _=>true
 pn:=[]
 xe:=fun e s'=>MN (model P w) (A.deeper (envOfC qual scope s.heap.objs.size f cd)) (leaving (envOfC qual scope s.heap.objs.size f cd) e) (fun _ s''=>CX outer H s E e s'') (fun e' s''=>CX outer H s E e' s'') s'

theorem tI {sc:MM} {n:Nat} {x:Str} (h:sc.names.lookup x=some .cell):∃ c,(cellsFrom n sc.names []).lookup x=some c:=by
 have q:=LD sc.names n [] (.inl h)
 exact Option.isSome_iff_exists.mp q

theorem qG {CX:yf} {P:ME} {w:MD} {K:Lj} {mg:Str->Option MC} {base:MG} {N ps:List Str} {qual:Str} {scope:MM} {f:MF} {cd:MC} {A:MK} {outer:List Env} {s s1:ML} {H:Hp} {E:XK} {us:List MC} {vs:List V}
  (S:bi N ps scope) (hd:A.handled=none) (e0:uU P w K mg base A outer s H) (hl:vs.length=ps.length) (r:Vals vs us)
  (x:InCallC s s.heap.objs.size (bindL (envOfC qual scope s.heap.objs.size f cd).kindOf (ps.zip us) fun _=>none) (cellsFrom (s.heap.objs.size+1) scope.names []) (bindC (envOfC qual scope s.heap.objs.size f cd).kindOf (ps.zip us) fun _=>none) s1) :
  Inv (kL CX P w K mg base N qual scope f cd A outer s H E) [] (start N vs) H s1:=by
 have hpl:ps.length<=N.length:=by have:=congrArg List.length S.pre; rw [List.length_take] at this; omega
 obtain⟨h1,tk,rfl,hk⟩:=x.done
 have noA:∀ b:MF,b∉(kL CX P w K mg base N qual scope f cd A outer s H E).ex:=fun b z=>absurd (show b∈([]:List MF) from z) (by simp)
 refine⟨⟨e0.mod,S.kind,rfl,rfl,Jt _,fun y z c h1 h2=>?_,fun y hy=>?_,fun y c _ h=>?_,fun _=>hd,Around.frames_deeper e0.frames,.inr ⟨rfl,rfl⟩,fun b z=>absurd z (noA b),e0.bs,e0.bsz,fun b _ _=>noA b,fun b z=>absurd z (noA b),e0.funs,e0.frf⟩,
  rfl,e0.bare,Un.kept hk,⟨_,x.toInCall.ns,fun i y v h1 h2 h3=>?_⟩,fun y c h=>⟨_,x.cell y c h⟩,e0.hok.fresh (Jt _),fun y c h=>?_,fun p hp=>absurd (show p∈([]:List (MF×Obj)) from hp) (by simp),e0.hok.kept hk,?_⟩
 ·exact name_of_addr x.apart (PySem.mem_of_lookup h1) (PySem.mem_of_lookup h2)
 ·have hy:scope.names.lookup y=some .cell\/scope.names.lookup y=some .free:=hy
  rcases hy with hy | hy
  ·exact tI hy
  ·exact absurd rfl (S.nofree _ (PySem.mem_of_lookup hy))
 ·exact Jl (x.above y c (PySem.mem_of_lookup h))
 ·have hi:i < vs.length:=by
   unfold start at h2
   by_cases hi:i < vs.length
   ·exact hi
   ·rw [JC (by simpa using hi)] at h2
    rw [JD] at h2
    split at h2 <;> cases h2
  have ha:vs[i]?=some v:=by
   unfold start at h2
   rw [JE (by simpa using hi),JF] at h2
   cases e:vs[i]? with
   | none=>rw [e] at h2; cases h2
   | some a=>rw [e] at h2; cases h2; rfl
  obtain⟨u,hu,rv⟩:=r.get ha
  have hp:ps[i]?=some y:=by
   rw [<- S.pre,List.getElem?_take_of_lt ‹0›]; exact h1
  have ndP:ps.Nodup:=by rw [<- S.pre]; exact S.nd.sublist (List.take_sublist _ _)
  refine⟨u,rv,?_⟩
  rcases S.par y (JG hp) with k | k
  ·exact .inl ⟨k,rB ndP hp hu k⟩
  ·obtain⟨c,e⟩:=tI (n:=s.heap.objs.size+1) k
   refine .inr ⟨.inl k,c,e,?_⟩
   have q:=x.cell y c e
   rw [rL ndP hp hu (by show scope.names.lookup y≠_; rw [k]; decide)] at q
   exact q
 ·exact e0.hok.fresh (Jl (x.above y c (PySem.mem_of_lookup h)))
 ·unfold start
  show _=N.length
  rw [JH,JI,List.length_replicate]
  omega

theorem Fy {CX:yf} {P:ME} {w:MD} {K:Lj} {mg:Str->Option MC} {base:MG} {k:Nat} {f:MF} {name qual:Str} {params:Arguments} {body:List MQ} {scope:MM} {dV kV doc pm cdv ct oc:MC} {an od:Option MF}
  {osl:Array (Option MC)} {N ps:List Str} {sp:Sp} (lk:K.lookup f=some ⟨oc,od,.func (LJ name qual params body scope dV kV doc pm an cdv ct),osl⟩) (hcd:LK K cdv qual=true) (S:bi N ps scope)
  (len:∀ vs H Q E,sp vs H Q E->vs.length=ps.length)
  (hbody:∀ (A:MK) (outer:List Env) (s:ML) (H:Hp) (vs:List V) (Q:VK) (E:XK),ik k (A.deeper (envOfC qual scope s.heap.objs.size f cdv))->sp vs H Q E ->
   ∃ t,ww (kL CX P w K mg base N qual scope f cdv A outer s H E) body t/\t { nx:=fun _ H'=>Q .non H',rt:=Q } (start N vs) H) :
  kT P w K mg base CX (k+1) f (LJ name qual params body scope dV kV doc pm an cdv ct) ps sp:=by
 refine⟨len,fun A outer s H args us vs Q E hr e0 hb r hsp=>?_⟩
 have hl:=len _ _ _ _ hsp
 have KX:K.In s.heap:=e0.mod.kin.keeps fun b o e=>(e0.bs b o e).1
 have lim:s.heap.NoLimit:=e0.mod.nolimit.keeps fun b o e=>(e0.bs b o e).1
 have hkind:∀ y∈ps.zip us,scope.names.lookup y.1=some .local\/(scope.names.lookup y.1=some .cell/\((cellsFrom (s.heap.objs.size+1) scope.names []).lookup y.1).isSome=true):=fun ⟨n,v⟩ hy=>by
  rcases S.par n (JB hy).1 with q | q
  ·exact .inl q
  ·exact .inr ⟨q,LD _ _ _ (.inl q)⟩
 refine codeAny_call_function hr.depth (KX _ _ lk) rfl S.co S.gen rfl (LN KX hcd) (hb _ _ _ _ ?_)
 refine Ni S.kind hkind fun env he s1 x=>?_
 subst he
 refine⟨lim.keeps x.toInCall.keep,codeAny_func ?_⟩
 obtain⟨t,ht,hq⟩:=hbody A outer s H vs Q E (hr.deeper _) hsp
 have I:Inv (kL CX P w K mg base N qual scope f cdv A outer s H E) [] (start N vs) H s1:=qG S hr.hd e0 hl r x
 refine MR (ht [] s1 (start N vs) H _ I hq) (fun fl s' hs=>?_) fun e s' hs=>hs
 have fin:∀ {σ':St} {H':Hp} {v:V} {u:MC},Inv (kL CX P w K mg base N qual scope f cdv A outer s H E) [] σ' H' s'->RelV v u->Q v H'->CE outer P w H s Q u s' :=
  fun {σ' H' v u} J rv q=>⟨v,H',J.os,J.bare,J.base,J.hok,rv,q⟩
 cases fl with
 | ret u =>
  obtain⟨v,σ',H',J,rv,q⟩:=hs
  exact fin J rv q
 | next =>
  obtain⟨σ',H',J,q⟩:=hs
  exact fin (v:=V.non) (u:=Value.none) J rfl q
 | brk =>
  obtain⟨_,_,_,q⟩:=hs
  exact False.elim q
 | cont =>
  obtain⟨_,_,_,q⟩:=hs
  exact False.elim q
end L2

namespace L2
open PySem PySem.Spec PyProof.Rows
section
variable {X:Cx} {x:Str} {p pos:Pos} {e:MO} {es:List MO} {t:TA} {id T:String} {r:List V->Hp->VK->Prop}

def Gd (r:List V->Hp->VK->Prop) (t:TA):TE:=fun σ H Q=>t σ H fun vs H1=>r vs H1 Q
theorem o7 (hc:dA X (.builtin id) r) (hg:Gl X x) (hm:X.mg x=none) (hv:MJ x=some (.builtin id)) (ha:PA X (e::es) t) (hn:x ≠ "__name__":=by decide) (hdb:(x==("__debug__":Str))=false:=by decide)
  (he:MP (e::es) X.env=(false,eval e X.env)::MP es X.env:=by rfl) (hpl:(backTo pos (MP es X.env)).any (·.1)=false:=by rfl):PE X (.Call (.Name x p) (e::es) [] pos) (Gd r t):=by
 intro pins s σ H Q I h
 refine Nj (ny I hg hm hv ?_ hn hdb)
 exact PyProof.Rows.callWith_builtin1 (dR (ha pos pins s σ H _ I h) fun us s1 ⟨vs,H1,I1,r1,q1⟩=>hc pins s1 σ H1 vs us Q I1 r1 q1) he hpl
theorem rC (hc:dA X (.type T) r) (hg:Gl X x) (hm:X.mg x=none) (hv:MJ x=some (.type T)) (ha:PA X (e::es) t) (hn:x ≠ "__name__":=by decide) (hdb:(x==("__debug__":Str))=false:=by decide)
  (he:MP (e::es) X.env=(false,eval e X.env)::MP es X.env:=by rfl) (hpl:(backTo pos (MP es X.env)).any (·.1)=false:=by rfl):PE X (.Call (.Name x p) (e::es) [] pos) (Gd r t):=by
 intro pins s σ H Q I h
 refine Nj (ny I hg hm hv ?_ hn hdb)
 exact Mk (dR (ha pos pins s σ H _ I h) fun us s1 ⟨vs,H1,I1,r1,q1⟩=>hc pins s1 σ H1 vs us Q I1 r1 q1) he hpl
end
end L2

namespace HT
open PySem PyProof.Rows

theorem D7 (A:MK) (s:ML) (a:Int) (t:Tok) (c:Int) (u:Tok) (prog:ME) (w:MD) (E:MC->ML->Prop) (Q:MC->ML->Prop) (h:Q (.bool (decide (a < c))) s) :
  MN (model prog w) A (richCompare .Lt (.int a t) (.int c u)) Q E s :=
 (PyProof.Rows.lt_int h:MN (model prog w) A (M4 .Lt (.int a t) (.int c u)) Q E s)

section
open PySem.SeqAt
open PySem.AutoSeq1 (wpAny_loadPart')
open PySem.MeetsSeq PySem.MeetsSeq2 PySem.MeetsSeq3

end

section
variable {prog:ME} {w:MD} {A:MK} {E:MC->ML->Prop} {s:ML}

theorem Gi {t b:MF} {vs ws:List MC} {Q:MC->ML->Prop} (ht:IsTup s.heap t vs.toArray) (hb:IsTup s.heap b ws.toArray) (hv:vs≠[])
  (h1:ws=[]->Q (.ref t) s) (h2:ws≠[]->Q (.ref s.heap.objs.size) { s with heap:=s.heap.push { cls:=.type "tuple",data:=.seq (vs++ws).toArray } })
  (hsz:vs.length+ws.length<=MH):MN (model prog w) A (M3 .Add (.ref t) (.ref b)) Q E s:=by
 obtain⟨⟨cls,dd,data,sl⟩,ho,hc,n,hd⟩:=id ht
 obtain⟨⟨cls2,dd2,data2,sl2⟩,ho2,hc2,n2,hd2⟩:=id hb
 simp only at hc hd hc2 hd2
 subst hc hd hc2 hd2
 have e:vs.toArray++ws.toArray=(vs++ws).toArray:=by simp
 by_cases hw:ws=[]
 ·exact Nk ⟨_,ho,rfl⟩ ⟨_,ho2,rfl⟩ Nm Nn Mu Mv (Mw _ _)
   (tuple_addW1 t b vs.toArray ws.toArray n n2 dd dd2 sl sl2 (by simpa using hv) (by simp [hw])) ⟨ho,ho2,h1 hw⟩
 ·refine Nk ⟨_,ho,rfl⟩ ⟨_,ho2,rfl⟩ Nm Nn Mu Mv (Mw _ _)
   (tuple_addW2 t b vs.toArray ws.toArray n n2 dd dd2 sl sl2 (by simpa using hv) (by simpa using hw) (by rw [Jw,Jw]; exact hsz)) ⟨ho,ho2,?_⟩
  rw [e]
  exact h2 hw

def sIx (n d:Nat):Option Int->Nat
 | none=>d
 | some v=>if v < 0 then (v+(n:Int)).toNat else min v.toNat n
end
end HT

namespace L2
open PySem PySem.Spec PyProof.Rows

abbrev TO:=St->Hp->(Option Int->Hp->Prop)->Prop
section
variable {X:Cx} {e:MO} {te:TE} {lo hi:Option MO} {tl th:TO} {pos p2:Pos}

def Em (K:Lj):R2:=fun x y H Q=>∃ a b xs ys,x=.ref a/\y=.ref b/\nR K H a xs/\nR K H b ys/\xs≠[]/\xs.length+ys.length<=MH /\
 (ys=[]->Q (.ref a) H)/\(ys≠[]->∀ p,H p=none->Q (.ref p) (upd H p (.tup (xs++ys))))
theorem Vals.nil_iff {xs:List V} {us:List MC} (r:Vals xs us):us=[]↔xs=[]:=by
 cases r with
 | nil=>simp
 | cons _ _=>simp
theorem Av:jw X (M3 .Add) (Em X.K):=by
 intro pins s σ H x y v u Q I rx ry h
 obtain⟨a,b,xs,ys,rfl,rfl,ha,hb,hx,hz,q1,q2⟩:=h
 cases rx
 cases ry
 obtain⟨its,r1,p1,_⟩:=I.tuple ha
 obtain⟨its2,r2,p2,_⟩:=I.tuple hb
 refine HT.Gi p1 p2 (fun z=>hx (r1.nil_iff.mp z)) (fun z=>⟨.ref a,H,I,rfl,q1 (r2.nil_iff.mp z)⟩) (fun z=>?_) (by rw [<- r1.length,<- r2.length]; exact hz)
 refine⟨.ref s.heap.objs.size,_,I.laid (t':=s.toks) (o:=.tup (xs++ys)) (fun b ob q=>Md _ q) (Jt _) ?_,rfl,q2 (fun w=>z (r2.nil_iff.mpr w)) _ (I.hok.fresh (Jt _))⟩
 exact⟨by rw [JH]; exact hz,_,r1.append r2,IsTup.new _ _⟩
end
end L2

namespace L2
open PySem PySem.Spec PyProof.Rows

def uE (n:Nat) (i:Int):Option Nat:=if 0<=i then (if i < n then some i.toNat else none) else if -(n:Int)<=i then some (i+n).toNat else none
def ml {α:Type} (xs:List α) (i:Int):Option α:=(uE xs.length i).bind fun j=>xs[j]?
theorem wg {n:Nat} {i:Int} {j:Nat} (h:uE n i=some j):seqIndex? i n=some j/\j < n/\-(n:Int)<=i/\i < n:=by
 unfold uE at h
 by_cases h0:0<=i
 ·rw [if_pos h0] at h
  by_cases h1:i < n
  ·rw [if_pos h1] at h
   have e:i.toNat=j:=Option.some.inj h
   exact⟨by rw [seqIndex_of h0 h1,e],by omega,by omega,h1⟩
  ·rw [if_neg h1] at h; cases h
 ·rw [if_neg h0] at h
  by_cases h1:-(n:Int)<=i
  ·rw [if_pos h1] at h
   have e:(i+n).toNat=j:=Option.some.inj h
   exact⟨by rw [seqIndex_neg ‹0› h1,e],by omega,h1,by omega⟩
  ·rw [if_neg h1] at h; cases h
theorem tm {α:Type} {xs:List α} {i:Int} {v:α} (h:ml xs i=some v):∃ j,seqIndex? i xs.length=some j/\xs[j]?=some v/\j < xs.length/\-(xs.length:Int)<=i/\i < xs.length:=by
 unfold ml at h
 cases e:uE xs.length i with
 | none=>rw [e] at h; cases h
 | some j =>
  rw [e] at h
  obtain⟨h1,h2,h3,h4⟩:=wg e
  exact⟨j,h1,h,h2,h3,h4⟩
def lY (b:MO):Prop:=∀ o i,subscripted b false o i=operate [o,i] (getItem o i)
def Eu (X:Cx) (r:R2):Prop :=
 ∀ (value slice:MO) (pins:List (MF×Obj)) (s:ML) (σ:St) (H:Hp) (x y:V) (v u:MC) (Q:VK),Inv X pins σ H s->RelV x v->RelV y u->r x y H Q ->
  subscripted slice false v u=operate [v,u] (getItem v u)->MN (model X.prog X.w) X.A (subscriptTail value slice v u) (EP X pins σ Q) X.xe s
def Gb (X:Cx) (id:String) (r:V->List V->Hp->VK->Prop):Prop :=
 ∀ (pins:List (MF×Obj)) (s:ML) (σ:St) (H:Hp) (x:V) (xs:List V) (v:MC) (us:List MC) (Q:VK),Inv X pins σ H s->RelV x v->Vals xs us->r x xs H Q ->
  MN (model X.prog X.w) X.A (call (.builtin id) (v::us)) (EP X pins σ Q) X.xe s
section
variable {X:Cx} {a b:MO} {ta tb:TE} {pos:Pos}
theorem BV {r:R2} (hr:Eu X r) (ha:PE X a ta) (hb:PE X b tb) (hs:lY b):PE X (.Subscript a b pos) (Fz r ta tb):=by
 intro pins s σ H Q I h
 exact Subscript_ (C8 ha hb I h fun v u s2 x y H2 I2 rx ry q=>hr a b pins s2 σ H2 x y v u Q I2 rx ry q (hs _ _))

def Hf (K:Lj):R2:=fun x y H Q=>∃ p xs i v,x=.ref p/\y=.int i/\la K H p xs/\ml xs i=some v/\Q v H
def GO (K:Lj):R2:=fun x y H Q=>∃ p xs i v,x=.ref p/\y=.int i/\nR K H p xs/\ml xs i=some v/\Q v H
def G1:R2:=fun x y H Q=>∃ z i c,x=.str z/\y=.int i/\z.length<=MH/\ml z.cps.toList i=some c/\Q (.str ⟨#[c]⟩) H
theorem wz:Eu X (Hf X.K):=by
 intro value slice pins s σ H x y v u Q I rx ry h hs
 obtain⟨p,xs,i,z,rfl,rfl,hq,he,q⟩:=h
 cases rx
 obtain⟨t,rfl⟩:=ry
 obtain⟨its,r,pl,hz⟩:=I.list hq
 obtain⟨j,h1,h2,h3,h4,h5⟩:=tm he
 obtain⟨w,ew,rw'⟩:=r.get h2
 have hl:=r.length
 have hn:=kY
 have fin:EP X pins σ Q w s:=⟨z,H,I,rw',q⟩
 by_cases h0:0<=i
 ·have hj:i.toNat=j:=by
   rw [seqIndex_of h0 h5] at h1
   exact Option.some.inj h1
  exact item_listR pl.isList h0 ‹0› (by rw [hj]; simpa using ew) fin hs
 ·have hj:(i+(its.toArray.size:Int)).toNat=j:=by
   rw [seqIndex_neg ‹0› h4] at h1
   rw [Jw,<- hl]
   exact Option.some.inj h1
  exact subscriptTail_builtinR (x:=w) pl.isList.typeIs slot_list_getitem.lookup
   (wpAny_getItem_list_neg (Q:=fun r s'=>r=w/\EP X pins σ Q r s') pl.isList ‹0› (by rw [Jw] <;> omega) ‹0› (by rw [hj]; simpa using ew) ⟨rfl,fin⟩) hs
theorem CB:Eu X (GO X.K):=by
 intro value slice pins s σ H x y v u Q I rx ry h hs
 obtain⟨p,xs,i,z,rfl,rfl,hq,he,q⟩:=h
 cases rx
 obtain⟨t,rfl⟩:=ry
 obtain⟨its,r,pl,hz⟩:=I.tuple hq
 obtain⟨j,h1,h2,h3,h4,h5⟩:=tm he
 obtain⟨w,ew,rw'⟩:=r.get h2
 have hl:=r.length
 have hn:=kY
 have fin:EP X pins σ Q w s:=⟨z,H,I,rw',q⟩
 exact subscriptTail_builtinR (x:=w) pl.typeIs slot_tuple_getitem.lookup
  (getItem_tuple (j:=j) (Q:=fun r s'=>r=w/\EP X pins σ Q r s') pl ‹0› ‹0› (by rw [Jw,<- hl]; exact h1) (by simpa using ew) ⟨rfl,fin⟩) hs
theorem CH:Eu X G1:=by
 intro value slice pins s σ H x y v u Q I rx ry h hs
 obtain⟨z,i,c,rfl,rfl,hz,he,q⟩:=h
 obtain⟨t,rfl⟩:=rx
 obtain⟨t',rfl⟩:=ry
 obtain⟨j,h1,h2,h3,h4,h5⟩:=tm he
 have hl:z.cps.toList.length=z.length:=by simp [Str.length]
 rw [hl] at h1 h4 h5
 have hn:=kY
 exact tail_any (typeIs_str s z t) slot_str_getitem.lookup (getItem_str (c:=c) (by
  have e1:decide (i < -(2 ^ 63:Int))=false:=decide_eq_false ‹0›
  have e2:decide (i>=2 ^ 63)=false:=decide_eq_false ‹0›
  rw [e1,e2,Bool.or_false]) (by rw [h1]; simpa using h2) ⟨.str ⟨#[c]⟩,H,I.tok _,⟨_,rfl⟩,q⟩) hs
theorem uL (its:List MC) (n j:Nat) (u:MC):Obj.mapSeq (·.setIfInBounds j u) { cls:=.type "list",data:=.seq its.toArray n }={ cls:=.type "list",data:=.seq (its.set j u).toArray n }:=by
 simp [Obj.mapSeq]
theorem Inv.lst {pins:List (MF×Obj)} {σ:St} {H:Hp} {s:ML} {p:MF} {xs:List V} (I:Inv X pins σ H s) (h:H p=some (.lst xs)) :
  ∃ (its:List MC) (n:Nat),Vals xs its/\s.heap.get? p=some { cls:=.type "list",data:=.seq its.toArray n }/\xs.length<=MH:=by
 obtain⟨z,its,n,r,e⟩:=I.hok p _ h
 exact⟨its,n,r,e,z⟩
theorem Inv.lstUpd {pins:List (MF×Obj)} {σ:St} {H:Hp} {s:ML} {p:MF} {xs ys:List V} {its its':List MC} {n n':Nat} {f:Obj->Obj} (I:Inv X pins σ H s) (h:H p=some (.lst xs))
  (ho:s.heap.get? p=some { cls:=.type "list",data:=.seq its.toArray n }) (hf:f { cls:=.type "list",data:=.seq its.toArray n }={ cls:=.type "list",data:=.seq its'.toArray n' }) (r:Vals ys its') (hz:ys.length<=MH) (t:Nat) :
  Inv X pins σ (upd H p (.lst ys)) { s with heap:=s.heap.update p f,toks:=t }:=by
 have e:(s.heap.update p f).get? p=some { cls:=.type "list",data:=.seq its'.toArray n' }:=by
  rw [Mh f ho (by rw [hf] <;> rfl),hf]
 refine I.write (x:=p) (e:=p) (by rw [h]; trivial) (.inl rfl) (fun b u hb q=>(Mi _ _ (Ne.symm hb)).trans q) ⟨_,e⟩ ?_
 exact⟨hz,its',n',r,e⟩
def B6:V->V->V->Hp->(Hp->Prop)->Prop:=fun o i v H Q=>∃ p xs k j,o=.ref p/\i=.int k/\H p=some (.lst xs)/\uE xs.length k=some j/\Q (upd H p (.lst (xs.set j v)))
theorem set_list:E7 X B6:=by
 intro pins s σ H o i v ov iv u Q I ro ri rv h
 obtain⟨p,xs,k,j,rfl,rfl,hp,hj,q⟩:=h
 cases ro
 obtain⟨t,rfl⟩:=ri
 obtain⟨its,n,r,ho,hz⟩:=I.lst hp
 obtain⟨h1,h2,h3,h4⟩:=wg hj
 have hl:=r.length
 have hn:=kY
 have I':Inv X pins σ (upd H p (.lst (xs.set j v))) { s with heap:=s.heap.update p (Obj.mapSeq (·.setIfInBounds j u)) } :=
  I.lstUpd hp ho (uL its n j u) (r.set rv j) (by rw [JK]; exact hz) s.toks
 by_cases h0:0<=k
 ·have hk:k.toNat=j:=by
   rw [seqIndex_of h0 h4] at h1
   exact Option.some.inj h1
  exact PySem.W.ki_setAt ho h0 ‹0› (by rw [Jw,<- hl]; exact h4) (by rw [hk]; exact⟨_,I',q⟩)
 ·have hk:(k+(its.toArray.size:Int)).toNat=j:=by
   rw [seqIndex_neg ‹0› h3] at h1
   rw [Jw,<- hl]
   exact Option.some.inj h1
  exact PySem.W.ki_setBack ho ‹0› (by rw [Jw,<- hl]; exact h3) ‹0› (by rw [hk]; exact⟨_,I',q⟩)

def yX:V->Bool
 | .non=>true
 | .bl _=>true
 | .int _=>true
 | .str _=>true
 | _=>false
def HW:V->V->Bool
 | .non,.non=>true
 | .bl a,.bl b=>a==b
 | .bl a,.int b=>(if a then 1 else 0)==b
 | .int a,.bl b=>a==(if b then 1 else 0)
 | .int a,.int b=>a==b
 | .str a,.str b=>a==b
 | _,_=>false
theorem DM {A:MK} {s:ML} {y x:V} {u v:MC} (ry:RelV y u) (rx:RelV x v) (fy:yX y=true) (fx:yX x=true):SeqAt.EqAt A s u v (HW y x):=by
 cases y with
 | non =>
  cases ry
  cases x with
  | non=>cases rx; exact SeqAt.EqAt.same _
  | bl b=>cases rx; exact SeqAt.EqAt.none_bool b
  | int b=>obtain⟨t,rfl⟩:=rx; exact SeqAt.EqAt.none_int b t
  | str b=>obtain⟨t,rfl⟩:=rx; exact SeqAt.EqAt.none_str b t
  | _=>exact absurd (show false=true from fx) Jx
 | bl a =>
  cases ry
  cases x with
  | non=>cases rx; exact SeqAt.EqAt.bool_none a
  | bl b=>cases rx; exact SeqAt.EqAt.bool_bool a b
  | int b=>obtain⟨t,rfl⟩:=rx; exact SeqAt.EqAt.bool_int a b t
  | str b=>obtain⟨t,rfl⟩:=rx; exact SeqAt.EqAt.bool_str a b t
  | _=>exact absurd (show false=true from fx) Jx
 | int a =>
  obtain⟨t',rfl⟩:=ry
  cases x with
  | non=>cases rx; exact SeqAt.EqAt.int_none a t'
  | bl b=>cases rx; exact SeqAt.EqAt.int_bool a t' b
  | int b=>obtain⟨t,rfl⟩:=rx; exact SeqAt.EqAt.int_int a t' b t
  | str b=>obtain⟨t,rfl⟩:=rx; exact SeqAt.EqAt.int_str a t' b t
  | _=>exact absurd (show false=true from fx) Jx
 | str a =>
  obtain⟨t',rfl⟩:=ry
  cases x with
  | non=>cases rx; exact SeqAt.EqAt.str_none a t'
  | bl b=>cases rx; exact SeqAt.EqAt.str_bool a t' b
  | int b=>obtain⟨t,rfl⟩:=rx; exact SeqAt.EqAt.str_int a t' b t
  | str b=>obtain⟨t,rfl⟩:=rx; exact SeqAt.EqAt.str_str a t' b t
  | _=>exact absurd (show false=true from fx) Jx
 | _=>exact absurd (show false=true from fy) Jx
theorem lV:dA X (.builtin "len") (fun xs H Q=>∃ p ys,xs=[.ref p]/\(la X.K H p ys\/nR X.K H p ys)/\Q (.int ys.length) H):=by
 intro pins s σ H xs us Q I r h
 obtain⟨p,ys,rfl,hq,q⟩:=h
 obtain⟨u,rfl,rx⟩:=vals1 r
 cases rx
 have hn:=kY
 rcases hq with hq | hq
 ·obtain⟨its,r',pl,hz⟩:=I.list hq
  have hlen:=r'.length
  exact Calls.call_len_list pl.isList (by simp only [Jw] <;> omega) ⟨.int ys.length,H,I.tok _,⟨s.toks+1,by rw [Jw,hlen]⟩,q⟩
 ·obtain⟨its,r',pl,hz⟩:=I.tuple hq
  have hlen:=r'.length
  exact len_tuple pl (by simp only [Jw] <;> omega) ⟨.int ys.length,H,I.tok _,⟨s.toks+1,by rw [Jw,hlen]⟩,q⟩
theorem sk:dA X (.builtin "len") (fun xs H Q=>∃ z,xs=[.str z]/\z.length<=MH/\Q (.int z.length) H):=by
 intro pins s σ H xs us Q I r h
 obtain⟨z,rfl,hz,q⟩:=h
 obtain⟨u,rfl,t,rfl⟩:=vals1 r
 have hn:=kY
 exact len_str ‹0› ⟨.int z.length,H,I.tok _,⟨_,rfl⟩,q⟩
theorem sB:dA X (.type "list") (fun xs H Q=>∃ p ys,xs=[.ref p]/\(la X.K H p ys\/nR X.K H p ys)/\∀ l,H l=none->Q (.ref l) (upd H l (.lst ys))):=by
 intro pins s σ H xs us Q I r h
 obtain⟨p,ys,rfl,hq,q⟩:=h
 obtain⟨u,rfl,rx⟩:=vals1 r
 cases rx
 have fin:∀ (its:List MC),Vals ys its->ys.length<=MH->∀ (h':MG) (c':Nat),(∀ b o',s.heap.get? b=some o'->h'.get? b=some o') ->
   h'.get? s.heap.objs.size=some { cls:=.type "list",dict:=none,data:=.seq its.toArray c',slots:=#[] }->EP X pins σ Q (.ref s.heap.objs.size) { s with heap:=h' }:=fun its r' hz h' c' kp e =>
  ⟨.ref s.heap.objs.size,_,I.laid (t':=s.toks) kp (Jt _) (show cM X.prog X.w _ h' _ (.lst ys) from ⟨hz,its,c',r',e⟩),rfl,q _ (I.hok.fresh (Jt _))⟩
 rcases hq with hq | hq
 ·obtain⟨its,r',pl,hz⟩:=I.list hq
  have hlen:=r'.length
  obtain⟨o,ho,hc,n,hd⟩:=pl.isList
  exact call_list_seq p (.inl rfl) ho hc hd (fun h' c' kp e=>fin its r' hz h' c' kp e) (by simp only [Jw] <;> omega)
 ·obtain⟨its,r',pl,hz⟩:=I.tuple hq
  have hlen:=r'.length
  obtain⟨o,ho,hc,n,hd⟩:=pl
  exact call_list_seq p (.inr rfl) ho hc hd (fun h' c' kp e=>fin its r' hz h' c' kp e) (by simp only [Jw] <;> omega)
theorem kM:dA X (.type "tuple") (fun xs H Q=>∃ p ys,xs=[.ref p]/\((la X.K H p ys/\∀ l,H l=none->Q (.ref l) (upd H l (.tup ys)))\/(nR X.K H p ys/\Q (.ref p) H))):=by
 intro pins s σ H xs us Q I r h
 obtain⟨p,ys,rfl,h⟩:=h
 obtain⟨u,rfl,rx⟩:=vals1 r
 cases rx
 rcases h with ⟨hq,q⟩ | ⟨hq,q⟩
 ·obtain⟨its,r',pl,hz⟩:=I.list hq
  have hlen:=r'.length
  refine call_tuple_list pl.isList (fun h' kp=>?_) (by simp only [Jw] <;> omega)
  have I1:Inv X pins σ H { s with heap:=h' }:=I.kept (t':=s.toks) kp
  have I2:Inv X pins σ (upd H h'.objs.size (.tup ys)) { s with heap:=h'.push { cls:=.type "tuple",data:=.seq its.toArray } } :=
   I1.laid (t':=s.toks) (fun b o e=>Md _ e) (Jt _) (show cM X.prog X.w _ _ _ (.tup ys) from ⟨hz,its,r',IsTup.new _ _⟩)
  exact⟨.ref h'.objs.size,_,I2,rfl,q _ (I1.hok.fresh (Jt _))⟩
 ·obtain⟨its,r',pl,hz⟩:=I.tuple hq
  exact call_tuple_same pl ⟨.ref p,H,I,rfl,q⟩

def GY (K:Lj) (T:String) (x:V) (H:Hp):Prop:=match x with
 | .str _=>T = "str"
 | .int _=>T = "int"
 | .ref p=>(T = "list"/\∃ xs,la K H p xs)\/(T = "tuple"/\∃ o,K.lookup p=some o/\o.cls=.type "tuple"/\o.dict=none) \/
   (T = "dict"/\((∃ kvs,H p=some (.dK kvs))\/∃ kvs,H p=some (.dT kvs)))\/(T = "set"/\∃ S n,H p=some (.set S n))
 | _=>False
theorem zf {pins:List (MF×Obj)} {σ:St} {H:Hp} {s:ML} {T:String} {x:V} {v:MC} (I:Inv X pins σ H s) (r:RelV x v) (ty:GY X.K T x H) :
  s.TypeIs v T/\∀ a,v=.ref a->∃ ob,s.heap.get? a=some ob/\ob.dict=none:=by
 cases x with
 | str z =>
  obtain⟨t,rfl⟩:=r
  cases (show T = "str" from ty)
  exact⟨typeIs_str s z t,fun _ e=>nomatch e⟩
 | int i =>
  obtain⟨t,rfl⟩:=r
  cases (show T = "int" from ty)
  exact⟨typeIs_int s i t,fun _ e=>nomatch e⟩
 | ref p =>
  cases r
  rcases ty with ⟨rfl,xs,hq⟩ | ⟨rfl,o,hk,hc,hd⟩ | ⟨rfl,hk⟩ | ⟨rfl,S,n,hk⟩
  ·obtain⟨its,_,pl,_⟩:=I.list hq
   refine⟨pl.isList.typeIs,fun a e=>?_⟩
   cases e
   obtain⟨o,n,e,c,hd,_⟩:=pl
   exact⟨o,e,hd⟩
  ·refine⟨⟨o,I.kIn p o hk,hc⟩,fun a e=>?_⟩
   cases e
   exact⟨o,I.kIn _ o hk,hd⟩
  ·have z:∃ o,s.heap.get? p=some o/\o.ExactDict:=by
    rcases hk with ⟨kvs,hk⟩ | ⟨kvs,hk⟩
    ·obtain⟨_,_,_,_,o,_,_,e,ex,_⟩:=I.hok p _ hk
     exact⟨o,e,ex⟩
    ·obtain⟨_,_,_,_,o,_,_,e,ex,_⟩:=I.hok p _ hk
     exact⟨o,e,ex⟩
   obtain⟨o,e,ex⟩:=z
   refine⟨⟨o,e,ex.1⟩,fun a e2=>?_⟩
   cases e2
   exact⟨o,e,ex.2.1⟩
  ·obtain⟨o,_,_,_,e,ex,_⟩:=I.hok p _ hk
   refine⟨⟨o,e,ex.1⟩,fun a e2=>?_⟩
   cases e2
   exact⟨o,e,ex.2.1⟩
 | _=>exact False.elim ty
def Ir (K:Lj) (T:String) (r:V->List V->Hp->VK->Prop) (to:TE):TE:=fun σ H Q=>to σ H fun x H1=>GY K T x H1/\r x [] H1 Q
def IV (K:Lj) (T:String) (r:V->List V->Hp->VK->Prop) (to:TE) (t:TA):TE:=fun σ H Q=>to σ H fun x H1=>GY K T x H1/\t σ H1 fun xs H2=>r x xs H2 Q
variable {o e:MO} {es:List MO} {to:TE} {t:TA} {name:Str} {apos cpos:Pos} {T id:String} {r:V->List V->Hp->VK->Prop}
theorem DI (pa:PlainAttrs T) (slot:Slot T name id) (hty:typeOf (.builtin id)=pure (.type "method_descriptor")) (hm:Gb X id r) (ho:PE X o to)
  (hbase:Np o name X.env (eval o X.env)=eval o X.env:=by rfl) (hline:(apos.endLine==cpos.line)=true:=by rfl):PE X (.Call (.Attribute o name apos) [] [] cpos) (Ir X.K T r to):=by
 intro pins s σ H Q I h
 refine wpAny_Call_method0_late hbase hline (dR (ho pins s σ H _ I h) fun v s1 ⟨x,H1,I1,r1,ty,q1⟩=>?_)
 obtain⟨h1,h2⟩:=zf I1 r1 ty
 exact⟨T,id,pa,slot,hty,h1,h2,Calls.callWith_builtin rfl (PySem.evalArgs_none (hm pins s1 σ H1 x [] v [] Q I1 r1 .nil q1))⟩
theorem zR (pa:PlainAttrs T) (slot:Slot T name id) (hty:typeOf (.builtin id)=pure (.type "method_descriptor")) (hm:Gb X id r) (ho:PE X o to) (ha:PA X (e::es) t)
  (hbase:Np o name X.env (eval o X.env)=eval o X.env:=by rfl)
  (hfew:((backTo cpos (MP (e::es) X.env)).all (fun x=>!x.1) && (backToKw cpos (M9 [] X.env)).all (fun x=>x.1.isSome)
   && decide ((e::es).length+([]:List Nq).length+(if ([]:List Nq).isEmpty then 0 else 1) < 30))=true:=by rfl)
  (hline:(apos.endLine==cpos.line)=true:=by rfl) (hs:MP (e::es) X.env=(false,eval e X.env)::MP es X.env:=by rfl) (hplain:(backTo cpos (MP es X.env)).any (·.1)=false:=by rfl) :
  PE X (.Call (.Attribute o name apos) (e::es) [] cpos) (IV X.K T r to t):=by
 intro pins s σ H Q I h
 refine wpAny_Call_method_late hbase hfew hline rfl (dR (ho pins s σ H _ I h) fun v s1 ⟨x,H1,I1,r1,ty,q1⟩=>?_)
 obtain⟨h1,h2⟩:=zf I1 r1 ty
 refine⟨T,id,pa,slot,hty,h1,h2,?_⟩
 have hA:=ha cpos pins s1 σ H1 _ I1 q1
 rw [hs] at hA ⊢
 refine Calls.callWith_builtin (by show (false || (backTo cpos (MP es X.env)).any (·.1))=false; rw [hplain] <;> rfl) (Calls.evalArgs_plain ?_)
 exact dR hA fun us s2 ⟨vs,H2,I2,r2,q2⟩=>hm pins s2 σ H2 x vs v us Q I2 r1 r2 q2
end
end L2

namespace L2
open PySem PySem.Spec PyProof.Rows

def Ci (X:Cx) (id:String) (r:V->List V->Hp->VK->Prop):Prop :=
 ∀ (pins:List (MF×Obj)) (s:ML) (σ:St) (H:Hp) (x:V) (xs:List V) (v:MC) (us:List MC) (Q:VK),Inv X pins σ H s->RelV x v->Vals xs us->r x xs H Q ->
  MN (model X.prog X.w) X.A (call (.builtin id) (v::us)) (EP X pins σ Q) X.xe s

theorem Vals.one:∀ {x:V} {us:List MC},Vals [x] us->∃ u,us=[u]/\RelV x u
 | _,_,.cons r .nil=>⟨_,rfl,r⟩
theorem Vals.two:∀ {x y:V} {us:List MC},Vals [x,y] us->∃ u v,us=[u,v]/\RelV x u/\RelV y v
 | _,_,_,.cons r (.cons q .nil)=>⟨_,_,rfl,r,q⟩
theorem Vals.zero:∀ {us:List MC},Vals [] us->us=[]
 | _,.nil=>rfl
theorem Vals.eraseIdx:∀ {xs:List V} {us:List MC} (i:Nat),Vals xs us->Vals (xs.eraseIdx i) (us.eraseIdx i)
 | _,_,_,.nil=>.nil
 | _,_,0,.cons _ t=>t
 | _,_,i+1,.cons r t=>.cons r (Vals.eraseIdx i t)
theorem qK {α:Type}:∀ (l:List α) (i:Nat),(l.eraseIdx i).length<=l.length
 | [],_=>Jt _
 | _::_,0=>JL _
 | _::r,i+1=>Nat.succ_le_succ (qK r i)
section
variable {X:Cx} {pins:List (MF×Obj)} {σ:St} {H:Hp} {s:ML} {l b:MF} {xs ys zs:List V}

theorem Inv.lset {its its':List MC} {n:Nat} {f:Array MC->Array MC} {t':Nat} (I:Inv X pins σ H s) (hH:H l=some (.lst xs))
  (e:s.heap.get? l=some { cls:=.type "list",data:=.seq its.toArray n }) (hf:f its.toArray=its'.toArray) (hv:Vals ys its') (hz:ys.length<=MH) :
  Inv X pins σ (upd H l (.lst ys)) { s with heap:=s.heap.update l (Obj.mapSeq f),toks:=t' }:=by
 have q:=PySem.IsL.update e f
 rw [hf] at q
 refine I.write (x:=l) (e:=l) (by rw [hH]; exact trivial) (.inl rfl) (fun b' u hb hu=>(Mi s.heap (Obj.mapSeq f) (Ne.symm hb)).trans hu) ⟨_,q⟩ ?_
 exact⟨hz,its',_,hv,q⟩
theorem Inv.lnew {its:List MC} {t':Nat} (I:Inv X pins σ H s) (hv:Vals ys its) (hz:ys.length<=MH) :
  Inv X pins σ (upd H s.heap.objs.size (.lst ys)) { s with heap:=s.heap.push { cls:=.type "list",data:=.seq its.toArray },toks:=t' } :=
 I.laid (fun _ _ q=>Md _ q) (Jt _) ⟨hz,its,0,hv,Mf _ rfl⟩
theorem Inv.fresh (I:Inv X pins σ H s):H s.heap.objs.size=none:=I.hok.fresh (Jt _)
theorem Inv.lstM (I:Inv X pins σ H s) (hH:H l=some (.lst xs)):xs.length<=MH/\∃ (its:List MC) (n:Nat),Vals xs its/\xs.length=its.length/\s.heap.get? l=some { cls:=.type "list",data:=.seq its.toArray n }:=by
 obtain⟨z,its,n,r,e⟩:=I.hok l _ hH
 exact⟨z,its,n,r,r.length,e⟩

end

section
variable {X:Cx}

def wF:V->List V->Hp->VK->Prop:=fun x vs H Q=>∃ l xs y,x=.ref l/\vs=[y]/\H l=some (.lst xs)/\xs.length < MH/\Q .non (upd H l (.lst (xs++[y])))
theorem dN:Ci X "list.append" wF:=by
 intro pins s σ H x vs v us Q I rx rv h
 obtain⟨l,xs,y,rfl,rfl,hH,hz,q⟩:=h
 cases rx
 obtain⟨u,rfl,ru⟩:=rv.one
 obtain⟨z,its,n,r,hl,e⟩:=I.lstM hH
 refine Nr F.slot_list_append ⟨_,e,rfl⟩ F.entry_list_append (F.args_list_append_2 _ _) (PySem.list_append l its.toArray n u (by rw [Jw]; omega)) ⟨e,?_⟩
 refine⟨.non,_,I.lset (its':=its++[u]) hH e (by simp) (r.append (.cons ru .nil)) ?_,rfl,q⟩
 rw [JH,JM]
 omega

def yj:V->List V->Hp->VK->Prop:=fun x vs H Q=>∃ l xs i k y,x=.ref l/\vs=[.int i]/\H l=some (.lst xs)/\-(2 ^ 63)<=i/\i < 2 ^ 63/\seqIndex? i xs.length=some k/\xs[k]?=some y/\Q y (upd H l (.lst (xs.eraseIdx k)))
theorem Af:Ci X "list.pop" yj:=by
 intro pins s σ H x vs v us Q I rx rv h
 obtain⟨l,xs,i,k,y,rfl,rfl,hH,h1,h2,hk,hy,q⟩:=h
 cases rx
 obtain⟨u,rfl,ru⟩:=rv.one
 obtain⟨t,rfl⟩:=ru
 obtain⟨z,its,n,r,hl,e⟩:=I.lstM hH
 obtain⟨w,hw,rw'⟩:=r.get hy
 refine Nr F.slot_list_pop ⟨_,e,rfl⟩ F.entry_list_pop (F.args_list_pop_2 _ _)
  (MeetsSeq.list_pop_at l its.toArray n i t k w (fitsIndex_both h1 h2) (by rw [Jw,<- hl]; exact hk) (by rw [<- Array.getElem?_toList]; exact hw) (by rw [Jw]; omega)) ⟨e,?_⟩
 refine⟨y,_,I.lset (its':=its.eraseIdx k) hH e ?_ (r.eraseIdx k) ?_,rw',q⟩
 ·show its.toArray.eraseIdxIfInBounds k=(its.eraseIdx k).toArray
  rw [List.eraseIdxIfInBounds_toArray]
 ·have:=qK xs k
  omega

end


end L2

namespace Att
open PySem PySem.W PySem.Calls PyProof.Rows

theorem n9 {P:Params} {h:MG}:∀ (ns:List Int) (vs:List MC),WellAll P h vs (ns.map WData.int)->IntsAre vs ns:=by
 intro ns
 induction ns with
 | nil =>
  intro vs w
  rw [JN] at w
  cases w
  exact .nil
 | cons n ns ih =>
  intro vs w
  rw [JO] at w
  cases w with
  | cons a b =>
   cases a
   exact .cons _ _ (ih _ b)

theorem xR {l:OpenLaw} {n:Nat} (hn:l.most=some n) {P:Params} {h:MG} {args:List WData} {vals:List MC}
  (hpre:l.row.toRowW.claim.pre args=true) (hwl:WellAll P h vals args) :
  ∃ a vs ns,vals=[Value.ref a]/\args=[WData.list (ns.map WData.int)]/\h.get? a=some { cls:=.type "list",data:=.seq vs.toArray }/\IntsAre vs ns/\ns.length<=n:=by
 have hsh:WShape.hasAll [] args [.list .int]=true:=(pre_splitW hpre).1
 have hc:l.pre.holds [] { args:=args }=true:=(pre_splitW hpre).2
 obtain⟨d,r,rfl,h1,h2⟩:=hasAllW_cons hsh
 obtain rfl:=hasAllW_nil h2
 obtain⟨xs,rfl,h3⟩:=hasW_list h1
 obtain⟨ns,rfl⟩:=items_int h3
 have hlen:ns.length<=n:=by
  unfold OpenLaw.pre at hc
  have h4:(WTm.not (.lt (.lit (.int (n:Int))) (.len (.arg 0)))).holds [] { args:=[.list (ns.map .int)] }=true:=by
   have h4:=(holds_andW hc).1
   rw [hn] at h4
   exact h4
  have h5:=condW_of h4 (w_not (w_lt w_lit (w_len_list (w_arg rfl))))
  rw [JI] at h5
  refine Nat.le_of_not_lt fun q=>?_
  have q':(n:Int) < ((ns.length:Nat):Int):=by omega
  first
   | (rw [decide_eq_true q'] at h5; exact absurd h5 (by decide))
   | (simp at h5; omega)
 cases hwl with
 | cons w1 w2 =>
  cases w2
  cases w1 with
  | list ho hall=>exact⟨_,_,ns,rfl,rfl,ho,n9 ns _ hall,hlen⟩

theorem xt (l:OpenLaw) (args:List WData):l.row.toRowW.claim.post args (.bool true) args=true :=
 postW_of (r:=l.row.toRowW) (X:=(true==true))
  (show WShape.has [] (.bool true) .bool=true by first | rfl | decide | simp [WShape.has,WShape.arms,WShape.armsAll])
  (show (WTm.eq .res (.lit (.bool true))).value [] { args:=args,res:=some (.bool true),after:=args }=some (.bool (true==true)) from w_eq_bool (w_res rfl) w_lit) rfl

theorem B5 {l:OpenLaw} {n:Nat} {q:ME} {loose:List Str} {XP:(Str->Option MC)->MG->Prop} {YP:MD->MG->Prop} {d:DefRec}
  (hn:l.most=some n) (hdf:d.params.defaults=[])
  (call:∀ (w:MD) (s₀ s₁:ML) (mg mb:Str->Option MC) (fa:MF) (o:Obj) (pm cd doc:MC) (a:MF) (vs:List MC) (ns:List Int),
   Ground q loose [] XP w s₀ mg mb s₁.heap->YP w s₁.heap ->
   s₁.heap.get? fa=some o->o.data=.func (docDef d.name d.params d.body d.scope pm cd doc)->s₁.heap.CodeRec cd d.name->mg d.name=some (.ref fa) ->
   s₁.heap.get? a=some { cls:=.type "list",data:=.seq vs.toArray }->IntsAre vs ns->ns.length<=n->s₁.gens=#[] ->
   M7 (model l.prog w) callerA (.call (.ref fa) ⟨[.ref a],[]⟩) (fun r s'=>r=.ok (.ret (.bool true))/\OldK s₁.heap s'.heap/\s'.os=s₁.os/\AllBare s'.gens) s₁) :
  WalkO q loose XP YP l.row.toRowW d [] (fun f vs=>PySem.call f vs):=by
 intro w s₀ s₁ mg mb G Y fa o pm cd doc dV kV ho hd hcd hD hmg hg args vals as hpre hlay hrd hwl hlo
 obtain rfl:dV=.none:=Dflts.none hD hdf
 obtain rfl:kV=.none:=Dflts.noKw hD
 obtain⟨a,vs,ns,rfl,rfl,hobj,hints,hlen⟩:=xR hn hpre hwl
 refine enter_call (Nt (call w s₀ s₁ mg mb fa o pm cd doc a vs ns G Y ho (fd_plain hd) hcd hmg hobj hints hlen hg) fun r s' hq=>?_)
 obtain⟨rfl,h2,h3,h4⟩:=hq
 exact⟨.inl ⟨.bool true,.bool true,[],rfl,fun _=>rfl,.bool true,xt l _,fun _=>⟨List.Pairwise.nil,fun _ hm=>(nomatch hm)⟩⟩,h2,h3,h4⟩

section
variable {prog:ME} {w:MD} {A:MK} {E:MC->ML->Prop} {s:ML} {K:Frag}

end
end Att

namespace L2
open PySem PySem.Spec PyProof.Rows

theorem qx:∀ {vs:List MC} {ns:List Int},IntsAre vs ns->Vals (ns.map V.int) vs
 | _,_,.nil=>.nil
 | _,_,.cons n t h=>.cons ⟨t,rfl⟩ (qx h)

def Only (H:Hp):Prop:=∀ b,H b=none\/∃ o xs,H b=some (.frz o (.lst xs))

theorem Aj {P:ME} {w:MD} {K:Lj} {mg mb:Str->Option MC} {CX:yf} {k:Nat} {fa a:MF} {fd:Nf} {x:Str} {sp:Sp} {s₁:ML} {vs:List MC} {ns:List Int}
  (KX:K.In s₁.heap) (hns:s₁.heap.Ns MI mg) (hb:s₁.heap.Ns builtinsNs mb) (hbb:∀ x:Str,x ≠ "__name__"->mb x=MJ x) (hlim:s₁.heap.NoLimit) (hg:s₁.gens=#[])
  (ha:s₁.heap.get? a=some { cls:=.type "list",data:=.seq vs.toArray }) (hi:IntsAre vs ns) (hl:ns.length<=MH) (hr:ik k callerA)
  (F:∀ base:MG,K.In base->base.Ns MI mg->kT P w K mg base CX k fa fd [x] sp) (hbind:∀ (s:ML) (u:MC),Ng s fd ⟨[u],[]⟩ [(x,u)])
  (hsp:∀ H:Hp,Only H->la K H a (ns.map V.int)->sp [.ref a] H (fun v _=>v=.bl true) fun _ _ _=>False)
  (hCX:∀ H e s',CX [] H s₁ (fun _ _ _=>False) e s'->False) :
  M7 (model P w) callerA (.call (.ref fa) ⟨[.ref a],[]⟩) (fun r s'=>r=.ok (.ret (.bool true))/\OldK s₁.heap s'.heap/\s'.os=s₁.os/\AllBare s'.gens) s₁:=by
 have rv:=qx hi
 have lenV:=hi.length
 have core:∀ H:Hp,Only H->la K H a (ns.map V.int)->mV P w H s₁.heap->(∀ b,H b≠none->b=a)->(H a≠none->K.lookup a=none) ->
   M7 (model P w) callerA (.call (.ref fa) ⟨[.ref a],[]⟩) (fun r s'=>r=.ok (.ret (.bool true))/\OldK s₁.heap s'.heap/\s'.os=s₁.os/\AllBare s'.gens) s₁:=by
  intro H hO hS hok hA hK
  have base_of:∀ {b:MF} {o:Obj},s₁.heap.get? b=some o->H b=none->(mD s₁.heap H).get? b=some o:=fun e n=>tU e n
  have noA:∀ {b:MF} {o:Obj} {es:Array DictEntry} {ep:Nat},s₁.heap.get? b=some o->o.data=.dict es ep->H b=none:=fun {b o es ep} e d=>by
   cases q:H b with
   | none=>rfl
   | some u =>
    have e':b=a:=hA b (by rw [q]; simp)
    subst e'
    rw [ha] at e; cases e
    have d':Data.seq vs.toArray _=Data.dict es ep:=d
    cases d'
  have nsK:∀ {b:MF} {m:Str->Option MC},s₁.heap.Ns b m->(mD s₁.heap H).Ns b m:=fun {b m} ⟨o,es,ep,e,d,r⟩=>⟨o,es,ep,base_of e (noA e d),d,r⟩
  have hKb:K.In (mD s₁.heap H):=fun b o e=>base_of (KX b o e) (by
   cases q:H b with
   | none=>rfl
   | some u =>
    have e':b=a:=hA b (by rw [q]; simp)
    subst e'
    rw [hK (by rw [q]; simp)] at e; cases e)
  have hM:Mod K mg (mD s₁.heap H):=⟨hKb,nsK hns,⟨mb,nsK hb,hbb⟩,let ⟨mc,h1,h2⟩:=hlim; ⟨mc,nsK h1,h2⟩⟩
  have e0:uU P w K mg (mD s₁.heap H) callerA [] s₁ H:=⟨rfl,hM,fun b o e=>vO e,Jy (xO _ _),trivial,fun b hb=>absurd (show b∈([]:List MF) from hb) (by simp),hok,.of_eq hg⟩
  refine Nt ((F _ hKb (nsK hns)).run callerA [] s₁ H ⟨[.ref a],[]⟩ [.ref a] [.ref a] _ _ hr e0 (hbind s₁ (.ref a)) (.cons rfl .nil) (hsp H hO hS)) fun r s' h=>?_
  cases r with
  | error e=>exact(hCX H e s' h).elim
  | ok fl =>
   cases fl with
   | next=>exact False.elim h
   | brk=>exact False.elim h
   | cont=>exact False.elim h
   | ret u =>
    obtain⟨v,H',os,bare,un,hok',r',q⟩:=h
    have q':v=.bl true:=q
    subst q'
    obtain rfl:u=Value.bool true:=r'
    refine⟨rfl,OldK.of_keep fun b o e=>?_,os,bare⟩
    cases q:H b with
    | none=>exact un.keep b o e q (by intro z; exact absurd (show b∈([]:List MF) from z) (by simp)) (by simp)
    | some u =>
     rcases hO b with z | ⟨ob,xs,z⟩
     ·rw [q] at z; cases z
     ·have z2:=un.frzs b ob _ z
      obtain⟨e1,_⟩:=hok b _ z
      obtain⟨e2,_⟩:=hok' b _ z2
      rw [e] at e1; cases e1
      exact e2
 cases hk:K.lookup a with
 | some o =>
  have e:=KX a o hk
  rw [ha] at e
  cases e
  refine core (fun _=>none) (fun _=>.inl rfl) (.inr ⟨_,vs.toArray,_,hk,rfl,rfl,rfl,by rw [Jw,lenV]; exact hl,by simpa using rv⟩) (fun b u z=>by have z':(none:Option HO)=some u:=z; cases z') (fun b z=>absurd rfl z) fun z=>absurd rfl z
 | none =>
  refine core (fun b=>if b=a then some (.frz { cls:=.type "list",data:=.seq vs.toArray } (.lst (ns.map V.int))) else none) (fun b=>?_) (.inl (.inr ⟨{ cls:=.type "list",data:=.seq vs.toArray },if_pos rfl⟩)) (fun b u z=>?_) (fun b z=>?_) fun _=>hk
  ·by_cases hb:b=a
   ·exact .inr ⟨_,_,if_pos hb⟩
   ·exact .inl (if_neg hb)
  ·by_cases hb:b=a
   ·have z':=(if_pos hb).symm.trans z
    cases z'
    subst hb
    exact⟨ha,by rw [JI]; exact hl,vs,_,rv,ha⟩
   ·have z':=(if_neg hb).symm.trans z
    cases z'
  ·by_cases hb:b=a
   ·exact hb
   ·exact absurd (if_neg hb) z
end L2

namespace L2
open PySem PySem.Spec PyProof.Rows

theorem Gz {l:LO} {n k:Nat} {q:ME} {loose:List Str} {XP:(Str->Option MC)->MG->Prop} {YP:MD->MG->Prop} {d:DefRec} {K:Params->Lj} {CX:MD->yf} {sp:MD->Sp} {x:Str}
  (hn:l.most=some n) (hn2:n<=MH) (hdf:d.params.defaults=[]) (hr:ik k callerA)
  (hY:∀ (w:MD) (h:MG),YP w h->(K w.params).In h)
  (F:∀ (w:MD) (mg:Str->Option MC) (fa:MF) (h:MG),(K w.params).In h->h.Ns MI mg->mg d.name=some (.ref fa) ->
   ∃ fd:Nf,(∀ (s:ML) (u:MC),Ng s fd ⟨[u],[]⟩ [(x,u)]) /\
    ∀ base:MG,(K w.params).In base->base.Ns MI mg->kT l.prog w (K w.params) mg base (CX w) k fa fd [x] (sp w))
  (hsp:∀ (w:MD) (H:Hp) (a:MF) (ns:List Int),ns.length<=n->Only H->la (K w.params) H a (ns.map V.int)->sp w [.ref a] H (fun v _=>v=.bl true) fun _ _ _=>False)
  (hCX:∀ (w:MD) (H:Hp) (s:ML) (e:MC) (s':ML),CX w [] H s (fun _ _ _=>False) e s'->False) :
  PySem.W.WalkO q loose XP YP l.row.toRowW d [] (fun f vs=>PySem.call f vs):=by
 refine Att.B5 hn hdf fun w s₀ s₁ mg mb fa o pm cd doc a vs ns G Y ho hd hcd hmg hobj hints hlen hg=>?_
 have KX:=hY w _ Y
 obtain⟨fd,hb,hF⟩:=F w mg fa _ KX G.T.g hmg
 exact Aj KX G.T.g G.T.b G.T.builtins G.T.nolimit hg hobj hints (Jk hlen hn2) hr hF hb (fun H hO hS=>hsp w H a ns hlen hO hS) fun H e s'=>hCX w H s₁ e s'
end L2

namespace L2
open PySem PySem.Spec PyProof.Rows

def inClass (s:MQ) (j:Nat):MQ:=match s with
 | .ClassDef _ _ _ body _ _ _ _ _ _ _=>body.getD j (.Pass ⟨0,0,0,0⟩)
 | _=>.Pass ⟨0,0,0,0⟩
def kG (s:MQ):Arguments:=match s with
 | .FunctionDef _ a _ _ _ _ _ _ _ _=>a
 | _=>{ posonlyargs:=[],args:=[],vararg:=none,kwonlyargs:=[],kw_defaults:=[],kwarg:=none,defaults:=[] }
def eP (s:MQ):List MQ:=match s with
 | .FunctionDef _ _ b _ _ _ _ _ _ _=>b
 | _=>[]
def aC (s:MQ):MM:=match s with
 | .FunctionDef _ _ _ _ _ _ sc _ _ _=>sc
 | _=>{ kind:=.function,names:=[],isGenerator:=false,isCoroutine:=false }

abbrev E0:XK:=fun _ _ _=>False
structure yh (K:Lj) (x qual:Str) (st:MQ) (f:MF) (fd:Nf):Prop where
 ex:∃ (oc:MC) (od:Option MF) (kV doc pm:MC) (an:Option MF) (cdv ct:MC) (osl:Array (Option MC)),
  fd=LJ x qual (kG st) (eP st) (aC st) .none kV doc pm an cdv ct/\K.lookup f=some ⟨oc,od,.func fd,osl⟩/\LK K cdv qual=true
 kp:LC K (.ref f)=true
section
variable {P:ME} {w:MD} {K:Lj} {mg:Str->Option MC} {base:MG}
theorem yh.binds {x qual:Str} {st:MQ} {f:MF} {fd:Nf} {ps:List Str} (F:yh K x qual st f fd)
  (h:∀ (kV doc pm:MC) (an:Option MF) (cdv ct:MC) (us:List MC),us.length=ps.length->bindArgs (LJ x qual (kG st) (eP st) (aC st) .none kV doc pm an cdv ct) ⟨us,[]⟩=pure (ps.zip us)):Binds K fd ps []:=by
 obtain⟨oc,od,kV,doc,pm,an,cdv,ct,osl,rfl,lk,hcd⟩:=F.ex
 exact .all (h kV doc pm an cdv ct)
theorem cw {x qual:Str} {st:MQ} {f:MF} {oc:MC} {od an:Option MF} {osl:Array (Option MC)} {kV doc pm cdv ct:MC} (l:K.lookup f=some ⟨oc,od,.func (LJ x qual (kG st) (eP st) (aC st) .none kV doc pm an cdv ct),osl⟩)
  (c:LK K cdv qual=true) (k:LC K (.ref f)=true):yh K x qual st f (LJ x qual (kG st) (eP st) (aC st) .none kV doc pm an cdv ct):=⟨⟨oc,od,kV,doc,pm,an,cdv,ct,osl,rfl,l,c⟩,k⟩
end
section
variable {X:Cx}
theorem pv (i:Nat) {x:Str} {pos:Pos} (hN:X.N[i]?=some x:=by rfl) (hv:DZ X.env.scope x:=by first | exact Or.inl rfl | exact Or.inr (Or.inl rfl) | exact Or.inr (Or.inr rfl)) (hd:(x==("__debug__":Str))=false:=by decide)
  (hcd:(x==("__classdict__":Str))=false:=by decide):PE X (.Name x pos) (qg i):=Cu hN hv hd hcd
end

theorem xu {A B:Prop} (h:B):if false=true then A else B:=by
 rw [if_neg Jx]
 exact h
theorem wY {A B:Prop} (h:A):if true=true then A else B:=by
 rw [if_pos rfl]
 exact h
def bC (H H':Hp):Prop:=∀ b o,H b=some o->H' b=some o
theorem bC.refl (H:Hp):bC H H:=fun _ _ h=>h
theorem bC.trans {H H1 H2:Hp} (a:bC H H1) (b:bC H1 H2):bC H H2:=fun c o h=>b c o (a c o h)
theorem bC.free {H H':Hp} (e:bC H H') {l:MF} (h:H' l=Option.none):H l=Option.none:=by
 cases q:H l with
 | none=>rfl
 | some o =>
  rw [e l o q] at h
  cases h
theorem bC.seq {K:Lj} {H H':Hp} {a:MF} {xs:List V} (e:bC H H') (h:la K H a xs):la K H' a xs:=by
 rcases h with (h | ⟨o,h⟩) | h
 ·exact .inl (.inl (e _ _ h))
 ·exact .inl (.inr ⟨o,e _ _ h⟩)
 ·exact .inr h

end L2
namespace L2
open PySem PySem.Spec PyProof.Rows

section
variable {κ:Type} [DecidableEq κ]
def vh (kvs:List (κ×V)) (k:κ):Option V:=(kvs.find? fun kv=>decide (kv.1=k)).map (·.2)
def putK (kvs:List (κ×V)) (k:κ) (v:V):List (κ×V) :=
 if (kvs.any fun kv=>decide (kv.1=k))=true then kvs.map (fun kv=>if kv.1=k then (kv.1,v) else kv) else kvs++[(k,v)]
theorem ug {p:κ×V} {r:List (κ×V)} {k:κ} (e:p.1=k):vh (p::r) k=some p.2:=by simp [vh,JP,e]
theorem ua {p:κ×V} {r:List (κ×V)} {k:κ} (e:¬ p.1=k):vh (p::r) k=vh r k:=by simp [vh,JP,e]
theorem ut (k:κ):∀ kvs:List (κ×V),(kvs.any fun kv=>decide (kv.1=k))=(vh kvs k).isSome
 | []=>rfl
 | p::r=>by
  rw [JQ]
  by_cases e:p.1=k
  ·simp only [ug e,decide_eq_true e,JR,Option.isSome_some]
  ·rw [ua e,decide_eq_false e,JS]; exact ut k r
theorem nU (kvs:List (κ×V)) (k:κ) (v:V):(putK kvs k v).length<=kvs.length+1:=by
 unfold putK
 split
 ·rw [JI]; omega
 ·rw [JH,JT,JU]; omega
theorem xg.isSome_eq {o:Option V} {u:Option MC} (r:xg o u):o.isSome=u.isSome:=by
 cases o with
 | none=>cases u with
  | none=>rfl
  | some _=>exact(show False from r).elim
 | some _=>cases u with
  | none=>exact(show False from r).elim
  | some _=>rfl
theorem KV.any {kvs:List (κ×V)} {vs:List (κ×MC)} (r:KV kvs vs) (k:κ):(kvs.any fun kv=>decide (kv.1=k))=vs.any fun kv=>decide (kv.1=k):=by
 unfold KV at r
 induction r with
 | nil=>rfl
 | cons h t ih=>rw [JQ,JQ,ih,h.1]
theorem KV.repl {kvs:List (κ×V)} {vs:List (κ×MC)} (r:KV kvs vs) (k:κ) {y:V} {u:MC} (ry:RelV y u) :
  KV (kvs.map fun kv=>if kv.1=k then (kv.1,y) else kv) (vs.map fun kv=>if kv.1=k then (kv.1,u) else kv):=by
 unfold KV at r ⊢
 induction r with
 | nil=>exact .nil
 | @cons p q ps qs h t ih =>
  rw [JO,JO]
  refine .cons ?_ ih
  obtain⟨h1,h2⟩:=h
  by_cases e:p.1=k
  ·rw [if_pos e,if_pos (h1.symm.trans e)]; exact⟨h1,ry⟩
  ·rw [if_neg e,if_neg (fun z=>e (h1.trans z))]; exact⟨h1,h2⟩
theorem KV.put {kvs:List (κ×V)} {vs:List (κ×MC)} (r:KV kvs vs) (k:κ) {y:V} {u:MC} (ry:RelV y u):KV (putK kvs k y) (stored vs k u):=by
 unfold putK stored
 rw [r.any k]
 by_cases e:(vs.any fun kv=>decide (kv.1=k))=true
 ·rw [if_pos e,if_pos e]; exact r.repl k ry
 ·rw [if_neg e,if_neg e]; exact Paired.snoc r ⟨rfl,ry⟩
theorem KV.keys {kvs:List (κ×V)} {vs:List (κ×MC)} (r:KV kvs vs):kvs.map (·.1)=vs.map (·.1):=by
 unfold KV at r
 induction r with
 | nil=>rfl
 | cons h t ih=>rw [JO,JO,ih,h.1]
theorem KV.length {kvs:List (κ×V)} {vs:List (κ×MC)} (r:KV kvs vs):kvs.length=vs.length:=Paired.length r
end


theorem Cm {P:ME} {w:MD} {k:Key} {u:MC} (r:RelV (kV k) u):(cJ P w).is k u=true:=by
 cases k with
 | inl i=>obtain⟨t,e⟩:=(show ∃ t,u=Value.int i t from r); subst e; exact tR P w i t
 | inr x=>obtain⟨t,e⟩:=(show ∃ t,u=Value.str x t from r); subst e; exact uA P w x t
theorem qN {P:ME} {w:MD}:∀ {ks:List Key} {us:List MC},Vals (ks.map kV) us->ItemsAre (cJ P w) ks us
 | [],_,r=>by rw [JN] at r; cases r; exact .nil
 | k::ks,_,r=>by
  rw [JO] at r
  cases r with
  | cons h t=>exact .cons (Cm h) (qN t)

abbrev KT (H:Hp):List (List Key×V)->List (List Key×MF×MC)->Prop:=Paired fun p q=>p.1=q.1/\H q.2.1=some (.tup (p.1.map kV))/\RelV p.2 q.2.2
theorem KT.val {H:Hp} {kvs:List (List Key×V)} {xs:List (List Key×MF×MC)} (r:KT H kvs xs) (k:List Key):xg (vh kvs k) ((atKey xs k).map (·.2)):=by
 induction r with
 | nil=>exact True.intro
 | @cons p q ps qs h t ih =>
  obtain⟨h1,_,h2⟩:=h
  by_cases e:p.1=k
  ·have e':q.1=k:=h1.symm.trans e
   have b:atKey (q::qs) k=some q.2:=by simp [atKey,JP,e']
   rw [ug e,b]; exact h2
  ·have e':¬ q.1=k:=fun z=>e (h1.trans z)
   have b:atKey (q::qs) k=atKey qs k:=by simp [atKey,JP,e']
   rw [ua e,b]; exact ih
theorem KT.repl {H:Hp} {kvs:List (List Key×V)} {xs:List (List Key×MF×MC)} (r:KT H kvs xs) (k:List Key) {y:V} {u:MC} (ry:RelV y u) :
  KT H (kvs.map fun kv=>if kv.1=k then (kv.1,y) else kv) (xs.map (putAt k u)):=by
 induction r with
 | nil=>exact .nil
 | @cons p q ps qs h t ih =>
  rw [JO,JO]
  refine .cons ?_ ih
  obtain⟨h1,h2,h3⟩:=h
  unfold putAt
  by_cases e:p.1=k
  ·rw [if_pos e,if_pos (h1.symm.trans e)]; exact⟨h1,h2,ry⟩
  ·rw [if_neg e,if_neg (fun z=>e (h1.trans z))]; exact⟨h1,h2,h3⟩
theorem KT.put {H:Hp} {kvs:List (List Key×V)} {xs:List (List Key×MF×MC)} (r:KT H kvs xs) (k:List Key) {b:MF} {y:V} {u:MC} (hb:H b=some (.tup (k.map kV))) (ry:RelV y u) :
  KT H (putK kvs k y) (storedH xs k b u):=by
 have e:(kvs.any fun kv=>decide (kv.1=k))=(atKey xs k).isSome:=by
  rw [ut,(r.val k).isSome_eq,Option.isSome_map]
 unfold putK storedH
 rw [e]
 by_cases q:(atKey xs k).isSome=true
 ·rw [if_pos q,if_pos q]; exact r.repl k ry
 ·rw [if_neg q,if_neg q]; exact Paired.snoc r ⟨rfl,hb,ry⟩
theorem KT.keeps {H H':Hp} {kvs:List (List Key×V)} {xs:List (List Key×MF×MC)} (r:KT H kvs xs) (ht:∀ b ys,H b=some (.tup ys)->H' b=some (.tup ys)):KT H' kvs xs :=
 Paired.mapP r fun _ _ z=>⟨z.1,ht _ _ z.2.1,z.2.2⟩

section
variable {P:ME} {w:MD} {H:Hp} {h:MG} {a:MF}
theorem Cp {u:HO} (ok:mV P w H h) (e:Rd H a u):cM P w H h a u:=e.ok ok
theorem Ej {kvs:List (Key×V)} (ok:mV P w H h) (e:Rd H a (.dK kvs)):kvs.length<=MH/\(a==sysModules)=false/\∃ vs,KV kvs vs/\h.DictOf (cJ P w) a vs :=
 show cM P w H h a (.dK kvs) from Cp ok e
theorem BW {kvs:List (Key×V)} (ok:mV P w H h) (e:H a=some (.dK kvs)):kvs.length<=MH/\(a==sysModules)=false/\∃ vs,KV kvs vs/\h.DictOf (cJ P w) a vs:=Ej ok (.inl e)
theorem yP {ks:List Key} (ok:mV P w H h) (e:H a=some (.tup (ks.map kV))):(tupleKind (cJ P w)).is h ks a:=by
 obtain⟨_,its,r,o,h1,h2,n,h3⟩:=(show cM P w H h a (.tup (ks.map kV)) from ok a _ e)
 exact⟨o,its.toArray,n,h1,h2,h3,by simpa using qN r⟩
theorem Fv {kvs:List (List Key×V)} (ok:mV P w H h) (e:Rd H a (.dT kvs)):kvs.length<=MH/\(a==sysModules)=false /\
  ∃ xs,KT H kvs xs/\h.DictOfH (tupleKind (cJ P w)) a xs:=by
 obtain⟨z,y,xs,r,o,es,ep,h1,h2,h3,h4,h5⟩:=(show cM P w H h a (.dT kvs) from Cp ok e)
 refine⟨z,y,xs,r,o,es,ep,h1,h2,h3,h4,fun x hx=>?_,h5⟩
 have all:∀ {l:List (List Key×V)} {m:List (List Key×MF×MC)},KT H l m->∀ x∈m,(tupleKind (cJ P w)).is h x.1 x.2.1:=by
  intro l m q
  induction q with
  | nil=>intro x hx; exact nomatch hx
  | @cons p q ps qs hq t ih =>
   intro x hx
   rcases List.mem_cons.mp hx with e | hx
   ·subst e
    exact yP ok (by rw [<- hq.1]; exact hq.2.1)
   ·exact ih x hx
 exact all r x hx
theorem Eg {kvs:List (List Key×V)} (ok:mV P w H h) (e:H a=some (.dT kvs)):kvs.length<=MH/\(a==sysModules)=false /\
  ∃ xs,KT H kvs xs/\h.DictOfH (tupleKind (cJ P w)) a xs:=Fv ok (.inl e)
end

def Fa (H:Hp) (a:MF) (y v:V) (H':Hp):Prop :=
 (∃ kvs k,H a=some (.dK kvs)/\y=kV k/\kvs.length < MH/\H'=upd H a (.dK (putK kvs k v))) \/
 ∃ kvs k b,H a=some (.dT kvs)/\y=.ref b/\H b=some (.tup (k.map kV))/\kvs.length < MH/\H'=upd H a (.dT (putK kvs k v))
theorem Fa.k {H:Hp} {a:MF} {kvs:List (Key×V)} {k:Key} {v:V} (e:H a=some (.dK kvs)) (hl:kvs.length < MH):Fa H a (kV k) v (upd H a (.dK (putK kvs k v))):=.inl ⟨kvs,k,e,rfl,hl,rfl⟩
section
variable {X:Cx} {pins:List (MF×Obj)} {σ:St} {H:Hp} {s:ML} {a:MF} {y v:V} {u r:MC} {o:Option V} {A:MK} {E:MC->ML->Prop}

theorem Inv.big (I:Inv X pins σ H s):sysModules < s.heap.objs.size:=by
 have h:MI < s.heap.objs.size:=(I.mod.glob.keeps I.bk).lt
 exact Nat.lt_trans (by decide) h

theorem rS {h':MG} {t':Nat} {ob:HO} (I:Inv X pins σ H s) (mu:EZ (H a)) (hs:Mb a s.heap h') (he:∃ q,h'.get? a=some q) (new:cM X.prog X.w (upd H a ob) h' a ob) :
  Inv X pins σ (upd H a ob) { s with heap:=h',toks:=t' } :=
 I.write (x:=a) (e:=a) mu (.inl rfl) (fun b q hb z=>(hs.2 b hb).trans z) he new
theorem CW {P:ME} {w:MD} {H':Hp} {h':MG} {kvs:List (Key×V)} {vs:List (Key×MC)} (z:kvs.length<=MH) (hd:(a==sysModules)=false) (rel:KV kvs vs) (dd:h'.DictOf (cJ P w) a vs) :
  cM P w H' h' a (.dK kvs):=⟨z,hd,vs,rel,dd⟩
theorem qU {H':Hp} {Q:Unit->ML->Prop} (hu:A.units+1 < Nc) (I:Inv X pins σ H s) (g:Fa H a y v H') (ry:RelV y u) (rv:RelV v r) (h:∀ s',Inv X pins σ H' s'->Q () s') :
  MN (model X.prog X.w) A (setItem (.ref a) u r) Q E s:=by
 rcases g with ⟨kvs,k,e,ey,l,eH⟩ | ⟨kvs,k,b,e,ey,eb,l,eH⟩
 ·subst ey eH
  obtain⟨z,hd,vs,rel,dd⟩:=BW I.hok e
  have hz:vs.length<=MH:=by rw [<- rel.length]; exact z
  have hl:(putK kvs k v).length<=MH:=by have:=nU kvs k v; omega
  refine wpAny_setItem_pairs (hsz:=hz) (Cm ry) dd fun h' dd' hs=>h _ ?_
  have he:∃ q,h'.get? a=some q:=let ⟨q,_,_,hq,_⟩:=dd'; ⟨q,hq⟩
  exact rS I (by rw [e]; exact True.intro) hs he (CW hl hd (rel.put k rv) dd')
 ·subst ey eH
  cases (show u=Value.ref b from ry)
  obtain⟨z,hd,xs,rel,dd⟩:=Eg I.hok e
  have hz:xs.length<=MH:=by rw [<- Paired.length rel]; exact z
  have hl:(putK kvs k v).length<=MH:=by have:=nU kvs k v; omega
  refine wpAny_setItem_heap (hsz:=hz) (tupleKind_room_in1 hu) (yP I.hok eb) dd fun h' dd' hs=>h _ ?_
  obtain⟨q,es,ep,hq,h2,h3,h4,_,h5⟩:=dd'
  refine rS I (by rw [e]; exact True.intro) hs ⟨q,hq⟩ ⟨hl,hd,_,(rel.put k eb rv).keeps fun c ys ec=>?_,q,es,ep,hq,h2,h3,h4,h5⟩
  rw [aW (Et ec e (fun z=>nomatch z))]
  exact ec
end





theorem ym {P:ME} {w:MD} {H:Hp} (h:MG) (hb:sysModules < h.objs.size):cM P w H (h.push { cls:=.type "dict",data:=.dict #[] }) h.objs.size (.dT []) :=
 ⟨Jz _,beq_eq_false_iff_ne.mpr (Ne.symm (Jj hb)),[],.nil,_,#[],0,Mf _ rfl,⟨rfl,rfl,rfl⟩,rfl,rfl,JV⟩
def CN:TE:=fun _ H Q=>∀ p,H p=none->Q (.ref p) (upd H p (.dT []))
section
variable {X:Cx} {pos:Pos}
theorem zg:PE X (.Dict [] [] pos) CN:=fun pins s σ H Q I h =>
 wpAny_Dict_empty ⟨.ref s.heap.objs.size,_,I.laid (a:=s.heap.objs.size) (o:=.dT []) (t':=s.toks) (fun _ _ q=>Md _ q) (Jt _) (ym s.heap I.big),rfl,h _ (I.hok.fresh (Jt _))⟩
end





end L2
namespace L2
open PySem PySem.Spec PyProof.Rows
end L2
namespace L2
open PySem PySem.Spec PyProof.Rows

def cS (cells:List (Str×MF)):List (Str×Nh)->List (Str×MF)->List (Str×MF)
 | [],acc=>acc
 | (n,k)::r,acc=>if k=.free then (match cells.lookup n with | some c=>cS cells r ((n,c)::acc) | none=>cS cells r acc) else cS cells r acc
theorem ka {cells:List (Str×MF)}:∀ (names:List (Str×Nh)) (acc:List (Str×MF)),(∀ x c,acc.lookup x=some c->cells.lookup x=some c) ->
  ∀ x c,(cS cells names acc).lookup x=some c->cells.lookup x=some c
 | [],acc,h=>h
 | (n,k)::r,acc,h=>by
  unfold cS
  by_cases hk:k=.free
  ·rw [if_pos hk]
   cases e:cells.lookup n with
   | none=>exact ka r acc h
   | some c0 =>
    refine ka r _ fun x c q=>?_
    rw [JW] at q
    cases hx:x==n with
    | true =>
     rw [hx] at q
     have e1:x=n:=by simpa using hx
     cases q
     rw [e1]; exact e
    | false=>rw [hx] at q; exact h x c q
  ·rw [if_neg hk]; exact ka r acc h
theorem jh {cells:List (Str×MF)}:∀ (names:List (Str×Nh)) (acc:List (Str×MF)) (x:Str),(acc.lookup x).isSome=true->((cS cells names acc).lookup x).isSome=true
 | [],acc,x,h=>h
 | (n,k)::r,acc,x,h=>by
  unfold cS
  by_cases hk:k=.free
  ·rw [if_pos hk]
   cases e:cells.lookup n with
   | none=>exact jh r acc x h
   | some c0 =>
    refine jh r _ x ?_
    rw [JW]
    cases hx:x==n with
    | true=>rfl
    | false=>exact h
  ·rw [if_neg hk]; exact jh r acc x h
theorem iG {cells:List (Str×MF)}:∀ (names:List (Str×Nh)) (acc:List (Str×MF)) (x:Str),(x,NameKind.free)∈names->(∃ c,cells.lookup x=some c)->((cS cells names acc).lookup x).isSome=true
 | [],acc,x,h,_=>absurd h (by simp)
 | (n,k)::r,acc,x,h,hc=>by
  unfold cS
  rcases List.mem_cons.mp h with e | h
  ·cases e
   rw [if_pos rfl]
   obtain⟨c,e⟩:=hc
   rw [e]
   refine jh r _ _ ?_
   rw [JW]
   simp
  ·by_cases hk:k=.free
   ·rw [if_pos hk]
    cases e:cells.lookup n with
    | none=>exact iG r acc x h hc
    | some c0=>exact iG r _ x h hc
   ·rw [if_neg hk]; exact iG r acc x h hc
theorem lx {scope:MM} {env:Env} (h:∀ p∈scope.names,p.2=.free->∃ c,env.cells.lookup p.1=some c):closureFor scope env=pure (cS env.cells scope.names []):=by
 have go:∀ (names:List (Str×Nh)) (acc:List (Str×MF)),(∀ p∈names,p.2=.free->∃ c,env.cells.lookup p.1=some c) ->
   (forIn names acc fun x cs=>(match x with | (name,kind)=>if (kind==NameKind.free)=true then do let a <- cellOf env name; pure (ForInStep.yield ((name,a)::cs)) else pure (ForInStep.yield cs):Sem (ForInStep (List (Str×MF)))))=pure (cS env.cells names acc):=by
  intro names
  induction names with
  | nil=>intro acc _; rfl
  | cons p r ih =>
   intro acc hp
   obtain⟨n,k⟩:=p
   rw [JX]
   by_cases hk:k=.free
   ·obtain⟨c,e⟩:=hp (n,k) Jn hk
    subst hk
    have e2:cellOf env n=pure c:=by unfold cellOf; rw [e]
    simp only [beq_self_eq_true,if_true,e2,pure_bind]
    rw [ih _ fun q hq=>hp q (Jo _ hq)]
    conv=>rhs; rw [cS]
    simp [e]
   ·have hb:(k==NameKind.free)=false:=by simpa using hk
    simp only [hb,JY,if_false,pure_bind]
    rw [ih _ fun q hq=>hp q (Jo _ hq)]
    conv=>rhs; rw [cS,if_neg hk]
 have:=go scope.names [] h
 unfold closureFor
 simp only []
 rw [this]
 rfl

def cj (X:Cx) (scope:MM) (N:List Str) (cl:List (Str×MF)) (C:MF) (fp:List MF) (s:ML) (H:Hp) (E:MC->ML->Prop):Cx where
 prog:=X.prog
 w:=X.w
 K:=X.K
 mg:=X.mg
 base:=X.base
 A:=X.A
 N:=N
 s₀:=s
 H₀:=H
 env:=compEnvC scope cl C X.env
 outer:=X.stack
 stack:=X.stack
 ex:=fp
 fn:=fun _=>false
 calm:=X.calm
 pn:=[]
 xe:=E

def sP (XN N:List Str) (names:List (Str×Nh)) (ix:List (Option Nat)):Bool :=
 decide (ix.length=N.length) && (N.zip ix).all fun p=>match p.2 with
  | some i=>decide (XN[i]?=some p.1) && decide (names.lookup p.1=some .free)
  | none=>true
def inBlock (ix:List (Option Nat)) (σ:St):St:=ix.map fun o=>match o with
 | some i=>(σ[i]?).getD none
 | none=>none
theorem sP.len {XN N:List Str} {names:List (Str×Nh)} {ix:List (Option Nat)} (h:sP XN N names ix=true):ix.length=N.length:=by
 unfold sP at h
 rw [JZ] at h
 exact of_decide_eq_true h.1
theorem sP.at_ {XN N:List Str} {names:List (Str×Nh)} {ix:List (Option Nat)} (h:sP XN N names ix=true) {j i:Nat} {x:Str} (h1:N[j]?=some x) (h2:ix[j]?=some (some i)):XN[i]?=some x/\names.lookup x=some .free:=by
 unfold sP at h
 rw [JZ] at h
 have hm:(x,some i)∈N.zip ix:=by
  have e:(N.zip ix)[j]?=some (x,some i):=by rw [List.getElem?_zip_eq_some]; exact⟨h1,h2⟩
  exact JG e
 have q:=List.all_eq_true.mp h.2 _ hm
 simp only [JZ] at q
 exact⟨of_decide_eq_true q.1,of_decide_eq_true q.2⟩

theorem jN {env:Env}:∀ {names:List (Str×Nh)} {x:Str} {k:Nh},
  (names.map fun (n,k)=>if (k==NameKind.free && env.scope.kind==.function && env.kindOf n==some .cell) then (n,NameKind.cell) else (n,k)).lookup x=some k ->
  names.lookup x=some k\/(names.lookup x=some .free/\k=.cell)
 | [],_,_,h=>by simp at h
 | (n,k0)::r,x,k,h=>by
  have ih:=@jN env r x k
  replace h:List.lookup x ((if (k0==NameKind.free && env.scope.kind==.function && env.kindOf n==some .cell)=true then (n,NameKind.cell) else (n,k0))::(r.map fun (n,k)=>if (k==NameKind.free && env.scope.kind==.function && env.kindOf n==some .cell) then (n,NameKind.cell) else (n,k)))=some k:=h
  by_cases hc:(k0==NameKind.free && env.scope.kind==.function && env.kindOf n==some .cell)=true
  ·rw [if_pos hc] at h
   have hk0:k0=.free:=by
    simp only [JZ] at hc
    simpa using hc.1.1
   cases hx:x==n with
   | true =>
    simp only [JW,hx] at h
    simp only [JW,hx]
    cases h
    exact .inr ⟨by rw [hk0],rfl⟩
   | false =>
    simp only [JW,hx] at h ⊢
    exact ih h
  ·rw [if_neg hc] at h
   cases hx:x==n with
   | true =>
    simp only [JW,hx] at h ⊢
    exact .inl h
   | false =>
    simp only [JW,hx] at h ⊢
    exact ih h
def DC (X:Cx) (ifs:List MO) (t:TT):Prop :=
 ∀ (pins:List (MF×Obj)) (s:ML) (σ:St) (H:Hp) (Q:Bool->Hp->Prop),Inv X pins σ H s->t σ H Q ->
  MN (model X.prog X.w) X.A (forIn ifs true fun c r=>if r=true then do let ok <- isTrue c X.env (eval c X.env); pure (ForInStep.yield ok) else pure (ForInStep.yield r)) (TP X pins σ Q) X.xe s
def Fj:TT:=fun _ H Q=>Q true H
theorem Bv {X:Cx}:DC X [] Fj:=fun _ _ _ H _ I h=>wpAny_tests_nil ⟨H,I,h⟩
theorem A0 {X:Cx} {c:MO} {t:TT} (h:PT X c t):DC X [c] t:=fun pins s σ H Q I q=>wpAny_tests_one (h pins s σ H Q I q)

theorem jA {prog:ME} {w:MD} {A:MK} {R:Result->ML->Prop} {s:ML} {elt target iter:MO} {ifs:List MO} {scope:MM} {pos:Pos} {it acc:MC} {env:Env} (I:Nat->ML->Prop)
  (turn:∀ n s,I n s->MN (model prog w) A (pyNext it) (fun r s₁=>match r with
   | none=>R (.ok .next) s₁
   | some v=>MN (model prog w) A (letOwnedTupleGo target it v) (fun _ s₁'=>MN (model prog w) A (assign target env v) (fun _ s₂ =>
     MN (model prog w) A (forIn ifs true fun c r=>if r=true then do let ok <- isTrue c env (eval c env); pure (ForInStep.yield ok) else pure (ForInStep.yield r)) (fun ok s₃ =>
      if ok=true then MN (model prog w) A (eval elt env) (fun x s₄ =>
       MN (model prog w) A (call (.builtin "list.append") [acc,x]) (fun _ s₅=>∃ m,m < n/\I m s₅) (notedBy (model prog w) A env fun e s'=>R (.error e) s') s₄) (notedBy (model prog w) A env fun e s'=>R (.error e) s') s₃
      else ∃ m,m < n/\I m s₃) (notedBy (model prog w) A env fun e s'=>R (.error e) s') s₂) (notedBy (model prog w) A env fun e s'=>R (.error e) s') s₁') (notedBy (model prog w) A env fun e s'=>R (.error e) s') s₁) (notedBy (model prog w) A env fun e s'=>R (.error e) s') s)
  (n:Nat) (h:I n s) :
  M7 (model prog w) A (.compLoop (.ListComp elt [⟨target,iter,ifs,0⟩] scope pos) 0 it acc env) R s:=by
 refine codeAny_loop rfl I (fun n s hI=>?_) n h
 show MN _ A ((compTurn (.ListComp elt [⟨target,iter,ifs,0⟩] scope pos) 0 it acc env).onRaise (fun x=>do noteFrame x env; theTreesLotGoes x)) _ _ s
 refine wpAny_noted ?_
 rw [compTurn_list]
 refine MU (MX (MU (MR (turn n s hI) (fun r s₁ h₁=>?_) fun _ _ h'=>h')))
 cases r with
 | none=>exact MY h₁
 | some v =>
  refine MU (MR h₁ (fun _ s₁' h₁'=>?_) fun _ _ h'=>h')
  refine MU (MR h₁' (fun _ s₂ h₂=>MU (MR h₂ (fun ok s₃ h₃=>?_) fun _ _ h'=>h')) fun _ _ h'=>h')
  cases ok with
  | false=>exact MY ⟨rfl,h₃⟩
  | true =>
   exact MU (MU (MR h₃ (fun x s₄ h₄=>MU (MR h₄ (fun _ s₅ h₅=>MY (MY ⟨rfl,h₅⟩)) fun _ _ h'=>h')) fun _ _ h'=>h'))

def GL (wi:TI) (g:TG) (tc:TT) (te:TE) (ix:List (Option Nat)):TE:=fun σ H Q =>
 wi σ H fun J H1=>∀ D,H1 D=none->∃ W:Nat->Nat->St->Hp->Prop,(∃ m,W 0 m (inBlock ix σ) (upd H1 D (.lst []))) /\
  ∀ i m σ' H',W i m σ' H'->(J.stop i H'/\Q (.ref D) H') \/
   (J.go i H'/\∀ x H2,J.yld i H' x H2->g x σ' H2 fun σ3 H3=>tc σ3 H3 fun b H4 =>
    if b=true then te σ3 H4 fun v H5=>∃ acc,H5 D=some (.lst acc)/\acc.length < MH/\∃ m',m' < m/\W (i+1) m' σ3 (upd H5 D (.lst (acc++[v])))
    else ∃ m',m' < m/\W (i+1) m' σ3 H4)

section
variable {X:Cx} {elt tg iter:MO} {ifs:List MO} {scope:MM} {pos:Pos} {N:List Str} {ix:List (Option Nat)} {wi:TI} {g:TG} {tc:TT} {te:TE}

theorem pf {pins:List (MF×Obj)} {σ:St} {s2:ML} {H2:Hp} {it:MF} {fp:List MF} {tn:Nat->MG->Prop} {J:It} {Q:V->Hp->Prop} {E:MC->ML->Prop} {RR:MC->MF->Result->ML->Prop}
    (hc:X.calm=true) (hcell:∀ y∈scope.names,y.2≠.cell) (hkind:scope.kind=.function)
    (hfr:∀ y∈scope.names,y.2=.free->X.env.scope.names.lookup y.1=some .cell\/X.env.scope.names.lookup y.1=some .free)
    (hix:sP X.N N scope.names ix=true)
    (hb:∀ cl C fp s H E,PG (cj X scope N cl C fp s H E) tg g/\DC (cj X scope N cl C fp s H E) ifs tc/\PE (cj X scope N cl C fp s H E) elt te)
    (I2:Inv X pins σ H2 s2) (T:Turn X.prog X.w X.K tg J fp it tn) (st2:tn 0 s2.heap) (f2:∀ b∈fp,qj X pins H2 b)
    (q:∀ D,H2 D=none->∃ W:Nat->Nat->St->Hp->Prop,(∃ m,W 0 m (inBlock ix σ) (upd H2 D (.lst []))) /\
      ∀ i m σ' H',W i m σ' H'->(J.stop i H'/\Q (.ref D) H') \/
        (J.go i H'/\∀ x H3,J.yld i H' x H3->g x σ' H3 fun σ3 H3=>tc σ3 H3 fun b H4 =>
          if b=true then te σ3 H4 fun v H5=>∃ acc,H5 D=some (.lst acc)/\acc.length < MH/\∃ m',m' < m/\W (i+1) m' σ3 (upd H5 D (.lst (acc++[v])))
          else ∃ m',m' < m/\W (i+1) m' σ3 H4))
    (hRR:∀ D C H' s' m,H2 D=none->s2.heap.objs.size<=C->H' C=none->s'.heap.Ns C m->(∀ h',Mb C s'.heap h'->Inv X pins σ H' { s' with heap:=h' })->Q (.ref D) H'->RR (.ref D) C (.ok .next) s') :
    MN (model X.prog X.w) X.A (newList []) (fun acc s₃=>MN (model X.prog X.w) X.A (newFunctionEnv scope X.env.globals (cS X.env.cells scope.names []) [] X.env.qual none .none (some X.env)) (fun cenv s₄ =>
      M7 (model X.prog X.w) X.A (.compStart (.ListComp elt [⟨tg,iter,ifs,0⟩] scope pos) 0 (.ref it) acc { cenv with scope:=relabel scope X.env }) (RR acc cenv.locals) s₄) E s₃) E s2:=by
  refine Nu (wpAny_newFunctionEnv hcell (by intro y hy; simp at hy) (fun h₁ hns₁ hsb₁=>?_) hkind)
  dsimp only at hns₁ hsb₁ ⊢
  have I3:Inv X pins σ (upd H2 s2.heap.objs.size (.lst [])) { s2 with heap:=s2.heap.push { cls:=.type "list",dict:=none,data:=.seq ([]:List MC).toArray },toks:=s2.toks }:=I2.lnew (its:=[]) (t':=s2.toks) .nil (Jz _)
  generalize hs3:({ s2 with heap:=s2.heap.push { cls:=.type "list",dict:=none,data:=.seq ([]:List MC).toArray },toks:=s2.toks }:ML)=s3 at I3
  have eh3:s2.heap.push { cls:=.type "list",dict:=none,data:=.seq ([]:List MC).toArray }=s3.heap:=by rw [<- hs3]
  rw [eh3] at hns₁ hsb₁ ⊢
  have hC3:s3.heap.objs.size=s2.heap.objs.size+1:=by rw [<- eh3,Mg]
  have hD:H2 s2.heap.objs.size=none:=I2.fresh
  obtain⟨W,⟨m0,w0⟩,turn⟩:=q s2.heap.objs.size hD
  generalize hH3:upd H2 s2.heap.objs.size (.lst [])=H3 at I3 w0
  have old:∀ b o,s3.heap.get? b=some o->h₁.get? b=some o:=fun b o e=>hsb₁.extBut b o (Jj (Ma e)) (Md _ e)
  have fpH3:∀ b∈fp,H3 b=none:=fun b hb'=>by
    rw [<- hH3,aW]
    · exact(f2 b hb').1
    · obtain⟨o,e,_⟩:=T.obj _ _ st2 b hb'
      exact Jj (Ma e)
  have fpLt:∀ b∈fp,b < s3.heap.objs.size:=fun b hb'=>by
    obtain⟨o,e,_⟩:=T.obj _ _ st2 b hb'
    rw [hC3]; exact J0 (Ma e)
  have hfree:∀ p∈scope.names,p.2=.free->∃ c,X.env.cells.lookup p.1=some c:=fun p hp hk=>I2.ok.has p.1 (hfr p hp hk)
  have csub:∀ x c,(cS X.env.cells scope.names []).lookup x=some c->X.env.cells.lookup x=some c:=ka scope.names [] (fun x c e=>by simp at e)
  have names':∀ x k,(relabel scope X.env).names.lookup x=some k->scope.names.lookup x=some k\/(scope.names.lookup x=some .free/\k=.cell):=fun x k h=>jN h
  have ok:(cj X scope N (cS X.env.cells scope.names []) s3.heap.objs.size fp s3 H3 (notedBy (model X.prog X.w) X.A (compEnvC scope (cS X.env.cells scope.names []) s3.heap.objs.size X.env) fun e s'=>RR (.ref s2.heap.objs.size) s3.heap.objs.size (.error e) s')).Ok :=
    { mod:=I3.ok.mod
      kind:=hkind
      glob:=I3.ok.glob
      blt:=I3.ok.blt
      above:=Jt _
      inj:=fun x y c h1 h2=>I3.ok.inj x y c (csub x c h1) (csub y c h2)
      has:=fun x hx=>by
        have fr:scope.names.lookup x=some .free:=by
          rcases hx with hx | hx
          · rcases names' x .cell hx with h | ⟨h,_⟩
            · exact absurd rfl (hcell _ (PySem.mem_of_lookup h))
            · exact h
          · rcases names' x .free hx with h | ⟨_,h⟩
            · exact h
            · cases h
        have hm:=PySem.mem_of_lookup fr
        exact Option.isSome_iff_exists.mp (iG scope.names [] x hm (hfree _ hm rfl))
      cab:=fun x c h _=>by cases h
      hd:=I3.ok.hd
      frames:=I3.ok.frames
      stk:=.inl rfl
      exf:=fun b hb'=>⟨Jj (fpLt b hb'),fun x c e=>(f2 b hb').2.2.2.2.1 x c (csub x c e)⟩
      bs:=fun b o e=>I3.bs b o e
      bsz:=Jk I3.ok.bsz I3.sz
      noex:=fun b o e hb'=>by
        obtain⟨_,_,_,h4,_⟩:=f2 b hb'
        rcases h4 with h4 | h4
        · exact I3.ok.noex b o e h4
        · exact absurd (Jh (Ma (I3.ok.bs b o e).1) h4) (Ji _)
      exfs:=fun b hb' hs=>by
        obtain⟨_,h2,h3,_⟩:=f2 b hb'
        rcases List.mem_cons.mp (I3.stkSub b hs) with e | e
        · exact h2 e
        · exact h3 e
      funs:=I3.stack
      frf:=fun b hb'=>I3.stkFree b hb' }
  generalize hE:(notedBy (model X.prog X.w) X.A (compEnvC scope (cS X.env.cells scope.names []) s3.heap.objs.size X.env) fun e s'=>RR (.ref s2.heap.objs.size) s3.heap.objs.size (.error e) s')=E' at ok
  obtain⟨hg,htc,hel⟩:=hb (cS X.env.cells scope.names []) s3.heap.objs.size fp s3 H3 E'
  have Istart:∀ tk,Inv (cj X scope N (cS X.env.cells scope.names []) s3.heap.objs.size fp s3 H3 E') [] (inBlock ix σ) H3 { s3 with heap:=h₁,toks:=tk }:=fun tk=>by
    refine⟨ok,rfl,I3.bare,Un.kept old,⟨_,hns₁,fun j x v e1 e2 _=>?_⟩,fun x c e=>?_,I3.fresh,fun x c e=>I3.freeC x c (csub x c e),fun p hp=>absurd (show p∈([]:List (MF×Obj)) from hp) (by simp),I3.hok.kept old,?_⟩
    · -- a captured name
      unfold inBlock at e2
      rw [JF] at e2
      cases q1:ix[j]? with
      | none=>rw [q1] at e2; simp at e2
      | some o =>
        rw [q1] at e2
        cases o with
        | none=>simp at e2
        | some i =>
          obtain⟨n1,n2⟩:=sP.at_ hix e1 q1
          have e2':(σ[i]?).getD none=some v:=Option.some.inj e2
          have e3:σ[i]?=some (some v):=by
            cases q2:σ[i]? with
            | none=>rw [q2] at e2'; simp at e2'
            | some o2=>rw [q2] at e2'; simpa using e2'
          obtain⟨m,hn,hl⟩:=I3.loc
          have hm:=PySem.mem_of_lookup n2
          have hk:=hfr _ hm rfl
          have hv:DZ X.env.scope x:=by
            rcases hk with hk | hk
            · exact .inr (.inl hk)
            · exact .inr (.inr hk)
          obtain⟨u,r,l⟩:=hl i x v n1 e3 hv
          refine⟨u,r,.inr ?_⟩
          rcases l with ⟨kl,_⟩ | ⟨_,c,hcx,hcell'⟩
          · have kl':X.env.scope.names.lookup x=some .local:=kl
            rcases hk with hk | hk
            · rw [kl'] at hk; cases hk
            · rw [kl'] at hk; cases hk
          · obtain⟨c',hc'⟩:=Option.isSome_iff_exists.mp (iG (cells:=X.env.cells) scope.names [] x hm ⟨c,hcx⟩)
            have ec:c'=c:=Option.some.inj ((csub x c' hc').symm.trans hcx)
            subst ec
            refine⟨?_,c',hc',?_⟩
            · -- its kind in the block: cell or free
              show (relabel scope X.env).names.lookup x=some .cell\/(relabel scope X.env).names.lookup x=some .free
              have gen:∀ names:List (Str×Nh),names.lookup x=some .free->((names.map fun (n,k)=>if (k==NameKind.free && X.env.scope.kind==.function && X.env.kindOf n==some .cell) then (n,NameKind.cell) else (n,k)).lookup x=some .cell\/(names.map fun (n,k)=>if (k==NameKind.free && X.env.scope.kind==.function && X.env.kindOf n==some .cell) then (n,NameKind.cell) else (n,k)).lookup x=some .free):=by
                intro names
                induction names with
                | nil=>intro h; simp at h
                | cons p r ih =>
                  obtain⟨n,k⟩:=p
                  intro h
                  show List.lookup x ((if (k==NameKind.free && X.env.scope.kind==.function && X.env.kindOf n==some .cell)=true then (n,NameKind.cell) else (n,k))::_)=_\/List.lookup x ((if (k==NameKind.free && X.env.scope.kind==.function && X.env.kindOf n==some .cell)=true then (n,NameKind.cell) else (n,k))::_)=_
                  cases hx:x==n with
                  | true =>
                    simp only [JW,hx] at h
                    by_cases hcc:(k==NameKind.free && X.env.scope.kind==.function && X.env.kindOf n==some .cell)=true
                    · rw [if_pos hcc]; left; simp only [JW,hx]
                    · rw [if_neg hcc]; right; simp only [JW,hx]; exact h
                  | false =>
                    simp only [JW,hx] at h
                    by_cases hcc:(k==NameKind.free && X.env.scope.kind==.function && X.env.kindOf n==some .cell)=true
                    · rw [if_pos hcc]; simp only [JW,hx]; exact ih h
                    · rw [if_neg hcc]; simp only [JW,hx]; exact ih h
              exact gen scope.names n2
            · exact hcell'.keeps old
    · obtain⟨v,z⟩:=I3.cell x c (csub x c e)
      exact⟨v,z.keeps old⟩
    · show (inBlock ix σ).length=N.length
      unfold inBlock
      rw [JI]
      exact sP.len hix
  have stat:∀ {H':Hp},(∀ b∈fp,H' b=none)->∀ b∈fp,qj (cj X scope N (cS X.env.cells scope.names []) s3.heap.objs.size fp s3 H3 E') [] H' b:=fun hn b hb' =>
    ⟨hn b hb',(ok.exf b hb').1,ok.exfs b hb',.inl hb',(ok.exf b hb').2,fun p hp=>absurd (show p∈([]:List (MF×Obj)) from hp) (by simp)⟩
  have tn1:tn 0 h₁:=T.keep _ _ _ st2 fun b hb' o e=>old b o (by rw [<- eh3]; exact Md _ e)
  have loop:∀ tk,M7 (model X.prog X.w) X.A (.compLoop (.ListComp elt [⟨tg,iter,ifs,0⟩] scope pos) 0 (.ref it) (.ref s2.heap.objs.size) (compEnvC scope (cS X.env.cells scope.names []) s3.heap.objs.size X.env))
      (RR (.ref s2.heap.objs.size) s3.heap.objs.size) { s3 with heap:=h₁,toks:=tk }:=by
    intro tk
    refine jA (fun n s'=>∃ i σ' H',Inv (cj X scope N (cS X.env.cells scope.names []) s3.heap.objs.size fp s3 H3 E') [] σ' H' s'/\tn i s'.heap/\(∀ b∈fp,H' b=none)/\W i n σ' H') ?_ m0 ⟨0,_,_,Istart tk,tn1,fpH3,w0⟩
    rintro n s5 ⟨i,σ5,H5,I5,st5,fr5,w5⟩
    rw [hE]
    rcases turn i n σ5 H5 w5 with ⟨stop,qn⟩ | ⟨go,step⟩
    · refine dR (T.done (cj X scope N (cS X.env.cells scope.names []) s3.heap.objs.size fp s3 H3 E') rfl rfl rfl hc i [] s5 σ5 H5 _ I5 (stat fr5) st5 stop) fun r s6 ⟨hr,I6⟩=>?_
      subst hr
      obtain⟨m6,hn6,_⟩:=I6.loc
      refine hRR s2.heap.objs.size s3.heap.objs.size H5 s6 m6 hD (by rw [hC3]; exact JL _) I6.free hn6 (fun h' sb=>?_) qn
      have ne:∀ b o,s3.heap.get? b=some o->b≠s3.heap.objs.size:=fun b o e=>Jj (Ma e)
      refine I3.call' (s':={ s6 with heap:=h' }) (H':=H5) (ch:=fp) I6.os ⟨fun b o e n hb' hx=>?_,fun b o e n hb' hx=>?_,fun b o e n hx=>?_,fun b o e hx=>?_,I6.base.tups,I6.base.frzs,I6.base.tbls⟩ ?_ I6.bare fun b hb'=>?_
      · exact(sb.2 b (ne b o e)).trans (I6.base.keep b o e n hb' hx)
      · obtain⟨sl,e1⟩:=I6.base.slot b o e n hb' hx
        exact⟨sl,(sb.2 b (ne b o e)).trans e1⟩
      · exact I6.base.free b o e n hx
      · obtain⟨o',e1⟩:=I6.base.there b o e hx
        exact⟨o',(sb.2 b (ne b o e)).trans e1⟩
      · intro b ob e
        have hfreeC:H5 s3.heap.objs.size=none:=I6.free
        refine(I6.hok b ob e).stay (fun c v hcc q=>(sb.2 c ?_).trans q) (fun _ q=>q) fun _ _ q=>q
        rintro rfl
        rcases hcc with rfl | hcc
        · rw [hfreeC] at e; cases e
        · rw [hfreeC] at hcc; cases hcc
      · obtain⟨_,h2',_,h4',h5',h6'⟩:=f2 b hb'
        exact⟨h4',h2',h5',h6'⟩
    · refine dR (T.item (cj X scope N (cS X.env.cells scope.names []) s3.heap.objs.size fp s3 H3 E') rfl rfl rfl hc i [] s5 σ5 H5 _ I5 (stat fr5) st5 go) fun r s6 ⟨u,hr,h6⟩=>?_
      subst hr
      refine dR h6 fun _ s7 ⟨x,H7,I7,r7,y7,st7,fr7⟩=>?_
      have I7':=I7.pinned (stat fr7) (T.obj _ _ st7)
      refine dR (hg _ s7 σ5 H7 x u _ I7' r7 (step x H7 y7)) fun _ s8 ⟨σ8,H8,I8,q8⟩=>?_
      refine dR (htc _ s8 σ8 H8 _ I8 q8) fun b s9 ⟨H9,I9,q9⟩=>?_
      have again:∀ {σ':St} {H':Hp} {s':ML} {m':Nat},Inv (cj X scope N (cS X.env.cells scope.names []) s3.heap.objs.size fp s3 H3 E') ([]++oZ fp s7.heap) σ' H' s'->m' < n->W (i+1) m' σ' H' ->
          ∃ m,m < n/\∃ i σ' H',Inv (cj X scope N (cS X.env.cells scope.names []) s3.heap.objs.size fp s3 H3 E') [] σ' H' s'/\tn i s'.heap/\(∀ b∈fp,H' b=none)/\W i m σ' H':=fun {σ' H' s' m'} I' hm w'=>by
        refine⟨m',hm,i+1,σ',H',I'.unpinned,T.keep _ _ _ st7 fun b hb' o e=>(I'.pin (b,o) (Ju _ (Ju _ (je hb' e)))).1,fun b hb'=>?_,w'⟩
        obtain⟨o,e,d⟩:=T.obj _ _ st7 b hb'
        exact(I'.pin (b,o) (Ju _ (Ju _ (je hb' e)))).2.1
      cases b with
      | false =>
        rw [if_neg Jx] at q9 ⊢
        obtain⟨m',hm,w9⟩:=q9
        exact again I9 hm w9
      | true =>
        rw [if_pos rfl] at q9 ⊢
        refine dR (hel _ s9 σ8 H9 _ I9 q9) fun y s10 ⟨v,H10,I10,r10,q10⟩=>?_
        obtain⟨acc,ha,hz,m',hm,w10⟩:=q10
        refine dR (dN _ s10 σ8 H10 (.ref s2.heap.objs.size) [v] (.ref s2.heap.objs.size) [y] (fun _ H'=>H'=upd H10 s2.heap.objs.size (.lst (acc++[v]))) I10 rfl (.cons r10 .nil) ⟨_,acc,v,rfl,rfl,ha,hz,rfl⟩) fun _ s11 ⟨_,H11,I11,_,e11⟩=>?_
        subst e11
        exact again I11 hm w10
  subst hs3
  exact codeAny_compStart_list (loop _) (T.self _ 0 _ _ _ tn1 (loop _))

theorem FH (hc:X.calm=true) (hcell:∀ y∈scope.names,y.2≠.cell) (hkind:scope.kind=.function) (hnames:∀ y∈scope.names,y.2=.local->scope.names.lookup y.1=some .local)
  (hfr:∀ y∈scope.names,y.2=.free->X.env.scope.names.lookup y.1=some .cell\/X.env.scope.names.lookup y.1=some .free)
  (hix:sP X.N N scope.names ix=true) (hi:PI X tg iter wi)
  (hb:∀ cl C fp s H E,PG (cj X scope N cl C fp s H E) tg g/\DC (cj X scope N cl C fp s H E) ifs tc/\PE (cj X scope N cl C fp s H E) elt te)
  (hs:∀ x,M1 iter X.env x=pure x:=by intro _; rfl):PE X (.ListComp elt [⟨tg,iter,ifs,0⟩] scope pos) (GL wi g tc te ix):=by
 intro pins s σ H Q I h
 rw [eval_ListComp]
 refine Nv (use:=none) rfl hs (lx fun p hp hk=>I.ok.has p.1 (hfr p hp hk)) hkind hnames (dR (hi pins s σ H _ I h) fun v s1 h1=>dR h1 fun itv s2 h2=>?_)
 obtain⟨it,fp,tn,J,H2,e,I2,T,st2,f2,q⟩:=h2
 subst e
 refine pf (Q:=Q) (RR:=fun acc C=>compPost (model X.prog X.w) X.A X.xe none (EP X pins σ Q) acc C) hc hcell hkind hfr hix hb I2 T st2 f2 q ?_
 intro D C H' s' m _ _ _ hn hI hq
 exact⟨m,hn,fun h' sb=>⟨.ref D,H',hI h' sb,rfl,hq⟩⟩

theorem Eh {i:Nat} {y:Str} {py spos:Pos} (hN:X.N.Nodup) (hi':X.N[i]?=some y) (hx:Loc X.env.scope y)
  (hc:X.calm=true) (hcell:∀ y∈scope.names,y.2≠.cell) (hkind:scope.kind=.function) (hnames:∀ y∈scope.names,y.2=.local->scope.names.lookup y.1=some .local)
  (hfr:∀ y∈scope.names,y.2=.free->X.env.scope.names.lookup y.1=some .cell\/X.env.scope.names.lookup y.1=some .free)
  (hix:sP X.N N scope.names ix=true) (hi:PI X tg iter wi)
  (hb:∀ cl C fp s H E,PG (cj X scope N cl C fp s H E) tg g/\DC (cj X scope N cl C fp s H E) ifs tc/\PE (cj X scope N cl C fp s H E) elt te)
  (hsw:swapsWith (.ListComp elt [⟨tg,iter,ifs,0⟩] scope pos) (some (.Name y py)) spos.line X.env=pure true:=by rfl)
  (hs:∀ x,M1 iter X.env x=pure x:=by intro _; rfl)
  (hf:X.fn y=true\/X.env.scope.names.lookup y=some .local:=by first | exact .inl rfl | exact .inr rfl | assumption) :
  PS X (.Assign [.Name y py] (.ListComp elt [⟨tg,iter,ifs,0⟩] scope pos) spos) (zy (GL wi g tc te ix) (qS i)):=by
 intro pins s σ H D0 I h
 rw [exec_Assign_Name_used _ _ _ _ hsw]
 refine MU (MX (MU ?_))
 show MN _ X.A (do let _ <- comprehension (.ListComp elt [⟨tg,iter,ifs,0⟩] scope pos) scope X.env _ (newList []) false (eval iter X.env) (some (assign (.Name y py) X.env))) _ _ s
 refine MU (dR (Nv (use:=some (assign (.Name y py) X.env)) (Q:=fun _ s'=>SP X pins D0 .next s') rfl hs (lx fun p hp hk=>I.ok.has p.1 (hfr p hp hk)) hkind hnames
  (dR (hi pins s σ H _ I h) fun v s1 h1=>dR h1 fun itv s2 h2=>?_)) fun _ s' hq=>MY (MY hq))
 obtain⟨it,fp,tn,J,H2,e,I2,T,st2,f2,q⟩:=h2
 subst e
 refine pf (Q:=fun v H'=>qS i v σ H' D0.nx) (RR:=fun acc C=>compPost (model X.prog X.w) X.A X.xe (some (assign (.Name y py) X.env)) (fun _ s'=>SP X pins D0 .next s') acc C) hc hcell hkind hfr hix hb I2 T st2 f2 q ?_
 intro D C H' s' m _ hC hfree hn hI hq
 have I':Inv X pins σ H' s':=hI s'.heap (.refl ..)
 have nL:C≠X.env.locals:=Js (Jh I2.lt hC)
 have nC:∀ x c,X.env.cells.lookup x=some c->c≠C:=fun x c e z=>by
  obtain⟨v,q⟩:=I2.cell x c e
  exact absurd (Jh q.lt (by rw [z]; exact hC)) (Ji _)
 have nP:∀ p∈X.pn++pins,p.1≠C:=fun p hp z=>absurd (Jh (Ma (I2.pin p hp).1) (by rw [z]; exact hC)) (Ji _)
 show MN _ X.A (assign (.Name y py) X.env (.ref D)) _ _ _
 refine wpAny_assign_Name (rA I' hN hi' hx (v:=.ref D) rfl (fun s'' I'' ch=>?_) hf)
 obtain⟨a,sb,ha⟩:=ch
 have hCa:C≠a:=by
  rcases ha with ha | ha
  ·rw [ha]; exact nL
  ·exact Ne.symm (nC y a ha)
 refine⟨m,hn.sameBut sb hCa,fun h' sb'=>⟨_,H',?_,hq⟩⟩
 exact I''.turned (t':=s''.toks) (fun b o hb' e=>(sb'.2 b hb').trans e) hfree nL (.inr (Jk I2.sz hC)) nC nP
end
end L2
namespace TG
open PySem PySem.Spec L2

inductive D where
 | non | bl (b:Bool) | int (i:Int) | str (x:Str) | tup (xs:List D) | lst (xs:List D)
 | dct (ks vs:List D) | obj (c:Str) (fs:List Str) (vs:List D) | exc (c:Str) (fs:List Str) (vs:List D)

def dE:Key->D
 | .inl i=>.int i
 | .inr x=>.str x
def clsAt (K:Lj) (c:Str) (C:MF):Prop:=LQ K MI c=some (some (.ref C))
def wM (C a:MF) (dx:Option MF):(MF->Prop)->MG->Prop:=fun _ h=>∃ o,h.get? a=some o/\o.cls=.ref C/\o.dict=dx
mutual
def cm (K:Lj) (H:Hp):D->V->Prop
 | .non,v=>v=.non
 | .bl b,v=>v=.bl b
 | .int i,v=>v=.int i
 | .str x,v=>v=.str x
 | .tup xs,v=>∃ a vs,v=.ref a/\H a=some (.tup vs)/\aZ K H xs vs
 | .lst xs,v=>∃ a vs,v=.ref a/\la K H a vs/\aZ K H xs vs
 | .dct ks ds,v=>∃ a vs,v=.ref a/\aZ K H ds vs/\((∃ kvs:List (Key×V),H a=some (.dK kvs)/\ks=kvs.map (fun p=>dE p.1)/\vs=kvs.map (·.2)) \/
   ∃ kvs:List (List Key×V),H a=some (.dT kvs)/\ks=kvs.map (fun p=>.tup (p.1.map dE))/\vs=kvs.map (·.2))
 | .obj c fs ds,v=>∃ a vs,v=.ref a/\aZ K H ds vs/\fs.length=vs.length/\∃ C dx,clsAt K c C/\H a=some (.ins C dx (fs.zip vs))
 | .exc c fs ds,v=>∃ a vs,v=.ref a/\aZ K H ds vs/\fs.length=vs.length/\∃ C dx,clsAt K c C/\H a=some (.ext (wM C a dx))/\(fs=[]\/∃ d,dx=some d/\H d=some (.xd (fs.zip vs)))
def aZ (K:Lj) (H:Hp):List D->List V->Prop
 | [],vs=>vs=[]
 | x::xs,vs=>∃ v r,vs=v::r/\cm K H x v/\aZ K H xs r
end

theorem xk {K:Lj} {H H':Hp} {a:MF} {xs:List V} (e:bC H H') (h:nR K H a xs):nR K H' a xs:=by
 rcases h with (h | ⟨o,h⟩) | h
 ·exact .inl (.inl (e _ _ h))
 ·exact .inl (.inr ⟨o,e _ _ h⟩)
 ·exact .inr h
theorem cu {K:Lj} {H H':Hp} {a:MF} {xs:List V} (e:bC H H') (h:H a=some (.tup xs)):nR K H' a xs:=nR.of (e _ _ h)
mutual
theorem cm.mono {K:Lj} {H H':Hp} (e:bC H H'):∀ {d:D} {v:V},cm K H d v->cm K H' d v
 | .non,_,h=>by unfold cm at h ⊢; exact h
 | .bl _,_,h=>by unfold cm at h ⊢; exact h
 | .int _,_,h=>by unfold cm at h ⊢; exact h
 | .str _,_,h=>by unfold cm at h ⊢; exact h
 | .tup xs,_,h=>by
  unfold cm at h ⊢
  obtain⟨a,vs,e1,h1,h2⟩:=h
  exact⟨a,vs,e1,e _ _ h1,aZ.mono e h2⟩
 | .lst xs,_,h=>by
  unfold cm at h ⊢
  obtain⟨a,vs,e1,h1,h2⟩:=h
  exact⟨a,vs,e1,e.seq h1,aZ.mono e h2⟩
 | .dct _ ds,_,h=>by
  unfold cm at h ⊢
  obtain⟨a,vs,e1,h1,h2⟩:=h
  refine⟨a,vs,e1,aZ.mono e h1,?_⟩
  rcases h2 with ⟨kvs,h2,h3⟩ | ⟨kvs,h2,h3⟩
  ·exact .inl ⟨kvs,e _ _ h2,h3⟩
  ·exact .inr ⟨kvs,e _ _ h2,h3⟩
 | .obj _ _ ds,_,h=>by
  unfold cm at h ⊢
  obtain⟨a,vs,e1,h1,h2,C,dx,h3,h4⟩:=h
  exact⟨a,vs,e1,aZ.mono e h1,h2,C,dx,h3,e _ _ h4⟩
 | .exc _ _ ds,_,h=>by
  unfold cm at h ⊢
  obtain⟨a,vs,e1,h1,h2,C,dx,h3,h4,h5⟩:=h
  exact⟨a,vs,e1,aZ.mono e h1,h2,C,dx,h3,e _ _ h4,h5.imp id fun ⟨d,q1,q2⟩=>⟨d,q1,e _ _ q2⟩⟩
theorem aZ.mono {K:Lj} {H H':Hp} (e:bC H H'):∀ {ds:List D} {vs:List V},aZ K H ds vs->aZ K H' ds vs
 | [],_,h=>by unfold aZ at h ⊢; exact h
 | x::xs,_,h=>by
  unfold aZ at h ⊢
  obtain⟨v,r,e1,h1,h2⟩:=h
  exact⟨v,r,e1,cm.mono e h1,aZ.mono e h2⟩
end
section
variable {K:Lj} {H:Hp}
theorem jr {v:V}:cm K H .non v↔v=.non:=by unfold cm; rfl
theorem jq {b:Bool} {v:V}:cm K H (.bl b) v↔v=.bl b:=by unfold cm; rfl
theorem eR {i:Int} {v:V}:cm K H (.int i) v↔v=.int i:=by unfold cm; rfl
theorem eQ {x:Str} {v:V}:cm K H (.str x) v↔v=.str x:=by unfold cm; rfl
theorem cf {xs:List D} {v:V}:cm K H (.tup xs) v↔∃ a vs,v=.ref a/\H a=some (.tup vs)/\aZ K H xs vs:=by unfold cm; rfl
theorem cg {xs:List D} {v:V}:cm K H (.lst xs) v↔∃ a vs,v=.ref a/\la K H a vs/\aZ K H xs vs:=by unfold cm; rfl
theorem Gs {ks ds : List D} {v : V} : cm K H (.dct ks ds) v ↔ ∃ a vs, v = .ref a /\ aZ K H ds vs /\ ((∃ kvs : List (Key × V), H a = some (.dK kvs) /\ ks = kvs.map (fun p => dE p.1) /\ vs = kvs.map (·.2)) \/
      ∃ kvs:List (List Key×V),H a=some (.dT kvs)/\ks=kvs.map (fun p=>.tup (p.1.map dE))/\vs=kvs.map (·.2)):=by unfold cm; rfl
theorem Bb {c:Str} {fs:List Str} {ds:List D} {v:V}:cm K H (.obj c fs ds) v↔∃ a vs,v=.ref a/\aZ K H ds vs/\fs.length=vs.length/\∃ C dx,clsAt K c C/\H a=some (.ins C dx (fs.zip vs)):=by unfold cm; rfl
theorem Ge {c:Str} {fs:List Str} {ds:List D} {v:V}:cm K H (.exc c fs ds) v↔∃ a vs,v=.ref a/\aZ K H ds vs/\fs.length=vs.length/\∃ C dx,clsAt K c C/\H a=some (.ext (wM C a dx))/\(fs=[]\/∃ d,dx=some d/\H d=some (.xd (fs.zip vs))):=by unfold cm; rfl
theorem bZ {vs:List V}:aZ K H [] vs↔vs=[]:=by unfold aZ; rfl
theorem bx {x:D} {xs:List D} {vs:List V}:aZ K H (x::xs) vs↔∃ v r,vs=v::r/\cm K H x v/\aZ K H xs r:=by conv=>lhs; unfold aZ
theorem aZ.length:∀ {ds:List D} {vs:List V},aZ K H ds vs->ds.length=vs.length
 | [],_,h=>by rw [bZ] at h; rw [h]; rfl
 | _::xs,_,h=>by
  rw [bx] at h
  obtain⟨v,r,e,_,h⟩:=h
  rw [e,JT,JT,aZ.length h]
theorem aZ.get:∀ {ds:List D} {vs:List V} {i:Nat} {d:D},aZ K H ds vs->ds[i]?=some d->∃ v,vs[i]?=some v/\cm K H d v
 | [],_,_,_,_,e=>by simp at e
 | x::xs,_,0,d,h,e=>by
  rw [bx] at h
  obtain⟨v,r,rfl,h1,_⟩:=h
  simp at e
  subst e
  exact⟨v,rfl,h1⟩
 | x::xs,_,i+1,d,h,e=>by
  rw [bx] at h
  obtain⟨v,r,rfl,_,h2⟩:=h
  obtain⟨w,e1,e2⟩:=aZ.get (i:=i) h2 (by simpa using e)
  exact⟨w,by simpa using e1,e2⟩
theorem aZ.append:∀ {ds es:List D} {vs ws:List V},aZ K H ds vs->aZ K H es ws->aZ K H (ds++es) (vs++ws)
 | [],_,_,_,h,h'=>by rw [bZ] at h; subst h; exact h'
 | x::xs,_,_,_,h,h'=>by
  rw [bx] at h
  obtain⟨v,r,rfl,h1,h2⟩:=h
  rw [J1,bx]
  exact⟨v,_,rfl,h1,aZ.append h2 h'⟩
theorem aZ.take:∀ {ds:List D} {vs:List V} (n:Nat),aZ K H ds vs->aZ K H (ds.take n) (vs.take n)
 | _,_,0,_=>by rw [List.take_zero,List.take_zero,bZ]
 | [],_,_+1,h=>by rw [bZ] at h; subst h; rw [List.take_nil,List.take_nil,bZ]
 | x::xs,_,n+1,h=>by
  rw [bx] at h
  obtain⟨v,r,rfl,h1,h2⟩:=h
  rw [J2,J2,bx]
  exact⟨v,_,rfl,h1,aZ.take n h2⟩
theorem aZ.drop:∀ {ds:List D} {vs:List V} (n:Nat),aZ K H ds vs->aZ K H (ds.drop n) (vs.drop n)
 | _,_,0,h=>by rw [J3,J3]; exact h
 | [],_,_+1,h=>by rw [bZ] at h; subst h; rw [List.drop_nil,List.drop_nil,bZ]
 | x::xs,_,n+1,h=>by
  rw [bx] at h
  obtain⟨v,r,rfl,h1,h2⟩:=h
  rw [J4,J4]
  exact aZ.drop n h2
theorem aZ.snoc {ds:List D} {vs:List V} {d:D} {v:V} (h:aZ K H ds vs) (h':cm K H d v):aZ K H (ds++[d]) (vs++[v]) :=
 h.append (bx.mpr ⟨v,[],rfl,h',bZ.mpr rfl⟩)
theorem aZ.set {d:D} {v:V} (h':cm K H d v):∀ {ds:List D} {vs:List V} (n:Nat),aZ K H ds vs->aZ K H (ds.set n d) (vs.set n v)
 | [],_,_,h=>by rw [bZ] at h; subst h; exact bZ.mpr rfl
 | x::xs,_,0,h=>by
  rw [bx] at h
  obtain⟨w,r,rfl,h1,h2⟩:=h
  exact bx.mpr ⟨v,r,rfl,h',h2⟩
 | x::xs,_,n+1,h=>by
  rw [bx] at h
  obtain⟨w,r,rfl,h1,h2⟩:=h
  exact bx.mpr ⟨w,_,rfl,h1,aZ.set h' n h2⟩
theorem aZ.reverse:∀ {ds:List D} {vs:List V},aZ K H ds vs->aZ K H ds.reverse vs.reverse
 | [],_,h=>by rw [bZ] at h; subst h; exact bZ.mpr rfl
 | x::xs,_,h=>by
  rw [bx] at h
  obtain⟨v,r,rfl,h1,h2⟩:=h
  rw [J5,J5]
  exact(aZ.reverse h2).snoc h1
theorem aZ.one {d:D} {vs:List V} (h:aZ K H [d] vs):∃ v,vs=[v]/\cm K H d v:=by
 rw [bx] at h
 obtain⟨v,r,rfl,h1,h2⟩:=h
 rw [bZ] at h2
 subst h2
 exact⟨v,rfl,h1⟩
theorem aZ.two {d e:D} {vs:List V} (h:aZ K H [d,e] vs):∃ v w,vs=[v,w]/\cm K H d v/\cm K H e w:=by
 rw [bx] at h
 obtain⟨v,r,rfl,h1,h2⟩:=h
 obtain⟨w,rfl,h3⟩:=h2.one
 exact⟨v,w,rfl,h1,h3⟩
theorem qX:∀ ns:List Int,aZ K H (ns.map D.int) (ns.map V.int)
 | []=>bZ.mpr rfl
 | n::ns=>bx.mpr ⟨_,_,rfl,eR.mpr rfl,qX ns⟩
end

def hid (H:Hp) (O:List MF):Hp:=fun b=>if b∈O then none else H b
theorem aM (H:Hp) (O:List MF):bC (hid H O) H:=fun b o h=>by
 unfold hid at h
 split at h
 ·cases h
 ·exact h
theorem cq {H H':Hp} {O:List MF} (e:bC H H'):bC (hid H O) (hid H' O):=fun b o h=>by
 unfold hid at h ⊢
 by_cases hb:b∈O
 ·rw [if_pos hb] at h; cases h
 ·rw [if_neg hb] at h ⊢; exact e b o h
theorem jH {H:Hp} {O O':List MF} (s:∀ a∈O,a∈O'):bC (hid H O') (hid H O):=fun b o h=>by
 unfold hid at h ⊢
 by_cases hb:b∈O'
 ·rw [if_pos hb] at h; cases h
 ·rw [if_neg hb] at h
  rw [if_neg fun z=>hb (s b z)]; exact h
theorem AY (H:Hp):hid H []=H:=by funext b; unfold hid; simp
theorem vU {H:Hp} {O:List MF} {p:MF} {o:HO} (h:H p=none):bC (hid H O) (hid (upd H p o) O):=fun b u q=>by
 unfold hid at q ⊢
 by_cases hb:b∈O
 ·rw [if_pos hb] at q; cases q
 ·rw [if_neg hb] at q ⊢
  rw [aW (bz q h)]; exact q
theorem cn {H:Hp} {p:MF} (h:H p=none) (o:HO):bC H (upd H p o):=fun b u q=>by rw [aW (bz q h)]; exact q
theorem fY {H:Hp} {O:List MF} {p:MF} (h:p∉O):hid H O p=H p:=by unfold hid; rw [if_neg h]
theorem lO {H:Hp} {O:List MF} {p:MF} {o:HO} (h:p∈O):bC (hid H O) (hid (upd H p o) O):=fun b u q=>by
 unfold hid at q ⊢
 by_cases hb:b∈O
 ·rw [if_pos hb] at q; cases q
 ·rw [if_neg hb] at q ⊢
  rw [aW (fun z=>hb (by rw [z]; exact h))]; exact q

inductive S where
 | val (d:D) | own (d:D)
abbrev av:=List (Option S)
def p4:HO->Prop
 | .lst _=>True
 | .dK _=>True
 | .dT _=>True
 | _=>False
class aT where
 tab:Hp->Prop
 same:∀ {H H':Hp},tab H->bC H H'->tab H'
 own:∀ {H:Hp} {p:MF} {o o':HO},tab H->H p=some o->p4 o->tab (upd H p o')
variable [aT]
def dt (H:Hp) (O:List MF):Prop:=aT.tab H/\∀ a∈O,∃ o,H a=some o/\p4 o
theorem dt.not {H:Hp} {O:List MF} (h:dt H O) {p:MF} (n:H p=none):p∉O:=fun z=>by
 obtain⟨vs,e,_⟩:=h.2 p z
 rw [n] at e; cases e
theorem dt.same {H H':Hp} {O:List MF} (h:dt H O) (e:bC H H'):dt H' O:=⟨aT.same h.1 e,fun a ha=>let ⟨vs,q,m⟩:=h.2 a ha; ⟨vs,e _ _ q,m⟩⟩
theorem dt.upd {H:Hp} {O:List MF} {p:MF} {o:HO} (h:dt H O) (hp:p∈O) (m:p4 o):dt (L2.upd H p o) O:=⟨let ⟨_,q,r⟩:=h.2 p hp; aT.own h.1 q r,fun a ha=>by
 by_cases z:a=p
 ·rw [z]; exact⟨o,bF,m⟩
 ·obtain⟨u,q,r⟩:=h.2 a ha
  exact⟨u,by rw [aW z]; exact q,r⟩⟩
theorem dt.cons {H:Hp} {O:List MF} {p:MF} {o:HO} (h:dt H O) (hp:H p=some o) (m:p4 o):dt H (p::O):=⟨h.1,fun a ha=>by
 rcases List.mem_cons.mp ha with z | z
 ·rw [z]; exact⟨o,hp,m⟩
 ·exact h.2 a z⟩
def iA (K:Lj) (H:Hp) (O:List MF) (a:MF) (d:D):Prop:=∃ o vs,H a=some o/\match d with
 | .lst xs=>o=.lst vs/\aZ K (hid H O) xs vs
 | .dct ks ds=>aZ K (hid H O) ds vs/\((∃ kvs:List (Key×V),o=.dK kvs/\ks=kvs.map (fun p=>dE p.1)/\vs=kvs.map (·.2)) \/
   ∃ kvs:List (List Key×V),o=.dT kvs/\ks=kvs.map (fun p=>.tup (p.1.map dE))/\vs=kvs.map (·.2))
 | _=>False
theorem iA.mono {K:Lj} {H H':Hp} {O O':List MF} {a:MF} {d:D} (h:iA K H O a d) (e:H a=H' a) (s:bC (hid H O) (hid H' O')):iA K H' O' a d:=by
 obtain⟨o,vs,h1,h2⟩:=h
 refine⟨o,vs,by rw [<- e]; exact h1,?_⟩
 cases d with
 | lst xs=>exact⟨h2.1,h2.2.mono s⟩
 | dct ks ds=>exact⟨h2.1.mono s,h2.2⟩
 | _=>exact h2
theorem iA.some {K:Lj} {H:Hp} {O:List MF} {a:MF} {d:D} (h:iA K H O a d):∃ o,H a=some o:=let ⟨o,_,e,_⟩:=h; ⟨o,e⟩
theorem iA.den {K:Lj} {H:Hp} {O O':List MF} {a:MF} {d:D} (h:iA K H O a d) (s:bC (hid H O) (hid H O')) (ha:a∉O'):cm K (hid H O') d (.ref a):=by
 obtain⟨o,vs,h1,h2⟩:=h
 have h1':hid H O' a=Option.some o:=by rw [fY ha]; exact h1
 cases d with
 | lst xs =>
  obtain⟨e,g⟩:=h2
  subst e
  exact cg.mpr ⟨a,vs,rfl,la.of h1',g.mono s⟩
 | dct ks ds =>
  obtain⟨g,q⟩:=h2
  refine Gs.mpr ⟨a,vs,rfl,g.mono s,?_⟩
  rcases q with ⟨kvs,e,q⟩ | ⟨kvs,e,q⟩
  ·subst e; exact .inl ⟨kvs,h1',q⟩
  ·subst e; exact .inr ⟨kvs,h1',q⟩
 | _=>exact h2.elim
structure dg (K:Lj) (O:List MF) (H:Hp) (ρ:av) (σ:St):Prop where
 val:∀ (i:Nat) d,ρ[i]?=some (some (.val d))->∃ v,σ[i]?=some (some v)/\cm K (hid H O) d v
 own:∀ (i:Nat) d,ρ[i]?=some (some (.own d))->∃ a,σ[i]?=some (some (.ref a))/\a∈O/\iA K H O a d
 one:∀ (i j:Nat) xs ys a,ρ[i]?=some (some (.own xs))->ρ[j]?=some (some (.own ys))->σ[i]?=some (some (.ref a))->σ[j]?=some (some (.ref a))->i=j
 all:dt H O
theorem oH {H H':Hp} (e:bC H H') {a:MF} {o:HO} (h:H a=some o):H a=H' a:=by rw [h,e _ _ h]
theorem dg.same {K:Lj} {O:List MF} {H H':Hp} {ρ:av} {σ:St} (h:dg K O H ρ σ) (e:bC H H'):dg K O H' ρ σ :=
  ⟨fun i d q=>let ⟨v,a,b⟩:=h.val i d q; ⟨v,a,b.mono (cq e)⟩,
   fun i xs q=>let ⟨a,q1,q2,q3⟩:=h.own i xs q; ⟨a,q1,q2,q3.mono (let ⟨_,z⟩:=q3.some; oH e z) (cq e)⟩,h.one,h.all.same e⟩

structure Ex where
 c:Str
 fs:List Str
 vs:List D
abbrev R (α:Type):=Except (Option Ex) α
abbrev un {α:Type}:R α:=.error none
def rO {α:Type}:Option α->R α
 | some a=>.ok a
 | none=>.error none
def EX (K:Lj) (Hd:Hp) (x:Ex) (C:MF) (dx:Option MF):Prop:=clsAt K x.c C/\∃ ws,aZ K Hd x.vs ws/\x.fs.length=ws.length/\(x.fs=[]\/∃ d,dx=some d/\Hd d=some (.xd (x.fs.zip ws)))
theorem EX.mono {K:Lj} {H H':Hp} {x:Ex} {C:MF} {dx:Option MF} (h:EX K H x C dx) (e:bC H H'):EX K H' x C dx:=by
 obtain⟨h1,ws,h2,h3,h4⟩:=h
 exact⟨h1,ws,h2.mono e,h3,h4.imp id fun ⟨d,q1,q2⟩=>⟨d,q1,e _ _ q2⟩⟩
end TG
namespace TG
open PySem PySem.Spec L2
variable [aT]
open PyProof.Rows (AllBare)
theorem yU {P:ME} {w:MD} {H:Hp} {h:MG} {a:MF} {o:HO} (x:cM P w H h a o):∃ u,h.get? a=some u:=by
 cases o with
 | lst xs=>obtain⟨_,_,_,_,e⟩:=x; exact⟨_,e⟩
 | tup xs=>obtain⟨_,_,_,o,e,_⟩:=x; exact⟨_,e⟩
 | dK kvs=>obtain⟨_,_,_,_,o,_,_,e,_⟩:=x; exact⟨_,e⟩
 | dT kvs=>obtain⟨_,_,_,_,o,_,_,e,_⟩:=x; exact⟨_,e⟩
 | set S n=>obtain⟨o,_,_,_,e,_⟩:=x; exact⟨_,e⟩
 | ins C dx fs=>obtain⟨_,_,_,e,_⟩:=x; exact⟨_,e⟩
 | own y=>exact x
 | xd fs=>obtain⟨_,⟨_,_,_,e,_⟩,_⟩:=x; exact⟨_,e⟩
 | rng lo hi=>obtain⟨_,_,_,e⟩:=x; exact⟨_,e⟩
 | frz ob u=>obtain⟨e,_⟩:=x; exact⟨_,e⟩
 | tbl ps=>exact⟨_,(show h.get? a=some _ from x)⟩
 | met f y=>exact⟨_,(show h.get? a=some _ from x)⟩
 | ext φ=>obtain⟨_,e,_⟩:=x; exact e
def jK (X:Cx) (H:Hp) (b:MF):Prop:=((∃ o,X.s₀.heap.get? b=some o)/\b∉X.ex)\/H b≠none\/(∃ o,(b,o)∈X.pn)\/∃ x,X.env.cells.lookup x=some b
def Jd (B:MG) (e:MF) (cls a0:MC) (h:MG):Prop:=h.TracedW B e cls a0\/∃ oe vs,h.get? e=some oe/\oe.cls=cls/\oe.data=.fields vs/\vs[1]?=some .none/\vs[0]?=some a0
def v5 (X:Cx) (H:Hp) (s:ML) (e C:MF):Prop:=∃ B a0,B.StaysIn s.heap/\B.get? e=none/\s.heap.FunFrames B X.stack/\Jd B e (.ref C) a0 s.heap/\∀ b o,s.heap.get? b=some o->jK X H b->b∉frs X.stack->B.get? b=some o
def IY (X:Cx) (H:Hp) (O:List MF) (s:ML) (u:MC) (x:Ex):Prop:=∃ e C dx,u=.ref e/\EX X.K (hid H O) x C dx/\v5 X H s e C
def lS (P:ME) (w:MD):yf:=fun outer H s E u s'=>∃ e C dx H' B a0,u=.ref e/\s'.os=s.os/\AllBare s'.gens/\Un (frs outer) [] H H' s.heap s'.heap/\mV P w H' s'.heap/\Heap.FlyingW B outer e (.ref C) a0 s'.heap /\
 (∀ b o,s'.heap.get? b=some o->((∃ o',s.heap.get? b=some o')\/H' b≠none)->b∉frs outer->B.get? b=some o)/\E (.ref C) dx H'
def HZ (K:Lj) (H:Hp) (O:List MF) (x:Ex) (E:XK):Prop:=∀ C dx H',bC H H'->EX K (hid H' O) x C dx->E (.ref C) dx H'
def CD (X:Cx) (σ:St) (O:List MF) (H:Hp) (x:Ex):Prop:=∀ pins s u H',Inv X pins σ H' s->bC H H'->IY X H' O s u x->X.xe u s
theorem CD.mono {X:Cx} {σ:St} {O:List MF} {H H':Hp} {x:Ex} (h:CD X σ O H x) (s:bC H H'):CD X σ O H' x:=fun pins st u H2 I s2 f=>h pins st u H2 I (s.trans s2) f
def wG (X:Cx) (O:List MF) (H:Hp) (x:Ex):XK:=fun u dx H'=>∃ C,u=.ref C/\bC H H'/\EX X.K (hid H' O) x C dx
def iR (CX:yf) (X:Cx) (σ:St) (E:XK):Prop:=∀ (pins:List (MF×Obj)) (H:Hp) (s:ML) (e:MC) (s':ML),Inv X pins σ H s->CX X.stack H s E e s'->X.xe e s'
theorem wf {X:Cx} {σ:St} {O:List MF} {H:Hp} {x:Ex} (h:CD X σ O H x):iR (lS X.prog X.w) X σ (wG X O H x):=by
 rintro pins H1 s u s' I ⟨e,C,dx,H',B,a0,rfl,os,bare,un,hok,⟨f1,f2,f3,f4⟩,kp,C',eC,sm,hd⟩
 cases eC
 have I':Inv X pins σ H' s':=I.call' os un hok bare (ch:=[]) fun b z=>absurd z (by simp)
 refine h pins s' _ H' I' sm ⟨e,C,dx,rfl,hd,B,a0,f1,f2,f3,.inl f4,fun b o eb hb nf=>kp b o eb ?_ nf⟩
 rcases hb with ⟨⟨o',hb⟩,nx⟩ | hb | ⟨o',hb⟩ | ⟨y,hb⟩
 ·exact .inl (I.base.there b o' hb nx)
 ·exact .inr hb
 ·exact .inl ⟨_,(I.pin _ (Jp _ hb)).1⟩
 ·obtain⟨v,o,q,_⟩:=I.cell y b hb
  exact .inl ⟨o,q⟩
theorem vV {X:Cx} {σ:St}:iR (lS X.prog X.w) X σ E0:=fun _ _ _ _ _ _ ⟨_,_,_,_,_,_,_,_,_,_,_,_,_,z⟩=>z.elim
theorem uf {X:Cx} {O:List MF} {H:Hp} {x:Ex}:HZ X.K H O x (wG X O H x):=fun C dx H' s e=>⟨C,rfl,s,e⟩
section
variable {X:Cx} {pins:List (MF×Obj)} {σ:St} {H:Hp} {s:ML} {h':MG}
theorem v6 (I:Inv X pins σ H s) (k:∀ b o,s.heap.get? b=some o->jK X H b->b∉frs X.stack->h'.get? b=some o):mV X.prog X.w H h':=fun a ob ea =>
 (I.hok a ob ea).stay (fun b u hb q=>by
  have hn:H b≠none:=by
   rcases hb with e | e
   ·rw [e,ea]; intro z; cases z
   ·rw [e]; intro z; cases z
  exact k b u q (.inr (.inl hn)) fun hf=>hn (I.stkFree b hf)) (fun _ q=>q) fun _ _ q=>q
theorem qP (I:Inv X pins σ H s) (us:s.heap.UpToSlots h') {b:MF} {o:Obj} (hb:b∈frs X.stack) (e:s.heap.get? b=some o):∃ sl,h'.get? b=some { o with slots:=sl }:=by
 obtain⟨_,o',e',nf⟩:=I.stack.mem hb
 rw [e] at e'; cases e'
 exact us b o e nf
theorem zX (I:Inv X pins σ H s) (hx:X.ex=[]) (hst:X.stack=X.env::X.outer) (hf:X.env.frame=some X.env.locals) (us:s.heap.UpToSlots h') (k:∀ b o,s.heap.get? b=some o->jK X H b->b∉frs X.stack->h'.get? b=some o) :
  Un (frs X.outer) [] X.H₀ H X.s₀.heap h':=by
 have U:=I.base
 rw [hx] at U
 have fr:frs X.stack=X.env.locals::frs X.outer:=by rw [hst]; show List.filterMap _ (_::_)=_; rw [Jm,hf]; rfl
 have nl:∀ b o,X.s₀.heap.get? b=some o->b≠X.env.locals:=fun b o q z=>by
  have h1:=Ma q
  have h2:=I.ok.above
  rw [z] at h1; exact Ji _ (Jh h1 h2)
 have nfr:∀ b o,X.s₀.heap.get? b=some o->b∉frs X.outer->b∉frs X.stack:=fun b o q nb z=>by
  rw [fr] at z
  rcases List.mem_cons.mp z with z | z
  ·exact nl b o q z
  ·exact nb z
 refine⟨fun b o q n nb _=>k b o (U.keep b o q n nb (by simp)) (.inl ⟨⟨o,q⟩,by rw [hx]; simp⟩) (nfr b o q nb),fun b o q n hb _=>?_,fun b o q n _=>U.free b o q n (by simp),fun b o q _=>?_,U.tups,U.frzs,U.tbls⟩
 ·obtain⟨sl,e⟩:=U.slot b o q n hb (by simp)
  obtain⟨sl',e'⟩:=qP I us (by rw [fr]; exact Jo _ hb) e
  exact⟨sl',e'⟩
 ·obtain⟨o1,e1⟩:=U.there b o q (by simp)
  by_cases hb:b∈frs X.stack
  ·obtain⟨sl,e⟩:=qP I us hb e1
   exact⟨_,e⟩
  ·exact⟨o1,k b o1 e1 (.inl ⟨⟨o,q⟩,by rw [hx]; simp⟩) hb⟩
end
theorem DE {P:ME} {w:MD} {K:Lj} {mg:Str->Option MC} {base:MG} {N:List Str} {qual:Str} {scope:MM} {f:MF} {cd:MC} {A:MK} {outer:List Env} {s:ML} {H:Hp} {E:XK} {σ:St} {O O':List MF} {H':Hp} {x:Ex}
  (hx:HZ K H O x E) (sm:bC H H') (hs:∀ a∈O,a∈O'):CD (kL (lS P w) P w K mg base N qual scope f cd A outer s H E) σ O' H' x:=by
 rintro pins s1 u H1 I s2 ⟨e,C,dx,rfl,hd,B,a0,b1,b2,b3,b4,b5⟩
 have fin:∀ h',Heap.FlyingW B outer e (.ref C) a0 h'->s1.heap.UpToSlots h'->lS P w outer H s E (.ref e) { s1 with heap:=h' }:=fun h' fl us=>by
  have k:∀ b o,s1.heap.get? b=some o->jK (kL (lS P w) P w K mg base N qual scope f cd A outer s H E) H1 b->b∉frs (kL (lS P w) P w K mg base N qual scope f cd A outer s H E).stack->h'.get? b=some o:=fun b o q kb nf=>fl.1 b o (b5 b o q kb nf)
  have un:=zX I rfl rfl rfl us k
  have hok:=v6 I k
  refine⟨e,C,dx,H1,B,a0,rfl,I.os,I.bare,un,hok,fl,fun b o q hb nf=>?_,hx C dx H1 (sm.trans s2) (hd.mono (jH hs))⟩
  have nf2:b∉frs (kL (lS P w) P w K mg base N qual scope f cd A outer s H E).stack:=fun z=>by
   rcases List.mem_cons.mp (show b∈s.heap.objs.size::frs outer from z) with z | z
   ·rcases hb with hb | hb
    ·obtain⟨o',hb⟩:=hb
     have:=Ma hb
     rw [z] at this; exact Ji _ this
    ·rw [z] at hb; exact hb I.free
   ·exact nf z
  have kb:jK (kL (lS P w) P w K mg base N qual scope f cd A outer s H E) H1 b:=hb.elim (fun z=>.inl ⟨z,fun y=>nomatch y⟩) fun z=>.inr (.inl z)
  obtain⟨o1,e1⟩:∃ o1,s1.heap.get? b=some o1:=by
   rcases hb with ⟨o',hb⟩ | hb
   ·exact I.base.there b o' hb (fun z=>nomatch z)
   ·cases q0:H1 b with
    | none=>exact absurd q0 hb
    | some ob=>exact yU (I.hok b ob q0)
  have:=k b o1 e1 kb nf2
  rw [q] at this; cases this
  exact b5 b _ e1 kb nf2
 show MN _ _ (leaving (Ml qual scope s.heap.objs.size f cd) (.ref e)) _ _ s1
 rcases b4 with b4 | ⟨oe,vs,c1,c2,c3,c4,c5⟩
 ·exact wpAny_leaves_onW I.ok.frames rfl ⟨b1,b2,b3,b4⟩ fin
 ·refine wpAny_leaving_firstW I.ok.frames b3 rfl c1 b1 b2 c3 c4 c5 fun h' hL=>?_
  obtain⟨k1,⟨_,_,k2⟩,k3,k4⟩:=hL
  exact fin h' ⟨k1,b2,k2,c2 ▸ k3⟩ k4
end TG
namespace TG
open PySem PySem.Spec L2
variable [aT]

def gk (X:Cx) (σ:St) (O:List MF) (H:Hp) {α:Type} (r:R α) (Q:α->Prop):Prop:=match r with
 | .ok a=>Q a
 | .error (some x)=>CD X σ O H x
 | .error none=>False
section
variable {X:Cx} {σ:St} {O:List MF} {H H':Hp} {α β:Type}
theorem gk.bind {r:R α} {G:α->R β} {Q:β->Prop} (h:gk X σ O H (r.bind G) Q):gk X σ O H r fun a=>gk X σ O H (G a) Q:=by
 match r,h with
 | .ok a,h=>exact h
 | .error (some x),h=>exact h
 | .error none,h=>exact h
theorem gk.imp {r:R α} {Q Q':α->Prop} (h:gk X σ O H r Q) (f:∀ a,Q a->Q' a):gk X σ O H r Q':=by
 match r,h with
 | .ok a,h=>exact f a h
 | .error (some x),h=>exact h
 | .error none,h=>exact h
theorem gk.mono {r:R α} {Q:α->Prop} (h:gk X σ O H r Q) (s:bC H H'):gk X σ O H' r Q:=by
 match r,h with
 | .ok a,h=>exact h
 | .error (some x),h=>exact CD.mono h s
 | .error none,h=>exact h
theorem gk.rO {o:Option α} {Q:α->Prop} (h:gk X σ O H (rO o) Q):∃ a,o=some a/\Q a:=by
 match o,h with
 | some a,h=>exact⟨a,rfl,h⟩
 | none,h=>exact h.elim
end
abbrev FX:=av->R D
def tF (X:Cx) (F:FX):TE:=fun σ H Q=>∃ O ρ,dg X.K O H ρ σ/\gk X σ O H (F ρ) fun d=>∀ v H',bC H H'->cm X.K (hid H' O) d v->Q v H'
def FY (X:Cx) (F:av->R Bool):TT:=fun σ H Q=>∃ O ρ,dg X.K O H ρ σ/\gk X σ O H (F ρ) fun b=>∀ H',bC H H'->Q b H'
def G6 (X:Cx) (F:av->R (List D)):TA:=fun σ H Q=>∃ O ρ,dg X.K O H ρ σ/\gk X σ O H (F ρ) fun ds=>∀ vs H',bC H H'->aZ X.K (hid H' O) ds vs->Q vs H'
def FE (X:Cx) (e:MO) (F:FX):Prop:=PE X e (tF X F)
def FT (X:Cx) (e:MO) (F:av->R Bool):Prop:=PT X e (FY X F)
def FW (X:Cx) (e:MO) (F:av->R Bool):Prop:=PW X e (FY X F)
def FA (X:Cx) (es:List MO) (F:av->R (List D)):Prop:=PA X es (G6 X F)

theorem PE.weak {X:Cx} {e:MO} {t t':TE} (h:PE X e t) (w:∀ σ H Q,t' σ H Q->t σ H Q):PE X e t':=fun pins s σ H Q I q=>h pins s σ H Q I (w σ H Q q)
theorem PT.weak {X:Cx} {e:MO} {t t':TT} (h:PT X e t) (w:∀ σ H Q,t' σ H Q->t σ H Q):PT X e t':=fun pins s σ H Q I q=>h pins s σ H Q I (w σ H Q q)
theorem PW.weak {X:Cx} {e:MO} {t t':TT} (h:PW X e t) (w:∀ σ H Q,t' σ H Q->t σ H Q):PW X e t':=fun whole pins s σ H Q I q=>h whole pins s σ H Q I (w σ H Q q)
theorem PA.weak {X:Cx} {es:List MO} {t t':TA} (h:PA X es t) (w:∀ σ H Q,t' σ H Q->t σ H Q):PA X es t':=fun pos pins s σ H Q I q=>h pos pins s σ H Q I (w σ H Q q)
theorem PS.weak {X:Cx} {st:MQ} {t t':TS} (h:PS X st t) (w:∀ D σ H,t' D σ H->t D σ H):PS X st t':=fun pins s σ H Q I q=>h pins s σ H Q I (w Q σ H q)
theorem ww.weak {X:Cx} {st:List MQ} {t t':TS} (h:ww X st t) (w:∀ D σ H,t' D σ H->t D σ H):ww X st t':=fun pins s σ H Q I q=>h pins s σ H Q I (w Q σ H q)

def oY (ρ:av) (i:Nat):R D:=match ρ[i]? with
 | some (some (.val d))=>.ok d
 | _=>un
theorem Bk {ρ:av} {i:Nat} {d:D} (h:oY ρ i=.ok d):ρ[i]?=some (some (.val d)):=by
 unfold oY at h
 split at h
 ·rename_i e; cases h; exact e
 ·cases h
def ai (i:Nat):FX:=fun ρ=>oY ρ i
def fC (d:D):FX:=fun _=>.ok d
section
variable {X:Cx}
theorem xo {σ:St} {O:List MF} {H:Hp} {ρ:av} {i:Nat} {Q:D->Prop} (h:gk X σ O H (oY ρ i) Q):∃ d,ρ[i]?=some (some (.val d))/\Q d:=by
 cases e:oY ρ i with
 | ok d=>rw [e] at h; exact⟨d,Bk e,h⟩
 | error z =>
  rw [e] at h
  cases z with
  | none=>exact h.elim
  | some x =>
   exfalso
   unfold oY at e
   split at e
   ·cases e
   ·have:=Except.error.inj e; cases this
theorem Iu {i:Nat} {x:Str} {pos:Pos} (h:PE X (.Name x pos) (qg i)):FE X (.Name x pos) (ai i) :=
 PE.weak h fun σ H Q ⟨O,ρ,E,hF⟩=>by
  obtain⟨d,e,q⟩:=xo hF
  obtain⟨v,e,dv⟩:=E.val i d e
  exact⟨v,e,q v H (bC.refl H) dv⟩
theorem jS {e:MO} {d:D} {v:V} (h:PE X e (tC v)) (hd:∀ K H,cm K H d v):FE X e (fC d) :=
 PE.weak h fun σ H Q ⟨O,ρ,E,q⟩=>q v H (bC.refl H) (hd _ _)
theorem GQ {i j pos}:FE X (.Constant (.int i) j pos) (fC (.int i)):=jS Dm fun _ _=>eR.mpr rfl
theorem IE {b j pos}:FE X (.Constant (.bool b) j pos) (fC (.bl b)):=jS D6 fun _ _=>jq.mpr rfl
theorem Ha {j pos}:FE X (.Constant .none j pos) (fC .non):=jS De fun _ _=>jr.mpr rfl
theorem G8 {x j pos}:FE X (.Constant (.str x) j pos) (fC (.str x)):=jS Cz fun _ _=>eQ.mpr rfl

def noStar:MO->Bool
 | .Starred _ _=>false
 | _=>true
theorem cW {e:MO} {es:List MO} {env:Env} (h:noStar e=true):MP (e::es) env=(false,eval e env)::MP es env:=by
 cases e <;> first | rfl | cases h
theorem dS {pos:Pos} {env:Env}:∀ {es:List MO},es.all noStar=true->(backTo pos (MP es env)).any (·.1)=false
 | [],_=>rfl
 | e::es,h=>by
  rw [List.all_cons,JZ] at h
  rw [cW h.1]
  exact dS h.2
def au:av->R (List D):=fun _=>.ok []
def af (f:FX) (g:av->R (List D)):av->R (List D):=fun ρ=>(f ρ).bind fun x=>(g ρ).bind fun xs=>.ok (x::xs)
theorem HH:FA X [] au:=PA.weak uJ fun σ H Q ⟨O,ρ,E,q⟩=>q [] H (bC.refl H) (bZ.mpr rfl)
theorem bind_some {α β:Type} {o:Option α} {f:α->Option β} {b:β} (h:o.bind f=some b):∃ a,o=some a/\f a=some b:=by
 cases o with
 | none=>cases h
 | some a=>exact⟨a,rfl,h⟩
theorem oF {ε α β:Type} {o:Except ε α} {f:α->Except ε β} {b:β} (h:o.bind f=.ok b):∃ a,o=.ok a/\f a=.ok b:=by
 cases o with
 | error _=>cases h
 | ok a=>exact⟨a,rfl,h⟩
theorem GB {e:MO} {es:List MO} {f:FX} {g:av->R (List D)} (he:FE X e f) (hs:FA X es g) (hns:noStar e=true:=by rfl):FA X (e::es) (af f g) :=
 PA.weak (me he hs (cW hns)) fun σ H Q ⟨O,ρ,E,h⟩ =>
  ⟨O,ρ,E,(gk.bind h).imp fun x h v H1 s1 d1=>⟨O,ρ,E.same s1,((gk.bind h).mono s1).imp fun xs q vs H2 s2 d2=>q (v::vs) H2 (s1.trans s2) (bx.mpr ⟨v,vs,rfl,d1.mono (cq s2),d2⟩)⟩⟩
def small (n:Nat):Bool:=decide (n<=100000)
theorem de {n:Nat} (h:small n=true):n<=MH:=Jk (of_decide_eq_true h) (by decide)
theorem cZ {n:Nat} (h:n<=100000):small n=true:=decide_eq_true h
def qZ (xs:List D):Option D:=if small xs.length then some (.tup xs) else none
def js (xs:List D):Option D:=if small xs.length then some (.lst xs) else none
def bh (g:av->R (List D)):FX:=fun ρ=>(g ρ).bind fun xs=>rO (qZ xs)
def dU (g:av->R (List D)):FX:=fun ρ=>(g ρ).bind fun xs=>rO (js xs)
theorem bD {α:Type} {c:Bool} {a b:α} (h:(if c then some a else none)=some b):c=true/\a=b:=by
 cases c with
 | true=>exact⟨rfl,Option.some.inj h⟩
 | false=>cases h
theorem fU {K:Lj} {H:Hp} {O:List MF} {p:MF} {ds:List D} {vs:List V} (hO:dt H O) (hp:H p=none) (d:aZ K (hid H O) ds vs):cm K (hid (upd H p (.tup vs)) O) (.tup ds) (.ref p) :=
 cf.mpr ⟨p,vs,rfl,by rw [fY (hO.not hp),bF],d.mono (vU hp)⟩
theorem ig {K:Lj} {H:Hp} {O:List MF} {p:MF} {ds:List D} {vs:List V} (hO:dt H O) (hp:H p=none) (d:aZ K (hid H O) ds vs):cm K (hid (upd H p (.lst vs)) O) (.lst ds) (.ref p) :=
 cg.mpr ⟨p,vs,rfl,la.of (by rw [fY (hO.not hp),bF]),d.mono (vU hp)⟩
theorem HC {es:List MO} {g:av->R (List D)} {k pos} (h:FA X es g):FE X (.Tuple es k pos) (bh g) :=
 PE.weak (Dy h) fun σ H Q ⟨O,ρ,E,hF⟩=>⟨O,ρ,E,(gk.bind hF).imp fun xs hF vs H1 s1 d1=>by
  obtain⟨d,e,q⟩:=gk.rO hF
  obtain⟨hz,e⟩:=bD e
  subst e
  refine⟨by rw [<- d1.length]; exact de hz,fun p hp=>?_⟩
  exact q _ _ (s1.trans (cn hp _)) (fU (E.all.same s1) hp d1)⟩
theorem Ii {es:List MO} {g:av->R (List D)} {pos} (h:FA X es g):FE X (.List es pos) (dU g) :=
 PE.weak (yn h) fun σ H Q ⟨O,ρ,E,hF⟩=>⟨O,ρ,E,(gk.bind hF).imp fun xs hF vs H1 s1 d1=>by
  obtain⟨d,e,q⟩:=gk.rO hF
  obtain⟨hz,e⟩:=bD e
  subst e
  refine⟨by rw [<- d1.length]; exact de hz,fun p hp=>?_⟩
  exact q _ _ (s1.trans (cn hp _)) (ig (E.all.same s1) hp d1)⟩

def A3 (K:Lj) (r:V->Hp->VK->Prop) (g:D->Option D):Prop :=
 ∀ (a d:D) (x:V) (O:List MF) (H:Hp) (Q:VK),dt H O->g a=some d->cm K (hid H O) a x->(∀ v H',bC H H'->cm K (hid H' O) d v->Q v H')->r x H Q
def f1 (g:D->Option D) (f:FX):FX:=fun ρ=>(f ρ).bind fun a=>rO (g a)
def df (K:Lj) (r:R2) (g:D->D->Option D):Prop :=
 ∀ (a b d:D) (x y:V) (O:List MF) (H:Hp) (Q:VK),dt H O->g a b=some d->cm K (hid H O) a x->cm K (hid H O) b y->(∀ v H',bC H H'->cm K (hid H' O) d v->Q v H')->r x y H Q
def f2 (g:D->D->Option D) (f1 f2:FX):FX:=fun ρ=>(f1 ρ).bind fun a=>(f2 ρ).bind fun b=>rO (g a b)
theorem sY {r:R2} {g:D->D->Option D} {fa fb:FX} (s:df X.K r g):∀ σ H Q,tF X (f2 g fa fb) σ H Q->Fz r (tF X fa) (tF X fb) σ H Q:=fun σ H Q ⟨O,ρ,E,hF⟩ =>
 ⟨O,ρ,E,(gk.bind hF).imp fun a hF x H1 s1 d1=>⟨O,ρ,E.same s1,((gk.bind hF).mono s1).imp fun b hF y H2 s2 d2=>by
  obtain⟨d,e,q⟩:=gk.rO hF
  exact s a b d x y O H2 Q (E.all.same (s1.trans s2)) e (d1.mono (cq s2)) d2 fun v H3 s3 d3=>q v H3 ((s1.trans s2).trans s3) d3⟩⟩
theorem HI {a b:MO} {op:Operator} {r:R2} {g:D->D->Option D} {fa fb:FX} {pos:Pos} (ho:jw X (M3 op) r) (s:df X.K r g) (ha:FE X a fa) (hb:FE X b fb):FE X (.BinOp a op b pos) (f2 g fa fb) :=
 PE.weak (B9 ho ha hb) (sY s)
theorem Ht {a b:MO} {op:CmpOp} {r:R2} {g:D->D->Option D} {fa fb:FX} {pos:Pos} (ho:jw X (M4 op) r) (s:df X.K r g) (ha:FE X a fa) (hb:FE X b fb) (hm:M5 op b=false):FE X (.Compare a [op] [b] pos) (f2 g fa fb) :=
 PE.weak (Bz ho ha hb hm) (sY s)
def G4:D->Option Bool
 | .bl b=>some b
 | _=>none
def fB (f:FX):av->R Bool:=fun ρ=>(f ρ).bind fun d=>rO (G4 d)
theorem yG {t:TE} {f:FX} (h:∀ σ H Q,tF X f σ H Q->t σ H Q):∀ σ H Q,FY X (fB f) σ H Q->BP t σ H Q:=fun σ H Q ⟨O,ρ,E,hF⟩ =>
 h σ H _ ⟨O,ρ,E,(gk.bind hF).imp fun d hF v H1 s1 d1=>by
  obtain⟨b,e,q⟩:=gk.rO hF
  cases d with
  | bl b' =>
   cases e
   exact⟨b,jq.mp d1,q H1 s1⟩
  | _=>cases e⟩
theorem Il {a b:MO} {op:CmpOp} {r:R2} {g:D->D->Option D} {fa fb:FX} {pos:Pos} (ho:jw X (M4 op) r) (s:df X.K r g) (ha:FE X a fa) (hb:FE X b fb) (hm:M5 op b=false):FT X (.Compare a [op] [b] pos) (fB (f2 g fa fb)) :=
 PT.weak (AC ho ha hb hm) (yG (sY s))

def vR (K:Lj) (r:List V->Hp->VK->Prop) (g:List D->Option D):Prop :=
 ∀ (ds:List D) (d:D) (xs:List V) (O:List MF) (H:Hp) (Q:VK),dt H O->g ds=some d->aZ K (hid H O) ds xs->(∀ v H',bC H H'->cm K (hid H' O) d v->Q v H')->r xs H Q
def fL (g:List D->Option D) (f:av->R (List D)):FX:=fun ρ=>(f ρ).bind fun ds=>rO (g ds)
def fR (g:List D->R D) (f:av->R (List D)):FX:=fun ρ=>(f ρ).bind g
theorem yq {r:List V->Hp->VK->Prop} {g:List D->Option D} {f:av->R (List D)} (s:vR X.K r g):∀ σ H Q,tF X (fL g f) σ H Q->Gd r (G6 X f) σ H Q:=fun σ H Q ⟨O,ρ,E,hF⟩ =>
 ⟨O,ρ,E,(gk.bind hF).imp fun ds hF vs H1 s1 d1=>by
  obtain⟨d,e,q⟩:=gk.rO hF
  exact s ds d vs O H1 Q (E.all.same s1) e d1 fun v H2 s2 d2=>q v H2 (s1.trans s2) d2⟩

def Bq (f:av->R Bool):av->R Bool:=fun ρ=>(f ρ).bind fun b=>.ok (!b)
def kU (f g:av->R Bool):av->R Bool:=fun ρ=>(f ρ).bind fun b=>if b then g ρ else .ok false
def Aq (f g:av->R Bool):av->R Bool:=fun ρ=>(f ρ).bind fun b=>if b then .ok true else g ρ
variable {a b c:MO} {rest:List MO} {pos:Pos} {f g:av->R Bool}
theorem GX (h:FT X a f):FT X (.UnaryOp .Not a pos) (Bq f):=PT.weak (DP h) fun σ H Q ⟨O,ρ,E,hF⟩=>⟨O,ρ,E,(gk.bind hF).imp fun b q H1 s1=>q H1 s1⟩
theorem GH (h:FT X a f):FW X (.BoolOp .And [a] pos) f:=AV h
theorem G5 (h:FT X a f):FW X (.BoolOp .Or [a] pos) f:=C4 h
theorem G2 (ha:FT X a f) (hb:FW X (.BoolOp .And (b::rest) pos) g):FW X (.BoolOp .And (a::b::rest) pos) (kU f g):=PW.weak (Du ha hb) fun σ H Q ⟨O,ρ,E,hF⟩=>⟨O,ρ,E,(gk.bind hF).imp fun c hF H1 s1=>by
 cases c with
 | true=>exact wY ⟨O,ρ,E.same s1,(hF.mono s1).imp fun b q H2 s2=>q H2 (s1.trans s2)⟩
 | false=>exact xu (hF H1 s1)⟩
theorem Iz (ha:FT X a f) (hb:FW X (.BoolOp .Or (b::rest) pos) g):FW X (.BoolOp .Or (a::b::rest) pos) (Aq f g):=PW.weak (Ff ha hb) fun σ H Q ⟨O,ρ,E,hF⟩=>⟨O,ρ,E,(gk.bind hF).imp fun c hF H1 s1=>by
 cases c with
 | false=>exact xu ⟨O,ρ,E.same s1,(hF.mono s1).imp fun b q H2 s2=>q H2 (s1.trans s2)⟩
 | true=>exact wY (hF H1 s1)⟩
theorem FW.ft {e:MO} (h:FW X e f):FT X e f:=PW.pt h
def truth:D->Option Bool
 | .non=>some false
 | .bl b=>some b
 | .int i=>some (i != 0)
 | .str x=>if small x.length then some (x.length != 0) else none
 | .tup xs=>some (!xs.isEmpty)
 | .lst xs=>some (!xs.isEmpty)
 | _=>none
def mw (f:FX):av->R Bool:=fun ρ=>(f ρ).bind fun d=>rO (truth d)

def uP (d:D) (k:R D):R D:=match d with
 | .bl true=>k
 | .bl false=>.ok (.bl false)
 | _=>un
def Ek (d:D) (k:R D):R D:=match d with
 | .bl false=>k
 | .bl true=>.ok (.bl true)
 | _=>un
def Ct:D->Option D
 | .bl b=>some (.bl (!b))
 | _=>none
def wl (f g:FX):FX:=fun ρ=>(f ρ).bind fun d=>uP d (g ρ)
def Ib (f g:FX):FX:=fun ρ=>(f ρ).bind fun d=>Ek d (g ρ)
def FK (f:FX):FX:=f1 Ct f
variable {fa fb:FX}
theorem HR {op} (h:FE X a fa):FE X (.BoolOp op [a] pos) fa:=Dr h
theorem Ij (ha:FE X a fa) (hb:FE X (.BoolOp .And (b::rest) pos) fb):FE X (.BoolOp .And (a::b::rest) pos) (wl fa fb):=PE.weak (CV ha hb) fun σ H Q ⟨O,ρ,E,hF⟩=>⟨O,ρ,E,(gk.bind hF).imp fun d hF x H1 s1 d1=>by
 cases d with
 | bl c =>
  refine⟨c,jq.mp d1,?_⟩
  cases c with
  | true=>exact wY ⟨O,ρ,E.same s1,(hF.mono s1).imp fun d q v H2 s2 d2=>q v H2 (s1.trans s2) d2⟩
  | false=>exact xu (hF _ H1 s1 (jq.mpr rfl))
 | _=>exact hF.elim⟩
def Fc (t:av->R Bool) (f g:FX):FX:=fun ρ=>(t ρ).bind fun c=>if c then f ρ else g ρ
theorem Iy (hc:FT X c f) (ha:FE X a fa) (hb:FE X b fb):FE X (.IfExp c a b pos) (Fc f fa fb):=PE.weak (zx hc ha hb) fun σ H Q ⟨O,ρ,E,hF⟩=>⟨O,ρ,E,(gk.bind hF).imp fun d hF H1 s1=>by
 cases d with
 | true=>exact wY ⟨O,ρ,E.same s1,(hF.mono s1).imp fun d q v H2 s2 d2=>q v H2 (s1.trans s2) d2⟩
 | false=>exact xu ⟨O,ρ,E.same s1,(hF.mono s1).imp fun d q v H2 s2 d2=>q v H2 (s1.trans s2) d2⟩⟩
end
end TG
namespace TG
open PySem PySem.Spec L2
variable [aT]
open PySem.SeqAt (EqAt RcAt RcNeAt)

mutual
def pyEq:D->D->Bool
 | .non,.non=>true
 | .bl a,.bl b=>a==b
 | .bl a,.int b=>(if a then 1 else 0)==b
 | .int a,.bl b=>a==(if b then 1 else 0)
 | .int a,.int b=>a==b
 | .str a,.str b=>a==b
 | .tup xs,.tup ys=>dB xs ys
 | .lst xs,.lst ys=>dB xs ys
 | .dct _ _,.dct _ _=>true
 | .obj _ _ _,.obj _ _ _=>true
 | .exc _ _ _,.exc _ _ _=>true
 | _,_=>false
def dB:List D->List D->Bool
 | [],[]=>true
 | x::xs,y::ys=>pyEq x y && dB xs ys
 | _,_=>false
end
mutual
theorem nv:∀ d:D,pyEq d d=true
 | .non=>by unfold pyEq; rfl
 | .bl b=>by unfold pyEq; simp
 | .int i=>by unfold pyEq; simp
 | .str x=>by unfold pyEq; simp
 | .tup xs=>by unfold pyEq; exact lm xs
 | .lst xs=>by unfold pyEq; exact lm xs
 | .dct _ _=>by unfold pyEq; rfl
 | .obj _ _ _=>by unfold pyEq; rfl
 | .exc _ _ _=>by unfold pyEq; rfl
theorem lm:∀ ds:List D,dB ds ds=true
 | []=>by unfold dB; rfl
 | d::ds=>by unfold dB; rw [nv d,lm ds]; rfl
end
def vB (xs ys:List D) (j:Nat):Bool:=match xs[j]?,ys[j]? with
 | some a,some b=>pyEq a b
 | _,_=>false
theorem fg:∀ xs ys:List D,((List.range (min xs.length ys.length)).all (vB xs ys) && xs.length==ys.length)=dB xs ys
 | [],[]=>by unfold dB; rfl
 | [],_::_=>by unfold dB; simp
 | _::_,[]=>by unfold dB; simp
 | x::xs,y::ys=>by
  have ih:=fg xs ys
  conv=>rhs; unfold dB
  rw [<- ih]
  have e:min (x::xs).length (y::ys).length=min xs.length ys.length+1:=by simp only [JT]; omega
  rw [e,J6,List.all_cons,J7]
  have e2:((x::xs).length==(y::ys).length)=(xs.length==ys.length):=by simp
  rw [e2,Bool.and_assoc]
  have e3:(List.range (min xs.length ys.length)).all (vB (x::xs) (y::ys) ∘ Nat.succ)=(List.range (min xs.length ys.length)).all (vB xs ys):=by
   congr 1
  rw [e3]
  rfl
mutual
def pl:D->Bool
 | .tup xs=>fX xs
 | .lst xs=>fX xs
 | .dct _ _=>false
 | .obj _ _ _=>false
 | .exc _ _ _=>false
 | _=>true
def fX:List D->Bool
 | []=>true
 | x::xs=>pl x && fX xs
end
theorem fF {ks vs:List D} (h:pl (.dct ks vs)=true):False:=by unfold pl at h; cases h
theorem e8 {c:Str} {fs:List Str} {vs:List D} (h:pl (.obj c fs vs)=true):False:=by unfold pl at h; cases h
theorem fD {c:Str} {fs:List Str} {vs:List D} (h:pl (.exc c fs vs)=true):False:=by unfold pl at h; cases h
theorem gW:∀ {xs:List D},fX xs=true->∀ x∈xs,pl x=true
 | [],_,_,h=>nomatch h
 | x::xs,h,y,hy=>by
  unfold fX at h
  rw [JZ] at h
  rcases List.mem_cons.mp hy with z | z
  ·rw [z]; exact h.1
  ·exact gW h.2 y z
theorem pE:∀ {xs:List D},(∀ x∈xs,pl x=true)->fX xs=true
 | [],_=>by unfold fX; rfl
 | x::xs,h=>by
  unfold fX
  rw [JZ]
  exact⟨h x Jn,pE fun y hy=>h y (Jo _ hy)⟩
theorem ce {xs:List D}:pl (.tup xs)=fX xs:=by rw [pl]
theorem dh {xs:List D}:pl (.lst xs)=fX xs:=by rw [pl]
def ck:Nat->D->Bool
 | n+1,.tup xs=>xs.all (ck n)
 | n+1,.lst xs=>xs.all (ck n)
 | 0,.tup _=>false
 | 0,.lst _=>false
 | _,.dct _ _=>false
 | _,.obj _ _ _=>false
 | _,.exc _ _ _=>false
 | _,_=>true

section
variable {X:Cx} {pins:List (MF×Obj)} {σ:St} {H:Hp} {s:ML}
theorem Inv.not_both (I:Inv X pins σ H s) {a:MF} {xs ys:List V} (h:nR X.K H a xs) (h':la X.K H a ys):False:=by
 obtain⟨its,_,ht,_⟩:=I.tuple h
 obtain⟨its2,_,hl,_⟩:=I.list h'
 exact absurd rfl (SeqAt.ne_of_list_tuple hl.isList (show s.heap.IsTuple a its.toArray from ht))
mutual
theorem Inv.den_inj (I:Inv X pins σ H s):∀ {a b:D} {v:V},pl a=true->pl b=true->cm X.K H a v->cm X.K H b v->a=b
 | .non,b,v,pa,pb,h,h'=>by
  rw [jr] at h; subst h
  cases b with
  | non=>rfl
  | bl _=>rw [jq] at h'; cases h'
  | int _=>rw [eR] at h'; cases h'
  | str _=>rw [eQ] at h'; cases h'
  | tup _=>rw [cf] at h'; obtain⟨_,_,e,_⟩:=h'; cases e
  | lst _=>rw [cg] at h'; obtain⟨_,_,e,_⟩:=h'; cases e
  | dct _ _=>exact(fF pb).elim
  | obj _ _ _=>exact(e8 pb).elim
  | exc _ _ _=>exact(fD pb).elim
 | .bl x,b,v,pa,pb,h,h'=>by
  rw [jq] at h; subst h
  cases b with
  | non=>rw [jr] at h'; cases h'
  | bl _=>rw [jq] at h'; cases h'; rfl
  | int _=>rw [eR] at h'; cases h'
  | str _=>rw [eQ] at h'; cases h'
  | tup _=>rw [cf] at h'; obtain⟨_,_,e,_⟩:=h'; cases e
  | lst _=>rw [cg] at h'; obtain⟨_,_,e,_⟩:=h'; cases e
  | dct _ _=>exact(fF pb).elim
  | obj _ _ _=>exact(e8 pb).elim
  | exc _ _ _=>exact(fD pb).elim
 | .int x,b,v,pa,pb,h,h'=>by
  rw [eR] at h; subst h
  cases b with
  | non=>rw [jr] at h'; cases h'
  | bl _=>rw [jq] at h'; cases h'
  | int _=>rw [eR] at h'; cases h'; rfl
  | str _=>rw [eQ] at h'; cases h'
  | tup _=>rw [cf] at h'; obtain⟨_,_,e,_⟩:=h'; cases e
  | lst _=>rw [cg] at h'; obtain⟨_,_,e,_⟩:=h'; cases e
  | dct _ _=>exact(fF pb).elim
  | obj _ _ _=>exact(e8 pb).elim
  | exc _ _ _=>exact(fD pb).elim
 | .str x,b,v,pa,pb,h,h'=>by
  rw [eQ] at h; subst h
  cases b with
  | non=>rw [jr] at h'; cases h'
  | bl _=>rw [jq] at h'; cases h'
  | int _=>rw [eR] at h'; cases h'
  | str _=>rw [eQ] at h'; cases h'; rfl
  | tup _=>rw [cf] at h'; obtain⟨_,_,e,_⟩:=h'; cases e
  | lst _=>rw [cg] at h'; obtain⟨_,_,e,_⟩:=h'; cases e
  | dct _ _=>exact(fF pb).elim
  | obj _ _ _=>exact(e8 pb).elim
  | exc _ _ _=>exact(fD pb).elim
 | .tup xs,b,v,pa,pb,h,h'=>by
  rw [cf] at h
  obtain⟨a,vs,e,h1,h2⟩:=h
  subst e
  cases b with
  | non=>rw [jr] at h'; cases h'
  | bl _=>rw [jq] at h'; cases h'
  | int _=>rw [eR] at h'; cases h'
  | str _=>rw [eQ] at h'; cases h'
  | tup ys =>
   rw [cf] at h'
   obtain⟨a',vs',e,h1',h2'⟩:=h'
   cases e
   have ev:=I.tuple_inj (nR.of h1) (nR.of h1')
   subst ev
   rw [Inv.denL_inj I (by first | rw [<- ce]; exact pa | rw [<- dh]; exact pa) (by first | rw [<- ce]; exact pb | rw [<- dh]; exact pb) h2 h2']
  | lst _=>rw [cg] at h'; obtain⟨_,_,e,h1',_⟩:=h'; cases e; exact(Inv.not_both I (nR.of h1) h1').elim
  | dct _ _=>exact(fF pb).elim
  | obj _ _ _=>exact(e8 pb).elim
  | exc _ _ _=>exact(fD pb).elim
 | .lst xs,b,v,pa,pb,h,h'=>by
  rw [cg] at h
  obtain⟨a,vs,e,h1,h2⟩:=h
  subst e
  cases b with
  | non=>rw [jr] at h'; cases h'
  | bl _=>rw [jq] at h'; cases h'
  | int _=>rw [eR] at h'; cases h'
  | str _=>rw [eQ] at h'; cases h'
  | lst ys =>
   rw [cg] at h'
   obtain⟨a',vs',e,h1',h2'⟩:=h'
   cases e
   have ev:=I.list_inj h1 h1'
   subst ev
   rw [Inv.denL_inj I (by first | rw [<- ce]; exact pa | rw [<- dh]; exact pa) (by first | rw [<- ce]; exact pb | rw [<- dh]; exact pb) h2 h2']
  | tup _=>rw [cf] at h'; obtain⟨_,_,e,h1',_⟩:=h'; cases e; exact(Inv.not_both I (nR.of h1') h1).elim
  | dct _ _=>exact(fF pb).elim
  | obj _ _ _=>exact(e8 pb).elim
  | exc _ _ _=>exact(fD pb).elim
 | .dct _ _,_,_,pa,_,_,_=>(fF pa).elim
 | .obj _ _ _,_,_,pa,_,_,_=>(e8 pa).elim
 | .exc _ _ _,_,_,pa,_,_,_=>(fD pa).elim
theorem Inv.denL_inj (I:Inv X pins σ H s):∀ {as bs:List D} {vs:List V},fX as=true->fX bs=true->aZ X.K H as vs->aZ X.K H bs vs->as=bs
 | [],bs,vs,pa,pb,h,h'=>by
  rw [bZ] at h; subst h
  cases bs with
  | nil=>rfl
  | cons b bs=>rw [bx] at h'; obtain⟨_,_,e,_⟩:=h'; cases e
 | a::as,bs,vs,pa,pb,h,h'=>by
  rw [bx] at h
  obtain⟨v,r,e,h1,h2⟩:=h
  subst e
  cases bs with
  | nil=>rw [bZ] at h'; cases h'
  | cons b bs =>
   rw [bx] at h'
   obtain⟨v',r',e,h1',h2'⟩:=h'
   cases e
   unfold fX at pa pb
   rw [JZ] at pa pb
   rw [Inv.den_inj I pa.1 pb.1 h1 h1',Inv.denL_inj I pa.2 pb.2 h2 h2']
end

def kO:D->Option V
 | .non=>some .non
 | .bl b=>some (.bl b)
 | .int i=>some (.int i)
 | .str x=>some (.str x)
 | _=>none
theorem m9 {K:Lj} {d:D} {v x:V} (h:kO d=some x) (hd:cm K H d v):v=x/\yX x=true:=by
 cases d with
 | non=>cases h; exact⟨jr.mp hd,rfl⟩
 | bl b=>cases h; exact⟨jq.mp hd,rfl⟩
 | int i=>cases h; exact⟨eR.mp hd,rfl⟩
 | str y=>cases h; exact⟨eQ.mp hd,rfl⟩
 | _=>cases h
theorem BA {a b:D} {x y:V} (ha:kO a=some x) (hb:kO b=some y):HW x y=pyEq a b:=by
 cases a <;> cases ha <;> cases b <;> cases hb <;> (unfold pyEq HW; rfl)
theorem uB {a:D} {x:V} (n:Nat) (h:kO a=some x):ck n a=true:=by
 cases a with
 | tup _=>cases h
 | lst _=>cases h
 | dct _ _=>cases h
 | obj _ _ _=>cases h
 | exc _ _ _=>cases h
 | _=>cases n <;> rfl
theorem uh {a:D} (h:kO a=none):ck 0 a=false:=by
 cases a with
 | tup _=>rfl
 | lst _=>rfl
 | dct _ _=>rfl
 | obj _ _ _=>rfl
 | exc _ _ _=>rfl
 | _=>cases h
theorem in1_units (A:MK):A.in1.units=A.units+1:=rfl
theorem j7 {vs:List V} {us:List MC} (r:Vals vs us) {j:Nat} (h:j < us.toArray.size):∃ x,vs[j]?=some x/\RelV x us.toArray[j]:=by
 have hj:j < us.length:=by simpa using h
 have hl:=r.length
 have hv:j < vs.length:=by omega
 obtain⟨u,e,ru⟩:=r.get (i:=j) (x:=vs[j]) (by simp [hv])
 refine⟨vs[j],by simp [hv],?_⟩
 have e2:us.toArray[j]=u:=by
  rw [J8 hj] at e
  simpa using Option.some.inj e
 rw [e2]; exact ru
theorem kh {K:Lj} {ds:List D} {vs:List V} (h:aZ K H ds vs) {j:Nat} {x:V} (e:vs[j]?=some x):∃ d,ds[j]?=some d/\cm K H d x:=by
 have hj:j < vs.length:=(List.getElem?_eq_some_iff.mp e).1
 have hl:=h.length
 have hd:j < ds.length:=by omega
 obtain⟨v,e1,e2⟩:=h.get (i:=j) (d:=ds[j]) (by simp [hd])
 rw [e] at e1; cases e1
 exact⟨ds[j],by simp [hd],e2⟩

theorem vi (I:Inv X pins σ H s):∀ (n:Nat) (a b:D) (x y:V) (u v:MC) (A:MK),pl a=true->pl b=true->(ck n a=true\/ck n b=true)->cm X.K H a x->cm X.K H b y->RelV x u->RelV y v->A.units+n < Nc->EqAt A s u v (pyEq a b):=by
 intro n
 induction n with
 | zero =>
  intro a b x y u v A pa pb hd ha hb ru rv hA
  have hu:A.units < Nc:=hA
  cases ha':kO a with
  | some x' =>
   obtain⟨e,f⟩:=m9 ha' ha
   subst e
   cases hb':kO b with
   | some y' =>
    obtain⟨e,f'⟩:=m9 hb' hb
    subst e
    rw [<- BA ha' hb']
    exact DM ru rv f f'
   | none =>
    cases b with
    | tup ys =>
     rw [cf] at hb
     obtain⟨p,vs,e,h1,h2⟩:=hb
     subst e
     cases rv
     obtain⟨its,_,ht,_⟩:=I.tuple (nR.of h1)
     have ht':s.heap.IsTuple p its.toArray:=ht
     cases a with
     | non=>cases ha'; cases ru; unfold pyEq; exact .none_tuple ht' hu
     | bl z=>cases ha'; cases ru; unfold pyEq; exact .bool_tuple z ht' hu
     | int z=>cases ha'; obtain⟨t,rfl⟩:=ru; unfold pyEq; exact .int_tuple z t ht' hu
     | str z=>cases ha'; obtain⟨t,rfl⟩:=ru; unfold pyEq; exact .str_tuple z t ht' hu
     | _=>cases ha'
    | lst ys =>
     rw [cg] at hb
     obtain⟨p,vs,e,h1,h2⟩:=hb
     subst e
     cases rv
     obtain⟨its,_,ht,_⟩:=I.list h1
     have ht':s.heap.IsList p its.toArray:=ht.isList
     cases a with
     | non=>cases ha'; cases ru; unfold pyEq; exact .none_list ht' hu
     | bl z=>cases ha'; cases ru; unfold pyEq; exact .bool_list z ht' hu
     | int z=>cases ha'; obtain⟨t,rfl⟩:=ru; unfold pyEq; exact .int_list z t ht' hu
     | str z=>cases ha'; obtain⟨t,rfl⟩:=ru; unfold pyEq; exact .str_list z t ht' hu
     | _=>cases ha'
    | dct _ _=>exact(fF pb).elim
    | obj _ _ _=>exact(e8 pb).elim
    | exc _ _ _=>exact(fD pb).elim
    | _=>cases hb'
  | none =>
   have hdb:ck 0 b=true:=by
    rcases hd with hd | hd
    ·rw [uh ha'] at hd; cases hd
    ·exact hd
   cases hb':kO b with
   | none=>rw [uh hb'] at hdb; cases hdb
   | some y' =>
    obtain⟨e,f'⟩:=m9 hb' hb
    subst e
    cases a with
    | tup xs =>
     rw [cf] at ha
     obtain⟨p,vs,e,h1,h2⟩:=ha
     subst e
     cases ru
     obtain⟨its,_,ht,_⟩:=I.tuple (nR.of h1)
     have ht':s.heap.IsTuple p its.toArray:=ht
     cases b with
     | non=>cases hb'; cases rv; unfold pyEq; exact .tuple_none ht' hu
     | bl z=>cases hb'; cases rv; unfold pyEq; exact .tuple_bool z ht' hu
     | int z=>cases hb'; obtain⟨t,rfl⟩:=rv; unfold pyEq; exact .tuple_int z t ht' hu
     | str z=>cases hb'; obtain⟨t,rfl⟩:=rv; unfold pyEq; exact .tuple_str z t ht' hu
     | _=>cases hb'
    | lst xs =>
     rw [cg] at ha
     obtain⟨p,vs,e,h1,h2⟩:=ha
     subst e
     cases ru
     obtain⟨its,_,ht,_⟩:=I.list h1
     have ht':s.heap.IsList p its.toArray:=ht.isList
     cases b with
     | non=>cases hb'; cases rv; unfold pyEq; exact .list_none ht' hu
     | bl z=>cases hb'; cases rv; unfold pyEq; exact .list_bool z ht' hu
     | int z=>cases hb'; obtain⟨t,rfl⟩:=rv; unfold pyEq; exact .list_int z t ht' hu
     | str z=>cases hb'; obtain⟨t,rfl⟩:=rv; unfold pyEq; exact .list_str z t ht' hu
     | _=>cases hb'
    | dct _ _=>exact(fF pa).elim
    | obj _ _ _=>exact(e8 pa).elim
    | exc _ _ _=>exact(fD pa).elim
    | _=>cases ha'
 | succ n ih =>
  intro a b x y u v A pa pb hd ha hb ru rv hA
  have hu:A.units < Nc:=by omega
  have flatWay:(∀ xs ys,¬ (a=.tup xs/\b=.tup ys))->(∀ xs ys,¬ (a=.lst xs/\b=.lst ys))->EqAt A s u v (pyEq a b):=by
   intro n1 n2
   cases ha':kO a with
   | some x'=>exact ih a b x y u v A pa pb (.inl (uB n ha')) ha hb ru rv ‹0›
   | none =>
    cases hb':kO b with
    | some y'=>exact ih a b x y u v A pa pb (.inr (uB n hb')) ha hb ru rv ‹0›
    | none =>
     cases a with
     | tup xs =>
      cases b with
      | tup ys=>exact absurd ⟨rfl,rfl⟩ (n1 xs ys)
      | lst ys =>
       rw [cf] at ha
       obtain⟨p,vs,e,h1,h2⟩:=ha
       subst e
       rw [cg] at hb
       obtain⟨p',vs',e,h1',h2'⟩:=hb
       subst e
       cases ru
       cases rv
       obtain⟨its,_,ht,_⟩:=I.tuple (nR.of h1)
       obtain⟨its2,_,ht2,_⟩:=I.list h1'
       unfold pyEq
       exact .tuple_list (show s.heap.IsTuple p its.toArray from ht) ht2.isList hu
      | dct _ _=>exact(fF pb).elim
      | obj _ _ _=>exact(e8 pb).elim
      | exc _ _ _=>exact(fD pb).elim
      | _=>cases hb'
     | lst xs =>
      cases b with
      | lst ys=>exact absurd ⟨rfl,rfl⟩ (n2 xs ys)
      | tup ys =>
       rw [cg] at ha
       obtain⟨p,vs,e,h1,h2⟩:=ha
       subst e
       rw [cf] at hb
       obtain⟨p',vs',e,h1',h2'⟩:=hb
       subst e
       cases ru
       cases rv
       obtain⟨its,_,ht,_⟩:=I.list h1
       obtain⟨its2,_,ht2,_⟩:=I.tuple (nR.of h1')
       unfold pyEq
       exact .list_tuple ht.isList (show s.heap.IsTuple p' its2.toArray from ht2) hu
      | dct _ _=>exact(fF pb).elim
      | obj _ _ _=>exact(e8 pb).elim
      | exc _ _ _=>exact(fD pb).elim
      | _=>cases hb'
     | dct _ _=>exact(fF pa).elim
     | obj _ _ _=>exact(e8 pa).elim
     | exc _ _ _=>exact(fD pa).elim
     | _=>cases ha'
  have items:∀ (xs ys:List D) (vs vs':List V) (its its':List MC),fX xs=true->fX ys=true->(ck (n+1) (.tup xs)=true\/ck (n+1) (.tup ys)=true)->aZ X.K H xs vs->aZ X.K H ys vs'->Vals vs its->Vals vs' its' ->
    ∀ j (h1:j < its.toArray.size) (h2:j < its'.toArray.size),EqAt A.in1 s its.toArray[j] its'.toArray[j] (vB xs ys j):=by
   intro xs ys vs vs' its its' px py hdd hx hy rx ry j h1 h2
   obtain⟨w1,e1,r1⟩:=j7 rx h1
   obtain⟨w2,e2,r2⟩:=j7 ry h2
   obtain⟨d1,f1,g1⟩:=kh hx e1
   obtain⟨d2,f2,g2⟩:=kh hy e2
   have e3:vB xs ys j=pyEq d1 d2:=by unfold vB; rw [f1,f2]
   rw [e3]
   refine ih d1 d2 w1 w2 _ _ A.in1 (gW px _ (JG f1)) (gW py _ (JG f2)) ?_ g1 g2 r1 r2 (by rw [in1_units]; omega)
   rcases hdd with hdd | hdd
   ·exact .inl (List.all_eq_true.mp hdd d1 (JG f1))
   ·exact .inr (List.all_eq_true.mp hdd d2 (JG f2))
  by_cases hT:∃ xs ys,a=.tup xs/\b=.tup ys
  ·obtain⟨xs,ys,rfl,rfl⟩:=hT
   have da:=ha
   have db:=hb
   rw [cf] at ha hb
   obtain⟨p,vs,e,h1,h2⟩:=ha
   subst e
   obtain⟨p',vs',e,h1',h2'⟩:=hb
   subst e
   cases ru
   cases rv
   by_cases hp:p=p'
   ·subst hp
    have e:=Inv.den_inj I pa pb da db
    rw [e,nv]
    exact EqAt.same _
   ·obtain⟨its,rv1,ht,_⟩:=I.tuple (nR.of h1)
    obtain⟨its2,rv2,ht2,_⟩:=I.tuple (nR.of h1')
    refine EqAt.of_refs hp ?_
    have q:=RcAt.tuples (e:=vB xs ys) (show s.heap.IsTuple p its.toArray from ht) (show s.heap.IsTuple p' its2.toArray from ht2) hu (items xs ys vs vs' its its2 (by first | rw [<- ce]; exact pa | rw [<- dh]; exact pa) (by first | rw [<- ce]; exact pb | rw [<- dh]; exact pb) hd h2 h2' rv1 rv2)
    have z1:its.toArray.size=xs.length:=by rw [Jw,<- rv1.length,<- h2.length]
    have z2:its2.toArray.size=ys.length:=by rw [Jw,<- rv2.length,<- h2'.length]
    rw [z1,z2,fg] at q
    unfold pyEq
    exact q
  ·by_cases hL:∃ xs ys,a=.lst xs/\b=.lst ys
   ·obtain⟨xs,ys,rfl,rfl⟩:=hL
    have da:=ha
    have db:=hb
    rw [cg] at ha hb
    obtain⟨p,vs,e,h1,h2⟩:=ha
    subst e
    obtain⟨p',vs',e,h1',h2'⟩:=hb
    subst e
    cases ru
    cases rv
    by_cases hp:p=p'
    ·subst hp
     have e:=Inv.den_inj I pa pb da db
     rw [e,nv]
     exact EqAt.same _
    ·obtain⟨its,rv1,ht,_⟩:=I.list h1
     obtain⟨its2,rv2,ht2,_⟩:=I.list h1'
     refine EqAt.of_refs hp ?_
     have z1:its.toArray.size=xs.length:=by rw [Jw,<- rv1.length,<- h2.length]
     have z2:its2.toArray.size=ys.length:=by rw [Jw,<- rv2.length,<- h2'.length]
     have er:=fg xs ys
     by_cases hz:its.toArray.size=its2.toArray.size
     ·have q:=RcAt.lists (e:=vB xs ys) ht.isList ht2.isList hz hu (items xs ys vs vs' its its2 (by first | rw [<- ce]; exact pa | rw [<- dh]; exact pa) (by first | rw [<- ce]; exact pb | rw [<- dh]; exact pb) hd h2 h2' rv1 rv2)
      rw [z1] at q
      have hz':xs.length=ys.length:=by omega
      rw [<- hz',J9] at er
      simp only [beq_self_eq_true,Ka] at er
      rw [er] at q
      unfold pyEq
      exact q
     ·have hne:(its.toArray.size != its2.toArray.size)=true:=by simpa using hz
      have q:=RcAt.lists_lengths (A:=A) ht.isList ht2.isList hne hu
      have hz':(xs.length==ys.length)=false:=by
       rw [z1,z2] at hz
       simpa using hz
      rw [hz',Kb] at er
      unfold pyEq
      rw [<- er]
      exact q
   ·exact flatWay (fun xs ys z=>hT ⟨xs,ys,z⟩) fun xs ys z=>hL ⟨xs,ys,z⟩
end
end TG
namespace TG
open PySem PySem.Spec L2
variable [aT]
open PySem.SeqAt (EqAt RcAt RcNeAt)

section
variable {X:Cx} {pins:List (MF×Obj)} {σ:St} {H:Hp} {s:ML}
theorem oE (I:Inv X pins σ H s) {n:Nat} {xs ys:List D} {vs vs':List V} {its its':List MC} {A:MK} (px:fX xs=true) (py:fX ys=true) (hdd:ck (n+1) (.tup xs)=true\/ck (n+1) (.tup ys)=true) (hx:aZ X.K H xs vs) (hy:aZ X.K H ys vs') (rx:Vals vs its) (ry:Vals vs' its') (hA:A.units+n < Nc) :
  ∀ j (h1:j < its.toArray.size) (h2:j < its'.toArray.size),EqAt A s its.toArray[j] its'.toArray[j] (vB xs ys j):=by
 intro j h1 h2
 obtain⟨w1,e1,r1⟩:=j7 rx h1
 obtain⟨w2,e2,r2⟩:=j7 ry h2
 obtain⟨d1,f1,g1⟩:=kh hx e1
 obtain⟨d2,f2,g2⟩:=kh hy e2
 have e3:vB xs ys j=pyEq d1 d2:=by unfold vB; rw [f1,f2]
 rw [e3]
 refine vi I n d1 d2 w1 w2 _ _ A (gW px _ (JG f1)) (gW py _ (JG f2)) ?_ g1 g2 r1 r2 hA
 rcases hdd with hdd | hdd
 ·exact .inl (List.all_eq_true.mp hdd d1 (JG f1))
 ·exact .inr (List.all_eq_true.mp hdd d2 (JG f2))
inductive Way (I:Inv X pins σ H s):D->MC->Prop where
 | non:Way I .non .none
 | bl (b:Bool):Way I (.bl b) (.bool b)
 | int (i:Int) (t:Tok):Way I (.int i) (.int i t)
 | str (x:Str) (t:Tok):Way I (.str x) (.str x t)
 | tup {xs:List D} {p:MF} {vs:List V} {its:List MC} (h:aZ X.K H xs vs) (r:Vals vs its) (t:s.heap.IsTuple p its.toArray):Way I (.tup xs) (.ref p)
 | lst {xs:List D} {p:MF} {vs:List V} {its:List MC} (h:aZ X.K H xs vs) (r:Vals vs its) (t:s.heap.IsList p its.toArray):Way I (.lst xs) (.ref p)
def top:D->Bool
 | .dct _ _=>false
 | .obj _ _ _=>false
 | .exc _ _ _=>false
 | _=>true
theorem eX {d:D} (h:pl d=true):top d=true:=by
 cases d with
 | dct _ _=>exact(fF h).elim
 | obj _ _ _=>exact(e8 h).elim
 | exc _ _ _=>exact(fD h).elim
 | _=>rfl
theorem eK (I:Inv X pins σ H s) {d:D} {v:V} {u:MC} (pd:top d=true) (h:cm X.K H d v) (r:RelV v u):Way I d u:=by
 cases d with
 | non=>rw [jr] at h; subst h; cases r; exact .non
 | bl b=>rw [jq] at h; subst h; cases r; exact .bl b
 | int i=>rw [eR] at h; subst h; obtain⟨t,rfl⟩:=r; exact .int i t
 | str x=>rw [eQ] at h; subst h; obtain⟨t,rfl⟩:=r; exact .str x t
 | tup xs =>
  rw [cf] at h
  obtain⟨p,vs,e,h1,h2⟩:=h
  subst e
  cases r
  obtain⟨its,rv,ht,_⟩:=I.tuple (nR.of h1)
  exact .tup h2 rv ht
 | lst xs =>
  rw [cg] at h
  obtain⟨p,vs,e,h1,h2⟩:=h
  subst e
  cases r
  obtain⟨its,rv,ht,_⟩:=I.list h1
  exact .lst h2 rv ht.isList
 | dct _ _=>cases pd
 | obj _ _ _=>cases pd
 | exc _ _ _=>cases pd
theorem Dt (I:Inv X pins σ H s) {n:Nat} {a b:D} {x y:V} {u v:MC} {A:MK} (pa:pl a=true) (pb:pl b=true) (hd:ck (n+1) a=true\/ck (n+1) b=true) (ha:cm X.K H a x) (hb:cm X.K H b y) (ru:RelV x u) (rv:RelV y v) (hA:A.units+n+1 < Nc):RcAt A s u v (pyEq a b):=by
 have hu:A.units < Nc:=by omega
 cases eK I (eX pa) ha ru with
 | non=>cases eK I (eX pb) hb rv with
  | non=>unfold pyEq; exact .none_none
  | bl b=>unfold pyEq; exact .none_bool b
  | int i t=>unfold pyEq; exact .none_int i t
  | str x t=>unfold pyEq; exact .none_str x t
  | tup h r t=>unfold pyEq; exact .none_tuple t hu
  | lst h r t=>unfold pyEq; exact .none_list t hu
 | bl z=>cases eK I (eX pb) hb rv with
  | non=>unfold pyEq; exact .bool_none z
  | bl b=>unfold pyEq; exact .bool_bool z b
  | int i t=>unfold pyEq; exact .bool_int z i t
  | str x t=>unfold pyEq; exact .bool_str z x t
  | tup h r t=>unfold pyEq; exact .bool_tuple z t hu
  | lst h r t=>unfold pyEq; exact .bool_list z t hu
 | int z tz=>cases eK I (eX pb) hb rv with
  | non=>unfold pyEq; exact .int_none z tz
  | bl b=>unfold pyEq; exact .int_bool z tz b
  | int i t=>unfold pyEq; exact .int_int z tz i t
  | str x t=>unfold pyEq; exact .int_str z tz x t
  | tup h r t=>unfold pyEq; exact .int_tuple z tz t hu
  | lst h r t=>unfold pyEq; exact .int_list z tz t hu
 | str z tz=>cases eK I (eX pb) hb rv with
  | non=>unfold pyEq; exact .str_none z tz
  | bl b=>unfold pyEq; exact .str_bool z tz b
  | int i t=>unfold pyEq; exact .str_int z tz i t
  | str x t=>unfold pyEq; exact .str_str z tz x t
  | tup h r t=>unfold pyEq; exact .str_tuple z tz t hu
  | lst h r t=>unfold pyEq; exact .str_list z tz t hu
 | @tup xs p vs its h1 r1 t1=>cases eK I (eX pb) hb rv with
  | non=>unfold pyEq; exact .tuple_none t1 hu
  | bl b=>unfold pyEq; exact .tuple_bool b t1 hu
  | int i t=>unfold pyEq; exact .tuple_int i t t1 hu
  | str x t=>unfold pyEq; exact .tuple_str x t t1 hu
  | @tup ys p' vs' its' h2 r2 t2 =>
   have q:=RcAt.tuples (e:=vB xs ys) t1 t2 hu (oE (A:=A.in1) I (by first | rw [<- ce]; exact pa | rw [<- dh]; exact pa) (by first | rw [<- ce]; exact pb | rw [<- dh]; exact pb) hd h1 h2 r1 r2 (by rw [in1_units]; omega))
   have z1:its.toArray.size=xs.length:=by rw [Jw,<- r1.length,<- h1.length]
   have z2:its'.toArray.size=ys.length:=by rw [Jw,<- r2.length,<- h2.length]
   rw [z1,z2,fg] at q
   unfold pyEq; exact q
  | lst h r t=>unfold pyEq; exact .tuple_list t1 t hu
 | @lst xs p vs its h1 r1 t1=>cases eK I (eX pb) hb rv with
  | non=>unfold pyEq; exact .list_none t1 hu
  | bl b=>unfold pyEq; exact .list_bool b t1 hu
  | int i t=>unfold pyEq; exact .list_int i t t1 hu
  | str x t=>unfold pyEq; exact .list_str x t t1 hu
  | tup h r t=>unfold pyEq; exact .list_tuple t1 t hu
  | @lst ys p' vs' its' h2 r2 t2 =>
   have z1:its.toArray.size=xs.length:=by rw [Jw,<- r1.length,<- h1.length]
   have z2:its'.toArray.size=ys.length:=by rw [Jw,<- r2.length,<- h2.length]
   have er:=fg xs ys
   by_cases hz:its.toArray.size=its'.toArray.size
   ·have q:=RcAt.lists (e:=vB xs ys) t1 t2 hz hu (oE (A:=A.in1) I (by first | rw [<- ce]; exact pa | rw [<- dh]; exact pa) (by first | rw [<- ce]; exact pb | rw [<- dh]; exact pb) hd h1 h2 r1 r2 (by rw [in1_units]; omega))
    rw [z1] at q
    have hz':xs.length=ys.length:=by omega
    rw [<- hz',J9] at er
    simp only [beq_self_eq_true,Ka] at er
    rw [er] at q
    unfold pyEq; exact q
   ·have q:=RcAt.lists_lengths (A:=A) t1 t2 (by simpa using hz) hu
    have hz':(xs.length==ys.length)=false:=by
     rw [z1,z2] at hz
     simpa using hz
    rw [hz',Kb] at er
    unfold pyEq
    rw [<- er]; exact q
theorem yL (I:Inv X pins σ H s) {n:Nat} {a b:D} {x y:V} {u v:MC} {A:MK} (pa:pl a=true) (pb:pl b=true) (hd:ck (n+1) a=true\/ck (n+1) b=true) (ha:cm X.K H a x) (hb:cm X.K H b y) (ru:RelV x u) (rv:RelV y v) (hA:A.units+n+1 < Nc):RcNeAt A s u v (!pyEq a b):=by
 have hu:A.units < Nc:=by omega
 cases eK I (eX pa) ha ru with
 | non=>cases eK I (eX pb) hb rv with
  | non=>unfold pyEq; exact .none_none
  | bl b=>unfold pyEq; exact .none_bool b
  | int i t=>unfold pyEq; exact .none_int i t
  | str x t=>unfold pyEq; exact .none_str x t
  | tup h r t=>unfold pyEq; exact .none_tuple t hu
  | lst h r t=>unfold pyEq; exact .none_list t hu
 | bl z=>cases eK I (eX pb) hb rv with
  | non=>unfold pyEq; exact .bool_none z
  | bl b=>unfold pyEq; exact .bool_bool z b
  | int i t=>unfold pyEq; exact .bool_int z i t
  | str x t=>unfold pyEq; exact .bool_str z x t
  | tup h r t=>unfold pyEq; exact .bool_tuple z t hu
  | lst h r t=>unfold pyEq; exact .bool_list z t hu
 | int z tz=>cases eK I (eX pb) hb rv with
  | non=>unfold pyEq; exact .int_none z tz
  | bl b=>unfold pyEq; exact .int_bool z tz b
  | int i t=>unfold pyEq; exact .int_int z tz i t
  | str x t=>unfold pyEq; exact .int_str z tz x t
  | tup h r t=>unfold pyEq; exact .int_tuple z tz t hu
  | lst h r t=>unfold pyEq; exact .int_list z tz t hu
 | str z tz=>cases eK I (eX pb) hb rv with
  | non=>unfold pyEq; exact .str_none z tz
  | bl b=>unfold pyEq; exact .str_bool z tz b
  | int i t=>unfold pyEq; exact .str_int z tz i t
  | str x t=>unfold pyEq; exact .str_str z tz x t
  | tup h r t=>unfold pyEq; exact .str_tuple z tz t hu
  | lst h r t=>unfold pyEq; exact .str_list z tz t hu
 | @tup xs p vs its h1 r1 t1=>cases eK I (eX pb) hb rv with
  | non=>unfold pyEq; exact .tuple_none t1 hu
  | bl b=>unfold pyEq; exact .tuple_bool b t1 hu
  | int i t=>unfold pyEq; exact .tuple_int i t t1 hu
  | str x t=>unfold pyEq; exact .tuple_str x t t1 hu
  | @tup ys p' vs' its' h2 r2 t2 =>
   have q:=RcNeAt.tuples (e:=vB xs ys) t1 t2 hu (oE (A:=A.in1) I (by first | rw [<- ce]; exact pa | rw [<- dh]; exact pa) (by first | rw [<- ce]; exact pb | rw [<- dh]; exact pb) hd h1 h2 r1 r2 (by rw [in1_units]; omega))
   have z1:its.toArray.size=xs.length:=by rw [Jw,<- r1.length,<- h1.length]
   have z2:its'.toArray.size=ys.length:=by rw [Jw,<- r2.length,<- h2.length]
   rw [z1,z2,fg] at q
   unfold pyEq; exact q
  | lst h r t=>unfold pyEq; exact .tuple_list t1 t hu
 | @lst xs p vs its h1 r1 t1=>cases eK I (eX pb) hb rv with
  | non=>unfold pyEq; exact .list_none t1 hu
  | bl b=>unfold pyEq; exact .list_bool b t1 hu
  | int i t=>unfold pyEq; exact .list_int i t t1 hu
  | str x t=>unfold pyEq; exact .list_str x t t1 hu
  | tup h r t=>unfold pyEq; exact .list_tuple t1 t hu
  | @lst ys p' vs' its' h2 r2 t2 =>
   have z1:its.toArray.size=xs.length:=by rw [Jw,<- r1.length,<- h1.length]
   have z2:its'.toArray.size=ys.length:=by rw [Jw,<- r2.length,<- h2.length]
   have er:=fg xs ys
   by_cases hz:its.toArray.size=its'.toArray.size
   ·have q:=RcNeAt.lists (e:=vB xs ys) t1 t2 hz hu (oE (A:=A.in1) I (by first | rw [<- ce]; exact pa | rw [<- dh]; exact pa) (by first | rw [<- ce]; exact pb | rw [<- dh]; exact pb) hd h1 h2 r1 r2 (by rw [in1_units]; omega))
    rw [z1] at q
    have hz':xs.length=ys.length:=by omega
    rw [<- hz',J9] at er
    simp only [beq_self_eq_true,Ka] at er
    rw [er] at q
    unfold pyEq; exact q
   ·have q:=RcNeAt.lists_lengths (A:=A) t1 t2 (by simpa using hz) hu
    have hz':(xs.length==ys.length)=false:=by
     rw [z1,z2] at hz
     simpa using hz
    rw [hz',Kb] at er
    unfold pyEq
    rw [<- er]; exact q
end

section
variable {X:Cx}
def rD (K:Lj) (g:D->D->Option D):R2:=fun x y H Q=>∃ O a b d,dt H O/\cm K (hid H O) a x/\cm K (hid H O) b y/\g a b=some d/\∀ v H',bC H H'->cm K (hid H' O) d v->Q v H'
theorem aq {K:Lj} {g:D->D->Option D}:df K (rD K g) g:=fun a b d x y O H Q hO hg ha hb q=>⟨O,a,b,d,hO,ha,hb,hg,q⟩
theorem lU {f : MC -> MC -> Sem MC} {g : D -> D -> Option D} (h : ∀ (pins : List (MF × Obj)) (s : ML) (σ : St) (H : Hp) (a b d : D) (x y : V) (u v : MC), Inv X pins σ H s -> cm X.K H a x -> cm X.K H b y -> RelV x u -> RelV y v -> g a b = some d ->
      ∃ c,d=.bl c/\∀ (Q:MC->ML->Prop),Q (.bool c) s->MN (model X.prog X.w) X.A (f u v) Q X.xe s):jw X f (rD X.K g):=by
  intro pins s σ H x y u v Q I rx ry ⟨O,a,b,d,hO,ha,hb,hg,q⟩
  obtain⟨c,rfl,hq⟩:=h pins s σ H a b d x y u v I (ha.mono (aM H O)) (hb.mono (aM H O)) rx ry hg
  exact hq _ ⟨.bl c,H,I,rfl,q _ H (bC.refl H) (jq.mpr rfl)⟩
def eI (a b:D):Option D:=if (pl a && pl b) && (ck 8 a || ck 8 b) then some (.bl (pyEq a b)) else none
def pj (a b:D):Option D:=if (pl a && pl b) && (ck 8 a || ck 8 b) then some (.bl (!pyEq a b)) else none
theorem bS (hu:X.A.units+64 < Nc):jw X (M4 .Eq) (rD X.K eI):=lU fun pins s σ H a b d x y u v I ha hb ru rv hg=>by
 obtain⟨h1,h2⟩:=bD hg
 subst h2
 rw [JZ,JZ,Kc] at h1
 exact⟨_,rfl,fun Q q=>Dt (n:=7) (A:=X.A) I h1.1.1 h1.1.2 h1.2 ha hb ru rv ‹0› X.prog X.w X.xe Q q⟩
theorem gS (hu:X.A.units+64 < Nc):jw X (M4 .NotEq) (rD X.K pj):=lU fun pins s σ H a b d x y u v I ha hb ru rv hg=>by
 obtain⟨h1,h2⟩:=bD hg
 subst h2
 rw [JZ,JZ,Kc] at h1
 exact⟨_,rfl,fun Q q=>yL (n:=7) (A:=X.A) I h1.1.1 h1.1.2 h1.2 ha hb ru rv ‹0› X.prog X.w X.xe Q q⟩

def inD (x:D) (ys:List D):Bool:=ys.any fun y=>pyEq y x
def xT (x y:D):Option D:=match y with
 | .tup ys=>if (pl x && fX ys) && ck 8 x then some (.bl (inD x ys)) else none
 | .lst ys=>if (pl x && fX ys) && ck 8 x then some (.bl (inD x ys)) else none
 | _=>none
def jo (x y:D):Option D:=match y with
 | .tup ys=>if (pl x && fX ys) && ck 8 x then some (.bl (!inD x ys)) else none
 | .lst ys=>if (pl x && fX ys) && ck 8 x then some (.bl (!inD x ys)) else none
 | _=>none
open Classical in
theorem vL {pins:List (MF×Obj)} {σ:St} {H:Hp} {s:ML} (I:Inv X pins σ H s) {xd:D} {x:V} {u:MC} {A:MK} (px:pl xd=true) (hd:ck 8 xd=true) (hx:cm X.K H xd x) (ru:RelV x u) (hA:A.units+8 < Nc) {ys:List D} {vs:List V} {its:List MC} (py:fX ys=true) (hy:aZ X.K H ys vs) (rv:Vals vs its) :
  ∃ e:MC->Bool,(∀ y,y∈its.toArray->EqAt A s y u (e y))/\its.toArray.any e=inD xd ys:=by
 let e:MC->Bool:=fun y=>decide (∃ d w,pl d=true/\cm X.K H d w/\RelV w y/\pyEq d xd=true)
 have he:∀ d w y,pl d=true->cm X.K H d w->RelV w y->e y=pyEq d xd:=fun d w y h0 h1 h2=>by
  cases hq:pyEq d xd with
  | true=>exact decide_eq_true ⟨d,w,h0,h1,h2,hq⟩
  | false =>
   refine decide_eq_false ?_
   rintro⟨d',w',g0,g1,g2,g3⟩
   have ew:=RelV.inj h2 g2
   subst ew
   rw [Inv.den_inj I h0 g0 h1 g1,g3] at hq
   cases hq
 refine⟨e,fun y hy'=>?_,?_⟩
 ·have hm:y∈its:=by simpa using hy'
  obtain⟨j,hj,rfl⟩:=Ke hm
  obtain⟨w,e1,r1⟩:=j7 rv (j:=j) (by simpa using hj)
  obtain⟨d,f1,g1⟩:=kh hy e1
  have r1':RelV w its[j]:=by simpa using r1
  have pd:=gW py _ (JG f1)
  rw [he d w _ pd g1 r1']
  exact vi I 8 d xd w x _ u A pd px (.inr hd) g1 hx r1' ru hA
 ·unfold inD
  have go:∀ (ys:List D) (vs:List V) (its:List MC),fX ys=true->aZ X.K H ys vs->Vals vs its->its.any e=ys.any fun y=>pyEq y xd:=by
   intro ys
   induction ys with
   | nil =>
    intro vs its py h r
    rw [bZ] at h
    subst h
    cases r
    rfl
   | cons y ys ih =>
    intro vs its py h r
    unfold fX at py
    rw [JZ] at py
    rw [bx] at h
    obtain⟨v,r',e1,h1,h2⟩:=h
    subst e1
    cases r with
    | cons q1 q2=>rw [JQ,JQ,he y v _ py.1 h1 q1,ih _ _ py.2 h2 q2]
  rw [List.any_toArray]
  exact go ys vs its py hy rv
theorem pJ (hu:X.A.units+64 < Nc):jw X (M4 .In) (rD X.K xT):=lU fun pins s σ H a b d x y u v I ha hb ru rv hg=>by
 cases b with
 | tup ys =>
  obtain⟨h1,h2⟩:=bD hg
  subst h2
  rw [JZ,JZ] at h1
  rw [cf] at hb
  obtain⟨p,vs,e,g1,g2⟩:=hb
  subst e
  cases rv
  obtain⟨its,r,t,_⟩:=I.tuple (nR.of g1)
  obtain⟨e,he,ea⟩:=vL (A:=X.A.in1) I h1.1.1 h1.2 ha ru (by rw [in1_units]; omega) h1.1.2 g2 r
  exact⟨_,rfl,fun Q q=>SeqAt.in_tupleAt e (show s.heap.IsTuple p its.toArray from t) he (by rw [ea]; exact q)⟩
 | lst ys =>
  obtain⟨h1,h2⟩:=bD hg
  subst h2
  rw [JZ,JZ] at h1
  rw [cg] at hb
  obtain⟨p,vs,e,g1,g2⟩:=hb
  subst e
  cases rv
  obtain⟨its,r,t,_⟩:=I.list g1
  obtain⟨e,he,ea⟩:=vL (A:=X.A.in1) I h1.1.1 h1.2 ha ru (by rw [in1_units]; omega) h1.1.2 g2 r
  exact⟨_,rfl,fun Q q=>SeqAt.in_listAt e t.isList he (by rw [ea]; exact q)⟩
 | _=>cases hg
theorem mF (hu:X.A.units+64 < Nc):jw X (M4 .NotIn) (rD X.K jo):=lU fun pins s σ H a b d x y u v I ha hb ru rv hg=>by
 cases b with
 | tup ys =>
  obtain⟨h1,h2⟩:=bD hg
  subst h2
  rw [JZ,JZ] at h1
  rw [cf] at hb
  obtain⟨p,vs,e,g1,g2⟩:=hb
  subst e
  cases rv
  obtain⟨its,r,t,_⟩:=I.tuple (nR.of g1)
  obtain⟨e,he,ea⟩:=vL (A:=X.A.in1) I h1.1.1 h1.2 ha ru (by rw [in1_units]; omega) h1.1.2 g2 r
  exact⟨_,rfl,fun Q q=>SeqAt.notIn_tupleAt e (show s.heap.IsTuple p its.toArray from t) he (by rw [ea]; exact q)⟩
 | lst ys =>
  obtain⟨h1,h2⟩:=bD hg
  subst h2
  rw [JZ,JZ] at h1
  rw [cg] at hb
  obtain⟨p,vs,e,g1,g2⟩:=hb
  subst e
  cases rv
  obtain⟨its,r,t,_⟩:=I.list g1
  obtain⟨e,he,ea⟩:=vL (A:=X.A.in1) I h1.1.1 h1.2 ha ru (by rw [in1_units]; omega) h1.1.2 g2 r
  exact⟨_,rfl,fun Q q=>SeqAt.notIn_listAt e t.isList he (by rw [ea]; exact q)⟩
 | _=>cases hg

def Cd (p:Int->Int->D) (a b:D):Option D:=match a,b with
 | .int i,.int j=>some (p i j)
 | _,_=>none
def Ja:=Cd fun i j=>.bl (decide (i < j))
def IP:=Cd fun i j=>.bl (decide (i<=j))
def C9:=Cd fun i j=>.bl (decide (j < i))
def IZ:=Cd fun i j=>.bl (decide (j<=i))
theorem iE {K:Lj} {g:Int->Int->Bool}:df K (yd fun i j=>.bl (g i j)) (Cd fun i j=>.bl (g i j)):=fun a b d x y O H Q hO hg ha hb q=>by
 cases a with
 | int i =>
  cases b with
  | int j=>cases hg; exact⟨i,j,eR.mp ha,eR.mp hb,q _ H (bC.refl H) (jq.mpr rfl)⟩
  | _=>cases hg
 | _=>cases hg

theorem pD {K:Lj} {g:Int->Int->Int}:df K (yd fun i j=>.int (g i j)) (Cd fun i j=>.int (g i j)):=fun a b d x y O H Q hO hg ha hb q=>by
 cases a with
 | int i =>
  cases b with
  | int j=>cases hg; exact⟨i,j,eR.mp ha,eR.mp hb,q _ H (bC.refl H) (eR.mpr rfl)⟩
  | _=>cases hg
 | _=>cases hg
def DX (c:Int->Int->Bool) (p:Int->Int->Int) (a b:D):Option D:=match a,b with
 | .int i,.int j=>if c i j then some (.int (p i j)) else none
 | _,_=>none
theorem iy {K:Lj} {C:Int->Int->Prop} {c:Int->Int->Bool} {g:Int->Int->Int} (hc:∀ i j,c i j=true->C i j):df K (rI C fun i j=>.int (g i j)) (DX c g):=fun a b d x y O H Q hO hg ha hb q=>by
 cases a with
 | int i =>
  cases b with
  | int j =>
   obtain⟨h1,h2⟩:=bD hg
   subst h2
   exact⟨i,j,eR.mp ha,eR.mp hb,hc i j h1,q _ H (bC.refl H) (eR.mpr rfl)⟩
  | _=>cases hg
 | _=>cases hg
def pX:=Cd fun i j=>.int (i - j)
def lh:=DX (fun i j=>decide ((-(2 ^ 64) < i/\i < 2 ^ 64)\/(-(2 ^ 64) < j/\j < 2 ^ 64))) (·*·)
def Ce (_ j:Int):Prop:=0 < j/\j < 10 ^ 200
theorem aL:jw X (M3 .FloorDiv) (rI Ce fun i j=>.int (i / j)):=D9 fun i j _ _ _ _ _ hc q=>by
 have h1:(0:Int) < j:=hc.1
 have h2:j < 10 ^ 200:=hc.2
 refine PyProof.Rows.floordiv_int ‹0› (by rw [Jv i ‹0›]; exact q) (.inl (PyProof.noPylong_of_log2 ?_))
 have h3:j.natAbs < 10 ^ 200:=by omega
 rw [Nat.log2_lt ‹0›]
 exact Nat.lt_trans h3 (by decide +kernel)
def bT:=DX (fun _ j=>decide (0 < j/\j < 10 ^ 200)) (· / ·)
def bH:=DX (fun _ j=>decide (0 < j)) (·%·)
def ju:=DX (fun i j=>decide (0<=j/\j<=1000000/\i.natAbs < 2 ^ 64)) fun i j=>i ^ j.toNat
theorem pc {K:Lj}:df K (yd fun i j=>.int (i - j)) pX:=pD
theorem iq {K:Lj}:df K (rI DN fun i j=>.int (i*j)) lh:=iy fun i j h=>by have q:=of_decide_eq_true h; exact q
theorem bm {K:Lj}:df K (rI Ce fun i j=>.int (i / j)) bT:=iy fun i j h=>by have q:=of_decide_eq_true h; exact q
theorem aP {K:Lj}:df K (rI (fun _ j=>0 < j) fun i j=>.int (i%j)) bH:=iy fun _ _ h=>of_decide_eq_true h
theorem fZ {K:Lj}:df K (rI EK fun i j=>.int (i ^ j.toNat)) ju:=iy fun i j h=>by have q:=of_decide_eq_true h; exact q
def EE (K:Lj):R2:=fun x y H Q=>∃ l b xs zs,x=.ref l/\y=.ref b/\la K H l xs/\la K H b zs/\xs.length+zs.length<=MH/\∀ p,H p=none->Q (.ref p) (upd H p (.lst (xs++zs)))
theorem v2:jw X (M3 .Add) (EE X.K):=by
 intro pins s σ H x y v u Q I rx ry h
 obtain⟨l,b,xs,zs,rfl,rfl,hH,hB,hz,q⟩:=h
 cases rx
 cases ry
 obtain⟨its,r,t1,_⟩:=I.list hH
 obtain⟨its2,r2,t2,_⟩:=I.list hB
 obtain⟨⟨c1,d1,dt1,sl1⟩,n1,ho,hc,hd,hdt⟩:=t1
 obtain⟨⟨c2,d2,dt2,sl2⟩,n2,ho2,hc2,hd2,hdt2⟩:=t2
 simp only at hc hd hdt hc2 hd2 hdt2
 subst hc hd hdt hc2 hd2 hdt2
 have z1:=r.length
 have z2:=r2.length
 refine Nk ⟨_,ho,rfl⟩ ⟨_,ho2,rfl⟩ noFill_list_add seq_list_add F.slot_list_add F.entry_list_add (F.args_list_add_2 _ _) (PyProof.Rows.list_addW l b its.toArray its2.toArray n1 n2 none none sl1 sl2 (by rw [Jw,Jw]; omega)) ⟨ho,ho2,?_⟩
 have ea:its.toArray++its2.toArray=(its++its2).toArray:=by simp
 rw [ea]
 exact⟨.ref _,_,I.lnew (t':=s.toks) (r.append r2) (by rw [JH]; omega),rfl,q _ I.fresh⟩
def CQ (K:Lj):R2:=fun x y H Q=>∃ a b xs ys,x=.ref a/\y=.ref b/\nR K H a xs/\nR K H b ys/\xs.length+ys.length<=MH /\
 (xs=[]->Q (.ref b) H)/\(xs≠[]->ys=[]->Q (.ref a) H)/\(xs≠[]->ys≠[]->∀ p,H p=none->Q (.ref p) (upd H p (.tup (xs++ys))))
theorem Al:jw X (M3 .Add) (CQ X.K):=by
 intro pins s σ H x y v u Q I rx ry h
 obtain⟨a,b,xs,ys,ex,ey,ha,hb,hz,q0,q1,q2⟩:=h
 by_cases hx:xs=[]
 ·subst ex ey
  cases rx
  cases ry
  obtain⟨its,r1,p1,_⟩:=I.tuple ha
  obtain⟨its2,r2,p2,_⟩:=I.tuple hb
  obtain⟨⟨cls,dd,data,sl⟩,ho,hc,n,hd⟩:=id p1
  obtain⟨⟨cls2,dd2,data2,sl2⟩,ho2,hc2,n2,hd2⟩:=id p2
  simp only at hc hd hc2 hd2
  subst hc hd hc2 hd2
  have e:its=[]:=r1.nil_iff.mpr hx
  exact Nk ⟨_,ho,rfl⟩ ⟨_,ho2,rfl⟩ Nm Nn F.slot_tuple_add F.entry_tuple_add (F.args_tuple_add_2 _ _)
   (PyProof.Rows.tuple_addW0 a b its.toArray its2.toArray n n2 dd dd2 sl sl2 (by rw [e]; rfl)) ⟨ho,ho2,⟨.ref b,H,I,rfl,q0 hx⟩⟩
 ·exact Av pins s σ H x y v u Q I rx ry ⟨a,b,xs,ys,ex,ey,ha,hb,hx,hz,q1 hx,q2 hx⟩
def bV (a b:D):Option D:=match a,b with
 | .int i,.int j=>some (.int (i+j))
 | .str x,.str y=>if small (x.length+y.length) then some (.str (x++y)) else none
 | .lst xs,.lst ys=>if small (xs.length+ys.length) then some (.lst (xs++ys)) else none
 | .tup xs,.tup ys=>if small (xs.length+ys.length) then some (.tup (xs++ys)) else none
 | _,_=>none
theorem aO:jw X (M3 .Add) (rD X.K bV):=by
 intro pins s σ H x y u v Q I rx ry ⟨O,a,b,d,hO,ha,hb,hg,q⟩
 cases a with
 | int i =>
  cases b with
  | int j =>
   cases hg
   exact Dh pins s σ H x y u v Q I rx ry ⟨i,j,eR.mp ha,eR.mp hb,q _ H (bC.refl H) (eR.mpr rfl)⟩
  | _=>cases hg
 | str i =>
  cases b with
  | str j =>
   obtain⟨h1,h2⟩:=bD hg
   subst h2
   exact vx pins s σ H x y u v Q I rx ry ⟨i,j,eQ.mp ha,eQ.mp hb,de h1,q _ H (bC.refl H) (eQ.mpr rfl)⟩
  | _=>cases hg
 | lst xs =>
  cases b with
  | lst ys =>
   obtain⟨h1,h2⟩:=bD hg
   subst h2
   rw [cg] at ha hb
   obtain⟨p,vs,ex,g1,g2⟩:=ha
   obtain⟨p',vs',ey,g1',g2'⟩:=hb
   refine v2 pins s σ H x y u v Q I rx ry ⟨p,p',vs,vs',ex,ey,(aM H O).seq g1,(aM H O).seq g1',?_,fun r hr=>?_⟩
   ·rw [<- g2.length,<- g2'.length]; exact de h1
   ·exact q _ _ (cn hr _) (ig hO hr (g2.append g2'))
  | _=>cases hg
 | tup xs =>
  cases b with
  | tup ys =>
   obtain⟨h1,h2⟩:=bD hg
   subst h2
   have da:=ha
   have db:=hb
   rw [cf] at ha hb
   obtain⟨p,vs,ex,g1,g2⟩:=ha
   obtain⟨p',vs',ey,g1',g2'⟩:=hb
   have l1:=g2.length
   have l2:=g2'.length
   refine Al pins s σ H x y u v Q I rx ry ⟨p,p',vs,vs',ex,ey,cu (aM H O) g1,cu (aM H O) g1',?_,fun z=>?_,fun z z'=>?_,fun z z' r hr=>?_⟩
   ·rw [<- l1,<- l2]; exact de h1
   ·have e:xs=[]:=List.length_eq_zero_iff.mp (by rw [l1,z]; rfl)
    rw [<- ey]
    refine q _ H (bC.refl H) ?_
    rw [e,Kf]; exact db
   ·have e:ys=[]:=List.length_eq_zero_iff.mp (by rw [l2,z']; rfl)
    rw [<- ex]
    refine q _ H (bC.refl H) ?_
    rw [e,JA]; exact da
   ·exact q _ _ (cn hr _) (fU hO hr (g2.append g2'))
  | _=>cases hg
 | _=>cases hg

def aw (a b:D):Option D:=match a,b with
 | .tup xs,.int i=>ml xs i
 | .lst xs,.int i=>ml xs i
 | .str x,.int i=>if small x.length then (ml x.cps.toList i).bind fun c=>some (.str ⟨#[c]⟩) else none
 | _,_=>none
theorem rZ {K:Lj} {H:Hp} {ds:List D} {vs:List V} {i:Int} {d:D} (h:aZ K H ds vs) (e:ml ds i=some d):∃ v,ml vs i=some v/\cm K H d v:=by
 unfold ml at e ⊢
 obtain⟨j,e1,e2⟩:=bind_some e
 rw [<- h.length,e1]
 exact h.get e2
theorem Hr:Eu X (rD X.K aw):=by
 intro value slice pins s σ H x y u v Q I rx ry ⟨O,a,b,d,hO,ha,hb,hg,q⟩ hsub
 cases a with
 | tup xs =>
  cases b with
  | int i =>
   rw [cf] at ha
   obtain⟨p,vs,ex,g1,g2⟩:=ha
   obtain⟨w,e1,e2⟩:=rZ g2 hg
   refine CB value slice pins s σ H x y u v Q I rx ry ?_ hsub; exact⟨p,vs,i,w,ex,eR.mp hb,cu (aM H O) g1,e1,q w H (bC.refl H) e2⟩
  | _=>cases hg
 | lst xs =>
  cases b with
  | int i =>
   rw [cg] at ha
   obtain⟨p,vs,ex,g1,g2⟩:=ha
   obtain⟨w,e1,e2⟩:=rZ g2 hg
   refine wz value slice pins s σ H x y u v Q I rx ry ?_ hsub; exact⟨p,vs,i,w,ex,eR.mp hb,(aM H O).seq g1,e1,q w H (bC.refl H) e2⟩
  | _=>cases hg
 | str z =>
  cases b with
  | int i =>
   have hg':(if small z.length then (ml z.cps.toList i).bind fun c=>some (D.str ⟨#[c]⟩) else none)=some d:=hg
   cases hs:small z.length with
   | false=>rw [hs] at hg'; cases hg'
   | true =>
    rw [hs] at hg'
    obtain⟨c,e1,e2⟩:=bind_some hg'
    cases e2
    refine CH value slice pins s σ H x y u v Q I rx ry ?_ hsub; exact⟨z,i,c,eQ.mp ha,eR.mp hb,de hs,e1,q _ H (bC.refl H) (eQ.mpr rfl)⟩
  | _=>cases hg
 | _=>cases hg
theorem Iw {a b:MO} {fa fb:FX} {pos:Pos} (ha:FE X a fa) (hb:FE X b fb) (hs:lY b):FE X (.Subscript a b pos) (f2 aw fa fb) :=
 PE.weak (BV Hr ha hb hs) (sY aq)

def cutD {α:Type} (xs:List α) (lo hi:Option Int):List α:=(xs.drop (HT.sIx xs.length 0 lo)).take (HT.sIx xs.length xs.length hi - HT.sIx xs.length 0 lo)
def sd (a:D) (lo hi:Option Int):Option D:=match a with
 | .lst xs=>some (.lst (cutD xs lo hi))
 | .tup xs=>some (.tup (cutD xs lo hi))
 | .str x=>if small x.length then some (.str ⟨(cutD x.cps.toList lo hi).toArray⟩) else none
 | _=>none
def By:av->R (Option Int):=fun _=>.ok none
def uN:D->Option (Option Int)
 | .int i=>some (some i)
 | _=>none
def EJ (f:FX):av->R (Option Int):=fun ρ=>(f ρ).bind fun d=>rO (uN d)
def Dk (f:FX) (l h:av->R (Option Int)):FX:=fun ρ=>(f ρ).bind fun a=>(l ρ).bind fun lo=>(h ρ).bind fun hi=>rO (sd a lo hi)
end
end TG
namespace TG
open PySem PySem.Spec L2
variable [aT]

def we (K:Lj) (g:List D->Option D):List V->Hp->VK->Prop:=fun xs H Q=>∃ O ds d,dt H O/\aZ K (hid H O) ds xs/\g ds=some d/\∀ v H',bC H H'->cm K (hid H' O) d v->Q v H'
theorem pN {K:Lj} {g:List D->Option D}:vR K (we K g) g:=fun ds d xs O H Q hO hg hd q=>⟨O,ds,d,hO,hd,hg,q⟩
section
variable {X:Cx} {x:Str} {p pos:Pos} {e:MO} {es:List MO} {id T:String} {g:List D->Option D} {f:av->R (List D)}
theorem EF (hc:dA X (.builtin id) (we X.K g)) (hg:Gl X x) (hm:X.mg x=none) (hv:MJ x=some (.builtin id)) (ha:FA X (e::es) f) (hn:x ≠ "__name__":=by decide) (hdb:(x==("__debug__":Str))=false:=by decide)
  (hns:(e::es).all noStar=true:=by rfl):FE X (.Call (.Name x p) (e::es) [] pos) (fL g f) :=
 PE.weak (o7 hc hg hm hv ha hn hdb (cW (JZ _ _ ▸ hns).1) (dS (JZ _ _ ▸ hns).2)) (yq pN)
theorem D4 (hc:dA X (.type T) (we X.K g)) (hg:Gl X x) (hm:X.mg x=none) (hv:MJ x=some (.type T)) (ha:FA X (e::es) f) (hn:x ≠ "__name__":=by decide) (hdb:(x==("__debug__":Str))=false:=by decide)
  (hns:(e::es).all noStar=true:=by rfl):FE X (.Call (.Name x p) (e::es) [] pos) (fL g f) :=
 PE.weak (rC hc hg hm hv ha hn hdb (cW (JZ _ _ ▸ hns).1) (dS (JZ _ _ ▸ hns).2)) (yq pN)

def cQ:List D->Option D
 | [.lst xs]=>some (.int xs.length)
 | [.tup xs]=>some (.int xs.length)
 | [.str x]=>if small x.length then some (.int x.length) else none
 | _=>none
theorem bL:dA X (.builtin "len") (we X.K cQ):=by
 intro pins s σ H xs us Q I r ⟨O,ds,d,hO,hd,hg,q⟩
 unfold cQ at hg
 split at hg
 ·rename_i ys
  cases hg
  obtain⟨v,ev,h1⟩:=hd.one
  rw [cg] at h1
  obtain⟨p,vs,ep,g1,g2⟩:=h1
  exact lV pins s σ H xs us Q I r ⟨p,vs,by rw [ev,ep],.inl ((aM H O).seq g1),q _ H (bC.refl H) (eR.mpr (by rw [g2.length]))⟩
 ·rename_i ys
  cases hg
  obtain⟨v,ev,h1⟩:=hd.one
  rw [cf] at h1
  obtain⟨p,vs,ep,g1,g2⟩:=h1
  exact lV pins s σ H xs us Q I r ⟨p,vs,by rw [ev,ep],.inr (cu (aM H O) g1),q _ H (bC.refl H) (eR.mpr (by rw [g2.length]))⟩
 ·rename_i z
  obtain⟨h1,h2⟩:=bD hg
  subst h2
  obtain⟨v,ev,h1'⟩:=hd.one
  exact sk pins s σ H xs us Q I r ⟨z,by rw [ev,eQ.mp h1'],de h1,q _ H (bC.refl H) (eR.mpr rfl)⟩
 ·cases hg
def cy:List D->Option D
 | [.lst xs]=>some (.tup xs)
 | [.tup xs]=>some (.tup xs)
 | _=>none
theorem bY:dA X (.type "tuple") (we X.K cy):=by
 intro pins s σ H xs us Q I r ⟨O,ds,d,hO,hd,hg,q⟩
 unfold cy at hg
 split at hg
 ·rename_i ys
  cases hg
  obtain⟨v,ev,h1⟩:=hd.one
  rw [cg] at h1
  obtain⟨p,vs,ep,g1,g2⟩:=h1
  exact kM pins s σ H xs us Q I r ⟨p,vs,by rw [ev,ep],.inl ⟨(aM H O).seq g1,fun l hl=>q _ _ (cn hl _) (fU hO hl g2)⟩⟩
 ·rename_i ys
  cases hg
  obtain⟨v,ev,h1⟩:=hd.one
  have h0:=h1
  rw [cf] at h1
  obtain⟨p,vs,ep,g1,g2⟩:=h1
  rw [ep] at h0
  exact kM pins s σ H xs us Q I r ⟨p,vs,by rw [ev,ep],.inr ⟨cu (aM H O) g1,q _ H (bC.refl H) h0⟩⟩
 ·cases hg
def nY:List D->Option D
 | [.lst xs]=>some (.lst xs)
 | [.tup xs]=>some (.lst xs)
 | _=>none
def tW:List D->Option D
 | [.int i,.int j]=>some (.int (if j > i then j else i))
 | _=>none
def tP:List D->Option D
 | [.int i,.int j]=>some (.int (if j < i then j else i))
 | _=>none
def nQ:List D->Option D
 | [.int i]=>some (.int i)
 | [.bl k]=>some (.int (if k then 1 else 0))
 | _=>none
theorem oJ (hc:X.calm=true):dA X (.builtin "max") (we X.K tW):=by
 intro pins s σ H xs us Q I r ⟨O,ds,d,hO,hd,hg,q⟩
 unfold tW at hg
 split at hg
 ·rename_i i j
  cases hg
  obtain⟨v,w,ev,h1,h2⟩:=hd.two
  exact wZ hc pins s σ H xs us Q I r ⟨i,j,by rw [ev,eR.mp h1,eR.mp h2],q _ H (bC.refl H) (eR.mpr rfl)⟩
 ·cases hg
theorem pK (hc:X.calm=true):dA X (.builtin "min") (we X.K tP):=by
 intro pins s σ H xs us Q I r ⟨O,ds,d,hO,hd,hg,q⟩
 unfold tP at hg
 split at hg
 ·rename_i i j
  cases hg
  obtain⟨v,w,ev,h1,h2⟩:=hd.two
  exact xE hc pins s σ H xs us Q I r ⟨i,j,by rw [ev,eR.mp h1,eR.mp h2],q _ H (bC.refl H) (eR.mpr rfl)⟩
 ·cases hg
theorem vf:dA X (.type "int") (we X.K nQ):=by
 intro pins s σ H xs us Q I r ⟨O,ds,d,hO,hd,hg,q⟩
 unfold nQ at hg
 split at hg
 ·rename_i i
  cases hg
  obtain⟨v,ev,h1⟩:=hd.one
  exact rh pins s σ H xs us Q I r (.inl ⟨i,by rw [ev,eR.mp h1],q _ H (bC.refl H) (eR.mpr rfl)⟩)
 ·rename_i k
  cases hg
  obtain⟨v,ev,h1⟩:=hd.one
  exact rh pins s σ H xs us Q I r (.inr ⟨k,by rw [ev,jq.mp h1],q _ H (bC.refl H) (eR.mpr rfl)⟩)
 ·cases hg

def HA (T:String) (d:D):Bool:=match d with
 | .bl _=>T == "bool" || T == "int"
 | .non=>T == "NoneType"
 | .int _=>T == "int"
 | .str _=>T == "str"
 | .tup _=>T == "tuple"
 | .lst _=>T == "list"
 | .dct _ _=>T == "dict"
 | _=>false
theorem uv:MJ "isinstance"=some (.builtin "isinstance"):=by first | rfl | decide +kernel
def Fl (T:String) (d:D):Option D:=if top d then some (.bl (HA T d)) else none
def Iq (T:String) (f:FX):FX:=f1 (Fl T) f
end

section
variable {X:Cx} {a:MO} {f:FX} {pos:Pos}
def isNon:D->Bool
 | .non=>true
 | _=>false
def Hh (d:D):Option D:=some (.bl (isNon d))
def Ew (d:D):Option D:=some (.bl (!isNon d))
def Hk (f:FX):FX:=f1 Hh f
def Fg (f:FX):FX:=f1 Ew f
theorem FC (h:FE X a f) (he:∀ whole,isTrue a X.env whole=(do let v <- whole; standAt a.pos; holding [v] (truthy v)):=by intro _; rfl):FT X a (mw f):=PT.weak (yS h he) fun σ H Q ⟨O,ρ,E,hF⟩=>⟨O,ρ,E,(gk.bind hF).imp fun d hF x H1 s1 d1=>by
 obtain⟨r,hF,q⟩:=gk.rO hF
 refine⟨r,?_,q H1 s1⟩
 cases d with
 | non=>cases hF; rw [jr.mp d1]; rfl
 | bl b=>cases hF; rw [jq.mp d1]; rfl
 | int i=>cases hF; rw [eR.mp d1]; rfl
 | str y =>
  obtain⟨hz,e⟩:=bD hF
  subst e
  rw [eQ.mp d1]
  refine⟨de hz,?_⟩
  show (y.length != 0)=((y.length:Int) != 0)
  cases y.length <;> rfl
 | tup xs =>
  cases hF
  obtain⟨p,vs,e,g1,g2⟩:=cf.mp d1
  rw [e]
  refine .inr (.inl ⟨vs,cu (aM H1 O) g1,?_⟩)
  have l:=g2.length
  cases xs <;> cases vs <;> first | rfl | (simp at l)
 | lst xs =>
  cases hF
  obtain⟨p,vs,e,g1,g2⟩:=cg.mp d1
  rw [e]
  refine .inl ⟨vs,(aM H1 O).seq g1,?_⟩
  have l:=g2.length
  cases xs <;> cases vs <;> first | rfl | (simp at l)
 | _=>cases hF⟩
end

def Walk (K:Lj) (Hd:Hp) (J:It) (ds:List D):Prop :=
 ∀ (Hn:Hp) (O':List MF) (i:Nat),dt Hn O'->bC Hd (hid Hn O')->(∀ d,ds[i]?=some d->J.go i Hn/\∀ x H2,J.yld i Hn x H2->bC Hn H2/\cm K (hid H2 O') d x)/\(i=ds.length->J.stop i Hn)
def Ho (X:Cx) (G:av->R (List D)):TI:=fun σ H RR=>∃ O ρ,dg X.K O H ρ σ/\gk X σ O H (G ρ) fun ds=>∀ J H1,bC H H1->Walk X.K (hid H1 O) J ds->RR J H1
def FI (X:Cx) (tg iter:MO) (G:av->R (List D)):Prop:=PI X tg iter (Ho X G)
def o8:D->Option (List D)
 | .lst xs=>some xs
 | .tup xs=>some xs
 | _=>none
def bQ (f:FX):av->R (List D):=fun ρ=>(f ρ).bind fun d=>rO (o8 d)
section
variable {X:Cx} {tg:MO}
theorem xK {K:Lj} {Hd:Hp} {a:MF} {ds:List D} {vs:List V} (h:la K Hd a vs) (g:aZ K Hd ds vs):Walk K Hd (Hc K a) ds:=fun Hn O' i hO s =>
  have s':bC Hd Hn:=s.trans (aM Hn O')
  ⟨fun d e=>by
    obtain⟨v,ev,dv⟩:=g.get e
    refine⟨⟨vs,v,s'.seq h,ev⟩,fun x H2 ⟨e2,y⟩=>?_⟩
    have q:=y vs (s'.seq h)
    rw [ev] at q; cases q
    subst e2
    exact⟨bC.refl _,dv.mono s⟩,
   fun hl=>⟨vs,s'.seq h,by rw [<- g.length]; exact Jy hl.symm⟩⟩
theorem zZ {K:Lj} {Hd:Hp} {a:MF} {ds:List D} {vs:List V} (h:Hd a=some (.tup vs)) (g:aZ K Hd ds vs):Walk K Hd (Hy K a) ds:=fun Hn O' i hO s =>
  have s':bC Hd Hn:=s.trans (aM Hn O')
  ⟨fun d e=>by
    obtain⟨v,ev,dv⟩:=g.get e
    refine⟨⟨vs,v,cu s' h,ev⟩,fun x H2 ⟨e2,y⟩=>?_⟩
    have q:=y vs (cu s' h)
    rw [ev] at q; cases q
    subst e2
    exact⟨bC.refl _,dv.mono s⟩,
   fun hl=>⟨vs,cu s' h,by rw [<- g.length]; exact Jy hl.symm⟩⟩
theorem HX {e:MO} {f:FX} (h:FE X e f):FI X tg e (bQ f):=by
 intro pins s σ H R I ⟨O,ρ,E,hG⟩
 have hG':=gk.bind hG
 cases hf:f ρ with
 | error z=>exact wn h pins s σ H R I ⟨O,ρ,E,by rw [hf] at hG' ⊢; cases z with | none=>exact hG'.elim | some x=>exact hG'⟩
 | ok d =>
  rw [hf] at hG'
  obtain⟨ds,e1,q⟩:=gk.rO (α:=List D) (o:=o8 d) hG'
  cases d with
  | lst xs =>
   cases e1
   refine wn h pins s σ H R I ⟨O,ρ,E,?_⟩
   rw [hf]
   refine fun v H1 s1 d1=>?_
   obtain⟨p,vs,ev,g1,g2⟩:=cg.mp d1
   exact⟨p,ev,⟨vs,(aM H1 O).seq g1⟩,q _ H1 s1 (xK g1 g2)⟩
  | tup xs =>
   cases e1
   refine DR h pins s σ H R I ⟨O,ρ,E,?_⟩
   rw [hf]
   refine fun v H1 s1 d1=>?_
   obtain⟨p,vs,ev,g1,g2⟩:=cf.mp d1
   exact⟨p,ev,⟨vs,cu (aM H1 O) g1⟩,q _ H1 s1 (zZ g1 g2)⟩
  | _=>cases e1
def eB (lo:Int) (n:Nat):List D:=(List.range n).map fun (k:Nat)=>D.int (lo+(k:Int))
theorem pY (lo:Int) (n:Nat):(eB lo n).length=n:=by unfold eB; rw [JI,Kg]
theorem vy {K:Lj} {Hd:Hp} (lo:Int) (n:Nat):Walk K Hd (Gj lo n) (eB lo n):=fun Hn O' i hO s =>
  ⟨fun d e=>by
    unfold eB at e
    rw [JF] at e
    cases hi:(List.range n)[i]? with
    | none=>rw [hi] at e; cases e
    | some k =>
      rw [hi] at e
      cases e
      have hlt:i < n:=by
        have:=(List.getElem?_eq_some_iff.mp hi).1
        rwa [Kg] at this
      have ek:k=i:=by
        rw [Kh hlt] at hi
        exact(Option.some.inj hi).symm
      subst ek
      exact⟨hlt,fun x H2 ⟨e1,e2⟩=>by subst e1; exact⟨bC.refl _,eR.mpr e2⟩⟩,
   fun hl=>by rw [pY] at hl; exact Jy hl.symm⟩
def okR (j:Int):Bool:=decide (-(2 ^ 62)<=j/\j < 2 ^ 62)
def jk:List D->Option (List D)
 | [.int j]=>if okR j then some (eB 0 j.toNat) else none
 | _=>none
def wm:List D->Option (List D)
 | [.int i,.int j]=>if okR i && okR j then some (eB i (j - i).toNat) else none
 | _=>none
def cX (f:av->R (List D)):av->R (List D):=fun ρ=>(f ρ).bind fun ds=>rO (jk ds)
def AI (f:av->R (List D)):av->R (List D):=fun ρ=>(f ρ).bind fun ds=>rO (wm ds)
theorem D3 {a:MO} {f:av->R (List D)} {p pos:Pos} (hg:Gl X "range") (hm:X.mg "range"=none) (ha:FA X [a] f) (hs:MP [a] X.env=[(false,eval a X.env)]:=by rfl):FI X tg (.Call (.Name "range" p) [a] [] pos) (cX f):=by
 intro pins s σ H R I ⟨O,ρ,E,hG⟩
 refine xL hg hm ha hs pins s σ H R I ⟨O,ρ,E,(gk.bind hG).imp fun es hG' vs H1 s1 d1=>?_⟩
 clear hG
 obtain⟨ds,hG,q⟩:=gk.rO hG'
 clear hG'
 unfold jk at hG
 split at hG
 ·rename_i j
  obtain⟨h1,h2⟩:=bD hG
  subst h2
  obtain⟨j1,j2⟩:=of_decide_eq_true h1
  obtain⟨v,ev,dv⟩:=d1.one
  exact⟨j,by rw [ev,eR.mp dv],j1,j2,q _ H1 s1 (vy 0 _)⟩
 ·cases hG
end

abbrev GF:=D->av->Option av
def Gu (K:Lj) (g:GF):TG:=fun v σ H Q=>∃ O ρ d ρ',dg K O H ρ σ/\cm K (hid H O) d v/\g d ρ=some ρ'/\∀ σ',dg K O H ρ' σ'->(∀ (i:Nat) xs,ρ'[i]?=some (some (.own xs))->σ'[i]?=σ[i]?/\ρ[i]?=some (some (.own xs)))->Q σ' H
def FG (X:Cx) (tg:MO) (g:GF):Prop:=PG X tg (Gu X.K g)
def setV (i:Nat) (d:D) (ρ:av):av:=ρ.set i (some (.val d))
theorem bO {α:Type} {l:List α} {i j:Nat} {a b:α} (h:(l.set i a)[j]?=some b):(j=i/\b=a)\/(j≠i/\l[j]?=some b):=by
 by_cases e:j=i
 ·subst e
  left
  have hj:j < (l.set j a).length:=(List.getElem?_eq_some_iff.mp h).1
  rw [JK] at hj
  rw [Jq hj] at h
  exact⟨rfl,(Option.some.inj h).symm⟩
 ·right
  rw [Jr (Ne.symm e)] at h
  exact⟨e,h⟩
theorem dg.setV {K:Lj} {O:List MF} {H:Hp} {ρ:av} {σ:St} (E:dg K O H ρ σ) {i:Nat} {d:D} {v:V} (hi:i < σ.length) (hd:cm K (hid H O) d v):dg K O H (setV i d ρ) (σ.set i (some v)) :=
  ⟨fun j d' e=>by
    rcases bO e with ⟨hj,eq⟩ | ⟨ne,eq⟩
    · cases eq; rw [hj]; exact⟨v,Jq hi,hd⟩
    · obtain⟨w,e1,e2⟩:=E.val j d' eq
      exact⟨w,by rw [Jr (Ne.symm ne)]; exact e1,e2⟩,
   fun j xs e=>by
    rcases bO e with ⟨_,eq⟩ | ⟨ne,eq⟩
    · cases eq
    · obtain⟨a,e1,e2⟩:=E.own j xs eq
      exact⟨a,by rw [Jr (Ne.symm ne)]; exact e1,e2⟩,
   fun j k xs ys a e1 e2 e3 e4=>by
    rcases bO e1 with ⟨_,q1⟩ | ⟨ne1,q1⟩
    · cases q1
    · rcases bO e2 with ⟨_,q2⟩ | ⟨ne2,q2⟩
      · cases q2
      · rw [Jr (Ne.symm ne1)] at e3
        rw [Jr (Ne.symm ne2)] at e4
        exact E.one j k xs ys a q1 q2 e3 e4,E.all⟩
section
variable {X:Cx} {pos:Pos}
def gN (i:Nat):GF:=fun d ρ=>some (setV i d ρ)
theorem Gv {i:Nat} {x:Str} (hN:X.N.Nodup) (hi:X.N[i]?=some x) (hx:Loc X.env.scope x) (hf:X.fn x=true\/X.env.scope.names.lookup x=some .local:=by first | exact .inl rfl | exact .inr rfl | assumption):FG X (.Name x pos) (gN i):=by
 intro pins s σ H v u Q I r ⟨O,ρ,d,ρ',E,hd,hg,q⟩
 cases hg
 have hiσ:i < σ.length:=by rw [I.len]; exact(List.getElem?_eq_some_iff.mp hi).1
 refine Ax hN hi hx hf pins s σ H v u Q I r (q _ (E.setV hiσ hd) fun j xs e=>?_)
 rcases bO e with ⟨_,eq⟩ | ⟨ne,eq⟩
 ·cases eq
 ·exact⟨Jr (Ne.symm ne),eq⟩
abbrev yi:=List D->av->Option av
def Hq (K:Lj) (g:yi):BO:=fun vs σ H Q=>∃ O ρ ds ρ',dg K O H ρ σ/\aZ K (hid H O) ds vs/\g ds ρ=some ρ'/\∀ σ',dg K O H ρ' σ'->(∀ (i:Nat) xs,ρ'[i]?=some (some (.own xs))->σ'[i]?=σ[i]?/\ρ[i]?=some (some (.own xs)))->Q σ' H
def El (X:Cx) (ts:List MO) (g:yi):Prop:=Fi X ts (Hq X.K g)
def yW:yi:=fun ds ρ=>match ds with
 | []=>some ρ
 | _=>none
def uT (g:GF) (h:yi):yi:=fun ds ρ=>match ds with
 | d::r=>(g d ρ).bind fun ρ1=>h r ρ1
 | _=>none
theorem Gc:El X [] yW:=by
 intro pins s σ H vs us Q I r ⟨O,ρ,ds,ρ',E,hd,hg,q⟩
 cases ds with
 | nil =>
  cases hg
  rw [bZ] at hd
  exact Bp pins s σ H vs us Q I r ⟨hd,q _ E fun i xs e=>⟨rfl,e⟩⟩
 | cons _ _=>cases hg
theorem Ft {e:MO} {es:List MO} {g:GF} {h:yi} (h1:FG X e g) (h2:El X es h) (hs:(assignEach (e::es) X.env).map (·.2)=assign e X.env::(assignEach es X.env).map (·.2):=by rfl):El X (e::es) (uT g h):=by
 intro pins s σ H vs us Q I r ⟨O,ρ,ds,ρ',E,hd,hg,q⟩
 cases ds with
 | nil=>cases hg
 | cons d ds =>
  obtain⟨ρ1,e1,e2⟩:=bind_some hg
  rw [bx] at hd
  obtain⟨v,vr,ev,d1,d2⟩:=hd
  exact zF h1 h2 hs pins s σ H vs us Q I r ⟨v,vr,ev,O,ρ,d,ρ1,E,d1,e1,fun σ1 E1 k1=>⟨O,ρ1,ds,ρ',E1,d2,e2,fun σ2 E2 k2=>q σ2 E2 fun i xs e=>by
   obtain⟨a1,a2⟩:=k2 i xs e
   obtain⟨b1,b2⟩:=k1 i xs a2
   exact⟨a1.trans b1,b2⟩⟩⟩
def gT (n:Nat) (g:yi):GF:=fun d ρ=>match d with
 | .tup xs=>if xs.length=n then g xs ρ else none
 | _=>none
theorem Ik {es:List MO} {k:Nat} {g:yi} {n:Nat} (hc:X.calm=true) (h:El X es g) (hn:(assignEach es X.env).length=n:=by rfl) (hst:(assignEach es X.env).findIdx? (·.1)=none:=by rfl):FG X (.Tuple es k pos) (gT n g):=by
 intro pins s σ H v u Q I r ⟨O,ρ,d,ρ',E,hd,hg,q⟩
 cases d with
 | tup xs =>
  obtain⟨p,vs,ev,g1,g2⟩:=cf.mp hd
  have hg':(if xs.length=n then g xs ρ else none)=some ρ':=hg
  by_cases hl:xs.length=n
  ·rw [if_pos hl] at hg'
   exact DJ hc h hn hst pins s σ H v u Q I r ⟨p,vs,ev,cu (aM H O) g1,by rw [<- g2.length]; exact hl,O,ρ,xs,ρ',E,g2,hg',q⟩
  ·rw [if_neg hl] at hg'; cases hg'
 | _=>cases hg
end

def uy {α:Type} (r:R α):R α:=match r with
 | .ok a=>.ok a
 | .error _=>un
theorem yT {α:Type} {r:R α} {a:α} (h:uy r=.ok a):r=.ok a:=by
 cases r with
 | ok b=>exact h
 | error z=>cases h
def inB (ix:List (Option Nat)) (ρ:av):av:=ix.map fun o=>match o with
 | some i=>match ρ[i]? with
  | some (some (.val d))=>some (.val d)
  | _=>none
 | none=>none
def yM (ρ:av) (g:GF) (C:av->R Bool) (Fe:FX):List D->R (List D)
 | []=>.ok []
 | d::ds=>(rO (g d ρ)).bind fun ρ1=>(uy (C ρ1)).bind fun c=>if c then (uy (Fe ρ1)).bind fun v=>(yM ρ g C Fe ds).bind fun r=>.ok (v::r) else yM ρ g C Fe ds
theorem tN (ρ:av) (g:GF) (C:av->R Bool) (Fe:FX) (d:D) (ds:List D):yM ρ g C Fe (d::ds)=(rO (g d ρ)).bind fun ρ1=>(uy (C ρ1)).bind fun c=>if c then (uy (Fe ρ1)).bind fun v=>(yM ρ g C Fe ds).bind fun r=>.ok (v::r) else yM ρ g C Fe ds:=rfl
def iC (ix:List (Option Nat)) (G:av->R (List D)) (g:GF) (C:av->R Bool) (Fe:FX):FX:=fun ρ=>(G ρ).bind fun ds=>if small ds.length then uy ((yM (inB ix ρ) g C Fe ds).bind fun r=>.ok (.lst r)) else un
def GD (X:Cx) (ifs:List MO) (F:av->R Bool):Prop:=DC X ifs (FY X F)
def cP:av->R Bool:=fun _=>.ok true
theorem Gy {X:Cx}:GD X [] cP:=fun pins s σ H Q I ⟨O,ρ,E,q⟩=>Bv pins s σ H Q I (q H (bC.refl H))
theorem Gp {X:Cx} {c:MO} {F:av->R Bool} (h:FT X c F):GD X [c] F:=A0 h
theorem lR {ix:List (Option Nat)} {ρ:av} {j:Nat} {x:S} (e:(inB ix ρ)[j]?=some (some x)):∃ i d,ix[j]?=some (some i)/\ρ[i]?=some (some (.val d))/\x=.val d:=by
 unfold inB at e
 rw [JF] at e
 cases q:ix[j]? with
 | none=>rw [q] at e; cases e
 | some o =>
  rw [q] at e
  cases o with
  | none=>cases e
  | some i =>
   have e':(match ρ[i]? with | some (some (.val d))=>some (S.val d) | _=>none)=some x:=Option.some.inj e
   split at e'
   ·rename_i d hd
    cases e'
    exact⟨i,d,rfl,hd,rfl⟩
   ·cases e'
theorem AQ {K:Lj} {O:List MF} {H:Hp} {ρ:av} {σ:St} (ix:List (Option Nat)) (E:dg K O H ρ σ):dg K O H (inB ix ρ) (inBlock ix σ):=by
 refine⟨fun j d e=>?_,fun j xs e=>?_,fun j k xs ys a e=>?_,E.all⟩
 ·obtain⟨i,d',q1,q2,q3⟩:=lR e
  cases q3
  obtain⟨v,e1,e2⟩:=E.val i d q2
  refine⟨v,?_,e2⟩
  unfold inBlock
  rw [JF,q1]
  show some ((σ[i]?).getD none)=some (some v)
  rw [e1]; rfl
 ·obtain⟨_,_,_,_,q3⟩:=lR e
  cases q3
 ·obtain⟨_,_,_,_,q3⟩:=lR e
  cases q3
theorem tS {H:Hp} {O:List MF} {p:MF} {o:HO} (hp:H p=none):bC (hid H O) (hid (upd H p o) (p::O)):=fun b u h=>by
 unfold hid at h ⊢
 by_cases hb:b∈O
 ·rw [if_pos hb] at h; cases h
 ·rw [if_neg hb] at h
  have ne:=bz h hp
  rw [if_neg (by intro z; rcases List.mem_cons.mp z with z | z; exact ne z; exact hb z),aW ne]; exact h
theorem dg.hideNew {K:Lj} {O:List MF} {H:Hp} {ρ:av} {σ:St} {p:MF} {o:HO} (m:p4 o) (E:dg K O H ρ σ) (hp:H p=none):dg K (p::O) (upd H p o) ρ σ:=by
 have s:bC (hid H O) (hid (upd H p o) (p::O)):=tS hp
 refine⟨fun i d e=>let ⟨v,a,b⟩:=E.val i d e; ⟨v,a,b.mono s⟩,fun i xs e=>?_,E.one,(E.all.same (cn hp o)).cons bF m⟩
 obtain⟨a,e1,e2,e3⟩:=E.own i xs e
 obtain⟨u,hu⟩:=e3.some
 exact⟨a,e1,Jo _ e2,e3.mono (by rw [aW (bz hu hp)]) s⟩
theorem dg.rewrite {K:Lj} {O:List MF} {H:Hp} {ρ:av} {σ:St} {p:MF} {o:HO} (m:p4 o) (E:dg K O H ρ σ) (hp:p∈O) (hs:∀ (i:Nat) xs,ρ[i]?=some (some (.own xs))->σ[i]?≠some (some (.ref p))):dg K O (upd H p o) ρ σ:=by
 have s:bC (hid H O) (hid (upd H p o) O):=lO hp
 refine⟨fun i d e=>let ⟨v,a,b⟩:=E.val i d e; ⟨v,a,b.mono s⟩,fun i xs e=>?_,E.one,E.all.upd hp m⟩
 obtain⟨a,e1,e2,e3⟩:=E.own i xs e
 have ne:a≠p:=fun z=>hs i xs e (by rw [<- z]; exact e1)
 exact⟨a,e1,e2,e3.mono (by rw [aW ne]) s⟩
theorem dg.forget {K:Lj} {O:List MF} {H:Hp} {ρ ρ':av} {σ:St} (E:dg K O H ρ σ) (h:∀ (i:Nat) x,ρ'[i]?=some (some x)->ρ[i]?=some (some x)):dg K O H ρ' σ :=
 ⟨fun i d e=>E.val i d (h i _ e),fun i xs e=>E.own i xs (h i _ e),fun i j xs ys a e1 e2=>E.one i j xs ys a (h i _ e1) (h j _ e2),E.all⟩

def Fills (ρ:av) (g:GF):Prop:=∀ d ρ1,g d ρ=some ρ1->∀ (i:Nat) x,ρ[i]?=some (some x)->ρ1[i]?=some (some x)
theorem qB (ix:List (Option Nat)) (ρ:av):∀ (i:Nat) xs,(inB ix ρ)[i]?≠some (some (.own xs)):=by
 intro j xs e
 obtain⟨_,_,_,_,q3⟩:=lR e
 cases q3
theorem E5 {α:Type} {o:Option α} {a:α} (h:rO o=.ok a):o=some a:=by
 cases o with
 | none=>cases h
 | some b=>cases h; rfl

end TG
namespace TG
open PySem PySem.Spec L2
variable [aT]

section
variable {X:Cx} {elt tg iter:MO} {ifs:List MO} {scope:MM} {pos:Pos} {N:List Str} {ix:List (Option Nat)} {G:av->R (List D)} {g:GF} {C:av->R Bool} {Fe:FX}
structure ud (ix:List (Option Nat)) (g:GF):Prop where
 fill:∀ ρ,Fills (inB ix ρ) g
 own:∀ ρ d ρ1,g d (inB ix ρ)=some ρ1->∀ (i:Nat) xs,ρ1[i]?≠some (some (.own xs))
theorem tX {ρ:av} {i:Nat} (h:ix[i]?=some none):∀ x,(inB ix ρ)[i]?≠some (some x):=fun x e=>by
 obtain⟨_,_,q,_⟩:=lR e
 rw [h] at q; cases q
theorem cU {i:Nat} (h:ix[i]?=some none):ud ix (gN i) :=
  ⟨fun ρ d ρ1 e j x q=>by
    cases e
    by_cases z:j=i
    · subst z; exact absurd q (tX h x)
    · unfold setV; rw [Jr (Ne.symm z)]; exact q,
   fun ρ d ρ1 e j xs q=>by
    cases e
    rcases bO q with ⟨_,z⟩ | ⟨_,z⟩
    · cases z
    · exact qB ix ρ j xs z⟩
def AB (ix:List (Option Nat)) (is:List Nat):Bool:=is.all fun i=>match ix[i]? with
 | some none=>true
 | _=>false
def fJ:List Nat->yi
 | []=>yW
 | i::is=>uT (gN i) (fJ is)
theorem vJ:∀ (is:List Nat) (ds:List D) (ρ ρ1:av),fJ is ds ρ=some ρ1->∀ (k:Nat) (x:S),ρ1[k]?=some (some x)->(k∈is/\∃ d,x=.val d)\/ρ[k]?=some (some x)
 | [],ds,ρ,ρ1,h,k,x,e=>by
  cases ds with
  | nil=>cases h; exact .inr e
  | cons _ _=>cases h
 | i::is,ds,ρ,ρ1,h,k,x,e=>by
  cases ds with
  | nil=>cases h
  | cons d ds =>
   rcases vJ is ds (setV i d ρ) ρ1 h k x e with ⟨a,b⟩ | q
   ·exact .inl ⟨Jo _ a,b⟩
   ·rcases bO q with ⟨z,w⟩ | ⟨_,w⟩
    ·exact .inl ⟨by rw [z]; exact Jn,d,Option.some.inj w⟩
    ·exact .inr w
theorem tV:∀ (is:List Nat) (ds:List D) (ρ ρ1:av),fJ is ds ρ=some ρ1->∀ (k:Nat) (x:S),k∉is->ρ[k]?=some (some x)->ρ1[k]?=some (some x)
 | [],ds,ρ,ρ1,h,k,x,_,e=>by
  cases ds with
  | nil=>cases h; exact e
  | cons _ _=>cases h
 | i::is,ds,ρ,ρ1,h,k,x,n,e=>by
  cases ds with
  | nil=>cases h
  | cons d ds =>
   refine tV is ds (setV i d ρ) ρ1 h k x (fun z=>n (Jo _ z)) ?_
   unfold setV
   rw [Jr (fun z=>n (by rw [z]; exact Jn))]; exact e
theorem cE {is:List Nat} {n:Nat} (h:AB ix is=true):ud ix (gT n (fJ is)):=by
 have hn:∀ i∈is,ix[i]?=some none:=fun i hi=>by
  have:=List.all_eq_true.mp h i hi
  cases e:ix[i]? with
  | none=>rw [e] at this; cases this
  | some o=>cases o with
   | none=>rfl
   | some _=>rw [e] at this; cases this
 have shape:∀ ρ d ρ1,gT n (fJ is) d ρ=some ρ1->∃ ds,fJ is ds ρ=some ρ1:=fun ρ d ρ1 e=>by
  cases d with
  | tup xs =>
   have e':(if xs.length=n then fJ is xs ρ else none)=some ρ1:=e
   by_cases hl:xs.length=n
   ·rw [if_pos hl] at e'; exact⟨xs,e'⟩
   ·rw [if_neg hl] at e'; cases e'
  | _=>cases e
 refine⟨fun ρ d ρ1 e k x q=>?_,fun ρ d ρ1 e k xs q=>?_⟩
 ·obtain⟨ds,e⟩:=shape _ d ρ1 e
  exact tV is ds _ ρ1 e k x (fun z=>tX (hn k z) x q) q
 ·obtain⟨ds,e⟩:=shape _ d ρ1 e
  rcases vJ is ds _ ρ1 e k _ q with ⟨_,d,z⟩ | z
  ·cases z
  ·exact qB ix ρ k xs z
structure lA (X:Cx) (scope:MM) (N:List Str) (ix:List (Option Nat)):Prop where
 cell:∀ y∈scope.names,y.2≠.cell
 kind:scope.kind=.function
 names:∀ y∈scope.names,y.2=.local->scope.names.lookup y.1=some .local
 free:∀ y∈scope.names,y.2=.free->X.env.scope.names.lookup y.1=some .cell\/X.env.scope.names.lookup y.1=some .free
 ix:sP X.N N scope.names ix=true
def vD (XS:List (Str×Nh)) (XN:List Str) (scope:MM) (N:List Str) (ix:List (Option Nat)):Bool :=
 scope.names.all (fun y=>decide (y.2≠.cell)) && decide (scope.kind=.function) && scope.names.all (fun y=>decide (y.2≠.local) || decide (scope.names.lookup y.1=some .local)) &&
  scope.names.all (fun y=>decide (y.2≠.free) || (decide (XS.lookup y.1=some .cell) || decide (XS.lookup y.1=some .free))) && sP XN N scope.names ix
theorem lA.of (h:vD X.env.scope.names X.N scope N ix=true):lA X scope N ix:=by
 unfold vD at h
 simp only [JZ] at h
 obtain⟨⟨⟨⟨h1,h2⟩,h3⟩,h4⟩,h5⟩:=h
 refine⟨fun y hy=>of_decide_eq_true (List.all_eq_true.mp h1 y hy),of_decide_eq_true h2,fun y hy e=>?_,fun y hy e=>?_,h5⟩
 ·rcases Kc _ _ ▸ List.all_eq_true.mp h3 y hy with q | q
  ·exact absurd e (of_decide_eq_true q)
  ·exact of_decide_eq_true q
 ·rcases Kc _ _ ▸ List.all_eq_true.mp h4 y hy with q | q
  ·exact absurd e (of_decide_eq_true q)
  ·rcases Kc _ _ ▸ q with q | q
   ·exact .inl (of_decide_eq_true q)
   ·exact .inr (of_decide_eq_true q)
def FZ (X:Cx) (scope:MM) (N:List Str) (tg elt:MO) (ifs:List MO) (g:GF) (C:av->R Bool) (Fe:FX):Prop :=
 ∀ cl C' fp s H E,FG (cj X scope N cl C' fp s H E) tg g/\GD (cj X scope N cl C' fp s H E) ifs C/\FE (cj X scope N cl C' fp s H E) elt Fe
def Dv (K:Lj) (F:av->R Bool):TT:=fun σ H Q=>∃ O ρ b,dg K O H ρ σ/\F ρ=.ok b/\∀ H',bC H H'->Q b H'
def He (K:Lj) (F:FX):TE:=fun σ H Q=>∃ O ρ d,dg K O H ρ σ/\F ρ=.ok d/\∀ v H',bC H H'->cm K (hid H' O) d v->Q v H'
theorem FZ.k (hb:FZ X scope N tg elt ifs g C Fe):∀ cl C' fp s H E,PG (cj X scope N cl C' fp s H E) tg (Gu X.K g)/\DC (cj X scope N cl C' fp s H E) ifs (Dv X.K C)/\PE (cj X scope N cl C' fp s H E) elt (He X.K Fe):=fun cl C' fp s H E=>by
 obtain⟨h1,h2,h3⟩:=hb cl C' fp s H E
 refine⟨h1,fun pins s σ H Q I ⟨O,ρ,b,e1,e2,q⟩=>h2 pins s σ H Q I ⟨O,ρ,e1,by rw [e2]; exact q⟩,fun pins s σ H Q I ⟨O,ρ,d,e1,e2,q⟩=>h3 pins s σ H Q I ⟨O,ρ,e1,by rw [e2]; exact q⟩⟩
def IH (X:Cx) (F:FX):TE:=fun σ H Q=>∃ O ρ,dg X.K O H ρ σ/\gk X σ O H (F ρ) fun d=>∀ D H' total acc,d=.lst total->bC H H'->H D=none->H' D=some (.lst acc)->aZ X.K (hid H' (D::O)) total acc->Q (.ref D) H'
theorem HL {F:FX}:∀ σ H Q,tF X F σ H Q->IH X F σ H Q:=fun σ H Q ⟨O,ρ,E,hF⟩=>⟨O,ρ,E,hF.imp fun d q D H' total acc e sm hD hD' dn=>by
 subst e
 have DO:D∉O:=E.all.not hD
 exact q _ H' sm (cg.mpr ⟨D,acc,rfl,la.of (by rw [fY DO]; exact hD'),dn.mono (jH fun a ha=>Jo _ ha)⟩)⟩
theorem Es (tk:ud ix g):∀ σ H Q,IH X (iC ix G g C Fe) σ H Q->GL (Ho X G) (Gu X.K g) (Dv X.K C) (He X.K Fe) ix σ H Q:=fun σ H Q ⟨O,ρ,E,hF⟩=>by
 refine⟨O,ρ,E,(gk.bind hF).imp fun ds hF=>?_⟩
 have hz:small ds.length=true:=by
  cases e:small ds.length with
  | true=>rfl
  | false=>rw [e] at hF; exact hF.elim
 rw [hz,if_pos rfl] at hF
 cases hL:yM (inB ix ρ) g C Fe ds with
 | error z=>rw [hL] at hF; exact hF.elim
 | ok total =>
 rw [hL] at hF
 have q:∀ D H' total' acc,TG.D.lst total=.lst total'->bC H H'->H D=none->H' D=some (.lst acc)->aZ X.K (hid H' (D::O)) total' acc->Q (.ref D) H':=hF
 have e2:=hL
 have hfill:=tk.fill
 have hown:=tk.own
 refine fun J H1 s1 wk D hD=>?_
 have E1:dg X.K (D::O) (upd H1 D (.lst [])) (inB ix ρ) (inBlock ix σ):=((AQ ix E).same s1).hideNew trivial hD
 have DO:D∉O:=(E.all.same s1).not hD
 refine⟨fun i m σ' H'=>m=ds.length - i/\i<=ds.length/\bC H1 H'/\dg X.K (D::O) H' (inB ix ρ) σ'/\∃ acc dn rest,H' D=some (.lst acc)/\acc.length<=i/\aZ X.K (hid H' (D::O)) dn acc/\yM (inB ix ρ) g C Fe (ds.drop i)=.ok rest/\dn++rest=total,
  ⟨ds.length,by rw [Nat.sub_zero],Jz _,cn hD _,E1,[],[],total,bF,Jt _,bZ.mpr rfl,by rw [J3]; exact e2,rfl⟩,?_⟩
 rintro i m σ' H' ⟨rfl,hi,sm,E',acc,dn,rest,hacc,hlen,hdn,hrest,htot⟩
 have sH:bC (hid H1 O) (hid H' (D::O)):=fun b o h=>by
  have h2:=sm b o (aM H1 O b o h)
  unfold hid at h ⊢
  by_cases hb:b∈O
  ·rw [if_pos hb] at h; cases h
  ·rw [if_neg hb] at h
   have ne:b≠D:=bz h hD
   rw [if_neg (by intro z; rcases List.mem_cons.mp z with z | z; exact ne z; exact hb z)]; exact h2
 by_cases hlt:i < ds.length
 ·right
  obtain⟨go,yl⟩:=(wk H' (D::O) i E'.all sH).1 ds[i] (by simp [hlt])
  refine⟨go,fun x H2 y=>?_⟩
  obtain⟨s2,dx'⟩:=yl x H2 y
  have E':=E'.same s2
  have sm:=sm.trans s2
  have hacc:=s2 _ _ hacc
  have hdn:=hdn.mono (cq s2)
  rw [Ki hlt,tN] at hrest
  obtain⟨ρ1,g1,hrest⟩:=oF hrest
  have g1:=E5 g1
  obtain⟨c,c1,hrest⟩:=oF hrest
  have c1:=yT c1
  refine⟨D::O,inB ix ρ,ds[i],ρ1,E',dx',g1,fun σ3 E3 _=>?_⟩
  refine⟨D::O,ρ1,c,E3,c1,fun H4 s4=>?_⟩
  have E4:=E3.same s4
  have back:∀ {H5:Hp},dg X.K (D::O) H5 ρ1 σ3->dg X.K (D::O) H5 (inB ix ρ) σ3:=fun z=>z.forget fun j x e=>hfill ρ _ _ g1 j x e
  cases c with
  | true =>
   refine wY ?_
   rw [if_pos rfl] at hrest
   obtain⟨v,v1,hrest⟩:=oF hrest
   have v1:=yT v1
   obtain⟨r,r1,hrest⟩:=oF hrest
   cases hrest
   refine⟨D::O,ρ1,v,E4,v1,fun w H5 s5 dw=>?_⟩
   have s45:=s4.trans s5
   have ha5:H5 D=some (.lst acc):=s45 _ _ hacc
   have hzl:ds.length < MH:=Kj (of_decide_eq_true hz) (by decide)
   refine⟨acc,ha5,by omega,ds.length - (i+1),by omega,rfl,hlt,?_,?_,acc++[w],dn++[v],r,bF,by rw [JH,JM]; omega,?_,r1,by rw [Kk]; exact htot⟩
   ·intro b o h
    rw [aW (bz h hD)]; exact s45 _ _ (sm _ _ h)
   ·exact back ((E3.same s45).rewrite trivial Jn fun j xs e=>absurd e (hown ρ _ _ g1 j xs))
   ·have s6:bC (hid H5 (D::O)) (hid (upd H5 D (.lst (acc++[w]))) (D::O)):=lO Jn
    exact(hdn.mono ((cq s45).trans s6)).snoc (dw.mono s6)
  | false =>
   refine xu ?_
   rw [if_neg Jx] at hrest
   exact⟨ds.length - (i+1),by omega,rfl,hlt,sm.trans s4,back E4,acc,dn,rest,s4 _ _ hacc,by omega,hdn.mono (cq s4),hrest,htot⟩
 ·left
  have ei:i=ds.length:=by omega
  subst ei
  refine⟨(wk H' (D::O) ds.length E'.all sH).2 rfl,?_⟩
  rw [List.drop_length] at hrest
  cases hrest
  rw [JA] at htot
  subst htot
  exact q D H' _ acc rfl (s1.trans sm) (s1.free hD) hacc hdn
theorem B2 (tk:ud ix g):∀ σ H Q,tF X (iC ix G g C Fe) σ H Q->GL (Ho X G) (Gu X.K g) (Dv X.K C) (He X.K Fe) ix σ H Q:=fun σ H Q h=>Es tk σ H Q (HL σ H Q h)
theorem IC (hc:X.calm=true) (ok:lA X scope N ix) (tk:ud ix g) (hi:FI X tg iter G) (hb:FZ X scope N tg elt ifs g C Fe)
  (hs:∀ x,M1 iter X.env x=pure x:=by intro _; rfl):FE X (.ListComp elt [⟨tg,iter,ifs,0⟩] scope pos) (iC ix G g C Fe) :=
 PE.weak (FH hc ok.cell ok.kind ok.names ok.free ok.ix hi hb.k hs) (B2 tk)
end

structure Ks where
 nx:av->R D
 bk:av->R D:=fun _=>un
 ct:av->R D:=fun _=>un
 ex:Ex->av->R D:=fun x _=>.error (some x)
abbrev cc:=Ks->av->R D
def og {α:Type} (r:R α) (k:Ks) (ρ:av) (f:α->R D):R D:=match r with
 | .ok a=>f a
 | .error (some x)=>k.ex x ρ
 | .error none=>un
structure Base (Hb:Hp) (Ob:List MF) (H:Hp) (O:List MF):Prop where
 same:bC Hb H
 sub:∀ a∈Ob,a∈O
 new:∀ a∈O,a∈Ob\/Hb a=none
structure eF (K:Lj) (Hb:Hp) (Ob O:List MF) (H:Hp) (ρ:av) (σ:St):Prop where
 env:dg K O H ρ σ
 base:Base Hb Ob H O
 mine:∀ (i:Nat) xs a,ρ[i]?=some (some (.own xs))->σ[i]?=some (some (.ref a))->Hb a=none/\a∉Ob
theorem Base.same' {Hb:Hp} {Ob:List MF} {H H':Hp} {O:List MF} (b:Base Hb Ob H O) (s:bC H H'):Base Hb Ob H' O:=⟨b.same.trans s,b.sub,b.new⟩
theorem eF.same {K:Lj} {Hb:Hp} {Ob O:List MF} {H H':Hp} {ρ:av} {σ:St} (h:eF K Hb Ob O H ρ σ) (s:bC H H'):eF K Hb Ob O H' ρ σ:=⟨h.env.same s,h.base.same' s,h.mine⟩
structure Gf (X:Cx) (Hb:Hp) (Ob:List MF) (E:Ends) (k:Ks) (r:R D):Prop where
 ne:r≠un
 nx:∀ O ρ σ H,eF X.K Hb Ob O H ρ σ->k.nx ρ=r->E.nx σ H
 bk:∀ O ρ σ H,eF X.K Hb Ob O H ρ σ->k.bk ρ=r->E.bk σ H
 ct:∀ O ρ σ H,eF X.K Hb Ob O H ρ σ->k.ct ρ=r->E.ct σ H
 rt:∀ d O v H,r=.ok d->Base Hb Ob H O->cm X.K (hid H O) d v->E.rt v H
 ex:∀ O ρ σ H x,eF X.K Hb Ob O H ρ σ->k.ex x ρ=r->CD X σ O H x
def Hv (X:Cx) (Hb:Hp) (Ob:List MF) (F:cc):TS:=fun E σ H=>∃ O ρ k r,eF X.K Hb Ob O H ρ σ/\F k ρ=r/\Gf X Hb Ob E k r
def FS (X:Cx) (st:MQ) (F:cc):Prop:=∀ Hb Ob,PS X st (Hv X Hb Ob F)
def uF (X:Cx) (st:List MQ) (F:cc):Prop:=∀ Hb Ob,ww X st (Hv X Hb Ob F)
theorem gk.on {X:Cx} {Hb:Hp} {Ob O:List MF} {H:Hp} {ρ:av} {σ:St} {E:Ends} {k:Ks} {r:R D} {α:Type} {fr:R α} {G:α->R D} {Q:α->Prop} (h:og fr k ρ G=r) (hk:Gf X Hb Ob E k r) (S:eF X.K Hb Ob O H ρ σ) (q:∀ a,G a=r->Q a):gk X σ O H fr Q:=by
 match fr,h with
 | .ok a,h=>exact q a h
 | .error (some x),h=>exact hk.ex O ρ σ H x S h
 | .error none,h=>exact absurd h.symm hk.ne
section
variable {X:Cx} {st:MQ} {rest body:List MQ} {pos:Pos}
def bI:cc:=fun k ρ=>k.nx ρ
def aF (F1 F2:cc):cc:=fun k ρ=>F1 { k with nx:=F2 k } ρ
theorem Gx:uF X [] bI:=fun Hb Ob=>ww.weak wH fun E σ H ⟨O,ρ,k,r,S,hF,hk⟩=>hk.nx O ρ σ H S hF
theorem EY {F1 F2:cc} (h1:FS X st F1) (h2:uF X rest F2):uF X (st::rest) (aF F1 F2):=fun Hb Ob=>ww.weak (yt (h1 Hb Ob) (h2 Hb Ob)) fun E σ H ⟨O,ρ,k,r,S,hF,hk⟩ =>
 ⟨O,ρ,{ k with nx:=F2 k },r,S,hF,hk.ne,fun O' ρ' σ' H' S' e=>⟨O',ρ',k,r,S',e,hk⟩,hk.bk,hk.ct,hk.rt,hk.ex⟩
theorem FV {F1:cc} (h1:FS X st F1):uF X [st] F1:=fun Hb Ob=>Bn (h1 Hb Ob)
def bW (f:FX):cc:=fun k ρ=>og (f ρ) k ρ .ok
theorem G7 {e:MO} {f:FX} (h:FE X e f):FS X (.Return (some e) pos) (bW f):=fun Hb Ob=>PS.weak (DU h) fun E σ H ⟨O,ρ,k,r,S,hF,hk⟩ =>
 ⟨O,ρ,S.env,gk.on hF hk S fun d e v H' s' d'=>hk.rt d O v H' e.symm (S.base.same' s') d'⟩
def Fu:cc:=fun _ _=>.ok .non
def wa (f:FX):cc:=fun k ρ=>og (f ρ) k ρ fun _=>k.nx ρ
theorem Gg {e:MO} {f:FX} (h:FE X e f) (hs:swapsWith e none pos.line X.env=pure false:=by rfl):FS X (.Expr e pos) (wa f):=fun Hb Ob=>PS.weak (sM h hs) fun E σ H ⟨O,ρ,k,r,S,hF,hk⟩ =>
 ⟨O,ρ,S.env,gk.on hF hk S fun d e v H' s' d'=>hk.nx O ρ σ H' (S.same s') e⟩
def eY (c:av->R Bool) (A B:cc):cc:=fun k ρ=>og (c ρ) k ρ fun b=>if b then A k ρ else B k ρ
theorem IT {c:MO} {a b:List MQ} {tc:av->R Bool} {A B:cc} (hc:FT X c tc) (ha:uF X a A) (hb:uF X b B):FS X (.If c a b pos) (eY tc A B):=fun Hb Ob=>PS.weak (Fk hc (ha Hb Ob) (hb Hb Ob)) fun E σ H ⟨O,ρ,k,r,S,hF,hk⟩ =>
 ⟨O,ρ,S.env,gk.on hF hk S fun z e H1 s1=>by
  cases z with
  | true=>exact wY ⟨O,ρ,k,r,S.same s1,e,hk⟩
  | false=>exact xu ⟨O,ρ,k,r,S.same s1,e,hk⟩⟩
def bB (i:Nat) (f:FX):cc:=fun k ρ=>og (f ρ) k ρ fun d=>k.nx (setV i d ρ)
theorem eF.setV {K:Lj} {Hb:Hp} {Ob O:List MF} {H:Hp} {ρ:av} {σ:St} (E:eF K Hb Ob O H ρ σ) {i:Nat} {d:D} {v:V} (hi:i < σ.length) (hd:cm K (hid H O) d v):eF K Hb Ob O H (setV i d ρ) (σ.set i (some v)) :=
 ⟨E.env.setV hi hd,E.base,fun j xs a e1 e2=>by
  rcases bO e1 with ⟨_,q⟩ | ⟨ne,q⟩
  ·cases q
  ·rw [Jr (Ne.symm ne)] at e2
   exact E.mine j xs a q e2⟩
theorem qq {f:FX} {i:Nat} (hi:i < X.N.length) (h:PS X st (zy (tF X f) (qS i))):FS X st (bB i f):=fun Hb Ob pins s σ H E I ⟨O,ρ,k,r,S,hF,hk⟩ =>
 h pins s σ H E I ⟨O,ρ,S.env,gk.on hF hk S fun d e v H1 s1 d1=>hk.nx O _ _ H1 ((S.same s1).setV (by rw [I.len]; exact hi) d1) e⟩
theorem HY {i:Nat} {x:Str} {e:MO} {f:FX} {pos':Pos} (hN:X.N.Nodup) (hi:X.N[i]?=some x) (hx:Loc X.env.scope x) (he:FE X e f) (hs:swapsWith e (some (.Name x pos')) pos.line X.env=pure false:=by rfl) (hf:X.fn x=true\/X.env.scope.names.lookup x=some .local:=by first | exact .inl rfl | exact .inr rfl | assumption) :
  FS X (.Assign [.Name x pos'] e pos) (bB i f):=qq (List.getElem?_eq_some_iff.mp hi).1 (zk hN hi hx he hs hf)
theorem IR {elt tg iter:MO} {ifs:List MO} {scope:MM} {N:List Str} {ix:List (Option Nat)} {G:av->R (List D)} {g:GF} {C:av->R Bool} {Fe:FX} {i:Nat} {y:Str} {lpos py spos:Pos} (hN:X.N.Nodup) (hi':X.N[i]?=some y) (hx:Loc X.env.scope y)
  (hc:X.calm=true) (ok:lA X scope N ix) (tk:ud ix g) (hi:FI X tg iter G) (hb:FZ X scope N tg elt ifs g C Fe)
  (hsw:swapsWith (.ListComp elt [⟨tg,iter,ifs,0⟩] scope lpos) (some (.Name y py)) spos.line X.env=pure true:=by rfl)
  (hs:∀ x,M1 iter X.env x=pure x:=by intro _; rfl)
  (hf:X.fn y=true\/X.env.scope.names.lookup y=some .local:=by first | exact .inl rfl | exact .inr rfl | assumption) :
  FS X (.Assign [.Name y py] (.ListComp elt [⟨tg,iter,ifs,0⟩] scope lpos) spos) (bB i (iC ix G g C Fe)) :=
 qq (List.getElem?_eq_some_iff.mp hi').1 (PS.weak (Eh hN hi' hx hc ok.cell ok.kind ok.names ok.free ok.ix hi hb.k hsw hs hf) fun E σ H q=>B2 tk σ H _ q)
def AW (f:FX) (g:GF):cc:=fun k ρ=>og (f ρ) k ρ fun d=>(rO (g d ρ)).bind k.nx
theorem GP {tg e:MO} {f:FX} {g:GF} (he:FE X e f) (hg:FG X tg g) (hs:swapsWithSole [tg] e pos.line X.env=pure false:=by rfl) (hw:swappedStores [tg] e X.env=pure none:=by rfl)
  (h1:(assignEach [tg] X.env).map (·.2)=[assign tg X.env]:=by rfl):FS X (.Assign [tg] e pos) (AW f g):=fun Hb Ob=>PS.weak (yY he hg hs hw h1) fun E σ H ⟨O,ρ,k,r,S,hF,hk⟩ =>
 ⟨O,ρ,S.env,gk.on hF hk S fun d e v H1 s1 d1=>by
  cases hg:g d ρ with
  | none=>rw [hg] at e; exact absurd e.symm hk.ne
  | some ρ1 =>
   rw [hg] at e
   refine⟨O,ρ,d,ρ1,(S.same s1).env,d1,hg,fun σ' E' own=>hk.nx O ρ1 σ' H1 ⟨E',S.base.same' s1,fun i xs a q1 q2=>?_⟩ e⟩
   obtain⟨w1,w2⟩:=own i xs q1
   rw [w1] at q2
   exact S.mine i xs a w2 q2⟩
def kill (is:List Nat) (ρ:av):av:=is.foldl (fun ρ i=>ρ.set i none) ρ
theorem pC:∀ (is:List Nat) (ρ:av) (i:Nat) (x:S),(kill is ρ)[i]?=some (some x)->ρ[i]?=some (some x)
 | [],ρ,i,x,e=>e
 | j::is,ρ,i,x,e=>by
  rcases bO (pC is (ρ.set j none) i x e) with ⟨_,q⟩ | ⟨_,q⟩
  ·cases q
  ·exact q
theorem eF.kill {K:Lj} {Hb:Hp} {Ob O:List MF} {H:Hp} {ρ:av} {σ:St} (E:eF K Hb Ob O H ρ σ) (is:List Nat):eF K Hb Ob O H (kill is ρ) σ :=
 ⟨E.env.forget (pC is ρ),E.base,fun i xs a e1 e2=>E.mine i xs a (pC is ρ i _ e1) e2⟩
def dP (is:List Nat) (F:cc):cc:=fun k ρ=>F k (kill is ρ)
theorem Ez {st:List MQ} {F:cc} (is:List Nat) (h:uF X st F):uF X st (dP is F):=fun Hb Ob=>ww.weak (h Hb Ob) fun E σ H ⟨O,ρ,k,r,S,hF,hk⟩=>⟨O,TG.kill is ρ,k,r,S.kill is,hF,hk⟩
end
def gr (g:GF) (B:cc) (k:Ks):List D->av->R D
 | [],ρ=>k.nx ρ
 | d::ds,ρ=>(rO (g d ρ)).bind fun ρ1=>B ⟨gr g B k ds,k.nx,gr g B k ds,k.ex⟩ ρ1
def lw (G:av->R (List D)) (g:GF) (B:cc):cc:=fun k ρ=>og (G ρ) k ρ fun ds=>gr g B k ds ρ
def lb (H:Hp) (O Ob:List MF):Hp:=fun b=>if b∈O/\b∉Ob then none else H b
theorem wq {H:Hp} {O Ob:List MF} {b:MF} (h1:b∈O) (h2:b∉Ob):lb H O Ob b=none:=by unfold lb; rw [if_pos ⟨h1,h2⟩]
theorem AJ {H:Hp} {O Ob:List MF} {b:MF} {o:HO} (h:lb H O Ob b=some o):H b=some o/\¬ (b∈O/\b∉Ob):=by
 unfold lb at h
 split at h
 ·cases h
 ·rename_i n; exact⟨h,n⟩
theorem Ad {H:Hp} {O Ob:List MF} {b:MF} {o:HO} (h:H b=some o) (n:¬ (b∈O/\b∉Ob)):lb H O Ob b=some o:=by unfold lb; rw [if_neg n]; exact h
theorem Base.loop {Hb:Hp} {Ob:List MF} {H:Hp} {O:List MF} (b:Base Hb Ob H O):Base (lb H O Ob) Ob H O :=
 ⟨fun c o h=>(AJ h).1,b.sub,fun a ha=>by
  by_cases h:a∈Ob
  ·exact .inl h
  ·exact .inr (wq ha h)⟩
theorem Base.back {Hb:Hp} {Ob:List MF} {H H':Hp} {O O':List MF} (b:Base Hb Ob H O) (b':Base (lb H O Ob) Ob H' O'):Base Hb Ob H' O':=by
 have up:bC Hb (lb H O Ob):=fun c o h=>Ad (b.same c o h) fun ⟨z1,z2⟩=>by
  rcases b.new c z1 with z | z
  ·exact z2 z
  ·rw [z] at h; cases h
 exact⟨up.trans b'.same,b'.sub,fun a ha=>(b'.new a ha).imp id up.free⟩
theorem eF.loop {K:Lj} {Hb:Hp} {Ob O:List MF} {H:Hp} {ρ:av} {σ:St} (E:eF K Hb Ob O H ρ σ):eF K (lb H O Ob) Ob O H ρ σ :=
 ⟨E.env,E.base.loop,fun i xs a e1 e2=>by
  obtain⟨_,n⟩:=E.mine i xs a e1 e2
  obtain⟨a',e3,e4,_⟩:=E.env.own i xs e1
  rw [e2] at e3; cases e3
  exact⟨wq e4 n,n⟩⟩
theorem eF.back {K:Lj} {Hb:Hp} {Ob O O':List MF} {H H':Hp} {ρ':av} {σ':St} (b:Base Hb Ob H O) (E:eF K (lb H O Ob) Ob O' H' ρ' σ'):eF K Hb Ob O' H' ρ' σ' :=
 ⟨E.env,b.back E.base,fun i xs a e1 e2=>by
  obtain⟨z,n⟩:=E.mine i xs a e1 e2
  refine⟨?_,n⟩
  have up:bC Hb (lb H O Ob):=fun c o h=>Ad (b.same c o h) fun ⟨z1,z2⟩=>by
   rcases b.new c z1 with z | z
   ·exact z2 z
   ·rw [z] at h; cases h
  exact up.free z⟩
theorem zH {Hb:Hp} {Ob O O':List MF} {H H':Hp} (b:Base Hb Ob H O) (b':Base (lb H O Ob) Ob H' O'):bC (hid H O) (hid H' O'):=fun c o h=>by
 unfold hid at h ⊢
 by_cases hc:c∈O
 ·rw [if_pos hc] at h; cases h
 ·rw [if_neg hc] at h
  have h1:lb H O Ob c=some o:=Ad h fun z=>hc z.1
  rw [if_neg]
  ·exact b'.same _ _ h1
  ·intro z
   rcases b'.new c z with z | z
   ·exact hc (b.sub c z)
   ·rw [h1] at z; cases z
theorem Gf.loop {X:Cx} {Hb:Hp} {Ob O:List MF} {H:Hp} {E E':Ends} {k k':Ks} {r:R D} (hk:Gf X Hb Ob E k r) (b:Base Hb Ob H O) (hn:∀ O' ρ' σ' H',eF X.K (lb H O Ob) Ob O' H' ρ' σ'->k'.nx ρ'=r->E'.nx σ' H') (hc:∀ O' ρ' σ' H',eF X.K (lb H O Ob) Ob O' H' ρ' σ'->k'.ct ρ'=r->E'.ct σ' H')
    (eb:k'.bk=k.nx) (ee:k'.ex=k.ex) (Eb:E'.bk=E.nx) (Er:E'.rt=E.rt):Gf X (lb H O Ob) Ob E' k' r :=
  ⟨hk.ne,hn,fun O' ρ' σ' H' S e=>by rw [Eb]; exact hk.nx O' ρ' σ' H' (S.back b) (by rw [<- eb]; exact e),hc,fun d O' v H' e b' dv=>by rw [Er]; exact hk.rt d O' v H' e (b.back b') dv,
   fun O' ρ' σ' H' x S e=>hk.ex O' ρ' σ' H' x (S.back b) (by rw [<- ee]; exact e)⟩
section
variable {X:Cx} {st:MQ} {rest body:List MQ} {pos:Pos}
theorem HU {tg iter:MO} {G:av->R (List D)} {g:GF} {B:cc} (hp:M0 (model X.prog X.w) X.A X.env X.xe) (hc:X.calm=true) (hi:FI X tg iter G) (hg:FG X tg g) (hb:uF X body B)
  (hs:∀ x,M1 iter X.env x=pure x:=by intro _; rfl):FS X (.For tg iter body [] pos) (lw G g B):=fun Hb Ob pins s σ H E I ⟨O,ρ,k,r,S,hF,hk⟩=>by
 have hall:ww X body (fun E σ H=>∃ Hb',Hv X Hb' Ob B E σ H):=fun pins s σ H E I ⟨Hb',q⟩=>hb Hb' Ob pins s σ H E I q
 refine DQ hp hc hi hg hall hs pins s σ H E I ⟨O,ρ,S.env,gk.on hF hk S fun ds hF J H1 s1 wk=>?_⟩
 have E1:=S.same s1
 refine⟨fun i m σ H=>m=ds.length - i/\i<=ds.length/\∃ O' ρ',eF X.K (lb H1 O Ob) Ob O' H ρ' σ/\gr g B k (ds.drop i) ρ'=r,
  ⟨ds.length,by rw [Nat.sub_zero],Jz _,O,ρ,E1.loop,by rw [J3]; exact hF⟩,?_⟩
 rintro i m σ' H' ⟨rfl,hi',O',ρ',E',hr⟩
 have sD:=zH E1.base E'.base
 by_cases hlt:i < ds.length
 ·right
  obtain⟨go,yl⟩:=(wk H' O' i E'.env.all sD).1 ds[i] (by simp [hlt])
  refine⟨go,fun σ2 H2=>ds.length - (i+1)=ds.length - (i+1)/\i+1<=ds.length/\∃ O' ρ',eF X.K (lb H1 O Ob) Ob O' H2 ρ' σ2/\gr g B k (ds.drop (i+1)) ρ'=r,fun σ2 H2 z=>⟨ds.length - (i+1),by omega,z⟩,fun x H2 y=>?_⟩
  obtain⟨s2,dx⟩:=yl x H2 y
  have E':=E'.same s2
  rw [Ki hlt] at hr
  cases hg':g ds[i] ρ' with
  | none =>
   have hr':(rO (g ds[i] ρ')).bind (fun ρ1=>B ⟨gr g B k (ds.drop (i+1)),k.nx,gr g B k (ds.drop (i+1)),k.ex⟩ ρ1)=r:=hr
   rw [hg'] at hr'
   exact absurd hr'.symm hk.ne
  | some ρ1 =>
   have hr':(rO (g ds[i] ρ')).bind (fun ρ1=>B ⟨gr g B k (ds.drop (i+1)),k.nx,gr g B k (ds.drop (i+1)),k.ex⟩ ρ1)=r:=hr
   rw [hg'] at hr'
   refine⟨O',ρ',ds[i],ρ1,E'.env,dx,hg',fun σ3 E3 own=>?_⟩
   have E3':eF X.K (lb H1 O Ob) Ob O' H2 ρ1 σ3:=⟨E3,E'.base,fun j xs a q1 q2=>by
    obtain⟨w1,w2⟩:=own j xs q1
    rw [w1] at q2
    exact E'.mine j xs a w2 q2⟩
   exact⟨lb H1 O Ob,O',ρ1,⟨gr g B k (ds.drop (i+1)),k.nx,gr g B k (ds.drop (i+1)),k.ex⟩,r,E3',hr',hk.loop E1.base (fun O4 ρ4 σ4 H4 E4 z=>⟨rfl,hlt,O4,ρ4,E4,z⟩) (fun O4 ρ4 σ4 H4 E4 z=>⟨rfl,hlt,O4,ρ4,E4,z⟩) rfl rfl rfl rfl⟩
 ·left
  have ei:i=ds.length:=by omega
  subst ei
  refine⟨(wk H' O' ds.length E'.env.all sD).2 rfl,?_⟩
  rw [List.drop_length] at hr
  exact hk.nx O' ρ' σ' H' (E'.back E1.base) hr
end
end TG
namespace TG
open PySem PySem.Spec L2
variable [aT]

theorem eF.setO {K:Lj} {Hb:Hp} {Ob O:List MF} {H:Hp} {ρ:av} {σ:St} (E:eF K Hb Ob O H ρ σ) {i:Nat} {d d':D} {a:MF} {o:HO} (hi:ρ[i]?=some (some (.own d))) (ha:σ[i]?=some (some (.ref a))) (m:p4 o) (new:iA K (upd H a o) O a d') :
  eF K Hb Ob O (upd H a o) (ρ.set i (some (.own d'))) σ:=by
 obtain⟨a',ha',haO,hat⟩:=E.env.own i d hi
 rw [ha] at ha'; cases ha'
 obtain⟨m1,m2⟩:=E.mine i d a hi ha
 have s:bC (hid H O) (hid (upd H a o) O):=lO haO
 have own:∀ (j:Nat) ys,(ρ.set i (some (.own d')))[j]?=some (some (.own ys))->∃ ys',ρ[j]?=some (some (.own ys')):=fun j ys q=>by
  rcases bO q with ⟨hj,_⟩ | ⟨_,q⟩
  ·rw [hj]; exact⟨d,hi⟩
  ·exact⟨ys,q⟩
 refine⟨⟨fun j d1 e=>?_,fun j ys e=>?_,fun j l ys zs b q1 q2 q3 q4=>?_,E.env.all.upd haO m⟩,⟨fun b u h=>?_,E.base.sub,E.base.new⟩,fun j ys b q1 q2=>?_⟩
 ·rcases bO e with ⟨_,q⟩ | ⟨ne,q⟩
  ·cases q
  ·obtain⟨w,q1,q2⟩:=E.env.val j d1 q
   exact⟨w,q1,q2.mono s⟩
 ·rcases bO e with ⟨hj,q⟩ | ⟨ne,q⟩
  ·cases q
   rw [hj]
   exact⟨a,ha,haO,new⟩
  ·obtain⟨b,q1,q2,q3⟩:=E.env.own j ys q
   have nb:b≠a:=fun z=>ne (E.env.one j i ys d a q hi (by rw [<- z]; exact q1) ha)
   exact⟨b,q1,q2,q3.mono (by rw [aW nb]) s⟩
 ·obtain⟨_,q1'⟩:=own j ys q1
  obtain⟨_,q2'⟩:=own l zs q2
  exact E.env.one j l _ _ b q1' q2' q3 q4
 ·have nb:b≠a:=fun z=>by rw [z,m1] at h; cases h
  rw [aW nb]; exact E.base.same b u h
 ·obtain⟨ys',q⟩:=own j ys q1
  exact E.mine j ys' b q q2
theorem eF.setNew {K:Lj} {Hb:Hp} {Ob O:List MF} {H H':Hp} {ρ:av} {σ:St} (E:eF K Hb Ob O H ρ σ) {i:Nat} {d:D} {p:MF} (hi:i < σ.length) (sm:bC H H') (hp:H p=none) (m:∃ o,H' p=some o/\p4 o) (new:iA K H' (p::O) p d) :
  eF K Hb Ob (p::O) H' (ρ.set i (some (.own d))) (σ.set i (some (.ref p))):=by
 have hpO:p∉O:=E.env.all.not hp
 have s:bC (hid H O) (hid H' (p::O)):=fun b o h=>by
  unfold hid at h ⊢
  by_cases hb:b∈O
  ·rw [if_pos hb] at h; cases h
  ·rw [if_neg hb] at h
   have ne:=bz h hp
   rw [if_neg (by intro z; rcases List.mem_cons.mp z with z | z; exact ne z; exact hb z)]; exact sm _ _ h
 have other:∀ (j:Nat) xs,ρ[j]?=some (some (.own xs))->σ[j]?≠some (some (.ref p)):=fun j xs e z=>by
  obtain⟨a,e1,e2,e3⟩:=E.env.own j xs e
  rw [z] at e1; cases e1
  obtain⟨o,e3⟩:=e3.some
  rw [hp] at e3; cases e3
 refine⟨⟨fun j d' e=>?_,fun j xs e=>?_,fun j k xs ys a e1 e2 e3 e4=>?_,⟨(E.env.all.same sm).1,fun a ha=>?_⟩⟩,⟨E.base.same.trans sm,fun a ha=>Jo _ (E.base.sub a ha),fun a ha=>?_⟩,fun j xs a e1 e2=>?_⟩
 ·rcases bO e with ⟨_,q⟩ | ⟨ne,q⟩
  ·cases q
  ·obtain⟨v,q1,q2⟩:=E.env.val j d' q
   exact⟨v,by rw [Jr (Ne.symm ne)]; exact q1,q2.mono s⟩
 ·rcases bO e with ⟨hj,q⟩ | ⟨ne,q⟩
  ·cases q
   rw [hj]
   exact⟨p,Jq hi,Jn,new⟩
  ·obtain⟨a,q1,q2,q3⟩:=E.env.own j xs q
   obtain⟨o,ho⟩:=q3.some
   exact⟨a,by rw [Jr (Ne.symm ne)]; exact q1,Jo _ q2,q3.mono (oH sm ho) s⟩
 ·rcases bO e1 with ⟨hj,q1⟩ | ⟨nj,q1⟩
  ·rcases bO e2 with ⟨hk,q2⟩ | ⟨nk,q2⟩
   ·exact hj.trans hk.symm
   ·rw [hj,Jq hi] at e3
    cases e3
    rw [Jr (Ne.symm nk)] at e4
    exact absurd e4 (other k ys q2)
  ·rcases bO e2 with ⟨hk,q2⟩ | ⟨nk,q2⟩
   ·rw [hk,Jq hi] at e4
    cases e4
    rw [Jr (Ne.symm nj)] at e3
    exact absurd e3 (other j xs q1)
   ·rw [Jr (Ne.symm nj)] at e3
    rw [Jr (Ne.symm nk)] at e4
    exact E.env.one j k xs ys a q1 q2 e3 e4
 ·rcases List.mem_cons.mp ha with rfl | ha
  ·exact m
  ·exact(E.env.all.same sm).2 a ha
 ·rcases List.mem_cons.mp ha with rfl | ha
  ·exact .inr (E.base.same.free hp)
  ·exact E.base.new a ha
 ·rcases bO e1 with ⟨hj,q1⟩ | ⟨nj,q1⟩
  ·rw [hj,Jq hi] at e2
   cases e2
   exact⟨E.base.same.free hp,fun z=>hpO (E.base.sub p z)⟩
  ·rw [Jr (Ne.symm nj)] at e2
   exact E.mine j xs a q1 e2
def IM (X:Cx) (F:FX):TE:=fun σ H Q=>∃ O ρ,dg X.K O H ρ σ/\gk X σ O H (F ρ) fun d=>∀ p H',bC H H'->H p=none->(∃ o,H' p=some o/\p4 o)->iA X.K H' (p::O) p d->Q (.ref p) H'
def FN (X:Cx) (e:MO) (F:FX):Prop:=PE X e (IM X F)
section
variable {X:Cx} {pos:Pos}
theorem gZ {K:Lj} {H:Hp} {O:List MF} {p:MF} {ds:List D} {vs:List V} (hp:H p=none) (d:aZ K (hid H O) ds vs):iA K (upd H p (.lst vs)) (p::O) p (.lst ds):=⟨_,vs,bF,rfl,d.mono (tS hp)⟩
theorem Im {es:List MO} {g:av->R (List D)} (h:FA X es g):FN X (.List es pos) (dU g) :=
 PE.weak (yn h) fun σ H Q ⟨O,ρ,E,hF⟩=>⟨O,ρ,E,(gk.bind hF).imp fun xs hF vs H1 s1 d1=>by
  obtain⟨d,e,q⟩:=gk.rO hF
  obtain⟨hz,e⟩:=bD e
  subst e
  refine⟨by rw [<- d1.length]; exact de hz,fun p hp=>?_⟩
  exact q p _ (s1.trans (cn hp _)) (s1.free hp) ⟨_,bF,trivial⟩ (gZ hp d1)⟩
theorem GJ {x:Str} {p:Pos} {e:MO} {f:av->R (List D)} (hg:Gl X x) (hm:X.mg x=none) (hv:MJ x=some (.type "list")) (ha:FA X [e] f) (hn:x ≠ "__name__":=by decide) (hdb:(x==("__debug__":Str))=false:=by decide)
  (hns:noStar e=true:=by rfl):FN X (.Call (.Name x p) [e] [] pos) (fL nY f) :=
 PE.weak (rC (sB) hg hm hv ha hn hdb (cW hns) (dS rfl)) fun σ H Q ⟨O,ρ,E,hF⟩=>⟨O,ρ,E,(gk.bind hF).imp fun ds hF vs H1 s1 d1=>by
  obtain⟨d,hg,q⟩:=gk.rO hF
  unfold nY at hg
  split at hg
  ·rename_i ys
   cases hg
   obtain⟨v,ev,h1⟩:=d1.one
   rw [cg] at h1
   obtain⟨p,ws,ep,g1,g2⟩:=h1
   exact⟨p,ws,by rw [ev,ep],.inl ((aM H1 O).seq g1),fun l hl=>q l _ (s1.trans (cn hl _)) (s1.free hl) ⟨_,bF,trivial⟩ (gZ hl g2)⟩
  ·rename_i ys
   cases hg
   obtain⟨v,ev,h1⟩:=d1.one
   rw [cf] at h1
   obtain⟨p,ws,ep,g1,g2⟩:=h1
   exact⟨p,ws,by rw [ev,ep],.inr (cu (aM H1 O) g1),fun l hl=>q l _ (s1.trans (cn hl _)) (s1.free hl) ⟨_,bF,trivial⟩ (gZ hl g2)⟩
  ·cases hg⟩
def tJ:FX:=fun _=>.ok (.dct [] [])
theorem EH:FN X (.Dict [] [] pos) tJ:=PE.weak zg fun σ H Q ⟨O,ρ,E,q⟩ p hp=>q p _ (cn hp _) hp ⟨_,bF,trivial⟩ ⟨_,[],bF,bZ.mpr rfl,.inr ⟨[],rfl,rfl,rfl⟩⟩
def lu (i:Nat) (f:FX):cc:=fun k ρ=>og (f ρ) k ρ fun d=>k.nx (ρ.set i (some (.own d)))
theorem wR {st:MQ} {f:FX} {i:Nat} (hi:i < X.N.length) (h:PS X st (zy (IM X f) (qS i))):FS X st (lu i f):=fun Hb Ob pins s σ H E I ⟨O,ρ,k,r,S,hF,hk⟩ =>
 h pins s σ H E I ⟨O,ρ,S.env,gk.on hF hk S fun d e p H1 s1 hp m o=>hk.nx _ _ _ H1 (S.setNew (by rw [I.len]; exact hi) s1 hp m o) e⟩
theorem HG {i:Nat} {x:Str} {e:MO} {f:FX} {pos':Pos} (hN:X.N.Nodup) (hi:X.N[i]?=some x) (hx:Loc X.env.scope x) (he:FN X e f) (hs:swapsWith e (some (.Name x pos')) pos.line X.env=pure false:=by rfl) (hf:X.fn x=true\/X.env.scope.names.lookup x=some .local:=by first | exact .inl rfl | exact .inr rfl | assumption) :
  FS X (.Assign [.Name x pos'] e pos) (lu i f):=wR (List.getElem?_eq_some_iff.mp hi).1 (zk hN hi hx he hs hf)
end
def oM (i:Nat) (u:List D->List D->Option (List D)) (f:av->R (List D)):cc:=fun k ρ=>match ρ[i]? with
 | some (some (.own (.lst xs)))=>og (f ρ) k ρ fun ds=>(rO (u xs ds)).bind fun ys=>k.nx (ρ.set i (some (.own (.lst ys))))
 | _=>un
def nT (K:Lj) (r:V->List V->Hp->VK->Prop) (u:List D->List D->Option (List D)):Prop :=
 ∀ (H:Hp) (O:List MF) (a:MF) (xs ys as:List D) (ws vs:List V) (Q:VK),dt H O->a∈O->H a=some (.lst ws)->aZ K (hid H O) xs ws->aZ K (hid H O) as vs->u xs as=some ys->(∀ ws' v,aZ K (hid H O) ys ws'->Q v (upd H a (.lst ws')))->r (.ref a) vs H Q
theorem jQ {K:Lj} {H:Hp} {O:List MF} {a:MF} {ys:List D} {ws:List V} (ha:a∈O) (h:aZ K (hid H O) ys ws):iA K (upd H a (.lst ws)) O a (.lst ys):=⟨_,ws,bF,rfl,h.mono (lO ha)⟩
theorem IJ {X:Cx} {i:Nat} {x m:Str} {id:String} {r:V->List V->Hp->VK->Prop} {u:List D->List D->Option (List D)} {e:MO} {es:List MO} {f:av->R (List D)} {npos apos cpos pos:Pos} (slot:Slot "list" m id) (hty:typeOf (.builtin id)=pure (.type "method_descriptor")) (hm:Ci X id r) (ok:nT X.K r u) (hx:PE X (.Name x npos) (qg i)) (he:FA X (e::es) f)
  (hbase:Np (.Name x npos) m X.env (eval (.Name x npos) X.env)=eval (.Name x npos) X.env:=by rfl)
  (hfew:((backTo cpos (MP (e::es) X.env)).all (fun x=>!x.1) && (backToKw cpos (M9 [] X.env)).all (fun x=>x.1.isSome)
   && decide ((e::es:List MO).length+([]:List Nq).length+(if ([]:List Nq).isEmpty then 0 else 1) < 30))=true:=by rfl)
  (hline:(apos.endLine==cpos.line)=true:=by rfl) (hs:MP (e::es) X.env=(false,eval e X.env)::MP es X.env:=by rfl) (hplain:(backTo cpos (MP es X.env)).any (·.1)=false:=by rfl)
  (hsw:swapsWith (.Call (.Attribute (.Name x npos) m apos) (e::es) [] cpos) none pos.line X.env=pure false:=by rfl) :
  FS X (.Expr (.Call (.Attribute (.Name x npos) m apos) (e::es) [] cpos) pos) (oM i u f):=fun Hb Ob pins s σ H E I ⟨O,ρ,k,rr,S,hF,hk⟩=>by
 unfold oM at hF
 split at hF
 ·rename_i xs hxs
  obtain⟨a,ha,haO,hat⟩:=S.env.own i _ hxs
  obtain⟨o,vs0,ho,eo,dn⟩:=hat
  subst eo
  refine sM (zR F.plainAttrs_list slot hty hm hx he hbase hfew hline hs hplain) hsw pins s σ H E I ⟨.ref a,ha,.inl ⟨rfl,vs0,la.of ho⟩,O,ρ,S.env,gk.on hF hk S fun ds hr vs H1 s1 d1=>?_⟩
  have S1:=S.same s1
  cases hu1:u xs ds with
  | none=>rw [hu1] at hr; exact absurd hr.symm hk.ne
  | some ys =>
   rw [hu1] at hr
   exact ok H1 O a xs ys ds vs0 vs _ S1.env.all haO (s1 _ _ ho) (dn.mono (cq s1)) d1 hu1 fun ws' v new=>hk.nx O _ σ _ (S1.setO hxs ha trivial (jQ haO new)) hr
 ·exact absurd hF.symm hk.ne
def gx (xs:List D) (ds:List D):Option (List D):=match ds with
 | [y]=>if small (xs.length+1) then some (xs++[y]) else none
 | _=>none
theorem eD {K:Lj}:nT K wF gx:=fun H O a xs ys as ws vs Q hO haO ha dx da hu q=>by
 unfold gx at hu
 split at hu
 ·rename_i y
  obtain⟨h1,h2⟩:=bD hu
  subst h2
  obtain⟨v,rfl,dv⟩:=da.one
  have:=de h1
  rw [dx.length] at this
  exact⟨a,ws,v,rfl,rfl,ha,by omega,q _ _ (dx.snoc dv)⟩
 ·cases hu
def uH (xs:List D) (ds:List D):Option (List D):=match ds with
 | [.int i,y]=>if decide (0<=i/\i<=xs.length) && small (xs.length+1) then some (xs.take i.toNat++y::xs.drop i.toNat) else none
 | _=>none
def vG:V->List V->Hp->VK->Prop:=fun x vs H Q=>∃ l xs i y,x=.ref l/\vs=[.int i,y]/\H l=some (.lst xs)/\0<=i/\i<=xs.length/\xs.length < 100001/\Q .non (upd H l (.lst (xs.take i.toNat++y::xs.drop i.toNat)))
theorem xX {X:Cx}:Ci X "list.insert" vG:=by
 intro pins s σ H x vs v us Q I rx rv h
 obtain⟨l,xs,i,y,rfl,rfl,hH,h0,h1,hz,q⟩:=h
 cases rx
 obtain⟨u1,u,rfl,r1,ru⟩:=rv.two
 obtain⟨t,rfl⟩:=r1
 obtain⟨z,its,n,r,hl,e⟩:=I.lstM hH
 have hfit:¬ (!Builtin.List.listFitsIndex i)=true:=by
  have e:Builtin.List.listFitsIndex i=true:=by
   unfold Builtin.List.listFitsIndex
   rw [JZ]
   exact⟨decide_eq_true ‹0›,decide_eq_true ‹0›⟩
  rw [e]; decide
 refine Nr F.slot_list_insert ⟨_,e,rfl⟩ F.entry_list_insert (F.args_list_insert_3 _ _ _) (AutoSeq1.list_insert_list_int_val_1 l its.toArray n i t u hfit (by rw [Jw]; omega)) ⟨e,?_⟩
 refine⟨.non,_,I.lset (its':=its.take i.toNat++u::its.drop i.toNat) hH e ?_ ((r.take _).append (.cons ru (r.drop _))) ?_,rfl,q⟩
 ·have e1:(if i < 0 then (i+(its.toArray.size:Int)).toNat else min i.toNat its.toArray.size)=i.toNat:=by
   rw [if_neg ‹0›,Jw]; omega
  show (its.toArray.extract 0 (if i < 0 then (i+(its.toArray.size:Int)).toNat else min i.toNat its.toArray.size)).push u++its.toArray.extract (if i < 0 then (i+(its.toArray.size:Int)).toNat else min i.toNat its.toArray.size)=_
  rw [e1]
  apply Array.ext'
  simp [List.take_of_length_le]
 ·rw [JH,List.length_take,JT,List.length_drop,M6]
  omega
theorem xW {K:Lj}:nT K vG uH:=fun H O a xs ys as ws vs Q hO haO ha dx da hu q=>by
 unfold uH at hu
 split at hu
 ·rename_i i y
  obtain⟨h1,h2⟩:=bD hu
  subst h2
  rw [JZ] at h1
  obtain⟨i0,i1⟩:=of_decide_eq_true h1.1
  have hz:xs.length+1<=100000:=of_decide_eq_true h1.2
  obtain⟨v,w,rfl,dv,dw⟩:=da.two
  have hl:=dx.length
  refine⟨a,ws,i,w,rfl,by rw [eR.mp dv],ha,i0,by omega,by omega,q _ _ ?_⟩
  exact(dx.take _).append (bx.mpr ⟨w,_,rfl,dw,dx.drop _⟩)
 ·cases hu
def jF (i:Nat) (fi fv:FX):cc:=fun k ρ=>match ρ[i]? with
 | some (some (.own (.lst xs)))=>og ((fv ρ).bind fun y=>(fi ρ).bind fun j=>.ok (y,j)) k ρ fun p=>match p.2 with
  | .int j=>match uE xs.length j with
   | some n=>k.nx (ρ.set i (some (.own (.lst (xs.set n p.1)))))
   | none=>un
  | _=>un
 | _=>un
theorem Bc {X:Cx} {i:Nat} {x:Str} {idx value:MO} {fi fv:FX} {npos tpos pos:Pos} (hx:PE X (.Name x npos) (qg i)) (hi:FE X idx fi) (hv:FE X value fv)
  (hs:swapsWithSole [.Subscript (.Name x npos) idx tpos] value pos.line X.env=pure false:=by rfl) (hw:swappedStores [.Subscript (.Name x npos) idx tpos] value X.env=pure none:=by rfl)
  (h1:(assignEach [.Subscript (.Name x npos) idx tpos] X.env).map (·.2)=[assign (.Subscript (.Name x npos) idx tpos) X.env]:=by rfl)
  (hg:PG X (.Subscript (.Name x npos) idx tpos) (L2.pX (qg i) (tF X fi) B6)) :
  FS X (.Assign [.Subscript (.Name x npos) idx tpos] value pos) (jF i fi fv):=fun Hb Ob pins s σ H E I ⟨O,ρ,k,rr,S,hF,hk⟩=>by
 unfold jF at hF
 split at hF
 ·rename_i xs hxs
  obtain⟨a,ha,haO,hat⟩:=S.env.own i _ hxs
  obtain⟨o,vs0,ho,eo,dn⟩:=hat
  subst eo
  have hP:=gk.on hF hk S (Q:=fun p=>(match p.2 with | .int j=>(match uE xs.length j with | some n=>k.nx (ρ.set i (some (.own (.lst (xs.set n p.1))))) | none=>un) | _=>un)=rr) fun p e=>e
  refine yY hv hg hs hw h1 pins s σ H E I ⟨O,ρ,S.env,(gk.bind hP).imp fun y hP v H1 s1 d1=>?_⟩
  have S1:=S.same s1
  refine⟨.ref a,ha,O,ρ,S1.env,((gk.bind hP).mono s1).imp fun j hP w H2 s2 d2=>?_⟩
  have S2:=S1.same s2
  cases j with
  | int j =>
   cases hn:uE xs.length j with
   | none =>
    have e:(match uE xs.length j with | some n=>k.nx (ρ.set i (some (.own (.lst (xs.set n y))))) | none=>un)=rr:=hP
    rw [hn] at e
    exact absurd e.symm hk.ne
   | some n =>
    have e:(match uE xs.length j with | some n=>k.nx (ρ.set i (some (.own (.lst (xs.set n y))))) | none=>un)=rr:=hP
    rw [hn] at e
    have s12:=s1.trans s2
    refine⟨a,vs0,j,n,rfl,eR.mp d2,s12 _ _ ho,by rw [<- dn.length]; exact hn,hk.nx O _ σ _ (S2.setO hxs ha trivial (jQ haO ?_)) e⟩
    exact(dn.mono (cq s12)).set (d1.mono (cq s2)) n
  | _=>exact absurd (show un=rr from hP).symm hk.ne
 ·exact absurd hF.symm hk.ne
def frz (i:Nat) (ρ:av):av:=match ρ[i]? with
 | some (some (.own d))=>setV i d ρ
 | _=>ρ
theorem dg.frz {K:Lj} {O:List MF} {H:Hp} {ρ:av} {σ:St} (E:dg K O H ρ σ) (i:Nat):∃ O',dg K O' H (frz i ρ) σ/\(∀ b∈O',b∈O)/\∀ b∈O,b∉O'->∃ d,ρ[i]?=some (some (.own d))/\σ[i]?=some (some (.ref b)):=by
 unfold TG.frz
 split
 ·rename_i d hd
  obtain⟨a,ha,haO,hat⟩:=E.own i d hd
  have sub:∀ b∈O.filter (fun b=>decide (b≠a)),b∈O:=fun b hb=>(List.mem_filter.mp hb).1
  have s:bC (hid H O) (hid H (O.filter fun b=>decide (b≠a))):=jH sub
  have na:a∉O.filter fun b=>decide (b≠a):=fun z=>absurd rfl (of_decide_eq_true (List.mem_filter.mp z).2)
  refine⟨O.filter fun b=>decide (b≠a),⟨fun j d' e=>?_,fun j ys e=>?_,fun j l ys zs b q1 q2 q3 q4=>?_,⟨E.all.1,fun b hb=>E.all.2 b (sub b hb)⟩⟩,sub,fun b hb nb=>?_⟩
  ·rcases bO e with ⟨hj,q⟩ | ⟨ne,q⟩
   ·cases q
    rw [hj]
    exact⟨.ref a,ha,hat.den s na⟩
   ·obtain⟨w,q1,q2⟩:=E.val j d' q
    exact⟨w,q1,q2.mono s⟩
  ·rcases bO e with ⟨_,q⟩ | ⟨ne,q⟩
   ·cases q
   ·obtain⟨b,q1,q2,q3⟩:=E.own j ys q
    have nb:b≠a:=fun z=>ne (E.one j i ys d a q hd (by rw [<- z]; exact q1) ha)
    exact⟨b,q1,List.mem_filter.mpr ⟨q2,decide_eq_true nb⟩,q3.mono rfl s⟩
  ·rcases bO q1 with ⟨_,q⟩ | ⟨_,q⟩
   ·cases q
   ·rcases bO q2 with ⟨_,q'⟩ | ⟨_,q'⟩
    ·cases q'
    ·exact E.one j l ys zs b q q' q3 q4
  ·by_cases z:b=a
   ·exact⟨d,hd,by rw [z]; exact ha⟩
   ·exact absurd (List.mem_filter.mpr ⟨hb,decide_eq_true z⟩) nb
 ·exact⟨O,E,fun _ z=>z,fun b hb nb=>absurd hb nb⟩
theorem eF.frz {K:Lj} {Hb:Hp} {Ob O:List MF} {H:Hp} {ρ:av} {σ:St} (E:eF K Hb Ob O H ρ σ) (i:Nat):∃ O',eF K Hb Ob O' H (frz i ρ) σ:=by
 obtain⟨O',E',sub,gone⟩:=E.env.frz i
 refine⟨O',E',⟨E.base.same,fun a ha=>?_,fun a ha=>E.base.new a (sub a ha)⟩,fun j xs a q1 q2=>?_⟩
 ·by_cases z:a∈O'
  ·exact z
  ·obtain⟨d,e1,e2⟩:=gone a (E.base.sub a ha) z
   exact absurd ha (E.mine i d a e1 e2).2
 ·have q:ρ[j]?=some (some (.own xs)):=by
   unfold TG.frz at q1
   split at q1
   ·rcases bO q1 with ⟨_,q⟩ | ⟨_,q⟩
    ·cases q
    ·exact q
   ·exact q1
  exact E.mine j xs a q q2
def ir (i:Nat) (F:cc):cc:=fun k ρ=>F k (frz i ρ)
theorem Gw {X:Cx} {st:List MQ} {F:cc} (i:Nat) (h:uF X st F):uF X st (ir i F):=fun Hb Ob=>ww.weak (h Hb Ob) fun E σ H ⟨O,ρ,k,r,S,hF,hk⟩=>by
 obtain⟨O',S'⟩:=S.frz i
 exact⟨O',TG.frz i ρ,k,r,S',hF,hk⟩
mutual
def lf:D->Bool
 | .tup xs=>Ae xs
 | .lst _=>false
 | .dct _ _=>false
 | .obj _ _ vs=>Ae vs
 | .exc _ _ _=>false
 | _=>true
def Ae:List D->Bool
 | []=>true
 | x::xs=>lf x && Ae xs
end
mutual
theorem zN {K:Lj} {H:Hp} {O O':List MF} (hO:dt H O):∀ {d:D} {v:V},lf d=true->cm K (hid H O') d v->cm K (hid H O) d v
 | .non,_,_,h=>by unfold cm at h ⊢; exact h
 | .bl _,_,_,h=>by unfold cm at h ⊢; exact h
 | .int _,_,_,h=>by unfold cm at h ⊢; exact h
 | .str _,_,_,h=>by unfold cm at h ⊢; exact h
 | .lst _,_,l,_=>by unfold lf at l; cases l
 | .dct _ _,_,l,_=>by unfold lf at l; cases l
 | .exc _ _ _,_,l,_=>by unfold lf at l; cases l
 | .obj c fs xs,_,l,h=>by
  unfold lf at l
  rw [Bb] at h ⊢
  obtain⟨a,ws,e,h1,hl,C,dx,hc,ha⟩:=h
  refine⟨a,ws,e,oz hO l h1,hl,C,dx,hc,?_⟩
  have q':=aM H O' a _ ha
  rw [fY fun z=>by obtain⟨u,e1,e2⟩:=hO.2 a z; rw [q'] at e1; cases e1; exact e2.elim]
  exact q'
 | .tup xs,_,l,h=>by
  unfold lf at l
  rw [cf] at h ⊢
  obtain⟨a,vs,e,h1,h2⟩:=h
  refine⟨a,vs,e,?_,oz hO l h2⟩
  have key:∀ {o:HO},hid H O' a=some o->¬ p4 o->hid H O a=some o:=fun {o} q n=>by
   have q':=aM H O' a o q
   rw [fY fun z=>by obtain⟨u,e1,e2⟩:=hO.2 a z; rw [q'] at e1; cases e1; exact n e2]
   exact q'
  exact key h1 fun z=>z.elim
theorem oz {K:Lj} {H:Hp} {O O':List MF} (hO:dt H O):∀ {ds:List D} {vs:List V},Ae ds=true->aZ K (hid H O') ds vs->aZ K (hid H O) ds vs
 | [],_,_,h=>by rw [bZ] at h ⊢; exact h
 | x::xs,_,l,h=>by
  unfold Ae at l
  rw [JZ] at l
  rw [bx] at h ⊢
  obtain⟨v,r,e,h1,h2⟩:=h
  exact⟨v,r,e,zN hO l.1 h1,oz hO l.2 h2⟩
end
def frzs (is:List Nat) (ρ:av):av:=is.foldl (fun ρ i=>frz i ρ) ρ
theorem dg.frzs {K:Lj} {H:Hp} {σ:St}:∀ (is:List Nat) {O:List MF} {ρ:av},dg K O H ρ σ->∃ O',dg K O' H (frzs is ρ) σ
 | [],O,_,E=>⟨O,E⟩
 | i::is,_,_,E=>by
  obtain⟨O',E',_⟩:=E.frz i
  exact dg.frzs is E'
def md (is:List Nat) (f:FX):FX:=fun ρ=>(uy (f (frzs is ρ))).bind fun d=>if lf d then .ok d else un
def et (is:List Nat) (f:av->R Bool):av->R Bool:=fun ρ=>uy (f (frzs is ρ))
theorem Gq {X:Cx} {e:MO} {f:FX} (is:List Nat) (h:FE X e f):FE X e (md is f):=PE.weak h fun σ H Q ⟨O,ρ,E,hF⟩=>by
 obtain⟨O',E'⟩:=E.frzs is
 refine⟨O',TG.frzs is ρ,E',?_⟩
 unfold md at hF
 cases hf:f (TG.frzs is ρ) with
 | error z=>rw [hf] at hF; exact hF.elim
 | ok d =>
  rw [hf] at hF
  have hF':gk X σ O H (if lf d then .ok d else un) _:=hF
  cases hl:lf d with
  | false=>rw [hl] at hF'; exact hF'.elim
  | true =>
   rw [hl] at hF'
   exact fun v H' s' dv=>hF' v H' s' (zN (E.all.same s') hl dv)
theorem FQ {X:Cx} {e:MO} {f:av->R Bool} (is:List Nat) (h:FT X e f):FT X e (et is f):=PT.weak h fun σ H Q ⟨O,ρ,E,hF⟩=>by
 obtain⟨O',E'⟩:=E.frzs is
 refine⟨O',TG.frzs is ρ,E',?_⟩
 unfold et at hF
 cases hf:f (TG.frzs is ρ) with
 | error z=>rw [hf] at hF; exact hF.elim
 | ok d=>rw [hf] at hF; exact hF
end TG
namespace TG
open PySem PySem.Spec L2
variable [aT]

def w4 (K:Lj) (n:Nat) (g:List D->R D):Sp:=fun vs H Q E=>∃ O ds,vs.length=n/\dt H O/\aZ K (hid H O) ds vs/\match g ds with
 | .ok d=>∀ v H',bC H H'->cm K (hid H' O) d v->Q v H'
 | .error (some x)=>HZ K H O x E
 | .error none=>False
section
variable {X:Cx} {k:Nat} {f C:MF} {fd:Nf} {ps:List Str} {sp:Sp} {x m:Str} {p pos apos:Pos} {e o:MO} {es:List MO} {ta:TE} {t:TA}
theorem v8 {pins:List (MF×Obj)} {σ:St} {H:Hp} {s:ML} {Q:VK} {E:XK} {us:List MC} {vs:List V} (F:kT X.prog X.w X.K X.mg X.base (lS X.prog X.w) k f fd ps sp) (hr:ik k X.A) (hb:Binds X.K fd ps []) (hx:iR (lS X.prog X.w) X σ E)
  (I:Inv X pins σ H s) (r:Vals vs us) (h:sp vs H Q E):MN (model X.prog X.w) X.A (call (.ref f) us) (EP X pins σ Q) X.xe s:=by
 have hl:(us++[]).length=ps.length:=by rw [JA,<- r.length]; exact F.len _ _ _ _ h
 have hb':=hb s us I.kIn hl
 rw [JA] at hb'
 refine Nw (Nt (F.run X.A X.stack s H ⟨us,[]⟩ us vs Q E hr I.env0 hb' r h) fun r s' hq=>?_)
 cases r with
 | error e=>exact hx pins H s e s' I hq
 | ok fl =>
  cases fl with
  | ret u=>exact I.after hq
  | next=>exact False.elim hq
  | brk=>exact False.elim hq
  | cont=>exact False.elim hq
def vv (X:Cx) (sp:Sp) (t:TA):TE:=fun σ H Q=>t σ H fun vs H1=>∃ E,iR (lS X.prog X.w) X σ E/\sp vs H1 Q E
theorem yF (F:kT X.prog X.w X.K X.mg X.base (lS X.prog X.w) k f fd ps sp) (hr:ik k X.A) (hg:Gl X x) (hm:X.mg x=some (.ref f)) (hk:LC X.K (.ref f)=true) (hb:Binds X.K fd ps [])
  (ha:PA X (e::es) t) (hdb:(x==("__debug__":Str))=false:=by decide) (he:MP (e::es) X.env=(false,eval e X.env)::MP es X.env:=by rfl) (hpl:(backTo pos (MP es X.env)).any (·.1)=false:=by rfl) :
  PE X (.Call (.Name x p) (e::es) [] pos) (vv X sp t):=by
 intro pins s σ H Q I h
 refine Nj (km I hg hm ?_ hdb)
 refine LR (h₀:=X.base) I.ok.mod.kin hk (dR (ha pos pins s σ H _ I h) fun us s1 ⟨vs,H1,I1,r,E,hx,q⟩=>⟨I1.kIn,?_⟩) he hpl
 exact v8 F hr hb hx I1 r q
theorem rM {n:Nat} {g:List D->R D} {f:av->R (List D)} (hn:∀ ds,g ds≠un->ds.length=n):∀ σ H Q,tF X (fR g f) σ H Q->vv X (w4 X.K n g) (G6 X f) σ H Q:=fun σ H Q ⟨O,ρ,E,hF⟩ =>
 ⟨O,ρ,E,(gk.bind hF).imp fun ds hF vs H1 s1 d1=>by
  cases hg:g ds with
  | ok d =>
   rw [hg] at hF
   refine⟨E0,vV,O,ds,by rw [<- d1.length]; exact hn ds (by rw [hg]; intro z; cases z),E.all.same s1,d1,?_⟩
   rw [hg]
   exact fun v H2 s2 d2=>hF v H2 (s1.trans s2) d2
  | error z =>
   rw [hg] at hF
   cases z with
   | none=>exact hF.elim
   | some x =>
    refine⟨wG X O H1 x,wf (CD.mono hF s1),O,ds,by rw [<- d1.length]; exact hn ds (by rw [hg]; intro z; cases z),E.all.same s1,d1,?_⟩
    rw [hg]
    exact uf⟩
end
def Callee (P:ME) (w:MD) (K:Lj) (mg:Str->Option MC) (base:MG) (k:Nat) (x:Str) (ps:List Str) (g:List D->R D):Prop :=
 ∃ f fd,kT P w K mg base (lS P w) k f fd ps (w4 K ps.length g)/\Binds K fd ps []/\LC K (.ref f)=true/\mg x=some (.ref f)
def Ar (n:Nat) (g:List D->R D):Prop:=∀ ds,g ds≠un->ds.length=n
theorem D5 {X:Cx} {k k':Nat} {ps:List Str} {g:List D->R D} {h:av->R (List D)} {x:Str} {p pos:Pos} {e:MO} {es:List MO}
  (C:Callee X.prog X.w X.K X.mg X.base k x ps g) (hn:Ar ps.length g) (hr:ik k' X.A) (hk:k<=k') (ha:FA X (e::es) h) (hg:Gl X x:=by rfl)
  (hdb:(x==("__debug__":Str))=false:=by decide) (hns:(e::es).all noStar=true:=by rfl) :
  FE X (.Call (.Name x p) (e::es) [] pos) (fR g h):=by
 obtain⟨f,fd,F,b,kp,m⟩:=C
 exact PE.weak (yF F (hr.mono hk) hg m kp b ha hdb (cW (JZ _ _ ▸ hns).1) (dS (JZ _ _ ▸ hns).2)) (rM hn)
def K0:Ks:={ nx:=fun _=>.ok .non }
def env0 (n:Nat) (ds:List D):av:=ds.map (fun d=>some (.val d))++List.replicate (n - ds.length) none
def bp (B:cc) (np n:Nat):List D->R D:=fun ds=>if ds.length=np then B K0 (env0 n ds) else un
theorem bc {B:cc} {np n:Nat}:Ar np (bp B np n):=fun ds h=>by
 unfold bp at h
 split at h
 ·assumption
 ·exact absurd rfl h
theorem jy {n:Nat} {ds:List D} (i:Nat) (x:S) (e:(env0 n ds)[i]?=some (some x)):∃ d,ds[i]?=some d/\x=.val d:=by
 unfold env0 at e
 by_cases hi:i < ds.length
 ·rw [JE (by rw [JI]; exact hi),JF,J8 hi] at e
  have e':some (S.val ds[i])=some x:=Option.some.inj e
  exact⟨ds[i],by rw [J8 hi],(Option.some.inj e').symm⟩
 ·rw [JC (by rw [JI]; omega),JI,JD] at e
  split at e
  ·cases e
  ·cases e
theorem oX {K:Lj} {O:List MF} {H:Hp} {N:List Str} {ds:List D} {vs:List V} (hO:dt H O) (h:aZ K (hid H O) ds vs):dg K O H (env0 N.length ds) (L2.start N vs):=by
 refine⟨fun i d e=>?_,fun i xs e=>?_,fun i j xs ys a e=>?_,hO⟩
 ·obtain⟨d',e1,e2⟩:=jy i _ e
  cases e2
  obtain⟨v,e3,e4⟩:=h.get e1
  refine⟨v,?_,e4⟩
  unfold L2.start
  have hi:i < vs.length:=(List.getElem?_eq_some_iff.mp e3).1
  rw [JE (by rw [JI]; exact hi),JF,e3]; rfl
 ·obtain⟨d',_,e2⟩:=jy i _ e
  cases e2
 ·obtain⟨d',_,e2⟩:=jy i _ e
  cases e2
section
variable {P:ME} {w:MD} {K:Lj} {mg:Str->Option MC} {base:MG}
structure BodyOk (P:ME) (w:MD) (K:Lj) (mg:Str->Option MC) (base:MG) (k:Nat) (N:List Str) (qual:Str) (st:MQ) (f:MF) (B:cc):Prop where
 h:∀ (cdv:MC) (A:MK) (outer:List Env) (s:ML) (H:Hp) (E:XK),ik k (A.deeper (Ml qual (aC st) s.heap.objs.size f cdv))->M0 (model P w) (A.deeper (Ml qual (aC st) s.heap.objs.size f cdv)) (Ml qual (aC st) s.heap.objs.size f cdv) (kL (lS P w) P w K mg base N qual (aC st) f cdv A outer s H E).xe ->
  uF (kL (lS P w) P w K mg base N qual (aC st) f cdv A outer s H E) (eP st) B
theorem Ic {x qual:Str} {st:MQ} {f:MF} {fd:Nf} {N ps:List Str} {k:Nat} {sp:Sp} {CX:yf} (F:yh K x qual st f fd) (S:bi N ps (aC st)) (len:∀ vs H Q E,sp vs H Q E->vs.length=ps.length)
  (hbody:∀ (cdv:MC) (A:MK) (outer:List Env) (s:ML) (H:Hp) (vs:List V) (Q:VK) (E:XK),ik k (A.deeper (Ml qual (aC st) s.heap.objs.size f cdv))->sp vs H Q E ->
   ∃ t,ww (kL CX P w K mg base N qual (aC st) f cdv A outer s H E) (eP st) t/\t { nx:=fun _ H'=>Q .non H',rt:=Q } (L2.start N vs) H):kT P w K mg base CX (k+1) f fd ps sp:=by
 obtain⟨oc,od,kV,doc,pm,an,cdv,ct,osl,rfl,lk,hcd⟩:=F.ex
 exact Fy lk hcd S len fun A outer s H vs Q E hr hsp=>hbody cdv A outer s H vs Q E hr hsp
theorem sF {x qual:Str} {st:MQ} {f:MF} {fd:Nf} {N ps:List Str} {k:Nat} {B:cc} (F:yh K x qual st f fd) (SC:bi N ps (aC st)) (hb:BodyOk P w K mg base k N qual st f B) :
  kT P w K mg base (lS P w) (k+1) f fd ps (w4 K ps.length (bp B ps.length N.length)):=by
 refine Ic F SC (fun vs H Q E h=>?_) fun cdv A outer s H vs Q E hr h=>?_
 ·obtain⟨O,ds,h1,_⟩:=h
  exact h1
 ·obtain⟨O,ds,h1,h2,h3,h4⟩:=h
  have hl:ds.length=ps.length:=h3.length.trans h1
  have e4:bp B ps.length N.length ds=B K0 (env0 N.length ds):=by unfold bp; rw [if_pos hl]
  rw [e4] at h4
  refine⟨_,hb.h cdv A outer s H E hr PassesOwn.leaving H O,O,env0 N.length ds,K0,_,⟨oX h2 h3,⟨bC.refl H,fun _ z=>z,fun a z=>.inl z⟩,fun i xs a e=>?_⟩,rfl,?_⟩
  ·obtain⟨d',_,e2⟩:=jy i _ e
   cases e2
  ·generalize B K0 (env0 N.length ds)=r at h4
   refine⟨fun z=>by rw [z] at h4; exact h4,fun O' ρ' σ' H' S e=>?_,fun O' ρ' σ' H' S e=>?_,fun O' ρ' σ' H' S e=>?_,fun d O' v H' e b dv=>?_,fun O' ρ' σ' H' x S e=>?_⟩
   ·have e:(.ok .non:R D)=r:=e
    subst e
    exact h4 .non H' S.base.same (jr.mpr rfl)
   ·have e:(un:R D)=r:=e
    subst e
    exact h4.elim
   ·have e:(un:R D)=r:=e
    subst e
    exact h4.elim
   ·subst e
    exact h4 v H' b.same (dv.mono (jH b.sub))
   ·have e:(.error (some x):R D)=r:=e
    subst e
    exact DE h4 S.base.same S.base.sub
theorem bG {x qual:Str} {st:MQ} {f:MF} {fd:Nf} {N ps:List Str} {k:Nat} {B:cc} (F:yh K x qual st f fd) (b:Binds K fd ps []) (m:mg x=some (.ref f)) (SC:bi N ps (aC st)) (hb:BodyOk P w K mg base k N qual st f B) :
  Callee P w K mg base (k+1) x ps (bp B ps.length N.length):=⟨f,fd,sF F SC hb,b,F.kp,m⟩
theorem nV {x qual:Str} {st:MQ} {f:MF} {fd:Nf} {ps:List Str} (k:Nat) (F:yh K x qual st f fd) (b:Binds K fd ps []) (m:mg x=some (.ref f)):Callee P w K mg base k x ps (fun _=>un):=by
 have no:∀ vs H Q E,¬ w4 K ps.length (fun _=>un) vs H Q E:=fun vs H Q E ⟨O,ds,_,_,_,e⟩=>e
 exact⟨f,fd,⟨fun vs H Q E h=>absurd h (no vs H Q E),fun A outer s H args us vs Q E _ _ _ _ h=>absurd h (no vs H Q E)⟩,b,F.kp,m⟩
end
end TG
namespace TG
open PySem PySem.Spec L2
variable [aT]

section
variable {X:Cx} {a b c:MO} {fa fb fc:FX} {pos:Pos}
theorem DF {r:V->Hp->VK->Prop} {g:D->Option D} (s:A3 X.K r g):∀ σ H Q,tF X (f1 g fa) σ H Q->IB r (tF X fa) σ H Q:=fun σ H Q ⟨O,ρ,E,hF⟩=>⟨O,ρ,E,(gk.bind hF).imp fun a hF x H1 s1 d1=>by
 obtain⟨d,e,q⟩:=gk.rO hF
 exact s a d x O H1 Q (E.all.same s1) e d1 fun v H2 s2 d2=>q v H2 (s1.trans s2) d2⟩
def Dl (g g':D->D->Option D) (fa fb fc:FX):FX:=fun ρ=>(fa ρ).bind fun x=>(fb ρ).bind fun y=>(rO (g x y)).bind fun z=>uP z ((fc ρ).bind fun w=>rO (g' y w))
def DT:D->Option D
 | .int i=>some (.int (-i))
 | _=>none
def zV (f:FX):FX:=f1 DT f
theorem G0 (ha:FE X a fa):FE X (.UnaryOp .USub a pos) (zV fa):=PE.weak (ED CZ ha) (DF fun x d v O H Q _ e dv q=>by
 cases x with
 | int i=>cases e; exact⟨i,eR.mp dv,q _ H (bC.refl H) (eR.mpr rfl)⟩
 | _=>cases e)
theorem GK {x:Str} {i:Int} (hg:Gl X x) (hm:∃ t,X.mg x=some (.int i t)) (hd:(x==("__debug__":Str))=false:=by decide):FE X (.Name x pos) (fC (.int i)):=by
 obtain⟨t,m⟩:=hm
 exact jS (vF (v:=.int i) hg m ⟨t,rfl⟩ hd) fun _ _=>eR.mpr rfl
def zM:D->Option D
 | .str x=>if small x.length then some (.str (Txt.upper x)) else none
 | _=>none
def Dd (f:FX):FX:=f1 zM f
def CL:D->Option D
 | .lst xs=>some (.lst xs.reverse)
 | .tup xs=>some (.tup xs.reverse)
 | _=>none
def Hz (f:FX):FX:=f1 CL f
theorem pH {K:Lj} {H:Hp}:∀ {bs:List Bool} {vs:List V} {us:List MC},aZ K H (bs.map .bl) vs->Vals vs us->us=bs.map Value.bool
 | [],vs,us,h,r=>by
  rw [JN,bZ] at h
  subst h
  cases r
  rfl
 | b::bs,vs,us,h,r=>by
  rw [JO,bx] at h
  obtain⟨v,r',e,h1,h2⟩:=h
  subst e
  cases r with
  | cons q1 q2 =>
   rw [jq] at h1
   subst h1
   cases q1
   rw [JO,pH h2 q2]
end

end TG
namespace ZI
open PySem PySem.Spec PyProof.Rows
section
variable {prog:ME} {w:MD} {A:MK} {E:MC->ML->Prop} {s:ML}
theorem vp {it t:MF} {i:Nat} {its:Array MC} {x:MC} {Q:MC->ML->Prop} (hit:s.heap.IsTupleIter it t i) (ht:s.heap.IsTuple t its) (hx:its[i]?=some x)
  (hQ:∀ g,g.IsTupleIter it t (i+1)->Mb it s.heap g->Q x { s with heap:=g }):MN (model prog w) A (Builtin.SmallTypes.nextOf (.ref it)) Q E s:=by
 obtain⟨ob,h1,h2,h3⟩:=id hit
 obtain⟨ol,g1,_,n,g2⟩:=ht
 unfold Builtin.SmallTypes.nextOf
 refine MU (Nx (name:=Str.ofString "__next__") hit.typeIs F.slot_tuple_iterator_next (Ny F.slot_tuple_iterator_next hit.typeIs F.entry_tuple_iterator_next ?_ (F.args_tuple_iterator_next_1 _)))
 show MN _ _ (field (.ref it) 0 >>= _) _ _ s; refine MU (Nz h1 h3 (x:=.ref t) rfl ?_)
 show MN _ _ (if (Value.ref t==Value.none)=true then _ else _) _ _ s; rw [if_neg (show ¬ ((Value.ref t==Value.none)=true) from fun z=>Jx z)]
 show MN _ _ (field (.ref it) 1 >>= _) _ _ s; refine MU (Nz h1 h3 (x:=.int i 0) rfl ?_)
 show MN _ _ (seqItems? (.ref t) >>= _) _ _ s; refine MU (NB g1 g2 ?_)
 simp only [Kl,hx]
 refine MU (wpAny_setField h1 h3 (by simp) (MY ⟨x,rfl,MY (hQ _ ⟨_,Mh _ h1 (Obj.isFreed_of_fields (Obj.data_mapFields h3 _)),(Obj.cls_mapFields ..).trans h2,by rw [Obj.data_mapFields h3]; simp [rawInt]⟩ (Heap.SameBut.update ..))⟩))
theorem xM {it t:MF} {i:Nat} {its:Array MC} {Q:MC->ML->Prop} (hh:A.handled=none) (hit:s.heap.IsTupleIter it t i) (ht:s.heap.IsTuple t its) (hx:its[i]?=none)
  (hE:∀ g e,Heap.ExtBut it s.heap g->(∃ o,g.get? e=some o/\o.cls=.type "StopIteration")->E (.ref e) { s with heap:=g }):MN (model prog w) A (Builtin.SmallTypes.nextOf (.ref it)) Q E s:=by
 obtain⟨ob,h1,h2,h3⟩:=id hit
 obtain⟨ol,g1,_,n,g2⟩:=ht
 unfold Builtin.SmallTypes.nextOf
 refine MU (Nx (name:=Str.ofString "__next__") hit.typeIs F.slot_tuple_iterator_next (Ny F.slot_tuple_iterator_next hit.typeIs F.entry_tuple_iterator_next ?_ (F.args_tuple_iterator_next_1 _)))
 show MN _ _ (field (.ref it) 0 >>= _) _ _ s; refine MU (Nz h1 h3 (x:=.ref t) rfl ?_)
 show MN _ _ (if (Value.ref t==Value.none)=true then _ else _) _ _ s; rw [if_neg (show ¬ ((Value.ref t==Value.none)=true) from fun z=>Jx z)]
 show MN _ _ (field (.ref it) 1 >>= _) _ _ s; refine MU (Nz h1 h3 (x:=.int i 0) rfl ?_)
 show MN _ _ (seqItems? (.ref t) >>= _) _ _ s; refine MU (NB g1 g2 ?_)
 simp only [Kl,hx]; refine MU (wpAny_rule (MU (wpAny_setField h1 h3 (by simp) ?_)))
 show MN _ _ (newExc (.type "StopIteration") [] >>= _) _ _ _; refine MU ?_
 simp only [newExc,newTuple]; refine MU (Nu ?_ (by size_fits))
 refine MU (m:=firstArgMember _ _) (wpAny_of_eq (a:=Value.none) (by first | rfl | (simp only [firstArgMember]; rfl)) ?_); refine Nu ?_ (by size_fits)
 simp only [raiseNew]; refine MU (wpAny_handled ?_)
 first | rw [show A.in1.handled=none from hh] | rw [hh]
 refine MU (MY (wpAny_throw ?_)); exact hE _ _ (((Heap.SameBut.update ..).extBut.push _).push _) ⟨_,Mf _ rfl,rfl⟩
end
theorem DB {prog:ME} {w:MD} {A:MK} (hh:A.handled=none) (it t:MF) (hne:t≠it) (its:Array MC):Draws prog w A it [it,t] its.size (fun i v=>its[i]?=some v) (fun i h=>h.IsTupleIter it t i/\h.IsTuple t its) where
 live:=fun i h ⟨⟨o,e,_⟩,_⟩=>⟨o,e⟩
 frame:=fun i h h' ⟨x,y⟩ k=>⟨x.at fun o e=>k it (by simp) o e,let ⟨o,e,r⟩:=y; ⟨o,k t (by simp) o e,r⟩⟩
 item:=fun i s Q E hi ⟨x,y⟩ hQ=>vp x y (Array.getElem?_eq_getElem hi) fun g hg hs=>hQ _ g s.toks (Array.getElem?_eq_getElem hi) ⟨hg,let ⟨o,e,r⟩:=y; ⟨o,(hs.2 t hne).trans e,r⟩⟩ hs
 done:=fun s Q E ⟨x,y⟩ hE=>xM hh x y (by simp) hE

structure Apart (z TI TO i1 i2:MF) (fp1 fp2:List MF):Prop where
 a1:TI≠z
 a2:TO≠z
 a3:TI≠TO
 b1:z∉fp1
 b2:TO∉fp1
 b3:i2∉fp1
 c1:z∉fp2
 c2:TO∉fp2
 c3:i1∉fp2
 d1:TI≠i1
 d2:TI≠i2
 e1:i1∈fp1
 e2:i2∈fp2
section
variable {prog:ME} {w:MD} {A:MK} {E:MC->ML->Prop} {s:ML} {z TI TO i1 i2:MF} {fp1 fp2:List MF} {n1 n2 i:Nat} {P1 P2:Nat->MC->Prop} {S1 S2:Nat->MG->Prop} {a b:MC}
theorem next_item {Q:MC->ML->Prop} (Ap:Apart z TI TO i1 i2 fp1 fp2) (D1:Draws prog w A i1 fp1 n1 P1 S1) (D2:Draws prog w A i2 fp2 n2 P2 S2) (hz:NC s.heap z TI TO .none) (hTI:ND s.heap TI (.ref i1) (.ref i2)) (hTO:ND s.heap TO a b) (st1:S1 i s.heap) (st2:S2 i s.heap) (l1:i < n1) (l2:i < n2)
  (hQ:∀ x y g tk,P1 i x->P2 i y->NC g z TI TO (rawInt s.heap.objs.size)->ND g TO x y->S1 (i+1) g->S2 (i+1) g->ND g s.heap.objs.size x y->g.objs.size=s.heap.objs.size+1 ->
   (∀ c o,c≠z->c≠TO->c≠i1->c≠i2->s.heap.get? c=some o->g.get? c=some o)->Q (.ref s.heap.objs.size) { s with heap:=g,toks:=tk }) :
  MN (model prog w) A (Builtin.«zip.__next__» ⟨[.ref z],[]⟩) (fun fin s'=>∃ v,fin=.done (.ret v)/\Q v s') E s:=by
 have n1z:i1≠z:=fun e=>Ap.b1 (e ▸ Ap.e1)
 have n2z:i2≠z:=fun e=>Ap.c1 (e ▸ Ap.e2)
 have n1T:i1≠TO:=fun e=>Ap.b2 (e ▸ Ap.e1)
 have n2T:i2≠TO:=fun e=>Ap.c2 (e ▸ Ap.e2)
 show MN _ _ (field (.ref z) 2 >>= _) _ _ _; refine MU (Nz hz rfl (x:=.bool false) rfl ?_)
 show MN _ _ (field (.ref z) 3 >>= _) _ _ _; refine MU (Nz hz rfl (x:=.ref TI) rfl ?_); refine MU (NB hTI rfl ?_)
 show MN _ _ (Builtin.SmallTypes.ownedTupleIsFree (.ref z) >>= _) _ _ _; refine MU ?_
 unfold Builtin.SmallTypes.ownedTupleIsFree; refine MU (Nz hz rfl (x:=.none) rfl (MY ?_))
 simp only [if_true]; refine MU (wpAny_rule ?_); refine MU (Nz hz rfl (x:=.ref TO) rfl ?_)
 refine MU (NE hz (by simp) fun g1 hz1 k1=>?_)
 have hz1:NC g1 z TI TO .ellipsis:=hz1
 refine MU ?_; simp only [Km,List.zipIdx_nil,JX,List.forIn_nil]
 refine MU (MU (NF ?_)); show MN _ _ (Builtin.SmallTypes.nextOf (.ref i1) >>= _) _ _ _
 have q1:S1 i g1:=D1.frame _ _ _ st1 fun b hb o e=>k1.extBut _ _ (fun z'=>Ap.b1 (z' ▸ hb)) e
 refine MU (D1.item i { s with heap:=g1 } _ _ l1 q1 fun x g2 tk2 p1 q2 k2=>MY ?_)
 have t2:ND g2 TO a b:=k2.extBut _ _ n1T.symm (k1.extBut _ _ Ap.a2 hTO)
 refine MU (NB t2 rfl ?_); refine MU (NI t2 fun g3 t3 k3=>?_)
 have t3:ND g3 TO x b:=t3
 refine MU (wpAny_letGo (MY ?_)); refine MU (MU (NF ?_)); show MN _ _ (Builtin.SmallTypes.nextOf (.ref i2) >>= _) _ _ _
 have q3:S2 i g3:=D2.frame _ _ _ st2 fun b hb o e=>k3.extBut _ _ (fun z'=>Ap.c2 (z' ▸ hb)) (k2.extBut _ _ (fun z'=>Ap.c3 (z' ▸ hb)) (k1.extBut _ _ (fun z'=>Ap.c1 (z' ▸ hb)) e))
 refine MU (D2.item i { s with heap:=g3,toks:=tk2 } _ _ l2 q3 fun y g4 tk4 p2 q4 k4=>MY ?_)
 have t4:ND g4 TO x b:=k4.extBut _ _ n2T.symm t3
 refine MU (NB t4 rfl ?_); refine MU (NI t4 fun g5 t5 k5=>?_)
 have t5:ND g5 TO x y:=t5
 refine MU (wpAny_letGo (MY (MY ?_))); refine MU (NB t5 rfl ?_); refine MU (wpAny_newTuple ?_)
 have hsz:g5.objs.size=s.heap.objs.size:=by rw [k5.1,k4.1,k3.1,k2.1,k1.1]
 have hz5:NC g5 z TI TO .ellipsis:=k5.extBut _ _ Ap.a2.symm (k4.extBut _ _ n2z.symm (k3.extBut _ _ Ap.a2.symm (k2.extBut _ _ n1z.symm hz1)))
 have k15:∀ c o,c≠z->c≠TO->c≠i1->c≠i2->s.heap.get? c=some o->g5.get? c=some o:=fun c o c1 c2 c3 c4 e=>k5.extBut _ _ c2 (k4.extBut _ _ c4 (k3.extBut _ _ c2 (k2.extBut _ _ c3 (k1.extBut _ _ c1 e))))
 have r1:S1 (i+1) g5:=D1.frame _ _ _ q2 fun b hb o e=>k5.extBut _ _ (fun z'=>Ap.b2 (z' ▸ hb)) (k4.extBut _ _ (fun z'=>Ap.b3 (z' ▸ hb)) (k3.extBut _ _ (fun z'=>Ap.b2 (z' ▸ hb)) e))
 have r2:S2 (i+1) g5:=D2.frame _ _ _ q4 fun b hb o e=>k5.extBut _ _ (fun z'=>Ap.c2 (z' ▸ hb)) e
 have lz:z < g5.objs.size:=Ma hz5
 show MN _ _ (Builtin.SmallTypes.ownedTupleHandOut (.ref z) (.ref g5.objs.size) >>= _) _ _ _; refine MU ?_
 unfold Builtin.SmallTypes.ownedTupleHandOut
 have hz6:NC (g5.push { cls:=.type "tuple",data:=.seq #[x,y] }) z TI TO .ellipsis:=Md _ hz5
 refine MU (NE hz6 (by simp) fun g7 hz7 k7=>?_)
 have hz7:NC g7 z TI TO (rawInt g5.objs.size):=hz7
 refine NE hz7 (by simp) fun g8 hz8 k8=>?_
 have hz8:NC g8 z TI TO (rawInt g5.objs.size):=hz8
 have up:∀ c o,c≠z->g5.get? c=some o->g8.get? c=some o:=fun c o c1 e=>k8.extBut _ _ c1 (k7.extBut _ _ c1 (Md _ e))
 have t8:ND g8 g5.objs.size x y:=k8.extBut _ _ (Js lz) (k7.extBut _ _ (Js lz) (Mf _ rfl))
 have s8:g8.objs.size=g5.objs.size+1:=by rw [k8.1,k7.1,Mg]
 rw [hsz] at hz8 t8 s8
 refine MY ⟨_,rfl,?_⟩
 show Q (.ref g5.objs.size) _
 rw [hsz]
 exact hQ x y g8 tk4 p1 p2 hz8 (up _ _ Ap.a2 t5) (D1.frame _ _ _ r1 fun b hb o e=>up b o (fun z'=>Ap.b1 (z' ▸ hb)) e) (D2.frame _ _ _ r2 fun b hb o e=>up b o (fun z'=>Ap.c1 (z' ▸ hb)) e) t8 s8 fun c o c1 c2 c3 c4 e=>up c o c1 (k15 c o c1 c2 c3 c4 e)
theorem next_end {Q:Fin->ML->Prop} (Ap:Apart z TI TO i1 i2 fp1 fp2) (D1:Draws prog w A i1 fp1 n1 P1 S1) (D2:Draws prog w A i2 fp2 n2 P2 S2) (hz:NC s.heap z TI TO .none) (hTI:ND s.heap TI (.ref i1) (.ref i2)) (hTO:ND s.heap TO a b) (st1:S1 i s.heap) (st2:S2 i s.heap) (hend:i=n1\/(i < n1/\i=n2))
  (hE:∀ g e tk,(∀ c o,c≠z->c≠TO->c≠i1->c≠i2->s.heap.get? c=some o->g.get? c=some o)->(∃ o,g.get? e=some o/\o.cls=.type "StopIteration")->E (.ref e) { s with heap:=g,toks:=tk }) :
  MN (model prog w) A (Builtin.«zip.__next__» ⟨[.ref z],[]⟩) Q E s:=by
 have n1z:i1≠z:=fun e=>Ap.b1 (e ▸ Ap.e1)
 have n2z:i2≠z:=fun e=>Ap.c1 (e ▸ Ap.e2)
 have n1T:i1≠TO:=fun e=>Ap.b2 (e ▸ Ap.e1)
 show MN _ _ (field (.ref z) 2 >>= _) _ _ _; refine MU (Nz hz rfl (x:=.bool false) rfl ?_)
 show MN _ _ (field (.ref z) 3 >>= _) _ _ _; refine MU (Nz hz rfl (x:=.ref TI) rfl ?_); refine MU (NB hTI rfl ?_)
 show MN _ _ (Builtin.SmallTypes.ownedTupleIsFree (.ref z) >>= _) _ _ _; refine MU ?_
 unfold Builtin.SmallTypes.ownedTupleIsFree; refine MU (Nz hz rfl (x:=.none) rfl (MY ?_))
 simp only [if_true]; refine MU (wpAny_rule ?_); refine MU (Nz hz rfl (x:=.ref TO) rfl ?_)
 refine MU (NE hz (by simp) fun g1 hz1 k1=>?_)
 have hz1:NC g1 z TI TO .ellipsis:=hz1
 refine MU ?_; simp only [Km,List.zipIdx_nil,JX,List.forIn_nil]
 refine MU (MU (NF ?_)); show MN _ _ (Builtin.SmallTypes.nextOf (.ref i1) >>= _) _ _ _
 have q1:S1 i g1:=D1.frame _ _ _ st1 fun b hb o e=>k1.extBut _ _ (fun z'=>Ap.b1 (z' ▸ hb)) e
 rcases hend with hend | ⟨l1,hend⟩
 ·subst hend
  refine MU (D1.done { s with heap:=g1 } _ _ q1 fun g2 e k2 he=>?_)
  obtain⟨oe,hoe,hce⟩:=he
  have hz2:NC g2 z TI TO .ellipsis:=k2 _ _ n1z.symm hz1
  have hez:e≠z:=fun x=>by rw [x,hz2] at hoe; cases hoe; simp at hce
  exact NE hz2 (by simp) fun g3 _ k3=>hE g3 e s.toks (fun c o c1 _ c3 _ x=>k3.extBut _ _ c1 (k2 _ _ c3 (k1.extBut _ _ c1 x))) ⟨oe,k3.extBut _ _ hez hoe,hce⟩
 ·refine MU (D1.item i { s with heap:=g1 } _ _ l1 q1 fun x g2 tk2 p1 q2 k2=>MY ?_)
  have t2:ND g2 TO a b:=k2.extBut _ _ n1T.symm (k1.extBut _ _ Ap.a2 hTO)
  refine MU (NB t2 rfl ?_); refine MU (NI t2 fun g3 t3 k3=>?_)
  refine MU (wpAny_letGo (MY ?_)); refine MU (MU (NF ?_)); show MN _ _ (Builtin.SmallTypes.nextOf (.ref i2) >>= _) _ _ _
  have q3:S2 i g3:=D2.frame _ _ _ st2 fun b hb o e=>k3.extBut _ _ (fun z'=>Ap.c2 (z' ▸ hb)) (k2.extBut _ _ (fun z'=>Ap.c3 (z' ▸ hb)) (k1.extBut _ _ (fun z'=>Ap.c1 (z' ▸ hb)) e))
  subst hend
  refine MU (D2.done { s with heap:=g3,toks:=tk2 } _ _ q3 fun g4 e k4 he=>?_)
  obtain⟨oe,hoe,hce⟩:=he
  have hz4:NC g4 z TI TO .ellipsis:=k4 _ _ n2z.symm (k3.extBut _ _ Ap.a2.symm (k2.extBut _ _ n1z.symm hz1))
  have hez:e≠z:=fun x=>by rw [x,hz4] at hoe; cases hoe; simp at hce
  exact NE hz4 (by simp) fun g5 _ k5=>hE g5 e tk2 (fun c o c1 c2 c3 c4 x=>k5.extBut _ _ c1 (k4 _ _ c4 (k3.extBut _ _ c2 (k2.extBut _ _ c3 (k1.extBut _ _ c1 x))))) ⟨oe,k5.extBut _ _ hez hoe,hce⟩
end
def SQ (b:Bool) (h:MG) (l:MF) (xs:Array MC):Prop:=if b then h.IsList l xs else h.IsTuple l xs
def SI (b:Bool) (h:MG) (i l:MF) (k:Nat):Prop:=if b then h.IsListIter i l k else h.IsTupleIter i l k
def Gn (b:Bool):String:=if b then "list_iterator" else "tuple_iterator"
theorem SQ.keep {b:Bool} {h h':MG} {l:MF} {xs:Array MC} (x:SQ b h l xs) (k:∀ o,h.get? l=some o->h'.get? l=some o):SQ b h' l xs:=by
 cases b with
 | true=>exact Heap.IsList.at x k
 | false=>obtain⟨o,e,r⟩:=(show h.IsTuple l xs from x); exact(show h'.IsTuple l xs from ⟨o,k o e,r⟩)
theorem SI.keep {b:Bool} {h h':MG} {i l:MF} {n:Nat} (x:SI b h i l n) (k:∀ o,h.get? i=some o->h'.get? i=some o):SI b h' i l n:=by
 cases b with
 | true=>exact Heap.IsListIter.at x k
 | false=>exact Heap.IsTupleIter.at x k
theorem SQ.lt {b:Bool} {h:MG} {l:MF} {xs:Array MC} (x:SQ b h l xs):l < h.objs.size:=by
 cases b with
 | true=>obtain⟨o,e,_⟩:=(show h.IsList l xs from x); exact Ma e
 | false=>obtain⟨o,e,_⟩:=(show h.IsTuple l xs from x); exact Ma e
theorem SI.get {b:Bool} {h:MG} {i l:MF} {n:Nat} (x:SI b h i l n):∃ o,h.get? i=some o/\∀ v,o.data≠.cell v:=by
 cases b with
 | true=>obtain⟨o,e,_,d⟩:=(show h.IsListIter i l n from x); exact⟨o,e,fun v z=>by rw [d] at z; cases z⟩
 | false=>obtain⟨o,e,_,d⟩:=(show h.IsTupleIter i l n from x); exact⟨o,e,fun v z=>by rw [d] at z; cases z⟩
theorem SI.new {b:Bool} {h:MG} {l:MF}:SI b (h.push { cls:=.type (Gn b),data:=.fields #[.ref l,.int 0 0] }) h.objs.size l 0:=by
 cases b with
 | true=>exact⟨_,Mf _ rfl,rfl,rfl⟩
 | false=>exact⟨_,Mf _ rfl,rfl,rfl⟩
theorem oS {b:Bool} {prog:ME} {w:MD} {A:MK} {E:MC->ML->Prop} {s:ML} {l:MF} {xs:Array MC} {Q:MC->ML->Prop} (h:SQ b s.heap l xs)
  (hQ:Q (.ref s.heap.objs.size) { s with heap:=s.heap.push { cls:=.type (Gn b),data:=.fields #[.ref l,.int 0 0] } }):MN (model prog w) A (pyIter (.ref l)) Q E s:=by
 cases b with
 | true=>exact MZ h hQ
 | false=>exact wpAny_pyIter_tuple h hQ
theorem kc {prog:ME} {w:MD} {A:MK} (b:Bool) (hh:A.handled=none) (it l:MF) (hne:l≠it) (its:Array MC):Draws prog w A it [it,l] its.size (fun i v=>its[i]?=some v) (fun i h=>SI b h it l i/\SQ b h l its):=by
 cases b with
 | true=>exact Draws.list hh it l hne its
 | false=>exact DB hh it l hne its
abbrev yg (b1:Bool) (h:MG) (l1:MF):MG:=h.push { cls:=.type (Gn b1),data:=.fields #[.ref l1,.int 0 0] }
abbrev EL (b1 b2:Bool) (h:MG) (l1 l2:MF):MG:=(yg b1 h l1).push { cls:=.type (Gn b2),data:=.fields #[.ref l2,.int 0 0] }
abbrev Ga (b1 b2:Bool) (h:MG) (l1 l2:MF):MG:=(EL b1 b2 h l1 l2).push { cls:=.type "tuple",data:=.seq #[.ref h.objs.size,.ref (yg b1 h l1).objs.size] }
abbrev FU (b1 b2:Bool) (h:MG) (l1 l2:MF):MG:=(Ga b1 b2 h l1 l2).push { cls:=.type "tuple",data:=.seq #[.none,.none] }
abbrev BM (b1 b2:Bool) (h:MG) (l1 l2:MF):MG:=(FU b1 b2 h l1 l2).push { cls:=.type "zip",data:=.fields #[.none,.bool false,.bool false,.ref (EL b1 b2 h l1 l2).objs.size,.ref (Ga b1 b2 h l1 l2).objs.size] }
theorem zC (b1 b2:Bool) (l1 l2:MF) (xs ys:Array MC):Meets (Builtin.«zip.__new__» ⟨[.type "zip",.ref l1,.ref l2],[]⟩) (fun _ R s=>SQ b1 s.heap l1 xs/\SQ b2 s.heap l2 ys/\R (.ok (.ret (.ref (FU b1 b2 s.heap l1 l2).objs.size))) { s with heap:=BM b1 b2 s.heap l1 l2 }) :=
 .of_wp fun prog w A R s h=>by
  obtain⟨hp,g,d,tk,os⟩:=s
  obtain⟨q1,q2,h⟩:=h
  have hsub:=sub_zip
  have e1:SQ b1 (Shared.heap ⟨hp,g,d,tk,os⟩) l1 xs:=q1
  have e2:SQ b2 (Shared.heap ⟨yg b1 hp l1,g,d,tk,os⟩) l2 ys:=q2.keep fun o e=>Md _ e
  wp_walk using oS e1,oS e2
  exact⟨_,rfl,h⟩
theorem yJ {prog:ME} {w:MD} {A:MK} {E:MC->ML->Prop} {s:ML} {b1 b2:Bool} {l1 l2:MF} {xs ys:Array MC} {Q:MC->ML->Prop} (h1:SQ b1 s.heap l1 xs) (h2:SQ b2 s.heap l2 ys)
  (h:∀ g,NC g (s.heap.objs.size+4) (s.heap.objs.size+2) (s.heap.objs.size+3) .none->ND g (s.heap.objs.size+2) (.ref s.heap.objs.size) (.ref (s.heap.objs.size+1))->ND g (s.heap.objs.size+3) .none .none->SI b1 g s.heap.objs.size l1 0->SI b2 g (s.heap.objs.size+1) l2 0 ->
   (∀ c o,s.heap.get? c=some o->g.get? c=some o)->Q (.ref (s.heap.objs.size+4)) { s with heap:=g }):MN (model prog w) A (call (.type "zip") [.ref l1,.ref l2]) Q E s:=by
 refine callType_new F.called_zip (by decide) (F.typeCall_zip_2 _ _) (F.newCall_zip_2 _ _) (fun obj=>F.args_object_init_3 obj _ _) F.entry_zip_new (zC b1 b2 l1 l2 xs ys) ⟨h1,h2,?_⟩
 have z1:(yg b1 s.heap l1).objs.size=s.heap.objs.size+1:=Mg ..
 have z2:(EL b1 b2 s.heap l1 l2).objs.size=s.heap.objs.size+2:=by rw [Mg,z1]
 have z3:(Ga b1 b2 s.heap l1 l2).objs.size=s.heap.objs.size+3:=by rw [Mg,z2]
 have z4:(FU b1 b2 s.heap l1 l2).objs.size=s.heap.objs.size+4:=by rw [Mg,z3]
 have u1:∀ c o,(yg b1 s.heap l1).get? c=some o->(BM b1 b2 s.heap l1 l2).get? c=some o:=fun c o e=>Md _ (Md _ (Md _ (Md _ e)))
 have u2:∀ c o,(EL b1 b2 s.heap l1 l2).get? c=some o->(BM b1 b2 s.heap l1 l2).get? c=some o:=fun c o e=>Md _ (Md _ (Md _ e))
 have g5:(BM b1 b2 s.heap l1 l2).get? (FU b1 b2 s.heap l1 l2).objs.size=some _:=Mf _ rfl
 have g4:(BM b1 b2 s.heap l1 l2).get? (Ga b1 b2 s.heap l1 l2).objs.size=some _:=Md _ (Mf _ rfl)
 have g3:(BM b1 b2 s.heap l1 l2).get? (EL b1 b2 s.heap l1 l2).objs.size=some _:=Md _ (Md _ (Mf _ rfl))
 have g2:SI b2 (BM b1 b2 s.heap l1 l2) (yg b1 s.heap l1).objs.size l2 0:=SI.keep (SI.new (h:=yg b1 s.heap l1)) fun o e=>u2 _ o e
 have g1:SI b1 (BM b1 b2 s.heap l1 l2) s.heap.objs.size l1 0:=SI.keep SI.new fun o e=>u1 _ o e
 show _/\_
 rw [z2,z3,z4] at g5
 rw [z1,z2] at g3
 rw [z3] at g4
 rw [z1] at g2
 rw [z4]
 exact⟨⟨_,g5,rfl⟩,h _ g5 g3 g4 g1 g2 fun c o e=>u1 c o (Md _ e)⟩
theorem wV (b : Bool) (l : MF) (xs : Array MC) : Meets (Builtin.«enumerate.__new__» ⟨[.type "enumerate", .ref l], []⟩) (fun _ R s => SQ b s.heap l xs /\
      R (.ok (.ret (.ref (yg b s.heap l).objs.size))) { s with heap:=(yg b s.heap l).push { cls:=.type "enumerate",data:=.fields #[.none,.bool false,.ref s.heap.objs.size,rawInt 0,.none,.none] } }) :=
  .of_wp fun prog w A R s h=>by
    obtain⟨hp,g,d,tk,os⟩:=s
    obtain⟨q1,h⟩:=h
    have hsub:=sub_enumerate
    have e1:SQ b (Shared.heap ⟨hp,g,d,tk,os⟩) l xs:=q1
    wp_walk using oS e1
    refine wpAny_stack_any fun st=>MY ?_
    split
    · rename_i c _ _ _ _ _
      cases (c==Value.type "enumerate") <;> (wp_walk using oS e1; exact⟨_,rfl,h⟩)
    · wp_walk using oS e1
      exact⟨_,rfl,h⟩
end ZI
namespace TG
open PySem PySem.Spec L2 ZI
variable [aT]
section
variable {X:Cx} {pins:List (MF×Obj)} {σ:St} {H:Hp} {s:ML} {h':MG}
theorem Inv.turnedL {ch:List MF} {p:MF} {o:HO} {t':Nat} (I:Inv X pins σ H s) (hf:∀ b∈ch,qj X pins H b) (k:∀ b u,b∉ch->s.heap.get? b=some u->h'.get? b=some u) (hp:s.heap.objs.size<=p) (new:cM X.prog X.w (upd H p o) h' p o) :
  Inv X pins σ (upd H p o) { s with heap:=h',toks:=t' }:=by
 have hn:=I.hok.fresh hp
 have nch:∀ b u,H b=some u->b∉ch:=fun b u e z=>by rw [(hf b z).1] at e; cases e
 refine I.step (g':=s.gens) (d':=s.drawn) (ch:=ch) (fun b hb=>?_) (fun b o _ _ hc e _=>k b o hc e) (fun b o _ _ hc e _=>⟨o.slots,k b o hc e⟩) (fun b u _ q n=>by rw [aW (Jj (Jh (Ma q) hp))]; exact n)
  (fun b o hc e=>⟨o,k b o hc e⟩) (fun b xs q=>by rw [aW (bz q hn)]; exact q) (fun b u xs q=>by rw [aW (bz q hn)]; exact q) (fun b ps q=>⟨#[],by rw [aW (bz q hn),q]; simp⟩) (fun m hm=>?_) (fun b u e=>?_) I.bare
 ·obtain⟨_,f1,_,f3,f4,f5⟩:=hf b hb
  exact⟨f3,f1,f4,f5⟩
 ·obtain⟨o,es,ep,ho,r⟩:=hm
  exact⟨o,es,ep,k _ o (fun z=>(hf _ z).2.1 rfl) ho,r⟩
 ·by_cases hb:b=p
  ·subst hb; rw [bF] at e; cases e; exact new
  ·rw [aW hb] at e
   refine(I.hok b u e).stay (fun c v hc q=>k c v ?_ q) (fun c q=>by rw [aW (bz q hn)]; exact q) fun c xs q=>by rw [aW (bz q hn)]; exact q
   rcases hc with z | z
   ·rw [z]; exact nch b u e
   ·exact nch c _ z
theorem Inv.turned0 {ch:List MF} {t':Nat} (I:Inv X pins σ H s) (hf:∀ b∈ch,qj X pins H b) (k:∀ b u,b∉ch->s.heap.get? b=some u->h'.get? b=some u):Inv X pins σ H { s with heap:=h',toks:=t' }:=by
 have nch:∀ b u,H b=some u->b∉ch:=fun b u e z=>by rw [(hf b z).1] at e; cases e
 refine I.step (g':=s.gens) (d':=s.drawn) (ch:=ch) (fun b hb=>?_) (fun b o _ _ hc e _=>k b o hc e) (fun b o _ _ hc e _=>⟨o.slots,k b o hc e⟩) (fun _ _ _ _ n=>n)
  (fun b o hc e=>⟨o,k b o hc e⟩) (fun _ _ e=>e) (fun _ _ _ e=>e) (fun b ps e=>⟨#[],by rw [e]; simp⟩) (fun m hm=>?_) (fun b u e=>?_) I.bare
 ·obtain⟨_,f1,_,f3,f4,f5⟩:=hf b hb
  exact⟨f3,f1,f4,f5⟩
 ·obtain⟨o,es,ep,ho,r⟩:=hm
  exact⟨o,es,ep,k _ o (fun z=>(hf _ z).2.1 rfl) ho,r⟩
 ·refine(I.hok b u e).stay (fun c v hc q=>k c v ?_ q) (fun _ q=>q) fun _ _ q=>q
  rcases hc with z | z
  ·rw [z]; exact nch b u e
  ·exact nch c _ z
end
def SX (K:Lj) (b:Bool) (H:Hp) (a:MF) (xs:List V):Prop:=if b then la K H a xs else nR K H a xs
theorem SX.same {K:Lj} {b:Bool} {H H':Hp} {a:MF} {xs:List V} (e:bC H H') (h:SX K b H a xs):SX K b H' a xs:=by
 cases b with
 | true=>exact e.seq (show la K H a xs from h)
 | false=>exact xk e (show nR K H a xs from h)
section
variable {X:Cx} {pins:List (MF×Obj)} {σ:St} {H:Hp} {s:ML}
theorem Inv.sx (I:Inv X pins σ H s) {b:Bool} {a:MF} {xs:List V} (h:SX X.K b H a xs):∃ its:List MC,Vals xs its/\SQ b s.heap a its.toArray/\xs.length<=MH:=by
 cases b with
 | true=>obtain⟨its,r,p,z⟩:=I.list (show la X.K H a xs from h); exact⟨its,r,p.isList,z⟩
 | false=>obtain⟨its,r,p,z⟩:=I.tuple (show nR X.K H a xs from h); exact⟨its,r,p,z⟩
theorem Inv.sx_inj (I:Inv X pins σ H s) {b:Bool} {a:MF} {xs ys:List V} (h:SX X.K b H a xs) (h':SX X.K b H a ys):xs=ys:=by
 cases b with
 | true=>exact I.list_inj h h'
 | false=>exact I.tuple_inj h h'
end
def IL (K:Lj) (b1 b2:Bool) (a1 a2:MF):It :=
  ⟨fun i H=>∃ xs ys,SX K b1 H a1 xs/\SX K b2 H a2 ys/\i < xs.length/\i < ys.length,
   fun i H v H'=>∃ p x y,v=.ref p/\H p=none/\H'=upd H p (.tup [x,y])/\(∀ xs,SX K b1 H a1 xs->xs[i]?=some x)/\∀ ys,SX K b2 H a2 ys->ys[i]?=some y,
   fun i H=>∃ xs ys,SX K b1 H a1 xs/\SX K b2 H a2 ys/\(i=xs.length\/(i < xs.length/\i=ys.length))⟩
theorem yu {P:ME} {w:MD} {K:Lj} {es:List MO} {k:Nat} {pos:Pos} {b1 b2:Bool} {a1 a2 z TI TO i1 i2:MF} (Ap:Apart z TI TO i1 i2 [i1,a1] [i2,a2]) (n1:a1≠i1) (n2:a2≠i2) (n3:z≠i1) (n4:z≠i2):Turn P w K (.Tuple es k pos) (IL K b1 b2 a1 a2) [z,TI,TO,i1,i2] z
  (fun i h=>NC h z TI TO .none/\ND h TI (.ref i1) (.ref i2)/\(∃ a b,ND h TO a b)/\SI b1 h i1 a1 i/\SI b2 h i2 a2 i) where
 mem:=by simp
 obj:=fun i h ⟨hz,hI,⟨a,b,hO⟩,s1,s2⟩ c hc=>by
  simp only [Kn,Ko,or_false] at hc
  rcases hc with rfl | rfl | rfl | rfl | rfl
  ·exact⟨_,hz,fun v q=>by cases q⟩
  ·exact⟨_,hI,fun v q=>by cases q⟩
  ·exact⟨_,hO,fun v q=>by cases q⟩
  ·exact s1.get
  ·exact s2.get
 keep:=fun i h h' ⟨hz,hI,⟨a,b,hO⟩,s1,s2⟩ kp=>⟨kp z (by simp) _ hz,kp TI (by simp) _ hI,⟨a,b,kp TO (by simp) _ hO⟩,s1.keep fun o e=>kp i1 (by simp) o e,s2.keep fun o e=>kp i2 (by simp) o e⟩
 item:=by
  intro X hP hw hK hc i pins s σ H E I hf ⟨hz,hI,⟨a,b,hO⟩,s1,s2⟩ hg
  subst hP hw hK
  obtain⟨xs,ys,g1,g2,l1,l2⟩:=hg
  obtain⟨its1,r1,q1,z1⟩:=Inv.sx I g1
  obtain⟨its2,r2,q2,z2⟩:=Inv.sx I g2
  have hh:X.A.in1.handled=none:=I.ok.hd hc
  have hT:s.TypeIs (.ref z) "zip":=⟨_,hz,rfl⟩
  unfold pyNext
  refine MU (NK (Nx (name:=Str.ofString "__next__") hT F.slot_zip_next (Ny F.slot_zip_next hT F.entry_zip_next
   (next_item Ap (kc (A:=X.A.in1) b1 hh i1 a1 n1 its1.toArray) (kc (A:=X.A.in1) b2 hh i2 a2 n2 its2.toArray) hz hI hO ⟨s1,q1⟩ ⟨s2,q2⟩ (by rw [Jw,<- r1.length]; exact l1) (by rw [Jw,<- r2.length]; exact l2) fun u v g tk p1 p2 hz' hO' t1 t2 hp sz kp=>?_) (F.args_zip_next_1 _))))
  have e1:its1[i]?=some u:=by simpa using p1
  have e2:its2[i]?=some v:=by simpa using p2
  have hx:∃ x,xs[i]?=some x/\RelV x u:=by
   obtain⟨u',hu,ru⟩:=r1.get (i:=i) (x:=xs[i]) (by simp [l1])
   rw [e1] at hu; cases hu
   exact⟨xs[i],by simp [l1],ru⟩
  have hy:∃ y,ys[i]?=some y/\RelV y v:=by
   obtain⟨u',hu,ru⟩:=r2.get (i:=i) (x:=ys[i]) (by simp [l2])
   rw [e2] at hu; cases hu
   exact⟨ys[i],by simp [l2],ru⟩
  obtain⟨x,ex,rx⟩:=hx
  obtain⟨y,ey,ry⟩:=hy
  refine MY ⟨_,rfl,?_⟩
  refine wpAny_letOwnedTupleGo_zip hz' fun g' hz2 sb=>?_
  have hpz:s.heap.objs.size≠z:=Js (Ma hz)
  have hp':ND g' s.heap.objs.size u v:=sb.extBut _ _ hpz hp
  have I':Inv X pins σ (upd H s.heap.objs.size (.tup [x,y])) { s with heap:=g',toks:=tk }:=Inv.turnedL (ch:=[z,TI,TO,i1,i2]) I hf (fun c o hc e=>by
   simp only [Kn,Ko,or_false,not_or] at hc
   exact sb.extBut _ _ hc.1 (kp c o hc.1 hc.2.2.1 hc.2.2.2.1 hc.2.2.2.2 e)) (Jt _) ⟨by show 2<=MH; decide,[u,v],.cons rx (.cons ry .nil),_,hp',rfl,_,rfl⟩
  have fr:H s.heap.objs.size=none:=I.fresh
  have ne:∀ c∈[z,TI,TO,i1,i2],c≠s.heap.objs.size:=fun c hc e=>by
   simp only [Kn,Ko,or_false] at hc
   rcases hc with rfl | rfl | rfl | rfl | rfl
   ·exact hpz e.symm
   ·exact absurd (Ma hI) (by rw [e]; exact Ji _)
   ·exact absurd (Ma hO) (by rw [e]; exact Ji _)
   ·obtain⟨o,q,_⟩:=s1.get; exact absurd (Ma q) (by rw [e]; exact Ji _)
   ·obtain⟨o,q,_⟩:=s2.get; exact absurd (Ma q) (by rw [e]; exact Ji _)
  refine⟨.ref s.heap.objs.size,_,I',rfl,⟨_,x,y,rfl,fr,rfl,fun xs' h=>by rw [Inv.sx_inj I h g1]; exact ex,fun ys' h=>by rw [Inv.sx_inj I h g2]; exact ey⟩,⟨hz2,?_,⟨u,v,sb.extBut _ _ Ap.a2 hO'⟩,?_,?_⟩,fun c hc=>by rw [aW (ne c hc)]; exact(hf c hc).1⟩
  ·exact sb.extBut _ _ Ap.a1 (kp TI _ Ap.a1 Ap.a3 Ap.d1 Ap.d2 hI)
  ·exact t1.1.keep fun o e=>sb.extBut _ _ n3.symm e
  ·exact t2.1.keep fun o e=>sb.extBut _ _ n4.symm e
 done:=by
  intro X hP hw hK hc i pins s σ H E I hf ⟨hz,hI,⟨a,b,hO⟩,s1,s2⟩ hg
  subst hP hw hK
  obtain⟨xs,ys,g1,g2,hl⟩:=hg
  obtain⟨its1,r1,q1,z1⟩:=Inv.sx I g1
  obtain⟨its2,r2,q2,z2⟩:=Inv.sx I g2
  have hh:X.A.in1.handled=none:=I.ok.hd hc
  have hT:s.TypeIs (.ref z) "zip":=⟨_,hz,rfl⟩
  unfold pyNext
  refine MU (NK (Nx (name:=Str.ofString "__next__") hT F.slot_zip_next (Ny F.slot_zip_next hT F.entry_zip_next
   (next_end (i:=i) Ap (kc (A:=X.A.in1) b1 hh i1 a1 n1 its1.toArray) (kc (A:=X.A.in1) b2 hh i2 a2 n2 its2.toArray) hz hI hO ⟨s1,q1⟩ ⟨s2,q2⟩ (by rw [Jw,Jw,<- r1.length,<- r2.length]; exact hl) fun g e tk kp he=>?_) (F.args_zip_next_1 _))))
  obtain⟨o,ho,hce⟩:=he
  refine MU (wpAny_isInstance (T := "StopIteration") (b:=true) ⟨o,ho,hce⟩ isSubtype_stop ?_)
  refine MY ⟨rfl,Inv.turned0 (ch:=[z,TI,TO,i1,i2]) I hf fun c o hc e=>?_⟩
  simp only [Kn,Ko,or_false,not_or] at hc
  exact kp c o hc.1 hc.2.2.1 hc.2.2.2.1 hc.2.2.2.2 e
 self:=fun _ _ _ _ _ ⟨hz,_⟩ h=>wpAny_pyIter_zip hz h
def Bf:D->Option (Bool×List D)
 | .lst xs=>some (true,xs)
 | .tup xs=>some (false,xs)
 | _=>none
theorem pV {K:Lj} {H:Hp} {d:D} {b:Bool} {xs:List D} {v:V} (e:Bf d=some (b,xs)) (h:cm K H d v):∃ a vs,v=.ref a/\SX K b H a vs/\aZ K H xs vs:=by
 cases d with
 | lst ys=>cases e; exact cg.mp h
 | tup ys=>cases e; obtain⟨a,vs,e1,e2,e3⟩:=cf.mp h; exact⟨a,vs,e1,nR.of e2,e3⟩
 | _=>cases e
def lr:List D->List D->List D
 | x::xs,y::ys=>.tup [x,y]::lr xs ys
 | _,_=>[]
theorem nI:∀ xs ys:List D,(lr xs ys).length=min xs.length ys.length
 | [],_=>by simp [lr]
 | _::_,[]=>by simp [lr]
 | x::xs,y::ys=>by
  rw [lr,JT,nI xs ys,JT,JT]; omega
theorem uj:∀ {xs ys:List D} {i:Nat} {d:D},(lr xs ys)[i]?=some d->∃ x y,xs[i]?=some x/\ys[i]?=some y/\d=.tup [x,y]
 | [],_,i,d,h=>by simp [lr] at h
 | _::_,[],i,d,h=>by simp [lr] at h
 | x::xs,y::ys,0,d,h=>by
  rw [lr,Kp] at h
  cases h
  exact⟨x,y,rfl,rfl,rfl⟩
 | x::xs,y::ys,i+1,d,h=>by
  rw [lr,Kq] at h
  obtain⟨a,b,h1,h2,h3⟩:=uj h
  exact⟨a,b,by rw [Kq]; exact h1,by rw [Kq]; exact h2,h3⟩
theorem zW {K:Lj} {Hd:Hp} {b1 b2:Bool} {a1 a2:MF} {ds es:List D} {vs ws:List V} (h1:SX K b1 Hd a1 vs) (g1:aZ K Hd ds vs) (h2:SX K b2 Hd a2 ws) (g2:aZ K Hd es ws):Walk K Hd (IL K b1 b2 a1 a2) (lr ds es):=fun Hn O' i hO sm =>
  have s':bC Hd Hn:=sm.trans (aM Hn O')
  ⟨fun d e=>by
    obtain⟨x,y,e1,e2,rfl⟩:=uj e
    have l1:i < ds.length:=(List.getElem?_eq_some_iff.mp e1).1
    have l2:i < es.length:=(List.getElem?_eq_some_iff.mp e2).1
    obtain⟨v,ev,dv⟩:=g1.get e1
    obtain⟨w,ew,dw⟩:=g2.get e2
    refine⟨⟨vs,ws,h1.same s',h2.same s',by rw [<- g1.length]; exact l1,by rw [<- g2.length]; exact l2⟩,fun u H2 ⟨p,x',y',eu,hp,eH,q1,q2⟩=>?_⟩
    have z1:=q1 vs (h1.same s')
    rw [ev] at z1; cases z1
    have z2:=q2 ws (h2.same s')
    rw [ew] at z2; cases z2
    subst eH eu
    exact⟨cn hp _,fU hO hp (bx.mpr ⟨v,_,rfl,dv.mono sm,bx.mpr ⟨w,_,rfl,dw.mono sm,bZ.mpr rfl⟩⟩)⟩,
   fun hl=>by
    rw [nI] at hl
    refine⟨vs,ws,h1.same s',h2.same s',?_⟩
    rw [<- g1.length,<- g2.length]
    omega⟩
def vk:List D->Option (List D)
 | [a,b]=>(Bf a).bind fun x=>(Bf b).bind fun y=>some (lr x.2 y.2)
 | _=>none
def rW (f:av->R (List D)):av->R (List D):=fun ρ=>(f ρ).bind fun ds=>rO (vk ds)
section
variable {X:Cx}
theorem CY {a b c:MF} (h1:a≠b) (h2:a≠c):a∉[b,c]:=fun h=>by
 rcases List.mem_cons.mp h with z | z
 ·exact h1 z
 ·exact h2 (List.mem_singleton.mp z)
theorem xG {n a1 a2:MF} (h1:a1 < n) (h2:a2 < n):Apart (n+4) (n+2) (n+3) n (n+1) [n,a1] [n+1,a2]:=by
 have lt:∀ {a b:Nat},a < b->(b:MF)≠(a:MF):=fun h=>Js h
 have lt':∀ {a b:Nat},a < b->(a:MF)≠(b:MF):=fun h=>Jj h
 have g:∀ k:Nat,a1 < n+k:=fun k=>Jh h1 (Kr _ _)
 have g':∀ k:Nat,a2 < n+k:=fun k=>Jh h2 (Kr _ _)
 have p:∀ {j k:Nat},j < k->n+j < n+k:=fun h=>Kt h n
 have p0:∀ {k:Nat},0 < k->n < n+k:=fun h=>Ku h
 exact⟨lt' (p (by decide)),lt' (p (by decide)),lt' (p (by decide)),CY (lt (p0 (by decide))) (lt (g 4)),CY (lt (p0 (by decide))) (lt (g 3)),CY (lt (p0 (by decide))) (lt (g 1)),
  CY (lt (p (by decide))) (lt (g' 4)),CY (lt (p (by decide))) (lt (g' 3)),CY (lt' (p0 (by decide))) (lt h2),lt (p0 (by decide)),lt (p (by decide)),Jn,Jn⟩
theorem Dj {pins:List (MF×Obj)} {s:ML} {σ:St} {H:Hp} {O:List MF} {es:List MO} {k:Nat} {tpos:Pos} {ds r:List D} {vs:List V} {us:List MC} {RR:It->Hp->Prop} (I:Inv X pins σ H s) (hc:vk ds=some r) (d1:aZ X.K (hid H O) ds vs) (rv:Vals vs us) (q:∀ J,Walk X.K (hid H O) J r->RR J H) :
  MN (model X.prog X.w) X.A (call (.type "zip") us) (fun v s1=>MN (model X.prog X.w) X.A (pyIter v) (PIE X pins σ (.Tuple es k tpos) RR) X.xe s1) X.xe s:=by
 unfold vk at hc
 split at hc
 ·rename_i a b
  obtain⟨⟨b1,xs⟩,e1,hc⟩:=bind_some hc
  obtain⟨⟨b2,ys⟩,e2,hc⟩:=bind_some hc
  cases hc
  obtain⟨va,vb,rfl,da,db⟩:=d1.two
  obtain⟨u1,u2,rfl,r1,r2⟩:=vals2 rv
  obtain⟨a1,ws1,rfl,x1,y1⟩:=pV e1 da
  obtain⟨a2,ws2,rfl,x2,y2⟩:=pV e2 db
  cases r1
  cases r2
  obtain⟨its1,rr1,q1,_⟩:=Inv.sx I (x1.same (aM H O))
  obtain⟨its2,rr2,q2,_⟩:=Inv.sx I (x2.same (aM H O))
  refine yJ q1 q2 fun g hz hI hO s1 s2 kp=>wpAny_pyIter_zip hz ?_
  have Ap:=xG q1.lt q2.lt
  refine⟨_,_,_,_,H,rfl,I.kept (t':=s.toks) kp,yu (b1:=b1) (b2:=b2) Ap (Jj q1.lt) (Jj (Jh q2.lt (Kr _ 1))) (Js (Ku (by decide))) (Js (Kt (by decide) _)),⟨hz,hI,⟨_,_,hO⟩,s1,s2⟩,fun b hb=>?_,q _ (zW x1 y1 x2 y2)⟩
  have le:s.heap.objs.size<=b:=by
   simp only [Kn,Ko,or_false] at hb
   rcases hb with rfl | rfl | rfl | rfl | rfl
   ·exact Kr _ _
   ·exact Kr _ _
   ·exact Kr _ _
   ·exact Jt _
   ·exact Kr _ _
  exact I.fpOk le (I.hok.fresh le)
 ·cases hc
theorem HK {a b:MO} {es:List MO} {k:Nat} {tpos:Pos} {f:av->R (List D)} {p pos:Pos} (hg:Gl X "zip") (hm:X.mg "zip"=none) (ha:FA X [a,b] f) (hs:MP [a,b] X.env=(false,eval a X.env)::MP [b] X.env:=by rfl) (hpl:(backTo pos (MP [b] X.env)).any (·.1)=false:=by rfl):FI X (.Tuple es k tpos) (.Call (.Name "zip" p) [a,b] [] pos) (rW f):=by
 intro pins s σ H RR I ⟨O,ρ,E,hG⟩
 have hA:=ha pos pins s σ H (fun vs H1=>∃ ds r,vk ds=some r/\aZ X.K (hid H1 O) ds vs/\∀ J,Walk X.K (hid H1 O) J r->RR J H1) I ⟨O,ρ,E,(gk.bind hG).imp fun ds hG vs H1 s1 d1=>by
  obtain⟨r,e,q⟩:=gk.rO hG
  exact⟨ds,r,e,d1,fun J wk=>q J H1 s1 wk⟩⟩
 refine Mm (ny I hg hm PyProof.Rows.boot_zip (Mk (dR hA fun us s1 ⟨vs,H1,I1,r1,ds,r,er,d1,q⟩=>?_) hs hpl))
 exact Dj I1 er d1 r1 q
end
def IQ (K:Lj) (b:Bool) (a:MF):It :=
  ⟨fun i H=>∃ xs,SX K b H a xs/\i < xs.length,
   fun i H v H'=>∃ p x,v=.ref p/\H p=none/\H'=upd H p (.tup [.int i,x])/\∀ xs,SX K b H a xs->xs[i]?=some x,
   fun i H=>∃ xs,SX K b H a xs/\i=xs.length⟩
theorem xB {P:ME} {w:MD} {K:Lj} {es:List MO} {k:Nat} {pos:Pos} {b:Bool} {a e it:MF} (n1:a≠it) (n2:e≠it) (n3:e≠a):Turn P w K (.Tuple es k pos) (IQ K b a) [e,it] e (fun i h=>(∃ old,IsEnum h e it i old)/\SI b h it a i) where
 mem:=by simp
 obj:=fun i h ⟨⟨old,he⟩,s1⟩ c hc=>by
  simp only [Kn,Ko,or_false] at hc
  rcases hc with rfl | rfl
  ·exact⟨_,he,fun v q=>by cases q⟩
  ·exact s1.get
 keep:=fun i h h' ⟨⟨old,he⟩,s1⟩ kp=>⟨⟨old,kp e (by simp) _ he⟩,s1.keep fun o q=>kp it (by simp) o q⟩
 item:=by
  intro X hP hw hK hc i pins s σ H E I hf ⟨⟨old,he⟩,s1⟩ hg
  subst hP hw hK
  obtain⟨xs,g1,l1⟩:=hg
  obtain⟨its,r1,q1,z1⟩:=Inv.sx I g1
  have hh:X.A.in1.handled=none:=I.ok.hd hc
  refine wpAny_pyNext_enum_itemD (kc (A:=X.A.in1) b hh it a n1 its.toArray) he ⟨s1,q1⟩ (by rw [Jw,<- r1.length]; exact l1) n2 (CY n2 n3) fun u g tk p1 ho t1 hp sz kp=>?_
  have e1:its[i]?=some u:=by simpa using p1
  obtain⟨u',hu,ru⟩:=r1.get (i:=i) (x:=xs[i]) (by simp [l1])
  rw [e1] at hu; cases hu
  refine⟨_,rfl,wpAny_letOwnedTupleGo_enum ho fun g' he' sb=>?_⟩
  have hpe:s.heap.objs.size≠e:=Js (Ma he)
  have hp':=sb.extBut _ _ hpe hp
  have I':Inv X pins σ (upd H s.heap.objs.size (.tup [.int i,xs[i]])) { s with heap:=g',toks:=tk+1 }:=Inv.turnedL (ch:=[e,it]) I hf (fun c o hc q=>by
   simp only [Kn,Ko,or_false,not_or] at hc
   exact sb.extBut _ _ hc.1 (kp c o hc.1 hc.2 q)) (Jt _) ⟨by show 2<=MH; decide,[.int i tk,u],.cons ⟨_,rfl⟩ (.cons ru .nil),_,hp',rfl,_,rfl⟩
  have ne:∀ c∈[e,it],c≠s.heap.objs.size:=fun c hc q=>by
   simp only [Kn,Ko,or_false] at hc
   rcases hc with rfl | rfl
   ·exact hpe q.symm
   ·obtain⟨o,q',_⟩:=s1.get; exact absurd (Ma q') (by rw [q]; exact Ji _)
  refine⟨.ref s.heap.objs.size,_,I',rfl,⟨_,xs[i],rfl,I.fresh,rfl,fun xs' h=>by rw [Inv.sx_inj I h g1]; simp [l1]⟩,⟨⟨u,?_⟩,t1.1.keep fun o q=>sb.extBut _ _ n2.symm q⟩,fun c hc=>by rw [aW (ne c hc)]; exact(hf c hc).1⟩
  have ei:((i+1:Nat):Int)=(i:Int)+1:=by omega
  rw [ei]; exact he'
 done:=by
  intro X hP hw hK hc i pins s σ H E I hf ⟨⟨old,he⟩,s1⟩ hg
  subst hP hw hK
  obtain⟨xs,g1,l1⟩:=hg
  obtain⟨its,r1,q1,z1⟩:=Inv.sx I g1
  have hh:X.A.in1.handled=none:=I.ok.hd hc
  have el:i=its.toArray.size:=by rw [Jw,<- r1.length]; exact l1
  refine wpAny_pyNext_enum_endD (kc (A:=X.A.in1) b hh it a n1 its.toArray) he ⟨by rw [<- el]; exact s1,q1⟩ fun g kp=>⟨rfl,Inv.turned0 (ch:=[e,it]) I hf fun c o hc q=>?_⟩
  simp only [Kn,Ko,or_false,not_or] at hc
  exact kp c o hc.2 q
 self:=fun _ _ _ _ _ ⟨⟨old,he⟩,_⟩ h=>wpAny_pyIter_enum he h
def jt (i:Nat):List D->List D
 | []=>[]
 | x::xs=>.tup [.int i,x]::jt (i+1) xs
theorem lF:∀ (i:Nat) (xs:List D),(jt i xs).length=xs.length
 | _,[]=>rfl
 | i,x::xs=>by rw [jt,JT,lF (i+1) xs,JT]
theorem qy:∀ {xs:List D} {k i:Nat} {d:D},(jt k xs)[i]?=some d->∃ x,xs[i]?=some x/\d=.tup [.int ((k+i:Nat):Int),x]
 | [],k,i,d,h=>by simp [jt] at h
 | x::xs,k,0,d,h=>by
  rw [jt,Kp] at h
  cases h
  exact⟨x,rfl,rfl⟩
 | x::xs,k,i+1,d,h=>by
  rw [jt,Kq] at h
  obtain⟨y,h1,h2⟩:=qy h
  refine⟨y,by rw [Kq]; exact h1,?_⟩
  rw [h2]
  congr 4
  omega
theorem xx {K:Lj} {Hd:Hp} {b:Bool} {a:MF} {ds:List D} {vs:List V} (h1:SX K b Hd a vs) (g1:aZ K Hd ds vs):Walk K Hd (IQ K b a) (jt 0 ds):=fun Hn O' i hO sm =>
  have s':bC Hd Hn:=sm.trans (aM Hn O')
  ⟨fun d e=>by
    obtain⟨x,e1,rfl⟩:=qy e
    have l1:i < ds.length:=(List.getElem?_eq_some_iff.mp e1).1
    obtain⟨v,ev,dv⟩:=g1.get e1
    refine⟨⟨vs,h1.same s',by rw [<- g1.length]; exact l1⟩,fun u H2 ⟨p,x',eu,hp,eH,q1⟩=>?_⟩
    have z1:=q1 vs (h1.same s')
    rw [ev] at z1; cases z1
    subst eH eu
    rw [Kv]
    exact⟨cn hp _,fU hO hp (bx.mpr ⟨.int i,_,rfl,eR.mpr rfl,bx.mpr ⟨v,_,rfl,dv.mono sm,bZ.mpr rfl⟩⟩)⟩,
   fun hl=>by
    rw [lF] at hl
    exact⟨vs,h1.same s',by rw [<- g1.length]; exact hl⟩⟩
def ra:List D->Option (List D)
 | [a]=>(Bf a).bind fun x=>some (jt 0 x.2)
 | _=>none
def fz (f:av->R (List D)):av->R (List D):=fun ρ=>(f ρ).bind fun ds=>rO (ra ds)
section
variable {X:Cx}
theorem xl {prog:ME} {w:MD} {A:MK} {E:MC->ML->Prop} {s:ML} {b:Bool} {l:MF} {xs:Array MC} {Q:MC->ML->Prop} (h1:SQ b s.heap l xs)
  (h:∀ g,IsEnum g (s.heap.objs.size+1) s.heap.objs.size 0 .none->SI b g s.heap.objs.size l 0->(∀ c o,s.heap.get? c=some o->g.get? c=some o)->Q (.ref (s.heap.objs.size+1)) { s with heap:=g }):MN (model prog w) A (call (.type "enumerate") [.ref l]) Q E s:=by
 refine callType_new F.called_enumerate (by decide) (F.typeCall_enumerate_1 _) (F.newCall_enumerate_1 _) (fun obj=>F.args_object_init_2 obj _) F.entry_enumerate_new (wV b l xs) ⟨h1,?_⟩
 have z1:(yg b s.heap l).objs.size=s.heap.objs.size+1:=Mg ..
 have g2:=Mf (yg b s.heap l) (o:={ cls:=.type "enumerate",data:=.fields #[.none,.bool false,.ref s.heap.objs.size,rawInt 0,.none,.none] }) rfl
 have g1:SI b ((yg b s.heap l).push { cls:=.type "enumerate",data:=.fields #[.none,.bool false,.ref s.heap.objs.size,rawInt 0,.none,.none] }) s.heap.objs.size l 0:=SI.keep SI.new fun o e=>Md _ e
 show _/\_
 rw [z1] at g2 ⊢
 exact⟨⟨_,g2,rfl⟩,h _ g2 g1 fun c o e=>Md _ (Md _ e)⟩
theorem BF {pins:List (MF×Obj)} {s:ML} {σ:St} {H:Hp} {O:List MF} {es:List MO} {k:Nat} {tpos:Pos} {ds r:List D} {vs:List V} {us:List MC} {RR:It->Hp->Prop} (I:Inv X pins σ H s) (hc:ra ds=some r) (d1:aZ X.K (hid H O) ds vs) (rv:Vals vs us) (q:∀ J,Walk X.K (hid H O) J r->RR J H) :
  MN (model X.prog X.w) X.A (call (.type "enumerate") us) (fun v s1=>MN (model X.prog X.w) X.A (pyIter v) (PIE X pins σ (.Tuple es k tpos) RR) X.xe s1) X.xe s:=by
 unfold ra at hc
 split at hc
 ·rename_i a
  obtain⟨⟨b1,xs⟩,e1,hc⟩:=bind_some hc
  cases hc
  obtain⟨va,rfl,da⟩:=d1.one
  obtain⟨u1,rfl,r1⟩:=vals1 rv
  obtain⟨a1,ws1,rfl,x1,y1⟩:=pV e1 da
  cases r1
  obtain⟨its1,rr1,q1,_⟩:=Inv.sx I (x1.same (aM H O))
  refine xl q1 fun g he s1 kp=>wpAny_pyIter_enum he ?_
  refine⟨_,_,_,_,H,rfl,I.kept (t':=s.toks) kp,xB (b:=b1) (Jj q1.lt) (Js (Ku (by decide))) (Js (Jh q1.lt (Kr _ 1))),⟨⟨_,he⟩,s1⟩,fun b hb=>?_,q _ (xx x1 y1)⟩
  have le:s.heap.objs.size<=b:=by
   simp only [Kn,Ko,or_false] at hb
   rcases hb with rfl | rfl
   ·exact Kr _ _
   ·exact Jt _
  exact I.fpOk le (I.hok.fresh le)
 ·cases hc
theorem Bt {a:MO} {es:List MO} {k:Nat} {tpos:Pos} {f:av->R (List D)} {p pos:Pos} (hg:Gl X "enumerate") (hm:X.mg "enumerate"=none) (ha:FA X [a] f) (hs:MP [a] X.env=(false,eval a X.env)::MP [] X.env:=by rfl) (hpl:(backTo pos (MP [] X.env)).any (·.1)=false:=by rfl):FI X (.Tuple es k tpos) (.Call (.Name "enumerate" p) [a] [] pos) (fz f):=by
 intro pins s σ H RR I ⟨O,ρ,E,hG⟩
 have hA:=ha pos pins s σ H (fun vs H1=>∃ ds r,ra ds=some r/\aZ X.K (hid H1 O) ds vs/\∀ J,Walk X.K (hid H1 O) J r->RR J H1) I ⟨O,ρ,E,(gk.bind hG).imp fun ds hG vs H1 s1 d1=>by
  obtain⟨r,e,q⟩:=gk.rO hG
  exact⟨ds,r,e,d1,fun J wk=>q J H1 s1 wk⟩⟩
 refine Mm (ny I hg hm PyProof.Rows.boot_enumerate (Mk (dR hA fun us s1 ⟨vs,H1,I1,r1,ds,r,er,d1,q⟩=>?_) hs hpl))
 exact BF I1 er d1 r1 q
end
end TG
namespace TG
open PySem PySem.Spec L2
variable [aT]

theorem mz {K:Lj} {c:Str} {C C':MF} (h:clsAt K c C) (h':clsAt K c C'):C=C':=by
 unfold clsAt at h h'
 rw [h] at h'
 cases h'; rfl
theorem qp {f:Str}:∀ {fs:List Str} {vs:List V},fs.contains f=false->(fs.zip vs).lookup f=none
 | [],_,_=>by simp
 | _::_,[],_=>by simp
 | g::fs,x::vs,h=>by
  rw [Kw,Bool.or_eq_false_iff] at h
  rw [Kx,JW,h.1]
  exact qp h.2
def Jc (f:Str) (cs:List Str) (d:D):Option D:=match d with
 | .obj c fs vs=>if cs.contains c then (fs.zip vs).lookup f else none
 | _=>none
section
variable {X:Cx} {a o e:MO} {es:List MO} {fa fo:FX} {fas:av->R (List D)} {f m x:Str} {cs:List Str} {pos apos p:Pos} {k k':Nat} {ps:List Str}
def MethAt (P:ME) (w:MD) (K:Lj) (mg:Str->Option MC) (base:MG) (k:Nat) (c m:Str) (ps:List Str) (g:List D->R D):Prop :=
 ∃ C f fd,clsAt K c C/\Dc K C/\Meth K C m f/\kT P w K mg base (lS P w) k f fd ps (w4 K ps.length g)/\Binds K fd ps []
def qW (m:Str) (tbl:List (Str×(List D->R D))) (fo:FX) (fas:av->R (List D)):FX:=fun ρ=>(fo ρ).bind fun o=>match o with
 | .obj c fs vs=>match tbl.lookup c with
  | some g=>if fs.contains m then un else (fas ρ).bind fun as=>g (o::as)
  | none=>un
 | _=>un
def nN (P:ME) (w:MD) (K:Lj) (mg:Str->Option MC) (base:MG) (k:Nat) (m:Str) (ps:List Str) (tbl:List (Str×(List D->R D))):Prop :=
 ∀ c g,tbl.lookup c=some g->MethAt P w K mg base k c m ps g/\Ar ps.length g
theorem Bh {P:ME} {w:MD} {K:Lj} {mg:Str->Option MC} {base:MG}:nN P w K mg base k m ps []:=fun _ _ h=>nomatch h
theorem t6 {P:ME} {w:MD} {K:Lj} {mg:Str->Option MC} {base:MG} {c:Str} {g:List D->R D} {tbl:List (Str×(List D->R D))} (h:MethAt P w K mg base k c m ps g) (hn:Ar ps.length g) (t:nN P w K mg base k m ps tbl):nN P w K mg base k m ps ((c,g)::tbl):=fun c' g' e=>by
 rw [JW] at e
 cases hc:c'==c with
 | true =>
  rw [hc] at e
  cases e
  have:c'=c:=by simpa using hc
  subst this
  exact⟨h,hn⟩
 | false=>rw [hc] at e; exact t c' g' e
theorem MethAt.mono {P:ME} {w:MD} {K:Lj} {mg:Str->Option MC} {base:MG} {c:Str} {g:List D->R D} (h:MethAt P w K mg base k c m ps g) (hk:k<=k'):MethAt P w K mg base k' c m ps g:=by
 obtain⟨C,f,fd,h1,h2,h3,h4,h5⟩:=h
 exact⟨C,f,fd,h1,h2,h3,h4.mono hk,h5⟩
theorem zA {tbl:List (Str×(List D->R D))} {args:List MO} {pl:Sem Bool} (tb:nN X.prog X.w X.K X.mg X.base k m ps tbl) (hr:ik k X.A) (ho:FE X o fo)
  (hc:∀ (pins:List (MF×Obj)) (s1:ML) (σ:St) (H1:Hp) (O:List MF) (ρ:av) (a f:MF) (od:D) (Q:VK) (g:List D->R D) (fd:Nf) (w0:V),LC X.K (.ref f)=true->kT X.prog X.w X.K X.mg X.base (lS X.prog X.w) k f fd ps (w4 X.K ps.length g)->Binds X.K fd ps []->Ar ps.length g->Inv X pins σ H1 s1->dg X.K O H1 ρ σ->cm X.K (hid H1 O) od (.ref a) ->
   (gk X σ O H1 ((fas ρ).bind fun as=>g (od::as)) fun d=>∀ v H',bC H1 H'->cm X.K (hid H' O) d v->Q v H') ->
   MN (model X.prog X.w) X.A (M8 pos (.ref f) [.ref a] (backTo pos (MP args X.env)) (backToKw pos (M9 [] X.env))) (EP X pins σ Q) X.xe s1)
  (ht:eval (.Call (.Attribute o m apos) args [] pos) X.env=(do
   let ov <- eval o X.env
   standAt apos.atName
   let (f,first) <- holding [ov] (getMethod ov m pl)
   M8 pos f first (backTo pos (MP args X.env)) (backToKw pos (M9 [] X.env)))) :
  FE X (.Call (.Attribute o m apos) args [] pos) (qW m tbl fo fas):=by
 intro pins s σ H Q I ⟨O,ρ,E,hF⟩
 refine tG ho I ?_ ht
 refine⟨O,ρ,E,(gk.bind hF).imp fun d hF v H1 s1 d1=>?_⟩
 cases d with
 | obj c fs vs =>
  have hF':gk X σ O H (match tbl.lookup c with | some g=>if fs.contains m then un else (fas ρ).bind fun as=>g (.obj c fs vs::as) | none=>un) _:=hF
  cases hg:tbl.lookup c with
  | none=>rw [hg] at hF'; exact hF'.elim
  | some g =>
   rw [hg] at hF'
   have hF2:gk X σ O H (if fs.contains m then un else (fas ρ).bind fun as=>g (.obj c fs vs::as)) _:=hF'
   cases hm:fs.contains m with
   | true=>rw [hm] at hF2; exact hF2.elim
   | false =>
    rw [hm] at hF2
    have hF3:gk X σ O H ((fas ρ).bind fun as=>g (.obj c fs vs::as)) _:=hF2
    have d0:=d1
    obtain⟨a,ws,ev,g1,g2,C,dx,g3,g4⟩:=Bb.mp d1
    obtain⟨⟨C',f,fd,m1,m2,m3,m4,m5⟩,ar⟩:=tb c g hg
    have eC:=mz g3 m1
    subst eC
    subst ev
    refine⟨a,C,dx,_,f,rfl,aM H1 O _ _ g4,m2,m3,qp hm,fun s2 I2=>?_⟩
    exact hc pins s2 σ H1 O ρ a f _ Q g fd (.ref a) m3.kp m4 m5 ar I2 (E.same s1) d0 ((hF3.mono s1).imp fun d q v H2 s2 d2=>q v H2 (s1.trans s2) d2)
 | _=>exact hF.elim
theorem uM {σ:St} {O:List MF} {H:Hp} {g:List D->R D} {ds:List D} {vs:List V} {Q:VK} {n:Nat} (ar:Ar n g) (hO:dt H O) (d1:aZ X.K (hid H O) ds vs) (h:gk X σ O H (g ds) fun d=>∀ v H',bC H H'->cm X.K (hid H' O) d v->Q v H'):∃ E,iR (lS X.prog X.w) X σ E/\w4 X.K n g vs H Q E:=by
 cases hg:g ds with
 | ok d =>
  rw [hg] at h
  refine⟨E0,vV,O,ds,by rw [<- d1.length]; exact ar ds (by rw [hg]; intro z; cases z),hO,d1,?_⟩
  rw [hg]; exact h
 | error z =>
  rw [hg] at h
  cases z with
  | none=>exact h.elim
  | some x =>
   refine⟨wG X O H x,wf h,O,ds,by rw [<- d1.length]; exact ar ds (by rw [hg]; intro z; cases z),hO,d1,?_⟩
   rw [hg]; exact uf
theorem GN {tbl:List (Str×(List D->R D))} {pl:Sem Bool} (tb:nN X.prog X.w X.K X.mg X.base k m ps tbl) (hr:ik k' X.A) (hk:k<=k') (ho:FE X o fo) (ha:FA X (e::es) fas)
  (hns:(e::es).all noStar=true:=by rfl)
  (ht:eval (.Call (.Attribute o m apos) (e::es) [] pos) X.env=(do
   let ov <- eval o X.env
   standAt apos.atName
   let (f,first) <- holding [ov] (getMethod ov m pl)
   M8 pos f first (backTo pos (MP (e::es) X.env)) (backToKw pos (M9 [] X.env))):=by rfl) :
  FE X (.Call (.Attribute o m apos) (e::es) [] pos) (qW m tbl fo fas) :=
 zA tb (hr.mono hk) ho (fun pins s1 σ H1 O ρ a f od Q g fd _ kp F b ar I1 E1 dO hP=>by
  refine LR (first:=[.ref a]) (h₀:=X.base) I1.ok.mod.kin kp (dR (ha pos pins s1 σ H1 _ I1 ⟨O,ρ,E1,(gk.bind hP).imp fun as hP vs H2 s2 d2=>uM (vs:=.ref a::vs) ar (E1.all.same s2) (bx.mpr ⟨_,_,rfl,dO.mono (cq s2),d2⟩) ((hP.mono s2).imp fun d q v H3 s3 d3=>q v H3 (s2.trans s3) d3)⟩) fun us s2 ⟨vs,H2,I2,r,Ex,hx,q2⟩=>⟨I2.kIn,?_⟩) (cW (JZ _ _ ▸ hns).1) (dS (JZ _ _ ▸ hns).2)
  exact v8 (us:=.ref a::us) (vs:=.ref a::vs) F (hr.mono hk) b hx I2 (.cons rfl r) q2) ht
theorem qH {P:ME} {w:MD} {K:Lj} {mg:Str->Option MC} {base:MG} {c y qual:Str} {C f:MF} {fd:Nf} {st:MQ} {N:List Str} {B:cc} (h1:clsAt K c C) (h2:Dc K C) (h3:Meth K C m f) (F:yh K y qual st f fd) (b:Binds K fd ps []) (SC:bi N ps (aC st)) (hb:BodyOk P w K mg base k N qual st f B) :
  MethAt P w K mg base (k+1) c m ps (bp B ps.length N.length):=⟨C,f,fd,h1,h2,h3,sF F SC hb,b⟩
theorem uo {K:Lj} {H1:Hp} {O:List MF} {c:Str} {fs:List Str} {as:List D} {vs:List V} {C x dx:MF} (hc:clsAt K c C) (hl:as.length=fs.length) (d1:aZ K (hid H1 O) as vs) (hO:dt H1 O) (hx:H1 x=none) (hd:H1 dx=none) (ne:dx≠x) :
  bC H1 (upd (upd (upd H1 dx (.own x)) x (.ins C dx [])) x (.ins C dx (fs.zip vs)))/\cm K (hid (upd (upd (upd H1 dx (.own x)) x (.ins C dx [])) x (.ins C dx (fs.zip vs))) O) (.obj c fs as) (.ref x):=by
 have sm:bC H1 (upd (upd (upd H1 dx (.own x)) x (.ins C dx [])) x (.ins C dx (fs.zip vs))):=fun b o h=>by
  have n1:=bz h hx
  have n2:=bz h hd
  rw [aW n1,aW n1,aW n2]; exact h
 exact⟨sm,Bb.mpr ⟨x,vs,rfl,d1.mono (cq sm),by rw [<- d1.length,hl],C,dx,hc,by rw [fY (hO.not hx),bF]⟩⟩
end
end TG
namespace TG
open PySem PySem.Spec L2
variable [aT]
section
variable {X:Cx}
def B8:List D->Option (List Str)
 | []=>some []
 | .str x::r=>(B8 r).bind fun ys=>some (x::ys)
 | _=>none
def Jb:D->Option Str
 | .str z=>some z
 | _=>none
def II (z:Str) (as:List D):Option D:=match as with
 | [.lst xs]=>(B8 xs).bind fun ys=>if small ((ys.map (fun y=>y.length)).sum+ys.length*z.length) then some (.str (Txt.join z ys)) else none
 | _=>none
def HD (a b:D):Option D:=match a,b with
 | .bl c,.bl d=>some (.bl (c==d))
 | _,_=>none
def A8 (a b:D):Option D:=match a,b with
 | .bl c,.bl d=>some (.bl (!(c==d)))
 | _,_=>none
end
structure IA (K:Lj) (C:MF):Prop where
 makes:Lv K C=true
 init:Lq K (.ref C) "__init__"=some (some (.builtin "object.__init__"))
 kp:LC K (.ref C)=true
section
variable {X:Cx} {C:MF} {pins:List (MF×Obj)} {σ:St} {H:Hp} {s:ML} {Q:VK}
theorem run_plain (M:IA X.K C) (I:Inv X pins σ H s) (h:∀ x dx,H x=none->H dx=none->dx≠x->Q (.ref x) (upd (upd H dx (.own x)) x (.ins C dx []))) :
  MN (model X.prog X.w) X.A (call (.ref C) []) (EP X pins σ Q) X.xe s:=by
 have hq:=h (s.heap.objs.size+1) s.heap.objs.size (I.hok.fresh (JL _)) (I.hok.fresh (Jt _)) (Jj (Nat.lt_succ_self _))
 have I2:=Inv.made (C:=C) I
 have e1:((s.heap.push Lx).push (Lh C s.heap.objs.size)).get? (s.heap.objs.size+1)=some (Lh C s.heap.objs.size):=by
  have:=Mf (s.heap.push Lx) (o:=Lh C s.heap.objs.size) rfl
  rwa [Mg] at this
 have hb:∀ self,Lw (model X.prog X.w) s.heap (bindSpecial (.builtin "object.__init__") self) (.builtin "object.__init__",[self]):=fun self=>PySem.W.Looks.of_pure (PySem.W.oi_bind self)
 refine Nw (xS I.kIn M.makes M.init hb ?_)
 have h3:Lw (model X.prog X.w) ((s.heap.push Lx).push (Lh C s.heap.objs.size)) (isInstance (.ref (s.heap.objs.size+1)) (.type "object")) true:=by
  have h4:Lw (model X.prog X.w) ((s.heap.push Lx).push (Lh C s.heap.objs.size)) (typeOf (.ref (s.heap.objs.size+1))) (.ref C):=PySem.W.Looks.andThen (PySem.W.Looks.ld e1) PySem.W.Looks.now
  exact PySem.W.Looks.andThen h4 (((Ly I.kIn M.makes).top).keeps fun b o q=>Md _ (Md _ q))
 refine NM (b:=Builtin.«object.__init__») PySem.W.oi_plain PySem.W.entry_oi ?_
 have ha:argsOk "object.__init__" { pos:=[Value.ref (s.heap.objs.size+1)],kw:=[] }:=PySem.W.oi_args _
 refine PySem.W.check_slot (i := "object.__init__") (owner := "object") (n := "__init__") (self:=Value.ref (s.heap.objs.size+1)) (rest:=[]) (kw:=[]) PySem.W.oi_kind PySem.W.oi_split h3 ha ?_
 rw [PySem.W.oi_run]
 exact MY ⟨rfl,V.ref (s.heap.objs.size+1),_,I2,rfl,hq⟩
def vZ (K:Lj) (mg:Str->Option MC) (c:Str):Prop:=∃ C,clsAt K c C/\IA K C/\mg c=some (.ref C)
theorem Gm {c:Str} {p pos:Pos} (NA:vZ X.K X.mg c) (hg:Gl X c) (hdb:(c==("__debug__":Str))=false:=by decide):FE X (.Call (.Name c p) [] [] pos) (fC (.obj c [] [])):=by
 obtain⟨C,h1,h2,h3⟩:=NA
 intro pins s σ H Q I ⟨O,ρ,E,hF⟩
 refine Nj (km I hg h3 ?_ hdb)
 refine PySem.W.callWith_K0 I.kIn h2.kp (run_plain h2 I fun x dx hx hd ne=>?_)
 obtain⟨sm,dn⟩:=uo (fs:=[]) (as:=[]) (vs:=[]) h1 rfl (bZ.mpr rfl) E.all hx hd ne
 have e:upd (upd (upd H dx (.own x)) x (.ins C dx [])) x (.ins C dx (([]:List Str).zip []))=upd (upd H dx (.own x)) x (.ins C dx []):=by rw [Bo]; rfl
 rw [e] at sm dn
 exact hF _ _ sm dn
def anyB:List D->Option Bool
 | []=>some false
 | .bl b::r=>(anyB r).bind fun c=>some (b || c)
 | _=>none
def xD:List D->Option D
 | [.lst xs]=>(anyB xs).bind fun b=>some (.bl b)
 | _=>none
theorem tY:∀ {xs:List D} {b:Bool},anyB xs=some b->∃ bs:List Bool,xs=bs.map .bl/\b=bs.any id
 | [],b,h=>by cases h; exact⟨[],rfl,rfl⟩
 | d::r,b,h=>by
  cases d with
  | bl x =>
   obtain⟨c,e1,e2⟩:=bind_some (show ((anyB r).bind fun c=>some (x || c))=some b from h)
   cases e2
   obtain⟨bs,e3,e4⟩:=tY e1
   exact⟨x::bs,by rw [JO,e3],by rw [JQ,e4]; rfl⟩
  | _=>cases h
theorem range_any (bs:List Bool):((List.range bs.length).any fun i=>(bs[i]?).getD false)=bs.any id:=by
 induction bs with
 | nil=>rfl
 | cons b bs ih =>
  rw [JT,J6,JQ,Ky,JQ,<- ih]
  rfl
theorem xN (hc:X.calm=true):dA X (.builtin "any") (we X.K xD):=by
 intro pins s σ H xs us Q I r ⟨O,ds,d,hO,hd,hg,q⟩
 unfold xD at hg
 split at hg
 ·rename_i ys
  obtain⟨bv,e1,e2⟩:=bind_some hg
  cases e2
  obtain⟨bs,eb,ev⟩:=tY e1
  subst eb ev
  obtain⟨v,evv,h1⟩:=hd.one
  subst evv
  obtain⟨p,vs,ep,g1,g2⟩:=cg.mp h1
  subst ep
  obtain⟨u,eu,ru⟩:=vals1 r
  subst eu
  cases ru
  obtain⟨its,rv,pl,hz⟩:=I.list ((aM H O).seq g1)
  have ei:=pH g2 rv
  have hl:=pl.isList
  have hlt:p < s.heap.objs.size:=by obtain⟨_,e,_⟩:=hl; exact Ma e
  refine call_any_walk (MZ hl ?_)
  refine⟨s.heap.objs.size,[s.heap.objs.size,p],[s.heap.objs.size],its.toArray.size,_,_,fun i=>(bs[i]?).getD false,rfl,Walks.list (A:=X.A.in1) (I.ok.hd hc) _ p (Jj hlt) its.toArray,
   ⟨⟨_,Mf _ rfl,rfl,rfl⟩,hl.push _⟩,fun i v s' Q' E' hP hQ=>?_,fun h' tk hk=>?_⟩
  ·have e:bs[i]?.map Value.bool=some v:=by
    rw [<- JF,<- ei]
    simpa using hP
   cases eb:bs[i]? with
   | none=>rw [eb] at e; cases e
   | some b =>
    rw [eb] at e
    cases e
    simp only [eb,Option.getD_some] at hQ
    exact MS hQ
  ·have e:((List.range its.toArray.size).any fun i=>(bs[i]?).getD false)=bs.any id:=by
    have:its.toArray.size=bs.length:=by rw [Jw,ei,JI]
    rw [this]; exact range_any bs
   rw [e]
   have k:∀ b x,s.heap.get? b=some x->h'.get? b=some x:=fun b x e=>hk b x (fun hm=>by rw [List.mem_singleton.mp hm] at e; exact Ji _ (Ma e)) (Md _ e)
   exact⟨.bl _,H,I.kept k,rfl,q _ H (bC.refl H) (jq.mpr rfl)⟩
 ·cases hg
end
end TG
namespace TG
open PySem PySem.Spec PyProof.Rows L2
variable [aT]
def dY:List D->List D->Option Bool
 | [],[]=>some false
 | [],_::_=>some true
 | _::_,[]=>some false
 | a::as,b::bs=>match a,b with
  | .int i,.int j=>if i=j then dY as bs else some (decide (i < j))
  | .str x,.str y=>if x=y then dY as bs else some (decide (x.cps.toList < y.cps.toList))
  | _,_=>none
inductive fM:List MC->List D->Prop where
 | nil:fM [] []
 | int (i:Int) (t:Tok) {vs:List MC} {ds:List D} (h:fM vs ds):fM (.int i t::vs) (.int i::ds)
 | str (x:Str) (t:Tok) {vs:List MC} {ds:List D} (h:fM vs ds):fM (.str x t::vs) (.str x::ds)
theorem fM.length:∀ {vs:List MC} {ds:List D},fM vs ds->vs.length=ds.length
 | _,_,.nil=>rfl
 | _,_,.int _ _ h=>by rw [JT,JT,h.length]
 | _,_,.str _ _ h=>by rw [JT,JT,h.length]
theorem BQ (A:MK) (s:ML) (a:Int) (t:Tok) (c:Int) (u:Tok):∃ e,SeqAt.EqAt A s (.int a t) (.int c u) e/\(e=true↔a=c) :=
 ⟨(a==c),SeqAt.EqAt.int_int a t c u,by simp⟩
theorem BH (A:MK) (s:ML) (a:Str) (t:Tok) (c:Str) (u:Tok):∃ e,SeqAt.EqAt A s (.str a t) (.str c u) e/\(e=true↔a=c) :=
 ⟨(a==c),SeqAt.EqAt.str_str a t c u,by simp⟩
theorem Eo (A:MK) (s:ML) (a:Str) (t:Tok) (c:Str) (u:Tok) (prog:ME) (w:MD) (E:MC->ML->Prop) (Q:MC->ML->Prop) (h:Q (.bool (decide (a.cps.toList < c.cps.toList))) s) :
  MN (model prog w) A (richCompare .Lt (.str a t) (.str c u)) Q E s :=
 (PySem.P.lt_str h:MN (model prog w) A (M4 .Lt (.str a t) (.str c u)) Q E s)
section
open PySem.SeqAt
open PySem.AutoSeq1 (wpAny_loadPart')
open PySem.MeetsSeq PySem.MeetsSeq2 PySem.MeetsSeq3
set_option maxHeartbeats 1000000 in
theorem p6 (l b:MF) (items items2:Array MC) (n n2:Nat) (dd dd2:Option MF) (sl sl2:Array (Option MC)) (ns ms:List D) (r:Bool) (hi:fM items.toList ns) (hj:fM items2.toList ms) (hr:dY ns ms=some r) :
  Meets (Builtin.«tuple.__lt__» ⟨[.ref l,.ref b],[]⟩)
   (fun _ R s=>s.heap.get? l=some { cls:=.type "tuple",dict:=dd,data:=.seq items n,slots:=sl }/\s.heap.get? b=some { cls:=.type "tuple",dict:=dd2,data:=.seq items2 n2,slots:=sl2 } /\
    R (.ok (.ret (.bool r))) s) :=
 .of_wp fun prog w A R s h=>by
  obtain⟨hp,g,d,tk,os⟩:=s; obtain⟨hl,hb,h⟩:=h
  have f2:=AutoSeq1.sub_tuple_tuple
  have z1:items.size=ns.length:=by rw [<- hi.length]; simp
  have z2:items2.size=ms.length:=by rw [<- hj.length]; simp
  wp_walk using wpAny_loadPart' hl,wpAny_loadPart' hb,wpAny_forIn_list _ (fun rest b s'=>b.1=none/\s'=⟨hp,g,d,tk,os⟩/\∃ (vs ws:List MC) (ns' ms':List D),rest=vs.zip ws /\
   fM vs ns'/\fM ws ms'/\ns'.length+items2.size=ms'.length+items.size/\dY ns' ms'=some r/\R (.ok (.ret (.bool r))) ⟨hp,g,d,tk,os⟩) _
  case turn =>
   rintro⟨y,x⟩ rest b s' ⟨hb',rfl,vs,ws,ns',ms',hz,hvi,hwi,hlen,hL,hR⟩
   cases hvi with
   | nil=>rw [List.zip_nil_left] at hz; cases hz
   | int a t hvi' =>
    cases hwi with
    | nil=>rw [Kz] at hz; cases hz
    | str c u hwi'=>cases hL
    | int c u hwi' =>
     rw [Kx] at hz
     injection hz with hyx hrest
     injection hyx with hy hx
     subst hy hx
     have hL':(if a=c then dY _ _ else some (decide (a < c)))=some r:=hL
     simp only [JT] at hlen
     obtain⟨e,he,hiff⟩:=BQ A.in1 ⟨hp,g,d,tk,os⟩ a t c u
     refine MU (he prog w _ _ ?_)
     cases e with
     | true =>
      rw [if_pos (hiff.mp rfl)] at hL'
      wp_walk
      exact⟨rfl,rfl,_,_,_,_,hrest,hvi',hwi',by omega,hL',hR⟩
     | false =>
      rw [if_neg (fun q=>absurd (hiff.mpr q) Jx)] at hL'
      cases hL'
      have hri:=HT.D7 A.in1 ⟨hp,g,d,tk,os⟩ a t c u prog w
      wp_walk using hri
      exact⟨_,rfl,by simpa using hR⟩
   | str a t hvi' =>
    cases hwi with
    | nil=>rw [Kz] at hz; cases hz
    | int c u hwi'=>cases hL
    | str c u hwi' =>
     rw [Kx] at hz
     injection hz with hyx hrest
     injection hyx with hy hx
     subst hy hx
     have hL':(if a=c then dY _ _ else some (decide (a.cps.toList < c.cps.toList)))=some r:=hL
     simp only [JT] at hlen
     obtain⟨e,he,hiff⟩:=BH A.in1 ⟨hp,g,d,tk,os⟩ a t c u
     refine MU (he prog w _ _ ?_)
     cases e with
     | true =>
      rw [if_pos (hiff.mp rfl)] at hL'
      wp_walk
      exact⟨rfl,rfl,_,_,_,_,hrest,hvi',hwi',by omega,hL',hR⟩
     | false =>
      rw [if_neg (fun q=>absurd (hiff.mpr q) Jx)] at hL'
      cases hL'
      have hri:=Eo A.in1 ⟨hp,g,d,tk,os⟩ a t c u prog w
      wp_walk using hri
      exact⟨_,rfl,by simpa using hR⟩
  case fin =>
   rintro⟨b1,b2⟩ s' ⟨hb',rfl,vs,ws,ns',ms',hz,hvi,hwi,hlen,hL,hR⟩
   simp only at hb'
   subst hb'
   have hv:r=decide (items.size < items2.size):=by
    have l1:=hvi.length
    have l2:=hwi.length
    cases ns' with
    | nil =>
     cases ms' with
     | nil =>
      simp only [JU] at hlen
      cases hL
      exact(decide_eq_false ‹0›).symm
     | cons c u =>
      simp only [JU,JT] at hlen
      cases hL
      exact(decide_eq_true ‹0›).symm
    | cons a t =>
     cases ms' with
     | nil =>
      simp only [JU,JT] at hlen
      cases hL
      exact(decide_eq_false ‹0›).symm
     | cons c u =>
      have:=congrArg List.length hz
      simp only [JU,KA,l1,l2,JT] at this
      omega
   rw [hv] at hR
   wp_walk
   exact⟨_,rfl,by simpa [Builtin.Tuple.tupleCompareSizes] using hR⟩
  case h =>
   exact⟨rfl,rfl,items.toList,items2.toList,ns,ms,rfl,hi,hj,by omega,hr,h⟩
end
section
variable {X:Cx}
theorem xr {α:Type} {c:Bool} {o:Option α} {a:α} (h:(if c then o else none)=some a):c=true/\o=some a:=by
 cases c with
 | true=>exact⟨rfl,h⟩
 | false=>cases h
theorem vt {prog:ME} {w:MD} {A:MK} {E:MC->ML->Prop} {s:ML} {l b:MF} {items items2:Array MC} {ns ms:List D} {r:Bool} {Q:MC->ML->Prop} (hl:IsTup s.heap l items) (hb:IsTup s.heap b items2) (hi:fM items.toList ns) (hj:fM items2.toList ms) (hr:dY ns ms=some r)
  (hu:A.units < Nc) (h:Q (.bool r) s):MN (model prog w) A (M4 .Lt (.ref l) (.ref b)) Q E s:=by
 obtain⟨⟨cls,dd,data,sl⟩,ho,hc,n,hd⟩:=id hl
 obtain⟨⟨cls2,dd2,data2,sl2⟩,ho2,hc2,n2,hd2⟩:=id hb
 simp only at hc hd hc2 hd2
 subst hc hd hc2 hd2
 exact richCompare_meets_room (op:=.Lt) ⟨_,ho,rfl⟩ ⟨_,ho2,rfl⟩ PySem.F.slot_tuple_lt PySem.F.entry_tuple_lt (PySem.F.args_tuple_lt_2 _ _) (p6 l b items items2 n n2 dd dd2 sl sl2 ns ms r hi hj hr)
  ⟨ho,ho2,show Value.bool r≠Value.notImplemented/\Q (.bool r) s from ⟨(fun x=>nomatch x),h⟩⟩ hu
def nM:List D->Bool
 | []=>true
 | .int _::r=>nM r
 | .str _::r=>nM r
 | _=>false
theorem jM {K:Lj} {H:Hp}:∀ {ds:List D} {vs:List V} {us:List MC},nM ds=true->aZ K H ds vs->Vals vs us->fM us ds
 | [],vs,us,_,h,r=>by
  rw [bZ] at h
  subst h
  cases r
  exact .nil
 | d::ds,vs,us,hf,h,r=>by
  obtain⟨v,r',e,h1,h2⟩:=bx.mp h
  subst e
  cases r with
  | cons q1 q2 =>
   cases d with
   | int i =>
    rw [eR] at h1
    subst h1
    obtain⟨t,rfl⟩:=q1
    exact .int i t (jM hf h2 q2)
   | str x =>
    rw [eQ] at h1
    subst h1
    obtain⟨t,rfl⟩:=q1
    exact .str x t (jM hf h2 q2)
   | _=>cases hf
def lC (a b:D):Option D:=match a,b with
 | .int i,.int j=>some (.bl (decide (i < j)))
 | .str x,.str y=>some (.bl (decide (x.cps.toList < y.cps.toList)))
 | .tup xs,.tup ys=>if nM xs && nM ys then (dY xs ys).bind fun r=>some (.bl r) else none
 | _,_=>none
theorem lj (hu:X.A.units+64 < Nc):jw X (M4 .Lt) (rD X.K lC):=by
 intro pins s σ H x y u v Q I rx ry ⟨O,a,b,d,hO,ha,hb,hg,q⟩
 cases a with
 | int i =>
  cases b with
  | int j =>
   cases hg
   exact Ep pins s σ H x y u v Q I rx ry ⟨i,j,eR.mp ha,eR.mp hb,q _ H (bC.refl H) (jq.mpr rfl)⟩
  | _=>cases hg
 | str i =>
  cases b with
  | str j =>
   cases hg
   exact xi pins s σ H x y u v Q I rx ry ⟨i,j,eQ.mp ha,eQ.mp hb,q _ H (bC.refl H) (jq.mpr rfl)⟩
  | _=>cases hg
 | tup xs =>
  cases b with
  | tup ys =>
   obtain⟨h1,h2⟩:=xr hg
   obtain⟨r,e1,e2⟩:=bind_some h2
   cases e2
   rw [JZ] at h1
   obtain⟨p,vs,ex,g1,g2⟩:=cf.mp ha
   obtain⟨p',vs',ey,g1',g2'⟩:=cf.mp hb
   subst ex ey
   cases rx
   cases ry
   obtain⟨its,r1,t1,_⟩:=I.tuple (cu (aM H O) g1)
   obtain⟨its2,r2,t2,_⟩:=I.tuple (cu (aM H O) g1')
   exact vt t1 t2 (jM h1.1 g2 r1) (jM h1.2 g2' r2) e1 ‹0› (Ag I (q _ H (bC.refl H) (jq.mpr rfl)) rfl)
  | _=>cases hg
 | _=>cases hg
end
end TG
namespace TG
open PySem PySem.Spec L2
variable [aT]
def gV (x:Str) (n:Int):Str:=if (n==1 || x.length==0)=true then x else ⟨(List.replicate n.toNat x.cps).foldl (·++·) #[]⟩
theorem foldl_size:∀ (n:Nat) (c a:Array Nat),((List.replicate n c).foldl (·++·) a).size=a.size+n*c.size
 | 0,_,a=>by simp
 | n+1,c,a=>by
  rw [KC,List.foldl_cons,foldl_size n c,Array.size_append,Nat.succ_mul]; omega
theorem ub {x:Str} {n:Int} (h:1<=n):(gV x n).length=n.toNat*x.length:=by
 unfold gV
 split
 ·rename_i q
  rw [Kc] at q
  rcases q with q | q
  ·have:n=1:=by simpa using q
   rw [this]; simp
  ·have:x.length=0:=by simpa using q
   rw [this]; simp
 ·show ((List.replicate n.toNat x.cps).foldl (·++·) #[]).size=n.toNat*x.cps.size
  rw [foldl_size]; simp
def ly (a b:D):Option D:=match a,b with
 | .int i,.int j=>lh (.int i) (.int j)
 | .str x,.int n=>if decide (1<=n/\n<=1000/\x.length<=1000) then some (.str (gV x n)) else none
 | _,_=>none
section
variable {X:Cx}
theorem kD:jw X (M3 .Mult) (rD X.K ly):=by
 intro pins s σ H x y u v Q I rx ry ⟨O,a,b,d,hO,ha,hb,hg,q⟩
 cases a with
 | int i =>
  cases b with
  | int j=>exact il pins s σ H x y u v Q I rx ry (iq (.int i) (.int j) d x y O H Q hO hg ha hb q)
  | _=>cases hg
 | str z =>
  cases b with
  | int n =>
   obtain⟨h1,h2⟩:=bD hg
   subst h2
   obtain⟨n1,n2,zl⟩:=of_decide_eq_true h1
   rw [eQ] at ha
   rw [eR] at hb
   subst ha hb
   obtain⟨t,rfl⟩:=rx
   obtain⟨t',rfl⟩:=ry
   have zn:z.length*n.toNat<=1000*1000:=Nat.mul_le_mul zl ‹0›
   refine P.mul_str (by rw [decide_eq_false ‹0›,decide_eq_false ‹0›]; rfl) (fun _ _=>?_) (fun _ _=>?_) ?_
   ·have:(2 ^ 63 - 1:Int) / n>=(2 ^ 63 - 1) / 1000:=by
     rw [ge_iff_le,Int.le_ediv_iff_mul_le ‹0›]
     have h3:(2 ^ 63 - 1:Int) / 1000*n<=(2 ^ 63 - 1) / 1000*1000:=Int.mul_le_mul_of_nonneg_left n2 (by decide)
     have h4:(2 ^ 63 - 1:Int) / 1000*1000<=2 ^ 63 - 1:=by decide
     omega
    have h5:(2 ^ 63 - 1:Int) / 1000=9223372036854775:=by decide
    omega
   ·unfold Builtin.Str.tooLong
    rw [decide_eq_false]
    rw [M6]; omega
   ·rw [if_neg ‹0›]
    have fin:∀ tk,EP X pins σ Q (.str (gV z n) tk) { s with toks:=s.toks+1 }/\EP X pins σ Q (.str (gV z n) tk) s:=fun tk=>⟨⟨.str (gV z n),H,I.tok _,⟨_,rfl⟩,q _ H (bC.refl H) (eQ.mpr rfl)⟩,⟨.str (gV z n),H,I,⟨_,rfl⟩,q _ H (bC.refl H) (eQ.mpr rfl)⟩⟩
    by_cases e:(n==1 || z.length==0)=true
    ·rw [if_pos e]
     have:gV z n=z:=by unfold gV; rw [if_pos e]
     rw [this] at fin
     exact(fin t).2
    ·rw [if_neg e]
     have e2:gV z n=⟨(List.replicate n.toNat z.cps).foldl (·++·) #[]⟩:=by unfold gV; rw [if_neg e]
     rw [e2] at fin
     refine⟨?_,(fin _).1⟩
     have rl:=ub (x:=z) (n:=n) ‹0›
     rw [e2] at rl
     rw [rl,M6,Nat.mul_comm]; omega
  | _=>cases hg
 | _=>cases hg
end
theorem GW {X:Cx} {i:Nat} {x m:Str} {id:String} {r:V->List V->Hp->VK->Prop} {u:List D->List D->Option (List D)} {npos apos cpos pos:Pos} (slot:Slot "list" m id) (hty:typeOf (.builtin id)=pure (.type "method_descriptor")) (hm:Ci X id r) (ok:nT X.K r u) (hx:PE X (.Name x npos) (qg i))
  (hbase:Np (.Name x npos) m X.env (eval (.Name x npos) X.env)=eval (.Name x npos) X.env:=by rfl) (hline:(apos.endLine==cpos.line)=true:=by rfl)
  (hsw:swapsWith (.Call (.Attribute (.Name x npos) m apos) [] [] cpos) none pos.line X.env=pure false:=by rfl) :
  FS X (.Expr (.Call (.Attribute (.Name x npos) m apos) [] [] cpos) pos) (oM i u au):=fun Hb Ob pins s σ H E I ⟨O,ρ,k,rr,S,hF,hk⟩=>by
 unfold oM at hF
 split at hF
 ·rename_i xs hxs
  obtain⟨a,ha,haO,hat⟩:=S.env.own i _ hxs
  obtain⟨o,vs0,ho,eo,dn⟩:=hat
  subst eo
  refine sM (DI F.plainAttrs_list slot hty hm hx hbase hline) hsw pins s σ H E I ⟨.ref a,ha,.inl ⟨rfl,vs0,la.of ho⟩,?_⟩
  have hr:(rO (u xs [])).bind (fun ys=>k.nx (ρ.set i (some (.own (.lst ys)))))=rr:=hF
  cases hu1:u xs [] with
  | none=>rw [hu1] at hr; exact absurd hr.symm hk.ne
  | some ys =>
   rw [hu1] at hr
   exact ok H O a xs ys [] vs0 [] _ S.env.all haO ho dn (bZ.mpr rfl) hu1 fun ws' v new=>hk.nx O _ σ _ (S.setO hxs ha trivial (jQ haO new)) hr
 ·exact absurd hF.symm hk.ne
end TG
namespace TG
open PySem PySem.Spec PyProof.Rows PySem.W L2
variable [aT]
theorem o9:∀ a:List Nat,¬ a < a
 | []=>KG _
 | x::xs=>fun h=>by
  rcases List.cons_lt_cons_iff.mp h with h | ⟨_,h⟩
  ·omega
  ·exact o9 xs h
theorem jU:∀ {a b c:List Nat},a < b->b < c->a < c
 | _,_,[],_,h=>absurd h (KG _)
 | _,[],_::_,h,_=>absurd h (KG _)
 | [],_::_,_::_,_,_=>KH _ _
 | x::xs,y::ys,z::zs,h,h'=>by
  rw [KI] at h h' ⊢
  rcases h with h | ⟨e,h⟩ <;> rcases h' with h' | ⟨e',h'⟩
  ·exact .inl ‹0›
  ·exact .inl ‹0›
  ·exact .inl ‹0›
  ·exact .inr ⟨by omega,jU h h'⟩
theorem zP:∀ a b:List Nat,a < b\/a=b\/b < a
 | [],[]=>.inr (.inl rfl)
 | [],_::_=>.inl (KH _ _)
 | _::_,[]=>.inr (.inr (KH _ _))
 | x::xs,y::ys=>by
  rw [KI,KI]
  rcases Nat.lt_trichotomy x y with h | h | h
  ·exact .inl (.inl h)
  ·rcases zP xs ys with q | q | q
   ·exact .inl (.inr ⟨h,q⟩)
   ·exact .inr (.inl (by rw [h,q]))
   ·exact .inr (.inr (.inr ⟨h.symm,q⟩))
  ·exact .inr (.inr (.inl h))
theorem yI {x y:Str} (h:x.cps.toList=y.cps.toList):x=y:=by
 cases x; cases y
 congr 1
 exact Array.toList_inj.mp h
inductive Sh:List Bool->List D->Prop where
 | nil:Sh [] []
 | int (i:Int) {bs:List Bool} {ds:List D} (h:Sh bs ds):Sh (true::bs) (.int i::ds)
 | str (x:Str) {bs:List Bool} {ds:List D} (h:Sh bs ds):Sh (false::bs) (.str x::ds)
theorem Sh.length:∀ {σ:List Bool} {a:List D},Sh σ a->a.length=σ.length
 | _,_,.nil=>rfl
 | _,_,.int _ h=>by rw [JT,JT,h.length]
 | _,_,.str _ h=>by rw [JT,JT,h.length]
theorem sA:∀ {σ:List Bool} {a:List D},Sh σ a->nM a=true
 | _,_,.nil=>rfl
 | _,_,.int i h=>by
  unfold nM; exact sA h
 | _,_,.str i h=>by
  unfold nM; exact sA h
theorem pQ (i j:Int) (as bs:List D):dY (.int i::as) (.int j::bs)=if i=j then dY as bs else some (decide (i < j)):=by rw [dY]
theorem pP (x y:Str) (as bs:List D):dY (.str x::as) (.str y::bs)=if x=y then dY as bs else some (decide (x.cps.toList < y.cps.toList)):=by rw [dY]
theorem Am:dY [] []=some false:=by rw [dY]
theorem lQ:∀ {σ:List Bool} {a:List D},Sh σ a->dY a a=some false
 | _,_,.nil=>Am
 | _,_,.int i h=>by rw [pQ,if_pos rfl]; exact lQ h
 | _,_,.str x h=>by rw [pP,if_pos rfl]; exact lQ h
theorem j4:∀ {σ:List Bool} {a b:List D},Sh σ a->Sh σ b->(dY a b=some true/\dY b a=some false/\a≠b)\/a=b\/(dY b a=some true/\dY a b=some false/\a≠b)
 | _,_,_,.nil,.nil=>.inr (.inl rfl)
 | _,_,_,.int i h,.int j h'=>by
  rw [pQ,pQ]
  by_cases e:i=j
  ·subst e
   rw [if_pos rfl,if_pos rfl]
   rcases j4 h h' with ⟨q1,q2,q3⟩ | q | ⟨q1,q2,q3⟩
   ·exact .inl ⟨q1,q2,fun z=>q3 (by injection z)⟩
   ·exact .inr (.inl (by rw [q]))
   ·exact .inr (.inr ⟨q1,q2,fun z=>q3 (by injection z)⟩)
  ·rw [if_neg e,if_neg (fun z=>e z.symm)]
   rcases Int.lt_or_gt_of_ne e with q | q
   ·exact .inl ⟨by rw [decide_eq_true q],by rw [decide_eq_false ‹0›],fun z=>e (by injection z with z1; injection z1)⟩
   ·exact .inr (.inr ⟨by rw [decide_eq_true q],by rw [decide_eq_false ‹0›],fun z=>e (by injection z with z1; injection z1)⟩)
 | _,_,_,.str x h,.str y h'=>by
  rw [pP,pP]
  by_cases e:x=y
  ·subst e
   rw [if_pos rfl,if_pos rfl]
   rcases j4 h h' with ⟨q1,q2,q3⟩ | q | ⟨q1,q2,q3⟩
   ·exact .inl ⟨q1,q2,fun z=>q3 (by injection z)⟩
   ·exact .inr (.inl (by rw [q]))
   ·exact .inr (.inr ⟨q1,q2,fun z=>q3 (by injection z)⟩)
  ·rw [if_neg e,if_neg (fun z=>e z.symm)]
   rcases zP x.cps.toList y.cps.toList with q | q | q
   ·exact .inl ⟨by rw [decide_eq_true q],by rw [decide_eq_false fun z=>o9 _ (jU q z)],fun z=>e (by injection z with z1; injection z1)⟩
   ·exact absurd (yI q) e
   ·exact .inr (.inr ⟨by rw [decide_eq_true q],by rw [decide_eq_false fun z=>o9 _ (jU q z)],fun z=>e (by injection z with z1; injection z1)⟩)
theorem ku:∀ {σ:List Bool} {a b c:List D},Sh σ a->Sh σ b->Sh σ c->dY a b=some true->dY b c=some true->dY a c=some true
 | _,_,_,_,.nil,.nil,.nil,h,_=>by rw [Am] at h; cases h
 | _,_,_,_,.int i h,.int j h',.int k h'',q,q'=>by
  rw [pQ] at q q' ⊢
  by_cases e:i=j
  ·subst e
   rw [if_pos rfl] at q
   by_cases e':i=k
   ·subst e'
    rw [if_pos rfl] at q' ⊢
    exact ku h h' h'' q q'
   ·rw [if_neg e'] at q' ⊢
    exact q'
  ·rw [if_neg e] at q
   have q1:=of_decide_eq_true (Option.some.inj q)
   by_cases e':j=k
   ·subst e'
    rw [if_neg e,decide_eq_true q1]
   ·rw [if_neg e'] at q'
    have q2:=of_decide_eq_true (Option.some.inj q')
    rw [if_neg ‹0›,decide_eq_true ‹0›]
 | _,_,_,_,.str i h,.str j h',.str k h'',q,q'=>by
  rw [pP] at q q' ⊢
  by_cases e:i=j
  ·subst e
   rw [if_pos rfl] at q
   by_cases e':i=k
   ·subst e'
    rw [if_pos rfl] at q' ⊢
    exact ku h h' h'' q q'
   ·rw [if_neg e'] at q' ⊢
    exact q'
  ·rw [if_neg e] at q
   have q1:=of_decide_eq_true (Option.some.inj q)
   by_cases e':j=k
   ·subst e'
    rw [if_neg e,decide_eq_true q1]
   ·rw [if_neg e'] at q'
    have q2:=of_decide_eq_true (Option.some.inj q')
    rw [if_neg (show ¬ i=k from fun z=>by rw [z] at q1; exact o9 _ (jU q1 q2)),decide_eq_true (jU q1 q2)]
theorem zb {σ:List Bool} {a b:List D} (h:Sh σ a) (h':Sh σ b) (q:dY a b=some true):dY b a=some false:=by
 rcases j4 h h' with ⟨_,q2,_⟩ | e | ⟨_,q2,_⟩
 ·exact q2
 ·subst e; rw [lQ h] at q; cases q
 ·rw [q2] at q; cases q
def kLt (a b:List D):Bool:=dY a b==some true
theorem Ay {a b:List D}:kLt a b=true↔dY a b=some true:=by unfold kLt; simp
section
variable {α:Type}
def xA (key:α->List D) (x:α):List α->List α
 | []=>[x]
 | y::ys=>if kLt (key x) (key y) then x::y::ys else y::xA key x ys
def lH (key:α->List D):List α->List α
 | []=>[]
 | x::xs=>xA key x (lH key xs)
theorem mC (key:α->List D) (x:α):∀ ys:List α,(xA key x ys).Perm (x::ys)
 | []=>.refl _
 | y::ys=>by
  unfold xA
  split
  ·exact .refl _
  ·exact(List.Perm.cons y (mC key x ys)).trans (.swap x y ys)
theorem eA (key:α->List D):∀ xs:List α,(lH key xs).Perm xs
 | []=>.refl _
 | x::xs=>(mC key x _).trans (.cons x (eA key xs))
def uI (key:α->List D) (xs:List α):Prop:=xs.Pairwise fun x y=>dY (key x) (key y)=some true
theorem tu {key:α->List D} {σ:List Bool} {x:α} (hx:Sh σ (key x)):∀ {ys:List α},(∀ y∈ys,Sh σ (key y)/\key x≠key y)->uI key ys->uI key (xA key x ys)
 | [],_,_=>List.pairwise_singleton _ _
 | y::ys,h,p=>by
  have p':=List.pairwise_cons.mp p
  obtain⟨hy,ne⟩:=h y Jn
  unfold xA
  split
  ·rename_i q
   have q:=Ay.mp q
   refine List.pairwise_cons.mpr ⟨fun z hz=>?_,p⟩
   rcases List.mem_cons.mp hz with rfl | hz
   ·exact q
   ·exact ku hx hy (h z (Jo _ hz)).1 q (p'.1 z hz)
  ·rename_i q
   have q:dY (key y) (key x)=some true:=by
    rcases j4 hx hy with ⟨z,_⟩ | z | ⟨z,_⟩
    ·exact absurd (Ay.mpr z) q
    ·exact absurd z ne
    ·exact z
   refine List.pairwise_cons.mpr ⟨fun z hz=>?_,tu hx (fun z hz=>h z (Jo _ hz)) p'.2⟩
   rcases List.mem_cons.mp ((mC key x ys).mem_iff.mp hz) with rfl | hz
   ·exact q
   ·exact p'.1 z hz
theorem qF {key:α->List D} {σ:List Bool}:∀ {xs:List α},(∀ x∈xs,Sh σ (key x))->xs.Pairwise (fun x y=>key x≠key y)->uI key (lH key xs)
 | [],_,_=>List.Pairwise.nil
 | x::xs,h,p=>by
  have p':=List.pairwise_cons.mp p
  refine tu (h x Jn) (fun y hy=>?_) (qF (fun y hy=>h y (Jo _ hy)) p'.2)
  have hy:=(eA key xs).mem_iff.mp hy
  exact⟨h y (Jo _ hy),p'.1 y hy⟩
theorem vX {key:α->List D} {σ:List Bool}:∀ {xs ys:List α},(∀ x∈xs,Sh σ (key x))->uI key xs->uI key ys->xs.Perm ys->xs=ys
 | [],ys,_,_,_,e=>(List.perm_nil.mp e.symm).symm
 | x::xs,[],_,_,_,e=>List.perm_nil.mp e
 | x::xs,y::ys,h,p,q,e=>by
  have p':=List.pairwise_cons.mp p
  have q':=List.pairwise_cons.mp q
  have exy:x=y:=by
   rcases List.mem_cons.mp (e.mem_iff.mp Jn) with z | z
   ·exact z
   ·have w1:=q'.1 x z
    rcases List.mem_cons.mp (e.symm.mem_iff.mp Jn) with z' | z'
    ·exact z'.symm
    ·have w2:=p'.1 y z'
     have:=zb (h x Jn) (h y (Jo _ z')) w2
     rw [w1] at this; cases this
  subst exy
  rw [vX (fun z hz=>h z (Jo _ hz)) p'.2 q'.2 (List.Perm.cons_inv e)]
theorem zK {key:α->List D} {σ:List Bool} {xs ys:List α} (h:∀ x∈xs,Sh σ (key x)) (p:xs.Pairwise fun x y=>key x≠key y) (q:uI key ys) (e:ys.Perm xs):lH key xs=ys :=
 vX (fun x hx=>h x ((eA key xs).mem_iff.mp hx)) (qF h p) q ((eA key xs).trans e.symm)
def rank (ks:List (List D)) (i:Nat):Nat:=(ks.filter fun k=>kLt k (ks.getD i [])).length
theorem sI {ks:List (List D)} {σ:List Bool} (h:∀ k∈ks,Sh σ k) {i j:Nat} (hi:i < ks.length) (hj:j < ks.length):decide (rank ks i < rank ks j)=kLt (ks.getD i []) (ks.getD j []):=by
 have gi:ks.getD i []=ks[i]:=by simp [hi]
 have gj:ks.getD j []=ks[j]:=by simp [hj]
 have mono:∀ a b:List D,Sh σ a->Sh σ b->dY a b=some true->∀ l:List (List D),(∀ k∈l,Sh σ k)->(l.filter fun k=>kLt k a).length<=(l.filter fun k=>kLt k b).length/\(a∈l->(l.filter fun k=>kLt k a).length < (l.filter fun k=>kLt k b).length):=by
  intro a b ha hb hab l
  induction l with
  | nil=>exact fun _=>⟨Jt _,fun z=>nomatch z⟩
  | cons k l ih =>
   intro hl
   obtain⟨i1,i2⟩:=ih fun z hz=>hl z (Jo _ hz)
   have hk:=hl k Jn
   by_cases q:kLt k a=true
   ·have q':kLt k b=true:=Ay.mpr (ku hk ha hb (Ay.mp q) hab)
    rw [KJ (p:=fun k=>kLt k a) q,KJ (p:=fun k=>kLt k b) q',JT,JT]
    refine⟨by omega,fun z=>?_⟩
    rcases List.mem_cons.mp z with rfl | z
    ·rw [Ay,lQ ha] at q; cases q
    ·have:=i2 z; omega
   ·rw [KN (p:=fun k=>kLt k a) q]
    by_cases q':kLt k b=true
    ·rw [KJ (p:=fun k=>kLt k b) q',JT]
     exact⟨by omega,fun _=>by omega⟩
    ·rw [KN (p:=fun k=>kLt k b) q']
     refine⟨i1,fun z=>?_⟩
     rcases List.mem_cons.mp z with rfl | z
     ·exact absurd (Ay.mpr hab) q'
     ·exact i2 z
 unfold rank
 rw [gi,gj]
 have hi':=h _ (KO hi)
 have hj':=h _ (KO hj)
 rcases j4 hi' hj' with ⟨z,_⟩ | z | ⟨z,z',_⟩
 ·rw [Ay.mpr z]
  exact decide_eq_true ((mono _ _ hi' hj' z ks h).2 (KO hi))
 ·rw [z]
  have:kLt ks[j] ks[j]=false:=by unfold kLt; rw [lQ hj']; rfl
  rw [this]
  exact decide_eq_false (Ji _)
 ·have e:kLt ks[i] ks[j]=false:=by unfold kLt; rw [z']; rfl
  rw [e]
  exact decide_eq_false (Nat.not_lt.mpr (mono _ _ hj' hi' z ks h).1)
end
section
variable {cmp:Nat->Nat->(Bool->ML->Prop)->ML->Prop} {r:Nat->Nat} {N:Nat}
def kP (cmp:Nat->Nat->(Bool->ML->Prop)->ML->Prop) (r:Nat->Nat) (N:Nat) (s:ML):Prop:=∀ (i j:Nat) (C:Bool->ML->Prop),i < N->j < N->C (decide (r i < r j)) s->cmp i j C s
def PM (N:Nat) (p:Array Nat):Prop:=p.Perm (List.toArray (List.range N))
theorem PM.size {p:Array Nat} (h:PM N p):p.size=N:=by
 have:=h.size_eq; simpa using this
theorem PM.lt {p:Array Nat} (h:PM N p) {i:Nat} (hi:i < N):p.getD i 0 < N:=by
 have hs:=h.size
 have e:p.getD i 0=p[i]'‹0›:=by simp [Array.getD,hs,hi]
 rw [e]
 have m:p[i]'‹0›∈p:=Array.getElem_mem _
 have:=(h.mem_iff (a:=p[i]'‹0›)).mp m
 simpa using this
theorem PM.rev {p:Array Nat} (h:PM N p) (i j:Nat):PM N (kas_rev p i j):=(mirror_perm p i j _).trans h
abbrev Rk (r:Nat->Nat) (p:Array Nat) (i:Nat):Nat:=r (p.getD i 0)
theorem sS {p:Array Nat} {i j:Nat} (hj:j<=p.size) (k:Nat):Rk r (kas_rev p i j) k=if i<=k/\k < j then Rk r p (i+j - 1 - k) else Rk r p k:=by
 have e:=getElem?_mirror_all (xs:=p) (i:=i) (j:=j) hj k
 have g:∀ (q:Array Nat) (k:Nat),q.getD k 0=(q[k]?).getD 0:=fun q k=>by simp
 show r ((kas_rev p i j).getD k 0)=_
 rw [g]
 show r (((mirror p i j ((j - i) / 2))[k]?).getD 0)=_
 rw [e]
 split
 ·show _=r (p.getD _ 0); rw [g]
 ·show _=r (p.getD _ 0); rw [g]
theorem yA {p:Array Nat} {src d:Nat} (hs:src < p.size) (hd:d<=src) (k:Nat):Rk r (bubble p src d) k=if k=src - d then Rk r p src else if src - d < k/\k<=src then Rk r p (k - 1) else Rk r p k:=by
 have e:=getElem?_bubble (xs:=p) hs d hd k
 have g:∀ (q:Array Nat) (k:Nat),q.getD k 0=(q[k]?).getD 0:=fun q k=>by simp
 show r ((bubble p src d).getD k 0)=_
 rw [g,e]
 split
 ·show _=r (p.getD _ 0); rw [g]
 ·split
  ·show _=r (p.getD _ 0); rw [g]
  ·show _=r (p.getD _ 0); rw [g]
def Up (r:Nat->Nat) (p:Array Nat) (k:Nat):Prop:=∀ i j,i<=j->j < k->Rk r p i<=Rk r p j
def Dn (r:Nat->Nat) (p:Array Nat) (k:Nat):Prop:=∀ i j,i<=j->j < k->Rk r p j<=Rk r p i
variable {s:ML}
theorem vd (hc:kP cmp r N s) {p:Array Nat} (hp:PM N p) {G:Nat->ML->Prop}:∀ (f n:Nat),1<=n->n+f<=N->Up r p n->(∀ m,n<=m->m<=n+f->Up r p m->(m=n+f\/Rk r p m < Rk r p (m - 1))->G m s)->(kas_asc p f n).kasWp cmp G s
 | 0,n,_,_,u,h=>h n (Jt _) (Jt _) u (.inl rfl)
 | f+1,n,h1,h2,u,h=>by
  refine hc _ _ _ (hp.lt ‹0›) (hp.lt ‹0›) ?_
  by_cases q:Rk r p n < Rk r p (n - 1)
  ·rw [decide_eq_true q]; dsimp only; rw [if_pos rfl]
   exact h n (Jt _) ‹0› u (.inr q)
  ·rw [decide_eq_false q]; dsimp only; rw [if_neg Jx]
   refine vd hc hp f (n+1) ‹0› ‹0› (fun i j hij hj=>?_) fun m a b=>?_
   ·by_cases hjn:j < n
    ·exact u i j hij hjn
    ·have ej:j=n:=by omega
     subst ej
     by_cases ei:i=j
     ·subst ei; exact Jt _
     ·have:=u i (j - 1) ‹0› ‹0›
      omega
   ·intro um hm
    exact h m ‹0› ‹0› um (by rcases hm with z | z; exact .inl ‹0›; exact .inr z)
theorem zv {p:Array Nat} {n q:Nat} (hn:n<=p.size) (hq:q+1<=n) (he:∀ i,n - (q+1)<=i->i < n->Rk r p i=Rk r p (n - 1)) (k:Nat):Rk r (kas_rev p (n - (q+1)) n) k=Rk r p k:=by
 rw [sS hn]
 split
 ·rename_i h
  rw [he _ ‹0› ‹0›,he k h.1 h.2]
 ·rfl
theorem oC (hc:kP cmp r N s) {G:Array Nat×Nat×Nat->ML->Prop}:∀ (f:Nat) (p:Array Nat) (n q:Nat),PM N p->1<=n->n+f<=N->Dn r p n->q+1<=n->(∀ i,n - (q+1)<=i->i < n->Rk r p i=Rk r p (n - 1)) ->
  (∀ p' m q',PM N p'->n<=m->m<=n+f->Dn r p' m->q'+1<=m->(∀ i,m - (q'+1)<=i->i < m->Rk r p' i=Rk r p' (m - 1))->G (p',m,q') s)->(kas_desc f p n q).kasWp cmp G s
 | 0,p,n,q,hp,_,_,d,hq,he,h=>h p n q hp (Jt _) (Jt _) d hq he
 | f+1,p,n,q,hp,h1,h2,d,hq,he,h=>by
  have hs:=hp.size
  have step:∀ p',(∀ k,Rk r p' k=Rk r p k)->Rk r p n<=Rk r p (n - 1)->Dn r p' (n+1):=fun p' hk hl i j hij hj=>by
   rw [hk,hk]
   by_cases hjn:j < n
   ·exact d i j hij hjn
   ·have ej:j=n:=by omega
    subst ej
    by_cases ei:i=j
    ·subst ei; exact Jt _
    ·have:=d i (j - 1) ‹0› ‹0›
     omega
  refine hc _ _ _ (hp.lt ‹0›) (hp.lt ‹0›) ?_
  by_cases q1:Rk r p n < Rk r p (n - 1)
  ·rw [decide_eq_true q1]; dsimp only; rw [if_pos rfl]
   by_cases hq0:q > 0
   ·rw [if_pos hq0]
    refine oC hc f _ (n+1) 0 (hp.rev _ _) ‹0› ‹0› (step _ (zv ‹0› hq he) ‹0›) ‹0› (fun i a b=>by rw [show i=n+1 - 1 by omega]) fun p' m q' a b c=>h p' m q' a ‹0› ‹0›
   ·rw [if_neg hq0]
    refine oC hc f _ (n+1) 0 hp ‹0› ‹0› (step _ (fun _=>rfl) ‹0›) ‹0› (fun i a b=>by rw [show i=n+1 - 1 by omega]) fun p' m q' a b c=>h p' m q' a ‹0› ‹0›
  ·rw [decide_eq_false q1]; dsimp only; rw [if_neg Jx]
   refine hc _ _ _ (hp.lt ‹0›) (hp.lt ‹0›) ?_
   by_cases q2:Rk r p (n - 1) < Rk r p n
   ·rw [decide_eq_true q2]; dsimp only; rw [if_pos rfl]
    exact h p n q hp (Jt _) ‹0› d hq he
   ·rw [decide_eq_false q2]; dsimp only; rw [if_neg Jx]
    refine oC hc f _ (n+1) (q+1) hp ‹0› ‹0› (step _ (fun _=>rfl) ‹0›) ‹0› (fun i a b=>?_) fun p' m q' a b c=>h p' m q' a ‹0› ‹0›
    rw [show n+1 - 1=n by omega]
    by_cases ei:i=n
    ·subst ei; rfl
    ·have:=he i ‹0› ‹0›
     omega
theorem uw (hc:kP cmp r N s) {p:Array Nat} (hp:PM N p) {n:Nat} (h1:1<=n) (hn:n<=N) (d:Dn r p n) {G:Nat×Array Nat->ML->Prop} (h:∀ m p',PM N p'->1<=m->m<=N->Up r p' m->G (m,p') s):(kas_tail3 n N p).kasWp cmp G s:=by
 unfold kas_tail3
 rw [KasT.kasWp_bind]
 have hs:=hp.size
 refine vd hc (hp.rev 0 n) _ _ h1 ‹0› (fun i j hij hj=>?_) fun m a b u _=>h m _ (hp.rev 0 n) ‹0› ‹0› u
 rw [sS ‹0›,sS ‹0›,if_pos ‹0›,if_pos ‹0›]
 exact d _ _ ‹0› ‹0›
theorem nO (hc:kP cmp r N s) {p:Array Nat} (hp:PM N p) {n:Nat} (hn:n+1<=N) (d:Dn r p (n+1)) {G:Nat×Array Nat->ML->Prop} (h:∀ m p',PM N p'->1<=m->m<=N->Up r p' m->G (m,p') s):(kas_descPart n N p).kasWp cmp G s:=by
 unfold kas_descPart
 rw [KasT.kasWp_bind]
 refine oC hc _ _ _ _ hp ‹0› ‹0› d ‹0› (fun i a b=>by rw [show i=n+1 - 1 by omega]) fun p' m q' hp' a b d' hq he=>?_
 have hs:=hp'.size
 dsimp only
 by_cases hq0:q' > 0
 ·rw [if_pos hq0]
  refine uw hc (hp'.rev _ _) ‹0› ‹0› (fun i j hij hj=>?_) h
  rw [zv ‹0› hq he,zv ‹0› hq he]
  exact d' i j hij hj
 ·rw [if_neg hq0]
  exact uw hc hp' ‹0› ‹0› d' h
theorem yH (hc:kP cmp r N s) (h1:1<=N) {p:Array Nat} (hp:PM N p) {G:Nat×Array Nat->ML->Prop} (h:∀ m p',PM N p'->1<=m->m<=N->Up r p' m->G (m,p') s):(kas_count N p).kasWp cmp G s:=by
 unfold kas_count
 rw [KasT.kasWp_bind]
 have hs:=hp.size
 refine vd hc hp _ _ (Jt _) ‹0› (fun i j hij hj=>by rw [show i=j by omega]; exact Jt _) fun n a b u hor=>?_
 by_cases hn:n=N
 ·rw [if_pos (by simpa using hn)]
  exact h n p hp a ‹0› u
 ·rw [if_neg (by simpa using hn)]
  have hlt:Rk r p n < Rk r p (n - 1):=by
   rcases hor with z | z
   ·omega
   ·exact z
  by_cases hg:n > 1
  ·rw [if_pos hg]
   refine hc _ _ _ (hp.lt ‹0›) (hp.lt ‹0›) ?_
   by_cases q:Rk r p 0 < Rk r p (n - 1)
   ·rw [decide_eq_true q]; dsimp only; rw [if_pos rfl]
    exact h n p hp a ‹0› u
   ·rw [decide_eq_false q]; dsimp only; rw [if_neg Jx]
    have hall:∀ k,k < n->Rk r p k=Rk r p (n - 1):=fun k hk=>by
     have a1:=u 0 k ‹0› hk
     have a2:=u k (n - 1) ‹0› ‹0›
     omega
    have hr:∀ k,Rk r (kas_rev p 0 n) k=Rk r p k:=fun k=>by
     rw [sS ‹0›]
     split
     ·rename_i z
      rw [hall _ ‹0›,hall k z.2]
     ·rfl
    refine nO hc (hp.rev _ _) ‹0› (fun i j hij hj=>?_) h
    rw [hr,hr]
    by_cases hjn:j < n
    ·rw [hall i ‹0›,hall j hjn]; exact Jt _
    ·have ej:j=n:=by omega
     subst ej
     by_cases ei:i=j
     ·subst ei; exact Jt _
     ·rw [hall i ‹0›]; omega
  ·rw [if_neg hg]
   have en:n=1:=by omega
   subst en
   refine nO hc hp ‹0› (fun i j hij hj=>?_) h
   by_cases ei:i=j
   ·subst ei; exact Jt _
   ·have e0:i=0:=by omega
    have e1:j=1:=by omega
    subst e0 e1
    exact Jl hlt
theorem pR (hc:kP cmp r N s) {p:Array Nat} (hp:PM N p) {k:Nat} (hk:k < N) (u:Up r p k) {G:Nat->ML->Prop} (h:∀ l,l<=k->(∀ i,i < l->Rk r p i<=Rk r p k)->(∀ i,l<=i->i < k->Rk r p k < Rk r p i)->G l s) :
  ∀ (f l t:Nat),t - l<=f->l<=t->t<=k->(∀ i,i < l->Rk r p i<=Rk r p k)->(∀ i,t<=i->i < k->Rk r p k < Rk r p i)->(kas_place p k f l t).kasWp cmp G s
 | 0,l,t,a,b,c,d,e=>h l ‹0› d fun i x y=>e i ‹0› y
 | f+1,l,t,a,b,c,d,e=>by
  unfold kas_place
  by_cases hl:l>=t
  ·rw [if_pos hl]
   exact h l ‹0› d fun i x y=>e i ‹0› y
  ·rw [if_neg hl]
   refine hc _ _ _ (hp.lt hk) (hp.lt ‹0›) ?_
   by_cases q:Rk r p k < Rk r p ((l+t) / 2)
   ·rw [decide_eq_true q]; dsimp only; rw [if_pos rfl]
    refine pR hc hp hk u h f l ((l+t) / 2) ‹0› ‹0› ‹0› d fun i x y=>?_
    have:=u ((l+t) / 2) i x y
    omega
   ·rw [decide_eq_false q]; dsimp only; rw [if_neg Jx]
    refine pR hc hp hk u h f ((l+t) / 2+1) t ‹0› ‹0› ‹0› (fun i x=>?_) e
    have:=u i ((l+t) / 2) ‹0› ‹0›
    omega
theorem zJ (hc:kP cmp r N s) {G:Array Nat->ML->Prop} (h:∀ p,PM N p->Up r p N->G p s):∀ (f:Nat) (p:Array Nat) (k:Nat),PM N p->k+f=N->Up r p k->(kas_bin f p k).kasWp cmp G s
 | 0,p,k,hp,e,u=>h p hp (by rw [<- e]; exact u)
 | f+1,p,k,hp,e,u=>by
  unfold kas_bin
  rw [KasT.kasWp_bind]
  have hs:=hp.size
  refine pR hc hp ‹0› u (fun l hl d e'=>?_) k 0 k ‹0› (Jz _) (Jt _) (fun i x=>by omega) fun i x y=>by omega
  refine zJ hc h f _ (k+1) ((bubble_perm p k _).trans hp) ‹0› fun i j hij hj=>?_
  rw [yA ‹0› ‹0›,yA ‹0› ‹0›,show k - (k - l)=l by omega]
  have U:=u
  by_cases i1:i=l
  ·rw [if_pos i1]
   by_cases j1:j=l
   ·rw [if_pos j1]; exact Jt _
   ·rw [if_neg j1,if_pos ‹0›]
    exact Jl (e' (j - 1) ‹0› ‹0›)
  ·rw [if_neg i1]
   by_cases i2:l < i/\i<=k
   ·rw [if_pos i2,if_neg ‹0›,if_pos ‹0›]
    exact U _ _ ‹0› ‹0›
   ·rw [if_neg i2]
    by_cases j1:j=l
    ·rw [if_pos j1]; exact d i ‹0›
    ·rw [if_neg j1]
     by_cases j2:l < j/\j<=k
     ·rw [if_pos j2]
      exact U _ _ ‹0› ‹0›
     ·rw [if_neg j2]
      exact U _ _ hij ‹0›
theorem AX (hc:kP cmp r N s) (h2:1<=N) {G:Array Nat->ML->Prop} (h:∀ p,PM N p->Up r p N->G p s):(kas_sort N).kasWp cmp G s:=by
 unfold kas_sort
 rw [KasT.kasWp_bind]
 refine yH hc h2 (Array.Perm.refl _) fun m p' hp a b u=>?_
 dsimp only
 by_cases hm:m < N
 ·rw [if_pos hm,show max m 1=m by omega]
  exact zJ hc h _ p' m hp ‹0› u
 ·rw [if_neg hm]
  exact h p' hp (by rw [show N=m by omega]; exact u)
end
section
variable {prog:ME} {w:MD} {A:MK} {E:MC->ML->Prop} {s:ML}
theorem qb {a:MF} {vs:List MC} {n:Nat} {P:PySem.Fin->ML->Prop} {κ:SortKind} {r:Nat->Nat} (ho:s.heap.get? a=some (seqObj "list" vs.toArray n)) (h64:vs.length < 64)
  (hk:2<=vs.length->∀ h':MG,(∀ b o,b≠a->s.heap.get? b=some o->h'.get? b=some o)->∀ (Q:SortKind->ML->Prop),Q κ { s with heap:=h' }->MN (model prog w) A (keyKind' vs.toArray) Q E { s with heap:=h' })
  (hr:2<=vs.length->∀ h':MG,(∀ b o,b≠a->s.heap.get? b=some o->h'.get? b=some o)->kP (kas_ask prog w A κ vs) r vs.length { s with heap:=h' })
  (h:∀ p:Array Nat,PM vs.length p->Up r p vs.length->P (.done (.ret .none)) { s with heap:=sortedHeap s.heap a vs (List.toArray (p.toList.map fun i=>vs.getD i Value.none)) }) :
  MN (model prog w) A (Builtin.«list.sort» ⟨[.ref a],[]⟩) P E s:=by
 rw [list_sort_plain]
 have ha:a < s.heap.objs.size:=Ma ho
 refine MU (listItems_at ho rfl ?_)
 refine MU (NN ho rfl ?_ (by rw [Jw,M6]; omega) (Jz _))
 obtain⟨e1,ho1⟩:∃ e1,(s.heap.update a (Obj.mapSeq fun _=>(#[]:Array MC))).get? a=some (seqObj "list" #[] e1):=⟨_,get?_update_seq ho (fun _=>#[])⟩
 refine MU (seqEpoch_at ho1 rfl ?_)
 refine MU (wpAny_newTuple ?_ (by show vs.length<=_; rw [M6]; omega))
 refine MU (wpAny_newList ?_ (Jz _))
 refine MV ?_
 have ho6:(((s.heap.update a (Obj.mapSeq fun _=>(#[]:Array MC))).push (seqObj "tuple" vs.toArray 0)).push (seqObj "list" #[] 0)).get? a=some (seqObj "list" #[] e1):=by
  rw [Mj _ _ _ (by rw [size_push',Heap.size_update]; exact Jj (J0 ha)),Mj _ _ _ (by rw [Heap.size_update]; exact Jj ha)]
  exact ho1
 have kept:∀ b o,b≠a->s.heap.get? b=some o->(((s.heap.update a (Obj.mapSeq fun _=>(#[]:Array MC))).push (seqObj "tuple" vs.toArray 0)).push (seqObj "list" #[] 0)).get? b=some o:=fun b o hb e =>
  Md _ (Md _ (by rw [Heap.get?_update_ne _ _ _ _ hb]; exact e))
 show MN (model prog w) A _ P E { s with heap:=((s.heap.update a (Obj.mapSeq fun _=>(#[]:Array MC))).push (seqObj "tuple" vs.toArray 0)).push (seqObj "list" #[] 0) }
 dsimp only
 have hsz:vs.toArray.size=vs.length:=by simp
 by_cases h2:vs.toArray.size < 2
 ·rw [if_pos h2,if_pos h2]
  refine MU (MY ?_)
  rw [StateT.run_pure]
  refine MU (MY ?_)
  dsimp only
  refine MU (seqEpoch_at ho6 rfl ?_)
  have hout:(arrOf (SortSt.mk' general' (vs.toArray.zip vs.toArray) #[] 7 none)).map (·.2)=List.toArray ((List.toArray (List.range vs.length)).toList.map fun i=>vs.getD i Value.none):=by
   refine kat_snds rfl ?_
   show vs.toArray.zip vs.toArray=_
   have e:=kas_range (vs.toArray.zip vs.toArray)
   rw [show (vs.toArray.zip vs.toArray).size=vs.length by simp] at e
   exact e.symm
  rw [hout]
  refine MU (NN ho6 rfl ?_ (Jz _) (by rw [Jw,JI,M6]; simp; omega))
  simp only [bne_self_eq_false,JY,if_false]
  refine MY (h _ (Array.Perm.refl _) fun i j hij hj=>?_)
  have:i=j:=by omega
  subst this; exact Jt _
 ·rw [if_neg h2,if_neg h2]
  have h2':2<=vs.length:=by omega
  refine MU (hk h2' _ kept _ ?_)
  refine MU (MR (kat_run (Q:=fun st' s'=>∃ p:Array Nat,arrOf st'=p.map (kas_item (vs.toArray.zip vs.toArray))/\failedOf st'=none/\PM vs.length p/\Up r p vs.length/\s'={ s with heap:=((s.heap.update a (Obj.mapSeq fun _=>(#[]:Array MC))).push (seqObj "tuple" vs.toArray 0)).push (seqObj "list" #[] 0) })
   (G:=fun p s'=>PM vs.length p/\Up r p vs.length/\s'={ s with heap:=((s.heap.update a (Obj.mapSeq fun _=>(#[]:Array MC))).push (seqObj "tuple" vs.toArray 0)).push (seqObj "list" #[] 0) })
   rfl h2' h64 (fun p' st' s' a1 a2 a3 a4=>⟨p',a2,a3,a4.1,a4.2.1,a4.2.2⟩) (AX (hr h2' _ kept) ‹0› fun p hp hu=>⟨hp,hu,rfl⟩)) ?_ fun _ _ e=>e)
  rintro⟨⟨⟩,st'⟩ s' ⟨p,har,hf,hp,hu,rfl⟩
  dsimp only
  refine MU (seqEpoch_at ho6 rfl ?_)
  have hout:=kat_snds rfl har
  rw [hout]
  refine MU (NN ho6 rfl ?_ (Jz _) (by rw [Jw,JI,Array.length_toList,hp.size,M6]; omega))
  rw [hf]
  simp only [bne_self_eq_false,JY,if_false]
  exact MY (h p hp hu)
theorem pp {src:MC} {vs:List MC} {Q:MC->ML->Prop} {κ:SortKind} {r:Nat->Nat} (h64:vs.length < 64)
  (hcol:∀ (Q':List MC->ML->Prop),(∀ h' tk,(∀ b o,s.heap.get? b=some o->h'.get? b=some o)->Q' vs { s with heap:=h',toks:=tk })->MN (model prog w) A.in1 (collect src) Q' E s)
  (hk:2<=vs.length->∀ (h':MG) (tk:Nat),(∀ b o,s.heap.get? b=some o->h'.get? b=some o)->∀ (Q:SortKind->ML->Prop),Q κ { s with heap:=h',toks:=tk }->MN (model prog w) A.in1.in1 (keyKind' vs.toArray) Q E { s with heap:=h',toks:=tk })
  (hr:2<=vs.length->∀ (h':MG) (tk:Nat),(∀ b o,s.heap.get? b=some o->h'.get? b=some o)->kP (kas_ask prog w A.in1.in1 κ vs) r vs.length { s with heap:=h',toks:=tk })
  (h:∀ (p:Array Nat) (h1 h':MG) (l:MF) (e tk:Nat),PM vs.length p->Up r p vs.length->(∀ b o,s.heap.get? b=some o->h1.get? b=some o)->(∀ b o,h1.get? b=some o->h'.get? b=some o)->h1.objs.size<=l->h'.get? l=some (seqObj "list" (List.toArray (p.toList.map fun i=>vs.getD i Value.none)) e)->Q (.ref l) { s with heap:=h',toks:=tk }) :
  MN (model prog w) A (call (.builtin "sorted") [src]) Q E s:=by
 refine Calls.call_function_entry kind_sorted plain_sorted entry_sorted (args_sorted1 _) ?_
 unfold Builtin.«sorted»
 refine MU (m:=checkCount "sorted" 1 1 _) (MY ?_)
 refine MU (hcol _ fun h1 tk k1=>?_)
 refine MU (wpAny_newList ?_ (by rw [M6]; omega))
 have hoL:(h1.push (seqObj "list" vs.toArray 0)).get? h1.objs.size=some (seqObj "list" vs.toArray 0):=Mf _ rfl
 have k2:∀ b o,s.heap.get? b=some o->(h1.push (seqObj "list" vs.toArray 0)).get? b=some o:=fun b o e=>Md _ (k1 b o e)
 have ne:∀ b o,s.heap.get? b=some o->b≠h1.objs.size:=fun b o e=>Jj (Ma (k1 b o e))
 refine MU (MV (Ny slot_list_sort ⟨_,hoL,rfl⟩ entry_list_sort (qb (s:={ s with heap:=h1.push (seqObj "list" vs.toArray 0),toks:=tk }) (r:=r) (κ:=κ) hoL h64
  (fun h2 h' k=>hk h2 h' tk fun b o e=>k b o (ne b o e) (k2 b o e)) (fun h2 h' k=>hr h2 h' tk fun b o e=>k b o (ne b o e) (k2 b o e)) fun p hp hu=>⟨_,rfl,?_⟩) (args_list_sort _)))
 refine MY ⟨_,rfl,?_⟩
 obtain⟨e,he⟩:=sortedHeap_at (vs:=vs) (out:=List.toArray (p.toList.map fun i=>vs.getD i Value.none)) hoL
 exact h p h1 _ h1.objs.size e tk hp hu k1 (fun b o q=>by rw [sortedHeap_old (Jj (Ma q)) (by rw [size_push']; exact J0 (Ma q))]; exact Md _ q) (Jt _) he
end
def fS:D->List D
 | .tup ks=>ks
 | _=>[]
def oneOf (d:D):List D:=[d]
def DA (xs:List D):Prop:=xs.length < 64/\∃ σ:List Bool,σ≠[]/\(∀ x∈xs,∃ k,x=.tup k/\Sh σ k)/\xs.Pairwise fun x y=>fS x≠fS y
def Dw (xs:List D):Prop:=xs.length < 64/\∃ b:Bool,(∀ x∈xs,Sh [b] [x])/\xs.Pairwise fun x y=>oneOf x≠oneOf y
open Classical in
noncomputable def nW (xs:List D):Option D:=if DA xs then some (.lst (lH fS xs)) else if Dw xs then some (.lst (lH oneOf xs)) else none
noncomputable def gd:List D->Option D
 | [.lst xs]=>nW xs
 | [.tup xs]=>nW xs
 | _=>none
theorem jJ {prog:ME} {w:MD} {A:MK} {s:ML} {Q:Bool->ML->Prop} {fin:Bool} (hf:fin=false):∀ {σ:List Bool} {ns ms:List D} {xs ys:List MC} {i:Nat},Sh σ ns->Sh σ ms->fM xs ns->fM ys ms->Q (kLt ns ms) s->KatLex prog w A true fin Q (xs.zip ys) i s
 | _,_,_,_,_,i,.nil,.nil,.nil,.nil,h=>by
  subst hf
  exact kat_nil (by simpa [kLt,dY] using h)
 | _,_,_,_,_,i,.int a h1,.int c h2,.int _ t f1,.int _ u f2,h=>by
  rw [Kx]
  obtain⟨e,he,hiff⟩:=BQ A s a t c u
  refine kat_cons (he prog w _ _ ?_)
  cases e with
  | true =>
   have ac:=hiff.mp rfl
   refine kat_yes (jJ hf h1 h2 f1 f2 ?_)
   unfold kLt at h ⊢
   rw [pQ,if_pos ac] at h
   exact h
  | false =>
   have ac:¬ a=c:=fun q=>absurd (hiff.mpr q) Jx
   have h':Q (decide (a < c)) s:=by
    unfold kLt at h
    rw [pQ,if_neg ac] at h
    cases hd:decide (a < c) <;> rw [hd] at h <;> exact h
   refine kat_no ?_
   cases hi:(i==0) with
   | true=>exact oneLt_int h'
   | false=>exact kat_one _ _ (PySem.P.lt_int (show LU Q (.bool _) s from h'))
 | _,_,_,_,_,i,.str a h1,.str c h2,.str _ t f1,.str _ u f2,h=>by
  rw [Kx]
  obtain⟨e,he,hiff⟩:=BH A s a t c u
  refine kat_cons (he prog w _ _ ?_)
  cases e with
  | true =>
   have ac:=hiff.mp rfl
   refine kat_yes (jJ hf h1 h2 f1 f2 ?_)
   unfold kLt at h ⊢
   rw [pP,if_pos ac] at h
   exact h
  | false =>
   have ac:¬ a=c:=fun q=>absurd (hiff.mpr q) Jx
   have h':Q (decide (a.cps.toList < c.cps.toList)) s:=by
    unfold kLt at h
    rw [pP,if_neg ac] at h
    cases hd:decide (a.cps.toList < c.cps.toList) <;> rw [hd] at h <;> exact h
   refine kat_no ?_
   cases hi:(i==0) with
   | true=>exact oneLt_str h'
   | false=>exact kat_one _ _ (PySem.P.lt_str (show LU Q (.bool _) s from h'))
theorem pL {h:MG} {PT:MC->Prop}:∀ {its:List MC},(∀ v∈its,∃ a o xs n f,v=.ref a/\h.get? a=some o/\o.cls=.type "tuple"/\o.data=.seq xs n/\xs[0]?=some f/\PT f)->∃ fs,KatTups h its fs/\fs.length=its.length/\∀ f∈fs,PT f
 | [],_=>⟨[],.nil,rfl,fun _ h=>nomatch h⟩
 | v::its,hh=>by
  obtain⟨a,o,xs,n,f,rfl,h1,h2,h3,h4,h5⟩:=hh v Jn
  obtain⟨fs,k1,k2,k3⟩:=pL (its:=its) fun u hu=>hh u (Jo _ hu)
  refine⟨f::fs,.cons h1 h2 h3 h4 k1,by rw [JT,JT,k2],fun g hg=>?_⟩
  rcases List.mem_cons.mp hg with rfl | z
  ·exact h5
  ·exact k3 g z
theorem fM.first {σ:List Bool} {b:Bool} {xs:List MC} {ns:List D} (f:fM xs ns) (h:Sh (b::σ) ns):∃ v,xs[0]?=some v/\typeOf v=pure (.type (if b then "int" else "str")):=by
 cases f with
 | nil=>cases h
 | int i t f=>cases h; exact⟨_,rfl,rfl⟩
 | str i t f=>cases h; exact⟨_,rfl,rfl⟩
theorem uq {key:D->List D} {σ:List Bool} {ds:List D} (h:∀ x∈ds,Sh σ (key x)) (pw:ds.Pairwise fun x y=>key x≠key y) {p:Array Nat} (hp:PM ds.length p) (hu:Up (rank (ds.map key)) p ds.length):p.toList.map (fun i=>ds.getD i .non)=lH key ds:=by
 have hr:p.toList.Perm (List.range ds.length):=by
  have:=Array.perm_iff_toList_perm.mp hp
  simpa using this
 have hmap:(List.range ds.length).map (fun i=>ds.getD i .non)=ds:=by
  apply List.ext_getElem
  ·simp
  ·intro i h1 h2
   simp at h1
   simp [h1]
 have hperm:(p.toList.map fun i=>ds.getD i .non).Perm ds:=by
  have:=hr.map (fun i=>ds.getD i .non)
  rwa [hmap] at this
 have hn:p.toList.Nodup:=hr.nodup_iff.mpr List.nodup_range
 refine(zK h pw ?_ hperm).symm
 have hl:p.toList.length=ds.length:=by rw [hr.length_eq,Kg]
 have kd:∀ i,i < ds.length->(ds.map key).getD i []=key (ds.getD i .non):=fun i hi=>by simp [hi]
 have hsh:∀ k∈ds.map key,Sh σ k:=fun k hk=>by
  obtain⟨x,hx,rfl⟩:=List.mem_map.mp hk
  exact h x hx
 unfold uI
 rw [KP,List.pairwise_iff_getElem]
 intro i j hi hj hij
 have hi':p.toList[i] < ds.length:=by simpa using hr.mem_iff.mp (KO hi)
 have hj':p.toList[j] < ds.length:=by simpa using hr.mem_iff.mp (KO hj)
 have ne:p.toList[i]≠p.toList[j]:=List.pairwise_iff_getElem.mp hn i j hi hj hij
 have up:=hu i j ‹0› ‹0›
 have gi:p.getD i 0=p.toList[i]:=by
  have:i < p.size:=by rw [<- Array.length_toList]; exact hi
  simp [Array.getD,this]
 have gj:p.getD j 0=p.toList[j]:=by
  have:j < p.size:=by rw [<- Array.length_toList]; exact hj
  simp [Array.getD,this]
 unfold Rk at up
 rw [gi,gj] at up
 have rl:=sI hsh (i:=p.toList[j]) (j:=p.toList[i]) (by rw [JI]; exact hj') (by rw [JI]; exact hi')
 rw [kd _ hj',kd _ hi',decide_eq_false ‹0›] at rl
 have ei:ds.getD p.toList[i] .non=ds[p.toList[i]]:=by rw [KQ,J8 hi']; rfl
 have ej:ds.getD p.toList[j] .non=ds[p.toList[j]]:=by rw [KQ,J8 hj']; rfl
 have s1:=h _ (show ds.getD p.toList[i] .non∈ds by rw [ei]; exact KO hi')
 have s2:=h _ (show ds.getD p.toList[j] .non∈ds by rw [ej]; exact KO hj')
 rcases j4 s1 s2 with ⟨z,_⟩ | z | ⟨z,_⟩
 ·exact z
 ·exfalso
  have pw':=List.pairwise_iff_getElem.mp pw
  rw [ei,ej] at z
  rcases Nat.lt_or_gt_of_ne ne with q | q
  ·exact pw' _ _ hi' hj' q z
  ·exact pw' _ _ hj' hi' q z.symm
 ·rw [Ay.mpr z] at rl; cases rl
theorem qD {vs:List V} {us:List MC} (r:Vals vs us):∀ l:List Nat,(∀ i∈l,i < vs.length)->Vals (l.map fun i=>vs.getD i .non) (l.map fun i=>us.getD i Value.none)
 | [],_=>.nil
 | i::l,h=>by
  have hi:=h i Jn
  obtain⟨u,e,q⟩:=r.get (i:=i) (x:=vs[i]) (by simp [hi])
  refine .cons ?_ (qD r l fun j hj=>h j (Jo _ hj))
  have e1:vs.getD i .non=vs[i]:=by simp [hi]
  have e2:us.getD i Value.none=u:=by simp [KQ,e]
  show L2.RelV (vs.getD i .non) (us.getD i Value.none)
  rw [e1,e2]; exact q
theorem rG {K:Lj} {H:Hp} {ds:List D} {vs:List V} (g:aZ K H ds vs):∀ l:List Nat,(∀ i∈l,i < ds.length)->aZ K H (l.map fun i=>ds.getD i .non) (l.map fun i=>vs.getD i .non)
 | [],_=>bZ.mpr rfl
 | i::l,h=>by
  have hi:=h i Jn
  obtain⟨v,e,q⟩:=g.get (i:=i) (d:=ds[i]) (by simp [hi])
  refine bx.mpr ⟨_,_,rfl,?_,rG g l fun j hj=>h j (Jo _ hj)⟩
  have e1:ds.getD i .non=ds[i]:=by simp [hi]
  have e2:vs.getD i .non=v:=by simp [KQ,e]
  show cm K H (ds.getD i .non) (vs.getD i .non)
  rw [e1,e2]; exact q
section
variable {X:Cx} {pins:List (MF×Obj)} {s:ML} {σ:L2.St} {H:Hp} {O:List MF}
theorem rz {u:MC} {ds:List D} {vs:List V} {its:List MC} {d:D} {Q:VK} (I:Inv X pins σ H s) (hO:dt H O) (dn:aZ X.K (hid H O) ds vs) (rv:Vals vs its) (hs:nW ds=some d)
  (hcol:∀ (Q':List MC->ML->Prop),(∀ h' tk,(∀ b o,s.heap.get? b=some o->h'.get? b=some o)->Q' its { s with heap:=h',toks:=tk })->MN (model X.prog X.w) X.A.in1 (collect u) Q' X.xe s)
  (q:∀ v H',bC H H'->cm X.K (hid H' O) d v->Q v H'):MN (model X.prog X.w) X.A (call (.builtin "sorted") [u]) (EP X pins σ Q) X.xe s:=by
 have l1:=dn.length
 have l2:=rv.length
 have fin:∀ (key:D->List D) (σ':List Bool),(∀ x∈ds,Sh σ' (key x))->ds.Pairwise (fun x y=>key x≠key y)->ds.length < 64->d=.lst (lH key ds)->∀ (p:Array Nat) (h1 h':MG) (l:MF) (e tk:Nat),PM its.length p->Up (rank (ds.map key)) p its.length->(∀ b o,s.heap.get? b=some o->h1.get? b=some o)->(∀ b o,h1.get? b=some o->h'.get? b=some o)->h1.objs.size<=l ->
   h'.get? l=some (seqObj "list" (List.toArray (p.toList.map fun i=>its.getD i Value.none)) e)->EP X pins σ Q (.ref l) { s with heap:=h',toks:=tk }:=by
  intro key σ' hsh pw h64 ed p h1 h' l e tk hp hu k1 k2 hl he
  have el:its.length=ds.length:=by omega
  rw [el] at hp hu
  have ps:=uq hsh pw hp hu
  have hr:p.toList.Perm (List.range ds.length):=by
   have:=Array.perm_iff_toList_perm.mp hp
   simpa using this
  have hlt:∀ i∈p.toList,i < ds.length:=fun i hi=>by simpa using hr.mem_iff.mp hi
  have I1:Inv X pins σ H { s with heap:=h1,toks:=tk }:=I.kept k1
  have hn:H l=none:=I1.hok.fresh hl
  have rv':=qD rv p.toList fun i hi=>by have:=hlt i hi; omega
  have dn':=rG dn p.toList hlt
  have hlen:p.toList.length=ds.length:=by rw [hr.length_eq,Kg]
  refine⟨.ref l,_,Inv.laid (s:={ s with heap:=h1,toks:=tk }) (t':=tk) I1 k2 hl (show cM X.prog X.w _ h' _ (.lst (p.toList.map fun i=>vs.getD i .non)) from ⟨by rw [JI,hlen,M6]; omega,_,e,rv',he⟩),rfl,?_⟩
  refine q _ _ (cn hn _) ?_
  rw [ed,<- ps]
  exact ig hO hn dn'
 unfold nW at hs
 split at hs
 ·rename_i h
  cases hs
  obtain⟨h64,σ',hσ,hsh,pw⟩:=h
  obtain⟨b,σ1,rfl⟩:∃ b σ1,σ'=b::σ1:=by
   cases σ' with
   | nil=>exact absurd rfl hσ
   | cons b σ1=>exact⟨b,σ1,rfl⟩
  have hsh':∀ x∈ds,Sh (b::σ1) (fS x):=fun x hx=>by
   obtain⟨k,rfl,hk⟩:=hsh x hx
   exact hk
  have at':∀ i (hi:i < ds.length),∃ a o xs n,its[i]?=some (.ref a)/\s.heap.get? a=some o/\o.cls=.type "tuple"/\o.data=.seq xs n/\fM xs.toList (fS ds[i]):=fun i hi=>by
   obtain⟨v,e1,dv⟩:=dn.get (i:=i) (d:=ds[i]) (by simp [hi])
   obtain⟨w,e2,rw'⟩:=rv.get e1
   obtain⟨k,ek,hk⟩:=hsh _ (KO hi)
   rw [ek] at dv ⊢
   obtain⟨a,ws,rfl,ha,dk⟩:=cf.mp dv
   cases rw'
   obtain⟨it2,r2,⟨o,ho,hc,n,hd⟩,_⟩:=I.tuple (cu (aM H O) ha)
   exact⟨a,o,_,n,e2,ho,hc,hd,by simpa [fS] using jM (sA hk) dk r2⟩
  refine pp (κ:=tuples' true) (r:=rank (ds.map fS)) ‹0› hcol (fun h2 h' tk kp Q' hQ=>?_) (fun h2 h' tk kp i j C hi hj hC=>?_) (fin fS _ hsh' pw h64 rfl)
  ·obtain⟨fs,t1,t2,t3⟩:=pL (h:=h') (PT:=fun f=>typeOf f=pure (.type (if b then "int" else "str"))) (its:=its) fun v hv=>by
    obtain⟨i,hi,rfl⟩:=Ke hv
    obtain⟨a,o,xs,n,e1,ho,hc,hd,ff⟩:=at' i ‹0›
    obtain⟨f,ef,tf⟩:=ff.first (hsh' _ (KO _))
    refine⟨a,o,xs,n,f,?_,kp _ _ ho,hc,hd,by simpa using ef,tf⟩
    have:=J8 hi
    rw [e1] at this
    exact(Option.some.inj this).symm
   refine kat_kind (T:=.type (if b then "int" else "str")) t1 ‹0› (fun f hf=>Looks.of_pure (t3 f hf)) (by cases b <;> rfl) ?_
   have:(Value.type (if b then "int" else "str") != Value.type "tuple")=true:=by cases b <;> rfl
   rw [this]; exact hQ
  ·obtain⟨a,o,xs,n,e1,ho,hc,hd,ff⟩:=at' i ‹0›
   obtain⟨a2,o2,xs2,n2,e2,ho2,hc2,hd2,ff2⟩:=at' j ‹0›
   unfold kas_ask
   have g1:its.getD i Value.none=.ref a:=by simp [KQ,e1]
   have g2:its.getD j Value.none=.ref a2:=by simp [KQ,e2]
   rw [g1,g2]
   have hi':i < ds.length:=by omega
   have hj':j < ds.length:=by omega
   have sh1:=hsh' _ (KO hi')
   have sh2:=hsh' _ (KO hj')
   have rl:=sI (ks:=ds.map fS) (σ:=b::σ1) (fun k hk=>by obtain⟨x,hx,rfl⟩:=List.mem_map.mp hk; exact hsh' x hx) (i:=i) (j:=j) (by rw [JI]; exact hi') (by rw [JI]; exact hj')
   have k1:(ds.map fS).getD i []=fS ds[i]:=by simp [hi']
   have k2:(ds.map fS).getD j []=fS ds[j]:=by simp [hj']
   rw [k1,k2] at rl
   rw [rl] at hC
   refine kat_lt (kp _ _ ho) hd (kp _ _ ho2) hd2 (jJ ?_ sh1 sh2 ff ff2 hC)
   have z1:xs.size=(fS ds[i]).length:=by have:=ff.length; simpa using this
   have z2:xs2.size=(fS ds[j]).length:=by have:=ff2.length; simpa using this
   have z3:(fS ds[i]).length=(fS ds[j]).length:=by rw [Sh.length sh1,Sh.length sh2]
   exact decide_eq_false ‹0›
 ·split at hs
  ·rename_i _ h
   cases hs
   obtain⟨h64,b,hsh,pw⟩:=h
   have at':∀ i (hi:i < ds.length),(∃ (n:Int) (t:Tok),b=true/\its[i]?=some (.int n t)/\ds[i]=.int n)\/∃ (x:Str) (t:Tok),b=false/\its[i]?=some (.str x t)/\ds[i]=.str x:=fun i hi=>by
    obtain⟨v,e1,dv⟩:=dn.get (i:=i) (d:=ds[i]) (by simp [hi])
    obtain⟨w,e2,rw'⟩:=rv.get e1
    have hk:=hsh _ (KO hi)
    generalize ds[i]=di at dv hk
    cases hk with
    | int n _ =>
     rw [eR] at dv; subst dv
     obtain⟨t,rfl⟩:=rw'
     exact .inl ⟨n,t,rfl,e2,rfl⟩
    | str x _ =>
     rw [eQ] at dv; subst dv
     obtain⟨t,rfl⟩:=rw'
     exact .inr ⟨x,t,rfl,e2,rfl⟩
   refine pp (κ:=oneType') (r:=rank (ds.map oneOf)) ‹0› hcol (fun h2 h' tk kp Q' hQ=>?_) (fun h2 h' tk kp i j C hi hj hC=>?_) (fin oneOf [b] hsh pw h64 rfl)
   ·refine kas_kind (T:=.type (if b then "int" else "str")) h2 (fun v hv=>?_) (by cases b <;> rfl) (by cases b <;> rfl) hQ
    obtain⟨i,hi,rfl⟩:=Ke hv
    have hg:=J8 hi
    rcases at' i ‹0› with ⟨n,t,rfl,e,_⟩ | ⟨x,t,rfl,e,_⟩
    ·rw [hg] at e; rw [Option.some.inj e]; exact Looks.of_pure rfl
    ·rw [hg] at e; rw [Option.some.inj e]; exact Looks.of_pure rfl
   ·have hi':i < ds.length:=by omega
    have hj':j < ds.length:=by omega
    unfold kas_ask
    have rl:=sI (ks:=ds.map oneOf) (σ:=[b]) (fun k hk=>by obtain⟨x,hx,rfl⟩:=List.mem_map.mp hk; exact hsh x hx) (i:=i) (j:=j) (by rw [JI]; exact hi') (by rw [JI]; exact hj')
    have k1:(ds.map oneOf).getD i []=[ds[i]]:=by simp [hi',oneOf]
    have k2:(ds.map oneOf).getD j []=[ds[j]]:=by simp [hj',oneOf]
    rw [k1,k2] at rl
    rw [rl] at hC
    rcases at' i hi' with ⟨n,t,hb,e1,q1⟩ | ⟨x,t,hb,e1,q1⟩
    ·rcases at' j hj' with ⟨n2,t2,hb2,e2,q2⟩ | ⟨x2,t2,hb2,e2,q2⟩
     ·have g1:its.getD i Value.none=.int n t:=by simp [KQ,e1]
      have g2:its.getD j Value.none=.int n2 t2:=by simp [KQ,e2]
      rw [g1,g2,keyLt'_oneType]
      refine oneLt_int ?_
      rw [q1,q2] at hC
      unfold kLt at hC
      rw [pQ] at hC
      by_cases z:n=n2
      ·rw [if_pos z] at hC
       rw [decide_eq_false ‹0›]
       exact hC
      ·rw [if_neg z] at hC
       cases hd:decide (n < n2) <;> rw [hd] at hC <;> exact hC
     ·rw [hb] at hb2; cases hb2
    ·rcases at' j hj' with ⟨n2,t2,hb2,e2,q2⟩ | ⟨x2,t2,hb2,e2,q2⟩
     ·rw [hb] at hb2; cases hb2
     ·have g1:its.getD i Value.none=.str x t:=by simp [KQ,e1]
      have g2:its.getD j Value.none=.str x2 t2:=by simp [KQ,e2]
      rw [g1,g2,keyLt'_oneType]
      refine oneLt_str ?_
      rw [q1,q2] at hC
      unfold kLt at hC
      rw [pP] at hC
      by_cases z:x=x2
      ·rw [if_pos z] at hC
       rw [decide_eq_false (by rw [z]; exact o9 _)]
       exact hC
      ·rw [if_neg z] at hC
       cases hd:decide (x.cps.toList < x2.cps.toList) <;> rw [hd] at hC <;> exact hC
  ·cases hs
theorem mi:dA X (.builtin "sorted") (we X.K gd):=by
 intro pins s σ H xs us Q I r ⟨O,ds,d,hO,hd,hg,q⟩
 unfold gd at hg
 split at hg
 ·obtain⟨v,rfl,h1⟩:=hd.one
  obtain⟨p,ws,rfl,g1,g2⟩:=cg.mp h1
  obtain⟨u,rfl,ru⟩:=vals1 r
  cases ru
  obtain⟨its,rv,pl,hz⟩:=I.list ((aM H O).seq g1)
  have hlen:=rv.length
  obtain⟨o,ho,hc,n,hd'⟩:=pl.isList
  exact rz I hO g2 rv hg (fun Q' hQ=>wpAny_collect_seq p (.inl rfl) ho hc hd' (fun h' k=>by simpa using hQ h' s.toks k) (by simp only [Jw] <;> omega)) q
 ·obtain⟨v,rfl,h1⟩:=hd.one
  obtain⟨p,ws,rfl,g1,g2⟩:=cf.mp h1
  obtain⟨u,rfl,ru⟩:=vals1 r
  cases ru
  obtain⟨its,rv,⟨o,ho,hc,n,hd'⟩,hz⟩:=I.tuple (cu (aM H O) g1)
  have hlen:=rv.length
  exact rz I hO g2 rv hg (fun Q' hQ=>wpAny_collect_seq p (.inr rfl) ho hc hd' (fun h' k=>by simpa using hQ h' s.toks k) (by simp only [Jw] <;> omega)) q
 ·cases hg
end
end TG
namespace TG
open PySem PySem.Spec L2
variable [aT]
section
variable {X:Cx} {tg:MO}
end
end TG
namespace TG
open PySem PySem.Spec L2
variable [aT]

end TG
namespace TG
open PySem PySem.Spec L2
variable [aT]
end TG
namespace TG
open PySem PySem.Spec L2
variable [aT]
def keyOf:D->Option Key
 | .int i=>some (.inl i)
 | .str x=>some (.inr x)
 | _=>none
def keysOf:List D->Option (List Key)
 | []=>some []
 | d::r=>(keyOf d).bind fun k=>(keysOf r).map (k::·)
theorem o3 {d:D} {k:Key} (h:keyOf d=some k):d=dE k:=by
 cases d with
 | int i=>cases h; rfl
 | str x=>cases h; rfl
 | _=>cases h
theorem mQ:∀ {ds:List D} {ks:List Key},keysOf ds=some ks->ds=ks.map dE
 | [],_,h=>by cases h; rfl
 | d::r,ks,h=>by
  unfold keysOf at h
  cases e1:keyOf d with
  | none=>rw [e1] at h; cases h
  | some k =>
   rw [e1] at h
   cases e2:keysOf r with
   | none=>rw [e2] at h; cases h
   | some ks'=>rw [e2] at h; cases h; rw [o3 e1,mQ e2]; rfl
theorem gX:∀ ks:List Key,keysOf (ks.map dE)=some ks
 | []=>rfl
 | k::r=>by
  show (keyOf (dE k)).bind _=_
  have e:keyOf (dE k)=some k:=by cases k <;> rfl
  rw [e]
  show (keysOf (r.map dE)).map (k::·)=_
  rw [gX r]; rfl
theorem tZ {K:Lj} {H:Hp} {k:Key} {v:V} (h:cm K H (dE k) v):v=kV k:=by
 cases k with
 | inl i=>exact eR.mp h
 | inr x=>exact eQ.mp h
section
variable {P:ME} {w:MD} {H H':Hp} {h:MG} {a:MF}
theorem tH (x:cM P w H h a (.dT [])):cM P w H' h a (.dK []):=by
 obtain⟨z,hd,xs,rel,o,es,ep,h1,h2,h3,h4,h5⟩:=x
 have e:xs=[]:=by have:=rel.length; simpa using this.symm
 subst e
 have e2:es=#[]:=by simpa using h4
 subst e2
 exact⟨Jz _,hd,[],.nil,o,#[],ep,h1,h2,h3,fun e he=>by simp at he,.nil,by simp⟩
end
section
variable {X:Cx} {pins:List (MF×Obj)} {σ:St} {H:Hp} {s:ML} {a:MF}
theorem HF (I:Inv X pins σ H s) (h1:H a=some (.dT [])):Inv X pins σ (upd H a (.dK [])) s:=by
 have hx:=I.hok a _ h1
 have hq:∃ q,s.heap.get? a=some q:=by obtain⟨_,_,_,_,o,_,_,e,_⟩:=id hx; exact⟨o,e⟩
 exact rS (ob:=.dK []) (h':=s.heap) (t':=s.toks) I (by rw [h1]; exact trivial) ⟨rfl,fun _ _=>rfl⟩ hq (tH hx)
end
theorem za {H:Hp} {a:MF} {o1 o2:HO}:upd (upd H a o1) a o2=upd H a o2:=by
 funext b
 by_cases e:b=a
 ·subst e; rw [bF,bF]
 ·rw [aW e,aW e,aW e]
end TG
namespace TG
open PySem PySem.Spec L2
variable [aT]
end TG
namespace TG
open PySem PySem.Spec PySem.W PySem.Calls PyProof.Rows Builtin Builtin.ObjectAttr Builtin.Getset_descriptor
variable [aT]
section
variable {prog:ME} {w:MD} {A:MK} {E:MC->ML->Prop} {s:ML} {K:Frag} {x D:MF} {ox:Obj} {R:Result->ML->Prop}
theorem y8 {M:Model} {h:MG} (X:K.In h) (q1:findIn K (.ref D) "__class__"=some (some (.builtin "object.__class__"))) (q2:specialIn K (.builtin "object.__class__") "__get__"=some (some (.builtin "getset_descriptor.__get__"))) (q3:takesIn K (.builtin "object.__class__")=some true) :
  Looks M h (find (.ref x) (.ref D) "__class__") (.bind (.builtin "getset_descriptor.__get__") (.builtin "object.__class__")):=by
 have y1:=looks_findIn (M:=M) X q1
 have y2:Looks M h (getOf (some (.builtin "object.__class__"))) (some (.builtin "getset_descriptor.__get__")):=looks_specialIn X q2
 have y3:=looks_takesIn (M:=M) X q3
 refine y1.andThen (y2.andThen ?_)
 refine Looks.andThen (a:=some (.builtin "getset_descriptor.__get__",.builtin "object.__class__")) (y3.andThen .now) ?_
 exact Looks.tag .now
theorem Bu {tp:MC} (y0:Looks (model prog w) s.heap (typeOf (.ref x)) (.ref D)) (y1:Looks (model prog w) s.heap (isSubtype (.ref D) (.type "object")) true) (h:R (.ok (.ret (.ref D))) s) :
  M7 (model prog w) A (.call (.builtin "getset_descriptor.__get__") ⟨[.builtin "object.__class__",.ref x,tp],[]⟩) R s:=by
 obtain⟨h₁,g₁,d₁,t₁,o₁⟩:=s
 refine NM KF.slot_gs.plain KF.entry_gs
  (KF.slot_gs.check _ _ _ _ _ _ _ _ KF.type_class (KF.args_gs _ _ _) ?_)
 unfold Builtin.«getset_descriptor.__get__»
 unfold descrGet
 rw [dga_obj]
 refine MU (MY ?_)
 unfold descrGetter descrCheckInstance
 unfold descrNameAndClass isInstance
 simp only [KF.owner_class]
 repeat lk
 refine⟨Code.quiet_builtin _ (by decide +kernel),
  codeAny_builtin KF.entry_class ?_⟩
 unfold Builtin.«object.__class__»
 unfold shownTypeOf
 repeat lk
 exact h
structure sE (K:Frag) (D:MF):Prop where
 ga:findIn K (.ref D) "__getattribute__"=some (some (.builtin "BaseException.__getattribute__"))
 gn:findIn K (.ref D) "__getattr__"=some none
 fc:findIn K (.ref D) "__class__"=some (some (.builtin "object.__class__"))
 sg:specialIn K (.builtin "object.__class__") "__get__"=some (some (.builtin "getset_descriptor.__get__"))
 tk:takesIn K (.builtin "object.__class__")=some true
 ob:mroIn K D (.type "object")=some true
 be:mroIn K D (.type "BaseException")=some true
theorem xC {Q:Option MC->ML->Prop} (Z:sE K D) (X:K.In s.heap) (y0:∀ M,Looks M s.heap (typeOf (.ref x)) (.ref D)) (h:Q (some (.ref D)) { s with toks:=s.toks+1 }):MN (model prog w) A (getAttr? (.ref x) "__class__") Q E s:=by
 obtain⟨hh,g,d,t,os⟩:=s
 have L0:=y0 (model prog w)
 have L1:=looks_findIn (M:=model prog w) X Z.ga
 have L2:=looks_findIn (M:=model prog w) X Z.gn
 have L3:=looks_mroIn (M:=model prog w) X Z.be
 have L4:=y8 (M:=model prog w) (x:=x) X Z.fc Z.sg Z.tk
 have L5:=looks_mroIn (M:=model prog w) X Z.ob
 unfold getAttr? getAttrBy? getAttrBy
 refine MU (wpAny_mkText (MU
  (NK (MV (MU (L0.at (MU (L1.at ?_))))))))
 show MN _ _ (getAttrByItsOwn _ _ _ _ _ _) _ _ _
 unfold getAttrByItsOwn
 refine MU ?_
 show MN _ _ (typeLookup (Value.ref D) "__getattr__") _ _ _
 refine L2.at ?_
 refine MU (NK (MV ?_))
 show MN _ _ (boundAndCalled _ _ _) _ _ _
 unfold boundAndCalled
 rw [PySem.F.attrBase_ValueError.ga.bind (.ref x)]
 refine MU (MY ?_)
 have ha:=F.args_bexc_ga (.ref x) (Value.str (Str.ofString "__class__") t)
 have hk:builtinKind "BaseException.__getattribute__"=some .slot:=by
  decide +kernel
 have hsplit:splitId "BaseException.__getattribute__"=some ("BaseException","__getattribute__"):=by
  decide +kernel
 refine Nw (NM PySem.F.attrBase_ValueError.ga.plain F.entry_bexc_ga ?_)
 have LI:Looks (model prog w) hh (isInstance (.ref x) (.type "BaseException")) true:=L0.andThen L3
 have hT:∀ A' (Q':Unit->ML->Prop) E',Q' () ⟨hh,g,d,t+1,os⟩->MN (model prog w) A' (checkBuiltinCall "BaseException.__getattribute__" ⟨[.ref x,Value.str (Str.ofString "__class__") t],[]⟩) Q' E' ⟨hh,g,d,t+1,os⟩:=fun A' Q' E' hq=>by
  simp only [checkBuiltinCall,hk,hsplit]
  refine MU (LI.at ?_)
  repeat (first | exact hq | wp_step)
 refine hT _ _ _ ?_
 show MN _ _ (Builtin.«object.__getattribute__» ⟨[.ref x,Value.str (Str.ofString "__class__") t],[]⟩) _ _ _
 unfold Builtin.«object.__getattribute__»
 refine MU (MY ?_)
 refine MU (MY ?_)
 refine MU (L0.at ?_)
 refine MU (L4.at ?_)
 show MN _ _ (Builtin.ObjectAttr.bindTo (.builtin "getset_descriptor.__get__") (.builtin "object.__class__") (.ref x) (.ref D)) _ _ _
 unfold Builtin.ObjectAttr.bindTo
 dsimp only
 refine MU (MV (Nw (Bu (s:=⟨hh,g,d,t+1,os⟩) L0 L5 ?_)))
 exact MY (handed_on rfl (MY h))
theorem zr (F:sE K D):KitX K (.ref x) (.ref D) (fun h=>∃ o,h.get? x=some o/\o.cls=.ref D):=by
 have cl:∃ c d cd sl,K.lookup D=some ⟨c,d,.cls cd,sl⟩:=by
  have z:=F.fc
  unfold findIn at z
  dsimp only at z
  split at z
  ·rename_i ho; exact⟨_,_,_,_,ho⟩
  ·cases z
 have ty:∀ (M:Model) (h:MG),(∃ o,h.get? x=some o/\o.cls=.ref D)->Looks M h (typeOf (.ref x)) (.ref D):=fun M h ⟨o,e,c⟩=>c ▸ (Looks.ld e).andThen .now
 refine⟨fun M h _ I=>ty M h I,fun M h X _=>?_,fun h tp dd its n sl X htp=>?_,fun X I k=>xC F X (fun M=>ty M _ I) k⟩
 ·obtain⟨c,d,cd,sl,ho⟩:=cl
  intro A' Q' E' s' k q
  unfold isType loadHead
  exact MU (wpAny_loadPart (k _ _ (X _ _ ho)) (MY q))
 ·obtain⟨c,d,cd,sl,ho⟩:=cl
  cases hb:(Value.ref D==Value.ref tp) with
  | false=>rfl
  | true =>
   have e:D=tp:=Value.ref.inj (beq_iff_eq.mp hb)
   subst e
   cases (X _ _ ho).symm.trans htp
end
end TG
namespace TG
open PySem PySem.Spec L2
variable [aT]
open PyProof.Rows (AllBare OwnCls)
section
variable {X:Cx} {pins:List (MF×Obj)} {σ:St} {H:Hp} {s:ML} {h':MG}
theorem vH (I:Inv X pins σ H s) (hx:X.ex=[]) (hst:X.stack=X.env::X.outer) (hf:X.env.frame=some X.env.locals) (hfn:∀ x,X.fn x=true) (us:s.heap.UpToSlots h') (k:∀ b o,s.heap.get? b=some o->jK X H b->b∉frs X.stack->h'.get? b=some o) :
  Inv X [] σ H { s with heap:=h' }:=by
 have un:=zX I hx hst hf us k
 have cellF:∀ x c,X.env.cells.lookup x=some c->c∉frs X.stack:=fun x c e z=>by
  obtain⟨v,o,q,d⟩:=I.cell x c e
  rw [hst] at z
  have z':c∈X.env.locals::frs X.outer:=by
   have:frs (X.env::X.outer)=X.env.locals::frs X.outer:=by show List.filterMap _ (_::_)=_; rw [Jm,hf]; rfl
   rw [this] at z; exact z
  rcases List.mem_cons.mp z' with z | z
  ·obtain⟨m,⟨o2,es,ep,e2,d2,_⟩,_⟩:=I.loc
   rw [<- z,q] at e2; cases e2; rw [d] at d2; cases d2
  ·obtain⟨_,o2,e2,_⟩:=I.ok.funs.mem z
   exact Ji _ (Jh (Ma e2) (I.ok.cab x c (hfn x) e))
 have cellK:∀ x c v,X.env.cells.lookup x=some c->s.heap.IsCell c v->h'.IsCell c v:=fun x c v e ⟨o,q,d⟩=>⟨o,k c o q (.inr (.inr (.inr ⟨x,e⟩))) (cellF x c e),d⟩
 obtain⟨m,hn,hl⟩:=I.loc
 refine⟨I.ok,I.os,I.bare,by rw [hx]; exact un,⟨m,us.ns hn,fun i x v e1 e2 e3=>?_⟩,fun x c e=>?_,I.free,I.freeC,fun p hp=>?_,v6 I k,I.len⟩
 ·obtain⟨u,r,q⟩:=hl i x v e1 e2 e3
  refine⟨u,r,?_⟩
  rcases q with q | ⟨q1,c,q2,q3⟩
  ·exact .inl q
  ·exact .inr ⟨q1,c,q2,cellK x c _ q2 q3⟩
 ·obtain⟨v,q⟩:=I.cell x c e
  exact⟨v,cellK x c v e q⟩
 ·rw [JA] at hp
  obtain⟨e,n,ne,nf,d⟩:=I.pin p (Jp _ hp)
  have nfs:p.1∉frs X.stack:=fun z=>by
   have:frs X.stack=X.env.locals::frs X.outer:=by rw [hst]; show List.filterMap _ (_::_)=_; rw [Jm,hf]; rfl
   rw [this] at z
   rcases List.mem_cons.mp z with z | z
   ·exact ne z
   ·exact nf z
  exact⟨k _ _ e (.inr (.inr (.inl ⟨p.2,hp⟩))) nfs,n,ne,nf,d⟩
theorem xP {e C:MF} {oe:Obj} (I:Inv X pins σ H s) (hx:X.ex=[]) (hn:H e=none) (he:s.heap.get? e=some oe) (hc:oe.cls=.ref C) (h0:X.s₀.heap.get? e=none) (hL:e≠X.env.locals) (hcl:∀ x,X.env.cells.lookup x≠some e) (hp:∀ p∈X.pn++pins,p.1≠e) :
  Inv X pins σ (upd H e (.ext (wM C e oe.dict))) s:=by
 have ne:∀ b u,H b=some u->b≠e:=fun b u q z=>by rw [z,hn] at q; cases q
 have U:=I.base
 refine⟨I.ok,I.os,I.bare,⟨U.keep,U.slot,fun b o q n nx=>?_,U.there,fun b xs q=>?_,fun b o u q=>?_,fun b ps q=>?_⟩,I.loc,I.cell,?_,fun x c q=>?_,fun p q=>?_,fun a o q=>?_,I.len⟩
 ·rw [aW fun z=>by rw [z,h0] at q; cases q]; exact U.free b o q n nx
 ·have:=U.tups b xs q; rw [aW (ne _ _ this)]; exact this
 ·have:=U.frzs b o u q; rw [aW (ne _ _ this)]; exact this
 ·obtain⟨more,z⟩:=U.tbls b ps q; exact⟨more,by rw [aW (ne _ _ z)]; exact z⟩
 ·rw [aW hL.symm]; exact I.free
 ·rw [aW fun z=>hcl x (by rw [<- z]; exact q)]; exact I.freeC x c q
 ·obtain⟨a1,a2,a3⟩:=I.pin p q
  exact⟨a1,by rw [aW (hp p q)]; exact a2,a3⟩
 ·by_cases z:a=e
  ·subst z
   rw [bF] at q; cases q
   exact⟨⟨oe,he,hc,rfl⟩,⟨oe,he⟩,fun _ _ h1 h2 ⟨o,q1,q2⟩ _ k=>⟨o,k _ o (.inl rfl) q1,q2⟩⟩
  ·rw [aW z] at q
   exact(I.hok a o q).stay (fun b u _ q=>q) (fun b q=>by rw [aW (ne _ _ q)]; exact q) fun b xs q=>by rw [aW (ne _ _ q)]; exact q
end
abbrev En:List MC:=[.type "ValueError",.type "Exception",.type "BaseException",.type "object"]
theorem AA {K:Lj} {h:MG} {C:MF} {bmB:List MC} {newId:String} (X:K.In h) (q:LV K C bmB newId=true) (x:Str):OwnCls x C bmB newId (fun _=>some (.ref C)) h:=by
 constructor
 ·rfl
 ·unfold LV at q
  split at q
  ·rename_i od data slots look
   split at q
   ·rename_i C0 tl s0 s1 s2 s3 nid s5 e1 e2
    simp only [JZ,beq_iff_eq,Bool.not_eq_true'] at q
    obtain⟨⟨⟨⟨⟨y1,y2⟩,y3⟩,y4⟩,y5⟩,y6⟩:=q
    subst y1 y2
    obtain⟨d1,d2,d3,d4,d5,d6,d7,d8,d9,d10,d11⟩:=data
    dsimp only at e1 y3 y5 y6
    subst e1 y3
    have hs:slots=#[s0,s1,s2,s3,some (.builtin nid),s5]:=by
     cases slots with
     | mk l=>rw [show l=_ from e2]
    subst hs
    exact⟨tl,d4,d1,d5,d2,d6,d7,d8,d9,d10,od,s0,s1,s2,s3,s5,_,X _ _ look,.of_isNs (PySem.W.isNs_of_in X y5),PySem.W.nsMap_none_of_in X y5 y6,PySem.W.tail_of_in X y4⟩
   ·cases q
  ·cases q
def ExcAt (K:Lj) (mg:Str->Option MC) (x:Str):Prop:=∃ C,clsAt K x C/\mg x=some (.ref C)/\LV K C En "ValueError.__new__"=true
def jI (c:Str) (f:av->R (List D)):cc:=fun k ρ=>og (f ρ) k ρ fun ds=>if small ds.length then k.ex ⟨c,[],[]⟩ ρ else un
theorem lP {base B h h':MG} (k:∀ b o,h.get? b=some o->h'.get? b=some o):∀ {l:List Env},(∀ b∈frs l,B.get? b=none)->h.FunFrames base l->h'.FunFrames B l
 | [],_,_=>trivial
 | env::l,hb,⟨h1,⟨L,o,h2,_,h3,h4⟩,h5⟩=>by
  have mem:L∈frs (env::l):=by show L∈List.filterMap _ (_::_); rw [Jm,h2]; exact Jn
  refine⟨h1,⟨L,o,h2,hb L mem,k _ _ h3,h4⟩,lP k (fun b z=>hb b ?_) h5⟩
  show b∈List.filterMap _ (_::_)
  rw [Jm,h2]
  exact Jo _ z
section
variable {X:Cx} {pos:Pos}
theorem zO {pins:List (MF×Obj)} {σ:St} {H:Hp} {s:ML} {h':MG} {e C:MF} {us:List MC} (I:Inv X pins σ H s) (m:Heap.MadeExcOf s.heap h' e (.ref C) us):v5 X H { s with heap:=h' } e C:=by
 have hd:∀ b o,(mD s.heap (fun b=>if b∈frs X.stack then some (.tup []) else none)).get? b=some o->s.heap.get? b=some o/\b∉frs X.stack:=fun b o q=>by
  obtain⟨q1,q2⟩:=vO q
  refine⟨q1,fun z=>?_⟩
  rw [if_pos z] at q2; cases q2
 obtain⟨t,m1,m2,m3⟩:=m.there
 refine⟨mD s.heap (fun b=>if b∈frs X.stack then some (.tup []) else none),.ref t,fun b o q=>m.keeps b o (hd b o q).1,?_,lP m.keeps (fun b hb=>?_) I.stack,.inr ⟨_,_,m1,rfl,rfl,rfl,rfl⟩,fun b o q kb nf=>?_⟩
 ·cases q:(mD s.heap (fun b=>if b∈frs X.stack then some (.tup []) else none)).get? e with
  | none=>rfl
  | some o=>have:=(hd e o q).1; rw [m.new] at this; cases this
 ·cases q:(mD s.heap (fun b=>if b∈frs X.stack then some (.tup []) else none)).get? b with
  | none=>rfl
  | some o=>exact absurd hb (hd b o q).2
 ·obtain⟨o1,e1⟩:∃ o1,s.heap.get? b=some o1:=by
   rcases kb with ⟨⟨o0,z⟩,nx⟩ | z | ⟨o0,z⟩ | ⟨y,z⟩
   ·exact I.base.there b o0 z nx
   ·cases q0:H b with
    | none=>exact absurd q0 z
    | some ob=>exact yU (I.hok b ob q0)
   ·exact⟨_,(I.pin _ (Jp _ z)).1⟩
   ·obtain⟨v,o0,z0,_⟩:=I.cell y b z
    exact⟨o0,z0⟩
  have:=m.keeps b o1 e1
  rw [show h'.get? b=some o from q] at this; cases this
  exact tU e1 (if_neg nf)
theorem Fs {x:Str} {e:MO} {es:List MO} {f:av->R (List D)} {np cpos:Pos} (hc:X.calm=true) (hx:ExcAt X.K X.mg x) (hg:Gl X x) (ha:FA X (e::es) f)
  (hdb:(x==("__debug__":Str))=false:=by decide) (hns:(e::es).all noStar=true:=by rfl) :
  FS X (.Raise (some (.Call (.Name x np) (e::es) [] cpos)) none pos) (jI x f):=fun Hb Ob pins s σ H E I ⟨O,ρ,k,r,S,hF,hk⟩=>by
 obtain⟨C,cl,hm,hi⟩:=hx
 obtain⟨tl,N,nm,q,bs,hdct,sn,sub,ab,col,dd,k0,k1,k2,k3,k5,mN,hC,hN,hni,T⟩:=(AA I.mod.kin hi x).obj
 have st:MP (e::es) X.env=_:=cW (JZ _ _ ▸ hns).1
 have plain:(backTo cpos (MP (e::es) X.env)).any (·.1)=false:=dS hns
 refine wpAny_Raise_call_subT (k5:=k5) (k3:=k3) (k2:=k2) (k1:=k1) (k0:=k0) (dd:=dd) (col:=col) (ab:=ab) (sub:=sub) (sn:=sn) (hdct:=hdct) (bs:=bs) (N:=N) (q:=q) (nm:=nm) PySem.F.excBase_ValueError (mN:=mN) (T.hasType PySem.F.excBase_ValueError.hasBase) (I.ok.hd hc) plain hni (km I hg hm ⟨rfl,?_⟩ hdb)
 have A1:=ha cpos pins s σ H (fun vs H1=>vs.length<=MH/\bC H H1/\k.ex ⟨x,[],[]⟩ ρ=r) I ⟨O,ρ,S.env,gk.on hF hk S fun ds e vs H' s' d'=>by
  have z:small ds.length=true:=by
   cases z:small ds.length with
   | true=>rfl
   | false=>rw [z] at e; exact absurd e.symm hk.ne
  rw [z] at e
  exact⟨by rw [<- d'.length]; exact de z,s',e⟩⟩
 rw [st] at A1 ⊢
 refine Calls.evalArgs_plain (dR A1 fun us s2 ⟨vs,H1,I1,rv,q1,q2,q3⟩=>⟨rfl,by rw [<- rv.length]; exact q1,I1.bk _ _ hC,hN.keeps I1.bk,T.keeps I1.bk,fun h' a m=>?_⟩)
 exact hk.ex O ρ σ H1 _ (S.same q2) q3 pins _ _ H1 (I1.kept (t':=s2.toks) m.keeps) (bC.refl H1) ⟨a,C,none,rfl,⟨cl,[],bZ.mpr rfl,rfl,.inl rfl⟩,zO I1 m⟩
end
end TG
namespace TG
open PySem PySem.Spec L2
variable [aT]
abbrev uk (X:Cx) (E:MC->ML->Prop) (pn:List (MF×Obj)):Cx:={ X with xe:=E,pn:=pn }
abbrev pU (X:Cx) (A:MK) (pn:List (MF×Obj)):Cx:={ X with A:=A,xe:=fun _ _=>False,calm:=false,pn:=pn }
section
variable {X:Cx} {pins:List (MF×Obj)} {σ:St} {H:Hp} {s:ML} {E:MC->ML->Prop} {A:MK}
theorem Bx (I:L2.Inv X pins σ H s) (E:MC->ML->Prop):L2.Inv (uk X E (X.pn++pins)) [] σ H s :=
 ⟨⟨I.ok.mod,I.ok.kind,I.ok.glob,I.ok.blt,I.ok.above,I.ok.inj,I.ok.has,I.ok.cab,I.ok.hd,I.ok.frames,I.ok.stk,I.ok.exf,I.ok.bs,I.ok.bsz,I.ok.noex,I.ok.exfs,I.ok.funs,I.ok.frf⟩,
  I.os,I.bare,I.base,I.loc,I.cell,I.free,I.freeC,fun p hp=>I.pin p (by simpa using hp),I.hok,I.len⟩
theorem jB {E':MC->ML->Prop} {A':MK} {c':Bool} (ok:X.Ok) (I:L2.Inv { X with A:=A',xe:=E',calm:=c',pn:=X.pn++pins } [] σ H s):L2.Inv X pins σ H s :=
 ⟨ok,I.os,I.bare,I.base,I.loc,I.cell,I.free,I.freeC,fun p hp=>I.pin p (by simpa using hp),I.hok,I.len⟩
theorem uz {pn:List (MF×Obj)} {ps:List (MF×Obj)} (I:L2.Inv (uk X E pn) ps σ H s) (hA:A.frames=X.A.frames):L2.Inv (pU X A pn) ps σ H s :=
 ⟨⟨I.ok.mod,I.ok.kind,I.ok.glob,I.ok.blt,I.ok.above,I.ok.inj,I.ok.has,I.ok.cab,(fun z=>nomatch z),by rw [show (pU X A pn).A=A from rfl,hA]; exact I.ok.frames,I.ok.stk,I.ok.exf,I.ok.bs,I.ok.bsz,I.ok.noex,I.ok.exfs,I.ok.funs,I.ok.frf⟩,
  I.os,I.bare,I.base,I.loc,I.cell,I.free,I.freeC,I.pin,I.hok,I.len⟩
theorem yR {i:Nat} {n:Str} {v:Option MC} {m:Str->Option MC} {h9:MG} {t:Nat} (I:L2.Inv X pins σ H s) (hN:X.N.Nodup) (hi:X.N[i]?=some n) (hn:s.heap.Ns X.env.locals m)
  (hl:∀ (i:Nat) (x:Str) (v:V),X.N[i]?=some x->σ[i]?=some (some v)->DZ X.env.scope x->∃ u,RelV v u/\Look X.env s.heap m x u)
  (ns:h9.Ns X.env.locals (fun x=>if x=n then v else m x)) (sb:Mb X.env.locals s.heap h9):L2.Inv X pins (σ.set i none) H { s with heap:=h9,toks:=t }:=by
 have old:∀ b o,X.s₀.heap.get? b=some o->b≠X.env.locals:=fun b o q z=>by
  have h1:=Ma q
  rw [z] at h1; exact Ji _ (Jh h1 I.ok.above)
 have go:∀ b o,b≠X.env.locals->s.heap.get? b=some o->h9.get? b=some o:=fun b o ne q=>(sb.2 b ne).trans q
 have cne:∀ c w,s.heap.IsCell c w->c≠X.env.locals:=fun c w ⟨o,q,d⟩ z=>by
  obtain⟨o2,es,ep,e2,d2,_⟩:=hn
  rw [z,e2] at q; cases q; rw [d2] at d; cases d
 have U:=I.base
 refine⟨I.ok,I.os,I.bare,⟨fun b o q n nb nx=>go b o (old b o q) (U.keep b o q n nb nx),fun b o q n nb nx=>?_,U.free,fun b o q nx=>?_,U.tups,U.frzs,U.tbls⟩,⟨_,ns,fun j y v' e1 e2 e3=>?_⟩,fun x c q=>?_,I.free,I.freeC,fun p hp=>?_,fun a o q=>?_,by rw [JK]; exact I.len⟩
 ·obtain⟨sl,z⟩:=U.slot b o q n nb nx
  exact⟨sl,go b _ (old b o q) z⟩
 ·obtain⟨o1,z⟩:=U.there b o q nx
  exact⟨o1,go b _ (old b o q) z⟩
 ·by_cases hj:j=i
  ·subst hj
   have hlt:j < σ.length:=by rw [I.len]; exact(List.getElem?_eq_some_iff.mp hi).1
   rw [Jq hlt] at e2; cases e2
  ·rw [Jr (Ne.symm hj)] at e2
   have hy:y≠n:=fun z=>by
    subst z
    obtain⟨l1,g1⟩:=List.getElem?_eq_some_iff.mp e1
    obtain⟨l2,g2⟩:=List.getElem?_eq_some_iff.mp hi
    exact hj (List.getElem_inj hN |>.mp (g1.trans g2.symm))
   obtain⟨u,r,q⟩:=hl j y v' e1 e2 e3
   refine⟨u,r,?_⟩
   rcases q with ⟨q1,q2⟩ | ⟨q1,c,q2,q3⟩
   ·exact .inl ⟨q1,by show (if y=n then v else m y)=some u; rw [if_neg hy]; exact q2⟩
   ·obtain⟨o,z1,z2⟩:=id q3
    exact .inr ⟨q1,c,q2,o,go c o (cne c _ q3) z1,z2⟩
 ·obtain⟨w,z⟩:=I.cell x c q
  obtain⟨o,z1,z2⟩:=id z
  exact⟨w,o,go c o (cne c _ z) z1,z2⟩
 ·obtain⟨e,n',ne,r⟩:=I.pin p hp
  exact⟨go _ _ ne e,n',ne,r⟩
 ·refine(I.hok a o q).stay (fun b u hb z=>go b u (fun w=>?_) z) (fun _ q=>q) fun _ _ q=>q
  have hz:=I.free
  rw [<- w] at hz
  rcases hb with e | e
  ·rw [e,q] at hz; cases hz
  ·rw [e] at hz; cases hz
theorem xc {e C:MF} (fl:v5 X H s e C):∃ oe vs,s.heap.get? e=some oe/\oe.cls=.ref C/\oe.data=.fields vs:=by
 obtain⟨B,a0,_,_,_,b4,_⟩:=fl
 rcases b4 with ⟨oe,vs,T,oT,ts,h1,h2,h3,_⟩ | ⟨oe,vs,h1,h2,h3,_⟩
 ·exact⟨oe,vs,h1,h2.1,h3⟩
 ·exact⟨oe,vs,h1,h2,h3⟩
theorem yv {M:Model} {e C:MF} {Q:Unit->ML->Prop} (hfr:A.frames=some X.stack) (hst:X.stack=X.env::X.outer) (hf:X.env.frame=some X.env.locals) (fl:v5 X H s e C)
  (hQ:∀ B a0 h',Heap.HeldW B X.stack e (.ref C) a0 X.env.locals h'->s.heap.UpToSlots h'->(∀ b o,s.heap.get? b=some o->jK X H b->b∉frs X.stack->B.get? b=some o)->Q () { s with heap:=h' }) :
  MN M A (noteFrame (.ref e) X.env) Q E s:=by
 obtain⟨B,a0,b1,b2,b3,b4,b5⟩:=fl
 rw [hst] at hfr b3
 rcases b4 with b4 | ⟨oe,vs,c1,c2,c3,c4,c5⟩
 ·exact wpAny_looks_onW hfr hf ⟨b1,b2,b3,b4⟩ fun h' hd us=>hQ B a0 h' (by rw [hst]; exact hd) us b5
 ·unfold noteFrame
  simp only [hf]
  refine MU (Nz c1 c3 c4 ?_)
  rw [if_neg (by decide)]
  refine wpAny_entryW hfr b3 hf c1 b1 b2 c3 (Array.getElem?_eq_some_iff.mp c4).1 c5 fun h' hN=>?_
  obtain⟨k1,k2,k3,k4⟩:=hN
  exact hQ B a0 h' ⟨k1,b2,by rw [hst]; exact k2,c2 ▸ k3⟩ k4 b5
end
theorem eF.unset {K:Lj} {Hb:Hp} {Ob O:List MF} {H:Hp} {ρ:av} {σ:St} (T:eF K Hb Ob O H ρ σ) (i:Nat):eF K Hb Ob O H (ρ.set i none) (σ.set i none):=by
 have key:∀ (j:Nat) (x:S),(ρ.set i none)[j]?=some (some x)->j≠i/\ρ[j]?=some (some x):=fun j x e=>by
  rcases bO e with ⟨_,q⟩ | ⟨ne,q⟩
  ·cases q
  ·exact⟨ne,q⟩
 refine⟨⟨fun j d e=>?_,fun j d e=>?_,fun j l xs ys a e1 e2 e3 e4=>?_,T.env.all⟩,T.base,fun j xs a e1 e2=>?_⟩
 ·obtain⟨ne,q⟩:=key j _ e
  obtain⟨v,q1,q2⟩:=T.env.val j d q
  exact⟨v,by rw [Jr ne.symm]; exact q1,q2⟩
 ·obtain⟨ne,q⟩:=key j _ e
  obtain⟨a,q1,q2⟩:=T.env.own j d q
  exact⟨a,by rw [Jr ne.symm]; exact q1,q2⟩
 ·obtain⟨n1,q1⟩:=key j _ e1
  obtain⟨n2,q2⟩:=key l _ e2
  rw [Jr n1.symm] at e3
  rw [Jr n2.symm] at e4
  exact T.env.one j l xs ys a q1 q2 e3 e4
 ·obtain⟨ne,q⟩:=key j _ e1
  rw [Jr ne.symm] at e2
  exact T.mine j xs a q e2
def uc (K:Lj) (mg:Str->Option MC) (g:Str) (cs:List Str):Prop:=∃ G,mg g=some (.ref G)/\∀ c∈cs,∀ C,clsAt K c C->LW K (.ref C) (.ref G)=some true
def Ei (i:Nat) (k:Ks):Ks:=⟨fun ρ=>k.nx (ρ.set i none),fun ρ=>k.bk (ρ.set i none),fun ρ=>k.ct (ρ.set i none),fun _ _=>un⟩
def AO (cs:List Str) (i:Nat) (F Fh:cc):cc:=fun k ρ=>F { k with ex:=fun x ρ1=>if (cs.contains x.c && x.fs.isEmpty)=true then Fh (Ei i k) (setV i (.exc x.c [] []) ρ1) else un } ρ
section
variable {X:Cx} {pos:Pos}
theorem Hj {body suite:List MQ} {b₀:MQ} {g n:Str} {gp hpos:Pos} {F Fh:cc} {cs:List Str} {i:Nat} (hx:X.ex=[]) (hst:X.stack=X.env::X.outer) (hf:X.env.frame=some X.env.locals) (hfn:∀ x,X.fn x=true)
  (hT:uc X.K X.mg g cs) (hg:Gl X g) (hN:X.N.Nodup) (hi:X.N[i]?=some n) (hl:X.env.scope.names.lookup n=some .local)
  (hb:∀ E pn,M0 (model X.prog X.w) X.A X.env E->uF (uk X E pn) body F) (hs:∀ A pn,A.depth=X.A.depth->A.units=X.A.units->uF (pU X A pn) (b₀::suite) Fh) (hdb:(g==("__debug__":Str))=false:=by decide) :
  FS X (.Try body [.ExceptHandler (some (.Name g gp)) (some n) (b₀::suite) hpos] [] [] pos) (AO cs i F Fh):=fun Hb Ob pins s σ H E I ⟨O,ρ,k,r,S,hF,hk⟩=>by
 obtain⟨G,hG,hcs⟩:=hT
 refine wpAny_Try_except ?_
 have land:∀ O1 ρ1 σ1 H1 x,eF X.K Hb Ob O1 H1 ρ1 σ1->(if (cs.contains x.c && x.fs.isEmpty)=true then Fh (Ei i k) (setV i (.exc x.c [] []) ρ1) else un)=r ->
   CD (uk X (fun e s₁=>MN (model X.prog X.w) X.A (noteFrame e X.env) (fun _ s₂=>MN (model X.prog X.w) X.A (setFlight e none) (fun _ s₃=>MN (model X.prog X.w) X.A (handleBy e X.env [.ExceptHandler (some (.Name g gp)) (some n) (b₀::suite) hpos]) (SP X pins E) X.xe s₃) X.xe s₂) X.xe s₁) (X.pn++pins)) σ1 O1 H1 x:=by
  rintro O1 ρ1 σ1 H1 x S1 ex pins' s1 u H2 I1 sm ⟨e,C,dx,rfl,hd,fl⟩
  have cond:(cs.contains x.c && x.fs.isEmpty)=true:=by
   cases z:(cs.contains x.c && x.fs.isEmpty) with
   | true=>rfl
   | false=>rw [z] at ex; exact absurd ex.symm hk.ne
  rw [if_pos cond] at ex
  rw [JZ] at cond
  obtain⟨oe1,vs1,he1,hc1,hd1⟩:=xc fl
  have nfr:e∉frs X.stack:=fun z=>by
   obtain⟨_,o,q,nf⟩:=I1.stack.mem z
   rw [he1] at q; cases q; exact nf _ hd1
  refine yv (X:=uk X _ (X.pn++pins)) I1.ok.frames hst hf fl fun B a0 h4 held us4 kb=>?_
  have nk:¬ jK (uk X _ (X.pn++pins)) H2 e:=fun z=>by
   have:=kb e oe1 he1 z nfr
   rw [held.2.1] at this; cases this
  refine wpAny_landsW held fun h5 fl5 us5=>?_
  have I5:=vH I1 hx hst hf hfn (us4.trans us5) fun b o q kb' nf=>fl5.1 b o (kb b o q kb' nf)
  obtain⟨oe5,he5,hc5⟩:=fl5.there
  have I5h:=uz (A:=X.A.mark (some (.ref e))) I5 rfl
  refine wpAny_handleBy_cons (codeAny_handlers_test (km (X:=pU X (X.A.mark (some (.ref e))) (X.pn++pins)) I5h hg hG ?_ hdb)) (by intro z; cases z)
  refine(PySem.W.exm_one I5.kIn (show Lw _ h5 (typeOf (.ref e)) (.ref C) from hc5 ▸ (PySem.W.Looks.ld he5).andThen .now) (hcs x.c (by simpa using cond.1) C hd.1)).at ?_
  refine codeAny_handlers_suite_as ?_
  refine PyProof.Rows.lands_againW fl5 fun h6 fl6 us6=>?_
  have I6:=vH I1 hx hst hf hfn ((us4.trans us5).trans us6) fun b o q kb' nf=>fl6.1 b o (kb b o q kb' nf)
  obtain⟨oe6,ws6,he6,hc6,hd6,_⟩:=fl6.first
  have hn:H2 e=none:=by
   cases q:H2 e with
   | none=>rfl
   | some ob=>exact absurd (.inr (.inl (by rw [q]; intro z; cases z))) nk
  have I6a:=xP (C:=C) I6 hx hn he6 hc6 (by
    cases q:X.s₀.heap.get? e with
    | none=>rfl
    | some o=>exact absurd (.inl ⟨⟨o,q⟩,by rw [show (uk X _ (X.pn++pins)).ex=X.ex from rfl,hx]; simp⟩) nk) (fun z=>by
    apply nfr; rw [hst,z]; show X.env.locals∈List.filterMap _ (_::_); rw [Jm,hf]; exact Jn)
   (fun y q=>nk (.inr (.inr (.inr ⟨y,q⟩)))) (fun p hp q=>by
    rw [JA] at hp
    exact nk (.inr (.inr (.inl ⟨p.2,by rw [<- q]; exact hp⟩))))
  have I6h:=uz (A:=X.A.mark (some (.ref e))) I6a rfl
  have same26:bC H2 (upd H2 e (.ext (wM C e oe6.dict))):=fun b o q=>by rw [aW fun z=>by rw [z,hn] at q; cases q]; exact q
  have eO:e∉O1:=(S1.env.all.same sm).not hn
  refine pO (X:=pU X (X.A.mark (some (.ref e))) (X.pn++pins)) I6h hN hi (.inl hl) (show RelV (.ref e) (.ref e) from rfl) (fun s7 I7=>?_) (.inl (hfn n))
  have S7:=(S1.same (sm.trans same26)).setV (i:=i) (d:=.exc x.c [] []) (v:=.ref e) (by rw [I1.len]; exact(List.getElem?_eq_some_iff.mp hi).1)
   (Ge.mpr ⟨e,[],rfl,bZ.mpr rfl,rfl,C,oe6.dict,hd.1,by rw [fY eO]; exact bF,.inl rfl⟩)
  refine MR (hs (X.A.mark (some (.ref e))) (X.pn++pins) rfl rfl Hb Ob [] s7 _ _ { nx:=fun σ' H'=>E.nx (σ'.set i none) H',rt:=E.rt,bk:=fun σ' H'=>E.bk (σ'.set i none) H',ct:=fun σ' H'=>E.ct (σ'.set i none) H' } I7
   ⟨O1,_,Ei i k,r,S7,ex,hk.ne,fun O' ρ' σ' H' S' q=>hk.nx O' _ _ H' (S'.unset i) q,fun O' ρ' σ' H' S' q=>hk.bk O' _ _ H' (S'.unset i) q,fun O' ρ' σ' H' S' q=>hk.ct O' _ _ H' (S'.unset i) q,hk.rt,fun O' ρ' σ' H' y S' q=>absurd q.symm hk.ne⟩) (fun f s8 h8=>?_) fun _ _ z=>z.elim
  have fin:∀ σ' H',L2.Inv (pU X (X.A.mark (some (.ref e))) (X.pn++pins)) [] σ' H' s8->∀ Q:ML->Prop,(∀ s9,L2.Inv X pins (σ'.set i none) H' s9->Q s9) ->
    MN (model X.prog X.w) X.A (do bindName X.env n .none; unbindBehindTheSuite X.env n hpos) (fun _ s₃=>Q s₃) X.xe s8:=fun σ' H' I8 Q q=>by
   obtain⟨m,hm,hlk⟩:=I8.loc
   exact wpAny_nameGoes_keeps hl hm (by rw [I8.ok.kind]; rfl) fun h9 v ns9 sb9=>q _ (jB I.ok (yR I8 hN hi hm hlk ns9 sb9))
  cases f with
  | next=>obtain⟨σ',H',I8,q⟩:=h8; exact fin σ' H' I8 _ fun s9 I9=>⟨_,H',I9,q⟩
  | brk=>obtain⟨σ',H',I8,q⟩:=h8; exact fin σ' H' I8 _ fun s9 I9=>⟨_,H',I9,q⟩
  | cont=>obtain⟨σ',H',I8,q⟩:=h8; exact fin σ' H' I8 _ fun s9 I9=>⟨_,H',I9,q⟩
  | ret u=>obtain⟨v,σ',H',I8,rv,q⟩:=h8; exact fin σ' H' I8 _ fun s9 I9=>⟨v,_,H',I9,rv,q⟩
 refine MR (hb _ (X.pn++pins) PassesOwn.looking Hb Ob [] s σ H E (Bx I _) ⟨O,ρ,_,r,S,hF,hk.ne,hk.nx,hk.bk,hk.ct,hk.rt,land⟩) (fun f s1 h1=>?_) fun _ _ z=>z
 cases f with
 | next=>obtain⟨σ',H',I1,q⟩:=h1; exact wH pins s1 σ' H' E (jB I.ok I1) q
 | brk=>obtain⟨σ',H',I1,q⟩:=h1; exact⟨σ',H',jB I.ok I1,q⟩
 | cont=>obtain⟨σ',H',I1,q⟩:=h1; exact⟨σ',H',jB I.ok I1,q⟩
 | ret u=>obtain⟨v,σ',H',I1,rv,q⟩:=h1; exact⟨v,σ',H',jB I.ok I1,rv,q⟩
end
end TG
namespace TG
open PySem PySem.Spec L2
variable [aT]
def p5 (K:Lj) (T:MC) (tbl:List (Str×Bool)):Prop:=∀ c b,tbl.lookup c=some b->∀ D,clsAt K c D->sE K D/\LX K (.ref D) T=some b
def dX (tbl:List (Str×Bool)) (d:D):Option D:=match d with
 | .exc c [] []=>(tbl.lookup c).map .bl
 | _=>none
def bR (K:Lj) (mg:Str->Option MC) (x:Str) (tbl:List (Str×Bool)):Prop:=∃ C,mg x=some (.ref C)/\p5 K (.ref C) tbl
theorem cI {K:Lj} {T:MC}:p5 K T []:=fun _ _ h=>by cases h
theorem az {K:Lj} {T:MC} {c:Str} {D:MF} {b:Bool} {tbl:List (Str×Bool)} (ac:clsAt K c D) (F:sE K D) (k:LX K (.ref D) T=some b) (r:p5 K T tbl):p5 K T ((c,b)::tbl):=fun c' b' h D' hD=>by
 rw [JW] at h
 split at h
 ·rename_i e
  have e:=beq_iff_eq.mp e
  subst e
  cases h
  cases mz hD ac
  exact⟨F,k⟩
 ·exact r c' b' h D' hD
theorem uD {K:Lj} {C:MF} {v:MC} (h:LY K C v=some true):(PySem.W.clsIn K C).isSome=true:=by
 unfold LY at h
 cases e:PySem.W.clsIn K C with
 | none=>rw [e] at h; cases h
 | some c=>rfl
theorem aK {K:Lj} {C D:MF} {b:Bool} (hs:LZ K (.ref D) (.ref C)=some b) (ho:LY K C (.type "object")=some true) (ht:L6 K (.ref C)=some (.type "type")) (hn:b=true\/D≠C):LX K (.ref D) (.ref C)=some b:=by
 unfold LX
 by_cases e:D=C
 ·rcases hn with hn | hn
  ·rw [if_pos (by rw [e]; simp),hn]
  ·exact absurd e hn
 ·rw [if_neg (by simpa using e)]
  unfold L7
  dsimp only
  rw [if_pos (by rw [uD ho,ht]; rfl)]
  exact hs
theorem tj {K:Lj} {D:MF} {b:Bool} (hs:LZ K (.ref D) (.type "ValueError")=some b):LX K (.ref D) (.type "ValueError")=some b:=by
 unfold LX
 rw [if_neg (by simp)]
 unfold L7
 dsimp only
 rw [if_pos (by decide +kernel)]
 exact hs
theorem oG {K:Lj} {C G:MF} (hb:LZ K (.ref G) (.type "BaseException")=some true) (hs:LZ K (.ref C) (.ref G)=some true) (ho:LY K G (.type "object")=some true) (ht:L6 K (.ref G)=some (.type "type")):LW K (.ref C) (.ref G)=some true:=by
 unfold LW
 rw [if_pos (by rw [hb]; rfl)]
 unfold L7
 dsimp only
 rw [if_pos (by rw [uD ho,ht]; rfl)]
 exact hs
theorem zm {K:Lj} {mg:Str->Option MC} {g:Str} {G:MF} {cs:List Str} (hm:mg g=some (.ref G)) (h:∀ c∈cs,∃ C,clsAt K c C/\LW K (.ref C) (.ref G)=some true):uc K mg g cs:=⟨G,hm,fun c hc C hC=>by
 obtain⟨C',h1,h2⟩:=h c hc
 cases mz hC h1
 exact h2⟩
section
variable {X:Cx} {p pos:Pos} {e:MO}
def BZ (K:Lj) (tv:V) (T:MC):List V->Hp->VK->Prop:=fun xs H Q=>∃ a D dx b,xs=[.ref a,tv]/\H a=some (.ext (wM D a dx))/\sE K D/\LX K (.ref D) T=some b/\Q (.bl b) H
theorem qR {tv:V} {T:MC} (hT:∀ u,RelV tv u->u=T):dA X (.builtin "isinstance") (BZ X.K tv T):=by
 intro pins s σ H xs us Q I r ⟨a,D,dx,b,ex,ha,F,hk,q⟩
 subst ex
 obtain⟨u,w',rfl,rx,rt⟩:=vals2 r
 cases rx
 cases hT _ rt
 obtain⟨⟨o,e1,e2,_⟩,_⟩:=(show cM X.prog X.w H s.heap a (.ext (wM D a dx)) from I.hok a _ ha)
 exact PySem.W.kia_one (zr F) I.kIn ⟨o,e1,e2⟩ hk (fun z=>nomatch z) fun tk=>⟨.bl _,H,I.tok _,rfl,q⟩
theorem vq {tbl:List (Str×Bool)} {a d:D} (h:dX tbl a=some d):∃ c b,a=.exc c [] []/\tbl.lookup c=some b/\d=.bl b:=by
 unfold dX at h
 split at h
 ·rename_i c
  cases e:tbl.lookup c with
  | none=>rw [e] at h; cases h
  | some b=>rw [e] at h; cases h; exact⟨c,b,rfl,e,rfl⟩
 ·cases h
theorem Cj {tbl:List (Str×Bool)} {tv:V} {T:MC} {f:FX} (h:p5 X.K T tbl):∀ σ H Q,tF X (f1 (dX tbl) f) σ H Q->Gd (BZ X.K tv T) (zD (tF X f) (zD (tC tv) Fm)) σ H Q:=fun σ H Q ⟨O,ρ,E,hF⟩=>⟨O,ρ,E,(gk.bind hF).imp fun a hF v H1 s1 d1=>by
  obtain⟨d,e,q⟩:=gk.rO hF
  obtain⟨c,b,rfl,e2,rfl⟩:=vq e
  obtain⟨a,ws,rfl,_,_,D,dx,hcl,ha,_⟩:=Ge.mp d1
  obtain⟨F,hk⟩:=h c b e2 D hcl
  exact⟨a,D,dx,b,rfl,aM _ _ _ _ ha,F,hk,q _ H1 s1 (jq.mpr rfl)⟩⟩
theorem FR {f:FX} {x:Str} {p2:Pos} {tbl:List (Str×Bool)} (h:bR X.K X.mg x tbl) (hg:Gl X "isinstance") (hm:X.mg "isinstance"=none) (hgx:Gl X x) (he:FE X e f)
  (hd2:(x==("__debug__":Str))=false:=by decide) (hns:noStar e=true:=by rfl) :
  FE X (.Call (.Name "isinstance" p) [e,.Name x p2] [] pos) (f1 (dX tbl) f):=by
 obtain⟨C,hC,h⟩:=h
 exact PE.weak (o7 (qR (tv:=.ref C) (T:=.ref C) fun u r=>r) hg hm uv (me he (me (vF (v:=.ref C) hgx hC rfl hd2) uJ (cW rfl)) (cW hns)) (by decide) (by decide) (cW hns) (dS rfl)) (Cj h)
theorem Ee {f:FX} {x:Str} {T:String} {p2:Pos} {tbl:List (Str×Bool)} (h:p5 X.K (.type T) tbl) (hg:Gl X "isinstance") (hm:X.mg "isinstance"=none) (hgx:Gl X x) (hmx:X.mg x=none) (hv:MJ x=some (.type T)) (he:FE X e f)
  (hn2:x ≠ "__name__":=by decide) (hd2:(x==("__debug__":Str))=false:=by decide) (hns:noStar e=true:=by rfl) :
  FE X (.Call (.Name "isinstance" p) [e,.Name x p2] [] pos) (f1 (dX tbl) f) :=
 PE.weak (o7 (qR (tv:=.ty T) (T:=.type T) fun u r=>r) hg hm uv (me he (me (BE (v:=.ty T) hgx hmx hv rfl hn2 hd2) uJ (cW rfl)) (cW hns)) (by decide) (by decide) (cW hns) (dS rfl)) (Cj h)
end
end TG
namespace TG
open PySem PySem.Spec L2
variable [aT]
end TG
namespace TG
open PySem PySem.Spec L2
end TG
namespace TG
open PySem PySem.Spec PyProof.Rows PySem.W L2
variable [aT]
end TG
namespace TG
open PySem PySem.Spec PyProof.Rows PySem.W L2
variable [aT]
end TG
namespace TG
open PySem PySem.Spec PyProof.Rows PySem.W L2
variable [aT]
theorem lT:MJ "sorted"=some (.builtin "sorted"):=by first | rfl | decide +kernel
end TG
namespace TG
open PySem PySem.Spec PyProof.Rows PySem.W L2
end TG
namespace TG
open PySem PySem.Spec PySem.Calls L2
open PySem.SeqAt (EqAt list_indexAt)
variable [aT]
def FD (c:Str):List (List (Str×Bool))->Option Bool
 | []=>some false
 | t::r=>match t.lookup c with
  | some true=>some true
  | some false=>FD c r
  | none=>none
def IU (tbls:List (List (Str×Bool))) (d:D):Option D:=match d with
 | .exc c [] []=>(FD c tbls).map .bl
 | _=>none
section
variable {X:Cx} {p pos:Pos} {e:MO}
theorem An {pins:List (MF×Obj)} {σ:L2.St} {H:Hp} {s:ML} (I:Inv X pins σ H s) {xd:D} {x:V} {u:MC} {A:MK} (px:pl xd=true) (hd:ck 8 xd=true) (hx:cm X.K H xd x) (ru:RelV x u) (hA:A.units+8 < Nc) {ys:List D} {vs:List V} {its:List MC} (py:fX ys=true) (hy:aZ X.K H ys vs) (rv:Vals vs its) :
  ∃ e:MC->Bool,(∀ y,y∈its.toArray->EqAt A s y u (e y))/\∀ (j:Nat) (d:D) (w:MC),ys[j]?=some d->its[j]?=some w->e w=pyEq d xd:=by
 classical
 let e:MC->Bool:=fun y=>decide (∃ d w,pl d=true/\cm X.K H d w/\RelV w y/\pyEq d xd=true)
 have he:∀ d w y,pl d=true->cm X.K H d w->RelV w y->e y=pyEq d xd:=fun d w y h0 h1 h2=>by
  cases hq:pyEq d xd with
  | true=>exact decide_eq_true ⟨d,w,h0,h1,h2,hq⟩
  | false =>
   refine decide_eq_false ?_
   rintro⟨d',w',g0,g1,g2,g3⟩
   have ew:=RelV.inj h2 g2
   subst ew
   rw [Inv.den_inj I h0 g0 h1 g1,g3] at hq
   cases hq
 refine⟨e,fun y hy'=>?_,fun j d w e1 e2=>?_⟩
 ·have hm:y∈its:=by simpa using hy'
  obtain⟨j,hj,rfl⟩:=Ke hm
  obtain⟨w,e1,r1⟩:=j7 rv (j:=j) (by simpa using hj)
  obtain⟨d,f1,g1⟩:=kh hy e1
  have r1':RelV w its[j]:=by simpa using r1
  have pd:=gW py _ (JG f1)
  rw [he d w _ pd g1 r1']
  exact vi I 8 d xd w x _ u A pd px (.inr hd) g1 hx r1' ru hA
 ·obtain⟨v,f1,f2⟩:=hy.get e1
  obtain⟨w',f3,f4⟩:=rv.get f1
  rw [e2] at f3; cases f3
  exact he d v w (gW py _ (JG e1)) f2 f4
def ur (x:D):List D->Option Nat
 | []=>none
 | y::ys=>if pyEq y x then some 0 else (ur x ys).map (·+1)
theorem qC {x:D}:∀ {ys:List D} {j:Nat},ur x ys=some j->∃ h:j < ys.length,pyEq ys[j] x=true/\∀ m (hm:m < ys.length),m < j->pyEq ys[m] x=false
 | [],_,h=>by cases h
 | y::ys,j,h=>by
  unfold ur at h
  split at h
  ·rename_i e
   cases h
   exact⟨by simp,e,fun m _ hm=>absurd hm (Nat.not_lt_zero _)⟩
  ·rename_i e
   cases q:ur x ys with
   | none=>rw [q] at h; cases h
   | some i =>
    rw [q] at h
    cases h
    obtain⟨h1,h2,h3⟩:=qC q
    refine⟨by simpa using h1,by simpa using h2,fun m hm hlt=>?_⟩
    cases m with
    | zero=>simpa using e
    | succ m =>
     have hlt:m+1 < i+1:=hlt
     simpa using h3 m (by simpa using hm) ‹0›
def zq (a b:D):Option D:=match a with
 | .lst ys=>if (pl b && fX ys) && ck 8 b then (ur b ys).map (fun (j:Nat)=>D.int (j:Int)) else none
 | _=>none
def uG (f:FX) (g:av->R (List D)):FX:=fun ρ=>(f ρ).bind fun a=>match a with
 | .lst ys=>(g ρ).bind fun ds=>match ds with
  | [b]=>rO (zq (.lst ys) b)
  | _=>un
 | _=>un
def C6 (K:Lj):V->List V->Hp->VK->Prop:=fun x xs H Q=>∃ Hd a ys vs b v d,bC Hd H/\x=.ref a/\xs=[v]/\la K Hd a vs/\aZ K H ys vs/\cm K H b v/\zq (.lst ys) b=some d/\∀ w,cm K H d w->Q w H
theorem yo (hu:X.A.units+64 < Nc):Gb X "list.index" (C6 X.K):=by
 intro pins s σ H x xs v us Q I rx rs ⟨Hd,a,ys,vs,b,y,d,sm,ex,exs,hl,dl,db,hg,q⟩
 subst ex exs
 cases rx
 obtain⟨u,rfl,ru⟩:=vals1 rs
 obtain⟨its,r,⟨o,n,ho,hc,hd',hdd⟩,hz⟩:=I.list (sm.seq hl)
 have hg':(if (pl b && fX ys) && ck 8 b then (ur b ys).map (fun (j:Nat)=>D.int (j:Int)) else none)=some d:=hg
 obtain⟨h1,h2⟩:((pl b && fX ys) && ck 8 b)=true/\(ur b ys).map (fun (j:Nat)=>D.int (j:Int))=some d:=by
  split at hg'
  ·rename_i z; exact⟨z,hg'⟩
  ·cases hg'
 rw [JZ,JZ] at h1
 obtain⟨j,ej,ed⟩:=Option.map_eq_some_iff.mp h2
 subst ed
 obtain⟨hj,hit,hno⟩:=qC ej
 obtain⟨e,he,hv⟩:=An (A:=X.A.in1) I h1.1.1 h1.2 db ru (by rw [in1_units]; omega) h1.1.2 dl r
 have l1:=dl.length
 have l2:=r.length
 have hj':j < its.length:=by omega
 obtain⟨oc,od,odt,osl⟩:=o
 cases hc
 cases hd'
 cases hdd
 refine Nr Mx ⟨_,ho,rfl⟩ PySem.F.entry_list_index (PySem.F.args_list_index_2 _ _)
  (list_indexAt a its.toArray n none osl u e j (by simpa using hj') (by rw [PySem.sizeLine_eq] at hz; omega) ?_ ?_) ⟨ho,he,?_⟩
 ·have:=hv j ys[j] its[j] (by simp [hj]) (by simp [hj'])
  rw [hit] at this
  simpa using this
 ·intro m hm hlt
  have hm':m < its.length:=by simpa using hm
  have:=hv m (ys[m]'‹0›) its[m] (by simp [show m < ys.length by omega]) (by simp [hm'])
  rw [hno m ‹0› hlt] at this
  simpa using this
 ·exact⟨.int j,H,I.tok _,⟨_,rfl⟩,q _ (eR.mpr rfl)⟩
theorem Ed {a e:MO} {fa:FX} {fs:av->R (List D)} {apos cpos:Pos} (hu:X.A.units+64 < Nc) (ha:FE X a fa) (hs:FA X [e] fs) (hbase:Np a "index" X.env (eval a X.env)=eval a X.env:=by rfl)
  (hfew:((backTo cpos (MP [e] X.env)).all (fun x=>!x.1) && (backToKw cpos (M9 [] X.env)).all (fun x=>x.1.isSome)
   && decide (([e]:List MO).length+([]:List Nq).length+(if ([]:List Nq).isEmpty then 0 else 1) < 30))=true:=by rfl)
  (hline:(apos.endLine==cpos.line)=true:=by rfl) (hst:MP [e] X.env=(false,eval e X.env)::MP [] X.env:=by rfl) (hplain:(backTo cpos (MP [] X.env)).any (·.1)=false:=by rfl) :
  FE X (.Call (.Attribute a "index" apos) [e] [] cpos) (uG fa fs) :=
 PE.weak (zR My Mx PySem.F.type_list_index (yo hu) ha hs hbase hfew hline hst hplain) fun σ H Q ⟨O,ρ,E,hF⟩=>⟨O,ρ,E,(gk.bind hF).imp fun x hF v H1 s1 d1=>by
  cases x with
  | lst ys =>
   obtain⟨p,vs,rfl,g1,g2⟩:=cg.mp d1
   have g1':=(aM H1 O).seq g1
   refine⟨.inl ⟨rfl,vs,g1'⟩,O,ρ,E.same s1,((gk.bind hF).mono s1).imp fun ds hF ws H2 s2 d2=>?_⟩
   match ds,hF,d2 with
   | [b],hF,d2 =>
    obtain⟨w,rfl,db⟩:=d2.one
    obtain⟨d,e,q⟩:=gk.rO hF
    refine⟨H1,p,ys,vs,b,w,d,s2,rfl,rfl,g1',(g2.mono (aM H1 O)).mono s2,db.mono (aM H2 O),e,fun w' dw=>q w' H2 (s1.trans s2) ?_⟩
    have hg':(if (pl b && fX ys) && ck 8 b then (ur b ys).map (fun (j:Nat)=>D.int (j:Int)) else none)=some d:=e
    split at hg'
    ·obtain⟨j,_,ed⟩:=Option.map_eq_some_iff.mp hg'
     subst ed
     exact eR.mpr (eR.mp dw)
    ·cases hg'
   | [],hF,_=>exact hF.elim
   | _::_::_,hF,_=>exact hF.elim
  | _=>exact hF.elim⟩
end
end TG
namespace TG
open PySem PySem.Spec L2
variable [aT]
def yD (a b:D):Option D:=match a,b with
 | .lst xs,.lst ys=>if small (xs.length+ys.length) then some (.lst (xs++ys)) else none
 | _,_=>none
section
variable {X:Cx}
theorem Hl {a b:MO} {fa fb:FX} {pos:Pos} (ha:FE X a fa) (hb:FE X b fb):FN X (.BinOp a .Add b pos) (f2 yD fa fb) :=
 PE.weak (B9 v2 ha hb) fun σ H Q ⟨O,ρ,E,hF⟩ =>
 ⟨O,ρ,E,(gk.bind hF).imp fun a hF x H1 s1 d1=>⟨O,ρ,E.same s1,((gk.bind hF).mono s1).imp fun b hF y H2 s2 d2=>by
  obtain⟨d,e,q⟩:=gk.rO hF
  cases a with
  | lst xs =>
   cases b with
   | lst ys =>
    obtain⟨h1,h2⟩:=bD e
    subst h2
    have d3:=d1.mono (cq s2)
    rw [cg] at d3 d2
    obtain⟨p,vs,ex,g1,g2⟩:=d3
    obtain⟨p',vs',ey,g1',g2'⟩:=d2
    refine⟨p,p',vs,vs',ex,ey,(aM H2 O).seq g1,(aM H2 O).seq g1',?_,fun r hr=>?_⟩
    ·rw [<- g2.length,<- g2'.length]; exact de h1
    ·exact q r _ ((s1.trans s2).trans (cn hr _)) ((s1.trans s2).free hr) ⟨_,bF,trivial⟩ (gZ hr (g2.append g2'))
   | _=>cases e
  | _=>cases e⟩⟩
end
end TG
namespace TG
open PySem PySem.Spec PySem.Calls L2
open PySem.SeqAt (EqAt list_countAt)
variable [aT]
def vo:=DX (fun _ j=>decide (0<=j)) fun i j=>i / 2 ^ j.toNat
theorem vg {K:Lj}:df K (rI (fun _ j=>0<=j) fun i j=>.int (i / 2 ^ j.toNat)) vo:=iy fun _ _ h=>of_decide_eq_true h
def oN:=Cd fun i j=>.int (Builtin.bitAnd i j)
theorem ve {K:Lj}:df K (yd fun i j=>.int (Builtin.bitAnd i j)) oN:=pD
def nX:List D->List D->Option (List (Key×D))
 | [],[]=>some []
 | k::ks,d::ds=>(keyOf k).bind fun k=>(nX ks ds).map ((k,d)::·)
 | _,_=>none
abbrev fN (al:List (Key×D)):List D:=al.map fun p=>dE p.1
abbrev tK (al:List (Key×D)):D:=.dct (fN al) (al.map (·.2))
theorem jp (k:Key):keyOf (dE k)=some k:=by cases k <;> rfl
theorem yK {a b:Key} (h:dE a=dE b):a=b:=by
 have e:=congrArg keyOf h
 rw [jp,jp] at e
 exact Option.some.inj e
theorem tE:∀ {ks ds:List D} {al:List (Key×D)},nX ks ds=some al->ks=fN al/\ds=al.map (·.2)
 | [],[],_,h=>by cases h; exact⟨rfl,rfl⟩
 | k::ks,d::ds,al,h=>by
  unfold nX at h
  cases e1:keyOf k with
  | none=>rw [e1] at h; cases h
  | some k' =>
   rw [e1] at h
   cases e2:nX ks ds with
   | none=>rw [e2] at h; cases h
   | some al' =>
    rw [e2] at h; cases h
    obtain⟨h1,h2⟩:=tE e2
    rw [o3 e1,h1,h2]; exact⟨rfl,rfl⟩
 | [],_::_,_,h=>by cases h
 | _::_,[],_,h=>by cases h
theorem rm:∀ al:List (Key×D),nX (fN al) (al.map (·.2))=some al
 | []=>rfl
 | p::r=>by
  show (keyOf (dE p.1)).bind _=_
  rw [jp]
  show (nX (fN r) (r.map (·.2))).map ((p.1,p.2)::·)=_
  rw [rm r]; rfl
theorem rH:∀ {al:List (Key×D)} {ks:List Key},fN al=ks.map dE->al.map (·.1)=ks
 | [],[],_=>rfl
 | p::r,k::ks,h=>by
  have h:dE p.1::fN r=dE k::ks.map dE:=h
  injection h with h1 h2
  rw [JO,yK h1,rH h2]
 | [],_::_,h=>by cases h
 | _::_,[],h=>by cases h
theorem GR {K:Lj} {H:Hp} {O:List MF} {a:MF} {al:List (Key×D)} (h:iA K H O a (tK al)) :
  (∃ kvs:List (Key×V),H a=some (.dK kvs)/\kvs.map (·.1)=al.map (·.1)/\aZ K (hid H O) (al.map (·.2)) (kvs.map (·.2)))\/(H a=some (.dT [])/\al=[]):=by
 obtain⟨o,vs,h1,h2,h3⟩:=h
 rcases h3 with ⟨kvs,e,e1,e2⟩ | ⟨kvs,e,e1,e2⟩
 ·subst e
  refine .inl ⟨kvs,h1,?_,by rw [<- e2]; exact h2⟩
  exact(rH (ks:=kvs.map (·.1)) (by rw [KR]; exact e1)).symm
 ·subst e
  cases kvs with
  | nil =>
   refine .inr ⟨h1,?_⟩
   simpa using e1
  | cons p r =>
   cases al with
   | nil=>cases e1
   | cons q r' =>
    have e1:dE q.1::fN r'=D.tup (p.1.map dE)::r.map (fun p=>D.tup (p.1.map dE)):=e1
    injection e1 with e1 _
    rcases q with ⟨k,v⟩
    cases k <;> cases e1
section
variable {κ:Type} [DecidableEq κ]
def oj (al:List (κ×D)) (k:κ) (v:D):List (κ×D):=if (al.any fun p=>decide (p.1=k))=true then al.map (fun p=>if p.1=k then (p.1,v) else p) else al++[(k,v)]
theorem wL {kvs:List (κ×V)} {al:List (κ×D)} (e:kvs.map (·.1)=al.map (·.1)) (k:κ) (w:V) (d:D):(putK kvs k w).map (·.1)=(oj al k d).map (·.1):=by
 have e2:(kvs.any fun p=>decide (p.1=k))=(al.any fun p=>decide (p.1=k)):=by
  have:=congrArg (fun l=>l.any fun q=>decide (q=k)) e
  simpa [Ky,Function.comp_def] using this
 unfold putK oj
 rw [e2]
 split
 ·have e3:∀ (l:List (κ×V)),(l.map fun kv=>if kv.1=k then (kv.1,w) else kv).map (·.1)=l.map (·.1):=fun l=>by
   rw [KR]; refine KS fun p _=>?_
   show (if p.1=k then (p.1,w) else p).1=p.1
   split <;> rfl
  have e4:∀ (l:List (κ×D)),(l.map fun kv=>if kv.1=k then (kv.1,d) else kv).map (·.1)=l.map (·.1):=fun l=>by
   rw [KR]; refine KS fun p _=>?_
   show (if p.1=k then (p.1,d) else p).1=p.1
   split <;> rfl
  rw [e3,e4,e]
 ·rw [KU,KU,e]; rfl
theorem qO {K:Lj} {H:Hp} {k:κ} {w:V} {d:D} (hw:cm K H d w):∀ {kvs:List (κ×V)} {al:List (κ×D)},kvs.map (·.1)=al.map (·.1)->aZ K H (al.map (·.2)) (kvs.map (·.2)) ->
  aZ K H ((al.map fun p=>if p.1=k then (p.1,d) else p).map (·.2)) ((kvs.map fun p=>if p.1=k then (p.1,w) else p).map (·.2))
 | [],[],_,h=>h
 | p::r,q::r',e,h=>by
  rw [JO,JO] at e
  injection e with e1 e2
  rw [JO,JO,bx] at h
  obtain⟨v,ws,h0,h1,h2⟩:=h
  injection h0 with h0 h0'
  subst h0 h0'
  have ih:=qO (k:=k) hw e2 h2
  rw [JO,JO,JO,JO,bx]
  refine⟨_,_,rfl,?_,ih⟩
  rw [e1]
  split
  ·exact hw
  ·exact h1
 | [],_::_,e,_=>by cases e
 | _::_,[],e,_=>by cases e
theorem yE {K:Lj} {H:Hp} {k:κ} {w:V} {d:D} (hw:cm K H d w) {kvs:List (κ×V)} {al:List (κ×D)} (e:kvs.map (·.1)=al.map (·.1)) (h:aZ K H (al.map (·.2)) (kvs.map (·.2))) :
  aZ K H ((oj al k d).map (·.2)) ((putK kvs k w).map (·.2)):=by
 have e2:(kvs.any fun p=>decide (p.1=k))=(al.any fun p=>decide (p.1=k)):=by
  have:=congrArg (fun l=>l.any fun q=>decide (q=k)) e
  simpa [Ky,Function.comp_def] using this
 unfold putK oj
 rw [e2]
 split
 ·exact qO hw e h
 ·rw [KU,KU]
  exact h.append (bx.mpr ⟨w,[],rfl,hw,bZ.mpr rfl⟩)
end
def rg (ks ds:List D) (k v:D):Option (List (Key×D)):=(nX ks ds).bind fun al=>(keyOf k).bind fun k=>if small al.length then some (oj al k v) else none
def kQ (i:Nat) (fk fv:FX):cc:=fun k ρ=>match ρ[i]? with
 | some (some (.own (.dct ks ds)))=>og ((fv ρ).bind fun v=>(fk ρ).bind fun q=>rO (rg ks ds q v)) k ρ fun al=>k.nx (ρ.set i (some (.own (tK al))))
 | _=>un
theorem u9 {ks ds:List D} {k v:D} {al':List (Key×D)} (h:rg ks ds k v=some al'):∃ al q,ks=fN al/\ds=al.map (·.2)/\k=dE q/\small al.length=true/\al'=oj al q v:=by
 unfold rg at h
 cases e1:nX ks ds with
 | none=>rw [e1] at h; cases h
 | some al =>
  rw [e1] at h
  cases e2:keyOf k with
  | none=>rw [e2] at h; cases h
  | some q =>
   rw [e2] at h
   obtain⟨h3,h4⟩:=bD (show (if small al.length then some (oj al q v) else none)=some al' from h)
   obtain⟨h1,h2⟩:=tE e1
   exact⟨al,q,h1,h2,o3 e2,h3,h4.symm⟩
theorem Bm {kvs:List (Key×V)} {al:List (Key×D)} (e:kvs.map (·.1)=al.map (·.1)):fN al=kvs.map fun p=>dE p.1:=by
 have:=congrArg (List.map dE) e
 rw [KR,KR] at this
 exact this.symm
def CP (td ty tv:TE):TS:=fun D σ H=>tv σ H fun v H1=>td σ H1 fun x H2=>ty σ H2 fun y H3=>∃ a k kvs,x=.ref a/\y=kV k/\(H3 a=some (.dK kvs)\/(H3 a=some (.dT [])/\kvs=[]))/\kvs.length < MH/\D.nx σ (upd H3 a (.dK (putK kvs k v)))
section
variable {X:Cx} {o idx value:MO} {pos pos':Pos} {td ty tv:TE}
theorem zT (hu:X.A.units+1 < Nc) (ho:PE X o td) (hi:PE X idx ty) (hv:PE X value tv) (hs:swapsWith value (some (.Subscript o idx pos')) pos.line X.env=pure false):PS X (.Assign [.Subscript o idx pos'] value pos) (CP td ty tv):=by
 intro pins s σ H D I h
 refine wpAny_Assign_Subscript (dR (hv pins s σ H _ I h) fun r s1 ⟨v,H1,I1,rv,q1⟩=>dR (ho pins s1 σ H1 _ I1 q1) fun u s2 ⟨x,H2,I2,rx,q2⟩=>dR (hi pins s2 σ H2 _ I2 q2) fun iv s3 ⟨y,H3,I3,ry,a,k,kvs,ex,ey,ha,hl,q3⟩=>?_) hs
 subst ex ey
 obtain rfl:u=Value.ref a:=rx
 rcases ha with ha | ⟨ha,rfl⟩
 ·exact qU hu I3 (Fa.k ha hl) ry rv fun s4 I4=>⟨σ,_,I4,q3⟩
 ·refine qU hu (HF I3 ha) (Fa.k bF hl) ry rv fun s4 I4=>⟨σ,_,I4,?_⟩
  rw [za]; exact q3
end
theorem Gk {X:Cx} {i:Nat} {x:Str} {idx value:MO} {fk fv:FX} {npos tpos pos:Pos} (hu:X.A.units+64 < Nc) (hx:PE X (.Name x npos) (qg i)) (hi:FE X idx fk) (hv:FE X value fv)
  (hs:swapsWith value (some (.Subscript (.Name x npos) idx tpos)) pos.line X.env=pure false:=by rfl) :
  FS X (.Assign [.Subscript (.Name x npos) idx tpos] value pos) (kQ i fk fv):=fun Hb Ob pins s σ H E I ⟨O,ρ,k,rr,S,hF,hk⟩=>by
 unfold kQ at hF
 split at hF
 ·rename_i ks ds hxs
  obtain⟨a,ha,haO,hat⟩:=S.env.own i _ hxs
  have hP:=gk.on hF hk S (Q:=fun al=>k.nx (ρ.set i (some (.own (tK al))))=rr) fun p e=>e
  refine zT ‹0› hx hi hv hs pins s σ H E I ⟨O,ρ,S.env,(gk.bind hP).imp fun y hP v H1 s1 d1=>?_⟩
  have S1:=S.same s1
  refine⟨.ref a,ha,O,ρ,S1.env,((gk.bind hP).mono s1).imp fun j hP w H2 s2 d2=>?_⟩
  have S2:=S1.same s2
  obtain⟨al',hg,e⟩:=gk.rO hP
  obtain⟨al,q,f1,f2,f3,f4,f5⟩:=u9 hg
  subst f1 f2 f3 f5
  have s12:=s1.trans s2
  have hat2:iA X.K H2 O a (tK al):=hat.mono (let ⟨_,z⟩:=hat.some; oH s12 z) (cq s12)
  have dv:cm X.K (hid H2 O) y v:=d1.mono (cq s2)
  have fin:∀ kvs:List (Key×V),kvs.map (·.1)=al.map (·.1)->aZ X.K (hid H2 O) (al.map (·.2)) (kvs.map (·.2))->iA X.K (upd H2 a (.dK (putK kvs q v))) O a (tK (oj al q y)):=fun kvs k2 k3 =>
   ⟨_,_,bF,(yE dv k2 k3).mono (lO haO),.inl ⟨putK kvs q v,rfl,Bm (wL k2 q v y),rfl⟩⟩
  rcases GR hat2 with ⟨kvs,k1,k2,k3⟩ | ⟨k1,rfl⟩
  ·have hl:kvs.length=al.length:=by have:=congrArg List.length k2; simpa using this
   exact⟨a,q,kvs,rfl,tZ d2,.inl k1,by rw [hl]; exact Kj (of_decide_eq_true f4) (by decide),hk.nx O _ σ _ (S2.setO hxs ha trivial (fin kvs k2 k3)) e⟩
  ·exact⟨a,q,[],rfl,tZ d2,.inr ⟨k1,rfl⟩,by decide,hk.nx O _ σ _ (S2.setO hxs ha trivial (fin [] rfl (bZ.mpr rfl))) e⟩
 ·exact absurd hF.symm hk.ne
section
variable {X:Cx}
theorem E9 {pins:List (MF×Obj)} {σ:St} {H:Hp} {s:ML} {O:List MF} {ks ds:List D} {v:V} {qs:List Key} (I:Inv X pins σ H s) (h:cm X.K (hid H O) (.dct ks ds) v) (hk:keysOf ks=some qs) :
  ∃ a vs,v=.ref a/\qs.length<=MH/\(a==sysModules)=false/\s.heap.DictOf (cJ X.prog X.w) a vs/\vs.map (·.1)=qs:=by
 obtain⟨a,vs,e,_,h2⟩:=Gs.mp h
 have ek:=mQ hk
 rcases h2 with ⟨kvs,h3,h4,_⟩ | ⟨kvs,h3,h4,_⟩
 ·obtain⟨z,hd,us,rel,dd⟩:=BW I.hok ((aM H O) _ _ h3)
  have e1:kvs.map (·.1)=qs:=by
   have:(kvs.map (·.1)).map dE=qs.map dE:=by rw [KR,<- ek,h4]; rfl
   have e2:=congrArg keysOf this
   rw [gX,gX] at e2
   exact Option.some.inj e2
  refine⟨a,us,e,?_,hd,dd,?_⟩
  ·have:=congrArg List.length e1
   rw [JI] at this
   omega
  ·rw [<- rel.keys,e1]
 ·cases kvs with
  | nil =>
   rw [h4] at hk
   cases hk
   obtain⟨z,hd,us,rel,dd⟩:=(show cM X.prog X.w H s.heap a (.dK []) from tH (I.hok a _ ((aM H O) _ _ h3)))
   refine⟨a,us,e,Jz _,hd,dd,?_⟩
   rw [<- rel.keys]; rfl
  | cons p r =>
   rw [h4] at hk
   cases hk
def rN:List D->Option D
 | [.dct ks _]=>(keysOf ks).bind fun qs=>some (.int qs.length)
 | _=>none
theorem wN:dA X (.builtin "len") (we X.K rN):=by
 intro pins s σ H xs us Q I r ⟨O,ds,d,hO,hd,hg,q⟩
 unfold rN at hg
 split at hg
 ·rename_i ks vs0
  cases hk:keysOf ks with
  | none=>rw [hk] at hg; cases hg
  | some qs =>
   rw [hk] at hg
   cases hg
   obtain⟨v,ev,h1⟩:=hd.one
   obtain⟨a,vs,e,z,hs,dd,e1⟩:=E9 I h1 hk
   subst ev e
   obtain⟨u,rfl,ru⟩:=vals1 r
   cases ru
   have hl:vs.length=qs.length:=by have:=congrArg List.length e1; simpa using this
   refine call_len_dict hs dd (by rw [M6] at z; omega) ?_
   rw [hl]
   exact⟨.int qs.length,H,I.tok _,⟨_,rfl⟩,q _ H (bC.refl H) (eR.mpr rfl)⟩
 ·cases hg
theorem wU {k:Key} {v:MC} (h:nZ k v=true):RelV (kV k) v:=by
 rcases cA h with ⟨i,t,rfl,rfl⟩ | ⟨x,t,rfl,rfl⟩
 ·exact⟨_,rfl⟩
 ·exact⟨_,rfl⟩
theorem qV {P:ME} {w:MD}:∀ {vs:List (Key×MC)} {its:List MC},its.length=vs.length->(∀ (j:Nat) (v:MC),its[j]?=some v->∃ (k:Key) (x:MC),vs[j]?=some (k,x)/\(cJ P w).is k v=true)->Vals (vs.map fun p=>kV p.1) its
 | [],[],_,_=>.nil
 | p::r,u::us,hl,h=>by
  obtain⟨k,x,e,hk⟩:=h 0 u rfl
  cases e
  exact .cons (wU (by rw [vc] at hk; exact hk)) (qV (by simpa using hl) fun j v e=>h (j+1) v (by simpa using e))
 | [],_::_,hl,_=>by cases hl
 | _::_,[],hl,_=>by cases hl
theorem qu {K:Lj} {H:Hp}:∀ qs:List Key,aZ K H (qs.map dE) (qs.map kV)
 | []=>bZ.mpr rfl
 | k::r=>bx.mpr ⟨kV k,_,rfl,by cases k with
  | inl i=>exact eR.mpr rfl
  | inr x=>exact eQ.mpr rfl,qu r⟩
def jD:List D->Option D
 | [.dct ks _]=>(keysOf ks).bind fun _=>some (.lst ks)
 | _=>none
theorem ph (hc:X.calm=true):dA X (.type "list") (we X.K jD):=by
 intro pins s σ H xs us Q I r ⟨O,ds,d,hO,hd,hg,q⟩
 unfold jD at hg
 split at hg
 ·rename_i ks vs0
  cases hk:keysOf ks with
  | none=>rw [hk] at hg; cases hg
  | some qs =>
   rw [hk] at hg
   cases hg
   obtain⟨v,ev,h1⟩:=hd.one
   obtain⟨a,vs,e,z,hs,dd,e1⟩:=E9 I h1 hk
   subst ev e
   obtain⟨u,rfl,ru⟩:=vals1 r
   cases ru
   have hl:vs.length=qs.length:=by have:=congrArg List.length e1; simpa using this
   obtain⟨ep,da⟩:=dd.dictAt
   refine PySem.W.kdl_call (PySem.W.kdl_dict hs) (I.ok.hd hc) da ‹0› fun h' tk acc' c' kp e2 it=>?_
   have rv:Vals (qs.map kV) acc'.toList:=by
    have:=qV (P:=X.prog) (w:=X.w) (vs:=vs) (its:=acc'.toList) (by rw [Array.length_toList]; exact it.1) fun j v e=>it.2 j v (by rw [<- Array.getElem?_toList]; exact e)
    rw [<- e1,KR]; exact this
   refine⟨.ref s.heap.objs.size,_,I.laid (t':=tk) kp (Jt _) (show cM X.prog X.w _ h' _ (.lst (qs.map kV)) from ⟨by rw [JI]; exact z,acc'.toList,c',rv,by simpa using e2⟩),rfl,?_⟩
   have hf:=I.hok.fresh (Jt s.heap.objs.size)
   refine q _ _ (cn hf _) ?_
   rw [mQ hk]
   exact ig hO hf (qu qs)
 ·cases hg
end
section
variable {X:Cx}
def zu (a b:D):Option D:=match a with
 | .lst ys=>if (pl b && fX ys) && ck 8 b then some (.int (ys.countP fun y=>pyEq y b:Nat)) else none
 | _=>none
def uY (f:FX) (g:av->R (List D)):FX:=fun ρ=>(f ρ).bind fun a=>match a with
 | .lst ys=>(g ρ).bind fun ds=>match ds with
  | [b]=>rO (zu (.lst ys) b)
  | _=>un
 | _=>un
def CU (K:Lj):V->List V->Hp->VK->Prop:=fun x xs H Q=>∃ Hd a ys vs b v d,bC Hd H/\x=.ref a/\xs=[v]/\la K Hd a vs/\aZ K H ys vs/\cm K H b v/\zu (.lst ys) b=some d/\∀ w,cm K H d w->Q w H
theorem pI {α β:Type} {p:α->Bool} {q:β->Bool}:∀ {xs:List α} {ys:List β},xs.length=ys.length->(∀ (j:Nat) (x:α) (y:β),xs[j]?=some x->ys[j]?=some y->p x=q y)->xs.countP p=ys.countP q
 | [],[],_,_=>rfl
 | x::xs,y::ys,hl,h=>by
  rw [List.countP_cons,List.countP_cons,pI (by simpa using hl) fun j a b e1 e2=>h (j+1) a b (by simpa using e1) (by simpa using e2),h 0 x y rfl rfl]
 | [],_::_,hl,_=>by cases hl
 | _::_,[],hl,_=>by cases hl
theorem zz (hu:X.A.units+64 < Nc):Gb X "list.count" (CU X.K):=by
 intro pins s σ H x xs v us Q I rx rs ⟨Hd,a,ys,vs,b,y,d,sm,ex,exs,hl,dl,db,hg,q⟩
 subst ex exs
 cases rx
 obtain⟨u,rfl,ru⟩:=vals1 rs
 obtain⟨its,r,⟨o,n,ho,hc,hd',hdd⟩,hz⟩:=I.list (sm.seq hl)
 obtain⟨h1,h2⟩:=bD (show (if (pl b && fX ys) && ck 8 b then some (D.int (ys.countP fun y=>pyEq y b:Nat)) else none)=some d from hg)
 rw [JZ,JZ] at h1
 subst h2
 obtain⟨e,he,hv⟩:=An (A:=X.A.in1) I h1.1.1 h1.2 db ru (by rw [in1_units]; omega) h1.1.2 dl r
 have l1:=dl.length
 have l2:=r.length
 obtain⟨oc,od,odt,osl⟩:=o
 cases hc
 cases hd'
 cases hdd
 refine Nr Mz ⟨_,ho,rfl⟩ PySem.F.entry_list_count (PySem.F.args_list_count_2 _ _) (list_countAt a its.toArray n none osl u e) ⟨ho,he,?_⟩
 have ec:its.toArray.toList.countP e=ys.countP fun y=>pyEq y b:=by
  rw [show its.toArray.toList=its from rfl]
  exact pI ‹0› fun j x d e1 e2=>hv j d x e2 e1
 rw [ec]
 exact⟨.int _,H,I.tok _,⟨_,rfl⟩,q _ (eR.mpr rfl)⟩
theorem E6 {a e:MO} {fa:FX} {fs:av->R (List D)} {apos cpos:Pos} (hu:X.A.units+64 < Nc) (ha:FE X a fa) (hs:FA X [e] fs) (hbase:Np a "count" X.env (eval a X.env)=eval a X.env:=by rfl)
  (hfew:((backTo cpos (MP [e] X.env)).all (fun x=>!x.1) && (backToKw cpos (M9 [] X.env)).all (fun x=>x.1.isSome)
   && decide (([e]:List MO).length+([]:List Nq).length+(if ([]:List Nq).isEmpty then 0 else 1) < 30))=true:=by rfl)
  (hline:(apos.endLine==cpos.line)=true:=by rfl) (hst:MP [e] X.env=(false,eval e X.env)::MP [] X.env:=by rfl) (hplain:(backTo cpos (MP [] X.env)).any (·.1)=false:=by rfl) :
  FE X (.Call (.Attribute a "count" apos) [e] [] cpos) (uY fa fs) :=
 PE.weak (zR My Mz PySem.F.type_list_count (zz hu) ha hs hbase hfew hline hst hplain) fun σ H Q ⟨O,ρ,E,hF⟩=>⟨O,ρ,E,(gk.bind hF).imp fun x hF v H1 s1 d1=>by
  cases x with
  | lst ys =>
   obtain⟨p,vs,rfl,g1,g2⟩:=cg.mp d1
   have g1':=(aM H1 O).seq g1
   refine⟨.inl ⟨rfl,vs,g1'⟩,O,ρ,E.same s1,((gk.bind hF).mono s1).imp fun ds hF ws H2 s2 d2=>?_⟩
   match ds,hF,d2 with
   | [b],hF,d2 =>
    obtain⟨w,rfl,db⟩:=d2.one
    obtain⟨d,e,q⟩:=gk.rO hF
    refine⟨H1,p,ys,vs,b,w,d,s2,rfl,rfl,g1',(g2.mono (aM H1 O)).mono s2,db.mono (aM H2 O),e,fun w' dw=>q w' H2 (s1.trans s2) ?_⟩
    obtain⟨_,ed⟩:=bD (show (if (pl b && fX ys) && ck 8 b then some (D.int (ys.countP fun y=>pyEq y b:Nat)) else none)=some d from e)
    subst ed
    exact eR.mpr (eR.mp dw)
   | [],hF,_=>exact hF.elim
   | _::_::_,hF,_=>exact hF.elim
  | _=>exact hF.elim⟩
end
end TG
namespace TG
open PySem PySem.Spec L2
variable [aT]
structure gL (k:Nat) (A:MK):Prop where
 dp:A.depth+3*k+5 < Nb
 un:A.units+16*k+200 < Nc
theorem gL.mono {j k:Nat} {A:MK} (r:gL k A) (h:j<=k):gL j A:=⟨by have:=r.dp; omega,by have:=r.un; omega⟩
theorem gL.deeper {k:Nat} {A:MK} (r:gL (k+1) A) (env:Env):gL k (A.deeper env) :=
 ⟨by have:=r.dp; show A.depth+1+3*k+5 < _; omega,by have:=r.un; show A.units+3+16*k+200 < _; omega⟩
theorem gL.depth {k:Nat} {A:MK} (r:gL k A):A.depth < Nb:=by have:=r.dp; omega
theorem gL.units {k:Nat} {A:MK} (r:gL k A):A.units+64 < Nc:=by have:=r.un; omega
theorem gL.at {k:Nat} {A A':MK} (r:ik k A) (h1:A'.depth=A.depth) (h2:A'.units=A.units):gL k A':=⟨by rw [h1]; exact r.dp,by rw [h2]; exact r.un⟩
abbrev BX (P:ME) (w:MD) (K:Lj) (mg:Str->Option MC) (base:MG) (N:List Str) (qual:Str) (scope:MM) (f:MF) (cd:MC) (A:MK) (outer:List Env) (s:ML) (H:Hp) (E:XK):Cx :=
 { kL (lS P w) P w K mg base N qual scope f cd A outer s H E with calm:=false }
structure tQ (P:ME) (w:MD) (K:Lj) (mg:Str->Option MC) (base:MG) (k:Nat) (f:MF) (fd:Nf) (ps:List Str) (sp:Sp):Prop where
 len:∀ vs H Q E,sp vs H Q E->vs.length=ps.length
 run:∀ (A:MK) (outer:List Env) (s:ML) (H:Hp) (args:Args) (us:List MC) (vs:List V) (Q:VK) (E:XK),gL k A->uU P w K mg base A outer s H->Ng s fd args (ps.zip us)->Vals vs us->sp vs H Q E ->
  M7 (model P w) A (.call (.ref f) args) (CR (lS P w) outer P w H s Q E) s
section
variable {P:ME} {w:MD} {K:Lj} {mg:Str->Option MC} {base:MG} {N ps:List Str} {qual:Str} {f:MF}
theorem vA {scope:MM} {cd:MC} {A:MK} {outer:List Env} {s s1:ML} {H:Hp} {E:XK} {us:List MC} {vs:List V}
  (S:bi N ps scope) (e0:uU P w K mg base A outer s H) (hl:vs.length=ps.length) (r:Vals vs us)
  (x:InCallC s s.heap.objs.size (bindL (Ml qual scope s.heap.objs.size f cd).kindOf (ps.zip us) fun _=>none) (cellsFrom (s.heap.objs.size+1) scope.names []) (bindC (Ml qual scope s.heap.objs.size f cd).kindOf (ps.zip us) fun _=>none) s1) :
  L2.Inv (BX P w K mg base N qual scope f cd A outer s H E) [] (L2.start N vs) H s1:=by
 have e0':uU P w K mg base { A with handled:=none } outer s H:=⟨e0.frames,e0.mod,e0.bs,e0.bsz,e0.funs,e0.frf,e0.hok,e0.bare⟩
 have I:=qG (CX:=lS P w) (A:={ A with handled:=none }) (E:=E) S rfl e0' hl r x
 exact⟨⟨I.ok.mod,I.ok.kind,I.ok.glob,I.ok.blt,I.ok.above,I.ok.inj,I.ok.has,I.ok.cab,(fun z=>nomatch z),I.ok.frames,I.ok.stk,I.ok.exf,I.ok.bs,I.ok.bsz,I.ok.noex,I.ok.exfs,I.ok.funs,I.ok.frf⟩,
  I.os,I.bare,I.base,I.loc,I.cell,I.free,I.freeC,I.pin,I.hok,I.len⟩
theorem CI {k:Nat} {name:Str} {params:Arguments} {body:List MQ} {scope:MM} {dV kV doc pm cdv ct oc:MC} {an od:Option MF}
  {osl:Array (Option MC)} {sp:Sp} (lk:K.lookup f=some ⟨oc,od,.func (LJ name qual params body scope dV kV doc pm an cdv ct),osl⟩) (hcd:LK K cdv qual=true) (S:bi N ps scope)
  (len:∀ vs H Q E,sp vs H Q E->vs.length=ps.length)
  (hbody:∀ (A:MK) (outer:List Env) (s:ML) (H:Hp) (vs:List V) (Q:VK) (E:XK),gL k (A.deeper (Ml qual scope s.heap.objs.size f cdv))->sp vs H Q E ->
   ∃ t,ww (BX P w K mg base N qual scope f cdv A outer s H E) body t/\t { nx:=fun _ H'=>Q .non H',rt:=Q } (L2.start N vs) H) :
  tQ P w K mg base (k+1) f (LJ name qual params body scope dV kV doc pm an cdv ct) ps sp:=by
 refine⟨len,fun A outer s H args us vs Q E hr e0 hb r hsp=>?_⟩
 have hl:=len _ _ _ _ hsp
 have KX:K.In s.heap:=e0.mod.kin.keeps fun b o e=>(e0.bs b o e).1
 have lim:s.heap.NoLimit:=e0.mod.nolimit.keeps fun b o e=>(e0.bs b o e).1
 have hkind:∀ y∈ps.zip us,scope.names.lookup y.1=some .local\/(scope.names.lookup y.1=some .cell/\((cellsFrom (s.heap.objs.size+1) scope.names []).lookup y.1).isSome=true):=fun ⟨n,v⟩ hy=>by
  rcases S.par n (JB hy).1 with q | q
  ·exact .inl q
  ·exact .inr ⟨q,LD _ _ _ (.inl q)⟩
 refine codeAny_call_function hr.depth (KX _ _ lk) rfl S.co S.gen rfl (LN KX hcd) (hb _ _ _ _ ?_)
 refine Ni S.kind hkind fun env he s1 x=>?_
 subst he
 refine⟨lim.keeps x.toInCall.keep,codeAny_func ?_⟩
 obtain⟨t,ht,hq⟩:=hbody A outer s H vs Q E (hr.deeper _) hsp
 have I:L2.Inv (BX P w K mg base N qual scope f cdv A outer s H E) [] (L2.start N vs) H s1:=vA S e0 hl r x
 refine MR (ht [] s1 (L2.start N vs) H _ I hq) (fun fl s' hs=>?_) fun e s' hs=>hs
 have fin:∀ {σ':St} {H':Hp} {v:V} {u:MC},L2.Inv (BX P w K mg base N qual scope f cdv A outer s H E) [] σ' H' s'->RelV v u->Q v H'->CE outer P w H s Q u s' :=
  fun {σ' H' v u} J rv q=>⟨v,H',J.os,J.bare,J.base,J.hok,rv,q⟩
 cases fl with
 | ret u =>
  obtain⟨v,σ',H',J,rv,q⟩:=hs
  exact fin J rv q
 | next =>
  obtain⟨σ',H',J,q⟩:=hs
  exact fin (v:=V.non) (u:=Value.none) J rfl q
 | brk =>
  obtain⟨_,_,_,q⟩:=hs
  exact False.elim q
 | cont =>
  obtain⟨_,_,_,q⟩:=hs
  exact False.elim q
structure sO (P:ME) (w:MD) (K:Lj) (mg:Str->Option MC) (base:MG) (k:Nat) (N:List Str) (qual:Str) (st:MQ) (f:MF) (B:cc):Prop where
 h:∀ (cdv:MC) (A:MK) (outer:List Env) (s:ML) (H:Hp) (E:XK),gL k (A.deeper (Ml qual (aC st) s.heap.objs.size f cdv))->M0 (model P w) (A.deeper (Ml qual (aC st) s.heap.objs.size f cdv)) (Ml qual (aC st) s.heap.objs.size f cdv) (BX P w K mg base N qual (aC st) f cdv A outer s H E).xe ->
  uF (BX P w K mg base N qual (aC st) f cdv A outer s H E) (eP st) B
def Aw (g:List D->R D):List D->R D:=fun ds=>uy (g ds)
theorem DH {n:Nat} {g:List D->R D} (h:Ar n g):Ar n (Aw g):=fun ds q=>h ds fun z=>q (by unfold Aw; rw [z]; rfl)
theorem yC {x:Str} {st:MQ} {fd:Nf} {k:Nat} {B:cc} (F:yh K x qual st f fd) (SC:bi N ps (aC st)) (hb:sO P w K mg base k N qual st f B) :
  tQ P w K mg base (k+1) f fd ps (w4 K ps.length (Aw (bp B ps.length N.length))):=by
 obtain⟨oc,od,kV,doc,pm,an,cdv,ct,osl,rfl,lk,hcd⟩:=F.ex
 refine CI lk hcd SC (fun vs H Q E h=>?_) fun A outer s H vs Q E hr h=>?_
 ·obtain⟨O,ds,h1,_⟩:=h
  exact h1
 ·obtain⟨O,ds,h1,h2,h3,h4⟩:=h
  have hl:ds.length=ps.length:=h3.length.trans h1
  have e4:Aw (bp B ps.length N.length) ds=uy (B K0 (env0 N.length ds)):=by unfold Aw bp; rw [if_pos hl]
  rw [e4] at h4
  refine⟨_,hb.h cdv A outer s H E hr PassesOwn.leaving H O,O,env0 N.length ds,K0,_,⟨oX h2 h3,⟨bC.refl H,fun _ z=>z,fun a z=>.inl z⟩,fun i xs a e=>?_⟩,rfl,?_⟩
  ·obtain⟨d',_,e2⟩:=jy i _ e
   cases e2
  ·generalize B K0 (env0 N.length ds)=r at h4
   refine⟨fun z=>by rw [z] at h4; exact h4,fun O' ρ' σ' H' S e=>?_,fun O' ρ' σ' H' S e=>?_,fun O' ρ' σ' H' S e=>?_,fun d O' v H' e b dv=>?_,fun O' ρ' σ' H' x S e=>?_⟩
   ·have e:(.ok .non:R D)=r:=e
    subst e
    exact h4 .non H' S.base.same (jr.mpr rfl)
   ·have e:(un:R D)=r:=e
    subst e
    exact h4.elim
   ·have e:(un:R D)=r:=e
    subst e
    exact h4.elim
   ·subst e
    exact h4 v H' b.same (dv.mono (jH b.sub))
   ·have e:(.error (some x):R D)=r:=e
    subst e
    exact h4.elim
def oB (P:ME) (w:MD) (K:Lj) (mg:Str->Option MC) (base:MG) (k:Nat) (x:Str) (ps:List Str) (g:List D->R D):Prop :=
 ∃ f fd,tQ P w K mg base k f fd ps (w4 K ps.length g)/\Binds K fd ps []/\LC K (.ref f)=true/\mg x=some (.ref f)
theorem uX {x:Str} {st:MQ} {fd:Nf} {k:Nat} {B:cc} (F:yh K x qual st f fd) (b:Binds K fd ps []) (m:mg x=some (.ref f)) (SC:bi N ps (aC st)) (hb:sO P w K mg base k N qual st f B) :
  oB P w K mg base (k+1) x ps (Aw (bp B ps.length N.length)):=⟨f,fd,yC F SC hb,b,F.kp,m⟩
end
section
variable {X:Cx} {k:Nat} {f:MF} {fd:Nf} {ps:List Str} {sp:Sp} {x:Str} {p pos:Pos} {e:MO} {es:List MO} {t:TA}
theorem Bi {pins:List (MF×Obj)} {σ:St} {H:Hp} {s:ML} {Q:VK} {E:XK} {us:List MC} {vs:List V} (F:tQ X.prog X.w X.K X.mg X.base k f fd ps sp) (hr:gL k X.A) (hb:Binds X.K fd ps []) (hx:iR (lS X.prog X.w) X σ E)
  (I:L2.Inv X pins σ H s) (r:Vals vs us) (h:sp vs H Q E):MN (model X.prog X.w) X.A (call (.ref f) us) (EP X pins σ Q) X.xe s:=by
 have hl:(us++[]).length=ps.length:=by rw [JA,<- r.length]; exact F.len _ _ _ _ h
 have hb':=hb s us I.kIn hl
 rw [JA] at hb'
 refine Nw (Nt (F.run X.A X.stack s H ⟨us,[]⟩ us vs Q E hr I.env0 hb' r h) fun r s' hq=>?_)
 cases r with
 | error e=>exact hx pins H s e s' I hq
 | ok fl =>
  cases fl with
  | ret u=>exact I.after hq
  | next=>exact False.elim hq
  | brk=>exact False.elim hq
  | cont=>exact False.elim hq
theorem yQ (F:tQ X.prog X.w X.K X.mg X.base k f fd ps sp) (hr:gL k X.A) (hg:Gl X x) (hm:X.mg x=some (.ref f)) (hk:LC X.K (.ref f)=true) (hb:Binds X.K fd ps [])
  (ha:PA X (e::es) t) (hdb:(x==("__debug__":Str))=false:=by decide) (he:MP (e::es) X.env=(false,eval e X.env)::MP es X.env:=by rfl) (hpl:(backTo pos (MP es X.env)).any (·.1)=false:=by rfl) :
  PE X (.Call (.Name x p) (e::es) [] pos) (vv X sp t):=by
 intro pins s σ H Q I h
 refine Nj (km I hg hm ?_ hdb)
 refine LR (h₀:=X.base) I.ok.mod.kin hk (dR (ha pos pins s σ H _ I h) fun us s1 ⟨vs,H1,I1,r,E,hx,q⟩=>⟨I1.kIn,?_⟩) he hpl
 exact Bi F hr hb hx I1 r q
end
theorem C3 {X:Cx} {k k':Nat} {ps:List Str} {g:List D->R D} {h:av->R (List D)} {x:Str} {p pos:Pos} {e:MO} {es:List MO}
  (C:oB X.prog X.w X.K X.mg X.base k x ps g) (hn:Ar ps.length g) (hr:gL k' X.A) (hk:k<=k') (ha:FA X (e::es) h) (hg:Gl X x:=by rfl)
  (hdb:(x==("__debug__":Str))=false:=by decide) (hns:(e::es).all noStar=true:=by rfl) :
  FE X (.Call (.Name x p) (e::es) [] pos) (fR g h):=by
 obtain⟨f,fd,F,b,kp,m⟩:=C
 exact PE.weak (yQ F (hr.mono hk) hg m kp b ha hdb (cW (JZ _ _ ▸ hns).1) (dS (JZ _ _ ▸ hns).2)) (rM hn)
end TG
namespace TG
open PySem PySem.Spec PySem.Calls L2
variable [aT]
end TG
namespace TG
open PySem PySem.Spec L2
variable [aT]
def jv (i:Nat) (fk:FX):FX:=fun ρ=>match ρ[i]? with
 | some (some (.own (.lst xs)))=>(fk ρ).bind fun k=>rO (aw (.lst xs) k)
 | _=>un
theorem Hx {X:Cx} {x:Str} {b:MO} {i:Nat} {fk:FX} {npos pos:Pos} (hx:PE X (.Name x npos) (qg i)) (hb:FE X b fk) (hs:lY b):FE X (.Subscript (.Name x npos) b pos) (jv i fk) :=
 PE.weak (BV wz hx hb hs) fun σ H Q ⟨O,ρ,E,hF⟩=>by
  unfold jv at hF
  split at hF
  ·rename_i xs hr
   obtain⟨a,ha,haO,hat⟩:=E.own i _ hr
   refine⟨.ref a,ha,O,ρ,E,(gk.bind hF).imp fun k hF y H1 s1 d1=>?_⟩
   obtain⟨d,hg,q⟩:=gk.rO hF
   obtain⟨o,vs,h1,h2,h3⟩:=hat
   subst h2
   cases k with
   | int j =>
    obtain⟨w,e1,e2⟩:=rZ h3 hg
    exact⟨a,vs,j,w,rfl,eR.mp d1,la.of (s1 _ _ h1),e1,q w H1 s1 (e2.mono (cq s1))⟩
   | _=>cases hg
  ·exact hF.elim
end TG
namespace TG
open PySem PySem.Spec L2
variable [aT]
def mG (xs:List D) (ds:List D):Option (List D):=match ds with
 | [.int i]=>if decide (0<=i/\i < xs.length) && small xs.length then some (xs.eraseIdx i.toNat) else none
 | _=>none
theorem tL {K:Lj}:nT K yj mG:=fun H O a xs ys as ws vs Q hO haO ha dx da hu q=>by
 unfold mG at hu
 split at hu
 ·rename_i i
  obtain⟨h1,h2⟩:=bD hu
  subst h2
  rw [JZ] at h1
  obtain⟨i0,i1⟩:=of_decide_eq_true h1.1
  have hz:xs.length<=100000:=of_decide_eq_true h1.2
  obtain⟨v,rfl,dv⟩:=da.one
  have hl:=dx.length
  have hk:i.toNat < ws.length:=by omega
  refine⟨a,ws,i,i.toNat,ws[i.toNat],rfl,by rw [eR.mp dv],ha,by omega,by omega,?_,J8 hk,q _ _ ?_⟩
  ·unfold seqIndex?
   have e:(if i < 0 then i+(ws.length:Int) else i)=i:=if_neg ‹0›
   simp only [e]
   rw [decide_eq_true i0,decide_eq_true (show i < (ws.length:Int) by omega)]; rfl
  ·rw [KW,KW]
   exact(dx.take _).append (dx.drop _)
 ·cases hu
def xU (xs:List D) (ds:List D):Option (List D):=match ds with
 | []=>if small xs.length then some xs.reverse else none
 | _=>none
def B7:V->List V->Hp->VK->Prop:=fun x vs H Q=>∃ l xs,x=.ref l/\vs=[]/\H l=some (.lst xs)/\xs.length<=100000/\Q .non (upd H l (.lst xs.reverse))
theorem Vals.rev:∀ {vs:List V} {us:List MC},Vals vs us->Vals vs.reverse us.reverse
 | _,_,.nil=>.nil
 | _,_,.cons h t=>by
  rw [J5,J5]
  exact(Vals.rev t).append (.cons h .nil)
theorem AH {X:Cx}:Ci X "list.reverse" B7:=by
 intro pins s σ H x vs v us Q I rx rv h
 obtain⟨l,xs,rfl,rfl,hH,hz,q⟩:=h
 cases rx
 have hus:=rv.zero
 subst hus
 obtain⟨z,its,n,r,hl,e⟩:=I.lstM hH
 refine Nr F.slot_list_reverse ⟨_,e,rfl⟩ F.entry_list_reverse (F.args_list_reverse_1 _) (AutoSeq1.list_reverse_list_0 l its.toArray n (by rw [Jw,M6]; omega)) ⟨e,?_⟩
 refine⟨.non,_,I.lset (its':=its.reverse) hH e ?_ (Vals.rev r) ?_,rfl,q⟩
 ·show its.toArray.reverse=_
  rw [List.reverse_toArray]
 ·rw [KY,M6]
  omega
theorem wW {K:Lj}:nT K B7 xU:=fun H O a xs ys as ws vs Q hO haO ha dx da hu q=>by
 unfold xU at hu
 split at hu
 ·obtain⟨h1,h2⟩:=bD hu
  subst h2
  have hz:xs.length<=100000:=of_decide_eq_true h1
  rw [bZ] at da
  subst da
  have hl:=dx.length
  exact⟨a,ws,rfl,rfl,ha,by omega,q _ _ dx.reverse⟩
 ·cases hu
def hdS:List D->Bool
 | .str _::_=>true
 | _=>false
def xI:D->Bool
 | .lst []=>true
 | .lst (.tup _::_)=>true
 | _=>false
def offA (ρ:av) (i:Nat):Bool:=match ρ[i]? with
 | some (some (.own d))=>xI d
 | _=>true
def vT (is:List Nat) (ρ:av):D->R D
 | .lst ds=>if Ae ds && hdS ds && is.all (offA ρ) then .ok (.lst ds) else un
 | _=>un
def kZ (is:List Nat) (f:FX):FX:=fun ρ=>(uy (f (frzs is ρ))).bind (vT is ρ)
theorem dg.frzs2 {K:Lj} {H:Hp} {σ:St}:∀ (is:List Nat) {O:List MF} {ρ:av},dg K O H ρ σ->∃ O',dg K O' H (TG.frzs is ρ) σ/\∀ b∈O,b∉O'->∃ i∈is,∃ d,ρ[i]?=some (some (.own d))/\σ[i]?=some (some (.ref b))
 | [],O,_,E=>⟨O,E,fun b hb nb=>absurd hb nb⟩
 | i::is,O,ρ,E=>by
  obtain⟨O',E',_,g⟩:=E.frz i
  obtain⟨O2,E2,g2⟩:=dg.frzs2 is E'
  refine⟨O2,E2,fun b hb nb=>?_⟩
  by_cases hb':b∈O'
  ·obtain⟨j,hj,d,e1,e2⟩:=g2 b hb' nb
   refine⟨j,Jo _ hj,d,?_,e2⟩
   unfold TG.frz at e1
   split at e1
   ·rcases bO e1 with ⟨_,q⟩ | ⟨_,q⟩
    ·cases q
    ·exact q
   ·exact e1
  ·obtain⟨d,e1,e2⟩:=g b hb hb'
   exact⟨i,Jn,d,e1,e2⟩
theorem Ec {X:Cx} {e:MO} {f:FX} (is:List Nat) (h:FE X e f):FE X e (kZ is f):=PE.weak h fun σ H Q ⟨O,ρ,E,hF⟩=>by
 obtain⟨O',E',gone⟩:=dg.frzs2 is E
 refine⟨O',TG.frzs is ρ,E',?_⟩
 unfold kZ at hF
 cases hf:f (TG.frzs is ρ) with
 | error z=>rw [hf] at hF; exact hF.elim
 | ok d =>
  rw [hf] at hF
  have hF':gk X σ O H (vT is ρ d) _:=hF
  cases d with
  | lst ds =>
   have hF':gk X σ O H (if Ae ds && hdS ds && is.all (offA ρ) then (.ok (D.lst ds):R D) else un) _:=hF'
   cases hl:(Ae ds && hdS ds && is.all (offA ρ)) with
   | false=>rw [hl] at hF'; exact hF'.elim
   | true =>
    rw [hl] at hF'
    rw [JZ,JZ] at hl
    obtain⟨⟨l1,l2⟩,l3⟩:=hl
    refine fun v H' s' dv=>hF' v H' s' ?_
    obtain⟨a,vs,ev,sq,dn⟩:=cg.mp dv
    have dn':=oz (E.all.same s') l1 dn
    refine cg.mpr ⟨a,vs,ev,?_,dn'⟩
    rcases sq with (sq | ⟨o,sq⟩) | sq
    ·have na:a∉O':=fun z=>by
      unfold hid at sq
      rw [if_pos z] at sq; cases sq
     have no:a∉O:=fun ha=>by
      obtain⟨i,hi,d',q1,q2⟩:=gone a ha na
      obtain⟨b,q3,q4,q5⟩:=E.own i d' q1
      rw [q2] at q3
      cases q3
      have of:xI d'=true:=by
       have:=List.all_eq_true.mp l3 i hi
       unfold offA at this
       rw [q1] at this
       exact this
      have hb:H a=H' a:=by obtain⟨_,z⟩:=q5.some; exact oH s' z
      rw [fY na,<- hb] at sq
      cases d' with
      | lst xs =>
       obtain⟨o,ws,e1,e2,e3⟩:=q5
       subst e2
       rw [e1] at sq
       cases sq
       cases ds with
       | nil=>cases l2
       | cons d0 ds =>
        cases d0 with
        | str w =>
         obtain⟨v0,r0,e0,f1,_⟩:=bx.mp dn
         subst e0
         have f1:=eQ.mp f1
         subst f1
         cases xs with
         | nil=>cases bZ.mp e3
         | cons x xs =>
          obtain⟨v1,r1,e1',g1,_⟩:=bx.mp e3
          cases e1'
          cases x with
          | tup ys =>
           obtain⟨c,cs,z,_⟩:=cf.mp g1
           cases z
          | _=>cases of
        | _=>cases l2
      | _=>cases of
     rw [fY na] at sq
     exact .inl (.inl (by rw [fY no]; exact sq))
    ·have q':=aM H' O' a _ sq
     refine .inl (.inr ⟨o,?_⟩)
     rw [fY fun z=>by obtain⟨u,e1,e2⟩:=(E.all.same s').2 a z; rw [q'] at e1; cases e1; exact e2.elim]
     exact q'
    ·exact .inr sq
  | _=>exact hF'.elim
end TG
namespace TX
open PySem PySem.Spec L2 TG
variable [aT]
structure XE (X:Cx) (e:MO) (F:FX):Prop where h:FE X e F
structure XT (X:Cx) (e:MO) (F:av->R Bool):Prop where h:FT X e F
structure XW (X:Cx) (e:MO) (F:av->R Bool):Prop where h:FW X e F
structure XA (X:Cx) (e:List MO) (F:av->R (List D)):Prop where h:FA X e F
structure XS (X:Cx) (e:MQ) (F:cc):Prop where h:FS X e F
structure u6 (X:Cx) (e:List MQ) (F:cc):Prop where h:uF X e F
structure XI (X:Cx) (t e:MO) (F:av->R (List D)):Prop where h:FI X t e F
structure XG (X:Cx) (e:MO) (F:GF):Prop where h:FG X e F
structure Gr (X:Cx) (e:List MO) (F:yi):Prop where h:El X e F
structure XN (X:Cx) (e:MO) (F:FX):Prop where h:FN X e F
structure Ip (X:Cx) (e:List MO) (F:av->R Bool):Prop where h:GD X e F
structure XV (X:Cx) (e:MO) (i:Nat):Prop where h:PE X e (qg i)
structure XB (X:Cx) (scope:MM) (N:List Str) (tg elt:MO) (ifs:List MO) (g:GF) (C:av->R Bool) (Fe:FX) (cl:List (Str×MF)) (C':MF) (fp:List MF) (s:ML) (H:Hp) (E:MC->ML->Prop):Prop where
 a:XG (cj X scope N cl C' fp s H E) tg g
 b:Ip (cj X scope N cl C' fp s H E) ifs C
 c:XE (cj X scope N cl C' fp s H E) elt Fe
structure C2 (X:Cx) (scope:MM) (N:List Str) (tg elt:MO) (ifs:List MO) (g:GF) (C:av->R Bool) (Fe:FX):Prop where
 q:∀ cl C' fp s H E,XB X scope N tg elt ifs g C Fe cl C' fp s H E
theorem C2.h {X:Cx} {scope:MM} {N:List Str} {tg elt:MO} {ifs:List MO} {g:GF} {C:av->R Bool} {Fe:FX} (x:C2 X scope N tg elt ifs g C Fe):FZ X scope N tg elt ifs g C Fe:=fun cl C' fp s H E=>⟨(x.q cl C' fp s H E).a.h,(x.q cl C' fp s H E).b.h,(x.q cl C' fp s H E).c.h⟩
theorem xv {X:Cx} (i:Nat) {x:Str} {pos:Pos} (hN:X.N[i]?=some x:=by rfl) (hv:DZ X.env.scope x:=by first | exact Or.inl rfl | exact Or.inr (Or.inl rfl) | exact Or.inr (Or.inr rfl)) (hd:(x==("__debug__":Str))=false:=by decide)
  (hcd:(x==("__classdict__":Str))=false:=by decide):XV X (.Name x pos) i:=⟨pv i hN hv hd hcd⟩
theorem Ao {X:Cx} {e:MO} {f:av->R Bool} (h:XW X e f):XT X e f:=⟨FW.ft h.h⟩
theorem pG {X:Cx} {i:Nat} {x:Str} {idx value:MO} {fi fv:FX} {npos tpos pos:Pos} (hx:XV X (.Name x npos) i) (hi:XE X idx fi) (hv:XE X value fv)
  (hs:swapsWithSole [.Subscript (.Name x npos) idx tpos] value pos.line X.env=pure false:=by rfl) (hw:swappedStores [.Subscript (.Name x npos) idx tpos] value X.env=pure none:=by rfl)
  (h1:(assignEach [.Subscript (.Name x npos) idx tpos] X.env).map (·.2)=[assign (.Subscript (.Name x npos) idx tpos) X.env]:=by rfl)
  (ha:∀ v,assign (.Subscript (.Name x npos) idx tpos) X.env v=(do
   let ov <- holding [v] (eval (.Name x npos) X.env)
   let iv <- holding [v,ov] (eval idx X.env)
   standAt tpos
   holding [v,ov,iv] (setItem ov iv v)
   release [v,ov,iv] []):=by intro _; rfl):XS X (.Assign [.Subscript (.Name x npos) idx tpos] value pos) (jF i fi fv):=⟨Bc hx.h hi.h hv.h hs hw h1 (Df hx.h hi.h set_list ha)⟩
section
variable [aT] {X:Cx}
theorem ae {i:Nat} {x:Str} {pos:Pos} (h:XV X (.Name x pos) i):XE X (.Name x pos) (ai i):=⟨TG.Iu h.h⟩
end
section
variable [aT] {X:Cx}
theorem ah {i j pos}:XE X (.Constant (.int i) j pos) (fC (.int i)):=⟨TG.GQ ⟩
end
section
variable [aT] {X:Cx}
theorem jj {b j pos}:XE X (.Constant (.bool b) j pos) (fC (.bl b)):=⟨TG.IE ⟩
end
section
variable [aT] {X:Cx}
theorem lN {j pos}:XE X (.Constant .none j pos) (fC .non):=⟨TG.Ha ⟩
end
section
variable [aT] {X:Cx}
theorem aA {x j pos}:XE X (.Constant (.str x) j pos) (fC (.str x)):=⟨TG.G8 ⟩
end
section
variable [aT] {X:Cx}
theorem aj :XA X [] au:=⟨TG.HH ⟩
end
section
variable [aT] {X:Cx}
theorem aa {e:MO} {es:List MO} {f:FX} {g:av->R (List D)} (he:XE X e f) (hs:XA X es g) (hns:noStar e=true:=by rfl):XA X (e::es) (af f g):=⟨TG.GB he.h hs.h hns⟩
end
section
variable [aT] {X:Cx}
theorem aX {es:List MO} {g:av->R (List D)} {k pos} (h:XA X es g):XE X (.Tuple es k pos) (bh g):=⟨TG.HC h.h⟩
end
section
variable [aT] {X:Cx}
theorem bK {es:List MO} {g:av->R (List D)} {pos} (h:XA X es g):XE X (.List es pos) (dU g):=⟨TG.Ii h.h⟩
end
section
variable [aT] {X:Cx}
theorem ak {a b:MO} {op:Operator} {r:R2} {g:D->D->Option D} {fa fb:FX} {pos:Pos} (ho:jw X (M3 op) r) (s:df X.K r g) (ha:XE X a fa) (hb:XE X b fb):XE X (.BinOp a op b pos) (f2 g fa fb):=⟨TG.HI ho s ha.h hb.h⟩
end
section
variable [aT] {X:Cx}
theorem lM {a b:MO} {op:CmpOp} {r:R2} {g:D->D->Option D} {fa fb:FX} {pos:Pos} (ho:jw X (M4 op) r) (s:df X.K r g) (ha:XE X a fa) (hb:XE X b fb) (hm:M5 op b=false):XE X (.Compare a [op] [b] pos) (f2 g fa fb):=⟨TG.Ht ho s ha.h hb.h hm⟩
end
section
variable [aT] {X:Cx}
theorem aH {a b:MO} {op:CmpOp} {r:R2} {g:D->D->Option D} {fa fb:FX} {pos:Pos} (ho:jw X (M4 op) r) (s:df X.K r g) (ha:XE X a fa) (hb:XE X b fb) (hm:M5 op b=false):XT X (.Compare a [op] [b] pos) (fB (f2 g fa fb)):=⟨TG.Il ho s ha.h hb.h hm⟩
end
section
variable [aT] {X:Cx} {a b c:MO} {rest:List MO} {pos:Pos} {f g:av->R Bool}
theorem wu (h:XT X a f):XT X (.UnaryOp .Not a pos) (Bq f):=⟨TG.GX h.h⟩
end
section
variable [aT] {X:Cx} {a b c:MO} {rest:List MO} {pos:Pos} {f g:av->R Bool}
theorem lK (h:XT X a f):XW X (.BoolOp .And [a] pos) f:=⟨TG.GH h.h⟩
end
section
variable [aT] {X:Cx} {a b c:MO} {rest:List MO} {pos:Pos} {f g:av->R Bool}
theorem kE (h:XT X a f):XW X (.BoolOp .Or [a] pos) f:=⟨TG.G5 h.h⟩
end
section
variable [aT] {X:Cx} {a b c:MO} {rest:List MO} {pos:Pos} {f g:av->R Bool}
theorem j9 (ha:XT X a f) (hb:XW X (.BoolOp .And (b::rest) pos) g):XW X (.BoolOp .And (a::b::rest) pos) (kU f g):=⟨TG.G2 ha.h hb.h⟩
end
section
variable [aT] {X:Cx} {a b c:MO} {rest:List MO} {pos:Pos} {f g:av->R Bool}
theorem mX (ha:XT X a f) (hb:XW X (.BoolOp .Or (b::rest) pos) g):XW X (.BoolOp .Or (a::b::rest) pos) (Aq f g):=⟨TG.Iz ha.h hb.h⟩
end
section
variable [aT] {X:Cx} {a b c:MO} {rest:List MO} {pos:Pos} {f g:av->R Bool} {fa fb:FX}
theorem AD {op} (h:XE X a fa):XE X (.BoolOp op [a] pos) fa:=⟨TG.HR h.h⟩
end
section
variable [aT] {X:Cx} {a b c:MO} {rest:List MO} {pos:Pos} {f g:av->R Bool} {fa fb:FX}
theorem AG (ha:XE X a fa) (hb:XE X (.BoolOp .And (b::rest) pos) fb):XE X (.BoolOp .And (a::b::rest) pos) (wl fa fb):=⟨TG.Ij ha.h hb.h⟩
end
section
variable [aT] {X:Cx} {a b c:MO} {rest:List MO} {pos:Pos} {f g:av->R Bool} {fa fb:FX}
theorem yr (hc:XT X c f) (ha:XE X a fa) (hb:XE X b fb):XE X (.IfExp c a b pos) (Fc f fa fb):=⟨TG.Iy hc.h ha.h hb.h⟩
end
section
variable [aT] {X:Cx}
theorem ax {a b:MO} {fa fb:FX} {pos:Pos} (ha:XE X a fa) (hb:XE X b fb) (hs:lY b):XE X (.Subscript a b pos) (f2 aw fa fb):=⟨TG.Iw ha.h hb.h hs⟩
end
section
variable [aT] {X:Cx} {x:Str} {p pos:Pos} {e:MO} {es:List MO} {id T:String} {g:List D->Option D} {f:av->R (List D)}
theorem bd (hc:dA X (.builtin id) (we X.K g)) (hg:Gl X x) (hm:X.mg x=none) (hv:MJ x=some (.builtin id)) (ha:XA X (e::es) f) (hn:x ≠ "__name__":=by decide) (hdb:(x==("__debug__":Str))=false:=by decide) (hns:(e::es).all noStar=true:=by rfl):XE X (.Call (.Name x p) (e::es) [] pos) (fL g f):=⟨TG.EF hc hg hm hv ha.h hn hdb hns⟩
end
section
variable [aT] {X:Cx} {x:Str} {p pos:Pos} {e:MO} {es:List MO} {id T:String} {g:List D->Option D} {f:av->R (List D)}
theorem bP (hc:dA X (.type T) (we X.K g)) (hg:Gl X x) (hm:X.mg x=none) (hv:MJ x=some (.type T)) (ha:XA X (e::es) f) (hn:x ≠ "__name__":=by decide) (hdb:(x==("__debug__":Str))=false:=by decide) (hns:(e::es).all noStar=true:=by rfl):XE X (.Call (.Name x p) (e::es) [] pos) (fL g f):=⟨TG.D4 hc hg hm hv ha.h hn hdb hns⟩
end
section
variable [aT] {X:Cx} {a:MO} {f:FX} {pos:Pos}
theorem kr (h:XE X a f) (he:∀ whole,isTrue a X.env whole=(do let v <- whole; standAt a.pos; holding [v] (truthy v)):=by intro _; rfl):XT X a (mw f):=⟨TG.FC h.h he⟩
end
section
variable [aT] {X:Cx} {tg:MO}
theorem cN {e:MO} {f:FX} (h:XE X e f):XI X tg e (bQ f):=⟨TG.HX h.h⟩
end
section
variable [aT] {X:Cx} {tg:MO}
theorem dz {a:MO} {f:av->R (List D)} {p pos:Pos} (hg:Gl X "range") (hm:X.mg "range"=none) (ha:XA X [a] f) (hs:MP [a] X.env=[(false,eval a X.env)]:=by rfl):XI X tg (.Call (.Name "range" p) [a] [] pos) (cX f):=⟨TG.D3 hg hm ha.h hs⟩
end
section
variable [aT] {X:Cx} {pos:Pos}
theorem aI {i:Nat} {x:Str} (hN:X.N.Nodup) (hi:X.N[i]?=some x) (hx:Loc X.env.scope x) (hf:X.fn x=true\/X.env.scope.names.lookup x=some .local:=by first | exact .inl rfl | exact .inr rfl | assumption):XG X (.Name x pos) (gN i):=⟨TG.Gv hN hi hx hf⟩
end
section
variable [aT] {X:Cx} {pos:Pos}
theorem cG :Gr X [] yW:=⟨TG.Gc ⟩
end
section
variable [aT] {X:Cx} {pos:Pos}
theorem aY {e:MO} {es:List MO} {g:GF} {h:yi} (h1:XG X e g) (h2:Gr X es h) (hs:(assignEach (e::es) X.env).map (·.2)=assign e X.env::(assignEach es X.env).map (·.2):=by rfl):Gr X (e::es) (uT g h):=⟨TG.Ft h1.h h2.h hs⟩
end
section
variable [aT] {X:Cx} {pos:Pos}
theorem du {es:List MO} {k:Nat} {g:yi} {n:Nat} (hc:X.calm=true) (h:Gr X es g) (hn:(assignEach es X.env).length=n:=by rfl) (hst:(assignEach es X.env).findIdx? (·.1)=none:=by rfl):XG X (.Tuple es k pos) (gT n g):=⟨TG.Ik hc h.h hn hst⟩
end
section
variable [aT]
theorem cD {X:Cx}:Ip X [] cP:=⟨TG.Gy ⟩
end
section
variable [aT]
theorem gR {X:Cx} {c:MO} {F:av->R Bool} (h:XT X c F):Ip X [c] F:=⟨TG.Gp h.h⟩
end
section
variable [aT] {X:Cx} {elt tg iter:MO} {ifs:List MO} {scope:MM} {pos:Pos} {N:List Str} {ix:List (Option Nat)} {G:av->R (List D)} {g:GF} {C:av->R Bool} {Fe:FX}
theorem dj (hc:X.calm=true) (ok:lA X scope N ix) (tk:ud ix g) (hi:XI X tg iter G) (hb:C2 X scope N tg elt ifs g C Fe) (hs:∀ x,M1 iter X.env x=pure x:=by intro _; rfl):XE X (.ListComp elt [⟨tg,iter,ifs,0⟩] scope pos) (iC ix G g C Fe):=⟨TG.IC hc ok tk hi.h hb.h hs⟩
end
section
variable [aT] {X:Cx} {st:MQ} {rest body:List MQ} {pos:Pos}
theorem aG :u6 X [] bI:=⟨TG.Gx ⟩
end
section
variable [aT] {X:Cx} {st:MQ} {rest body:List MQ} {pos:Pos}
theorem ao {F1 F2:cc} (h1:XS X st F1) (h2:u6 X rest F2):u6 X (st::rest) (aF F1 F2):=⟨TG.EY h1.h h2.h⟩
end
section
variable [aT] {X:Cx} {st:MQ} {rest body:List MQ} {pos:Pos}
theorem ay {F1:cc} (h1:XS X st F1):u6 X [st] F1:=⟨TG.FV h1.h⟩
end
section
variable [aT] {X:Cx} {st:MQ} {rest body:List MQ} {pos:Pos}
theorem aR {e:MO} {f:FX} (h:XE X e f):XS X (.Return (some e) pos) (bW f):=⟨TG.G7 h.h⟩
end
section
variable [aT] {X:Cx} {st:MQ} {rest body:List MQ} {pos:Pos}
theorem yy {e:MO} {f:FX} (h:XE X e f) (hs:swapsWith e none pos.line X.env=pure false:=by rfl):XS X (.Expr e pos) (wa f):=⟨TG.Gg h.h hs⟩
end
section
variable [aT] {X:Cx} {st:MQ} {rest body:List MQ} {pos:Pos}
theorem bA {c:MO} {a b:List MQ} {tc:av->R Bool} {A B:cc} (hc:XT X c tc) (ha:u6 X a A) (hb:u6 X b B):XS X (.If c a b pos) (eY tc A B):=⟨TG.IT hc.h ha.h hb.h⟩
end
section
variable [aT] {X:Cx} {st:MQ} {rest body:List MQ} {pos:Pos}
theorem aD {i:Nat} {x:Str} {e:MO} {f:FX} {pos':Pos} (hN:X.N.Nodup) (hi:X.N[i]?=some x) (hx:Loc X.env.scope x) (he:XE X e f) (hs:swapsWith e (some (.Name x pos')) pos.line X.env=pure false:=by rfl) (hf:X.fn x=true\/X.env.scope.names.lookup x=some .local:=by first | exact .inl rfl | exact .inr rfl | assumption):XS X (.Assign [.Name x pos'] e pos) (bB i f):=⟨TG.HY hN hi hx he.h hs hf⟩
end
section
variable [aT] {X:Cx} {st:MQ} {rest body:List MQ} {pos:Pos}
theorem sv {elt tg iter:MO} {ifs:List MO} {scope:MM} {N:List Str} {ix:List (Option Nat)} {G:av->R (List D)} {g:GF} {C:av->R Bool} {Fe:FX} {i:Nat} {y:Str} {lpos py spos:Pos} (hN:X.N.Nodup) (hi':X.N[i]?=some y) (hx:Loc X.env.scope y) (hc:X.calm=true) (ok:lA X scope N ix) (tk:ud ix g) (hi:XI X tg iter G) (hb:C2 X scope N tg elt ifs g C Fe) (hsw:swapsWith (.ListComp elt [⟨tg,iter,ifs,0⟩] scope lpos) (some (.Name y py)) spos.line X.env=pure true:=by rfl) (hs:∀ x,M1 iter X.env x=pure x:=by intro _; rfl) (hf:X.fn y=true\/X.env.scope.names.lookup y=some .local:=by first | exact .inl rfl | exact .inr rfl | assumption):XS X (.Assign [.Name y py] (.ListComp elt [⟨tg,iter,ifs,0⟩] scope lpos) spos) (bB i (iC ix G g C Fe)):=⟨TG.IR hN hi' hx hc ok tk hi.h hb.h hsw hs hf⟩
end
section
variable [aT] {X:Cx} {st:MQ} {rest body:List MQ} {pos:Pos}
theorem Br {tg e:MO} {f:FX} {g:GF} (he:XE X e f) (hg:XG X tg g) (hs:swapsWithSole [tg] e pos.line X.env=pure false:=by rfl) (hw:swappedStores [tg] e X.env=pure none:=by rfl) (h1:(assignEach [tg] X.env).map (·.2)=[assign tg X.env]:=by rfl):XS X (.Assign [tg] e pos) (AW f g):=⟨TG.GP he.h hg.h hs hw h1⟩
end
section
variable [aT] {X:Cx} {st:MQ} {rest body:List MQ} {pos:Pos}
theorem cC {st:List MQ} {F:cc} (is:List Nat) (h:u6 X st F):u6 X st (dP is F):=⟨TG.Ez is h.h⟩
end
section
variable [aT] {X:Cx} {st:MQ} {rest body:List MQ} {pos:Pos}
theorem gz {tg iter:MO} {G:av->R (List D)} {g:GF} {B:cc} (hp:M0 (model X.prog X.w) X.A X.env X.xe) (hc:X.calm=true) (hi:XI X tg iter G) (hg:XG X tg g) (hb:u6 X body B) (hs:∀ x,M1 iter X.env x=pure x:=by intro _; rfl):XS X (.For tg iter body [] pos) (lw G g B):=⟨TG.HU hp hc hi.h hg.h hb.h hs⟩
end
section
variable [aT] {X:Cx} {pos:Pos}
theorem oy {es:List MO} {g:av->R (List D)} (h:XA X es g):XN X (.List es pos) (dU g):=⟨TG.Im h.h⟩
end
section
variable [aT] {X:Cx} {pos:Pos}
theorem tx {x:Str} {p:Pos} {e:MO} {f:av->R (List D)} (hg:Gl X x) (hm:X.mg x=none) (hv:MJ x=some (.type "list")) (ha:XA X [e] f) (hn:x ≠ "__name__":=by decide) (hdb:(x==("__debug__":Str))=false:=by decide) (hns:noStar e=true:=by rfl):XN X (.Call (.Name x p) [e] [] pos) (fL nY f):=⟨TG.GJ hg hm hv ha.h hn hdb hns⟩
end
section
variable [aT] {X:Cx} {pos:Pos}
theorem qA :XN X (.Dict [] [] pos) tJ:=⟨TG.EH ⟩
end
section
variable [aT] {X:Cx} {pos:Pos}
theorem fK {i:Nat} {x:Str} {e:MO} {f:FX} {pos':Pos} (hN:X.N.Nodup) (hi:X.N[i]?=some x) (hx:Loc X.env.scope x) (he:XN X e f) (hs:swapsWith e (some (.Name x pos')) pos.line X.env=pure false:=by rfl) (hf:X.fn x=true\/X.env.scope.names.lookup x=some .local:=by first | exact .inl rfl | exact .inr rfl | assumption):XS X (.Assign [.Name x pos'] e pos) (lu i f):=⟨TG.HG hN hi hx he.h hs hf⟩
end
section
variable [aT]
theorem ip {X : Cx} {i : Nat} {x m : Str} {id : String} {r : V -> List V -> Hp -> VK -> Prop} {u : List D -> List D -> Option (List D)} {e : MO} {es : List MO} {f : av -> R (List D)} {npos apos cpos pos : Pos} (slot : Slot "list" m id) (hty : typeOf (.builtin id) = pure (.type "method_descriptor")) (hm : Ci X id r) (ok : nT X.K r u) (hx : XV X (.Name x npos) i) (he : XA X (e :: es) f) (hbase : Np (.Name x npos) m X.env (eval (.Name x npos) X.env) = eval (.Name x npos) X.env := by rfl) (hfew : ((backTo cpos (MP (e :: es) X.env)).all (fun x => !x.1) && (backToKw cpos (M9 [] X.env)).all (fun x => x.1.isSome)
      && decide ((e::es:List MO).length+([]:List Nq).length+(if ([]:List Nq).isEmpty then 0 else 1) < 30))=true:=by rfl) (hline:(apos.endLine==cpos.line)=true:=by rfl) (hs:MP (e::es) X.env=(false,eval e X.env)::MP es X.env:=by rfl) (hplain:(backTo cpos (MP es X.env)).any (·.1)=false:=by rfl) (hsw:swapsWith (.Call (.Attribute (.Name x npos) m apos) (e::es) [] cpos) none pos.line X.env=pure false:=by rfl):XS X (.Expr (.Call (.Attribute (.Name x npos) m apos) (e::es) [] cpos) pos) (oM i u f):=⟨TG.IJ slot hty hm ok hx.h he.h hbase hfew hline hs hplain hsw⟩
end
section
variable [aT]
theorem dW {X:Cx} {st:List MQ} {F:cc} (i:Nat) (h:u6 X st F):u6 X st (ir i F):=⟨TG.Gw i h.h⟩
end
section
variable [aT]
theorem uC {X:Cx} {e:MO} {f:FX} (is:List Nat) (h:XE X e f):XE X e (md is f):=⟨TG.Gq is h.h⟩
end
section
variable [aT]
theorem jC {X:Cx} {e:MO} {f:av->R Bool} (is:List Nat) (h:XT X e f):XT X e (et is f):=⟨TG.FQ is h.h⟩
end
section
variable [aT]
theorem aB {X:Cx} {k k':Nat} {ps:List Str} {g:List D->R D} {h:av->R (List D)} {x:Str} {p pos:Pos} {e:MO} {es:List MO} (C:Callee X.prog X.w X.K X.mg X.base k x ps g) (hn:Ar ps.length g) (hr:ik k' X.A) (hk:k<=k') (ha:XA X (e::es) h) (hg:Gl X x:=by rfl) (hdb:(x==("__debug__":Str))=false:=by decide) (hns:(e::es).all noStar=true:=by rfl):XE X (.Call (.Name x p) (e::es) [] pos) (fR g h):=⟨TG.D5 C hn hr hk ha.h hg hdb hns⟩
end
section
variable [aT] {X:Cx} {a b c:MO} {fa fb fc:FX} {pos:Pos}
theorem v4 (ha:XE X a fa):XE X (.UnaryOp .USub a pos) (zV fa):=⟨TG.G0 ha.h⟩
end
section
variable [aT] {X:Cx} {a b c:MO} {fa fb fc:FX} {pos:Pos}
theorem yO {x:Str} {i:Int} (hg:Gl X x) (hm:∃ t,X.mg x=some (.int i t)) (hd:(x==("__debug__":Str))=false:=by decide):XE X (.Name x pos) (fC (.int i)):=⟨TG.GK hg hm hd⟩
end
section
variable [aT] {X:Cx}
theorem lB {a b:MO} {es:List MO} {k:Nat} {tpos:Pos} {f:av->R (List D)} {p pos:Pos} (hg:Gl X "zip") (hm:X.mg "zip"=none) (ha:XA X [a,b] f) (hs:MP [a,b] X.env=(false,eval a X.env)::MP [b] X.env:=by rfl) (hpl:(backTo pos (MP [b] X.env)).any (·.1)=false:=by rfl):XI X (.Tuple es k tpos) (.Call (.Name "zip" p) [a,b] [] pos) (rW f):=⟨TG.HK hg hm ha.h hs hpl⟩
end
section
variable [aT] {X:Cx}
theorem kN {a:MO} {es:List MO} {k:Nat} {tpos:Pos} {f:av->R (List D)} {p pos:Pos} (hg:Gl X "enumerate") (hm:X.mg "enumerate"=none) (ha:XA X [a] f) (hs:MP [a] X.env=(false,eval a X.env)::MP [] X.env:=by rfl) (hpl:(backTo pos (MP [] X.env)).any (·.1)=false:=by rfl):XI X (.Tuple es k tpos) (.Call (.Name "enumerate" p) [a] [] pos) (fz f):=⟨TG.Bt hg hm ha.h hs hpl⟩
end
section
variable [aT] {X:Cx} {a o e:MO} {es:List MO} {fa fo:FX} {fas:av->R (List D)} {f m x:Str} {cs:List Str} {pos apos p:Pos} {k k':Nat} {ps:List Str}
theorem yw {tbl : List (Str × (List D -> R D))} {pl : Sem Bool} (tb : nN X.prog X.w X.K X.mg X.base k m ps tbl) (hr : ik k' X.A) (hk : k <= k') (ho : XE X o fo) (ha : XA X (e :: es) fas) (hns : (e :: es).all noStar = true := by rfl) (ht : eval (.Call (.Attribute o m apos) (e :: es) [] pos) X.env = (do
      let ov <- eval o X.env
      standAt apos.atName
      let (f,first) <- holding [ov] (getMethod ov m pl)
      M8 pos f first (backTo pos (MP (e::es) X.env)) (backToKw pos (M9 [] X.env))):=by rfl):XE X (.Call (.Attribute o m apos) (e::es) [] pos) (qW m tbl fo fas):=⟨TG.GN tb hr hk ho.h ha.h hns ht⟩
end
section
variable [aT] {X:Cx} {C:MF} {pins:List (MF×Obj)} {σ:St} {H:Hp} {s:ML} {Q:VK}
theorem zi {c:Str} {p pos:Pos} (NA:vZ X.K X.mg c) (hg:Gl X c) (hdb:(c==("__debug__":Str))=false:=by decide):XE X (.Call (.Name c p) [] [] pos) (fC (.obj c [] [])):=⟨TG.Gm NA hg hdb⟩
end
section
variable [aT]
theorem AU {X:Cx} {i:Nat} {x m:Str} {id:String} {r:V->List V->Hp->VK->Prop} {u:List D->List D->Option (List D)} {npos apos cpos pos:Pos} (slot:Slot "list" m id) (hty:typeOf (.builtin id)=pure (.type "method_descriptor")) (hm:Ci X id r) (ok:nT X.K r u) (hx:XV X (.Name x npos) i) (hbase:Np (.Name x npos) m X.env (eval (.Name x npos) X.env)=eval (.Name x npos) X.env:=by rfl) (hline:(apos.endLine==cpos.line)=true:=by rfl) (hsw:swapsWith (.Call (.Attribute (.Name x npos) m apos) [] [] cpos) none pos.line X.env=pure false:=by rfl):XS X (.Expr (.Call (.Attribute (.Name x npos) m apos) [] [] cpos) pos) (oM i u au):=⟨TG.GW slot hty hm ok hx.h hbase hline hsw⟩
end
section
variable [aT] {X:Cx} {pos:Pos}
theorem iZ {x:Str} {e:MO} {es:List MO} {f:av->R (List D)} {np cpos:Pos} (hc:X.calm=true) (hx:ExcAt X.K X.mg x) (hg:Gl X x) (ha:XA X (e::es) f) (hdb:(x==("__debug__":Str))=false:=by decide) (hns:(e::es).all noStar=true:=by rfl):XS X (.Raise (some (.Call (.Name x np) (e::es) [] cpos)) none pos) (jI x f):=⟨TG.Fs hc hx hg ha.h hdb hns⟩
end
section
variable [aT] {X:Cx} {p pos:Pos} {e:MO}
theorem bu {f:FX} {x:Str} {p2:Pos} {tbl:List (Str×Bool)} (h:bR X.K X.mg x tbl) (hg:Gl X "isinstance") (hm:X.mg "isinstance"=none) (hgx:Gl X x) (he:XE X e f) (hd2:(x==("__debug__":Str))=false:=by decide) (hns:noStar e=true:=by rfl):XE X (.Call (.Name "isinstance" p) [e,.Name x p2] [] pos) (f1 (dX tbl) f):=⟨TG.FR h hg hm hgx he.h hd2 hns⟩
end
section
variable [aT] {X:Cx} {p pos:Pos} {e:MO}
theorem qT {f:FX} {x:Str} {T:String} {p2:Pos} {tbl:List (Str×Bool)} (h:p5 X.K (.type T) tbl) (hg:Gl X "isinstance") (hm:X.mg "isinstance"=none) (hgx:Gl X x) (hmx:X.mg x=none) (hv:MJ x=some (.type T)) (he:XE X e f) (hn2:x ≠ "__name__":=by decide) (hd2:(x==("__debug__":Str))=false:=by decide) (hns:noStar e=true:=by rfl):XE X (.Call (.Name "isinstance" p) [e,.Name x p2] [] pos) (f1 (dX tbl) f):=⟨TG.Ee h hg hm hgx hmx hv he.h hn2 hd2 hns⟩
end
section
variable [aT] {X:Cx} {p pos:Pos} {e:MO}
theorem qt {a e : MO} {fa : FX} {fs : av -> R (List D)} {apos cpos : Pos} (hu : X.A.units + 64 < Nc) (ha : XE X a fa) (hs : XA X [e] fs) (hbase : Np a "index" X.env (eval a X.env) = eval a X.env := by rfl) (hfew : ((backTo cpos (MP [e] X.env)).all (fun x => !x.1) && (backToKw cpos (M9 [] X.env)).all (fun x => x.1.isSome)
      && decide (([e]:List MO).length+([]:List Nq).length+(if ([]:List Nq).isEmpty then 0 else 1) < 30))=true:=by rfl) (hline:(apos.endLine==cpos.line)=true:=by rfl) (hst:MP [e] X.env=(false,eval e X.env)::MP [] X.env:=by rfl) (hplain:(backTo cpos (MP [] X.env)).any (·.1)=false:=by rfl):XE X (.Call (.Attribute a "index" apos) [e] [] cpos) (uG fa fs):=⟨TG.Ed hu ha.h hs.h hbase hfew hline hst hplain⟩
end
section
variable [aT] {X:Cx}
theorem vW {a b:MO} {fa fb:FX} {pos:Pos} (ha:XE X a fa) (hb:XE X b fb):XN X (.BinOp a .Add b pos) (f2 yD fa fb):=⟨TG.Hl ha.h hb.h⟩
end
section
variable [aT]
theorem oV {X:Cx} {i:Nat} {x:Str} {idx value:MO} {fk fv:FX} {npos tpos pos:Pos} (hu:X.A.units+64 < Nc) (hx:XV X (.Name x npos) i) (hi:XE X idx fk) (hv:XE X value fv) (hs:swapsWith value (some (.Subscript (.Name x npos) idx tpos)) pos.line X.env=pure false:=by rfl):XS X (.Assign [.Subscript (.Name x npos) idx tpos] value pos) (kQ i fk fv):=⟨TG.Gk hu hx.h hi.h hv.h hs⟩
end
section
variable [aT] {X:Cx}
theorem rQ {a e : MO} {fa : FX} {fs : av -> R (List D)} {apos cpos : Pos} (hu : X.A.units + 64 < Nc) (ha : XE X a fa) (hs : XA X [e] fs) (hbase : Np a "count" X.env (eval a X.env) = eval a X.env := by rfl) (hfew : ((backTo cpos (MP [e] X.env)).all (fun x => !x.1) && (backToKw cpos (M9 [] X.env)).all (fun x => x.1.isSome)
      && decide (([e]:List MO).length+([]:List Nq).length+(if ([]:List Nq).isEmpty then 0 else 1) < 30))=true:=by rfl) (hline:(apos.endLine==cpos.line)=true:=by rfl) (hst:MP [e] X.env=(false,eval e X.env)::MP [] X.env:=by rfl) (hplain:(backTo cpos (MP [] X.env)).any (·.1)=false:=by rfl):XE X (.Call (.Attribute a "count" apos) [e] [] cpos) (uY fa fs):=⟨TG.E6 hu ha.h hs.h hbase hfew hline hst hplain⟩
end
section
variable [aT]
theorem tM {X:Cx} {k k':Nat} {ps:List Str} {g:List D->R D} {h:av->R (List D)} {x:Str} {p pos:Pos} {e:MO} {es:List MO} (C:oB X.prog X.w X.K X.mg X.base k x ps g) (hn:Ar ps.length g) (hr:gL k' X.A) (hk:k<=k') (ha:XA X (e::es) h) (hg:Gl X x:=by rfl) (hdb:(x==("__debug__":Str))=false:=by decide) (hns:(e::es).all noStar=true:=by rfl):XE X (.Call (.Name x p) (e::es) [] pos) (fR g h):=⟨TG.C3 C hn hr hk ha.h hg hdb hns⟩
end
section
variable [aT]
theorem oA {X:Cx} {x:Str} {b:MO} {i:Nat} {fk:FX} {npos pos:Pos} (hx:XV X (.Name x npos) i) (hb:XE X b fk) (hs:lY b):XE X (.Subscript (.Name x npos) b pos) (jv i fk):=⟨TG.Hx hx.h hb.h hs⟩
end
section
variable [aT]
theorem xq {X:Cx} {e:MO} {f:FX} (is:List Nat) (h:XE X e f):XE X e (kZ is f):=⟨TG.Ec is h.h⟩
end
theorem A4 {X:Cx} {pos:Pos} {body suite:List MQ} {b₀:MQ} {g n:Str} {gp hpos:Pos} {F Fh:cc} {cs:List Str} {i:Nat} (hx:X.ex=[]) (hst:X.stack=X.env::X.outer) (hf:X.env.frame=some X.env.locals) (hfn:∀ x,X.fn x=true)
  (hT:uc X.K X.mg g cs) (hg:Gl X g) (hN:X.N.Nodup) (hi:X.N[i]?=some n) (hl:X.env.scope.names.lookup n=some .local)
  (hb:∀ E pn,M0 (model X.prog X.w) X.A X.env E->u6 (uk X E pn) body F) (hs:∀ A pn,A.depth=X.A.depth->A.units=X.A.units->u6 (pU X A pn) (b₀::suite) Fh) (hdb:(g==("__debug__":Str))=false:=by decide) :
  XS X (.Try body [.ExceptHandler (some (.Name g gp)) (some n) (b₀::suite) hpos] [] [] pos) (AO cs i F Fh):=⟨TG.Hj hx hst hf hfn hT hg hN hi hl (fun E pn hp=>(hb E pn hp).h) (fun A pn h1 h2=>(hs A pn h1 h2).h) hdb⟩
abbrev Lk (K:Lj) (f:MF) (nm qual:Str) (st:MQ) (oc:MC) (od:Option MF) (kV dc pm:MC) (an:Option MF) (cd ct:MC) (sl:Array (Option MC)):Prop:=K.lookup f=some ⟨oc,od,.func (LJ nm qual (kG st) (eP st) (aC st) .none kV dc pm an cd ct),sl⟩
structure dr (P:ME) (w:MD) (K:Lj) (mg:Str->Option MC) (base:MG) (k:Nat) (N:List Str) (qual:Str) (st:MQ) (f:MF) (B:cc):Prop where
 h:∀ (cdv:MC) (A:MK) (outer:List Env) (s:ML) (H:Hp) (E:XK),ik k (A.deeper (Ml qual (aC st) s.heap.objs.size f cdv))->M0 (model P w) (A.deeper (Ml qual (aC st) s.heap.objs.size f cdv)) (Ml qual (aC st) s.heap.objs.size f cdv) (kL (lS P w) P w K mg base N qual (aC st) f cdv A outer s H E).xe ->
  u6 (kL (lS P w) P w K mg base N qual (aC st) f cdv A outer s H E) (eP st) B
structure zt (P:ME) (w:MD) (K:Lj) (mg:Str->Option MC) (base:MG) (k:Nat) (N:List Str) (qual:Str) (st:MQ) (f:MF) (B:cc):Prop where
 h:∀ (cdv:MC) (A:MK) (outer:List Env) (s:ML) (H:Hp) (E:XK),gL k (A.deeper (Ml qual (aC st) s.heap.objs.size f cdv))->M0 (model P w) (A.deeper (Ml qual (aC st) s.heap.objs.size f cdv)) (Ml qual (aC st) s.heap.objs.size f cdv) (BX P w K mg base N qual (aC st) f cdv A outer s H E).xe ->
  u6 (BX P w K mg base N qual (aC st) f cdv A outer s H E) (eP st) B
theorem zt.ok {P:ME} {w:MD} {K:Lj} {mg:Str->Option MC} {base:MG} {k:Nat} {N:List Str} {qual:Str} {st:MQ} {f:MF} {B:cc} (h:zt P w K mg base k N qual st f B):sO P w K mg base k N qual st f B:=⟨fun cdv A outer s H E hr hp=>(h.h cdv A outer s H E hr hp).h⟩
theorem dr.ok {P:ME} {w:MD} {K:Lj} {mg:Str->Option MC} {base:MG} {k:Nat} {N:List Str} {qual:Str} {st:MQ} {f:MF} {B:cc} (h:dr P w K mg base k N qual st f B):BodyOk P w K mg base k N qual st f B:=⟨fun cdv A outer s H E hr hp=>(h.h cdv A outer s H E hr hp).h⟩
end TX
namespace TG
open L2
instance (priority:=low) noTabs:aT:=⟨fun _=>True,fun _ _=>trivial,fun _ _ _=>trivial⟩
end TG
namespace TG
open PySem PySem.Spec L2
theorem nr {α:Sort _} {a b:α} (h:a=b):a=b:=h
theorem fT {α β:Type} (a:α) (f:α->R β):Except.bind (Except.ok a:R α) f=f a:=nr rfl
theorem rK {α β:Type} (x:Option Ex) (f:α->R β):Except.bind (Except.error x:R α) f=.error x:=nr rfl
theorem nS {α:Type} (a:α) (k:Ks) (ρ:av) (f:α->R D):og (.ok a) k ρ f=f a:=nr rfl
theorem rE {α:Type} (x:Ex) (k:Ks) (ρ:av) (f:α->R D):og (.error (some x)) k ρ f=k.ex x ρ:=nr rfl
theorem nJ {α:Type} (a:α):uy (.ok a:R α)=.ok a:=nr rfl
theorem fI {α:Type} (a:α):rO (some a)=.ok a:=nr rfl
theorem ge_0 (d:D) (ρ:av):oY (some (.val d)::ρ) 0=.ok d:=nr rfl
theorem yc (x:Option S) (ρ:av) (i:Nat):oY (x::ρ) (i+1)=oY ρ i:=by
 unfold oY; rw [Kq]
theorem mI (i:Nat) (ρ:av):ai i ρ=oY ρ i:=nr rfl
theorem xQ (d:D) (ρ:av):fC d ρ=.ok d:=nr rfl
theorem mS (ρ:av):au ρ=.ok []:=nr rfl
theorem ko (f:FX) (g:av->R (List D)) (ρ:av):af f g ρ=(f ρ).bind fun x=>(g ρ).bind fun xs=>.ok (x::xs):=nr rfl
theorem nH (g:av->R (List D)) (ρ:av):bh g ρ=(g ρ).bind fun xs=>rO (qZ xs):=nr rfl
theorem nz (g:av->R (List D)) (ρ:av):dU g ρ=(g ρ).bind fun xs=>rO (js xs):=nr rfl
theorem xY (g:D->Option D) (f:FX) (ρ:av):f1 g f ρ=(f ρ).bind fun a=>rO (g a):=nr rfl
theorem xH (g:D->D->Option D) (f h:FX) (ρ:av):f2 g f h ρ=(f ρ).bind fun a=>(h ρ).bind fun b=>rO (g a b):=nr rfl
theorem xZ (f:FX) (ρ:av):fB f ρ=(f ρ).bind fun d=>rO (G4 d):=nr rfl
theorem xm (g:List D->Option D) (f:av->R (List D)) (ρ:av):fL g f ρ=(f ρ).bind fun ds=>rO (g ds):=nr rfl
theorem wO (g:List D->R D) (f:av->R (List D)) (ρ:av):fR g f ρ=(f ρ).bind g:=nr rfl
theorem mH (f:av->R Bool) (ρ:av):Bq f ρ=(f ρ).bind fun b=>.ok (!b):=nr rfl
theorem mB (f g:av->R Bool) (ρ:av):kU f g ρ=(f ρ).bind fun b=>if b then g ρ else .ok false:=nr rfl
theorem qQ (f g:av->R Bool) (ρ:av):Aq f g ρ=(f ρ).bind fun b=>if b then .ok true else g ρ:=nr rfl
theorem iB (f:FX) (ρ:av):mw f ρ=(f ρ).bind fun d=>rO (truth d):=nr rfl
theorem j6 (f g:FX) (ρ:av):wl f g ρ=(f ρ).bind fun d=>uP d (g ρ):=nr rfl
theorem nG (f g:FX) (ρ:av):Ib f g ρ=(f ρ).bind fun d=>Ek d (g ρ):=nr rfl
theorem kH (f:FX) (ρ:av):FK f ρ=(f ρ).bind fun a=>rO (Ct a):=nr rfl
theorem rj (t:av->R Bool) (f g:FX) (ρ:av):Fc t f g ρ=(t ρ).bind fun c=>if c then f ρ else g ρ:=nr rfl
theorem nc (T:String) (f:FX) (ρ:av):Iq T f ρ=(f ρ).bind fun a=>rO (Fl T a):=nr rfl
theorem nD (f:FX) (ρ:av):Hk f ρ=(f ρ).bind fun a=>.ok (.bl (isNon a)):=nr rfl
theorem kt (f:FX) (ρ:av):Fg f ρ=(f ρ).bind fun a=>.ok (.bl (!isNon a)):=nr rfl
theorem mq (f:FX) (ρ:av):zV f ρ=(f ρ).bind fun a=>rO (DT a):=nr rfl
theorem iS (f:FX) (ρ:av):Dd f ρ=(f ρ).bind fun a=>rO (zM a):=nr rfl
theorem mY (f:FX) (ρ:av):Hz f ρ=(f ρ).bind fun a=>rO (CL a):=nr rfl
theorem iT (g g':D->D->Option D) (fa fb fc:FX) (ρ:av):Dl g g' fa fb fc ρ=(fa ρ).bind fun x=>(fb ρ).bind fun y=>(rO (g x y)).bind fun z=>uP z ((fc ρ).bind fun w=>rO (g' y w)):=nr rfl
theorem iD (f:FX) (ρ:av):bQ f ρ=(f ρ).bind fun d=>rO (o8 d):=nr rfl
theorem gD (f:av->R (List D)) (ρ:av):cX f ρ=(f ρ).bind fun ds=>rO (jk ds):=nr rfl
theorem gC (f:av->R (List D)) (ρ:av):AI f ρ=(f ρ).bind fun ds=>rO (wm ds):=nr rfl
theorem mJ (f:av->R (List D)) (ρ:av):rW f ρ=(f ρ).bind fun ds=>rO (vk ds):=nr rfl
theorem jX (f:av->R (List D)) (ρ:av):fz f ρ=(f ρ).bind fun ds=>rO (ra ds):=nr rfl
theorem nB (z:Str):Jb (.str z)=some z:=nr rfl
theorem gE (ρ:av):By ρ=.ok none:=nr rfl
theorem kq (f:FX) (ρ:av):EJ f ρ=(f ρ).bind fun d=>rO (uN d):=nr rfl
theorem iJ (f:FX) (l h:av->R (Option Int)) (ρ:av):Dk f l h ρ=(f ρ).bind fun a=>(l ρ).bind fun lo=>(h ρ).bind fun hi=>rO (sd a lo hi):=nr rfl
theorem kz (ρ:av):cP ρ=.ok true:=nr rfl
theorem jZ (k:Ks) (ρ:av):bI k ρ=k.nx ρ:=nr rfl
theorem gm (A B:cc) (k:Ks) (ρ:av):aF A B k ρ=A { k with nx:=B k } ρ:=nr rfl
theorem jV (f:FX) (k:Ks) (ρ:av):bW f k ρ=og (f ρ) k ρ .ok:=nr rfl
theorem iV (k:Ks) (ρ:av):Fu k ρ=.ok .non:=nr rfl
theorem kW (c:av->R Bool) (A B:cc) (k:Ks) (ρ:av):eY c A B k ρ=og (c ρ) k ρ fun b=>if b then A k ρ else B k ρ:=nr rfl
theorem kj (i:Nat) (f:FX) (k:Ks) (ρ:av):bB i f k ρ=og (f ρ) k ρ fun d=>k.nx (setV i d ρ):=nr rfl
theorem iz (is:List Nat) (F:cc) (k:Ks) (ρ:av):dP is F k ρ=F k (kill is ρ):=nr rfl
theorem hX (G:av->R (List D)) (g:GF) (B:cc) (k:Ks) (ρ:av):lw G g B k ρ=og (G ρ) k ρ fun ds=>gr g B k ds ρ:=nr rfl
theorem wJ (d:D) (x:Option S) (ρ:av):setV 0 d (x::ρ)=some (.val d)::ρ:=nr rfl
theorem xn (i:Nat) (d:D) (x:Option S) (ρ:av):setV (i+1) d (x::ρ)=x::setV i d ρ:=nr rfl
theorem ng (ρ:av):kill [] ρ=ρ:=nr rfl
theorem j8 (i:Nat) (is:List Nat) (ρ:av):kill (i::is) ρ=kill is (ρ.set i none):=nr rfl
theorem nF (B:cc) (n:Nat) (a:D):bp B 1 n [a]=B K0 (env0 n [a]):=nr rfl
theorem gU (B:cc) (n:Nat) (a b:D):bp B 2 n [a,b]=B K0 (env0 n [a,b]):=nr rfl
theorem kX (B:cc) (n:Nat) (a b c:D):bp B 3 n [a,b,c]=B K0 (env0 n [a,b,c]):=nr rfl
theorem m7 (ρ:av):inB [] ρ=[]:=nr rfl
theorem kJ (ix:List (Option Nat)) (ρ:av):inB (none::ix) ρ=none::inB ix ρ:=nr rfl
def pick (ρ:av) (i:Nat):Option S:=match ρ[i]? with
 | some (some (.val d))=>some (.val d)
 | _=>none
theorem kF (i:Nat) (ix:List (Option Nat)) (ρ:av):inB (some i::ix) ρ=pick ρ i::inB ix ρ:=nr rfl
theorem xj (d:D) (ρ:av):pick (some (.val d)::ρ) 0=some (.val d):=rfl
theorem xV (x:Option S) (ρ:av) (i:Nat):pick (x::ρ) (i+1)=pick ρ i:=by
 unfold pick; rw [Kq]
theorem kK (i:Nat) (f:FX) (k:Ks) (ρ:av):lu i f k ρ=og (f ρ) k ρ fun d=>k.nx (ρ.set i (some (.own d))):=nr rfl
theorem ke (i:Nat) (F:cc) (k:Ks) (ρ:av):ir i F k ρ=F k (frz i ρ):=nr rfl
theorem wK (d:D) (ρ:av):frz 0 (some (.own d)::ρ)=some (.val d)::ρ:=nr rfl
theorem qz (d:D) (ρ:av):frz 0 (some (.val d)::ρ)=some (.val d)::ρ:=nr rfl
theorem xJ (i:Nat) (x:Option S) (ρ:av):frz (i+1) (x::ρ)=x::frz i ρ:=by
 unfold frz
 rw [Kq]
 split <;> rename_i h
 ·rw [h]; rfl
 ·rfl
theorem jl (i:Nat) (u:List D->List D->Option (List D)) (f:av->R (List D)) (k:Ks) (ρ:av) {xs:List D} (h:ρ[i]?=some (some (.own (.lst xs)))):oM i u f k ρ=og (f ρ) k ρ fun ds=>(rO (u xs ds)).bind fun ys=>k.nx (ρ.set i (some (.own (.lst ys)))):=by
 unfold oM; rw [h]
theorem nw {xs:List D} {y:D} (h:xs.length < 100000):gx xs [y]=some (xs++[y]):=by
 show (if small (xs.length+1) then some (xs++[y]) else none)=_
 rw [cZ ‹0›]; rfl
theorem nh (i j:Int):bV (.int i) (.int j)=some (.int (i+j)):=nr rfl
theorem mU (i j:Int):TG.pX (.int i) (.int j)=some (.int (i - j)):=nr rfl
theorem qv (i j:Int):Ja (.int i) (.int j)=some (.bl (decide (i < j))):=nr rfl
theorem mL (i j:Int):lC (.int i) (.int j)=some (.bl (decide (i < j))):=nr rfl
theorem my (x y:Str):lC (.str x) (.str y)=some (.bl (decide (x.cps.toList < y.cps.toList))):=nr rfl
theorem mO (c d:Bool):HD (.bl c) (.bl d)=some (.bl (c==d)):=nr rfl
theorem gF (c d:Bool):A8 (.bl c) (.bl d)=some (.bl (!(c==d))):=nr rfl
theorem qJ (i j:Int):IP (.int i) (.int j)=some (.bl (decide (i<=j))):=nr rfl
theorem rk (i j:Int):C9 (.int i) (.int j)=some (.bl (decide (j < i))):=nr rfl
theorem qo (i j:Int):IZ (.int i) (.int j)=some (.bl (decide (j<=i))):=nr rfl
theorem mM (i:Int):DT (.int i)=some (.int (-i)):=nr rfl
theorem bE {i j:Int} (h:0 < j):bH (.int i) (.int j)=some (.int (i%j)):=by
 show (if decide (0 < j) then some (D.int (i%j)) else none)=_
 rw [decide_eq_true h]; rfl
theorem bJ {i j:Int} (h:0 < j) (h':j < 10 ^ 200):bT (.int i) (.int j)=some (.int (i / j)):=by
 show (if decide (0 < j/\j < 10 ^ 200) then some (D.int (i / j)) else none)=_
 rw [decide_eq_true ⟨h,h'⟩]; rfl
theorem ow {i j:Int} (h:-(2 ^ 64) < i) (h':i < 2 ^ 64):lh (.int i) (.int j)=some (.int (i*j)):=by
 show (if decide ((-(2 ^ 64) < i/\i < 2 ^ 64)\/(-(2 ^ 64) < j/\j < 2 ^ 64)) then some (D.int (i*j)) else none)=_
 rw [decide_eq_true (.inl ⟨h,h'⟩)]; rfl
theorem lJ {i j:Int} (h:-(2 ^ 64) < j) (h':j < 2 ^ 64):lh (.int i) (.int j)=some (.int (i*j)):=by
 show (if decide ((-(2 ^ 64) < i/\i < 2 ^ 64)\/(-(2 ^ 64) < j/\j < 2 ^ 64)) then some (D.int (i*j)) else none)=_
 rw [decide_eq_true (.inr ⟨h,h'⟩)]; rfl
theorem vz (i:Int) (n:Nat) (h:n<=1000000) (h':i.natAbs < 2 ^ 64):ju (.int i) (.int n)=some (.int (i ^ n)):=by
 show (if decide (0<=(n:Int)/\(n:Int)<=1000000/\i.natAbs < 2 ^ 64) then some (D.int (i ^ (n:Int).toNat)) else none)=_
 rw [decide_eq_true ⟨by omega,by omega,h'⟩]; rfl
theorem yZ:ju (.int 10) (.int 59)=some (.int (10 ^ 59)):=vz 10 59 (by decide) (by decide)
def ye:Int:=10 ^ 59
def Jf:Int:=10 ^ 60
theorem BU:1000000 < ye/\ye*10=Jf:=by decide +kernel
theorem vj:ju (.int 10) (.int 59)=some (.int ye):=yZ
theorem iK (i j:Int):eI (.int i) (.int j)=some (.bl (i==j)):=by unfold eI pyEq; rfl
theorem iI (i j:Str):eI (.str i) (.str j)=some (.bl (i==j)):=by unfold eI pyEq; rfl
theorem i5 (i j:Bool):eI (.bl i) (.bl j)=some (.bl (i==j)):=by unfold eI pyEq; rfl
theorem iF (i j:Int):pj (.int i) (.int j)=some (.bl (!(i==j))):=by unfold pj pyEq; rfl
theorem iM (i j:Str):pj (.str i) (.str j)=some (.bl (!(i==j))):=by unfold pj pyEq; rfl
theorem iX (i j:Bool):pj (.bl i) (.bl j)=some (.bl (!(i==j))):=by unfold pj pyEq; rfl
theorem CF {α:Type} (xs:List α) (n:Nat):ml xs (n:Int)=xs[n]?:=by
 unfold ml uE
 rw [if_pos ‹0›]
 by_cases h:n < xs.length
 ·rw [if_pos ‹0›]; rfl
 ·rw [if_neg ‹0›,KZ ‹0›]; rfl
theorem wX {α:Type} (a:α) (xs:List α):ml (a::xs) 0=some a:=CF (a::xs) 0
theorem w8 {α:Type} (a:α) (xs:List α) (n:Nat):ml (a::xs) ((n+1:Nat):Int)=ml xs (n:Int):=by
 rw [CF,CF,Kq]
theorem Fd (xs:List D) (i:Int):aw (.tup xs) (.int i)=ml xs i:=nr rfl
theorem zQ (xs:List D) (i:Int):aw (.lst xs) (.int i)=ml xs i:=nr rfl
theorem lL (a:D) (xs:List D):aw (.tup (a::xs)) (.int 0)=some a:=wX a xs
theorem qM (a b:D) (xs:List D):aw (.tup (a::b::xs)) (.int 1)=some b:=(w8 a _ 0).trans (wX b xs)
theorem rJ (a b c:D) (xs:List D):aw (.tup (a::b::c::xs)) (.int 2)=some c:=(w8 a _ 1).trans ((w8 b _ 0).trans (wX c xs))
theorem qw (a:D) (xs:List D):aw (.lst (a::xs)) (.int 0)=some a:=wX a xs
theorem qI (a b:D) (xs:List D):aw (.lst (a::b::xs)) (.int 1)=some b:=(w8 a _ 0).trans (wX b xs)
theorem rF (a b c:D) (xs:List D):aw (.lst (a::b::c::xs)) (.int 2)=some c:=(w8 a _ 1).trans ((w8 b _ 0).trans (wX c xs))
theorem iL (xs:List D):cQ [.lst xs]=some (.int xs.length):=nr rfl
theorem iW (xs:List D):cQ [.tup xs]=some (.int xs.length):=nr rfl
theorem e7 (xs:List D):cy [.lst xs]=some (.tup xs):=nr rfl
theorem fE (xs:List D):cy [.tup xs]=some (.tup xs):=nr rfl
theorem mR (b:Bool):G4 (.bl b)=some b:=nr rfl
theorem gK (i:Int):uN (.int i)=some (some i):=nr rfl
theorem fG (b:Bool):truth (.bl b)=some b:=nr rfl
theorem eZ (xs:List D):truth (.tup xs)=some (!xs.isEmpty):=nr rfl
theorem fw (xs:List D):truth (.lst xs)=some (!xs.isEmpty):=nr rfl
theorem mE (i j:Int):tW [.int i,.int j]=some (.int (if j > i then j else i)):=nr rfl
theorem nE (i j:Int):tP [.int i,.int j]=some (.int (if j < i then j else i)):=nr rfl
theorem fH (xs:List D):o8 (.lst xs)=some xs:=nr rfl
theorem fA (xs:List D):o8 (.tup xs)=some xs:=nr rfl
theorem i3 (k:R D):uP (.bl true) k=k:=nr rfl
theorem iP (k:R D):uP (.bl false) k=.ok (.bl false):=nr rfl
theorem kI (k:R D):Ek (.bl true) k=.ok (.bl true):=nr rfl
theorem kC (k:R D):Ek (.bl false) k=k:=nr rfl
theorem i7 (a b:Bool):uP (.bl a) (.ok (.bl b))=.ok (.bl (a && b)):=by cases a <;> rfl
theorem j5 (a b:Bool):Ek (.bl a) (.ok (.bl b))=.ok (.bl (a || b)):=by cases a <;> rfl
theorem nu (b:Bool):Ct (.bl b)=some (.bl (!b)):=nr rfl
theorem nA (xs:List D):CL (.lst xs)=some (.lst xs.reverse):=nr rfl
theorem e9 (n:Nat) (h:n < 2 ^ 62):jk [.int n]=some (eB 0 n):=by
 show (if okR (n:Int) then some (eB 0 ((n:Int).toNat)) else none)=_
 have:okR (n:Int)=true:=decide_eq_true ⟨by omega,by omega⟩
 rw [this]; rfl
theorem zY {xs:List D} (h:xs.length<=100000):js xs=some (.lst xs):=by unfold js; rw [cZ h]; rfl
theorem mj {α:Type} (f:α->D) (h:∀ a,pl (f a)=true):∀ xs:List α,fX (xs.map f)=true
 | []=>rfl
 | x::xs=>by
  show (pl (f x) && fX (xs.map f))=true
  rw [h,mj f h xs]; rfl
theorem Ba (f:Str->D) (hf:f=D.str) (w:Str) (ws:List Str):inD (.str w) (ws.map f)=ws.any fun y=>y==w:=by
 subst hf
 unfold inD
 rw [Ky]
 congr 1
theorem vY (w:Str) (ws:List Str):xT (.str w) (.tup (ws.map .str))=some (.bl (ws.contains w)):=by
 show (if (pl (.str w) && fX (ws.map .str)) && ck 8 (.str w) then some (D.bl (inD (.str w) (ws.map .str))) else none)=_
 rw [Ba _ rfl,mj _ fun _=>rfl]
 show some (D.bl _)=_
 congr 2
 induction ws with
 | nil=>rfl
 | cons x xs ih=>rw [JQ,Kw,ih,Bool.beq_comm]
theorem sC (w:Str) (ws:List Str):xT (.str w) (.lst (ws.map .str))=some (.bl (ws.contains w)):=vY w ws
theorem Ac (xs ys:List D) (h:xs.length+ys.length<=100000):bV (.lst xs) (.lst ys)=some (.lst (xs++ys)):=by
 show (if small (xs.length+ys.length) then some (D.lst (xs++ys)) else none)=_
 rw [cZ h]; rfl
theorem zo (xs ys:List D) (h:xs.length+ys.length<=100000):bV (.tup xs) (.tup ys)=some (.tup (xs++ys)):=by
 show (if small (xs.length+ys.length) then some (D.tup (xs++ys)) else none)=_
 rw [cZ h]; rfl
theorem jW (xs:List D) (lo hi:Option Int):sd (.lst xs) lo hi=some (.lst (cutD xs lo hi)):=nr rfl
theorem kA (xs:List D) (lo hi:Option Int):sd (.tup xs) lo hi=some (.tup (cutD xs lo hi)):=nr rfl
theorem dZ {ix:List (Option Nat)} {G:av->R (List D)} {g:GF} {C:av->R Bool} {Fe:FX} {ρ:av} {ds r:List D} (h1:G ρ=.ok ds) (h2:ds.length<=100000) (h3:yM (inB ix ρ) g C Fe ds=.ok r):iC ix G g C Fe ρ=.ok (.lst r):=by
 unfold iC
 rw [h1,fT,cZ h2,h3]; rfl
theorem fj {α:Type} {ρ:av} {g:GF} {C:av->R Bool} {Fe:FX} (mk:α->D) (p:α->Bool) (v:α->D):∀ xs:List α,(∀ a∈xs,∃ ρ1,g (mk a) ρ=some ρ1/\C ρ1=.ok (p a)/\Fe ρ1=.ok (v a)) ->
  yM ρ g C Fe (xs.map mk)=.ok ((xs.filter p).map v)
 | [],_=>rfl
 | a::xs,h=>by
  obtain⟨ρ1,h1,h2,h3⟩:=h a Jn
  rw [JO,tN,h1,fI,fT,h2,nJ,fT,h3,nJ,fT,fj mk p v xs fun b hb=>h b (Jo _ hb)]
  cases e:p a with
  | true=>rw [if_pos rfl,KJ e]; rfl
  | false=>rw [if_neg Jx,KN (by simp [e])]
theorem hJ {α:Type} {ρ:av} {g:GF} {C:av->R Bool} {Fe:FX} (mk:α->D) (v:α->D) (xs:List α) (h:∀ a∈xs,∃ ρ1,g (mk a) ρ=some ρ1/\C ρ1=.ok true/\Fe ρ1=.ok (v a)):yM ρ g C Fe (xs.map mk)=.ok (xs.map v):=by
 rw [fj mk (fun _=>true) v xs h,List.filter_eq_self.mpr fun _ _=>rfl]
theorem v9 {g:GF} {B:cc} {k:Ks} (Iv:Nat->av->Prop):∀ (ds:List D) (i:Nat) (ρ:av),(∀ j d ρ (k':Ks),i<=j->ds[j - i]?=some d->Iv j ρ->∃ ρ1 ρ2,g d ρ=some ρ1/\Iv (j+1) ρ2/\B k' ρ1=k'.nx ρ2)->Iv i ρ->∃ ρ',Iv (i+ds.length) ρ'/\gr g B k ds ρ=k.nx ρ'
 | [],i,ρ,_,h=>⟨ρ,h,rfl⟩
 | d::ds,i,ρ,st,h=>by
  obtain⟨ρ1,ρ2,e1,h2,e2⟩:=st i d ρ ⟨gr g B k ds,k.nx,gr g B k ds,k.ex⟩ (Jt _) (by rw [K1]; rfl) h
  obtain⟨ρ',h3,e3⟩:=v9 (g:=g) (B:=B) (k:=k) Iv ds (i+1) ρ2 (fun j d' ρ k' hj hd=>st j d' ρ k' ‹0› (by rw [show j - i=(j - (i+1))+1 by omega,Kq]; exact hd)) h2
  refine⟨ρ',?_,?_⟩
  ·rw [JT]
   have:i+(ds.length+1)=i+1+ds.length:=by omega
   rw [this]; exact h3
  ·show ((rO (g d ρ)).bind fun ρ1=>B ⟨gr g B k ds,k.nx,gr g B k ds,k.ex⟩ ρ1)=_
   rw [e1,fI,fT,e2]
   exact e3
theorem ji {g:GF} {B:cc} {k:Ks} {ds:List D} {ρ:av} {Q:R D->Prop} (Iv:Nat->av->Prop) (st:∀ i d ρ (k':Ks),ds[i]?=some d->Iv i ρ->∃ ρ1 ρ2,g d ρ=some ρ1/\Iv (i+1) ρ2/\B k' ρ1=k'.nx ρ2) (h:Iv 0 ρ) (q:∀ ρ',Iv ds.length ρ'->Q (k.nx ρ')):Q (gr g B k ds ρ):=by
 obtain⟨ρ',h1,e⟩:=v9 (k:=k) Iv ds 0 ρ (fun j d ρ k' _ hd=>st j d ρ k' hd) h
 rw [e]; rw [Kv] at h1; exact q ρ' h1
theorem gI {α:Type} {xs:List α} {i:Nat} {a:α} (h:xs[i]?=some a):i < xs.length:=by
 rcases Nat.lt_or_ge i xs.length with z | z
 ·exact z
 ·rw [KZ z] at h; cases h
theorem jg {α β:Type} (f:α->β) (xs:List α) (i:Int):ml (xs.map f) i=(ml xs i).map f:=by
 unfold ml
 rw [JI]
 cases uE xs.length i with
 | none=>rfl
 | some j=>simp
theorem jG {α:Type} {xs:List α} {k:Nat} (h:k < xs.length):ml xs (k:Int)=some xs[k]:=by
 unfold ml uE
 rw [if_pos ‹0›,if_pos ‹0›]
 simp [h]
theorem j3 {α:Type} {xs:List α} {i:Int} (h0:0<=i) (h:i < xs.length):ml xs i=some (xs[i.toNat]'‹0›):=by
 have e:i=((i.toNat:Nat):Int):=by omega
 conv=>lhs; rw [e]
 exact jG ‹0›
def BJ:cc:=aF (eY (fB (f2 lC (ai 1) (fL cQ (af (ai 0) (au))))) (bW (f2 aw (ai 0) (ai 1))) (bI)) (bW (fC (.int 0)))
theorem Bw (ns:List Int) (k:Nat):bp BJ 2 2 [.lst (ns.map .int),.int k]=.ok (.int (ns.getD k 0)):=by
 show (if decide ((k:Int) < ((ns.map D.int).length:Int)) then og (rO (ml (ns.map D.int) (k:Int))) _ _ .ok else .ok (.int 0))=_
 rw [JI]
 by_cases h:k < ns.length
 ·rw [if_pos (by simpa using h),jg,jG h,K2,KQ,J8 h]; rfl
 ·rw [if_neg (by simpa using h),KQ,KZ ‹0›]; rfl
theorem yz (ns:List Int) (i:Int) (h:0<=i):∃ c:Int,bp BJ 2 2 [.lst (ns.map .int),.int i]=.ok (.int c):=by
 have e:i=((i.toNat:Nat):Int):=by omega
 exact⟨ns.getD i.toNat 0,by rw [e]; exact Bw ns i.toNat⟩
theorem wj (x y:Str):(x++y).length=x.length+y.length:=by
 show (x.cps++y.cps).size=_
 rw [Array.size_append]; rfl
theorem fP (x y:Str) (h:x.length<=1000) (h':y.length<=1000):bV (.str x) (.str y)=some (.str (x++y)):=by
 show (if small (x.length+y.length) then some (D.str (x++y)) else none)=_
 rw [cZ ‹0›]; rfl
theorem lX (x:Str) (h:x.length<=1000) (i:Int) (h0:0<=i) (h1:i < x.length):∃ y:Str,y.length=1/\aw (.str x) (.int i)=some (.str y):=by
 have hl:x.cps.toList.length=x.length:=by simp [Str.length]
 have hi:i < x.cps.toList.length:=by omega
 refine⟨⟨#[x.cps.toList[i.toNat]'‹0›]⟩,rfl,?_⟩
 show (if small x.length then (ml x.cps.toList i).bind fun c=>some (D.str ⟨#[c]⟩) else none)=_
 rw [cZ ‹0›,if_pos rfl,j3 h0 hi]; rfl
theorem gJ (lo:Int) (n:Nat):eB lo n=(List.range n).map fun (k:Nat)=>D.int (lo+(k:Int)):=nr rfl
theorem cL (lo:Int) (n:Nat):(eB lo n).length=n:=by unfold eB; rw [JI,Kg]
theorem vE (ρ:av):tJ ρ=.ok (.dct [] []):=nr rfl
end TG
namespace TG
open PySem PySem.Spec L2
local macro_rules
 | `(tactic| simp! only [$xs,*])=>`(tactic| simp only [fT,rK,nS,rE,nJ,fI,ge_0,yc,mI,xQ,mS,ko,nH,nz,xY,xH,xZ,xm,wO,mH,mB,qQ,iB,j6,nG,kH,rj,nc,nD,kt,mq,iS,mY,iT,iD,gD,gC,mJ,jX,gE,kq,iJ,kz,jZ,gm,jV,iV,kW,kj,iz,hX,kK,ke,wK,qz,xJ,wJ,xn,ng,j8,m7,kJ,kF,xj,xV,K4,K5,JO,JN,J1,Kf,K0,env0,List.replicate,K6,JA,Kv,Nat.reduceAdd,Nat.reduceSub,JT,JU,nh,mU,qv,mL,my,mO,gF,nB,qJ,rk,qo,mM,iK,iI,i5,iF,iM,iX,lL,qM,rJ,qw,qI,rF,iL,iW,e7,fE,mR,gK,fG,eZ,fw,mE,nE,fH,fA,i3,iP,kI,kC,i7,j5,nu,nA,jW,kA,gN,if_true,if_false,K7,K8,JY,$xs,*])
theorem As (a b c:D):qZ [a,b,c]=some (.tup [a,b,c]):=nr rfl
theorem oo (a b:D):qZ [a,b]=some (.tup [a,b]):=nr rfl
theorem I0 (a:D):qZ [a]=some (.tup [a]):=nr rfl
theorem DY:qZ []=some (.tup []):=nr rfl
theorem Ea:js []=some (.lst []):=nr rfl
end TG
namespace TG
open PySem PySem.Spec L2
inductive F2 {α β:Type} (R:α->β->Prop):List α->List β->Prop where
 | nil:F2 R [] []
 | cons {a:α} {b:β} {as:List α} {bs:List β} (h:R a b) (t:F2 R as bs):F2 R (a::as) (b::bs)
end TG
namespace TD
open PySem PySem.Spec L2 TG TX
def bX:cc:=aF (eY (fB (f2 lC (ai 1) (fL cQ (af (ai 0) (au))))) (bW (f2 aw (ai 0) (ai 1))) (bI)) (bW (fC (.int 0)))
def bf:cc:=bW (f2 bH (f2 bV (f2 bV (f2 lh (ai 0) (ai 0)) (f2 lh (fC (.int 48271)) (ai 0))) (fC (.int 11))) (fC (.int 2147483647)))
def cH:cc:=aF (bB 2 (f2 bH (f2 bV (f2 bV (f2 bH (fR (bp bX 2 2) (af (ai 0) (af (ai 1) (au)))) (fC (.int 2147483647))) (f2 lh (f2 lh (fC (.int 69621)) (ai 1)) (ai 1))) (fC (.int 5))) (fC (.int 2147483647)))) (bW (fR (bp bf 1 1) (af (fR (bp bf 1 1) (af (ai 2) (au))) (au))))
def aN:cc:=aF (bB 2 (fC (.str "abcdefghijklmnopqrstuvwxyz"))) (aF (bB 1 (f2 bH (f2 bV (f2 lh (ai 1) (f2 aw (dU (af (fC (.int 1)) (af (fC (.int 5)) (af (fC (.int 7)) (af (fC (.int 11)) (af (fC (.int 13)) (af (fC (.int 23)) (au)))))))) (f2 bH (ai 0) (fC (.int 6))))) (f2 bT (ai 0) (fC (.int 6)))) (fC (.int 24)))) (aF (bB 0 (f2 bT (ai 0) (fC (.int 144)))) (aF (eY (fB (f2 eI (f2 bH (ai 0) (fC (.int 3))) (fC (.int 0)))) (bW (f2 ly (f2 aw (ai 2) (f2 bH (f2 bV (f2 bT (ai 0) (fC (.int 3))) (f2 bT (ai 1) (fC (.int 8)))) (fC (.int 26)))) (f2 bV (fC (.int 1)) (f2 bH (ai 1) (fC (.int 8)))))) (bI)) (aF (bB 3 (f2 bV (fC (.int 1)) (f2 bH (f2 bT (ai 0) (fC (.int 3))) (fC (.int 8))))) (aF (bB 4 (fC (.str ""))) (aF (lw (cX (af (ai 3) (au))) (gN 5) (aF (bB 6 (f2 bT (ai 0) (f2 bV (fC (.int 24)) (f2 lh (f2 lh (fC (.int 11)) (ai 5)) (ai 5))))) (aF (eY (fB (f2 eI (ai 5) (f2 bH (f2 bT (ai 0) (fC (.int 24))) (ai 3)))) (bB 6 (f2 bV (ai 6) (ai 1))) (bI)) (aF (bB 4 (f2 bV (ai 4) (f2 aw (ai 2) (f2 bH (ai 6) (fC (.int 26)))))) (dP [5,6] bI))))) (bW (ai 4))))))))
noncomputable def cv:cc:=aF (eY (fB (f2 lC (f2 bH (ai 0) (fC (.int 3))) (fC (.int 2)))) (aF (bB 1 (f2 aw (dU (af (fC (.int 0)) (af (zV (fC (.int 3))) (af (f2 pX (fC (.int 0)) (f2 bH (f2 ju (ai 0) (fC (.int 7))) (f2 ju (fC (.int 10)) (fC (.int 59))))) (af (f2 bH (f2 ju (ai 0) (fC (.int 7))) (f2 ju (fC (.int 10)) (fC (.int 59)))) (au)))))) (f2 bH (f2 bT (ai 0) (fC (.int 3))) (fC (.int 4))))) (bW (bh (af (fC (.str "number")) (af (ai 1) (af (f2 bV (ai 1) (f2 aw (dU (af (fC (.int 0)) (af (fC (.int 1)) (af (fC (.int 6)) (af (f2 ju (fC (.int 10)) (fC (.int 59))) (au)))))) (f2 bH (f2 bT (ai 0) (fC (.int 12))) (fC (.int 4))))) (au))))))) (bI)) (aF (bB 2 (fC (.str "abcdefghijklmnopqrstuvwxyz"))) (aF (bB 3 (f2 aw (ai 2) (f2 bH (f2 bT (ai 0) (fC (.int 3))) (fC (.int 26))))) (aF (bB 4 (f2 aw (ai 2) (f2 bH (f2 bT (ai 0) (fC (.int 78))) (fC (.int 26))))) (aF (bB 5 (dU (af (fC (.str "")) (af (ai 3) (af (ai 4) (af (f2 bV (ai 3) (ai 4)) (af (f2 bV (ai 4) (ai 3)) (af (f2 ly (ai 3) (fC (.int 8))) (af (f2 bV (ai 3) (ai 3)) (af (f2 ly (ai 4) (fC (.int 3))) (au))))))))))) (aF (lu 6 tJ) (dP [1,2,4] (aF (lw (cX (af (fC (.int 8)) (au))) (gN 7) (aF (eY (fB (f2 eI (f2 oN (f2 vo (f2 bT (ai 0) (fC (.int 2028))) (ai 7)) (fC (.int 1))) (fC (.int 1)))) (kQ 6 (f2 aw (ai 5) (ai 7)) (fC (.bl true))) (bI)) (dP [7] bI))) (aF (eY (et [6] (fB (f2 eI (fL rN (af (ai 6) (au))) (fC (.int 0))))) (kQ 6 (ai 3) (fC (.bl true))) (bI)) (ir 6 (bW (bh (af (fC (.str "word")) (af (fL cy (af (fL gd (af (fL jD (af (ai 6) (au))) (au))) (au))) (au))))))))))))))
end TD
namespace TD
open PySem PySem.Spec L2 TG
local macro_rules
 | `(tactic| simp! only [$xs,*])=>`(tactic| simp only [fT,rK,nS,rE,nJ,fI,ge_0,yc,mI,xQ,mS,ko,nH,nz,xY,xH,xZ,xm,wO,mH,mB,qQ,iB,j6,nG,kH,rj,nc,nD,kt,mq,iS,mY,iT,iD,gD,gC,mJ,jX,gE,kq,iJ,kz,jZ,gm,jV,iV,kW,kj,iz,hX,kK,ke,wK,qz,xJ,wJ,xn,ng,j8,m7,kJ,kF,xj,xV,K4,K5,JO,JN,J1,Kf,K0,env0,List.replicate,K6,JA,Kv,Nat.reduceAdd,Nat.reduceSub,JT,JU,nh,mU,qv,mL,my,mO,gF,nB,qJ,rk,qo,mM,iK,iI,i5,iF,iM,iX,lL,qM,rJ,qw,qI,rF,iL,iW,e7,fE,mR,gK,fG,eZ,fw,mE,nE,fH,fA,i3,iP,kI,kC,i7,j5,nu,nA,jW,kA,gN,if_true,if_false,K7,K8,JY,$xs,*])
theorem GI (ns:List Int) (i:Int) (h:0<=i):∃ c:Int,bp bX 2 2 [.lst (ns.map .int),.int i]=.ok (.int c):=yz ns i h
theorem CA {xs:List D} {i:Nat} {y:D} (h:i<=xs.length) (h':xs.length < 100000):uH xs [.int i,y]=some (xs.take i++y::xs.drop i):=by
 show (if decide (0<=(i:Int)/\(i:Int)<=xs.length) && small (xs.length+1) then some (xs.take (i:Int).toNat++y::xs.drop (i:Int).toNat) else none)=_
 rw [decide_eq_true ⟨by omega,by omega⟩,cZ ‹0›]; rfl
end TD
namespace TD
open PySem PySem.Spec L2 TG
local macro_rules
 | `(tactic| simp! only [$xs,*])=>`(tactic| simp only [fT,rK,nS,rE,nJ,fI,ge_0,yc,mI,xQ,mS,ko,nH,nz,xY,xH,xZ,xm,wO,mH,mB,qQ,iB,j6,nG,kH,rj,nc,nD,kt,mq,iS,mY,iT,iD,gD,gC,mJ,jX,gE,kq,iJ,kz,jZ,gm,jV,iV,kW,kj,iz,hX,kK,ke,wK,qz,xJ,wJ,xn,ng,j8,m7,kJ,kF,xj,xV,K4,K5,JO,JN,J1,Kf,K0,env0,List.replicate,K6,JA,Kv,Nat.reduceAdd,Nat.reduceSub,JT,JU,nh,mU,qv,mL,my,mO,gF,nB,qJ,rk,qo,mM,iK,iI,i5,iF,iM,iX,lL,qM,rJ,qw,qI,rF,iL,iW,e7,fE,mR,gK,fG,eZ,fw,mE,nE,fH,fA,i3,iP,kI,kC,i7,j5,nu,nA,jW,kA,gN,if_true,if_false,K7,K8,JY,$xs,*])
abbrev fld (p:Str×D):D:=.tup [.str p.1,p.2]
theorem wt:∀ bs:List Bool,anyB (bs.map .bl)=some (bs.any id)
 | []=>rfl
 | b::bs=>by
  show (anyB (bs.map .bl)).bind (fun c=>some (b || c))=_
  rw [wt bs]; rfl
theorem AZ (bs:List Bool):xD [.lst (bs.map .bl)]=some (.bl (bs.any id)):=by
 have e:xD [.lst (bs.map .bl)]=(anyB (bs.map .bl)).bind fun b=>some (D.bl b):=rfl
 rw [e,wt]; rfl
end TD
namespace T4
open PySem PySem.Spec L2 TG TD
local macro_rules
 | `(tactic| simp! only [$xs,*])=>`(tactic| simp only [fT,rK,nS,rE,nJ,fI,ge_0,yc,mI,xQ,mS,ko,nH,nz,xY,xH,xZ,xm,wO,mH,mB,qQ,iB,j6,nG,kH,rj,nc,nD,kt,mq,iS,mY,iT,iD,gD,gC,mJ,jX,gE,kq,iJ,kz,jZ,gm,jV,iV,kW,kj,iz,hX,kK,ke,wK,qz,xJ,wJ,xn,ng,j8,m7,kJ,kF,xj,xV,K4,K5,JO,JN,J1,Kf,K0,env0,List.replicate,K6,JA,Kv,Nat.reduceAdd,Nat.reduceSub,JT,JU,nh,mU,qv,mL,my,mO,gF,nB,qJ,rk,qo,mM,iK,iI,i5,iF,iM,iX,lL,qM,rJ,qw,qI,rF,iL,iW,e7,fE,mR,gK,fG,eZ,fw,mE,nE,fH,fA,i3,iP,kI,kC,i7,j5,nu,nA,jW,kA,gN,if_true,if_false,K7,K8,JY,$xs,*])
theorem zc {x:Str} {n:Int} (h:1<=n) (h':n<=1000) (hx:x.length<=1000):ly (.str x) (.int n)=some (.str (gV x n)):=by
 show (if decide (1<=n/\n<=1000/\x.length<=1000) then some (D.str (gV x n)) else none)=_
 rw [decide_eq_true ⟨h,h',hx⟩]; rfl
theorem ky (x:Int) (h0:0<=x) (h1:x < 2147483700):∃ y:Int,0<=y/\y < 2147483647/\bp bf 1 1 [.int x]=.ok (.int y):=by
 have m1:=ow (i:=x) (j:=x) ‹0› ‹0›
 have m2:=ow (i:=48271) (j:=x) (by decide) (by decide)
 have g:=fun i=>bE (i:=i) (show (0:Int) < 2147483647 by decide)
 refine⟨(x*x+48271*x+11)%2147483647,K9 _ (by decide),La _ (by decide),?_⟩
 rw [nF]; unfold bf
 simp! only [m1,m2,g]
theorem wv (ns:List Int) (k:Nat) (hk:k<=100):∃ y:Int,0<=y/\y < 2147483647/\bp cH 2 3 [.lst (ns.map .int),.int k]=.ok (.int y):=by
 obtain⟨c,ec⟩:=TD.GI ns k ‹0›
 have m1:=ow (i:=69621) (j:=(k:Int)) (by decide) (by decide)
 have m2:=lJ (i:=69621*(k:Int)) (j:=(k:Int)) ‹0› ‹0›
 have g:=fun i=>bE (i:=i) (show (0:Int) < 2147483647 by decide)
 obtain⟨y1,a1,b1,e1⟩:=ky ((c%2147483647+69621*(k:Int)*(k:Int)+5)%2147483647) (K9 _ (by decide)) (by have:=La (c%2147483647+69621*(k:Int)*(k:Int)+5) (show (0:Int) < 2147483647 by decide); omega)
 obtain⟨y2,a2,b2,e2⟩:=ky y1 a1 ‹0›
 refine⟨y2,a2,b2,?_⟩
 rw [gU]; unfold cH
 simp! only [ec,g,m1,m2,e1,e2]
def Flat (k:D):Prop:=∃ (x:Str) (r:List D),k=.tup (.str x::r)/\(x==("rows":Str))=false/\fX r=true
theorem sQ {i:Nat} {fk fv:FX} {k:Ks} {ρ:av} {al:List (Key×D)} {q:Key} {d v:D} (h:ρ[i]?=some (some (.own (tK al)))) (ek:fk ρ=.ok d) (hd:d=dE q) (ev:fv ρ=.ok v) (hl:al.length<=1000) :
  kQ i fk fv k ρ=k.nx (ρ.set i (some (.own (tK (oj al q v))))):=by
 subst hd
 have e:rg (fN al) (al.map (·.2)) (dE q) v=some (oj al q v):=by
  unfold rg
  rw [rm]
  show (keyOf (dE q)).bind _=_
  rw [jp]
  show (if small al.length then _ else _)=_
  rw [cZ ‹0›]; rfl
 unfold kQ
 rw [h]
 show og ((fv ρ).bind fun v=>(fk ρ).bind fun q=>rO (rg (fN al) (al.map (·.2)) q v)) k ρ _=_
 rw [ev,fT,ek,fT,e]; rfl
abbrev wC (ws:List Str):List (Key×D):=ws.map fun w=>((.inr w:Key),D.bl true)
abbrev wd (ws:List Str):D:=tK (wC ws)
def pT (ws:List Str) (w:Str):List Str:=if w∈ws then ws else ws++[w]
theorem uZ (ws:List Str) (w:Str):oj (wC ws) (.inr w) (.bl true)=wC (pT ws w):=by
 have e:((wC ws).any fun p=>decide (p.1=(.inr w:Key)))=decide (w∈ws):=by
  induction ws with
  | nil=>simp
  | cons a ws ih =>
   show (decide ((.inr a:Key)=.inr w) || (wC ws).any fun p=>decide (p.1=(.inr w:Key)))=_
   rw [ih]
   by_cases z:a=w
   ·subst z; simp
   ·have z':¬ (.inr a:Key)=.inr w:=fun q=>z (Sum.inr.inj q)
    have z2:¬ w=a:=fun q=>z q.symm
    simp [z',z2]
 unfold oj pT
 rw [e]
 by_cases h:w∈ws
 ·rw [if_pos (by simpa using h),if_pos h]
  show (ws.map _).map _=_
  rw [KR]
  refine KS fun a _=>?_
  show (if (.inr a:Key)=.inr w then ((.inr a:Key),D.bl true) else ((.inr a:Key),D.bl true))=_
  split <;> rfl
 ·rw [if_neg (by simpa using h),if_neg h]
  show _=(ws++[w]).map _
  rw [KU]; rfl
theorem sX {ws:List Str} (w:Str) (h:ws.Nodup):(pT ws w).Nodup:=by
 unfold pT
 split
 ·exact h
 ·rename_i z
  exact List.nodup_append.mpr ⟨h,List.nodup_cons.mpr ⟨by simp,JV⟩,fun a ha b hb e=>by
   rw [Lb] at hb
   subst hb e
   exact z ha⟩
theorem o6 (ws:List Str) (w:Str):(pT ws w).length<=ws.length+1:=by
 unfold pT
 split
 ·omega
 ·simp
theorem Ca (ws:List Str):fN (wC ws)=ws.map D.str:=by
 show (ws.map _).map _=_
 rw [KR]; rfl
theorem yN (ws:List Str):keysOf (fN (wC ws))=some (ws.map .inr):=by
 rw [show fN (wC ws)=(ws.map (.inr:Str->Key)).map dE from by rw [Ca,KR]; rfl]
 exact gX _
theorem AF (ws:List Str):rN [wd ws]=some (.int ws.length):=by
 show (keysOf (fN (wC ws))).bind _=_
 rw [yN]
 show some (D.int ((ws.map _).length:Int))=_
 rw [JI]
theorem ux (ws:List Str):jD [wd ws]=some (.lst (ws.map .str)):=by
 show (keysOf (fN (wC ws))).bind _=_
 rw [yN]
 show some (D.lst (fN (wC ws)))=_
 rw [Ca]
theorem FL (ws:List Str) (h:ws.Nodup) (hl:ws.length < 64):∃ zs:List D,gd [.lst (ws.map .str)]=some (.lst zs)/\fX zs=true:=by
 have pz:∀ zs:List D,zs.Perm (ws.map D.str)->fX zs=true:=fun zs p=>pE fun z hz=>by
  obtain⟨w,_,rfl⟩:=List.mem_map.mp (p.mem_iff.mp hz)
  rfl
 show ∃ zs,nW (ws.map .str)=_/\_
 unfold nW
 by_cases a:DA (ws.map .str)
 ·rw [if_pos a]; exact⟨_,rfl,pz _ (eA _ _)⟩
 ·have b:Dw (ws.map .str):=by
   refine⟨by rw [JI]; exact hl,false,fun x hx=>?_,?_⟩
   ·obtain⟨w,_,rfl⟩:=List.mem_map.mp hx
    exact .str w .nil
   ·rw [KP]
    refine h.imp fun hne e=>hne ?_
    have e:[D.str _]=[D.str _]:=e
    injection e with e _
    injection e
  rw [if_neg a,if_pos b]; exact⟨_,rfl,pz _ (eA _ _)⟩
theorem ca (is:List Nat) (f:av->R Bool) (ρ:av):et is f ρ=uy (f (frzs is ρ)):=nr rfl
theorem jc (i:Nat) (ρ:av):frzs [i] ρ=frz i ρ:=nr rfl
theorem y9 (i:Int) (k:Nat):vo (.int i) (.int k)=some (.int (i / 2 ^ k)):=by
 show (if decide (0<=(k:Int)) then some (D.int (i / 2 ^ (k:Int).toNat)) else none)=_
 rw [decide_eq_true ‹0›]; rfl
theorem sZ (i j:Int):oN (.int i) (.int j)=some (.int (Builtin.bitAnd i j)):=nr rfl
theorem FJ (a b c d:D):js [a,b,c,d]=some (.lst [a,b,c,d]):=nr rfl
theorem IG (a b c d e f g h:D):js [a,b,c,d,e,f,g,h]=some (.lst [a,b,c,d,e,f,g,h]):=nr rfl
theorem IK (a b c d:D) (i:Int) (h0:0<=i) (h1:i < 4):∃ x∈[a,b,c,d],aw (.lst [a,b,c,d]) (.int i)=some x:=by
 rcases(show i=0\/i=1\/i=2\/i=3 by omega) with z | z | z | z <;> subst z
 ·exact⟨a,by simp,rfl⟩
 ·exact⟨b,by simp,rfl⟩
 ·exact⟨c,by simp,rfl⟩
 ·exact⟨d,by simp,rfl⟩
theorem Dq:(("number":Str)==("rows":Str))=false:=by decide +kernel
theorem A7:(("word":Str)==("rows":Str))=false:=by decide +kernel
theorem pS (x:Int) (h0:0<=x) (h1:x < 2147483700):∃ d:D,bp cv 1 8 [.int x]=.ok d/\Flat d:=by
 have g3:=fun i=>bE (i:=i) (show (0:Int) < 3 by decide)
 have g4:=fun i=>bE (i:=i) (show (0:Int) < 4 by decide)
 have g26:=fun i=>bE (i:=i) (show (0:Int) < 26 by decide)
 have d3:=fun i=>bJ (i:=i) (show (0:Int) < 3 by decide) (show (3:Int) < 10 ^ 200 by decide)
 have d12:=fun i=>bJ (i:=i) (show (0:Int) < 12 by decide) (show (12:Int) < 10 ^ 200 by decide)
 have d78:=fun i=>bJ (i:=i) (show (0:Int) < 78 by decide) (show (78:Int) < 10 ^ 200 by decide)
 have d2028:=fun i=>bJ (i:=i) (show (0:Int) < 2028 by decide) (show (2028:Int) < 10 ^ 200 by decide)
 have p7:ju (.int x) (.int 7)=some (.int (x ^ 7)):=vz x 7 (by decide) ‹0›
 have pb:=BU
 have gp:=fun i=>bE (i:=i) (show (0:Int) < ye by omega)
 rw [nF]; unfold cv
 by_cases h:x%3 < 2
 ·have h':decide (x%3 < 2)=true:=decide_eq_true h
  obtain⟨v,hv,e1⟩:=IK (.int 0) (.int (-3)) (.int (0 - x ^ 7%ye)) (.int (x ^ 7%ye)) (x / 3%4) ‹0› ‹0›
  obtain⟨lo,rfl⟩:∃ lo:Int,v=.int lo:=by
   simp only [Kn,Lc,or_false] at hv
   rcases hv with rfl | rfl | rfl | rfl <;> exact⟨_,rfl⟩
  obtain⟨v,hv,e2⟩:=IK (.int 0) (.int 1) (.int 6) (.int ye) (x / 12%4) ‹0› ‹0›
  obtain⟨w,rfl⟩:∃ lo:Int,v=.int lo:=by
   simp only [Kn,Lc,or_false] at hv
   rcases hv with rfl | rfl | rfl | rfl <;> exact⟨_,rfl⟩
  refine⟨.tup [.str "number",.int lo,.int (lo+w)],?_,"number",[.int lo,.int (lo+w)],rfl,Dq,rfl⟩
  simp! only [g3,h',p7,vj,gp,FJ,d3,g4,e1,d12,e2,As]
 ·have h':decide (x%3 < 2)=false:=decide_eq_false h
  have LL:(("abcdefghijklmnopqrstuvwxyz":Str)).length=26:=by decide +kernel
  have L0:(("":Str)).length<=1000:=by decide +kernel
  generalize hL:("abcdefghijklmnopqrstuvwxyz":Str)=L at LL
  obtain⟨one,ho,e1⟩:=lX L ‹0› (x / 3%26) ‹0› ‹0›
  obtain⟨oth,hq,e2⟩:=lX L ‹0› (x / 78%26) ‹0› ‹0›
  have a1:=fP one oth ‹0› ‹0›
  have a2:=fP oth one ‹0› ‹0›
  have a3:=fP one one ‹0› ‹0›
  have m1:=zc (x:=one) (n:=8) (by decide) (by decide) ‹0›
  have m2:=zc (x:=oth) (n:=3) (by decide) (by decide) ‹0›
  have r8:jk [.int 8]=some (eB 0 8):=e9 8 (by decide)
  generalize hW:[D.str "",.str one,.str oth,.str (one++oth),.str (oth++one),.str (gV one 8),.str (one++one),.str (gV oth 3)]=W
  have W8:W.length=8:=by rw [<- hW]; rfl
  have Ws:∀ d∈W,∃ w:Str,d=.str w:=by
   rw [<- hW]
   intro d hd
   simp only [Kn,Lc,or_false] at hd
   rcases hd with rfl | rfl | rfl | rfl | rfl | rfl | rfl | rfl <;> exact⟨_,rfl⟩
  obtain⟨T,hT⟩:∃ T:cc,T=(aF (lw (cX (af (fC (.int 8)) (au))) (gN 7) (aF (eY (fB (f2 eI (f2 oN (f2 vo (f2 bT (ai 0) (fC (.int 2028))) (ai 7)) (fC (.int 1))) (fC (.int 1)))) (kQ 6 (f2 aw (ai 5) (ai 7)) (fC (.bl true))) (bI)) (dP [7] bI))) (aF (eY (et [6] (fB (f2 eI (fL rN (af (ai 6) (au))) (fC (.int 0))))) (kQ 6 (ai 3) (fC (.bl true))) (bI)) (ir 6 (bW (bh (af (fC (.str "word")) (af (fL cy (af (fL gd (af (fL jD (af (ai 6) (au))) (au))) (au))) (au)))))))):=⟨_,rfl⟩
  have fin:∀ ws:List Str,ws.Nodup->ws.length<=10->∃ d,ir 6 (bW (bh (af (fC (.str "word")) (af (fL cy (af (fL gd (af (fL jD (af (ai 6) (au))) (au))) (au))) (au))))) K0 [some (.val (.int x)),none,none,some (.val (.str one)),none,some (.val (.lst W)),some (.own (wd ws)),none]=.ok d/\Flat d:=fun ws nd hl=>by
   obtain⟨zs,ez,pz⟩:=FL ws nd ‹0›
   refine⟨.tup [.str "word",.tup zs],?_,"word",[.tup zs],rfl,A7,by show (pl (.tup zs) && fX [])=true; rw [ce,pz]; rfl⟩
   simp! only [ux,ez,oo]
  have key:∃ d,T K0 [some (.val (.int x)),none,none,some (.val (.str one)),none,some (.val (.lst W)),some (.own (.dct [] [])),none]=.ok d/\Flat d:=by
   rw [hT,gm,hX]
   simp! only [r8]
   refine ji (Q:=fun z=>∃ d,z=.ok d/\Flat d) (fun i ρ=>∃ ws:List Str,ws.Nodup/\ws.length<=i/\ρ=[some (.val (.int x)),none,none,some (.val (.str one)),none,some (.val (.lst W)),some (.own (wd ws)),none]) ?_ ⟨[],JV,Jt _,rfl⟩ ?_
   ·rintro i d ρ kk hd ⟨ws,nd,hl,rfl⟩
    have hi:=gI hd
    rw [cL] at hi
    have hdi:d=.int (i:Int):=by
     rw [gJ,JF,Kh hi] at hd
     cases hd; simp
    subst hdi
    obtain⟨w,ew⟩:=Ws (W[i]'‹0›) (KO _)
    have ix:aw (.lst W) (.int (i:Int))=some (.str w):=by
     rw [zQ,jG ‹0›,ew]
    have sh:=y9 (x / 2028) i
    cases hb:(Builtin.bitAnd (x / 2028 / 2 ^ i) 1==1) with
    | false =>
     refine⟨_,_,rfl,⟨ws,nd,by omega,rfl⟩,?_⟩
     simp! only [d2028,sh,sZ,hb]
    | true =>
     refine⟨_,_,rfl,⟨pT ws w,sX w nd,by have:=o6 ws w; omega,rfl⟩,?_⟩
     have pk:=fun k:Ks=>sQ (i:=6) (fk:=f2 aw (ai 5) (ai 7)) (fv:=fC (.bl true)) (k:=k) (ρ:=[some (.val (.int x)),none,none,some (.val (.str one)),none,some (.val (.lst W)),some (.own (wd ws)),some (.val (.int (i:Int)))]) (al:=wC ws) (q:=.inr w) (d:=.str w) (v:=.bl true) rfl (by simp! only [ix]) rfl rfl (by simp; omega)
     simp! only [d2028,sh,sZ,hb,pk,uZ]
   ·rintro ρ' ⟨ws,nd,hl,rfl⟩
    rw [cL] at hl
    have pt:et [6] (fB (f2 eI (fL rN (af (ai 6) (au))) (fC (.int 0)))) [some (.val (.int x)),none,none,some (.val (.str one)),none,some (.val (.lst W)),some (.own (wd ws)),none]=.ok (((ws.length:Int))==0):=by
     simp! only [ca,jc,AF]
    dsimp only
    rw [gm,kW,pt,nS]
    cases hb:((ws.length:Int)==0) with
    | false=>exact fin ws nd ‹0›
    | true =>
     have pk:=fun k:Ks=>sQ (i:=6) (fk:=ai 3) (fv:=fC (.bl true)) (k:=k) (ρ:=[some (.val (.int x)),none,none,some (.val (.str one)),none,some (.val (.lst W)),some (.own (wd ws)),none]) (al:=wC ws) (q:=.inr one) (d:=.str one) (v:=.bl true) rfl rfl rfl rfl (by simp; omega)
     rw [if_pos rfl,pk,uZ]
     exact fin (pT ws one) (sX one nd) (by have:=o6 ws one; omega)
  obtain⟨d,ed,fd⟩:=key
  have mW:js W=some (.lst W):=zY ‹0›
  refine⟨d,?_,fd⟩
  rw [<- hT]
  simp only [K0] at ed
  simp! only [hL,g3,h',d3,g26,e1,d78,e2,a1,a2,a3,m1,m2,hW,mW,vE,ed]
theorem CC (B:cc) (n:Nat) (a b c d e f:D):bp B 6 n [a,b,c,d,e,f]=B K0 (env0 n [a,b,c,d,e,f]):=nr rfl
abbrev fm (ps qs:List (Str×D)):D:=.tup [.tup (ps.map fld),.tup (qs.map fld)]
def GA (Kd:D->Prop) (ps qs:List (Str×D)):Prop:=ps.length<=8/\qs.length<=8/\(∀ p∈ps,Flat p.2)/\∀ p∈qs,Kd p.2
def K3:Nat->D->Prop
 | 0,d=>Flat d
 | n+1,d=>Flat d\/∃ (ps qs:List (Str×D)) (b:Bool),d=.tup [.str "rows",fm ps qs,.bl b]/\GA (K3 n) ps qs
theorem sf {k:D} (h:Flat k):pl k=true:=by
 obtain⟨x,r,rfl,_,e⟩:=h
 rw [ce]
 show (pl (.str x) && fX r)=true
 rw [e]; rfl
theorem CK {p:Str×D} (h:pl p.2=true):pl (fld p)=true:=by
 show pl (.tup [.str p.1,p.2])=true
 rw [ce]
 show (pl (.str p.1) && (pl p.2 && fX []))=true
 rw [h]; rfl
theorem wB {ps:List (Str×D)} (h:∀ p∈ps,pl p.2=true):fX (ps.map fld)=true:=pE fun z hz=>by
 obtain⟨p,hp,rfl⟩:=List.mem_map.mp hz
 exact CK (h p hp)
theorem Fp {ps qs:List (Str×D)} (h1:∀ p∈ps,pl p.2=true) (h2:∀ p∈qs,pl p.2=true):pl (fm ps qs)=true:=by
 show pl (.tup [.tup (ps.map fld),.tup (qs.map fld)])=true
 rw [ce]
 show (pl (.tup (ps.map fld)) && (pl (.tup (qs.map fld)) && fX []))=true
 rw [ce,ce,wB h1,wB h2]; rfl
theorem yx:∀ {n:Nat} {d:D},K3 n d->pl d=true
 | 0,d,h=>sf h
 | n+1,d,h=>by
  rcases h with h | ⟨ps,qs,b,rfl,F⟩
  ·exact sf h
  ·rw [ce]
   show (pl (.str "rows") && (pl (fm ps qs) && (pl (.bl b) && fX [])))=true
   rw [Fp (fun p hp=>sf (F.2.2.1 p hp)) (fun p hp=>yx (F.2.2.2 p hp))]; rfl
end T4
namespace T4
open PySem PySem.Spec L2 TG TD
local macro_rules
 | `(tactic| simp! only [$xs,*])=>`(tactic| simp only [fT,rK,nS,rE,nJ,fI,ge_0,yc,mI,xQ,mS,ko,nH,nz,xY,xH,xZ,xm,wO,mH,mB,qQ,iB,j6,nG,kH,rj,nc,nD,kt,mq,iS,mY,iT,iD,gD,gC,mJ,jX,gE,kq,iJ,kz,jZ,gm,jV,iV,kW,kj,iz,hX,kK,ke,wK,qz,xJ,wJ,xn,ng,j8,m7,kJ,kF,xj,xV,K4,K5,JO,JN,J1,Kf,K0,env0,List.replicate,K6,JA,Kv,Nat.reduceAdd,Nat.reduceSub,JT,JU,nh,mU,qv,mL,my,mO,gF,nB,qJ,rk,qo,mM,iK,iI,i5,iF,iM,iX,lL,qM,rJ,qw,qI,rF,iL,iW,e7,fE,mR,gK,fG,eZ,fw,mE,nE,fH,fA,i3,iP,kI,kC,i7,j5,nu,nA,jW,kA,gN,if_true,if_false,K7,K8,JY,$xs,*])
def LT:List Nat:=("abcdefghijklmnopqrstuvwxyz":Str).cps.toList
theorem zL:∀ a < 26,∀ b < 26,LT[a]?=LT[b]?->a=b:=by decide +kernel
def stp (b:Int):Int:=([1,5,7,11,13,23]:List Int).getD (b%6).toNat 0
def kk (b k:Int):Int:=(k*stp b+b / 6)%24
def jz (b:Int):Int:=b / 144 / 24%(1+b / 144 / 3%8)
def Cg (b k:Int) (w:Str):Prop :=
 (b / 144%3=0->w.length=(1+kk b k%8).toNat/\w.cps.toList[0]?=LT[((b / 144 / 3+kk b k / 8)%26).toNat]?) /\
 (b / 144%3≠0->w.cps.toList[(jz b).toNat]?=LT[((b / 144 / (24+11*jz b*jz b)+kk b k)%26).toNat]?)
theorem FO (b k:Int):0<=kk b k/\kk b k < 24:=⟨K9 _ (by decide),La _ (by decide)⟩
theorem Ds {b k1 k2:Int} (a1:0<=k1) (a2:k1 < 24) (b1:0<=k2) (b2:k2 < 24) (h:kk b k1=kk b k2):k1=k2:=by
 unfold kk stp at h
 rcases(show b%6=0\/b%6=1\/b%6=2\/b%6=3\/b%6=4\/b%6=5 by omega) with z | z | z | z | z | z <;> rw [z] at h <;> simp at h <;> omega
theorem wA {b k1 k2:Int} {w:Str} (a1:0<=k1) (a2:k1 < 24) (b1:0<=k2) (b2:k2 < 24) (h1:Cg b k1 w) (h2:Cg b k2 w):k1=k2:=by
 refine Ds (b:=b) a1 a2 b1 b2 ?_
 have q1:=FO b k1
 have q2:=FO b k2
 by_cases z:b / 144%3=0
 ·obtain⟨l1,e1⟩:=h1.1 z
  obtain⟨l2,e2⟩:=h2.1 z
  have:=zL _ ‹0› _ ‹0› (e1.symm.trans e2)
  omega
 ·have:=zL _ ‹0› _ ‹0› ((h1.2 z).symm.trans (h2.2 z))
  omega
theorem vl (x:Str) (h:x.length<=1000) (i:Int) (h0:0<=i) (h1:i < x.length):∃ y:Str,y.length=1/\y.cps.toList[0]?=x.cps.toList[i.toNat]?/\aw (.str x) (.int i)=some (.str y):=by
 have hl:x.cps.toList.length=x.length:=by simp [Str.length]
 have hi:i < x.cps.toList.length:=by omega
 have hn:i.toNat < x.cps.toList.length:=by omega
 refine⟨⟨#[x.cps.toList[i.toNat]'hn]⟩,rfl,?_,?_⟩
 ·rw [J8 hn]; rfl
 ·show (if small x.length then (ml x.cps.toList i).bind fun c=>some (D.str ⟨#[c]⟩) else none)=_
  rw [cZ ‹0›,if_pos rfl,j3 h0 hi]; rfl
theorem qL (c:Array Nat) (hc:0 < c.size):∀ (n:Nat) (a:Array Nat),((List.replicate n c).foldl (·++·) a).toList[0]?=if a.size=0 then (if n=0 then none else c.toList[0]?) else a.toList[0]?
 | 0,a=>by
  rw [K6,List.foldl_nil]
  split
  ·rename_i h; simp [h]
  ·rfl
 | n+1,a=>by
  rw [KC,List.foldl_cons,qL c hc n (a++c)]
  have:¬ (a++c).size=0:=by rw [Array.size_append]; omega
  rw [if_neg this,Array.toList_append]
  by_cases h:a.size=0
  ·rw [if_pos h,if_neg ‹0›,JC (by simp [h])]
   simp [h]
  ·rw [if_neg h,JE (by simp; omega)]
theorem yB {y:Str} {n:Int} (h:1<=n) (hy:y.length=1):(gV y n).cps.toList[0]?=y.cps.toList[0]?:=by
 unfold gV
 split
 ·rfl
 ·have hc:0 < y.cps.size:=by have:y.cps.size=1:=hy; omega
  rw [qL y.cps hc n.toNat #[]]
  split
  ·rw [if_neg ‹0›]
  ·rename_i z; exact absurd rfl z
theorem vP (x y:Str):(x++y).cps.toList=x.cps.toList++y.cps.toList:=by
 show (x.cps++y.cps).toList=_
 rw [Array.toList_append]
theorem so (x:Str):x.cps.toList.length=x.length:=by simp [Str.length]
theorem rR (b k:Int) (hb:0<=b) (hk:0<=k):∃ w:Str,bp aN 2 7 [.int b,.int k]=.ok (.str w)/\Cg b k w:=by
 have LL:(("abcdefghijklmnopqrstuvwxyz":Str)).length=26:=by decide +kernel
 have hLT:LT=("abcdefghijklmnopqrstuvwxyz":Str).cps.toList:=rfl
 generalize hL:("abcdefghijklmnopqrstuvwxyz":Str)=L at LL hLT
 have g3:=fun i=>bE (i:=i) (show (0:Int) < 3 by decide)
 have g6:=fun i=>bE (i:=i) (show (0:Int) < 6 by decide)
 have g8:=fun i=>bE (i:=i) (show (0:Int) < 8 by decide)
 have g24:=fun i=>bE (i:=i) (show (0:Int) < 24 by decide)
 have g26:=fun i=>bE (i:=i) (show (0:Int) < 26 by decide)
 have d3:=fun i=>bJ (i:=i) (show (0:Int) < 3 by decide) (show (3:Int) < 10 ^ 200 by decide)
 have d6:=fun i=>bJ (i:=i) (show (0:Int) < 6 by decide) (show (6:Int) < 10 ^ 200 by decide)
 have d8:=fun i=>bJ (i:=i) (show (0:Int) < 8 by decide) (show (8:Int) < 10 ^ 200 by decide)
 have d24:=fun i=>bJ (i:=i) (show (0:Int) < 24 by decide) (show (24:Int) < 10 ^ 200 by decide)
 have d144:=fun i=>bJ (i:=i) (show (0:Int) < 144 by decide) (show (144:Int) < 10 ^ 200 by decide)
 obtain⟨st,hst,hstp,est⟩:∃ st:Int,(0<=st/\st<=25)/\stp b=st/\aw (.lst [.int 1,.int 5,.int 7,.int 11,.int 13,.int 23]) (.int (b%6))=some (.int st):=by
  rcases(show b%6=0\/b%6=1\/b%6=2\/b%6=3\/b%6=4\/b%6=5 by omega) with z | z | z | z | z | z <;> rw [z]
  ·exact⟨1,by decide,by unfold stp; rw [z]; rfl,rfl⟩
  ·exact⟨5,by decide,by unfold stp; rw [z]; rfl,rfl⟩
  ·exact⟨7,by decide,by unfold stp; rw [z]; rfl,rfl⟩
  ·exact⟨11,by decide,by unfold stp; rw [z]; rfl,rfl⟩
  ·exact⟨13,by decide,by unfold stp; rw [z]; rfl,rfl⟩
  ·exact⟨23,by decide,by unfold stp; rw [z]; rfl,rfl⟩
 have l6:∀ a b c d e f:D,js [a,b,c,d,e,f]=some (.lst [a,b,c,d,e,f]):=fun _ _ _ _ _ _=>rfl
 have ms:=lJ (i:=k) (j:=st) ‹0› ‹0›
 have hkk:kk b k=(k*st+b / 6)%24:=by unfold kk; rw [hstp]
 generalize hk':(k*st+b / 6)%24=k' at hkk
 have k1:0<=k'/\k' < 24:=by omega
 have hP:∀ w,Cg b k w=((b / 144%3=0->w.length=(1+kk b k%8).toNat/\w.cps.toList[0]?=LT[((b / 144 / 3+kk b k / 8)%26).toNat]?)/\(b / 144%3≠0->w.cps.toList[(jz b).toNat]?=LT[((b / 144 / (24+11*jz b*jz b)+kk b k)%26).toNat]?)):=fun _=>rfl
 have hj:jz b=b / 144 / 24%(1+b / 144 / 3%8):=rfl
 generalize hb':b / 144=b' at hP hj
 generalize jz b=j0 at hP hj
 rw [hkk] at hP
 simp only [hP]
 have b0:0<=b':=by omega
 rw [gU]; unfold aN
 by_cases h:b'%3=0
 ·have h':(b'%3==0)=true:=by simp [h]
  obtain⟨y,hy,hy0,e1⟩:=vl L ‹0› ((b' / 3+k' / 8)%26) ‹0› ‹0›
  have mu:=zc (x:=y) (n:=1+k'%8) ‹0› ‹0› ‹0›
  refine⟨gV y (1+k'%8),?_,fun _=>⟨by rw [ub ‹0›,hy,Nat.mul_one],by rw [yB ‹0› hy,hy0,hLT]⟩,fun z=>absurd h z⟩
  simp! only [hL,g6,l6,est,ms,d6,g24,hk',d144,hb',g3,h',d3,d8,g26,e1,g8,mu]
 ·have h':(b'%3==0)=false:=by simp [h]
  obtain⟨n,hn,hn1,hn2⟩:∃ n:Nat,1+b' / 3%8=(n:Int)/\1<=n/\n<=8:=⟨(1+b' / 3%8).toNat,by omega,by omega,by omega⟩
  rw [hn] at hj
  have hj1:0<=j0/\j0 < (n:Int):=by rw [hj]; exact⟨K9 _ ‹0›,La _ ‹0›⟩
  have rn:=e9 n ‹0›
  obtain⟨T,hT⟩:∃ T:cc,T=(aF (lw (cX (af (ai 3) (au))) (gN 5) (aF (bB 6 (f2 bT (ai 0) (f2 bV (fC (.int 24)) (f2 lh (f2 lh (fC (.int 11)) (ai 5)) (ai 5))))) (aF (eY (fB (f2 eI (ai 5) (f2 bH (f2 bT (ai 0) (fC (.int 24))) (ai 3)))) (bB 6 (f2 bV (ai 6) (ai 1))) (bI)) (aF (bB 4 (f2 bV (ai 4) (f2 aw (ai 2) (f2 bH (ai 6) (fC (.int 26)))))) (dP [5,6] bI))))) (bW (ai 4))):=⟨_,rfl⟩
  have key:∃ w:Str,(w.cps.toList[j0.toNat]?=LT[((b' / (24+11*j0*j0)+k')%26).toNat]?)/\T K0 [some (.val (.int b')),some (.val (.int k')),some (.val (.str L)),some (.val (.int n)),some (.val (.str "")),none,none]=.ok (.str w):=by
   rw [hT,gm,hX]
   simp! only [rn]
   refine ji (Q:=fun z=>∃ w:Str,(w.cps.toList[j0.toNat]?=LT[((b' / (24+11*j0*j0)+k')%26).toNat]?)/\z=.ok (.str w)) (fun i ρ=>∃ w:Str,w.length=i/\(j0 < (i:Int)->w.cps.toList[j0.toNat]?=LT[((b' / (24+11*j0*j0)+k')%26).toNat]?)/\ρ=[some (.val (.int b')),some (.val (.int k')),some (.val (.str L)),some (.val (.int n)),some (.val (.str w)),none,none]) ?_ ?_ ?_
   ·rintro i d ρ kx hd ⟨w,hw,hw2,rfl⟩
    have hi:=gI hd
    rw [cL] at hi
    have hdi:d=.int (i:Int):=by
     rw [gJ,JF,Kh hi] at hd
     cases hd; simp
    subst hdi
    have m1:=ow (i:=11) (j:=(i:Int)) (by decide) (by decide)
    have m2:=lJ (i:=11*(i:Int)) (j:=(i:Int)) ‹0› ‹0›
    have ii:0<=11*(i:Int)*(i:Int):=Int.mul_nonneg ‹0› ‹0›
    have ii2:11*(i:Int)*(i:Int)<=11*8*8:=Int.mul_le_mul ‹0› ‹0› ‹0› (by decide)
    have dd:=fun z=>bJ (i:=z) (show (0:Int) < 24+11*(i:Int)*(i:Int) by omega) (show 24+11*(i:Int)*(i:Int) < 10 ^ 200 by
     have:(10:Int) ^ 200 > 10000:=by decide +kernel
     omega)
    have gn:=fun z=>bE (i:=z) (show (0:Int) < (n:Int) by omega)
    generalize hs:b' / (24+11*(i:Int)*(i:Int))=s
    by_cases hq:((i:Int)==b' / 24%(n:Int))=true
    ·obtain⟨y,hy,hy0,e1⟩:=vl L ‹0› ((s+k')%26) ‹0› ‹0›
     have ad:=fP w y ‹0› ‹0›
     refine⟨_,_,rfl,⟨w++y,by rw [wj]; omega,fun _=>?_,rfl⟩,?_⟩
     ·have eq:(i:Int)=b' / 24%(n:Int):=by simpa using hq
      rw [<- hj] at eq
      subst eq
      rw [vP,JC (by rw [so]; omega),so,hw,Kl,K1,hy0,hLT,<- hs]
     simp! only [m1,m2,dd,hs,d24,gn,hq,g26,e1,ad]
    ·have hq':((i:Int)==b' / 24%(n:Int))=false:=by simpa using hq
     obtain⟨y,hy,hy0,e1⟩:=vl L ‹0› (s%26) ‹0› ‹0›
     have ad:=fP w y ‹0› ‹0›
     refine⟨_,_,rfl,⟨w++y,by rw [wj]; omega,fun z=>?_,rfl⟩,?_⟩
     ·have ne:j0≠(i:Int):=fun q=>hq (by rw [<- q,<- hj]; simp)
      rw [vP,JE (by rw [so]; omega)]
      exact hw2 ‹0›
     simp! only [m1,m2,dd,hs,d24,gn,hq',g26,e1,ad]
   ·exact⟨"",by decide +kernel,fun z=>by omega,rfl⟩
   ·rintro ρ' ⟨w,hw,hw2,rfl⟩
    rw [cL] at hw2
    exact⟨w,hw2 ‹0›,by simp! only []⟩
  obtain⟨w,hw,ew⟩:=key
  refine⟨w,?_,fun z=>absurd z h,fun _=>hw⟩
  rw [<- hT]
  simp only [K0] at ew
  simp! only [hL,g6,l6,est,ms,d6,g24,hk',d144,hb',g3,h',d3,g8,hn,ew]
end T4
namespace Tk52
open PySem PySem.Spec L2 TG TX TD
def top (i:Nat):MQ:=PySem.Challenge.pw_twoglass_k52_joins_refused.main.body.getD i (.Pass ⟨0,0,0,0⟩)
abbrev eN:MQ:=top 38
theorem kR:bi ["_law_error","_law_marks","_law_some"] ["_law_error"] (aC eN):=‹2›
def cz:cc:=aF (bB 1 (dU (af (f1 (dX [("Twice",false),("NoKind",false),("Nothing",false),("TooMany",false)]) (ai 0)) (af (f1 (dX [("Twice",false),("NoKind",false),("Nothing",false),("TooMany",false)]) (ai 0)) (af (f1 (dX [("Twice",false),("NoKind",false),("Nothing",false),("TooMany",false)]) (ai 0)) (au)))))) (aF (bB 1 (f2 bV (ai 1) (dU (af (f1 (dX [("Twice",true),("NoKind",false),("Nothing",false),("TooMany",false)]) (ai 0)) (af (f1 (dX [("Twice",false),("NoKind",true),("Nothing",false),("TooMany",false)]) (ai 0)) (af (f1 (dX [("Twice",false),("NoKind",false),("Nothing",true),("TooMany",false)]) (ai 0)) (au))))))) (aF (bB 1 (f2 bV (ai 1) (dU (af (f1 (dX [("Twice",false),("NoKind",false),("Nothing",false),("TooMany",false)]) (ai 0)) (af (f1 (dX [("Twice",false),("NoKind",false),("Nothing",false),("TooMany",true)]) (ai 0)) (af (f1 (dX [("Twice",false),("NoKind",false),("Nothing",false),("TooMany",false)]) (ai 0)) (au))))))) (aF (lu 1 (f2 yD (ai 1) (dU (af (f1 (dX [("Twice",false),("NoKind",false),("Nothing",false),("TooMany",false)]) (ai 0)) (af (f1 (dX [("Twice",false),("NoKind",false),("Nothing",false),("TooMany",false)]) (ai 0)) (af (f1 (dX [("Twice",false),("NoKind",false),("Nothing",false),("TooMany",false)]) (ai 0)) (au))))))) (aF (oM 1 gx (af (f1 (dX [("Twice",false),("NoKind",false),("Nothing",false),("TooMany",false)]) (ai 0)) (au))) (ir 1 (aF (eY (Aq (fB (f2 pj (uY (ai 1) (af (fC (.bl true)) (au))) (fC (.int 1)))) (Bq (mw (f1 (dX [("Twice",true),("NoKind",true),("Nothing",true),("TooMany",true)]) (ai 0))))) (bW (fC (.str "odd"))) (bI)) (aF (bB 2 (dU (af (fC (.str "form")) (af (fC (.str "table")) (af (fC (.str "field")) (af (fC (.str "twice")) (af (fC (.str "kind")) (af (fC (.str "nothing")) (af (fC (.str "key")) (af (fC (.str "many")) (af (fC (.str "blind")) (af (fC (.str "torn")) (af (fC (.str "stale")) (af (fC (.str "pane")) (au))))))))))))))) (bW (f2 aw (f2 bV (ai 2) (dU (af (fC (.str "text")) (au)))) (uG (ai 1) (af (fC (.bl true)) (au))))))))))))
abbrev dG:MQ:=inClass (top 22) 1
theorem lW:bi ["self","one","other"] ["self","one","other"] (aC dG):=‹2›
def cB:cc:=bW (ai 1)
abbrev gh:MQ:=top 19
theorem qc:bi ["one","other","words"] ["one","other"] (aC gh):=‹2›
def eW:cc:=aF (bB 2 (fL cy (af (iC [none,some 1] (bQ (f2 aw (ai 0) (fC (.int 1)))) (gN 0) (fB (f2 xT (ai 0) (f2 aw (ai 1) (fC (.int 1))))) (ai 0)) (au)))) (bW (Fc (mw (ai 2)) (bh (af (fC (.str "word")) (af (ai 2) (au)))) (fC .non)))
abbrev eU:MQ:=top 18
theorem n8:bi ["one","other","low","high"] ["one","other"] (aC eU):=‹2›
def dy:cc:=aF (bB 2 (fL tW (af (f2 aw (ai 0) (fC (.int 1))) (af (f2 aw (ai 1) (fC (.int 1))) (au))))) (aF (bB 3 (fL tP (af (f2 aw (ai 0) (fC (.int 2))) (af (f2 aw (ai 1) (fC (.int 2))) (au))))) (bW (Fc (fB (f2 IP (ai 2) (ai 3))) (bh (af (fC (.str "number")) (af (ai 2) (af (ai 3) (au))))) (fC .non))))
abbrev sN:MQ:=top 17
theorem Be:bi ["one","other"] ["one","other"] (aC sN):=‹2›
def mK:cc:=aF (eY (fB (f2 pj (f2 aw (ai 0) (fC (.int 0))) (f2 aw (ai 1) (fC (.int 0))))) (bW (fC .non)) (bI)) (aF (eY (fB (f2 eI (f2 aw (ai 0) (fC (.int 0))) (fC (.str "number")))) (bW (fR (bp dy 2 4) (af (ai 0) (af (ai 1) (au))))) (bI)) (aF (eY (fB (f2 eI (f2 aw (ai 0) (fC (.int 0))) (fC (.str "word")))) (bW (fR (bp eW 2 3) (af (ai 0) (af (ai 1) (au))))) (bI)) (bW (fC .non))))
abbrev gf:MQ:=top 24
theorem qi:bi ["one","other","kinds"] ["one","other"] (aC gf):=‹2›
def dL:cc:=aF (eY (fB (f2 pj (iC [none] (bQ (ai 0)) (gN 0) (cP) (f2 aw (ai 0) (fC (.int 0)))) (iC [none] (bQ (ai 1)) (gN 0) (cP) (f2 aw (ai 0) (fC (.int 0)))))) (jI "NoKind" (af (fC (.str "the keys have not the same names in the same order")) (au))) (bI)) (aF (eY (fB (f2 pj (iC [none] (bQ (ai 0)) (gN 0) (cP) (f2 aw (f2 aw (ai 0) (fC (.int 1))) (fC (.int 0)))) (iC [none] (bQ (ai 1)) (gN 0) (cP) (f2 aw (f2 aw (ai 0) (fC (.int 1))) (fC (.int 0)))))) (jI "NoKind" (af (fC (.str "two kinds of one name are not of the same sort")) (au))) (bI)) (aF (bB 2 (iC [none,none] (rW (af (ai 0) (af (ai 1) (au)))) (gT 2 (fJ [0,1])) (cP) (fR (bp mK 2 2) (af (f2 aw (ai 0) (fC (.int 1))) (af (f2 aw (ai 1) (fC (.int 1))) (au)))))) (aF (eY (fB (f2 xT (fC .non) (ai 2))) (jI "Nothing" (af (fC (.str "of some field no value is in both")) (au))) (bI)) (bW (fL cy (af (iC [none,none] (rW (af (ai 0) (af (ai 2) (au)))) (gT 2 (fJ [0,1])) (cP) (bh (af (f2 aw (ai 0) (fC (.int 0))) (af (ai 1) (au))))) (au)))))))
abbrev dI:MQ:=inClass (top 23) 1
theorem lG:bi ["self","one","other","key","names"] ["self","one","other"] (aC dI):=‹2›
def bb:cc:=aF (bB 3 (fR (bp dL 2 3) (af (f2 aw (ai 1) (fC (.int 0))) (af (f2 aw (ai 2) (fC (.int 0))) (au))))) (aF (bB 4 (iC [none] (bQ (f2 aw (ai 1) (fC (.int 1)))) (gN 0) (cP) (f2 aw (ai 0) (fC (.int 0))))) (aF (eY (mw (fL xD (af (iC [none,some 4] (bQ (f2 aw (ai 2) (fC (.int 1)))) (gN 0) (cP) (f2 xT (f2 aw (ai 0) (fC (.int 0))) (ai 1))) (au)))) (jI "Twice" (af (fC (.str "a name is in both rests")) (au))) (bI)) (aF (eY (fB (f2 C9 (f2 bV (fL cQ (af (f2 aw (ai 1) (fC (.int 1))) (au))) (fL cQ (af (f2 aw (ai 2) (fC (.int 1))) (au)))) (fC (.int 8)))) (jI "TooMany" (af (fC (.str "the rest would have more than 8 fields")) (au))) (bI)) (bW (bh (af (ai 3) (af (f2 bV (f2 aw (ai 1) (fC (.int 1))) (f2 aw (ai 2) (fC (.int 1)))) (au))))))))
abbrev gg:MQ:=top 40
theorem pZ:bi ["_law_one","_law_other","_law_found_here","e"] ["_law_one","_law_other"] (aC gg):=‹2›
def bU:cc:=aF (bB 2 (fC (.str "none"))) (aF (AO ["Twice","NoKind","Nothing","TooMany"] 3 (wa (qW "view_form" [("Pair",(bp cB 3 3)),("Join",(bp bb 3 5))] (fC (.obj "Join" [] [])) (af (ai 0) (af (ai 1) (au))))) (bB 2 (fR (Aw (bp cz 1 3)) (af (ai 3) (au))))) (bW (ai 2)))
abbrev eS:MQ:=top 35
theorem ou:bi ["_law_one","_law_other"] ["_law_one","_law_other"] (aC eS):=‹2›
def cR:cc:=aF (eY (fB (f2 eI (f2 aw (ai 0) (fC (.int 0))) (fC (.str "number")))) (bW (bh (af (fC (.str "number")) (af (fL tW (af (f2 aw (ai 0) (fC (.int 1))) (af (f2 aw (ai 1) (fC (.int 1))) (au)))) (af (fL tP (af (f2 aw (ai 0) (fC (.int 2))) (af (f2 aw (ai 1) (fC (.int 2))) (au)))) (au)))))) (bI)) (bW (bh (af (fC (.str "word")) (af (fL cy (af (iC [none,some 1] (bQ (f2 aw (ai 0) (fC (.int 1)))) (gN 0) (fB (f2 xT (ai 0) (f2 aw (ai 1) (fC (.int 1))))) (ai 0)) (au))) (au)))))
abbrev i9:MQ:=top 39
theorem t7:bi ["_law_one","_law_other","_law_first","_law_last","_law_meet","_law_names"] ["_law_one","_law_other"] (aC i9):=‹2›
def fu:cc:=aF (eY (fB (f2 pj (iC [none,none] (bQ (f2 aw (ai 0) (fC (.int 0)))) (gT 2 (fJ [0,1])) (cP) (ai 0)) (iC [none,none] (bQ (f2 aw (ai 1) (fC (.int 0)))) (gT 2 (fJ [0,1])) (cP) (ai 0)))) (bW (fC (.str "kind"))) (bI)) (aF (lw (rW (af (f2 aw (ai 0) (fC (.int 0))) (af (f2 aw (ai 1) (fC (.int 0))) (au)))) (gT 2 (fJ [2,3])) (aF (eY (fB (f2 pj (f2 aw (f2 aw (ai 2) (fC (.int 1))) (fC (.int 0))) (f2 aw (f2 aw (ai 3) (fC (.int 1))) (fC (.int 0))))) (bW (fC (.str "kind"))) (bI)) (dP [2,3] bI))) (dP [2,3] (aF (lw (rW (af (f2 aw (ai 0) (fC (.int 0))) (af (f2 aw (ai 1) (fC (.int 0))) (au)))) (gT 2 (fJ [2,3])) (aF (bB 4 (fR (bp cR 2 2) (af (f2 aw (ai 2) (fC (.int 1))) (af (f2 aw (ai 3) (fC (.int 1))) (au))))) (aF (eY (Aq (kU (fB (f2 eI (f2 aw (ai 4) (fC (.int 0))) (fC (.str "number")))) (fB (f2 C9 (f2 aw (ai 4) (fC (.int 1))) (f2 aw (ai 4) (fC (.int 2)))))) (fB (f2 eI (ai 4) (bh (af (fC (.str "word")) (af (bh (au)) (au))))))) (bW (fC (.str "nothing"))) (bI)) (dP [2,3,4] bI)))) (aF (bB 5 (iC [none,none] (bQ (f2 aw (ai 0) (fC (.int 1)))) (gT 2 (fJ [0,1])) (cP) (ai 0))) (aF (eY (fB (f2 pj (iC [none,none,some 5] (bQ (f2 aw (ai 1) (fC (.int 1)))) (gT 2 (fJ [0,1])) (fB (f2 xT (ai 0) (ai 2))) (ai 0)) (dU (au)))) (bW (fC (.str "twice"))) (bI)) (aF (eY (fB (f2 C9 (f2 bV (fL cQ (af (f2 aw (ai 0) (fC (.int 1))) (au))) (fL cQ (af (f2 aw (ai 1) (fC (.int 1))) (au)))) (fC (.int 8)))) (bW (fC (.str "many"))) (bI)) (bW (fC (.str "none")))))))))
abbrev gq:MQ:=top 41
theorem qd:bi ["_law_kind_here","_law_x","_law_letters"] ["_law_kind_here","_law_x"] (aC gq):=‹2›
def cV:cc:=aF (eY (fB (f2 eI (f2 aw (ai 0) (fC (.int 0))) (fC (.str "number")))) (bW (bh (af (fC (.str "number")) (af (f2 bV (f2 aw (ai 0) (fC (.int 2))) (fC (.int 1))) (af (f2 bV (f2 bV (f2 aw (ai 0) (fC (.int 2))) (fC (.int 1))) (f2 bH (ai 1) (fC (.int 9)))) (au)))))) (bI)) (aF (bB 2 (fC (.str "abcdefghijklmnopqrstuvwxyz"))) (bW (bh (af (fC (.str "word")) (af (bh (af (f2 ly (f2 aw (ai 2) (f2 bH (ai 1) (fC (.int 26)))) (fC (.int 7))) (au))) (au))))))
abbrev ic:MQ:=top 29
theorem su:bi ["_law_base","_law_k","_law_letters","_law_size","_law_name_here","_law_j","_law_step"] ["_law_base","_law_k"] (aC ic):=‹2›
abbrev eJ:MQ:=top 42
theorem oa:bi ["_law_one","_law_other","_law_base","_law_x","_law_key","_law_rest","_law_at","_law_way","_law_names","_law_spare","_law_k"] ["_law_one","_law_other","_law_base","_law_x"] (aC eJ):=‹2›
def dC:cc:=aF (lu 4 (fL nY (af (f2 aw (ai 1) (fC (.int 0))) (au)))) (aF (lu 5 (fL nY (af (f2 aw (ai 1) (fC (.int 1))) (au)))) (aF (bB 6 (md [4] (f2 bH (f2 bT (ai 3) (fC (.int 8))) (fL cQ (af (ai 4) (au)))))) (aF (bB 7 (f2 bH (ai 3) (fC (.int 8)))) (aF (bB 8 (kZ [4,5] (iC [none,none] (bQ (f2 bV (ai 4) (ai 5))) (gT 2 (fJ [0,1])) (cP) (ai 0)))) (aF (bB 9 (iC [none,some 2,some 8] (cX (af (fC (.int 24)) (au))) (gN 0) (fB (f2 jo (fR (bp aN 2 7) (af (ai 1) (af (ai 0) (au)))) (ai 2))) (fR (bp aN 2 7) (af (ai 1) (af (ai 0) (au)))))) (aF (eY (et [4] (kU (fB (f2 eI (ai 7) (fC (.int 0)))) (fB (f2 C9 (fL cQ (af (ai 4) (au))) (fC (.int 1)))))) (oM 4 mG (af (ai 6) (au))) (bI)) (aF (eY (et [4] (kU (fB (f2 eI (ai 7) (fC (.int 1)))) (fB (f2 lC (fL cQ (af (ai 4) (au))) (fC (.int 8)))))) (oM 4 uH (af (f2 bV (ai 6) (f2 bH (f2 bT (ai 3) (fC (.int 64))) (fC (.int 2)))) (af (bh (af (f2 aw (ai 9) (f2 bH (f2 bT (ai 3) (fC (.int 128))) (fL cQ (af (ai 9) (au))))) (af (bh (af (fC (.str "number")) (af (fC (.int 0)) (af (fC (.int 5)) (au))))) (au)))) (au)))) (bI)) (aF (eY (fB (f2 eI (ai 7) (fC (.int 2)))) (jF 4 (ai 6) (bh (af (f2 aw (ai 9) (f2 bH (f2 bT (ai 3) (fC (.int 128))) (fL cQ (af (ai 9) (au))))) (af (f2 aw (jv 4 (ai 6)) (fC (.int 1))) (au))))) (bI)) (aF (eY (fB (f2 eI (ai 7) (fC (.int 3)))) (oM 4 xU au) (bI)) (aF (eY (fB (f2 eI (ai 7) (fC (.int 4)))) (jF 4 (ai 6) (bh (af (f2 aw (jv 4 (ai 6)) (fC (.int 0))) (af (f2 aw (dU (af (bh (af (fC (.str "number")) (af (fC (.int 0)) (af (fC (.int 9)) (au))))) (af (bh (af (fC (.str "word")) (af (bh (af (fC (.str "")) (af (fC (.str "a")) (au)))) (au)))) (au)))) (fL nQ (af (f2 eI (f2 aw (f2 aw (jv 4 (ai 6)) (fC (.int 1))) (fC (.int 0))) (fC (.str "number"))) (au)))) (au))))) (bI)) (aF (eY (fB (f2 eI (ai 7) (fC (.int 5)))) (jF 4 (ai 6) (bh (af (f2 aw (jv 4 (ai 6)) (fC (.int 0))) (af (fR (bp cV 2 3) (af (f2 aw (f2 aw (f2 aw (ai 0) (fC (.int 0))) (f2 bH (ai 6) (fL cQ (af (f2 aw (ai 0) (fC (.int 0))) (au))))) (fC (.int 1))) (af (f2 bT (ai 3) (fC (.int 64))) (au)))) (au))))) (bI)) (aF (eY (et [5] (kU (fB (f2 eI (ai 7) (fC (.int 6)))) (kU (fB (f2 pj (f2 aw (ai 0) (fC (.int 1))) (bh (au)))) (kU (fB (f2 lC (fL cQ (af (ai 5) (au))) (fC (.int 8)))) (fB (f2 jo (f2 aw (f2 aw (f2 aw (ai 0) (fC (.int 1))) (f2 bH (f2 bT (ai 3) (fC (.int 64))) (fL cQ (af (f2 aw (ai 0) (fC (.int 1))) (au))))) (fC (.int 0))) (ai 8))))))) (oM 5 gx (af (f2 aw (f2 aw (ai 0) (fC (.int 1))) (f2 bH (f2 bT (ai 3) (fC (.int 64))) (fL cQ (af (f2 aw (ai 0) (fC (.int 1))) (au))))) (au))) (bI)) (aF (eY (fB (f2 eI (ai 7) (fC (.int 7)))) (dP [0,2,6,7,8] (lw (cX (af (f2 bH (f2 bT (ai 3) (fC (.int 64))) (fC (.int 9))) (au))) (gN 10) (aF (eY (et [5] (fB (f2 lC (fL cQ (af (ai 5) (au))) (fC (.int 8))))) (oM 5 gx (af (md [5] (bh (af (f2 aw (ai 9) (f2 pX (fL cQ (af (ai 5) (au))) (fL cQ (af (f2 aw (ai 1) (fC (.int 1))) (au))))) (af (bh (af (fC (.str "word")) (af (bh (af (fC (.str "")) (af (fC (.str "b")) (au)))) (au)))) (au))))) (au))) (bI)) (dP [10] bI)))) (bI)) (ir 5 (ir 4 (bW (bh (af (fL cy (af (ai 4) (au))) (af (fL cy (af (ai 5) (au))) (au))))))))))))))))))))
abbrev gY:MQ:=top 27
theorem sW:bi ["_law_x"] ["_law_x"] (aC gY):=‹2›
abbrev eV:MQ:=top 26
theorem ot:bi ["_law_script","_law_k"] ["_law_script","_law_k"] (aC eV):=‹2›
abbrev ia:MQ:=top 28
theorem rV:bi ["_law_script","_law_k","_law_x"] ["_law_script","_law_k"] (aC ia):=‹2›
abbrev gv:MQ:=top 30
theorem qe:bi ["_law_x","_law_low","_law_letters","_law_one","_law_other","_law_some","_law_kept","_law_k"] ["_law_x"] (aC gv):=‹2›
abbrev fQ:MQ:=top 31
theorem rX:bi ["_law_x","_law_base","_law_deep","_law_inner"] ["_law_x","_law_base","_law_deep"] (aC fQ):=‹2›
abbrev fV:MQ:=top 32
theorem sK:bi ["_law_x","_law_base","_law_start","_law_many","_law_more","_law_deep","_law_key","_law_rest","_law_k"] ["_law_x","_law_base","_law_start","_law_many","_law_more","_law_deep"] (aC fV):=‹2›
noncomputable def fO (aS aJ:List D->R D):cc:=aF (eY (Aq (fB (f2 eI (ai 2) (fC (.int 0)))) (fB (f2 lC (f2 bH (ai 0) (fC (.int 3))) (fC (.int 2))))) (bW (fR (bp cv 1 8) (af (f2 bT (ai 0) (fC (.int 3))) (au)))) (bI)) (aF (bB 3 (fR aJ (af (f2 bT (ai 0) (fC (.int 3))) (af (ai 1) (af (f2 bH (f2 bT (ai 0) (fC (.int 36))) (fC (.int 12))) (af (f2 bV (fC (.int 1)) (f2 bH (f2 bT (ai 0) (fC (.int 3))) (fC (.int 2)))) (af (f2 bH (f2 bT (ai 0) (fC (.int 6))) (fC (.int 3))) (af (f2 pX (ai 2) (fC (.int 1))) (au))))))))) (bW (bh (af (fC (.str "rows")) (af (ai 3) (af (f2 eI (f2 bH (f2 bT (ai 0) (fC (.int 18))) (fC (.int 2))) (fC (.int 1))) (au)))))))
noncomputable def hV (aS aJ:List D->R D):cc:=aF (lu 6 (dU (au))) (aF (lu 7 (dU (au))) (aF (lw (cX (af (f2 bV (ai 3) (ai 4)) (au))) (gN 8) (aF (bB 0 (fR (bp bf 1 1) (af (ai 0) (au)))) (aF (eY (fB (f2 lC (ai 8) (ai 3))) (oM 6 gx (af (bh (af (fR (bp aN 2 7) (af (ai 1) (af (f2 bV (ai 2) (ai 8)) (au)))) (af (fR (bp cv 1 8) (af (ai 0) (au))) (au)))) (au))) (oM 7 gx (af (bh (af (fR (bp aN 2 7) (af (ai 1) (af (f2 bV (ai 2) (ai 8)) (au)))) (af (fR aS (af (ai 0) (af (ai 1) (af (ai 5) (au))))) (au)))) (au)))) (dP [8] bI)))) (ir 7 (ir 6 (bW (bh (af (fL cy (af (ai 6) (au))) (af (fL cy (af (ai 7) (au))) (au)))))))))
mutual
noncomputable def aS:Nat->List D->R D
 | 0=>fun _=>un
 | n+1=>bp (fO (aS n) (aJ n)) 3 4
noncomputable def aJ:Nat->List D->R D
 | 0=>fun _=>un
 | n+1=>bp (hV (aS n) (aJ n)) 6 9
end
theorem dJ (n:Nat):aS (n+1)=bp (fO (aS n) (aJ n)) 3 4:=by rw [aS]
theorem jP:∀ n:Nat,Ar 3 (aS n)
 | 0=>fun _ h=>absurd (by rw [aS]) h
 | n+1=>by rw [dJ]; exact bc
theorem fe (n:Nat):aJ (n+1)=bp (hV (aS n) (aJ n)) 6 9:=by rw [aJ]
theorem eT:∀ n:Nat,Ar 6 (aJ n)
 | 0=>fun _ h=>absurd (by rw [aJ]) h
 | n+1=>by rw [fe]; exact bc
abbrev dq:MQ:=top 33
theorem li:bi ["_law_x","_law_letters","_law_one","_law_other","_law_kept","_law_word"] ["_law_x"] (aC dq):=‹2›
noncomputable def cK:cc:=aF (bB 1 (fC (.str "abcdefghijklmnopqrstuvwxyz"))) (aF (bB 2 (f2 aw (ai 1) (f2 bH (ai 0) (fC (.int 26))))) (aF (bB 3 (f2 aw (ai 1) (f2 bH (f2 bT (ai 0) (fC (.int 26))) (fC (.int 26))))) (aF (lu 4 tJ) (dP [0,1] (aF (lw (bQ (dU (af (fC (.str "")) (af (ai 2) (af (ai 3) (af (f2 bV (ai 2) (ai 3)) (af (f2 bV (ai 3) (ai 2)) (af (f2 ly (ai 2) (fC (.int 8))) (af (f2 bV (ai 2) (ai 2)) (af (f2 ly (ai 3) (fC (.int 3))) (au))))))))))) (gN 5) (aF (kQ 4 (ai 5) (fC (.bl true))) (dP [5] bI))) (ir 4 (bW (fL gd (af (fL jD (af (ai 4) (au))) (au))))))))))
abbrev dF:MQ:=top 34
theorem mh:bi ["_law_x","_law_y","_law_low","_law_wide","_law_far","_law_one","_law_other","_law_some","_law_spare"] ["_law_x"] (aC dF):=‹2›
noncomputable def cT:cc:=aF (bB 1 (fR (bp bf 1 1) (af (ai 0) (au)))) (aF (bB 2 (f2 aw (dU (af (fC (.int 0)) (af (zV (fC (.int 3))) (af (f2 pX (fC (.int 0)) (f2 bH (f2 ju (ai 1) (fC (.int 7))) (f2 ju (fC (.int 10)) (fC (.int 59))))) (af (f2 bH (f2 ju (ai 1) (fC (.int 7))) (f2 ju (fC (.int 10)) (fC (.int 59)))) (au)))))) (f2 bH (f2 bT (ai 0) (fC (.int 3))) (fC (.int 4))))) (aF (bB 3 (f2 aw (dU (af (fC (.int 0)) (af (fC (.int 1)) (af (fC (.int 6)) (af (f2 ju (fC (.int 10)) (fC (.int 59))) (au)))))) (f2 bH (f2 bT (ai 0) (fC (.int 12))) (fC (.int 4))))) (aF (bB 4 (f2 bH (f2 ju (ai 1) (fC (.int 7))) (f2 bV (ai 3) (fC (.int 1))))) (aF (bB 5 (bh (af (fC (.str "number")) (af (ai 2) (af (f2 bV (ai 2) (ai 3)) (au)))))) (aF (bB 6 (bh (af (fC (.str "number")) (af (f2 bV (ai 2) (ai 4)) (af (f2 bV (f2 bV (ai 2) (ai 4)) (f2 aw (dU (af (fC (.int 0)) (af (fC (.int 2)) (af (fC (.int 9)) (af (f2 ju (fC (.int 10)) (fC (.int 59))) (au)))))) (f2 bH (f2 bT (ai 0) (fC (.int 48))) (fC (.int 4))))) (au)))))) (aF (eY (fB (f2 eI (f2 bH (ai 0) (fC (.int 3))) (fC (.int 2)))) (aF (bB 7 (fR (bp cK 1 6) (af (f2 bT (ai 0) (fC (.int 3))) (au)))) (aF (bB 8 (f2 aw (ai 7) (f2 bH (ai 1) (fL cQ (af (ai 7) (au)))))) (aF (bB 5 (bh (af (fC (.str "word")) (af (fL cy (af (iC [none,none,some 8,some 1] (fz (af (ai 7) (au))) (gT 2 (fJ [0,1])) (Aq (fB (f2 eI (ai 1) (ai 2))) (fB (f2 eI (f2 oN (f2 vo (f2 bT (ai 3) (fC (.int 9))) (ai 0)) (fC (.int 1))) (fC (.int 1))))) (ai 1)) (au))) (au))))) (bB 6 (bh (af (fC (.str "word")) (af (fL cy (af (iC [none,none,some 8,some 1] (fz (af (ai 7) (au))) (gT 2 (fJ [0,1])) (Aq (fB (f2 eI (ai 1) (ai 2))) (fB (f2 eI (f2 oN (f2 vo (f2 bT (ai 3) (fC (.int 3000))) (ai 0)) (fC (.int 1))) (fC (.int 1))))) (ai 1)) (au))) (au)))))))) (bI)) (aF (eY (fB (f2 eI (f2 bH (f2 bT (ai 0) (fC (.int 200))) (fC (.int 2))) (fC (.int 1)))) (bW (bh (af (ai 6) (af (ai 5) (au))))) (bI)) (bW (bh (af (ai 5) (af (ai 6) (au))))))))))))
abbrev eh:MQ:=top 36
theorem mr:bi ["_law_x","_law_base","_law_many","_law_one","_law_other","_law_k","_law_kinds"] ["_law_x","_law_base","_law_many"] (aC eh):=‹2›
noncomputable def cY:cc:=aF (lu 3 (dU (au))) (aF (lu 4 (dU (au))) (aF (lw (cX (af (ai 2) (au))) (gN 5) (aF (bB 0 (fR (bp bf 1 1) (af (ai 0) (au)))) (aF (bB 6 (fR (bp cT 1 9) (af (ai 0) (au)))) (aF (oM 3 gx (af (bh (af (fR (bp aN 2 7) (af (ai 1) (af (ai 5) (au)))) (af (f2 aw (ai 6) (fC (.int 0))) (au)))) (au))) (aF (oM 4 gx (af (bh (af (fR (bp aN 2 7) (af (ai 1) (af (ai 5) (au)))) (af (f2 aw (ai 6) (fC (.int 1))) (au)))) (au))) (dP [5,6] bI)))))) (ir 4 (ir 3 (bW (bh (af (fL cy (af (ai 3) (au))) (af (fL cy (af (ai 4) (au))) (au)))))))))
abbrev cO:MQ:=top 37
theorem jT:bi ["_law_script","_law_x","_law_base","_law_keys","_law_deep","_law_more","_law_first","_law_last"] ["_law_script"] (aC cO):=‹2›
noncomputable def cp:cc:=aF (bB 1 (fR (bp cH 2 3) (af (ai 0) (af (fC (.int 0)) (au))))) (aF (bB 2 (f2 bH (f2 lh (fR (bp bX 2 2) (af (ai 0) (af (fC (.int 1)) (au)))) (fC (.int 48271))) (fC (.int 2147483647)))) (aF (bB 3 (fR (bp cY 3 7) (af (fR (bp bf 1 1) (af (ai 1) (au))) (af (ai 2) (af (f2 aw (dU (af (fC (.int 1)) (af (fC (.int 2)) (af (fC (.int 1)) (af (fC (.int 3)) (af (fC (.int 2)) (af (fC (.int 1)) (af (fC (.int 2)) (af (f2 bV (fC (.int 1)) (f2 bH (f2 bT (ai 1) (fC (.int 64))) (fC (.int 8)))) (au)))))))))) (f2 bH (ai 1) (fC (.int 8)))) (au)))))) (aF (bB 4 (f2 aw (dU (af (fC (.int 0)) (af (fC (.int 0)) (af (fC (.int 1)) (af (fC (.int 2)) (au)))))) (f2 bH (f2 bT (ai 1) (fC (.int 8))) (fC (.int 4))))) (aF (bB 5 (dU (af (f2 bH (f2 bT (ai 1) (fC (.int 512))) (fC (.int 4))) (af (f2 bH (f2 bT (ai 1) (fC (.int 2048))) (fC (.int 4))) (au))))) (aF (eY (fB (f2 eI (f2 bH (f2 bT (ai 1) (fC (.int 32))) (fC (.int 8))) (fC (.int 3)))) (aF (bB 5 (dU (af (f2 bH (f2 bT (ai 1) (fC (.int 512))) (fC (.int 9))) (af (f2 pX (fC (.int 8)) (f2 bH (f2 bT (ai 1) (fC (.int 512))) (fC (.int 9)))) (au))))) (bB 4 (fC (.int 0)))) (bI)) (aF (bB 6 (f2 aw (fR (aJ 12) (af (f2 bV (fR (bp bf 1 1) (af (ai 1) (au))) (fC (.int 1))) (af (ai 2) (af (fC (.int 8)) (af (fC (.int 0)) (af (f2 aw (ai 5) (fC (.int 0))) (af (ai 4) (au)))))))) (fC (.int 1)))) (aF (bB 7 (f2 aw (fR (aJ 12) (af (f2 bV (fR (bp bf 1 1) (af (ai 1) (au))) (fC (.int 2))) (af (ai 2) (af (fC (.int 16)) (af (fC (.int 0)) (af (f2 aw (ai 5) (fC (.int 1))) (af (ai 4) (au)))))))) (fC (.int 1)))) (bW (bh (af (bh (af (f2 aw (ai 3) (fC (.int 0))) (af (ai 6) (au)))) (af (bh (af (f2 aw (ai 3) (fC (.int 1))) (af (ai 7) (au)))) (au))))))))))))
abbrev o5:MQ:=top 43
theorem C5:bi ["_law_script","_law_one","_law_other","_law_base","_law_spoiled_here","_law_k"] ["_law_script"] (aC o5):=‹2›
noncomputable def pM:cc:=aF (AW (fR (bp cp 1 8) (af (ai 0) (au))) (gT 2 (fJ [1,2]))) (aF (bB 3 (f2 bH (f2 lh (fR (bp bX 2 2) (af (ai 0) (af (fC (.int 1)) (au)))) (fC (.int 48271))) (fC (.int 2147483647)))) (aF (eY (fB (f2 pj (fR (bp bU 2 4) (af (ai 1) (af (ai 2) (au)))) (fC (.str "none")))) (bW (fC (.bl false))) (bI)) (aF (bB 4 (ai 2)) (aF (lw (cX (af (f2 bH (fR (bp bX 2 2) (af (ai 0) (af (fC (.int 2)) (au)))) (fC (.int 3))) (au))) (gN 5) (aF (bB 4 (fR (bp dC 4 11) (af (ai 1) (af (ai 4) (af (ai 3) (af (fR (bp cH 2 3) (af (ai 0) (af (f2 bV (fC (.int 3)) (ai 5)) (au)))) (au))))))) (dP [5] bI))) (aF (eY (fB (f2 pj (fR (bp bU 2 4) (af (ai 1) (af (ai 4) (au)))) (fR (bp fu 2 6) (af (ai 1) (af (ai 4) (au)))))) (bW (fC (.bl false))) (bI)) (bW (wl (f2 eI (fR (bp bU 2 4) (af (ai 4) (af (ai 1) (au)))) (fR (bp fu 2 6) (af (ai 4) (af (ai 1) (au))))) (f2 eI (fR (bp bU 2 4) (af (ai 1) (af (ai 2) (au)))) (fC (.str "none"))))))))))
theorem HQ:(["word","other"]:List Str).Nodup:=by decide +kernel
theorem G3:(["field"]:List Str).Nodup:=by decide +kernel
theorem HS:(["field"]:List Str).Nodup:=by decide +kernel
theorem Id:(["field"]:List Str).Nodup:=by decide +kernel
theorem Ia:(["field"]:List Str).Nodup:=by decide +kernel
theorem AK:(["field","twin"]:List Str).Nodup:=by decide +kernel
theorem EV:(["field","kind"]:List Str).Nodup:=by decide +kernel
theorem EG:(["field"]:List Str).Nodup:=by decide +kernel
theorem Hi:(["field","names"]:List Str).Nodup:=by decide +kernel
theorem Ih:(["_law_word","_law_other"]:List Str).Nodup:=by decide +kernel
theorem BI:(["_law_name_here","_law_kind_here"]:List Str).Nodup:=by decide +kernel
theorem B1:(["_law_name_here","_law_kind_here"]:List Str).Nodup:=by decide +kernel
theorem wo:(["_law_name_here","_law_kind_here"]:List Str).Nodup:=by decide +kernel
theorem Ck:(["_law_name_here","_law_kind_here","_law_names"]:List Str).Nodup:=by decide +kernel
theorem Cq:(["_law_name_here","_law_kind_here"]:List Str).Nodup:=by decide +kernel
theorem B4:(["_law_k","_law_base","_law_names"]:List Str).Nodup:=by decide +kernel
theorem BK:(["_law_k","_law_word","_law_spare","_law_y"]:List Str).Nodup:=by decide +kernel
theorem Cb:(["_law_k","_law_word","_law_spare","_law_y"]:List Str).Nodup:=by decide +kernel
section
variable {P:ME} {w:MD} {K:Lj} {mg:Str->Option MC} {base:MG}
theorem p3 {f:MF} (gB:bR K mg "NoField" [("Twice",false),("NoKind",false),("Nothing",false),("TooMany",false)]) (gH:bR K mg "NoTable" [("Twice",false),("NoKind",false),("Nothing",false),("TooMany",false)]) (iU:bR K mg "NoForm" [("Twice",false),("NoKind",false),("Nothing",false),("TooMany",false)]) (gG:bR K mg "Nothing" [("Twice",false),("NoKind",false),("Nothing",true),("TooMany",false)]) (iN:bR K mg "NoKind" [("Twice",false),("NoKind",true),("Nothing",false),("TooMany",false)]) (kn:bR K mg "Twice" [("Twice",true),("NoKind",false),("Nothing",false),("TooMany",false)]) (kB:bR K mg "Blind" [("Twice",false),("NoKind",false),("Nothing",false),("TooMany",false)]) (gA:bR K mg "TooMany" [("Twice",false),("NoKind",false),("Nothing",false),("TooMany",true)]) (kg:bR K mg "NoKey" [("Twice",false),("NoKind",false),("Nothing",false),("TooMany",false)]) (iH:bR K mg "NoPane" [("Twice",false),("NoKind",false),("Nothing",false),("TooMany",false)]) (jY:bR K mg "Stale" [("Twice",false),("NoKind",false),("Nothing",false),("TooMany",false)]) (mZ:bR K mg "Torn" [("Twice",false),("NoKind",false),("Nothing",false),("TooMany",false)]) (iY:bR K mg "NoText" [("Twice",false),("NoKind",false),("Nothing",false),("TooMany",false)]) (V_ValueError:p5 K (.type "ValueError") [("Twice",true),("NoKind",true),("Nothing",true),("TooMany",true)]) (aE:mg "isinstance"=none) (dM:mg "ValueError"=none):dr P w K mg base 0 ["_law_error","_law_marks","_law_some"] "_law_which" eN f cz :=
 ⟨fun cdv A outer s H E hr hp=>(ao (aD (i:=1) kR.nd rfl ‹1› (bK (aa (bu iU rfl aE rfl (ae (xv 0))) (aa (bu gH rfl aE rfl (ae (xv 0))) (aa (bu gB rfl aE rfl (ae (xv 0))) (aj)))))) (ao (aD (i:=1) kR.nd rfl ‹1› (ak aO aq (ae (xv 1)) (bK (aa (bu kn rfl aE rfl (ae (xv 0))) (aa (bu iN rfl aE rfl (ae (xv 0))) (aa (bu gG rfl aE rfl (ae (xv 0))) (aj))))))) (ao (aD (i:=1) kR.nd rfl ‹1› (ak aO aq (ae (xv 1)) (bK (aa (bu kg rfl aE rfl (ae (xv 0))) (aa (bu gA rfl aE rfl (ae (xv 0))) (aa (bu kB rfl aE rfl (ae (xv 0))) (aj))))))) (ao (fK (i:=1) kR.nd rfl ‹1› (vW (ae (xv 1)) (bK (aa (bu mZ rfl aE rfl (ae (xv 0))) (aa (bu jY rfl aE rfl (ae (xv 0))) (aa (bu iH rfl aE rfl (ae (xv 0))) (aj))))))) (ao (ip MA MB dN eD (xv 1) (aa (bu iY rfl aE rfl (ae (xv 0))) (aj))) (dW 1 (ao (bA (Ao (mX (aH (gS hr.units) aq (rQ hr.units (ae (xv 1)) (aa (jj) (aj))) (ah) (aV _)) (kE (wu (kr (qT V_ValueError rfl aE rfl dM PyProof.Rows.Boot.«ValueError» (ae (xv 0)))))))) (ay (aR (aA))) (aG)) (ao (aD (i:=2) kR.nd rfl ‹1› (bK (aa (aA) (aa (aA) (aa (aA) (aa (aA) (aa (aA) (aa (aA) (aa (aA) (aa (aA) (aa (aA) (aa (aA) (aa (aA) (aa (aA) (aj))))))))))))))) (ay (aR (ax (ak aO aq (ae (xv 2)) (bK (aa (aA) (aj)))) (qt hr.units (ae (xv 1)) (aa (jj) (aj))) (fun _ _=>rfl))))))))))))⟩
theorem oK {f:MF} (gB:bR K mg "NoField" [("Twice",false),("NoKind",false),("Nothing",false),("TooMany",false)]) (gH:bR K mg "NoTable" [("Twice",false),("NoKind",false),("Nothing",false),("TooMany",false)]) (iU:bR K mg "NoForm" [("Twice",false),("NoKind",false),("Nothing",false),("TooMany",false)]) (gG:bR K mg "Nothing" [("Twice",false),("NoKind",false),("Nothing",true),("TooMany",false)]) (iN:bR K mg "NoKind" [("Twice",false),("NoKind",true),("Nothing",false),("TooMany",false)]) (kn:bR K mg "Twice" [("Twice",true),("NoKind",false),("Nothing",false),("TooMany",false)]) (kB:bR K mg "Blind" [("Twice",false),("NoKind",false),("Nothing",false),("TooMany",false)]) (gA:bR K mg "TooMany" [("Twice",false),("NoKind",false),("Nothing",false),("TooMany",true)]) (kg:bR K mg "NoKey" [("Twice",false),("NoKind",false),("Nothing",false),("TooMany",false)]) (iH:bR K mg "NoPane" [("Twice",false),("NoKind",false),("Nothing",false),("TooMany",false)]) (jY:bR K mg "Stale" [("Twice",false),("NoKind",false),("Nothing",false),("TooMany",false)]) (mZ:bR K mg "Torn" [("Twice",false),("NoKind",false),("Nothing",false),("TooMany",false)]) (iY:bR K mg "NoText" [("Twice",false),("NoKind",false),("Nothing",false),("TooMany",false)]) (V_ValueError:p5 K (.type "ValueError") [("Twice",true),("NoKind",true),("Nothing",true),("TooMany",true)]) (aE:mg "isinstance"=none) (dM:mg "ValueError"=none):zt P w K mg base 0 ["_law_error","_law_marks","_law_some"] "_law_which" eN f cz :=
 ⟨fun cdv A outer s H E hr hp=>(ao (aD (i:=1) kR.nd rfl ‹1› (bK (aa (bu iU rfl aE rfl (ae (xv 0))) (aa (bu gH rfl aE rfl (ae (xv 0))) (aa (bu gB rfl aE rfl (ae (xv 0))) (aj)))))) (ao (aD (i:=1) kR.nd rfl ‹1› (ak aO aq (ae (xv 1)) (bK (aa (bu kn rfl aE rfl (ae (xv 0))) (aa (bu iN rfl aE rfl (ae (xv 0))) (aa (bu gG rfl aE rfl (ae (xv 0))) (aj))))))) (ao (aD (i:=1) kR.nd rfl ‹1› (ak aO aq (ae (xv 1)) (bK (aa (bu kg rfl aE rfl (ae (xv 0))) (aa (bu gA rfl aE rfl (ae (xv 0))) (aa (bu kB rfl aE rfl (ae (xv 0))) (aj))))))) (ao (fK (i:=1) kR.nd rfl ‹1› (vW (ae (xv 1)) (bK (aa (bu mZ rfl aE rfl (ae (xv 0))) (aa (bu jY rfl aE rfl (ae (xv 0))) (aa (bu iH rfl aE rfl (ae (xv 0))) (aj))))))) (ao (ip MA MB dN eD (xv 1) (aa (bu iY rfl aE rfl (ae (xv 0))) (aj))) (dW 1 (ao (bA (Ao (mX (aH (gS hr.units) aq (rQ hr.units (ae (xv 1)) (aa (jj) (aj))) (ah) (aV _)) (kE (wu (kr (qT V_ValueError rfl aE rfl dM PyProof.Rows.Boot.«ValueError» (ae (xv 0)))))))) (ay (aR (aA))) (aG)) (ao (aD (i:=2) kR.nd rfl ‹1› (bK (aa (aA) (aa (aA) (aa (aA) (aa (aA) (aa (aA) (aa (aA) (aa (aA) (aa (aA) (aa (aA) (aa (aA) (aa (aA) (aa (aA) (aj))))))))))))))) (ay (aR (ax (ak aO aq (ae (xv 2)) (bK (aa (aA) (aj)))) (qt hr.units (ae (xv 1)) (aa (jj) (aj))) (fun _ _=>rfl))))))))))))⟩
theorem lD {f:MF} :dr P w K mg base 0 ["self","one","other"] "Pair.view_form" dG f cB :=
 ⟨fun cdv A outer s H E hr hp=>(ay (aR (ae (xv 1))))⟩
theorem qa {f:MF} (bj:mg "tuple"=none):dr P w K mg base 0 ["one","other","words"] "both_words" gh f eW :=
 ⟨fun cdv A outer s H E hr hp=>(ao (aD (i:=2) qc.nd rfl ‹1› (bP bY rfl bj Mp (aa (dj (N:=["word","other"]) (ix:=[none,some 1]) rfl (.of rfl) (cU rfl) (cN (ax (ae (xv 0)) (ah) (fun _ _=>rfl))) ⟨fun _ _ _ _ _ _=>⟨aI (i:=0) HQ rfl (Or.inl rfl),gR (aH (pJ hr.units) aq (ae (xv 0)) (ax (ae (xv 1)) (ah) (fun _ _=>rfl)) rfl),ae (xv 0)⟩⟩) (aj)))) (ay (aR (yr (kr (ae (xv 2))) (aX (aa (aA) (aa (ae (xv 2)) (aj)))) (lN)))))⟩
theorem om {f:MF} (rq:mg "max"=none) (qE:mg "min"=none):dr P w K mg base 0 ["one","other","low","high"] "both_numbers" eU f dy :=
 ⟨fun cdv A outer s H E hr hp=>(ao (aD (i:=2) n8.nd rfl ‹1› (bd (oJ rfl) rfl rq Mq (aa (ax (ae (xv 0)) (ah) (fun _ _=>rfl)) (aa (ax (ae (xv 1)) (ah) (fun _ _=>rfl)) (aj))))) (ao (aD (i:=3) n8.nd rfl ‹1› (bd (pK rfl) rfl qE Mr (aa (ax (ae (xv 0)) (ah) (fun _ _=>rfl)) (aa (ax (ae (xv 1)) (ah) (fun _ _=>rfl)) (aj))))) (ay (aR (yr (aH Fw iE (ae (xv 2)) (ae (xv 3)) (aV _)) (aX (aa (aA) (aa (ae (xv 2)) (aa (ae (xv 3)) (aj))))) (lN))))))⟩
theorem A9 {f:MF} (gQ:Callee P w K mg base 1 "both_numbers" ["one","other"] (bp dy 2 4)) (jd:Callee P w K mg base 1 "both_words" ["one","other"] (bp eW 2 3)):dr P w K mg base 1 ["one","other"] "both" sN f mK :=
 ⟨fun cdv A outer s H E hr hp=>(ao (bA (aH (gS hr.units) aq (ax (ae (xv 0)) (ah) (fun _ _=>rfl)) (ax (ae (xv 1)) (ah) (fun _ _=>rfl)) (aV _)) (ay (aR (lN))) (aG)) (ao (bA (aH (bS hr.units) aq (ax (ae (xv 0)) (ah) (fun _ _=>rfl)) (aA) (aV _)) (ay (aR (aB gQ bc hr ‹0› (aa (ae (xv 0)) (aa (ae (xv 1)) (aj)))))) (aG)) (ao (bA (aH (bS hr.units) aq (ax (ae (xv 0)) (ah) (fun _ _=>rfl)) (aA) (aV _)) (ay (aR (aB jd bc hr ‹0› (aa (ae (xv 0)) (aa (ae (xv 1)) (aj)))))) (aG)) (ay (aR (lN))))))⟩
theorem qf {f:MF} (rT:Callee P w K mg base 2 "both" ["one","other"] (bp mK 2 2)) (E_NoKind:ExcAt K mg "NoKind") (E_Nothing:ExcAt K mg "Nothing") (lI:mg "zip"=none) (bj:mg "tuple"=none):dr P w K mg base 2 ["one","other","kinds"] "shared_key" gf f dL :=
 ⟨fun cdv A outer s H E hr hp=>(ao (bA (aH (gS hr.units) aq (dj (N:=["field"]) (ix:=[none]) rfl (.of rfl) (cU rfl) (cN (ae (xv 0))) ⟨fun _ _ _ _ _ _=>⟨aI (i:=0) G3 rfl (Or.inl rfl),cD,ax (ae (xv 0)) (ah) (fun _ _=>rfl)⟩⟩) (dj (N:=["field"]) (ix:=[none]) rfl (.of rfl) (cU rfl) (cN (ae (xv 1))) ⟨fun _ _ _ _ _ _=>⟨aI (i:=0) HS rfl (Or.inl rfl),cD,ax (ae (xv 0)) (ah) (fun _ _=>rfl)⟩⟩) (aV _)) (ay (iZ rfl E_NoKind rfl (aa (aA) (aj)))) (aG)) (ao (bA (aH (gS hr.units) aq (dj (N:=["field"]) (ix:=[none]) rfl (.of rfl) (cU rfl) (cN (ae (xv 0))) ⟨fun _ _ _ _ _ _=>⟨aI (i:=0) Id rfl (Or.inl rfl),cD,ax (ax (ae (xv 0)) (ah) (fun _ _=>rfl)) (ah) (fun _ _=>rfl)⟩⟩) (dj (N:=["field"]) (ix:=[none]) rfl (.of rfl) (cU rfl) (cN (ae (xv 1))) ⟨fun _ _ _ _ _ _=>⟨aI (i:=0) Ia rfl (Or.inl rfl),cD,ax (ax (ae (xv 0)) (ah) (fun _ _=>rfl)) (ah) (fun _ _=>rfl)⟩⟩) (aV _)) (ay (iZ rfl E_NoKind rfl (aa (aA) (aj)))) (aG)) (ao (by first | exact sv (i:=2) qi.nd rfl ‹1› (N:=["field","twin"]) (ix:=[none,none]) rfl (.of rfl) (cE rfl) (lB rfl lI (aa (ae (xv 0)) (aa (ae (xv 1)) (aj)))) ⟨fun _ _ _ _ _ _=>⟨du (g:=fJ [0,1]) rfl (aY (aI (i:=0) AK rfl (Or.inl rfl)) (aY (aI (i:=1) AK rfl (Or.inl rfl)) (cG))),cD,aB rT bc hr ‹0› (aa (ax (ae (xv 0)) (ah) (fun _ _=>rfl)) (aa (ax (ae (xv 1)) (ah) (fun _ _=>rfl)) (aj)))⟩⟩ | exact aD (i:=2) qi.nd rfl ‹1› (dj (N:=["field","twin"]) (ix:=[none,none]) rfl (.of rfl) (cE rfl) (lB rfl lI (aa (ae (xv 0)) (aa (ae (xv 1)) (aj)))) ⟨fun _ _ _ _ _ _=>⟨du (g:=fJ [0,1]) rfl (aY (aI (i:=0) AK rfl (Or.inl rfl)) (aY (aI (i:=1) AK rfl (Or.inl rfl)) (cG))),cD,aB rT bc hr ‹0› (aa (ax (ae (xv 0)) (ah) (fun _ _=>rfl)) (aa (ax (ae (xv 1)) (ah) (fun _ _=>rfl)) (aj)))⟩⟩)) (ao (bA (aH (pJ hr.units) aq (lN) (ae (xv 2)) rfl) (ay (iZ rfl E_Nothing rfl (aa (aA) (aj)))) (aG)) (ay (aR (bP bY rfl bj Mp (aa (dj (N:=["field","kind"]) (ix:=[none,none]) rfl (.of rfl) (cE rfl) (lB rfl lI (aa (ae (xv 0)) (aa (ae (xv 2)) (aj)))) ⟨fun _ _ _ _ _ _=>⟨du (g:=fJ [0,1]) rfl (aY (aI (i:=0) EV rfl (Or.inl rfl)) (aY (aI (i:=1) EV rfl (Or.inl rfl)) (cG))),cD,aX (aa (ax (ae (xv 0)) (ah) (fun _ _=>rfl)) (aa (ae (xv 1)) (aj)))⟩⟩) (aj)))))))))⟩
theorem lE {f:MF} (jb:Callee P w K mg base 3 "shared_key" ["one","other"] (bp dL 2 3)) (E_Twice:ExcAt K mg "Twice") (E_TooMany:ExcAt K mg "TooMany") (zS:mg "any"=none) (cF:mg "len"=none) (c_MOST_FIELDS:∃ t,mg "MOST_FIELDS"=some (.int 8 t)):dr P w K mg base 3 ["self","one","other","key","names"] "Join.view_form" dI f bb :=
 ⟨fun cdv A outer s H E hr hp=>(ao (aD (i:=3) lG.nd rfl ‹1› (aB jb bc hr ‹0› (aa (ax (ae (xv 1)) (ah) (fun _ _=>rfl)) (aa (ax (ae (xv 2)) (ah) (fun _ _=>rfl)) (aj))))) (ao (by first | exact sv (i:=4) lG.nd rfl ‹1› (N:=["field"]) (ix:=[none]) rfl (.of rfl) (cU rfl) (cN (ax (ae (xv 1)) (ah) (fun _ _=>rfl))) ⟨fun _ _ _ _ _ _=>⟨aI (i:=0) EG rfl (Or.inl rfl),cD,ax (ae (xv 0)) (ah) (fun _ _=>rfl)⟩⟩ | exact aD (i:=4) lG.nd rfl ‹1› (dj (N:=["field"]) (ix:=[none]) rfl (.of rfl) (cU rfl) (cN (ax (ae (xv 1)) (ah) (fun _ _=>rfl))) ⟨fun _ _ _ _ _ _=>⟨aI (i:=0) EG rfl (Or.inl rfl),cD,ax (ae (xv 0)) (ah) (fun _ _=>rfl)⟩⟩)) (ao (bA (kr (bd (xN rfl) rfl zS PyProof.Rows.boot_any (aa (dj (N:=["field","names"]) (ix:=[none,some 4]) rfl (.of rfl) (cU rfl) (cN (ax (ae (xv 2)) (ah) (fun _ _=>rfl))) ⟨fun _ _ _ _ _ _=>⟨aI (i:=0) Hi rfl (Or.inl rfl),cD,lM (pJ hr.units) aq (ax (ae (xv 0)) (ah) (fun _ _=>rfl)) (ae (xv 1)) rfl⟩⟩) (aj)))) (ay (iZ rfl E_Twice rfl (aa (aA) (aj)))) (aG)) (ao (bA (aH vS iE (ak aO aq (bd bL rfl cF PySem.boot_len (aa (ax (ae (xv 1)) (ah) (fun _ _=>rfl)) (aj))) (bd bL rfl cF PySem.boot_len (aa (ax (ae (xv 2)) (ah) (fun _ _=>rfl)) (aj)))) (yO rfl c_MOST_FIELDS) (aV _)) (ay (iZ rfl E_TooMany rfl (aa (aA) (aj)))) (aG)) (ay (aR (aX (aa (ae (xv 3)) (aa (ak aO aq (ax (ae (xv 1)) (ah) (fun _ _=>rfl)) (ax (ae (xv 2)) (ah) (fun _ _=>rfl))) (aj))))))))))⟩
theorem qm {f:MF} (iw:oB P w K mg base 1 "_law_which" ["_law_error"] (Aw (bp cz 1 3))) (ja:nN P w K mg base 4 "view_form" ["self","one","other"] [("Pair",(bp cB 3 3)),("Join",(bp bb 3 5))]) (N_Join:vZ K mg "Join") (T_GlassError:uc K mg "GlassError" ["Twice","NoKind","Nothing","TooMany"]):dr P w K mg base 4 ["_law_one","_law_other","_law_found_here","e"] "_law_found" gg f bU :=
 ⟨fun cdv A outer s H E hr hp=>(ao (aD (i:=2) pZ.nd rfl ‹1› (aA)) (ao (A4 rfl rfl rfl (fun _=>rfl) T_GlassError rfl pZ.nd rfl rfl (fun E' pn hp=>ay (yy (yw ja hr ‹0› (zi N_Join rfl) (aa (ae (xv 0)) (aa (ae (xv 1)) (aj)))))) (fun A' pn hA hU=>ay (aD (i:=2) pZ.nd rfl ‹1› (tM iw (DH bc) (gL.at hr hA hU) ‹0› (aa (ae (xv 3)) (aj)))))) (ay (aR (ae (xv 2))))))⟩
theorem oi {f:MF} (qE:mg "min"=none) (rq:mg "max"=none) (bj:mg "tuple"=none):dr P w K mg base 0 ["_law_one","_law_other"] "_law_in_both" eS f cR :=
 ⟨fun cdv A outer s H E hr hp=>(ao (bA (aH (bS hr.units) aq (ax (ae (xv 0)) (ah) (fun _ _=>rfl)) (aA) (aV _)) (ay (aR (aX (aa (aA) (aa (bd (oJ rfl) rfl rq Mq (aa (ax (ae (xv 0)) (ah) (fun _ _=>rfl)) (aa (ax (ae (xv 1)) (ah) (fun _ _=>rfl)) (aj)))) (aa (bd (pK rfl) rfl qE Mr (aa (ax (ae (xv 0)) (ah) (fun _ _=>rfl)) (aa (ax (ae (xv 1)) (ah) (fun _ _=>rfl)) (aj)))) (aj))))))) (aG)) (ay (aR (aX (aa (aA) (aa (bP bY rfl bj Mp (aa (dj (N:=["_law_word","_law_other"]) (ix:=[none,some 1]) rfl (.of rfl) (cU rfl) (cN (ax (ae (xv 0)) (ah) (fun _ _=>rfl))) ⟨fun _ _ _ _ _ _=>⟨aI (i:=0) Ih rfl (Or.inl rfl),gR (aH (pJ hr.units) aq (ae (xv 0)) (ax (ae (xv 1)) (ah) (fun _ _=>rfl)) rfl),ae (xv 0)⟩⟩) (aj))) (aj)))))))⟩
theorem t9 {f:MF} (gO:Callee P w K mg base 1 "_law_in_both" ["_law_one","_law_other"] (bp cR 2 2)) (lI:mg "zip"=none) (cF:mg "len"=none):dr P w K mg base 1 ["_law_one","_law_other","_law_first","_law_last","_law_meet","_law_names"] "_law_due" i9 f fu :=
 ⟨fun cdv A outer s H E hr hp=>(ao (bA (aH (gS hr.units) aq (dj (N:=["_law_name_here","_law_kind_here"]) (ix:=[none,none]) rfl (.of rfl) (cE rfl) (cN (ax (ae (xv 0)) (ah) (fun _ _=>rfl))) ⟨fun _ _ _ _ _ _=>⟨du (g:=fJ [0,1]) rfl (aY (aI (i:=0) BI rfl (Or.inl rfl)) (aY (aI (i:=1) BI rfl (Or.inl rfl)) (cG))),cD,ae (xv 0)⟩⟩) (dj (N:=["_law_name_here","_law_kind_here"]) (ix:=[none,none]) rfl (.of rfl) (cE rfl) (cN (ax (ae (xv 1)) (ah) (fun _ _=>rfl))) ⟨fun _ _ _ _ _ _=>⟨du (g:=fJ [0,1]) rfl (aY (aI (i:=0) B1 rfl (Or.inl rfl)) (aY (aI (i:=1) B1 rfl (Or.inl rfl)) (cG))),cD,ae (xv 0)⟩⟩) (aV _)) (ay (aR (aA))) (aG)) (ao (gz hp rfl (lB rfl lI (aa (ax (ae (xv 0)) (ah) (fun _ _=>rfl)) (aa (ax (ae (xv 1)) (ah) (fun _ _=>rfl)) (aj)))) (du (g:=fJ [2,3]) rfl (aY (aI (i:=2) t7.nd rfl ‹1›) (aY (aI (i:=3) t7.nd rfl ‹1›) (cG)))) (ao (bA (aH (gS hr.units) aq (ax (ax (ae (xv 2)) (ah) (fun _ _=>rfl)) (ah) (fun _ _=>rfl)) (ax (ax (ae (xv 3)) (ah) (fun _ _=>rfl)) (ah) (fun _ _=>rfl)) (aV _)) (ay (aR (aA))) (aG)) (cC [2,3] aG))) (cC [2,3] (ao (gz hp rfl (lB rfl lI (aa (ax (ae (xv 0)) (ah) (fun _ _=>rfl)) (aa (ax (ae (xv 1)) (ah) (fun _ _=>rfl)) (aj)))) (du (g:=fJ [2,3]) rfl (aY (aI (i:=2) t7.nd rfl ‹1›) (aY (aI (i:=3) t7.nd rfl ‹1›) (cG)))) (ao (aD (i:=4) t7.nd rfl ‹1› (aB gO bc hr ‹0› (aa (ax (ae (xv 2)) (ah) (fun _ _=>rfl)) (aa (ax (ae (xv 3)) (ah) (fun _ _=>rfl)) (aj))))) (ao (bA (Ao (mX (Ao (j9 (aH (bS hr.units) aq (ax (ae (xv 4)) (ah) (fun _ _=>rfl)) (aA) (aV _)) (lK (aH vS iE (ax (ae (xv 4)) (ah) (fun _ _=>rfl)) (ax (ae (xv 4)) (ah) (fun _ _=>rfl)) (aV _))))) (kE (aH (bS hr.units) aq (ae (xv 4)) (aX (aa (aA) (aa (aX (aj)) (aj)))) (aV _))))) (ay (aR (aA))) (aG)) (cC [2,3,4] aG)))) (ao (by first | exact sv (i:=5) t7.nd rfl ‹1› (N:=["_law_name_here","_law_kind_here"]) (ix:=[none,none]) rfl (.of rfl) (cE rfl) (cN (ax (ae (xv 0)) (ah) (fun _ _=>rfl))) ⟨fun _ _ _ _ _ _=>⟨du (g:=fJ [0,1]) rfl (aY (aI (i:=0) wo rfl (Or.inl rfl)) (aY (aI (i:=1) wo rfl (Or.inl rfl)) (cG))),cD,ae (xv 0)⟩⟩ | exact aD (i:=5) t7.nd rfl ‹1› (dj (N:=["_law_name_here","_law_kind_here"]) (ix:=[none,none]) rfl (.of rfl) (cE rfl) (cN (ax (ae (xv 0)) (ah) (fun _ _=>rfl))) ⟨fun _ _ _ _ _ _=>⟨du (g:=fJ [0,1]) rfl (aY (aI (i:=0) wo rfl (Or.inl rfl)) (aY (aI (i:=1) wo rfl (Or.inl rfl)) (cG))),cD,ae (xv 0)⟩⟩)) (ao (bA (aH (gS hr.units) aq (dj (N:=["_law_name_here","_law_kind_here","_law_names"]) (ix:=[none,none,some 5]) rfl (.of rfl) (cE rfl) (cN (ax (ae (xv 1)) (ah) (fun _ _=>rfl))) ⟨fun _ _ _ _ _ _=>⟨du (g:=fJ [0,1]) rfl (aY (aI (i:=0) Ck rfl (Or.inl rfl)) (aY (aI (i:=1) Ck rfl (Or.inl rfl)) (cG))),gR (aH (pJ hr.units) aq (ae (xv 0)) (ae (xv 2)) rfl),ae (xv 0)⟩⟩) (bK (aj)) (aV _)) (ay (aR (aA))) (aG)) (ao (bA (aH vS iE (ak aO aq (bd bL rfl cF PySem.boot_len (aa (ax (ae (xv 0)) (ah) (fun _ _=>rfl)) (aj))) (bd bL rfl cF PySem.boot_len (aa (ax (ae (xv 1)) (ah) (fun _ _=>rfl)) (aj)))) (ah) (aV _)) (ay (aR (aA))) (aG)) (ay (aR (aA))))))))))⟩
theorem qk {f:MF} :dr P w K mg base 0 ["_law_kind_here","_law_x","_law_letters"] "_law_apart" gq f cV :=
 ⟨fun cdv A outer s H E hr hp=>(ao (bA (aH (bS hr.units) aq (ax (ae (xv 0)) (ah) (fun _ _=>rfl)) (aA) (aV _)) (ay (aR (aX (aa (aA) (aa (ak aO aq (ax (ae (xv 0)) (ah) (fun _ _=>rfl)) (ah)) (aa (ak aO aq (ak aO aq (ax (ae (xv 0)) (ah) (fun _ _=>rfl)) (ah)) (ak aQ aP (ae (xv 1)) (ah))) (aj))))))) (aG)) (ao (aD (i:=2) qd.nd rfl ‹1› (aA)) (ay (aR (aX (aa (aA) (aa (aX (aa (ak kD aq (ax (ae (xv 2)) (ak aQ aP (ae (xv 1)) (ah)) (fun _ _=>rfl)) (ah)) (aj))) (aj))))))))⟩
theorem tq {f:MF} (bN:mg "range"=none):dr P w K mg base 0 ["_law_base","_law_k","_law_letters","_law_size","_law_name_here","_law_j","_law_step"] "_law_name" ic f aN :=
 ⟨fun cdv A outer s H E hr hp=>(ao (aD (i:=2) su.nd rfl ‹1› (aA)) (ao (aD (i:=1) su.nd rfl ‹1› (ak aQ aP (ak aO aq (ak il iq (ae (xv 1)) (ax (bK (aa (ah) (aa (ah) (aa (ah) (aa (ah) (aa (ah) (aa (ah) (aj)))))))) (ak aQ aP (ae (xv 0)) (ah)) (fun _ _=>rfl))) (ak aL bm (ae (xv 0)) (ah))) (ah))) (ao (aD (i:=0) su.nd rfl ‹1› (ak aL bm (ae (xv 0)) (ah))) (ao (bA (aH (bS hr.units) aq (ak aQ aP (ae (xv 0)) (ah)) (ah) (aV _)) (ay (aR (ak kD aq (ax (ae (xv 2)) (ak aQ aP (ak aO aq (ak aL bm (ae (xv 0)) (ah)) (ak aL bm (ae (xv 1)) (ah))) (ah)) (fun _ _=>rfl)) (ak aO aq (ah) (ak aQ aP (ae (xv 1)) (ah)))))) (aG)) (ao (aD (i:=3) su.nd rfl ‹1› (ak aO aq (ah) (ak aQ aP (ak aL bm (ae (xv 0)) (ah)) (ah)))) (ao (aD (i:=4) su.nd rfl ‹1› (aA)) (ao (gz hp rfl (dz rfl bN (aa (ae (xv 3)) (aj))) (aI (i:=5) su.nd rfl ‹1›) (ao (aD (i:=6) su.nd rfl ‹1› (ak aL bm (ae (xv 0)) (ak aO aq (ah) (ak il iq (ak il iq (ah) (ae (xv 5))) (ae (xv 5)))))) (ao (bA (aH (bS hr.units) aq (ae (xv 5)) (ak aQ aP (ak aL bm (ae (xv 0)) (ah)) (ae (xv 3))) (aV _)) (ay (aD (i:=6) su.nd rfl ‹1› (ak aO aq (ae (xv 6)) (ae (xv 1))))) (aG)) (ao (aD (i:=4) su.nd rfl ‹1› (ak aO aq (ae (xv 4)) (ax (ae (xv 2)) (ak aQ aP (ae (xv 6)) (ah)) (fun _ _=>rfl)))) (cC [5,6] aG))))) (ay (aR (ae (xv 4)))))))))))⟩
theorem oh {f:MF} (bg:Callee P w K mg base 1 "_law_name" ["_law_base","_law_k"] (bp aN 2 7)) (jf:Callee P w K mg base 1 "_law_apart" ["_law_kind_here","_law_x"] (bp cV 2 3)) (iu:mg "list"=none) (cF:mg "len"=none) (bN:mg "range"=none) (zj:mg "int"=none) (bj:mg "tuple"=none):dr P w K mg base 1 ["_law_one","_law_other","_law_base","_law_x","_law_key","_law_rest","_law_at","_law_way","_law_names","_law_spare","_law_k"] "_law_spoiled" eJ f dC :=
 ⟨fun cdv A outer s H E hr hp=>(ao (fK (i:=4) oa.nd rfl ‹1› (tx rfl iu Ms (aa (ax (ae (xv 1)) (ah) (fun _ _=>rfl)) (aj)))) (ao (fK (i:=5) oa.nd rfl ‹1› (tx rfl iu Ms (aa (ax (ae (xv 1)) (ah) (fun _ _=>rfl)) (aj)))) (ao (aD (i:=6) oa.nd rfl ‹1› (uC [4] (ak aQ aP (ak aL bm (ae (xv 3)) (ah)) (bd bL rfl cF PySem.boot_len (aa (ae (xv 4)) (aj)))))) (ao (aD (i:=7) oa.nd rfl ‹1› (ak aQ aP (ae (xv 3)) (ah))) (ao (aD (i:=8) oa.nd rfl ‹1› (xq [4,5] (dj (N:=["_law_name_here","_law_kind_here"]) (ix:=[none,none]) rfl (.of rfl) (cE rfl) (cN (ak aO aq (ae (xv 4)) (ae (xv 5)))) ⟨fun _ _ _ _ _ _=>⟨du (g:=fJ [0,1]) rfl (aY (aI (i:=0) Cq rfl (Or.inl rfl)) (aY (aI (i:=1) Cq rfl (Or.inl rfl)) (cG))),cD,ae (xv 0)⟩⟩))) (ao (by first | exact sv (i:=9) oa.nd rfl ‹1› (N:=["_law_k","_law_base","_law_names"]) (ix:=[none,some 2,some 8]) rfl (.of rfl) (cU rfl) (dz rfl bN (aa (ah) (aj))) ⟨fun _ _ _ _ _ _=>⟨aI (i:=0) B4 rfl (Or.inl rfl),gR (aH (mF hr.units) aq (aB bg bc hr ‹0› (aa (ae (xv 1)) (aa (ae (xv 0)) (aj)))) (ae (xv 2)) rfl),aB bg bc hr ‹0› (aa (ae (xv 1)) (aa (ae (xv 0)) (aj)))⟩⟩ | exact aD (i:=9) oa.nd rfl ‹1› (dj (N:=["_law_k","_law_base","_law_names"]) (ix:=[none,some 2,some 8]) rfl (.of rfl) (cU rfl) (dz rfl bN (aa (ah) (aj))) ⟨fun _ _ _ _ _ _=>⟨aI (i:=0) B4 rfl (Or.inl rfl),gR (aH (mF hr.units) aq (aB bg bc hr ‹0› (aa (ae (xv 1)) (aa (ae (xv 0)) (aj)))) (ae (xv 2)) rfl),aB bg bc hr ‹0› (aa (ae (xv 1)) (aa (ae (xv 0)) (aj)))⟩⟩)) (ao (bA (jC [4] (Ao (j9 (aH (bS hr.units) aq (ae (xv 7)) (ah) (aV _)) (lK (aH vS iE (bd bL rfl cF PySem.boot_len (aa (ae (xv 4)) (aj))) (ah) (aV _)))))) (ay (ip PySem.F.slot_list_pop PySem.F.type_list_pop Af tL (xv 4) (aa (ae (xv 6)) (aj)))) (aG)) (ao (bA (jC [4] (Ao (j9 (aH (bS hr.units) aq (ae (xv 7)) (ah) (aV _)) (lK (aH (lj hr.units) aq (bd bL rfl cF PySem.boot_len (aa (ae (xv 4)) (aj))) (ah) (aV _)))))) (ay (ip PySem.F.slot_list_insert PySem.F.type_list_insert xX xW (xv 4) (aa (ak aO aq (ae (xv 6)) (ak aQ aP (ak aL bm (ae (xv 3)) (ah)) (ah))) (aa (aX (aa (ax (ae (xv 9)) (ak aQ aP (ak aL bm (ae (xv 3)) (ah)) (bd bL rfl cF PySem.boot_len (aa (ae (xv 9)) (aj)))) (fun _ _=>rfl)) (aa (aX (aa (aA) (aa (ah) (aa (ah) (aj))))) (aj)))) (aj))))) (aG)) (ao (bA (aH (bS hr.units) aq (ae (xv 7)) (ah) (aV _)) (ay (pG (xv 4) (ae (xv 6)) (aX (aa (ax (ae (xv 9)) (ak aQ aP (ak aL bm (ae (xv 3)) (ah)) (bd bL rfl cF PySem.boot_len (aa (ae (xv 9)) (aj)))) (fun _ _=>rfl)) (aa (ax (oA (xv 4) (ae (xv 6)) (fun _ _=>rfl)) (ah) (fun _ _=>rfl)) (aj)))))) (aG)) (ao (bA (aH (bS hr.units) aq (ae (xv 7)) (ah) (aV _)) (ay (AU PySem.F.slot_list_reverse PySem.F.type_list_reverse AH wW (xv 4))) (aG)) (ao (bA (aH (bS hr.units) aq (ae (xv 7)) (ah) (aV _)) (ay (pG (xv 4) (ae (xv 6)) (aX (aa (ax (oA (xv 4) (ae (xv 6)) (fun _ _=>rfl)) (ah) (fun _ _=>rfl)) (aa (ax (bK (aa (aX (aa (aA) (aa (ah) (aa (ah) (aj))))) (aa (aX (aa (aA) (aa (aX (aa (aA) (aa (aA) (aj)))) (aj)))) (aj)))) (bP vf rfl zj PyProof.Rows.boot_int (aa (lM (bS hr.units) aq (ax (ax (oA (xv 4) (ae (xv 6)) (fun _ _=>rfl)) (ah) (fun _ _=>rfl)) (ah) (fun _ _=>rfl)) (aA) (aV _)) (aj))) (fun _ _=>rfl)) (aj)))))) (aG)) (ao (bA (aH (bS hr.units) aq (ae (xv 7)) (ah) (aV _)) (ay (pG (xv 4) (ae (xv 6)) (aX (aa (ax (oA (xv 4) (ae (xv 6)) (fun _ _=>rfl)) (ah) (fun _ _=>rfl)) (aa (aB jf bc hr ‹0› (aa (ax (ax (ax (ae (xv 0)) (ah) (fun _ _=>rfl)) (ak aQ aP (ae (xv 6)) (bd bL rfl cF PySem.boot_len (aa (ax (ae (xv 0)) (ah) (fun _ _=>rfl)) (aj)))) (fun _ _=>rfl)) (ah) (fun _ _=>rfl)) (aa (ak aL bm (ae (xv 3)) (ah)) (aj)))) (aj)))))) (aG)) (ao (bA (jC [5] (Ao (j9 (aH (bS hr.units) aq (ae (xv 7)) (ah) (aV _)) (j9 (aH (gS hr.units) aq (ax (ae (xv 0)) (ah) (fun _ _=>rfl)) (aX (aj)) (aV _)) (j9 (aH (lj hr.units) aq (bd bL rfl cF PySem.boot_len (aa (ae (xv 5)) (aj))) (ah) (aV _)) (lK (aH (mF hr.units) aq (ax (ax (ax (ae (xv 0)) (ah) (fun _ _=>rfl)) (ak aQ aP (ak aL bm (ae (xv 3)) (ah)) (bd bL rfl cF PySem.boot_len (aa (ax (ae (xv 0)) (ah) (fun _ _=>rfl)) (aj)))) (fun _ _=>rfl)) (ah) (fun _ _=>rfl)) (ae (xv 8)) rfl))))))) (ay (ip MA MB dN eD (xv 5) (aa (ax (ax (ae (xv 0)) (ah) (fun _ _=>rfl)) (ak aQ aP (ak aL bm (ae (xv 3)) (ah)) (bd bL rfl cF PySem.boot_len (aa (ax (ae (xv 0)) (ah) (fun _ _=>rfl)) (aj)))) (fun _ _=>rfl)) (aj)))) (aG)) (ao (bA (aH (bS hr.units) aq (ae (xv 7)) (ah) (aV _)) (cC [0,2,6,7,8] (ay (gz hp rfl (dz rfl bN (aa (ak aQ aP (ak aL bm (ae (xv 3)) (ah)) (ah)) (aj))) (aI (i:=10) oa.nd rfl ‹1›) (ao (bA (jC [5] (aH (lj hr.units) aq (bd bL rfl cF PySem.boot_len (aa (ae (xv 5)) (aj))) (ah) (aV _))) (ay (ip MA MB dN eD (xv 5) (aa (uC [5] (aX (aa (ax (ae (xv 9)) (ak oQ pc (bd bL rfl cF PySem.boot_len (aa (ae (xv 5)) (aj))) (bd bL rfl cF PySem.boot_len (aa (ax (ae (xv 1)) (ah) (fun _ _=>rfl)) (aj)))) (fun _ _=>rfl)) (aa (aX (aa (aA) (aa (aX (aa (aA) (aa (aA) (aj)))) (aj)))) (aj))))) (aj)))) (aG)) (cC [10] aG))))) (aG)) (dW 5 (dW 4 (ay (aR (aX (aa (bP bY rfl bj Mp (aa (ae (xv 4)) (aj))) (aa (bP bY rfl bj Mp (aa (ae (xv 5)) (aj))) (aj))))))))))))))))))))))⟩
theorem sj {f:MF} :dr P w K mg base 0 ["_law_x"] "_law_next" gY f bf :=
 ⟨fun cdv A outer s H E hr hp=>(ay (aR (ak aQ aP (ak aO aq (ak aO aq (ak il iq (ae (xv 0)) (ae (xv 0))) (ak il iq (ah) (ae (xv 0)))) (ah)) (ah))))⟩
theorem oq {f:MF} (cF:mg "len"=none):dr P w K mg base 0 ["_law_script","_law_k"] "_law_cell_at" eV f bX :=
 ⟨fun cdv A outer s H E hr hp=>(ao (bA (aH (lj hr.units) aq (ae (xv 1)) (bd bL rfl cF PySem.boot_len (aa (ae (xv 0)) (aj))) (aV _)) (ay (aR (ax (ae (xv 0)) (ae (xv 1)) (fun _ _=>rfl)))) (aG)) (ay (aR (ah))))⟩
theorem sL {f:MF} (bM:Callee P w K mg base 1 "_law_cell_at" ["_law_script","_law_k"] (bp bX 2 2)) (aU:Callee P w K mg base 1 "_law_next" ["_law_x"] (bp bf 1 1)):dr P w K mg base 1 ["_law_script","_law_k","_law_x"] "_law_seed" ia f cH :=
 ⟨fun cdv A outer s H E hr hp=>(ao (aD (i:=2) rV.nd rfl ‹1› (ak aQ aP (ak aO aq (ak aO aq (ak aQ aP (aB bM bc hr ‹0› (aa (ae (xv 0)) (aa (ae (xv 1)) (aj)))) (ah)) (ak il iq (ak il iq (ah) (ae (xv 1))) (ae (xv 1)))) (ah)) (ah))) (ay (aR (aB aU bc hr ‹0› (aa (aB aU bc hr ‹0› (aa (ae (xv 2)) (aj))) (aj))))))⟩
theorem p9 {f:MF} (bN:mg "range"=none) (cF:mg "len"=none) (bj:mg "tuple"=none) (iQ:mg "sorted"=none) (iu:mg "list"=none):dr P w K mg base 0 ["_law_x","_law_low","_law_letters","_law_one","_law_other","_law_some","_law_kept","_law_k"] "_law_plain" gv f cv :=
 ⟨fun cdv A outer s H E hr hp=>(ao (bA (aH (lj hr.units) aq (ak aQ aP (ae (xv 0)) (ah)) (ah) (aV _)) (ao (aD (i:=1) qe.nd rfl ‹1› (ax (bK (aa (ah) (aa (v4 (ah)) (aa (ak oQ pc (ah) (ak aQ aP (ak gb fZ (ae (xv 0)) (ah)) (ak gb fZ (ah) (ah)))) (aa (ak aQ aP (ak gb fZ (ae (xv 0)) (ah)) (ak gb fZ (ah) (ah))) (aj)))))) (ak aQ aP (ak aL bm (ae (xv 0)) (ah)) (ah)) (fun _ _=>rfl))) (ay (aR (aX (aa (aA) (aa (ae (xv 1)) (aa (ak aO aq (ae (xv 1)) (ax (bK (aa (ah) (aa (ah) (aa (ah) (aa (ak gb fZ (ah) (ah)) (aj)))))) (ak aQ aP (ak aL bm (ae (xv 0)) (ah)) (ah)) (fun _ _=>rfl))) (aj)))))))) (aG)) (ao (aD (i:=2) qe.nd rfl ‹1› (aA)) (ao (aD (i:=3) qe.nd rfl ‹1› (ax (ae (xv 2)) (ak aQ aP (ak aL bm (ae (xv 0)) (ah)) (ah)) (fun _ _=>rfl))) (ao (aD (i:=4) qe.nd rfl ‹1› (ax (ae (xv 2)) (ak aQ aP (ak aL bm (ae (xv 0)) (ah)) (ah)) (fun _ _=>rfl))) (ao (aD (i:=5) qe.nd rfl ‹1› (bK (aa (aA) (aa (ae (xv 3)) (aa (ae (xv 4)) (aa (ak aO aq (ae (xv 3)) (ae (xv 4))) (aa (ak aO aq (ae (xv 4)) (ae (xv 3))) (aa (ak kD aq (ae (xv 3)) (ah)) (aa (ak aO aq (ae (xv 3)) (ae (xv 3))) (aa (ak kD aq (ae (xv 4)) (ah)) (aj))))))))))) (ao (fK (i:=6) qe.nd rfl ‹1› (qA)) (cC [1,2,4] (ao (gz hp rfl (dz rfl bN (aa (ah) (aj))) (aI (i:=7) qe.nd rfl ‹1›) (ao (bA (aH (bS hr.units) aq (ak vw ve (ak uV vg (ak aL bm (ae (xv 0)) (ah)) (ae (xv 7))) (ah)) (ah) (aV _)) (ay (oV (hr.units) (xv 6) (ax (ae (xv 5)) (ae (xv 7)) (fun _ _=>rfl)) (jj))) (aG)) (cC [7] aG))) (ao (bA (jC [6] (aH (bS hr.units) aq (bd wN rfl cF PySem.boot_len (aa (ae (xv 6)) (aj))) (ah) (aV _))) (ay (oV (hr.units) (xv 6) (ae (xv 3)) (jj))) (aG)) (dW 6 (ay (aR (aX (aa (aA) (aa (bP bY rfl bj Mp (aa (bd mi rfl iQ lT (aa (bP (ph rfl) rfl iu Ms (aa (ae (xv 6)) (aj))) (aj))) (aj))) (aj))))))))))))))))⟩
theorem sG {n:Nat} {f:MF} (cx:Callee P w K mg base 1 "_law_plain" ["_law_x"] (bp cv 1 8)) (aU:Callee P w K mg base 1 "_law_next" ["_law_x"] (bp bf 1 1)) (bg:Callee P w K mg base 1 "_law_name" ["_law_base","_law_k"] (bp aN 2 7)) (bN:mg "range"=none) (bj:mg "tuple"=none) {aS:List D->R D} (jE:Callee P w K mg base (1+n) "_law_kind" ["_law_x","_law_base","_law_deep"] aS) (L__law_kind:Ar 3 aS) {aJ:List D->R D} (dD:Callee P w K mg base (1+n) "_law_form" ["_law_x","_law_base","_law_start","_law_many","_law_more","_law_deep"] aJ) (L__law_form:Ar 6 aJ):dr P w K mg base (1+n) ["_law_x","_law_base","_law_deep","_law_inner"] "_law_kind" fQ f (fO aS aJ) :=
 ⟨fun cdv A outer s H E hr hp=>(ao (bA (Ao (mX (aH (bS hr.units) aq (ae (xv 2)) (ah) (aV _)) (kE (aH (lj hr.units) aq (ak aQ aP (ae (xv 0)) (ah)) (ah) (aV _))))) (ay (aR (aB cx bc hr ‹0› (aa (ak aL bm (ae (xv 0)) (ah)) (aj))))) (aG)) (ao (aD (i:=3) rX.nd rfl ‹1› (aB dD L__law_form hr ‹0› (aa (ak aL bm (ae (xv 0)) (ah)) (aa (ae (xv 1)) (aa (ak aQ aP (ak aL bm (ae (xv 0)) (ah)) (ah)) (aa (ak aO aq (ah) (ak aQ aP (ak aL bm (ae (xv 0)) (ah)) (ah))) (aa (ak aQ aP (ak aL bm (ae (xv 0)) (ah)) (ah)) (aa (ak oQ pc (ae (xv 2)) (ah)) (aj))))))))) (ay (aR (aX (aa (aA) (aa (ae (xv 3)) (aa (lM (bS hr.units) aq (ak aQ aP (ak aL bm (ae (xv 0)) (ah)) (ah)) (ah) (aV _)) (aj)))))))))⟩
theorem sR {n:Nat} {f:MF} (cx:Callee P w K mg base 1 "_law_plain" ["_law_x"] (bp cv 1 8)) (aU:Callee P w K mg base 1 "_law_next" ["_law_x"] (bp bf 1 1)) (bg:Callee P w K mg base 1 "_law_name" ["_law_base","_law_k"] (bp aN 2 7)) (bN:mg "range"=none) (bj:mg "tuple"=none) {aS:List D->R D} (jE:Callee P w K mg base (1+n) "_law_kind" ["_law_x","_law_base","_law_deep"] aS) (L__law_kind:Ar 3 aS) {aJ:List D->R D} (dD:Callee P w K mg base (1+n) "_law_form" ["_law_x","_law_base","_law_start","_law_many","_law_more","_law_deep"] aJ) (L__law_form:Ar 6 aJ):dr P w K mg base (1+n) ["_law_x","_law_base","_law_start","_law_many","_law_more","_law_deep","_law_key","_law_rest","_law_k"] "_law_form" fV f (hV aS aJ) :=
 ⟨fun cdv A outer s H E hr hp=>(ao (fK (i:=6) sK.nd rfl ‹1› (oy (aj))) (ao (fK (i:=7) sK.nd rfl ‹1› (oy (aj))) (ao (gz hp rfl (dz rfl bN (aa (ak aO aq (ae (xv 3)) (ae (xv 4))) (aj))) (aI (i:=8) sK.nd rfl ‹1›) (ao (aD (i:=0) sK.nd rfl ‹1› (aB aU bc hr ‹0› (aa (ae (xv 0)) (aj)))) (ao (bA (aH (lj hr.units) aq (ae (xv 8)) (ae (xv 3)) (aV _)) (ay (ip MA MB dN eD (xv 6) (aa (aX (aa (aB bg bc hr ‹0› (aa (ae (xv 1)) (aa (ak aO aq (ae (xv 2)) (ae (xv 8))) (aj)))) (aa (aB cx bc hr ‹0› (aa (ae (xv 0)) (aj))) (aj)))) (aj)))) (ay (ip MA MB dN eD (xv 7) (aa (aX (aa (aB bg bc hr ‹0› (aa (ae (xv 1)) (aa (ak aO aq (ae (xv 2)) (ae (xv 8))) (aj)))) (aa (aB jE L__law_kind hr ‹0› (aa (ae (xv 0)) (aa (ae (xv 1)) (aa (ae (xv 5)) (aj))))) (aj)))) (aj))))) (cC [8] aG)))) (dW 7 (dW 6 (ay (aR (aX (aa (bP bY rfl bj Mp (aa (ae (xv 6)) (aj))) (aa (bP bY rfl bj Mp (aa (ae (xv 7)) (aj))) (aj)))))))))))⟩
theorem kS {f__law_kind:MF} {fd__law_kind:Nf} (F__law_kind:yh K "_law_kind" "_law_kind" fQ f__law_kind fd__law_kind) (jL:Binds K fd__law_kind ["_law_x","_law_base","_law_deep"] []) (m__law_kind:mg "_law_kind"=some (.ref f__law_kind)) {f__law_form:MF} {fd__law_form:Nf} (F__law_form:yh K "_law_form" "_law_form" fV f__law_form fd__law_form) (jx:Binds K fd__law_form ["_law_x","_law_base","_law_start","_law_many","_law_more","_law_deep"] []) (m__law_form:mg "_law_form"=some (.ref f__law_form)) (cx:Callee P w K mg base 1 "_law_plain" ["_law_x"] (bp cv 1 8)) (aU:Callee P w K mg base 1 "_law_next" ["_law_x"] (bp bf 1 1)) (bg:Callee P w K mg base 1 "_law_name" ["_law_base","_law_k"] (bp aN 2 7)) (bN:mg "range"=none) (bj:mg "tuple"=none):∀ n:Nat,Callee P w K mg base (1+n) "_law_kind" ["_law_x","_law_base","_law_deep"] (aS n)/\Callee P w K mg base (1+n) "_law_form" ["_law_x","_law_base","_law_start","_law_many","_law_more","_law_deep"] (aJ n)
 | 0=>by
  rw [aS]; rw [aJ]
  exact⟨nV 1 F__law_kind jL m__law_kind,nV 1 F__law_form jx m__law_form⟩
 | n+1=>by
  have ih:=kS F__law_kind jL m__law_kind F__law_form jx m__law_form cx aU bg bN bj n
  rw [dJ]; rw [fe]
  exact⟨bG F__law_kind jL m__law_kind rX (dr.ok (sG cx aU bg bN bj ih.1 (jP n) ih.2 (eT n))),bG F__law_form jx m__law_form sK (dr.ok (sR cx aU bg bN bj ih.1 (jP n) ih.2 (eT n)))⟩
theorem lg {f:MF} (iQ:mg "sorted"=none) (iu:mg "list"=none):dr P w K mg base 0 ["_law_x","_law_letters","_law_one","_law_other","_law_kept","_law_word"] "_law_some_words" dq f cK :=
 ⟨fun cdv A outer s H E hr hp=>(ao (aD (i:=1) li.nd rfl ‹1› (aA)) (ao (aD (i:=2) li.nd rfl ‹1› (ax (ae (xv 1)) (ak aQ aP (ae (xv 0)) (ah)) (fun _ _=>rfl))) (ao (aD (i:=3) li.nd rfl ‹1› (ax (ae (xv 1)) (ak aQ aP (ak aL bm (ae (xv 0)) (ah)) (ah)) (fun _ _=>rfl))) (ao (fK (i:=4) li.nd rfl ‹1› (qA)) (cC [0,1] (ao (gz hp rfl (cN (bK (aa (aA) (aa (ae (xv 2)) (aa (ae (xv 3)) (aa (ak aO aq (ae (xv 2)) (ae (xv 3))) (aa (ak aO aq (ae (xv 3)) (ae (xv 2))) (aa (ak kD aq (ae (xv 2)) (ah)) (aa (ak aO aq (ae (xv 2)) (ae (xv 2))) (aa (ak kD aq (ae (xv 3)) (ah)) (aj))))))))))) (aI (i:=5) li.nd rfl ‹1›) (ao (oV (hr.units) (xv 4) (ae (xv 5)) (jj)) (cC [5] aG))) (dW 4 (ay (aR (bd mi rfl iQ lT (aa (bP (ph rfl) rfl iu Ms (aa (ae (xv 4)) (aj))) (aj))))))))))))⟩
theorem lZ {f:MF} (aU:Callee P w K mg base 1 "_law_next" ["_law_x"] (bp bf 1 1)) (eM:Callee P w K mg base 1 "_law_some_words" ["_law_x"] (bp cK 1 6)) (cF:mg "len"=none) (bj:mg "tuple"=none) (ie:mg "enumerate"=none):dr P w K mg base 1 ["_law_x","_law_y","_law_low","_law_wide","_law_far","_law_one","_law_other","_law_some","_law_spare"] "_law_two_kinds" dF f cT :=
 ⟨fun cdv A outer s H E hr hp=>(ao (aD (i:=1) mh.nd rfl ‹1› (aB aU bc hr ‹0› (aa (ae (xv 0)) (aj)))) (ao (aD (i:=2) mh.nd rfl ‹1› (ax (bK (aa (ah) (aa (v4 (ah)) (aa (ak oQ pc (ah) (ak aQ aP (ak gb fZ (ae (xv 1)) (ah)) (ak gb fZ (ah) (ah)))) (aa (ak aQ aP (ak gb fZ (ae (xv 1)) (ah)) (ak gb fZ (ah) (ah))) (aj)))))) (ak aQ aP (ak aL bm (ae (xv 0)) (ah)) (ah)) (fun _ _=>rfl))) (ao (aD (i:=3) mh.nd rfl ‹1› (ax (bK (aa (ah) (aa (ah) (aa (ah) (aa (ak gb fZ (ah) (ah)) (aj)))))) (ak aQ aP (ak aL bm (ae (xv 0)) (ah)) (ah)) (fun _ _=>rfl))) (ao (aD (i:=4) mh.nd rfl ‹1› (ak aQ aP (ak gb fZ (ae (xv 1)) (ah)) (ak aO aq (ae (xv 3)) (ah)))) (ao (aD (i:=5) mh.nd rfl ‹1› (aX (aa (aA) (aa (ae (xv 2)) (aa (ak aO aq (ae (xv 2)) (ae (xv 3))) (aj)))))) (ao (aD (i:=6) mh.nd rfl ‹1› (aX (aa (aA) (aa (ak aO aq (ae (xv 2)) (ae (xv 4))) (aa (ak aO aq (ak aO aq (ae (xv 2)) (ae (xv 4))) (ax (bK (aa (ah) (aa (ah) (aa (ah) (aa (ak gb fZ (ah) (ah)) (aj)))))) (ak aQ aP (ak aL bm (ae (xv 0)) (ah)) (ah)) (fun _ _=>rfl))) (aj)))))) (ao (bA (aH (bS hr.units) aq (ak aQ aP (ae (xv 0)) (ah)) (ah) (aV _)) (ao (aD (i:=7) mh.nd rfl ‹1› (aB eM bc hr ‹0› (aa (ak aL bm (ae (xv 0)) (ah)) (aj)))) (ao (aD (i:=8) mh.nd rfl ‹1› (ax (ae (xv 7)) (ak aQ aP (ae (xv 1)) (bd bL rfl cF PySem.boot_len (aa (ae (xv 7)) (aj)))) (fun _ _=>rfl))) (ao (aD (i:=5) mh.nd rfl ‹1› (aX (aa (aA) (aa (bP bY rfl bj Mp (aa (dj (N:=["_law_k","_law_word","_law_spare","_law_y"]) (ix:=[none,none,some 8,some 1]) rfl (.of rfl) (cE rfl) (kN rfl ie (aa (ae (xv 7)) (aj))) ⟨fun _ _ _ _ _ _=>⟨du (g:=fJ [0,1]) rfl (aY (aI (i:=0) BK rfl (Or.inl rfl)) (aY (aI (i:=1) BK rfl (Or.inl rfl)) (cG))),gR (Ao (mX (aH (bS hr.units) aq (ae (xv 1)) (ae (xv 2)) (aV _)) (kE (aH (bS hr.units) aq (ak vw ve (ak uV vg (ak aL bm (ae (xv 3)) (ah)) (ae (xv 0))) (ah)) (ah) (aV _))))),ae (xv 1)⟩⟩) (aj))) (aj))))) (ay (aD (i:=6) mh.nd rfl ‹1› (aX (aa (aA) (aa (bP bY rfl bj Mp (aa (dj (N:=["_law_k","_law_word","_law_spare","_law_y"]) (ix:=[none,none,some 8,some 1]) rfl (.of rfl) (cE rfl) (kN rfl ie (aa (ae (xv 7)) (aj))) ⟨fun _ _ _ _ _ _=>⟨du (g:=fJ [0,1]) rfl (aY (aI (i:=0) Cb rfl (Or.inl rfl)) (aY (aI (i:=1) Cb rfl (Or.inl rfl)) (cG))),gR (Ao (mX (aH (bS hr.units) aq (ae (xv 1)) (ae (xv 2)) (aV _)) (kE (aH (bS hr.units) aq (ak vw ve (ak uV vg (ak aL bm (ae (xv 3)) (ah)) (ae (xv 0))) (ah)) (ah) (aV _))))),ae (xv 1)⟩⟩) (aj))) (aj))))))))) (aG)) (ao (bA (aH (bS hr.units) aq (ak aQ aP (ak aL bm (ae (xv 0)) (ah)) (ah)) (ah) (aV _)) (ay (aR (aX (aa (ae (xv 6)) (aa (ae (xv 5)) (aj)))))) (aG)) (ay (aR (aX (aa (ae (xv 5)) (aa (ae (xv 6)) (aj))))))))))))))⟩
theorem mP {f:MF} (aU:Callee P w K mg base 1 "_law_next" ["_law_x"] (bp bf 1 1)) (fh:Callee P w K mg base 2 "_law_two_kinds" ["_law_x"] (bp cT 1 9)) (bg:Callee P w K mg base 1 "_law_name" ["_law_base","_law_k"] (bp aN 2 7)) (bN:mg "range"=none) (bj:mg "tuple"=none):dr P w K mg base 2 ["_law_x","_law_base","_law_many","_law_one","_law_other","_law_k","_law_kinds"] "_law_two_keys" eh f cY :=
 ⟨fun cdv A outer s H E hr hp=>(ao (fK (i:=3) mr.nd rfl ‹1› (oy (aj))) (ao (fK (i:=4) mr.nd rfl ‹1› (oy (aj))) (ao (gz hp rfl (dz rfl bN (aa (ae (xv 2)) (aj))) (aI (i:=5) mr.nd rfl ‹1›) (ao (aD (i:=0) mr.nd rfl ‹1› (aB aU bc hr ‹0› (aa (ae (xv 0)) (aj)))) (ao (aD (i:=6) mr.nd rfl ‹1› (aB fh bc hr ‹0› (aa (ae (xv 0)) (aj)))) (ao (ip MA MB dN eD (xv 3) (aa (aX (aa (aB bg bc hr ‹0› (aa (ae (xv 1)) (aa (ae (xv 5)) (aj)))) (aa (ax (ae (xv 6)) (ah) (fun _ _=>rfl)) (aj)))) (aj))) (ao (ip MA MB dN eD (xv 4) (aa (aX (aa (aB bg bc hr ‹0› (aa (ae (xv 1)) (aa (ae (xv 5)) (aj)))) (aa (ax (ae (xv 6)) (ah) (fun _ _=>rfl)) (aj)))) (aj))) (cC [5,6] aG)))))) (dW 4 (dW 3 (ay (aR (aX (aa (bP bY rfl bj Mp (aa (ae (xv 3)) (aj))) (aa (bP bY rfl bj Mp (aa (ae (xv 4)) (aj))) (aj)))))))))))⟩
theorem jO {f:MF} (eE:Callee P w K mg base 2 "_law_seed" ["_law_script","_law_k"] (bp cH 2 3)) (bM:Callee P w K mg base 1 "_law_cell_at" ["_law_script","_law_k"] (bp bX 2 2)) (fW:Callee P w K mg base 3 "_law_two_keys" ["_law_x","_law_base","_law_many"] (bp cY 3 7)) (aU:Callee P w K mg base 1 "_law_next" ["_law_x"] (bp bf 1 1)) (dD:Callee P w K mg base 13 "_law_form" ["_law_x","_law_base","_law_start","_law_many","_law_more","_law_deep"] (aJ 12)):dr P w K mg base 13 ["_law_script","_law_x","_law_base","_law_keys","_law_deep","_law_more","_law_first","_law_last"] "_law_joined_forms" cO f cp :=
 ⟨fun cdv A outer s H E hr hp=>(ao (aD (i:=1) jT.nd rfl ‹1› (aB eE bc hr ‹0› (aa (ae (xv 0)) (aa (ah) (aj))))) (ao (aD (i:=2) jT.nd rfl ‹1› (ak aQ aP (ak il iq (aB bM bc hr ‹0› (aa (ae (xv 0)) (aa (ah) (aj)))) (ah)) (ah))) (ao (aD (i:=3) jT.nd rfl ‹1› (aB fW bc hr ‹0› (aa (aB aU bc hr ‹0› (aa (ae (xv 1)) (aj))) (aa (ae (xv 2)) (aa (ax (bK (aa (ah) (aa (ah) (aa (ah) (aa (ah) (aa (ah) (aa (ah) (aa (ah) (aa (ak aO aq (ah) (ak aQ aP (ak aL bm (ae (xv 1)) (ah)) (ah))) (aj)))))))))) (ak aQ aP (ae (xv 1)) (ah)) (fun _ _=>rfl)) (aj)))))) (ao (aD (i:=4) jT.nd rfl ‹1› (ax (bK (aa (ah) (aa (ah) (aa (ah) (aa (ah) (aj)))))) (ak aQ aP (ak aL bm (ae (xv 1)) (ah)) (ah)) (fun _ _=>rfl))) (ao (aD (i:=5) jT.nd rfl ‹1› (bK (aa (ak aQ aP (ak aL bm (ae (xv 1)) (ah)) (ah)) (aa (ak aQ aP (ak aL bm (ae (xv 1)) (ah)) (ah)) (aj))))) (ao (bA (aH (bS hr.units) aq (ak aQ aP (ak aL bm (ae (xv 1)) (ah)) (ah)) (ah) (aV _)) (ao (aD (i:=5) jT.nd rfl ‹1› (bK (aa (ak aQ aP (ak aL bm (ae (xv 1)) (ah)) (ah)) (aa (ak oQ pc (ah) (ak aQ aP (ak aL bm (ae (xv 1)) (ah)) (ah))) (aj))))) (ay (aD (i:=4) jT.nd rfl ‹1› (ah)))) (aG)) (ao (aD (i:=6) jT.nd rfl ‹1› (ax (aB dD (eT 12) hr ‹0› (aa (ak aO aq (aB aU bc hr ‹0› (aa (ae (xv 1)) (aj))) (ah)) (aa (ae (xv 2)) (aa (ah) (aa (ah) (aa (ax (ae (xv 5)) (ah) (fun _ _=>rfl)) (aa (ae (xv 4)) (aj)))))))) (ah) (fun _ _=>rfl))) (ao (aD (i:=7) jT.nd rfl ‹1› (ax (aB dD (eT 12) hr ‹0› (aa (ak aO aq (aB aU bc hr ‹0› (aa (ae (xv 1)) (aj))) (ah)) (aa (ae (xv 2)) (aa (ah) (aa (ah) (aa (ax (ae (xv 5)) (ah) (fun _ _=>rfl)) (aa (ae (xv 4)) (aj)))))))) (ah) (fun _ _=>rfl))) (ay (aR (aX (aa (aX (aa (ax (ae (xv 3)) (ah) (fun _ _=>rfl)) (aa (ae (xv 6)) (aj)))) (aa (aX (aa (ax (ae (xv 3)) (ah) (fun _ _=>rfl)) (aa (ae (xv 7)) (aj)))) (aj))))))))))))))⟩
theorem Cv {f:MF} {fd:Nf} (F:yh K "law" "law" o5 f fd) (dQ:Callee P w K mg base 14 "_law_joined_forms" ["_law_script"] (bp cp 1 8)) (bM:Callee P w K mg base 1 "_law_cell_at" ["_law_script","_law_k"] (bp bX 2 2)) (dH:Callee P w K mg base 5 "_law_found" ["_law_one","_law_other"] (bp bU 2 4)) (gP:Callee P w K mg base 2 "_law_spoiled" ["_law_one","_law_other","_law_base","_law_x"] (bp dC 4 11)) (eE:Callee P w K mg base 2 "_law_seed" ["_law_script","_law_k"] (bp cH 2 3)) (jm:Callee P w K mg base 2 "_law_due" ["_law_one","_law_other"] (bp fu 2 6)) (bN:mg "range"=none):kT P w K mg base (lS P w) 15 f fd ["_law_script"] (w4 K 1 (bp pM 1 6)) :=
 sF (k:=14) F C5 (dr.ok ⟨fun cdv A outer s H E hr hp=>(ao (Br (aB dQ bc hr ‹0› (aa (ae (xv 0)) (aj))) (du (g:=fJ [1,2]) rfl (aY (aI (i:=1) C5.nd rfl ‹1›) (aY (aI (i:=2) C5.nd rfl ‹1›) (cG))))) (ao (aD (i:=3) C5.nd rfl ‹1› (ak aQ aP (ak il iq (aB bM bc hr ‹0› (aa (ae (xv 0)) (aa (ah) (aj)))) (ah)) (ah))) (ao (bA (aH (gS hr.units) aq (aB dH bc hr ‹0› (aa (ae (xv 1)) (aa (ae (xv 2)) (aj)))) (aA) (aV _)) (ay (aR (jj))) (aG)) (ao (aD (i:=4) C5.nd rfl ‹1› (ae (xv 2))) (ao (gz hp rfl (dz rfl bN (aa (ak aQ aP (aB bM bc hr ‹0› (aa (ae (xv 0)) (aa (ah) (aj)))) (ah)) (aj))) (aI (i:=5) C5.nd rfl ‹1›) (ao (aD (i:=4) C5.nd rfl ‹1› (aB gP bc hr ‹0› (aa (ae (xv 1)) (aa (ae (xv 4)) (aa (ae (xv 3)) (aa (aB eE bc hr ‹0› (aa (ae (xv 0)) (aa (ak aO aq (ah) (ae (xv 5))) (aj)))) (aj))))))) (cC [5] aG))) (ao (bA (aH (gS hr.units) aq (aB dH bc hr ‹0› (aa (ae (xv 1)) (aa (ae (xv 4)) (aj)))) (aB jm bc hr ‹0› (aa (ae (xv 1)) (aa (ae (xv 4)) (aj)))) (aV _)) (ay (aR (jj))) (aG)) (ay (aR (AG (lM (bS hr.units) aq (aB dH bc hr ‹0› (aa (ae (xv 4)) (aa (ae (xv 1)) (aj)))) (aB jm bc hr ‹0› (aa (ae (xv 4)) (aa (ae (xv 1)) (aj)))) (aV _)) (AD (lM (bS hr.units) aq (aB dH bc hr ‹0› (aa (ae (xv 1)) (aa (ae (xv 2)) (aj)))) (aA) (aV _))))))))))))⟩)
end
theorem xF {us:List MC} (h:us.length=1):∃ u0,us=[u0]:=match us,h with | [u0],_=>⟨u0,rfl⟩
theorem oU {us:List MC} (h:us.length=2):∃ u0 u1,us=[u0,u1]:=match us,h with | [u0,u1],_=>⟨u0,u1,rfl⟩
theorem A5 {us:List MC} (h:us.length=3):∃ u0 u1 u2,us=[u0,u1,u2]:=match us,h with | [u0,u1,u2],_=>⟨u0,u1,u2,rfl⟩
theorem Ig {us:List MC} (h:us.length=4):∃ u0 u1 u2 u3,us=[u0,u1,u2,u3]:=match us,h with | [u0,u1,u2,u3],_=>⟨u0,u1,u2,u3,rfl⟩
theorem Ie {us:List MC} (h:us.length=6):∃ u0 u1 u2 u3 u4 u5,us=[u0,u1,u2,u3,u4,u5]:=match us,h with | [u0,u1,u2,u3,u4,u5],_=>⟨u0,u1,u2,u3,u4,u5,rfl⟩
theorem all_mk {l:LO} {w:MD} {K:Lj} {h:MG} {mg:Str->Option MC} {fa:MF} (X:K.In h) (G:h.Ns MI mg) (hfa:mg "law"=some (.ref fa)) {f0 f1 f2 f3 f4 f5 f6 f7 f8 f9 f10 f11 f12 f13 f14 f15 f16 f17 f18 f19 f20 f21 f22 f23 Cl0 Cl1 Xl0 Xl1 Xl2 Xl3 Xl4 Xl5 Xl6 Xl7 Xl8 Xl9 Xl10 Xl11 Xl12 Xl13:MF} {od0 an0 od1 an1 od2 an2 od3 an3 od4 an4 od5 an5 od6 an6 od7 an7 od8 an8 od9 an9 od10 an10 od11 an11 od12 an12 od13 an13 od14 an14 od15 an15 od16 an16 od17 an17 od18 an18 od19 an19 od20 an20 od21 an21 od22 an22 od23 an23:Option MF} {sl0 sl1 sl2 sl3 sl4 sl5 sl6 sl7 sl8 sl9 sl10 sl11 sl12 sl13 sl14 sl15 sl16 sl17 sl18 sl19 sl20 sl21 sl22 sl23:Array (Option MC)} {oc0 kV0 dc0 pm0 cd0 ct0 oc1 kV1 dc1 pm1 cd1 ct1 oc2 kV2 dc2 pm2 cd2 ct2 oc3 kV3 dc3 pm3 cd3 ct3 oc4 kV4 dc4 pm4 cd4 ct4 oc5 kV5 dc5 pm5 cd5 ct5 oc6 kV6 dc6 pm6 cd6 ct6 oc7 kV7 dc7 pm7 cd7 ct7 oc8 kV8 dc8 pm8 cd8 ct8 oc9 kV9 dc9 pm9 cd9 ct9 oc10 kV10 dc10 pm10 cd10 ct10 oc11 kV11 dc11 pm11 cd11 ct11 oc12 kV12 dc12 pm12 cd12 ct12 oc13 kV13 dc13 pm13 cd13 ct13 oc14 kV14 dc14 pm14 cd14 ct14 oc15 kV15 dc15 pm15 cd15 ct15 oc16 kV16 dc16 pm16 cd16 ct16 oc17 kV17 dc17 pm17 cd17 ct17 oc18 kV18 dc18 pm18 cd18 ct18 oc19 kV19 dc19 pm19 cd19 ct19 oc20 kV20 dc20 pm20 cd20 ct20 oc21 kV21 dc21 pm21 cd21 ct21 oc22 kV22 dc22 pm22 cd22 ct22 oc23 kV23 dc23 pm23 cd23 ct23:MC} {tk0:Tok}
  (ac0:LQ K MI "Pair"=some (some (.ref Cl0)))
  (ac1:LQ K MI "Join"=some (some (.ref Cl1)))
  (a0:LQ K MI "_law_which"=some (some (.ref f0)))
  (l0:Lk K f0 "_law_which" "_law_which" eN oc0 od0 kV0 dc0 pm0 an0 cd0 ct0 sl0)
  (c0:LK K cd0 "_law_which"=true)
  (k0:LC K (.ref f0)=true)
  (a1:Lq K (.ref Cl0) "view_form"=some (some (.ref f1)))
  (i1:Lr K (.ref f1)=true)
  (l1:Lk K f1 "view_form" "Pair.view_form" dG oc1 od1 kV1 dc1 pm1 an1 cd1 ct1 sl1)
  (c1:LK K cd1 "Pair.view_form"=true)
  (k1:LC K (.ref f1)=true)
  (a2:LQ K MI "both_words"=some (some (.ref f2)))
  (l2:Lk K f2 "both_words" "both_words" gh oc2 od2 kV2 dc2 pm2 an2 cd2 ct2 sl2)
  (c2:LK K cd2 "both_words"=true)
  (k2:LC K (.ref f2)=true)
  (a3:LQ K MI "both_numbers"=some (some (.ref f3)))
  (l3:Lk K f3 "both_numbers" "both_numbers" eU oc3 od3 kV3 dc3 pm3 an3 cd3 ct3 sl3)
  (c3:LK K cd3 "both_numbers"=true)
  (k3:LC K (.ref f3)=true)
  (a4:LQ K MI "both"=some (some (.ref f4)))
  (l4:Lk K f4 "both" "both" sN oc4 od4 kV4 dc4 pm4 an4 cd4 ct4 sl4)
  (c4:LK K cd4 "both"=true)
  (k4:LC K (.ref f4)=true)
  (a5:LQ K MI "shared_key"=some (some (.ref f5)))
  (l5:Lk K f5 "shared_key" "shared_key" gf oc5 od5 kV5 dc5 pm5 an5 cd5 ct5 sl5)
  (c5:LK K cd5 "shared_key"=true)
  (k5:LC K (.ref f5)=true)
  (a6:Lq K (.ref Cl1) "view_form"=some (some (.ref f6)))
  (i6:Lr K (.ref f6)=true)
  (l6:Lk K f6 "view_form" "Join.view_form" dI oc6 od6 kV6 dc6 pm6 an6 cd6 ct6 sl6)
  (c6:LK K cd6 "Join.view_form"=true)
  (k6:LC K (.ref f6)=true)
  (a7:LQ K MI "_law_found"=some (some (.ref f7)))
  (l7:Lk K f7 "_law_found" "_law_found" gg oc7 od7 kV7 dc7 pm7 an7 cd7 ct7 sl7)
  (c7:LK K cd7 "_law_found"=true)
  (k7:LC K (.ref f7)=true)
  (a8:LQ K MI "_law_in_both"=some (some (.ref f8)))
  (l8:Lk K f8 "_law_in_both" "_law_in_both" eS oc8 od8 kV8 dc8 pm8 an8 cd8 ct8 sl8)
  (c8:LK K cd8 "_law_in_both"=true)
  (k8:LC K (.ref f8)=true)
  (a9:LQ K MI "_law_due"=some (some (.ref f9)))
  (l9:Lk K f9 "_law_due" "_law_due" i9 oc9 od9 kV9 dc9 pm9 an9 cd9 ct9 sl9)
  (c9:LK K cd9 "_law_due"=true)
  (k9:LC K (.ref f9)=true)
  (a10:LQ K MI "_law_apart"=some (some (.ref f10)))
  (l10:Lk K f10 "_law_apart" "_law_apart" gq oc10 od10 kV10 dc10 pm10 an10 cd10 ct10 sl10)
  (c10:LK K cd10 "_law_apart"=true)
  (k10:LC K (.ref f10)=true)
  (a11:LQ K MI "_law_name"=some (some (.ref f11)))
  (l11:Lk K f11 "_law_name" "_law_name" ic oc11 od11 kV11 dc11 pm11 an11 cd11 ct11 sl11)
  (c11:LK K cd11 "_law_name"=true)
  (k11:LC K (.ref f11)=true)
  (a12:LQ K MI "_law_spoiled"=some (some (.ref f12)))
  (l12:Lk K f12 "_law_spoiled" "_law_spoiled" eJ oc12 od12 kV12 dc12 pm12 an12 cd12 ct12 sl12)
  (c12:LK K cd12 "_law_spoiled"=true)
  (k12:LC K (.ref f12)=true)
  (a13:LQ K MI "_law_next"=some (some (.ref f13)))
  (l13:Lk K f13 "_law_next" "_law_next" gY oc13 od13 kV13 dc13 pm13 an13 cd13 ct13 sl13)
  (c13:LK K cd13 "_law_next"=true)
  (k13:LC K (.ref f13)=true)
  (a14:LQ K MI "_law_cell_at"=some (some (.ref f14)))
  (l14:Lk K f14 "_law_cell_at" "_law_cell_at" eV oc14 od14 kV14 dc14 pm14 an14 cd14 ct14 sl14)
  (c14:LK K cd14 "_law_cell_at"=true)
  (k14:LC K (.ref f14)=true)
  (a15:LQ K MI "_law_seed"=some (some (.ref f15)))
  (l15:Lk K f15 "_law_seed" "_law_seed" ia oc15 od15 kV15 dc15 pm15 an15 cd15 ct15 sl15)
  (c15:LK K cd15 "_law_seed"=true)
  (k15:LC K (.ref f15)=true)
  (a16:LQ K MI "_law_plain"=some (some (.ref f16)))
  (l16:Lk K f16 "_law_plain" "_law_plain" gv oc16 od16 kV16 dc16 pm16 an16 cd16 ct16 sl16)
  (c16:LK K cd16 "_law_plain"=true)
  (k16:LC K (.ref f16)=true)
  (a17:LQ K MI "_law_kind"=some (some (.ref f17)))
  (l17:Lk K f17 "_law_kind" "_law_kind" fQ oc17 od17 kV17 dc17 pm17 an17 cd17 ct17 sl17)
  (c17:LK K cd17 "_law_kind"=true)
  (k17:LC K (.ref f17)=true)
  (a18:LQ K MI "_law_form"=some (some (.ref f18)))
  (l18:Lk K f18 "_law_form" "_law_form" fV oc18 od18 kV18 dc18 pm18 an18 cd18 ct18 sl18)
  (c18:LK K cd18 "_law_form"=true)
  (k18:LC K (.ref f18)=true)
  (a19:LQ K MI "_law_some_words"=some (some (.ref f19)))
  (l19:Lk K f19 "_law_some_words" "_law_some_words" dq oc19 od19 kV19 dc19 pm19 an19 cd19 ct19 sl19)
  (c19:LK K cd19 "_law_some_words"=true)
  (k19:LC K (.ref f19)=true)
  (a20:LQ K MI "_law_two_kinds"=some (some (.ref f20)))
  (l20:Lk K f20 "_law_two_kinds" "_law_two_kinds" dF oc20 od20 kV20 dc20 pm20 an20 cd20 ct20 sl20)
  (c20:LK K cd20 "_law_two_kinds"=true)
  (k20:LC K (.ref f20)=true)
  (a21:LQ K MI "_law_two_keys"=some (some (.ref f21)))
  (l21:Lk K f21 "_law_two_keys" "_law_two_keys" eh oc21 od21 kV21 dc21 pm21 an21 cd21 ct21 sl21)
  (c21:LK K cd21 "_law_two_keys"=true)
  (k21:LC K (.ref f21)=true)
  (a22:LQ K MI "_law_joined_forms"=some (some (.ref f22)))
  (l22:Lk K f22 "_law_joined_forms" "_law_joined_forms" cO oc22 od22 kV22 dc22 pm22 an22 cd22 ct22 sl22)
  (c22:LK K cd22 "_law_joined_forms"=true)
  (k22:LC K (.ref f22)=true)
  (a23:LQ K MI "law"=some (some (.ref f23)))
  (l23:Lk K f23 "law" "law" o5 oc23 od23 kV23 dc23 pm23 an23 cd23 ct23 sl23)
  (c23:LK K cd23 "law"=true)
  (k23:LC K (.ref f23)=true)
  (p0:Lp K Cl0 Str.empty=true)
  (q0:Lz K Cl0=true)
  (r0:LA K Cl0=true)
  (s0:Lq K (.ref Cl0) "__setattr__"=some (some (.builtin "object.__setattr__")))
  (p1:Lp K Cl1 Str.empty=true)
  (q1:Lz K Cl1=true)
  (r1:LA K Cl1=true)
  (s1:Lq K (.ref Cl1) "__setattr__"=some (some (.builtin "object.__setattr__")))
  (o1:Lq K (.ref Cl1) "__init__"=some (some (.builtin "object.__init__")))
  (m1:Lv K Cl1=true)
  (kp1:LC K (.ref Cl1)=true)
  (xa0:LQ K MI "NoField"=some (some (.ref Xl0)))
  (xa1:LQ K MI "NoTable"=some (some (.ref Xl1)))
  (xa2:LQ K MI "NoForm"=some (some (.ref Xl2)))
  (xa3:LQ K MI "Nothing"=some (some (.ref Xl3)))
  (xa4:LQ K MI "NoKind"=some (some (.ref Xl4)))
  (xa5:LQ K MI "Twice"=some (some (.ref Xl5)))
  (xa6:LQ K MI "Blind"=some (some (.ref Xl6)))
  (xa7:LQ K MI "TooMany"=some (some (.ref Xl7)))
  (xa8:LQ K MI "NoKey"=some (some (.ref Xl8)))
  (xa9:LQ K MI "NoPane"=some (some (.ref Xl9)))
  (xa10:LQ K MI "Stale"=some (some (.ref Xl10)))
  (xa11:LQ K MI "Torn"=some (some (.ref Xl11)))
  (xa12:LQ K MI "NoText"=some (some (.ref Xl12)))
  (xa13:LQ K MI "GlassError"=some (some (.ref Xl13)))
  (xe4:LV K Xl4 En "ValueError.__new__"=true)
  (xe3:LV K Xl3 En "ValueError.__new__"=true)
  (xe5:LV K Xl5 En "ValueError.__new__"=true)
  (xe7:LV K Xl7 En "ValueError.__new__"=true)
  (xsg:PySem.W.specialIn K (.builtin "object.__class__") "__get__"=some (some (.builtin "getset_descriptor.__get__")))
  (xtk:PySem.W.takesIn K (.builtin "object.__class__")=some true)
  (xg5:Lq K (.ref Xl5) "__getattribute__"=some (some (.builtin "BaseException.__getattribute__")))
  (xn5:Lq K (.ref Xl5) "__getattr__"=some none)
  (xf5:Lq K (.ref Xl5) "__class__"=some (some (.builtin "object.__class__")))
  (xb5:LY K Xl5 (.type "BaseException")=some true)
  (xg4:Lq K (.ref Xl4) "__getattribute__"=some (some (.builtin "BaseException.__getattribute__")))
  (xn4:Lq K (.ref Xl4) "__getattr__"=some none)
  (xf4:Lq K (.ref Xl4) "__class__"=some (some (.builtin "object.__class__")))
  (xb4:LY K Xl4 (.type "BaseException")=some true)
  (xg3:Lq K (.ref Xl3) "__getattribute__"=some (some (.builtin "BaseException.__getattribute__")))
  (xn3:Lq K (.ref Xl3) "__getattr__"=some none)
  (xf3:Lq K (.ref Xl3) "__class__"=some (some (.builtin "object.__class__")))
  (xb3:LY K Xl3 (.type "BaseException")=some true)
  (xg7:Lq K (.ref Xl7) "__getattribute__"=some (some (.builtin "BaseException.__getattribute__")))
  (xn7:Lq K (.ref Xl7) "__getattr__"=some none)
  (xf7:Lq K (.ref Xl7) "__class__"=some (some (.builtin "object.__class__")))
  (xb7:LY K Xl7 (.type "BaseException")=some true)
  (xo0:LY K Xl0 (.type "object")=some true)
  (xt0:L6 K (.ref Xl0)=some (.type "type"))
  (xo1:LY K Xl1 (.type "object")=some true)
  (xt1:L6 K (.ref Xl1)=some (.type "type"))
  (xo2:LY K Xl2 (.type "object")=some true)
  (xt2:L6 K (.ref Xl2)=some (.type "type"))
  (xo3:LY K Xl3 (.type "object")=some true)
  (xt3:L6 K (.ref Xl3)=some (.type "type"))
  (xo4:LY K Xl4 (.type "object")=some true)
  (xt4:L6 K (.ref Xl4)=some (.type "type"))
  (xo5:LY K Xl5 (.type "object")=some true)
  (xt5:L6 K (.ref Xl5)=some (.type "type"))
  (xo6:LY K Xl6 (.type "object")=some true)
  (xt6:L6 K (.ref Xl6)=some (.type "type"))
  (xo7:LY K Xl7 (.type "object")=some true)
  (xt7:L6 K (.ref Xl7)=some (.type "type"))
  (xo8:LY K Xl8 (.type "object")=some true)
  (xt8:L6 K (.ref Xl8)=some (.type "type"))
  (xo9:LY K Xl9 (.type "object")=some true)
  (xt9:L6 K (.ref Xl9)=some (.type "type"))
  (xo10:LY K Xl10 (.type "object")=some true)
  (xt10:L6 K (.ref Xl10)=some (.type "type"))
  (xo11:LY K Xl11 (.type "object")=some true)
  (xt11:L6 K (.ref Xl11)=some (.type "type"))
  (xo12:LY K Xl12 (.type "object")=some true)
  (xt12:L6 K (.ref Xl12)=some (.type "type"))
  (xo13:LY K Xl13 (.type "object")=some true)
  (xt13:L6 K (.ref Xl13)=some (.type "type"))
  (xw13:LZ K (.ref Xl13) (.type "BaseException")=some true)
  (xm13_5:LZ K (.ref Xl5) (.ref Xl13)=some true)
  (xm13_4:LZ K (.ref Xl4) (.ref Xl13)=some true)
  (xm13_3:LZ K (.ref Xl3) (.ref Xl13)=some true)
  (xm13_7:LZ K (.ref Xl7) (.ref Xl13)=some true)
  (xk0_5:LZ K (.ref Xl5) (.ref Xl0)=some false)
  (vnx0_5:Xl5≠Xl0)
  (xk0_4:LZ K (.ref Xl4) (.ref Xl0)=some false)
  (vnx0_4:Xl4≠Xl0)
  (xk0_3:LZ K (.ref Xl3) (.ref Xl0)=some false)
  (vnx0_3:Xl3≠Xl0)
  (xk0_7:LZ K (.ref Xl7) (.ref Xl0)=some false)
  (vnx0_7:Xl7≠Xl0)
  (xk1_5:LZ K (.ref Xl5) (.ref Xl1)=some false)
  (vnx1_5:Xl5≠Xl1)
  (xk1_4:LZ K (.ref Xl4) (.ref Xl1)=some false)
  (vnx1_4:Xl4≠Xl1)
  (xk1_3:LZ K (.ref Xl3) (.ref Xl1)=some false)
  (vnx1_3:Xl3≠Xl1)
  (xk1_7:LZ K (.ref Xl7) (.ref Xl1)=some false)
  (vnx1_7:Xl7≠Xl1)
  (xk2_5:LZ K (.ref Xl5) (.ref Xl2)=some false)
  (vnx2_5:Xl5≠Xl2)
  (xk2_4:LZ K (.ref Xl4) (.ref Xl2)=some false)
  (vnx2_4:Xl4≠Xl2)
  (xk2_3:LZ K (.ref Xl3) (.ref Xl2)=some false)
  (vnx2_3:Xl3≠Xl2)
  (xk2_7:LZ K (.ref Xl7) (.ref Xl2)=some false)
  (vnx2_7:Xl7≠Xl2)
  (xk3_5:LZ K (.ref Xl5) (.ref Xl3)=some false)
  (vnx3_5:Xl5≠Xl3)
  (xk3_4:LZ K (.ref Xl4) (.ref Xl3)=some false)
  (vnx3_4:Xl4≠Xl3)
  (xk3_3:LZ K (.ref Xl3) (.ref Xl3)=some true)
  (xk3_7:LZ K (.ref Xl7) (.ref Xl3)=some false)
  (vnx3_7:Xl7≠Xl3)
  (xk4_5:LZ K (.ref Xl5) (.ref Xl4)=some false)
  (vnx4_5:Xl5≠Xl4)
  (xk4_4:LZ K (.ref Xl4) (.ref Xl4)=some true)
  (xk4_3:LZ K (.ref Xl3) (.ref Xl4)=some false)
  (vnx4_3:Xl3≠Xl4)
  (xk4_7:LZ K (.ref Xl7) (.ref Xl4)=some false)
  (vnx4_7:Xl7≠Xl4)
  (xk5_5:LZ K (.ref Xl5) (.ref Xl5)=some true)
  (xk5_4:LZ K (.ref Xl4) (.ref Xl5)=some false)
  (vnx5_4:Xl4≠Xl5)
  (xk5_3:LZ K (.ref Xl3) (.ref Xl5)=some false)
  (vnx5_3:Xl3≠Xl5)
  (xk5_7:LZ K (.ref Xl7) (.ref Xl5)=some false)
  (vnx5_7:Xl7≠Xl5)
  (xk6_5:LZ K (.ref Xl5) (.ref Xl6)=some false)
  (vnx6_5:Xl5≠Xl6)
  (xk6_4:LZ K (.ref Xl4) (.ref Xl6)=some false)
  (vnx6_4:Xl4≠Xl6)
  (xk6_3:LZ K (.ref Xl3) (.ref Xl6)=some false)
  (vnx6_3:Xl3≠Xl6)
  (xk6_7:LZ K (.ref Xl7) (.ref Xl6)=some false)
  (vnx6_7:Xl7≠Xl6)
  (xk7_5:LZ K (.ref Xl5) (.ref Xl7)=some false)
  (vnx7_5:Xl5≠Xl7)
  (xk7_4:LZ K (.ref Xl4) (.ref Xl7)=some false)
  (vnx7_4:Xl4≠Xl7)
  (xk7_3:LZ K (.ref Xl3) (.ref Xl7)=some false)
  (vnx7_3:Xl3≠Xl7)
  (xk7_7:LZ K (.ref Xl7) (.ref Xl7)=some true)
  (xk8_5:LZ K (.ref Xl5) (.ref Xl8)=some false)
  (vnx8_5:Xl5≠Xl8)
  (xk8_4:LZ K (.ref Xl4) (.ref Xl8)=some false)
  (vnx8_4:Xl4≠Xl8)
  (xk8_3:LZ K (.ref Xl3) (.ref Xl8)=some false)
  (vnx8_3:Xl3≠Xl8)
  (xk8_7:LZ K (.ref Xl7) (.ref Xl8)=some false)
  (vnx8_7:Xl7≠Xl8)
  (xk9_5:LZ K (.ref Xl5) (.ref Xl9)=some false)
  (vnx9_5:Xl5≠Xl9)
  (xk9_4:LZ K (.ref Xl4) (.ref Xl9)=some false)
  (vnx9_4:Xl4≠Xl9)
  (xk9_3:LZ K (.ref Xl3) (.ref Xl9)=some false)
  (vnx9_3:Xl3≠Xl9)
  (xk9_7:LZ K (.ref Xl7) (.ref Xl9)=some false)
  (vnx9_7:Xl7≠Xl9)
  (xk10_5:LZ K (.ref Xl5) (.ref Xl10)=some false)
  (vnx10_5:Xl5≠Xl10)
  (xk10_4:LZ K (.ref Xl4) (.ref Xl10)=some false)
  (vnx10_4:Xl4≠Xl10)
  (xk10_3:LZ K (.ref Xl3) (.ref Xl10)=some false)
  (vnx10_3:Xl3≠Xl10)
  (xk10_7:LZ K (.ref Xl7) (.ref Xl10)=some false)
  (vnx10_7:Xl7≠Xl10)
  (xk11_5:LZ K (.ref Xl5) (.ref Xl11)=some false)
  (vnx11_5:Xl5≠Xl11)
  (xk11_4:LZ K (.ref Xl4) (.ref Xl11)=some false)
  (vnx11_4:Xl4≠Xl11)
  (xk11_3:LZ K (.ref Xl3) (.ref Xl11)=some false)
  (vnx11_3:Xl3≠Xl11)
  (xk11_7:LZ K (.ref Xl7) (.ref Xl11)=some false)
  (vnx11_7:Xl7≠Xl11)
  (xk12_5:LZ K (.ref Xl5) (.ref Xl12)=some false)
  (vnx12_5:Xl5≠Xl12)
  (xk12_4:LZ K (.ref Xl4) (.ref Xl12)=some false)
  (vnx12_4:Xl4≠Xl12)
  (xk12_3:LZ K (.ref Xl3) (.ref Xl12)=some false)
  (vnx12_3:Xl3≠Xl12)
  (xk12_7:LZ K (.ref Xl7) (.ref Xl12)=some false)
  (vnx12_7:Xl7≠Xl12)
  (xv_ValueError_5:LZ K (.ref Xl5) (.type "ValueError")=some true)
  (xv_ValueError_4:LZ K (.ref Xl4) (.type "ValueError")=some true)
  (xv_ValueError_3:LZ K (.ref Xl3) (.type "ValueError")=some true)
  (xv_ValueError_7:LZ K (.ref Xl7) (.type "ValueError")=some true)
  (z0:LQ K MI "isinstance"=some none)
  (z1:LQ K MI "ValueError"=some none)
  (z2:LQ K MI "tuple"=some none)
  (z3:LQ K MI "max"=some none)
  (z4:LQ K MI "min"=some none)
  (z5:LQ K MI "zip"=some none)
  (z6:LQ K MI "any"=some none)
  (z7:LQ K MI "len"=some none)
  (z8:LQ K MI "range"=some none)
  (z9:LQ K MI "list"=some none)
  (z10:LQ K MI "int"=some none)
  (z11:LQ K MI "sorted"=some none)
  (z12:LQ K MI "enumerate"=some none)
  (e0:LQ K MI "MOST_FIELDS"=some (some (.int 8 tk0))) :
  ∃ fd:Nf,(∀ (s:ML) (v:MC),Ng s fd ⟨[v],[]⟩ [("_law_script",v)])/\∀ base:MG,K.In base->base.Ns MI mg->kT l.prog w K mg base (lS l.prog w) 15 fa fd ["_law_script"] (w4 K 1 (bp pM 1 6)):=by
 have e:=hfa.symm.trans (L8 X G a23)
 cases e
 have aE:=L9 X G z0
 have dM:=L9 X G z1
 have bj:=L9 X G z2
 have rq:=L9 X G z3
 have qE:=L9 X G z4
 have lI:=L9 X G z5
 have zS:=L9 X G z6
 have cF:=L9 X G z7
 have bN:=L9 X G z8
 have iu:=L9 X G z9
 have zj:=L9 X G z10
 have iQ:=L9 X G z11
 have ie:=L9 X G z12
 have c_MOST_FIELDS:∃ t,mg "MOST_FIELDS"=some (.int 8 t):=⟨_,L8 X G e0⟩
 have F0:=cw (st:=eN) l0 c0 k0
 have b0:=F0.binds (ps:=["_law_error"]) fun _ _ _ _ _ _ us hl=>by obtain⟨u0,rfl⟩:=xF hl; rfl
 have F1:=cw (st:=dG) l1 c1 k1
 have b1:=F1.binds (ps:=["self","one","other"]) fun _ _ _ _ _ _ us hl=>by obtain⟨u0,u1,u2,rfl⟩:=A5 hl; rfl
 have F2:=cw (st:=gh) l2 c2 k2
 have b2:=F2.binds (ps:=["one","other"]) fun _ _ _ _ _ _ us hl=>by obtain⟨u0,u1,rfl⟩:=oU hl; rfl
 have F3:=cw (st:=eU) l3 c3 k3
 have b3:=F3.binds (ps:=["one","other"]) fun _ _ _ _ _ _ us hl=>by obtain⟨u0,u1,rfl⟩:=oU hl; rfl
 have F4:=cw (st:=sN) l4 c4 k4
 have b4:=F4.binds (ps:=["one","other"]) fun _ _ _ _ _ _ us hl=>by obtain⟨u0,u1,rfl⟩:=oU hl; rfl
 have F5:=cw (st:=gf) l5 c5 k5
 have b5:=F5.binds (ps:=["one","other"]) fun _ _ _ _ _ _ us hl=>by obtain⟨u0,u1,rfl⟩:=oU hl; rfl
 have F6:=cw (st:=dI) l6 c6 k6
 have b6:=F6.binds (ps:=["self","one","other"]) fun _ _ _ _ _ _ us hl=>by obtain⟨u0,u1,u2,rfl⟩:=A5 hl; rfl
 have F7:=cw (st:=gg) l7 c7 k7
 have b7:=F7.binds (ps:=["_law_one","_law_other"]) fun _ _ _ _ _ _ us hl=>by obtain⟨u0,u1,rfl⟩:=oU hl; rfl
 have F8:=cw (st:=eS) l8 c8 k8
 have b8:=F8.binds (ps:=["_law_one","_law_other"]) fun _ _ _ _ _ _ us hl=>by obtain⟨u0,u1,rfl⟩:=oU hl; rfl
 have F9:=cw (st:=i9) l9 c9 k9
 have b9:=F9.binds (ps:=["_law_one","_law_other"]) fun _ _ _ _ _ _ us hl=>by obtain⟨u0,u1,rfl⟩:=oU hl; rfl
 have F10:=cw (st:=gq) l10 c10 k10
 have b10:=F10.binds (ps:=["_law_kind_here","_law_x"]) fun _ _ _ _ _ _ us hl=>by obtain⟨u0,u1,rfl⟩:=oU hl; rfl
 have F11:=cw (st:=ic) l11 c11 k11
 have b11:=F11.binds (ps:=["_law_base","_law_k"]) fun _ _ _ _ _ _ us hl=>by obtain⟨u0,u1,rfl⟩:=oU hl; rfl
 have F12:=cw (st:=eJ) l12 c12 k12
 have b12:=F12.binds (ps:=["_law_one","_law_other","_law_base","_law_x"]) fun _ _ _ _ _ _ us hl=>by obtain⟨u0,u1,u2,u3,rfl⟩:=Ig hl; rfl
 have F13:=cw (st:=gY) l13 c13 k13
 have b13:=F13.binds (ps:=["_law_x"]) fun _ _ _ _ _ _ us hl=>by obtain⟨u0,rfl⟩:=xF hl; rfl
 have F14:=cw (st:=eV) l14 c14 k14
 have b14:=F14.binds (ps:=["_law_script","_law_k"]) fun _ _ _ _ _ _ us hl=>by obtain⟨u0,u1,rfl⟩:=oU hl; rfl
 have F15:=cw (st:=ia) l15 c15 k15
 have b15:=F15.binds (ps:=["_law_script","_law_k"]) fun _ _ _ _ _ _ us hl=>by obtain⟨u0,u1,rfl⟩:=oU hl; rfl
 have F16:=cw (st:=gv) l16 c16 k16
 have b16:=F16.binds (ps:=["_law_x"]) fun _ _ _ _ _ _ us hl=>by obtain⟨u0,rfl⟩:=xF hl; rfl
 have F17:=cw (st:=fQ) l17 c17 k17
 have b17:=F17.binds (ps:=["_law_x","_law_base","_law_deep"]) fun _ _ _ _ _ _ us hl=>by obtain⟨u0,u1,u2,rfl⟩:=A5 hl; rfl
 have F18:=cw (st:=fV) l18 c18 k18
 have b18:=F18.binds (ps:=["_law_x","_law_base","_law_start","_law_many","_law_more","_law_deep"]) fun _ _ _ _ _ _ us hl=>by obtain⟨u0,u1,u2,u3,u4,u5,rfl⟩:=Ie hl; rfl
 have F19:=cw (st:=dq) l19 c19 k19
 have b19:=F19.binds (ps:=["_law_x"]) fun _ _ _ _ _ _ us hl=>by obtain⟨u0,rfl⟩:=xF hl; rfl
 have F20:=cw (st:=dF) l20 c20 k20
 have b20:=F20.binds (ps:=["_law_x"]) fun _ _ _ _ _ _ us hl=>by obtain⟨u0,rfl⟩:=xF hl; rfl
 have F21:=cw (st:=eh) l21 c21 k21
 have b21:=F21.binds (ps:=["_law_x","_law_base","_law_many"]) fun _ _ _ _ _ _ us hl=>by obtain⟨u0,u1,u2,rfl⟩:=A5 hl; rfl
 have F22:=cw (st:=cO) l22 c22 k22
 have b22:=F22.binds (ps:=["_law_script"]) fun _ _ _ _ _ _ us hl=>by obtain⟨u0,rfl⟩:=xF hl; rfl
 have F23:=cw (st:=o5) l23 c23 k23
 have cl0:Dc K Cl0:=⟨p0,q0,r0,s0⟩
 have cl1:Dc K Cl1:=⟨p1,q1,r1,s1⟩
 refine⟨LJ "law" "law" (kG o5) (eP o5) (aC o5) .none kV23 dc23 pm23 an23 cd23 ct23,fun s v=>.of_eq rfl,fun base _ _=>?_⟩
 have E_NoKind:ExcAt K mg "NoKind":=⟨_,xa4,L8 X G xa4,xe4⟩
 have E_Nothing:ExcAt K mg "Nothing":=⟨_,xa3,L8 X G xa3,xe3⟩
 have E_Twice:ExcAt K mg "Twice":=⟨_,xa5,L8 X G xa5,xe5⟩
 have E_TooMany:ExcAt K mg "TooMany":=⟨_,xa7,L8 X G xa7,xe7⟩
 have xK5:sE K Xl5:=⟨xg5,xn5,xf5,xsg,xtk,xo5,xb5⟩
 have xK4:sE K Xl4:=⟨xg4,xn4,xf4,xsg,xtk,xo4,xb4⟩
 have xK3:sE K Xl3:=⟨xg3,xn3,xf3,xsg,xtk,xo3,xb3⟩
 have xK7:sE K Xl7:=⟨xg7,xn7,xf7,xsg,xtk,xo7,xb7⟩
 have T_GlassError:uc K mg "GlassError" ["Twice","NoKind","Nothing","TooMany"]:=zm (L8 X G xa13) (by
  intro c hc
  simp only [Kn,Lc,or_false] at hc
  rcases hc with rfl | rfl | rfl | rfl
  ·exact⟨_,xa5,oG xw13 xm13_5 xo13 xt13⟩
  ·exact⟨_,xa4,oG xw13 xm13_4 xo13 xt13⟩
  ·exact⟨_,xa3,oG xw13 xm13_3 xo13 xt13⟩
  ·exact⟨_,xa7,oG xw13 xm13_7 xo13 xt13⟩)
 have gB:bR K mg "NoField" [("Twice",false),("NoKind",false),("Nothing",false),("TooMany",false)]:=⟨_,L8 X G xa0,az xa5 xK5 (aK xk0_5 xo0 xt0 (.inr vnx0_5)) (az xa4 xK4 (aK xk0_4 xo0 xt0 (.inr vnx0_4)) (az xa3 xK3 (aK xk0_3 xo0 xt0 (.inr vnx0_3)) (az xa7 xK7 (aK xk0_7 xo0 xt0 (.inr vnx0_7)) (cI))))⟩
 have gH:bR K mg "NoTable" [("Twice",false),("NoKind",false),("Nothing",false),("TooMany",false)]:=⟨_,L8 X G xa1,az xa5 xK5 (aK xk1_5 xo1 xt1 (.inr vnx1_5)) (az xa4 xK4 (aK xk1_4 xo1 xt1 (.inr vnx1_4)) (az xa3 xK3 (aK xk1_3 xo1 xt1 (.inr vnx1_3)) (az xa7 xK7 (aK xk1_7 xo1 xt1 (.inr vnx1_7)) (cI))))⟩
 have iU:bR K mg "NoForm" [("Twice",false),("NoKind",false),("Nothing",false),("TooMany",false)]:=⟨_,L8 X G xa2,az xa5 xK5 (aK xk2_5 xo2 xt2 (.inr vnx2_5)) (az xa4 xK4 (aK xk2_4 xo2 xt2 (.inr vnx2_4)) (az xa3 xK3 (aK xk2_3 xo2 xt2 (.inr vnx2_3)) (az xa7 xK7 (aK xk2_7 xo2 xt2 (.inr vnx2_7)) (cI))))⟩
 have gG:bR K mg "Nothing" [("Twice",false),("NoKind",false),("Nothing",true),("TooMany",false)]:=⟨_,L8 X G xa3,az xa5 xK5 (aK xk3_5 xo3 xt3 (.inr vnx3_5)) (az xa4 xK4 (aK xk3_4 xo3 xt3 (.inr vnx3_4)) (az xa3 xK3 (aK xk3_3 xo3 xt3 (.inl rfl)) (az xa7 xK7 (aK xk3_7 xo3 xt3 (.inr vnx3_7)) (cI))))⟩
 have iN:bR K mg "NoKind" [("Twice",false),("NoKind",true),("Nothing",false),("TooMany",false)]:=⟨_,L8 X G xa4,az xa5 xK5 (aK xk4_5 xo4 xt4 (.inr vnx4_5)) (az xa4 xK4 (aK xk4_4 xo4 xt4 (.inl rfl)) (az xa3 xK3 (aK xk4_3 xo4 xt4 (.inr vnx4_3)) (az xa7 xK7 (aK xk4_7 xo4 xt4 (.inr vnx4_7)) (cI))))⟩
 have kn:bR K mg "Twice" [("Twice",true),("NoKind",false),("Nothing",false),("TooMany",false)]:=⟨_,L8 X G xa5,az xa5 xK5 (aK xk5_5 xo5 xt5 (.inl rfl)) (az xa4 xK4 (aK xk5_4 xo5 xt5 (.inr vnx5_4)) (az xa3 xK3 (aK xk5_3 xo5 xt5 (.inr vnx5_3)) (az xa7 xK7 (aK xk5_7 xo5 xt5 (.inr vnx5_7)) (cI))))⟩
 have kB:bR K mg "Blind" [("Twice",false),("NoKind",false),("Nothing",false),("TooMany",false)]:=⟨_,L8 X G xa6,az xa5 xK5 (aK xk6_5 xo6 xt6 (.inr vnx6_5)) (az xa4 xK4 (aK xk6_4 xo6 xt6 (.inr vnx6_4)) (az xa3 xK3 (aK xk6_3 xo6 xt6 (.inr vnx6_3)) (az xa7 xK7 (aK xk6_7 xo6 xt6 (.inr vnx6_7)) (cI))))⟩
 have gA:bR K mg "TooMany" [("Twice",false),("NoKind",false),("Nothing",false),("TooMany",true)]:=⟨_,L8 X G xa7,az xa5 xK5 (aK xk7_5 xo7 xt7 (.inr vnx7_5)) (az xa4 xK4 (aK xk7_4 xo7 xt7 (.inr vnx7_4)) (az xa3 xK3 (aK xk7_3 xo7 xt7 (.inr vnx7_3)) (az xa7 xK7 (aK xk7_7 xo7 xt7 (.inl rfl)) (cI))))⟩
 have kg:bR K mg "NoKey" [("Twice",false),("NoKind",false),("Nothing",false),("TooMany",false)]:=⟨_,L8 X G xa8,az xa5 xK5 (aK xk8_5 xo8 xt8 (.inr vnx8_5)) (az xa4 xK4 (aK xk8_4 xo8 xt8 (.inr vnx8_4)) (az xa3 xK3 (aK xk8_3 xo8 xt8 (.inr vnx8_3)) (az xa7 xK7 (aK xk8_7 xo8 xt8 (.inr vnx8_7)) (cI))))⟩
 have iH:bR K mg "NoPane" [("Twice",false),("NoKind",false),("Nothing",false),("TooMany",false)]:=⟨_,L8 X G xa9,az xa5 xK5 (aK xk9_5 xo9 xt9 (.inr vnx9_5)) (az xa4 xK4 (aK xk9_4 xo9 xt9 (.inr vnx9_4)) (az xa3 xK3 (aK xk9_3 xo9 xt9 (.inr vnx9_3)) (az xa7 xK7 (aK xk9_7 xo9 xt9 (.inr vnx9_7)) (cI))))⟩
 have jY:bR K mg "Stale" [("Twice",false),("NoKind",false),("Nothing",false),("TooMany",false)]:=⟨_,L8 X G xa10,az xa5 xK5 (aK xk10_5 xo10 xt10 (.inr vnx10_5)) (az xa4 xK4 (aK xk10_4 xo10 xt10 (.inr vnx10_4)) (az xa3 xK3 (aK xk10_3 xo10 xt10 (.inr vnx10_3)) (az xa7 xK7 (aK xk10_7 xo10 xt10 (.inr vnx10_7)) (cI))))⟩
 have mZ:bR K mg "Torn" [("Twice",false),("NoKind",false),("Nothing",false),("TooMany",false)]:=⟨_,L8 X G xa11,az xa5 xK5 (aK xk11_5 xo11 xt11 (.inr vnx11_5)) (az xa4 xK4 (aK xk11_4 xo11 xt11 (.inr vnx11_4)) (az xa3 xK3 (aK xk11_3 xo11 xt11 (.inr vnx11_3)) (az xa7 xK7 (aK xk11_7 xo11 xt11 (.inr vnx11_7)) (cI))))⟩
 have iY:bR K mg "NoText" [("Twice",false),("NoKind",false),("Nothing",false),("TooMany",false)]:=⟨_,L8 X G xa12,az xa5 xK5 (aK xk12_5 xo12 xt12 (.inr vnx12_5)) (az xa4 xK4 (aK xk12_4 xo12 xt12 (.inr vnx12_4)) (az xa3 xK3 (aK xk12_3 xo12 xt12 (.inr vnx12_3)) (az xa7 xK7 (aK xk12_7 xo12 xt12 (.inr vnx12_7)) (cI))))⟩
 have V_ValueError:p5 K (.type "ValueError") [("Twice",true),("NoKind",true),("Nothing",true),("TooMany",true)]:=az xa5 xK5 (tj xv_ValueError_5) (az xa4 xK4 (tj xv_ValueError_4) (az xa3 xK3 (tj xv_ValueError_3) (az xa7 xK7 (tj xv_ValueError_7) (cI))))
 have N_Join:vZ K mg "Join":=⟨_,ac1,⟨m1,o1,kp1⟩,L8 X G ac1⟩
 have AR:=bG F0 b0 (L8 X G a0) kR (dr.ok (p3 (P:=l.prog) (w:=w) (base:=base) (f:=f0) gB gH iU gG iN kn kB gA kg iH jY mZ iY V_ValueError aE dM))
 have iw:=uX F0 b0 (L8 X G a0) kR (zt.ok (oK (P:=l.prog) (w:=w) (base:=base) (f:=f0) gB gH iU gG iN kn kB gA kg iH jY mZ iY V_ValueError aE dM))
 have okb_Pair_view_form:=lD (P:=l.prog) (w:=w) (base:=base) (K:=K) (mg:=mg) (f:=f1)
 have jd:=bG F2 b2 (L8 X G a2) qc (dr.ok (qa (P:=l.prog) (w:=w) (base:=base) (f:=f2) bj))
 have gQ:=bG F3 b3 (L8 X G a3) n8 (dr.ok (om (P:=l.prog) (w:=w) (base:=base) (f:=f3) rq qE))
 have rT:=bG F4 b4 (L8 X G a4) Be (dr.ok (A9 (P:=l.prog) (w:=w) (base:=base) (f:=f4) gQ jd))
 have jb:=bG F5 b5 (L8 X G a5) qi (dr.ok (qf (P:=l.prog) (w:=w) (base:=base) (f:=f5) rT E_NoKind E_Nothing lI bj))
 have okb_Join_view_form:=lE (P:=l.prog) (w:=w) (base:=base) (K:=K) (mg:=mg) (f:=f6) jb E_Twice E_TooMany zS cF c_MOST_FIELDS
 have eG:nN l.prog w K mg base 4 "view_form" ["self","one","other"] [("Pair",(bp cB 3 3)),("Join",(bp bb 3 5))]:=t6 (MethAt.mono (qH (c := "Pair") (m := "view_form") ac0 cl0 ⟨a1,i1,k1⟩ F1 b1 lW (dr.ok okb_Pair_view_form)) (by decide)) bc (t6 (MethAt.mono (qH (c := "Join") (m := "view_form") ac1 cl1 ⟨a6,i6,k6⟩ F6 b6 lG (dr.ok okb_Join_view_form)) (by decide)) bc (Bh))
 have dH:=bG F7 b7 (L8 X G a7) pZ (dr.ok (qm (P:=l.prog) (w:=w) (base:=base) (f:=f7) iw eG N_Join T_GlassError))
 have gO:=bG F8 b8 (L8 X G a8) ou (dr.ok (oi (P:=l.prog) (w:=w) (base:=base) (f:=f8) qE rq bj))
 have jm:=bG F9 b9 (L8 X G a9) t7 (dr.ok (t9 (P:=l.prog) (w:=w) (base:=base) (f:=f9) gO lI cF))
 have jf:=bG F10 b10 (L8 X G a10) qd (dr.ok (qk (P:=l.prog) (w:=w) (base:=base) (f:=f10) ))
 have bg:=bG F11 b11 (L8 X G a11) su (dr.ok (tq (P:=l.prog) (w:=w) (base:=base) (f:=f11) bN))
 have gP:=bG F12 b12 (L8 X G a12) oa (dr.ok (oh (P:=l.prog) (w:=w) (base:=base) (f:=f12) bg jf iu cF bN zj bj))
 have aU:=bG F13 b13 (L8 X G a13) sW (dr.ok (sj (P:=l.prog) (w:=w) (base:=base) (f:=f13) ))
 have bM:=bG F14 b14 (L8 X G a14) ot (dr.ok (oq (P:=l.prog) (w:=w) (base:=base) (f:=f14) cF))
 have eE:=bG F15 b15 (L8 X G a15) rV (dr.ok (sL (P:=l.prog) (w:=w) (base:=base) (f:=f15) bM aU))
 have cx:=bG F16 b16 (L8 X G a16) qe (dr.ok (p9 (P:=l.prog) (w:=w) (base:=base) (f:=f16) bN cF bj iQ iu))
 have fam:=kS (P:=l.prog) (w:=w) (base:=base) F17 b17 (L8 X G a17) F18 b18 (L8 X G a18) cx aU bg bN bj 12
 have jE:=fam.1
 have dD:=fam.2
 have eM:=bG F19 b19 (L8 X G a19) li (dr.ok (lg (P:=l.prog) (w:=w) (base:=base) (f:=f19) iQ iu))
 have fh:=bG F20 b20 (L8 X G a20) mh (dr.ok (lZ (P:=l.prog) (w:=w) (base:=base) (f:=f20) aU eM cF bj ie))
 have fW:=bG F21 b21 (L8 X G a21) mr (dr.ok (mP (P:=l.prog) (w:=w) (base:=base) (f:=f21) aU fh bg bN bj))
 have dQ:=bG F22 b22 (L8 X G a22) jT (dr.ok (jO (P:=l.prog) (w:=w) (base:=base) (f:=f22) eE bM fW aU dD))
 exact Cv (P:=l.prog) (w:=w) (base:=base) F23 dQ bM dH gP eE jm bN
theorem walk {l:LO} {q:ME} {loose:List Str} {XP:(Str->Option MC)->MG->Prop} {YP:MD->MG->Prop} {d:DefRec} {K:Params->Lj} (hn:l.most=some 63) (hdf:d.params.defaults=[])
  (hY:∀ (w:MD) (h:MG),YP w h->(K w.params).In h)
  (F:∀ (w:MD) (mg:Str->Option MC) (fa:MF) (h:MG),(K w.params).In h->h.Ns MI mg->mg d.name=some (.ref fa) ->
   ∃ fd:Nf,(∀ (s:ML) (u:MC),Ng s fd ⟨[u],[]⟩ [("_law_script",u)])/\∀ base:MG,(K w.params).In base->base.Ns MI mg->kT l.prog w (K w.params) mg base (lS l.prog w) 15 fa fd ["_law_script"] (w4 (K w.params) 1 (bp pM 1 6)))
  (math:∀ ns:List Int,ns.length<=63->bp pM 1 6 [.lst (ns.map .int)]=.ok (.bl true)):PySem.W.WalkO q loose XP YP l.row.toRowW d [] (fun f vs=>PySem.call f vs) :=
 L2.Gz (n:=63) (k:=15) (x := "_law_script") (CX:=fun w=>lS l.prog w) (sp:=fun w=>w4 (K w.params) 1 (bp pM 1 6)) hn (by decide) hdf ⟨rfl,by decide,by decide⟩ hY F
  (fun w H a ns hl _ hS=>⟨[],[.lst (ns.map .int)],rfl,⟨trivial,fun a h=>nomatch h⟩,by rw [AY]; exact bx.mpr ⟨.ref a,[],rfl,cg.mpr ⟨a,_,rfl,hS,qX ns⟩,bZ.mpr rfl⟩,by rw [math ns hl]; exact fun v H' _ d=>jq.mp d⟩) fun _ _ _ _ _ z=>by obtain⟨_,_,_,_,_,_,_,_,_,_,_,_,_,z⟩:=z; exact z
end Tk52
namespace Tk52
open PySem PySem.Spec L2 TG TD T4
local macro_rules
 | `(tactic| simp! only [$xs,*])=>`(tactic| simp only [fT,rK,nS,rE,nJ,fI,ge_0,yc,mI,xQ,mS,ko,nH,nz,xY,xH,xZ,xm,wO,mH,mB,qQ,iB,j6,nG,kH,rj,nc,nD,kt,mq,iS,mY,iT,iD,gD,gC,mJ,jX,gE,kq,iJ,kz,jZ,gm,jV,iV,kW,kj,iz,hX,kK,ke,wK,qz,xJ,wJ,xn,ng,j8,m7,kJ,kF,xj,xV,K4,K5,JO,JN,J1,Kf,K0,env0,List.replicate,K6,JA,Kv,Nat.reduceAdd,Nat.reduceSub,JT,JU,nh,mU,qv,mL,my,mO,gF,nB,qJ,rk,qo,mM,iK,iI,i5,iF,iM,iX,lL,qM,rJ,qw,qI,rF,iL,iW,e7,fE,mR,gK,fG,eZ,fw,mE,nE,fH,fA,i3,iP,kI,kC,i7,j5,nu,nA,jW,kA,gN,if_true,if_false,K7,K8,JY,$xs,*])
inductive Kd where
 | num (lo hi:Int) | wrd (ws:List Str)
def Kd.d:Kd->D
 | .num lo hi=>.tup [.str "number",.int lo,.int hi]
 | .wrd ws=>.tup [.str "word",.tup (ws.map .str)]
def mx (i j:Int):Int:=if j > i then j else i
def mn (i j:Int):Int:=if j < i then j else i
theorem uK {a b:Kd} (ha:pl a.d=true) (hb:pl b.d=true):eI a.d b.d=some (.bl (pyEq a.d b.d)):=by
 have e:eI a.d b.d=if (pl a.d && pl b.d) && (ck 8 a.d || ck 8 b.d) then some (.bl (pyEq a.d b.d)) else none:=rfl
 have d:ck 8 a.d=true:=by
  cases a with
  | num _ _=>rfl
  | wrd ws =>
   show [D.str "word",.tup (ws.map .str)].all (ck 7)=true
   show (ck 7 (.str "word") && (ck 7 (.tup (ws.map .str)) && true))=true
   have:ck 7 (.tup (ws.map .str))=true:=by
    show (ws.map D.str).all (ck 6)=true
    rw [J7]
    exact List.all_eq_true.mpr fun _ _=>rfl
   rw [this]; rfl
 rw [e,ha,hb,d]; rfl
theorem Ak (a:Kd):pl a.d=true:=by
 cases a with
 | num _ _=>rfl
 | wrd ws =>
  show pl (.tup [.str "word",.tup (ws.map .str)])=true
  rw [ce]
  show (pl (.str "word") && (pl (.tup (ws.map .str)) && fX []))=true
  rw [ce,mj D.str fun _=>rfl]; rfl
def Kd.srt:Kd->Str
 | .num _ _ => "number"
 | .wrd _ => "word"
def Kd.ok:Kd->Prop
 | .num _ _=>True
 | .wrd ws=>ws.length<=100
def Kd.bad:Kd->Bool
 | .num a b=>decide (b < a)
 | .wrd ws=>ws.isEmpty
def sV:Kd->Kd->Kd
 | .num a b,.num x y=>.num (mx a x) (mn b y)
 | .wrd ws,.wrd us=>.wrd (ws.filter fun w=>us.contains w)
 | k,_=>k
def bo (k s:Kd):D:=if (sV k s).bad then .non else (sV k s).d
theorem sU:(("number":Str)==("number":Str))=true:=by decide +kernel
theorem rY:(("word":Str)==("word":Str))=true:=by decide +kernel
theorem sJ:(("word":Str)==("number":Str))=false:=by decide +kernel
theorem vQ:(("number":Str)==("word":Str))=false:=by decide +kernel
theorem Bs (k:Kd):aw k.d (.int 0)=some (.str k.srt):=by
 cases k with
 | num a b=>exact lL _ _
 | wrd ws=>exact lL _ _
theorem wy {k s:Kd} (h:k.srt=s.srt) (hk:k.ok):bp mK 2 2 [k.d,s.d]=.ok (bo k s)/\bp cR 2 2 [k.d,s.d]=.ok (sV k s).d:=by
 rw [gU,gU]; unfold mK cR
 cases k with
 | num a b =>
  cases s with
  | num x y =>
   have bn:bp dy 2 4 [.tup [.str "number",.int a,.int b],.tup [.str "number",.int x,.int y]]=.ok (bo (.num a b) (.num x y)):=by
    rw [gU]; unfold dy
    cases hd:decide (mx a x<=mn b y) with
    | true =>
     have e:bo (.num a b) (.num x y)=.tup [.str "number",.int (mx a x),.int (mn b y)]:=by
      unfold bo
      rw [if_neg]
      ·rfl
      ·show ¬ decide (mn b y < mx a x)=true
       have:=of_decide_eq_true hd
       rw [decide_eq_false ‹0›]; simp
     have l1:decide ((if x > a then x else a)<=(if y < b then y else b))=true:=hd
     rw [e]
     simp! only [l1,As]
     rfl
    | false =>
     have e:bo (.num a b) (.num x y)=.non:=by
      unfold bo
      rw [if_pos]
      show decide (mn b y < mx a x)=true
      have:=of_decide_eq_false hd
      exact decide_eq_true ‹0›
     have l1:decide ((if x > a then x else a)<=(if y < b then y else b))=false:=hd
     rw [e]
     simp! only [l1]
   constructor
   ·simp! only [Kd.d,sU,bn]
   ·simp! only [Kd.d,sU,As]
    rfl
  | wrd us=>exact absurd (show (("number":Str)) = "word" from h) (by decide +kernel)
 | wrd ws =>
  cases s with
  | num x y=>exact absurd (show (("word":Str)) = "number" from h) (by decide +kernel)
  | wrd us =>
   have hk:ws.length<=100:=hk
   have f0:∀ tl:av,iC [none,some 1] (bQ (f2 aw (ai 0) (fC (.int 1)))) (gN 0) (fB (f2 xT (ai 0) (f2 aw (ai 1) (fC (.int 1))))) (ai 0) (some (.val (.tup [.str "word",.tup (ws.map .str)]))::some (.val (.tup [.str "word",.tup (us.map .str)]))::tl)=.ok (.lst ((ws.filter fun w=>us.contains w).map .str)):=fun tl=>by
    refine dZ (ds:=ws.map .str) (by simp! only []) (by rw [JI]; omega) ?_
    refine fj D.str (fun w=>us.contains w) D.str ws fun w _=>⟨_,rfl,?_,rfl⟩
    simp! only [vY]
   have bw:bp eW 2 3 [.tup [.str "word",.tup (ws.map .str)],.tup [.str "word",.tup (us.map .str)]]=.ok (bo (.wrd ws) (.wrd us)):=by
    have f0:=f0 [none]
    rw [gU]; unfold eW
    cases q:(ws.filter fun w=>us.contains w) with
    | nil =>
     rw [q] at f0
     have e:bo (.wrd ws) (.wrd us)=.non:=by
      unfold bo
      rw [if_pos]
      show (ws.filter fun w=>us.contains w).isEmpty=true
      rw [q]; rfl
     rw [e]
     have n0:(([]:List Str).map D.str)=[]:=rfl
     rw [n0] at f0
     simp! only [f0]
     rfl
    | cons a r =>
     rw [q] at f0
     have e:bo (.wrd ws) (.wrd us)=.tup [.str "word",.tup ((a::r).map .str)]:=by
      unfold bo
      rw [if_neg]
      ·show D.tup [.str "word",.tup ((ws.filter fun w=>us.contains w).map .str)]=_
       rw [q]
      ·show ¬ (ws.filter fun w=>us.contains w).isEmpty=true
       rw [q]; simp
     have ne:((a::r).map D.str).isEmpty=false:=rfl
     rw [e]
     generalize (a::r).map D.str=Z at f0 ne
     simp! only [f0,ne,oo]
   constructor
   ·simp! only [Kd.d,sJ,rY,bw]
   ·have f0:=f0 []
    simp! only [Kd.d,sJ,f0,oo]
    rfl
theorem BR (k s:Kd):pyEq (bo k s) .non=(sV k s).bad/\pl (bo k s)=true:=by
 unfold bo
 cases h:(sV k s).bad with
 | true=>exact⟨by rw [if_pos rfl]; unfold pyEq; rfl,rfl⟩
 | false =>
  rw [if_neg Jx]
  refine⟨?_,Ak _⟩
  cases sV k s with
  | num _ _=>unfold Kd.d pyEq; rfl
  | wrd _=>unfold Kd.d pyEq; rfl
theorem Au (c:Kd):eI c.d (.tup [.str "word",.tup []])=some (.bl (pyEq c.d (Kd.wrd []).d)):=uK (b:=.wrd []) (Ak c) (Ak (.wrd []))
theorem wx:∀ a b:List Str,dB (a.map .str) (b.map .str)=decide (a=b)
 | [],[]=>by unfold dB; simp
 | [],_::_=>by rw [JN,JO]; unfold dB; simp
 | _::_,[]=>by rw [JN,JO]; unfold dB; simp
 | x::a,y::b=>by
  rw [JO,JO]
  unfold dB
  rw [wx a b]
  have:pyEq (.str x) (.str y)=(x==y):=by unfold pyEq; rfl
  rw [this,Ld]
  simp
theorem oD (a b:List Str):pj (.lst (a.map .str)) (.lst (b.map .str))=some (.bl (!decide (a=b))):=by
 have e:pj (.lst (a.map .str)) (.lst (b.map .str))=if (pl (.lst (a.map .str)) && pl (.lst (b.map .str))) && (ck 8 (.lst (a.map .str)) || ck 8 (.lst (b.map .str))) then some (.bl (!pyEq (.lst (a.map .str)) (.lst (b.map .str)))) else none:=rfl
 have d:ck 8 (.lst (a.map .str))=true:=by
  show (a.map D.str).all (ck 7)=true
  rw [J7]
  exact List.all_eq_true.mpr fun _ _=>rfl
 rw [e,dh,dh,mj D.str (fun _=>rfl) a,mj D.str (fun _=>rfl) b,d]
 show some (D.bl (!pyEq (.lst (a.map .str)) (.lst (b.map .str))))=_
 rw [pyEq,wx]
abbrev KL:=List (Str×Kd)
def kf (p:Str×Kd):D:=.tup [.str p.1,p.2.d]
abbrev fr (k:KL) (r:List (Str×D)):D:=.tup [.tup (k.map kf),.tup (r.map fld)]
structure Fo (k:KL) (r:List (Str×D)):Prop where
 k1:1<=k.length
 k8:k.length<=8
 r8:r.length<=8
 ok:∀ p∈k,p.2.ok
 rp:∀ p∈r,pl p.2=true
theorem oI {α β:Type} (f:α->D) (g:β->D):∀ (as:List α) (bs:List β),lr (as.map f) (bs.map g)=(as.zip bs).map fun q=>.tup [f q.1,g q.2]
 | [],_=>by cases ‹List β› <;> rfl
 | _::_,[]=>rfl
 | a::as,b::bs=>by
  rw [JO,JO,Kx,JO,<- oI f g as bs]; rfl
theorem iO (c:Str) (f:av->R (List D)) (k:Ks) (ρ:av):jI c f k ρ=og (f ρ) k ρ fun ds=>if small ds.length then k.ex ⟨c,[],[]⟩ ρ else un:=nr rfl
theorem tO (f:FX) (k:Ks) (ρ:av):wa f k ρ=og (f ρ) k ρ fun _=>k.nx ρ:=nr rfl
theorem vM (cs:List Str) (i:Nat) (F Fh:cc) (k:Ks) (ρ:av):AO cs i F Fh k ρ=F { k with ex:=fun x ρ1=>if (cs.contains x.c && x.fs.isEmpty)=true then Fh (Ei i k) (setV i (.exc x.c [] []) ρ1) else un } ρ:=nr rfl
theorem EB (g:List D->R D) (ds:List D):Aw g ds=uy (g ds):=nr rfl
theorem ue (ρ:av) (G:av->R (List D)) (L:List (Str×D)) (hG:G ρ=.ok (L.map fld)) (hl:L.length<=100):iC [none,none] G (gT 2 (fJ [0,1])) (cP) (ai 0) ρ=.ok (.lst ((L.map (·.1)).map .str)):=by
 refine dZ (ds:=L.map fld) hG (by rw [JI]; omega) ?_
 rw [KR]
 refine hJ _ _ _ fun p _=>⟨_,rfl,rfl,?_⟩
 simp! only []; rfl
theorem CO:small (0+1)=true:=by rfl
theorem wD:bp cz 1 3 [.exc "NoKind" [] []]=.ok (.str "kind"):=by kernel_rfl
theorem yV:bp cz 1 3 [.exc "Twice" [] []]=.ok (.str "twice"):=by kernel_rfl
theorem A6:bp cz 1 3 [.exc "TooMany" [] []]=.ok (.str "many"):=by kernel_rfl
theorem BC:bp cz 1 3 [.exc "Nothing" [] []]=.ok (.str "nothing"):=by kernel_rfl
abbrev CS:List Str:=["Twice","NoKind","Nothing","TooMany"]
theorem Aa:(CS.contains "NoKind" && ([]:List Str).isEmpty)=true:=by decide +kernel
theorem Bd:(CS.contains "Twice" && ([]:List Str).isEmpty)=true:=by decide +kernel
theorem Cw:(CS.contains "TooMany" && ([]:List Str).isEmpty)=true:=by decide +kernel
theorem DL:(CS.contains "Nothing" && ([]:List Str).isEmpty)=true:=by decide +kernel
abbrev jn:D:=.obj "Join" [] []
theorem Cr (m:Str) (g1 g2:List D->R D) (fo:FX) (fas:av->R (List D)) (ρ:av) (h:fo ρ=.ok jn) (hm:([]:List Str).contains m=false):qW m [("Pair",g1),("Join",g2)] fo fas ρ=(fas ρ).bind fun as=>g2 (jn::as):=by
 unfold qW
 rw [h,fT]
 have h1:(("Join":Str)==("Pair":Str))=false:=by decide +kernel
 have:List.lookup ("Join":Str) [(("Pair":Str),g1),(("Join":Str),g2)]=some g2:=by
  rw [JW,h1,JW,BEq.rfl]
 simp only [this,hm]
 rfl
theorem jR (f g:D) (c:Str) (s:Str) (hv:bp bb 3 5 [jn,f,g]=.error (some ⟨c,[],[]⟩)) (hc:((["Twice","NoKind","Nothing","TooMany"]:List Str).contains c && ([]:List Str).isEmpty)=true) (hw:bp cz 1 3 [.exc c [] []]=.ok (.str s)) :
  bp bU 2 4 [f,g]=.ok (.str s):=by
 have m2:=Cr "view_form" (bp cB 3 3) (bp bb 3 5) (fC jn) (af (ai 0) (af (ai 1) (au))) [some (.val f),some (.val g),some (.val (.str "none")),none] rfl rfl
 rw [gU]; unfold bU
 simp! only [vM,tO,m2,hv,hc,Ei,EB,hw]
theorem yk (f g:D) (d:D) (hv:bp bb 3 5 [jn,f,g]=.ok d):bp bU 2 4 [f,g]=.ok (.str "none"):=by
 have m2:=Cr "view_form" (bp cB 3 3) (bp bb 3 5) (fC jn) (af (ai 0) (af (ai 1) (au))) [some (.val f),some (.val g),some (.val (.str "none")),none] rfl rfl
 rw [gU]; unfold bU
 simp! only [vM,tO,m2,hv]
abbrev ZP:=(Str×Kd)×(Str×Kd)
def zp (q:ZP):D:=.tup [kf q.1,kf q.2]
def w1:cc:=aF (eY (fB (f2 pj (f2 aw (f2 aw (ai 2) (fC (.int 1))) (fC (.int 0))) (f2 aw (f2 aw (ai 3) (fC (.int 1))) (fC (.int 0))))) (bW (fC (.str "kind"))) (bI)) (dP [2,3] bI)
theorem walk1 (v0 v1:Option S) (k:Ks):∀ L:List ZP,gr (gT 2 (fJ [2,3])) w1 k (L.map zp) [v0,v1,none,none,none,none]=if (L.any fun q=>!(q.1.2.srt==q.2.2.srt))=true then .ok (.str "kind") else k.nx [v0,v1,none,none,none,none]
 | []=>rfl
 | p::L=>by
  have ih:=walk1 v0 v1 k L
  show ((rO (gT 2 (fJ [2,3]) (zp p) [v0,v1,none,none,none,none])).bind fun ρ1=>w1 ⟨gr (gT 2 (fJ [2,3])) w1 k (L.map zp),k.nx,gr (gT 2 (fJ [2,3])) w1 k (L.map zp),k.ex⟩ ρ1)=_
  have e:gT 2 (fJ [2,3]) (zp p) [v0,v1,none,none,none,none]=some [v0,v1,some (.val (kf p.1)),some (.val (kf p.2)),none,none]:=rfl
  have k1:aw (kf p.1) (.int 1)=some p.1.2.d:=rfl
  have k2:aw (kf p.2) (.int 1)=some p.2.2.d:=rfl
  have s1:=Bs p.1.2
  have s2:=Bs p.2.2
  rw [e,fI,fT,JQ]
  cases hc:(p.1.2.srt==p.2.2.srt) with
  | false =>
   rw [K8,JR,if_pos rfl]
   unfold w1
   simp! only [k1,k2,s1,s2,hc]
  | true =>
   rw [K7,JS,<- ih]
   conv=>lhs; unfold w1
   simp! only [k1,k2,s1,s2,hc]
   rfl
theorem Bg (c:Kd):pyEq c.d (Kd.wrd []).d=(c.bad && (c.srt==("word":Str))):=by
 cases c with
 | num u v =>
  unfold Kd.d
  rw [pyEq]
  unfold dB
  have:pyEq (.str "number") (.str "word")=false:=by unfold pyEq; decide +kernel
  rw [this]
  show false=(_ && (("number":Str)==("word":Str)))
  rw [vQ,Kb]
 | wrd us =>
  unfold Kd.d
  rw [pyEq]
  unfold dB
  have:pyEq (.str "word") (.str "word")=true:=by unfold pyEq; decide +kernel
  rw [this]
  unfold dB
  rw [pyEq]
  show _=(us.isEmpty && (("word":Str)==("word":Str)))
  rw [rY,Ka]
  cases us with
  | nil=>rfl
  | cons a r =>
   have z:dB (.str a::r.map .str) []=false:=by unfold dB; rfl
   rw [JO,JN,z]; rfl
def Gh:av->R Bool:=(Aq (kU (fB (f2 eI (f2 aw (ai 4) (fC (.int 0))) (fC (.str "number")))) (fB (f2 C9 (f2 aw (ai 4) (fC (.int 1))) (f2 aw (ai 4) (fC (.int 2)))))) (fB (f2 eI (ai 4) (bh (af (fC (.str "word")) (af (bh (au)) (au)))))))
theorem Dz (c:Kd) (x0 x1 x2 x3 x5:Option S):Gh [x0,x1,x2,x3,some (.val c.d),x5]=.ok c.bad:=by
 have en:=Au c
 rw [Bg] at en
 unfold Gh
 cases c with
 | num u v =>
  have pe:((Kd.num u v).bad && ((Kd.num u v).srt==("word":Str)))=false:=by
   show (_ && (("number":Str)==("word":Str)))=false
   rw [vQ,Kb]
  rw [pe] at en
  unfold Kd.d at en ⊢
  unfold Kd.bad
  cases hd:decide (v < u) <;> simp! only [sU,hd,DY,oo,en]
 | wrd us =>
  have pe:((Kd.wrd us).bad && ((Kd.wrd us).srt==("word":Str)))=us.isEmpty:=by
   show (us.isEmpty && (("word":Str)==("word":Str)))=_
   rw [rY,Ka]
  rw [pe] at en
  unfold Kd.d at en ⊢
  unfold Kd.bad
  simp! only [sJ,DY,oo,en]
def w2:cc:=(aF (bB 4 (fR (bp cR 2 2) (af (f2 aw (ai 2) (fC (.int 1))) (af (f2 aw (ai 3) (fC (.int 1))) (au))))) (aF (eY Gh (bW (fC (.str "nothing"))) (bI)) (dP [2,3,4] bI)))
theorem walk2 (v0 v1:Option S) (k:Ks):∀ L:List ZP,(∀ q∈L,q.1.2.srt=q.2.2.srt/\q.1.2.ok)->gr (gT 2 (fJ [2,3])) w2 k (L.map zp) [v0,v1,none,none,none,none]=if (L.any fun q=>(sV q.1.2 q.2.2).bad)=true then .ok (.str "nothing") else k.nx [v0,v1,none,none,none,none]
 | [],_=>rfl
 | p::L,h=>by
  have ih:=walk2 v0 v1 k L fun q hq=>h q (Jo _ hq)
  obtain⟨hs,ho⟩:=h p Jn
  show ((rO (gT 2 (fJ [2,3]) (zp p) [v0,v1,none,none,none,none])).bind fun ρ1=>w2 ⟨gr (gT 2 (fJ [2,3])) w2 k (L.map zp),k.nx,gr (gT 2 (fJ [2,3])) w2 k (L.map zp),k.ex⟩ ρ1)=_
  have e:gT 2 (fJ [2,3]) (zp p) [v0,v1,none,none,none,none]=some [v0,v1,some (.val (kf p.1)),some (.val (kf p.2)),none,none]:=rfl
  have k1:aw (kf p.1) (.int 1)=some p.1.2.d:=rfl
  have k2:aw (kf p.2) (.int 1)=some p.2.2.d:=rfl
  have ib:=(wy hs ho).2
  have wc:=Dz (sV p.1.2 p.2.2)
  rw [e,fI,fT,JQ]
  cases hc:(sV p.1.2 p.2.2).bad with
  | true =>
   rw [hc] at wc
   rw [JR,if_pos rfl]
   unfold w2
   simp! only [k1,k2,ib,wc]
  | false =>
   rw [hc] at wc
   rw [JS,<- ih]
   conv=>lhs; unfold w2
   simp! only [k1,k2,ib,wc]
   rfl
theorem Ef (ρ:av) (G:av->R (List D)) (L:KL) (hG:G ρ=.ok (L.map kf)) (hl:L.length<=100):iC [none] G (gN 0) (cP) (f2 aw (ai 0) (fC (.int 0))) ρ=.ok (.lst ((L.map (·.1)).map .str)):=by
 refine dZ (ds:=L.map kf) hG (by rw [JI]; omega) ?_
 rw [KR]
 refine hJ _ _ _ fun p _=>⟨_,rfl,rfl,?_⟩
 simp! only [kf]; rfl
theorem GV (ρ:av) (G:av->R (List D)) (L:List (Str×D)) (hG:G ρ=.ok (L.map fld)) (hl:L.length<=100):iC [none] G (gN 0) (cP) (f2 aw (ai 0) (fC (.int 0))) ρ=.ok (.lst ((L.map (·.1)).map .str)):=by
 refine dZ (ds:=L.map fld) hG (by rw [JI]; omega) ?_
 rw [KR]
 refine hJ _ _ _ fun p _=>⟨_,rfl,rfl,?_⟩
 simp! only []; rfl
theorem D8 (ρ:av) (G:av->R (List D)) (L:KL) (hG:G ρ=.ok (L.map kf)) (hl:L.length<=100):iC [none] G (gN 0) (cP) (f2 aw (f2 aw (ai 0) (fC (.int 1))) (fC (.int 0))) ρ=.ok (.lst ((L.map (·.2.srt)).map .str)):=by
 refine dZ (ds:=L.map kf) hG (by rw [JI]; omega) ?_
 rw [KR]
 refine hJ _ _ _ fun p _=>⟨_,rfl,rfl,?_⟩
 have s:=Bs p.2
 simp! only [kf,s]; rfl
theorem FP (ρ:av) (G:av->R (List D)) (L:KL) (hG:G ρ=.ok (L.map kf)) (hl:L.length<=100):iC [none,none] G (gT 2 (fJ [0,1])) (cP) (ai 0) ρ=.ok (.lst ((L.map (·.1)).map .str)):=by
 refine dZ (ds:=L.map kf) hG (by rw [JI]; omega) ?_
 rw [KR]
 refine hJ _ _ _ fun p _=>⟨_,rfl,rfl,?_⟩
 simp! only []; rfl
theorem vN:∀ (k p:KL),k.length=p.length->((k.zip p).any fun q=>!(q.1.2.srt==q.2.2.srt))=!decide (k.map (·.2.srt)=p.map (·.2.srt))
 | [],[],_=>rfl
 | a::k,b::p,h=>by
  rw [Kx,JQ,vN k p (by simpa using h),JO,JO,Ld]
  simp
 | [],_::_,h=>by simp at h
 | _::_,[],h=>by simp at h
theorem Ab (k p:KL):vk [.tup (k.map kf),.tup (p.map kf)]=some ((k.zip p).map zp):=by
 show some (lr (k.map kf) (p.map kf))=_
 rw [oI]; rfl
def res (k p:KL) (r q:List (Str×D)):Str:=if decide (k.map (·.1)=p.map (·.1))=false then "kind" else if ((k.zip p).any fun q=>!(q.1.2.srt==q.2.2.srt))=true then "kind" else if ((k.zip p).any fun q=>(sV q.1.2 q.2.2).bad)=true then "nothing" else if (q.any fun z=>(r.map (·.1)).contains z.1)=true then "twice" else if decide ((8:Int) < (r.length:Int)+(q.length:Int))=true then "many" else "none"
section
variable {k p:KL} {r q:List (Str×D)}
theorem zI (F:Fo k r) (G:Fo p q):bp fu 2 6 [fr k r,fr p q]=.ok (.str (res k p r q)):=by
 have k8:=F.k8
 have p8:=G.k8
 have r8:=F.r8
 have q8:=G.r8
 have n1:=FP [some (.val (fr k r)),some (.val (fr p q)),none,none,none,none] (bQ (f2 aw (ai 0) (fC (.int 0)))) k (by simp! only []) ‹0›
 have n2:=FP [some (.val (fr k r)),some (.val (fr p q)),none,none,none,none] (bQ (f2 aw (ai 1) (fC (.int 0)))) p (by simp! only []) ‹0›
 have ne:=oD (k.map (·.1)) (p.map (·.1))
 have ze:=Ab k p
 have n3:=ue [some (.val (fr k r)),some (.val (fr p q)),none,none,none,none] (bQ (f2 aw (ai 0) (fC (.int 1)))) r (by simp! only []) ‹0›
 have n4:iC [none,none,some 5] (bQ (f2 aw (ai 1) (fC (.int 1)))) (gT 2 (fJ [0,1])) (fB (f2 xT (ai 0) (ai 2))) (ai 0) [some (.val (fr k r)),some (.val (fr p q)),none,none,none,some (.val (.lst ((r.map (·.1)).map .str)))]=.ok (.lst (((q.filter fun z=>(r.map (·.1)).contains z.1).map (·.1)).map .str)):=by
  refine dZ (ds:=q.map fld) (by simp! only []) (by rw [JI]; omega) ?_
  refine Eq.trans (fj fld (fun z=>(r.map (·.1)).contains z.1) (D.str ∘ fun z:Str×D=>z.1) q fun z _=>⟨_,rfl,?_,?_⟩) (by rw [KR])
  ·have ei:=sC z.1 (r.map (·.1))
   simp! only [ei]
  ·simp! only []; rfl
 have n5:=oD ((q.filter fun z=>(r.map (·.1)).contains z.1).map (·.1)) []
 have n6:decide (((q.filter fun z=>(r.map (·.1)).contains z.1).map (·.1))=[])=!(q.any fun z=>(r.map (·.1)).contains z.1):=by
  rw [Ld]
  simp
 rw [n6,Bool.not_not,JN] at n5
 rw [gU]; unfold fu res
 cases h1:decide (k.map (·.1)=p.map (·.1)) with
 | false =>
  rw [h1] at ne
  rw [if_pos rfl]
  simp! only [n1,n2,ne]
 | true =>
  rw [h1] at ne
  have nme:=of_decide_eq_true h1
  have kp:k.length=p.length:=by have:=congrArg List.length nme; rwa [JI,JI] at this
  rw [if_neg (by simp)]
  have a1:=fun K:Ks=>walk1 (some (.val (fr k r))) (some (.val (fr p q))) K (k.zip p)
  have a2:=fun (K:Ks) h=>walk2 (some (.val (fr k r))) (some (.val (fr p q))) K (k.zip p) h
  unfold w1 at a1
  unfold w2 Gh at a2
  generalize hz:(k.zip p).map zp=Z at ze a1 a2
  cases h2:((k.zip p).any fun q=>!(q.1.2.srt==q.2.2.srt)) with
  | true =>
   rw [if_pos rfl]
   simp only [h2,if_pos] at a1
   simp! only [n1,n2,ne,ze,a1]
  | false =>
   rw [if_neg Jx]
   have hs:∀ q∈k.zip p,q.1.2.srt=q.2.2.srt/\q.1.2.ok:=fun z hz=>by
    have:=List.any_eq_false.mp h2 z hz
    refine⟨by simpa using this,F.ok z.1 (JB hz).1⟩
   have a2:=fun K=>a2 K hs
   simp only [h2,if_neg Jx] at a1
   cases h3:((k.zip p).any fun q=>(sV q.1.2 q.2.2).bad) with
   | true =>
    rw [if_pos rfl]
    simp only [h3,if_pos] at a2
    simp! only [n1,n2,ne,ze,a1,a2]
   | false =>
    rw [if_neg Jx]
    simp only [h3,if_neg Jx] at a2
    cases h4:(q.any fun z=>(r.map (·.1)).contains z.1) with
    | true =>
     rw [h4] at n5
     rw [if_pos rfl]
     simp! only [n1,n2,ne,ze,a1,a2,n3,n4,Ea,n5]
    | false =>
     rw [h4] at n5
     rw [if_neg Jx]
     cases h5:decide ((8:Int) < (r.length:Int)+(q.length:Int)) with
     | true =>
      rw [if_pos rfl]
      simp! only [n1,n2,ne,ze,a1,a2,n3,n4,Ea,n5,JI,h5]
     | false =>
      rw [if_neg Jx]
      simp! only [n1,n2,ne,ze,a1,a2,n3,n4,Ea,n5,JI,h5]
end
section
variable {k p:KL} {r q:List (Str×D)}
theorem key_is (F:Fo k r) (G:Fo p q):bp dL 2 3 [.tup (k.map kf),.tup (p.map kf)]=if decide (k.map (·.1)=p.map (·.1))=false then .error (some ⟨"NoKind",[],[]⟩) else if ((k.zip p).any fun q=>!(q.1.2.srt==q.2.2.srt))=true then .error (some ⟨"NoKind",[],[]⟩) else if ((k.zip p).any fun q=>(sV q.1.2 q.2.2).bad)=true then .error (some ⟨"Nothing",[],[]⟩) else .ok (.tup ((k.zip (k.zip p)).map fun z=>.tup [.str z.1.1,bo z.2.1.2 z.2.2.2])):=by
 have k8:=F.k8
 have p8:=G.k8
 have n1:=Ef [some (.val (.tup (k.map kf))),some (.val (.tup (p.map kf))),none] (bQ (ai 0)) k (by simp! only []) ‹0›
 have n2:=Ef [some (.val (.tup (k.map kf))),some (.val (.tup (p.map kf))),none] (bQ (ai 1)) p (by simp! only []) ‹0›
 have s1:=D8 [some (.val (.tup (k.map kf))),some (.val (.tup (p.map kf))),none] (bQ (ai 0)) k (by simp! only []) ‹0›
 have s2:=D8 [some (.val (.tup (k.map kf))),some (.val (.tup (p.map kf))),none] (bQ (ai 1)) p (by simp! only []) ‹0›
 have ne:=oD (k.map (·.1)) (p.map (·.1))
 have se:=oD (k.map (·.2.srt)) (p.map (·.2.srt))
 have ze:=Ab k p
 rw [gU]; unfold dL
 cases h1:decide (k.map (·.1)=p.map (·.1)) with
 | false =>
  rw [h1] at ne
  rw [if_pos rfl]
  simp! only [n1,n2,ne,iO,CO]
 | true =>
  rw [h1] at ne
  have nme:=of_decide_eq_true h1
  have kp:k.length=p.length:=by have:=congrArg List.length nme; rwa [JI,JI] at this
  rw [if_neg (by simp)]
  have sz:=vN k p kp
  rw [<- sz] at se
  cases h2:((k.zip p).any fun q=>!(q.1.2.srt==q.2.2.srt)) with
  | true =>
   rw [h2] at se
   rw [if_pos rfl]
   simp! only [n1,n2,ne,s1,s2,se,iO,CO]
  | false =>
   rw [h2] at se
   rw [if_neg Jx]
   have hs:∀ q∈k.zip p,q.1.2.srt=q.2.2.srt/\q.1.2.ok:=fun z hz=>by
    have:=List.any_eq_false.mp h2 z hz
    refine⟨by simpa using this,F.ok z.1 (JB hz).1⟩
   have zl:(k.zip p).length<=8:=by rw [KA]; omega
   have kk:iC [none,none] (rW (af (ai 0) (af (ai 1) (au)))) (gT 2 (fJ [0,1])) (cP) (fR (bp mK 2 2) (af (f2 aw (ai 0) (fC (.int 1))) (af (f2 aw (ai 1) (fC (.int 1))) (au)))) [some (.val (.tup (k.map kf))),some (.val (.tup (p.map kf))),none]=.ok (.lst ((k.zip p).map fun z=>bo z.1.2 z.2.2)):=by
    refine dZ (ds:=(k.zip p).map zp) (by simp! only [ze]) (by rw [JI]; omega) ?_
    refine hJ zp (fun z=>bo z.1.2 z.2.2) (k.zip p) fun z hz=>⟨[some (.val (kf z.1)),some (.val (kf z.2))],rfl,rfl,?_⟩
    obtain⟨a1,a2⟩:=hs z hz
    have ib:=(wy a1 a2).1
    have k1:aw (kf z.1) (.int 1)=some z.1.2.d:=rfl
    have k2:aw (kf z.2) (.int 1)=some z.2.2.d:=rfl
    simp! only [k1,k2,ib]
   have inn:xT .non (.lst ((k.zip p).map fun z=>bo z.1.2 z.2.2))=some (.bl ((k.zip p).any fun q=>(sV q.1.2 q.2.2).bad)):=by
    show (if (pl .non && fX ((k.zip p).map fun z=>bo z.1.2 z.2.2)) && ck 8 .non then some (D.bl (inD .non ((k.zip p).map fun z=>bo z.1.2 z.2.2))) else none)=_
    have hp:fX ((k.zip p).map fun z=>bo z.1.2 z.2.2)=true:=pE fun x hx=>by
     obtain⟨z,_,rfl⟩:=List.mem_map.mp hx
     exact(BR _ _).2
    rw [hp]
    show some (D.bl (inD .non ((k.zip p).map fun z=>bo z.1.2 z.2.2)))=_
    have e:inD .non ((k.zip p).map fun z=>bo z.1.2 z.2.2)=(k.zip p).any fun q=>(sV q.1.2 q.2.2).bad:=by
     unfold inD
     rw [Ky]
     congr 1
     funext z
     exact(BR _ _).1
    rw [e]
   cases h3:((k.zip p).any fun q=>(sV q.1.2 q.2.2).bad) with
   | true =>
    rw [h3] at inn
    rw [if_pos rfl]
    simp! only [n1,n2,ne,s1,s2,se,kk,inn,iO,CO]
   | false =>
    rw [h3] at inn
    rw [if_neg Jx]
    have ze2:vk [.tup (k.map kf),.lst ((k.zip p).map fun z=>bo z.1.2 z.2.2)]=some ((k.zip (k.zip p)).map fun z=>.tup [kf z.1,bo z.2.1.2 z.2.2.2]):=by
     show some (lr (k.map kf) ((k.zip p).map fun z=>bo z.1.2 z.2.2))=_
     rw [oI]
    have fi:iC [none,none] (rW (af (ai 0) (af (ai 2) (au)))) (gT 2 (fJ [0,1])) (cP) (bh (af (f2 aw (ai 0) (fC (.int 0))) (af (ai 1) (au)))) [some (.val (.tup (k.map kf))),some (.val (.tup (p.map kf))),some (.val (.lst ((k.zip p).map fun z=>bo z.1.2 z.2.2)))]=.ok (.lst ((k.zip (k.zip p)).map fun z=>.tup [.str z.1.1,bo z.2.1.2 z.2.2.2])):=by
     refine dZ (ds:=(k.zip (k.zip p)).map fun z=>.tup [kf z.1,bo z.2.1.2 z.2.2.2]) (by simp! only [ze2]) (by rw [JI,KA]; omega) ?_
     refine hJ (ρ:=[none,none]) (g:=gT 2 (fJ [0,1])) (C:=cP) (fun z=>D.tup [kf z.1,bo z.2.1.2 z.2.2.2]) (fun z=>.tup [.str z.1.1,bo z.2.1.2 z.2.2.2]) (k.zip (k.zip p)) fun z hz=>⟨[some (.val (kf z.1)),some (.val (bo z.2.1.2 z.2.2.2))],rfl,rfl,?_⟩
     have k0:aw (kf z.1) (.int 0)=some (.str z.1.1):=rfl
     simp! only [k0,oo]
    simp! only [n1,n2,ne,s1,s2,se,kk,inn,fi]
theorem pB (F:Fo k r) (G:Fo p q):bp bU 2 4 [fr k r,fr p q]=.ok (.str (res k p r q)):=by
 have r8:=F.r8
 have q8:=G.r8
 have ki:=key_is F G
 have kx:∀ c:Str,bp dL 2 3 [.tup (k.map kf),.tup (p.map kf)]=.error (some ⟨c,[],[]⟩)->bp bb 3 5 [jn,fr k r,fr p q]=.error (some ⟨c,[],[]⟩):=fun c e=>by
  rw [kX]; unfold bb
  simp! only [e]
 unfold res
 cases h1:decide (k.map (·.1)=p.map (·.1)) with
 | false =>
  rw [h1,if_pos rfl] at ki
  rw [if_pos rfl]
  exact jR _ _ _ _ (kx _ ki) Aa wD
 | true =>
  rw [h1,if_neg (by simp)] at ki
  rw [if_neg (by simp)]
  cases h2:((k.zip p).any fun q=>!(q.1.2.srt==q.2.2.srt)) with
  | true =>
   rw [h2,if_pos rfl] at ki
   rw [if_pos rfl]
   exact jR _ _ _ _ (kx _ ki) Aa wD
  | false =>
   rw [h2,if_neg Jx] at ki
   rw [if_neg Jx]
   cases h3:((k.zip p).any fun q=>(sV q.1.2 q.2.2).bad) with
   | true =>
    rw [h3,if_pos rfl] at ki
    rw [if_pos rfl]
    exact jR _ _ _ _ (kx _ ki) DL BC
   | false =>
    rw [h3,if_neg Jx] at ki
    rw [if_neg Jx]
    generalize (D.tup ((k.zip (k.zip p)).map fun z=>.tup [.str z.1.1,bo z.2.1.2 z.2.2.2]))=KD at ki
    have n1:=GV [some (.val jn),some (.val (fr k r)),some (.val (fr p q)),some (.val KD),none] (bQ (f2 aw (ai 1) (fC (.int 1)))) r (by simp! only []) ‹0›
    have n2:iC [none,some 4] (bQ (f2 aw (ai 2) (fC (.int 1)))) (gN 0) (cP) (f2 xT (f2 aw (ai 0) (fC (.int 0))) (ai 1)) [some (.val jn),some (.val (fr k r)),some (.val (fr p q)),some (.val KD),some (.val (.lst ((r.map (·.1)).map .str)))]=.ok (.lst (q.map fun z=>.bl ((r.map (·.1)).contains z.1))):=by
     refine dZ (ds:=q.map fld) (by simp! only []) (by rw [JI]; omega) ?_
     refine hJ (g:=gN 0) (C:=cP) fld (fun z=>D.bl ((r.map (·.1)).contains z.1)) q fun z _=>⟨_,rfl,rfl,?_⟩
     have ei:=sC z.1 (r.map (·.1))
     simp! only [ei]
    have ga:xD [.lst (q.map fun z=>.bl ((r.map (·.1)).contains z.1))]=some (.bl (q.any fun z=>(r.map (·.1)).contains z.1)):=by
     have e:=AZ (q.map fun z=>(r.map (·.1)).contains z.1)
     rw [KR] at e
     refine Eq.trans e ?_
     rw [Ky]; rfl
    cases h4:(q.any fun z=>(r.map (·.1)).contains z.1) with
    | true =>
     rw [h4] at ga
     rw [if_pos rfl]
     refine jR _ _ "Twice" _ ?_ Bd yV
     rw [kX]; unfold bb
     simp! only [ki,n1,n2,ga,iO,CO]
    | false =>
     rw [h4] at ga
     rw [if_neg Jx]
     cases h5:decide ((8:Int) < (r.length:Int)+(q.length:Int)) with
     | true =>
      rw [if_pos rfl]
      refine jR _ _ "TooMany" _ ?_ Cw A6
      rw [kX]; unfold bb
      simp! only [ki,n1,n2,ga,JI,h5,iO,CO]
     | false =>
      rw [if_neg Jx]
      refine yk _ _ (.tup [KD,.tup (r.map fld++q.map fld)]) ?_
      have ad:=zo (r.map fld) (q.map fld) (by rw [JI,JI]; omega)
      rw [kX]; unfold bb
      simp! only [ki,n1,n2,ga,JI,h5,ad,oo]
end
theorem Ai:∀ {L:List Str} (m:Str),L.Nodup->L.length<=(L.filter fun w=>!(w==m)).length+1
 | [],_,_=>by simp
 | a::L,m,h=>by
  obtain⟨h1,h2⟩:=List.nodup_cons.mp h
  rw [List.filter_cons]
  by_cases e:a=m
  ·subst e
   have:L.filter (fun w=>!(w==a))=L:=List.filter_eq_self.mpr fun w hw=>by
    have:w≠a:=fun z=>h1 (by rw [<- z]; exact hw)
    simp [this]
   simp [this]
  ·have ih:=Ai m h2
   have:(!(a==m))=true:=by simp [e]
   rw [if_pos this,JT,JT]
   omega
theorem v3:∀ (M:List Str) {L:List Str},L.Nodup->L.length<=(L.filter fun w=>!M.contains w).length+M.length
 | [],L,_=>by
  have:L.filter (fun w=>!([]:List Str).contains w)=L:=List.filter_eq_self.mpr fun w _=>rfl
  rw [this]; simp
 | m::M,L,h=>by
  have a:=Ai m h
  have b:=v3 M (L:=L.filter fun w=>!(w==m)) (h.sublist List.filter_sublist)
  rw [List.filter_filter] at b
  have e:L.filter (fun w=>(!M.contains w) && !(w==m))=L.filter fun w=>!(m::M).contains w:=by
   congr 1
   funext w
   rw [Kw,Bool.not_or,Bool.and_comm]
  rw [e] at b
  rw [JT]
  omega
theorem names24 (b:Int) (hb:0<=b):∃ L:List Str,L.length=24/\L.Nodup/\∀ j:Nat,j < 24->bp aN 2 7 [.int b,.int j]=.ok (.str (L.getD j ""))/\Cg b j (L.getD j ""):=by
 have h:=fun j:Nat=>rR b j hb ‹0›
 obtain⟨f,hf⟩:∃ f:Nat->Str,∀ j:Nat,bp aN 2 7 [.int b,.int j]=.ok (.str (f j))/\Cg b j (f j):=⟨fun j=>(h j).choose,fun j=>(h j).choose_spec⟩
 refine⟨(List.range 24).map f,by simp,?_,fun j hj=>?_⟩
 ·refine List.pairwise_map.mpr (List.nodup_range.imp_of_mem fun {i j} hi hj hne e=>hne ?_)
  have hi:=List.mem_range.mp hi
  have hj:=List.mem_range.mp hj
  have h1:=(hf i).2
  have h2:=(hf j).2
  rw [e] at h1
  have:=wA ‹0› ‹0› ‹0› ‹0› h1 h2
  omega
 ·have e:((List.range 24).map f).getD j ""=f j:=by
   rw [KQ,JF,Kh hj]; rfl
  rw [e]
  exact hf j
theorem vC (w:Str) (ws:List Str):jo (.str w) (.lst (ws.map .str))=some (.bl (!ws.contains w)):=by
 have e:=sC w ws
 have e1:xT (.str w) (.lst (ws.map .str))=if (pl (.str w) && fX (ws.map .str)) && ck 8 (.str w) then some (.bl (inD (.str w) (ws.map .str))) else none:=rfl
 have e2:jo (.str w) (.lst (ws.map .str))=if (pl (.str w) && fX (ws.map .str)) && ck 8 (.str w) then some (.bl (!inD (.str w) (ws.map .str))) else none:=rfl
 rw [e1] at e
 rw [e2]
 split at e
 ·rename_i z
  rw [if_pos z]
  injection e with e
  injection e with e
  rw [e]
 ·cases e
theorem Ah (b:Int) (hb:0<=b) (M:List Str) (hM:M.length<=16):∃ sp:List Str,8<=sp.length/\sp.length<=24/\∀ x0 x1 x3 x4 x5 x6 x7 x9 x10:Option S,iC [none,some 2,some 8] (cX (af (fC (.int 24)) (au))) (gN 0) (fB (f2 jo (fR (bp aN 2 7) (af (ai 1) (af (ai 0) (au)))) (ai 2))) (fR (bp aN 2 7) (af (ai 1) (af (ai 0) (au)))) [x0,x1,some (.val (.int b)),x3,x4,x5,x6,x7,some (.val (.lst (M.map .str))),x9,x10]=.ok (.lst (sp.map .str)):=by
 obtain⟨L,l1,l2,l3⟩:=names24 b hb
 have lo:=v3 M l2
 have r24:jk [.int 24]=some (eB 0 24):=e9 24 (by decide)
 refine⟨L.filter fun w=>!M.contains w,by omega,by have:=Le (fun w=>!M.contains w) L; omega,fun x0 x1 x3 x4 x5 x6 x7 x9 x10=>?_⟩
 refine dZ (ds:=eB 0 24) (by simp! only [r24]) (by rw [cL]; decide) ?_
 have eL:L=(List.range 24).map fun j=>L.getD j "":=by
  apply List.ext_getElem?
  intro j
  rw [JF]
  by_cases hj:j < 24
  ·rw [Kh hj,K2,KQ,J8 ‹0›]; rfl
  ·rw [KZ ‹0›,KZ (by rw [Kg]; omega)]; rfl
 have key:=fj (ρ:=inB [none,some 2,some 8] [x0,x1,some (.val (.int b)),x3,x4,x5,x6,x7,some (.val (.lst (M.map .str))),x9,x10]) (g:=gN 0) (C:=fB (f2 jo (fR (bp aN 2 7) (af (ai 1) (af (ai 0) (au)))) (ai 2))) (Fe:=fR (bp aN 2 7) (af (ai 1) (af (ai 0) (au)))) (fun j:Nat=>D.int (0+(j:Int))) (fun j=>!M.contains (L.getD j "")) (fun j=>.str (L.getD j "")) (List.range 24) fun j hj=>by
  obtain⟨e,_⟩:=l3 j (List.mem_range.mp hj)
  have ni:=vC (L.getD j "") M
  refine⟨[some (.val (.int (0+(j:Int)))),some (.val (.int b)),some (.val (.lst (M.map .str)))],rfl,?_,?_⟩
  ·rw [Int.zero_add]
   simp! only [e,ni]
  ·rw [Int.zero_add]
   simp! only [e]
 rw [gJ]
 refine Eq.trans key ?_
 have e2:(L.filter fun w=>!M.contains w)=((List.range 24).filter fun j=>!M.contains (L.getD j "")).map fun j=>L.getD j "":=by
  conv=>lhs; rw [eL]
  rw [List.filter_map]; rfl
 rw [e2,KR]; rfl
theorem B3 (is:List Nat) (f:FX) (ρ:av):md is f ρ=(uy (f (frzs is ρ))).bind fun d=>if lf d then .ok d else un:=nr rfl
theorem Cy (is:List Nat) (f:FX) (ρ:av):kZ is f ρ=(uy (f (frzs is ρ))).bind (vT is ρ):=nr rfl
theorem HB (i j:Nat) (ρ:av):frzs [i,j] ρ=frz j (frz i ρ):=nr rfl
theorem CG (xs:List D):nY [.tup xs]=some (.lst xs):=nr rfl
theorem Ey (k:KL):xI (.lst (k.map kf))=true:=by cases k <;> rfl
theorem EW (r:List (Str×D)):xI (.lst (r.map fld))=true:=by cases r <;> rfl
theorem wr:∀ ws:List Str,Ae (ws.map .str)=true
 | []=>rfl
 | w::ws=>by
  rw [JO]
  unfold Ae
  rw [wr ws]; rfl
section
variable {k:KL} {r:List (Str×D)}
def nms (k:KL) (r:List (Str×D)):List Str:=k.map (·.1)++r.map (·.1)
theorem Az (F:Fo k r) (x0 x1 x2 x3 x6 x7 x8 x9 x10:Option S):kZ [4,5] (iC [none,none] (bQ (f2 bV (ai 4) (ai 5))) (gT 2 (fJ [0,1])) (cP) (ai 0)) [x0,x1,x2,x3,some (.own (.lst (k.map kf))),some (.own (.lst (r.map fld))),x6,x7,x8,x9,x10]=.ok (.lst ((nms k r).map .str)):=by
 have k1:=F.k1
 have k8:=F.k8
 have r8:=F.r8
 have ad:=Ac (k.map kf) (r.map fld) (by rw [JI,JI]; omega)
 have em:k.map kf++r.map fld=(k.map (fun p=>(p.1,p.2.d))++r).map fld:=by
  rw [KU,KR]; rfl
 have lc:=ue [x0,x1,x2,x3,some (.val (.lst (k.map kf))),some (.val (.lst (r.map fld))),x6,x7,x8,x9,x10] (bQ (f2 bV (ai 4) (ai 5))) (k.map (fun p=>(p.1,p.2.d))++r) (by simp! only [ad,em]) (by rw [JH,JI]; omega)
 have en:(k.map (fun p=>(p.1,p.2.d))++r).map (·.1)=nms k r:=by
  unfold nms
  rw [KU,KR]; rfl
 rw [en] at lc
 have pk:vT [4,5] [x0,x1,x2,x3,some (.own (.lst (k.map kf))),some (.own (.lst (r.map fld))),x6,x7,x8,x9,x10] (.lst ((nms k r).map .str))=.ok (.lst ((nms k r).map .str)):=by
  show (if Ae ((nms k r).map .str) && hdS ((nms k r).map .str) && (xI (.lst (k.map kf)) && (xI (.lst (r.map fld)) && true)) then (.ok (.lst ((nms k r).map .str)):R D) else un)=_
  have hd:hdS ((nms k r).map .str)=true:=by
   cases k with
   | nil=>simp at k1
   | cons p k=>rfl
  rw [wr,hd,Ey,EW]; rfl
 simp! only [Cy,HB]
 refine Eq.trans (congrArg (fun z:R D=>(uy z).bind _) lc) ?_
 exact pk
theorem zG (c:Kd) (x:Int):∃ c':Kd,c'.ok/\bp cV 2 3 [c.d,.int x]=.ok c'.d:=by
 have g9:=fun i=>bE (i:=i) (show (0:Int) < 9 by decide)
 have g26:=fun i=>bE (i:=i) (show (0:Int) < 26 by decide)
 rw [gU]; unfold cV
 cases c with
 | num a b =>
  refine⟨.num (b+1) (b+1+x%9),trivial,?_⟩
  simp! only [Kd.d,sU,g9,As]
 | wrd ws =>
  have LL:(("abcdefghijklmnopqrstuvwxyz":Str)).length=26:=by decide +kernel
  generalize hL:("abcdefghijklmnopqrstuvwxyz":Str)=L at LL
  obtain⟨y,hy,e1⟩:=lX L ‹0› (x%26) ‹0› ‹0›
  have mu:∃ z:Str,ly (.str y) (.int 7)=some (.str z):=⟨gV y 7,by
   show (if _ then some (D.str (gV y 7)) else none)=_
   rw [if_pos]
   simp [small,hy]⟩
  obtain⟨z,ez⟩:=mu
  refine⟨.wrd [z],by show ([z]:List Str).length<=100; simp,?_⟩
  simp! only [hL,Kd.d,sJ,g26,e1,ez,I0,oo,JO,JN]
end
theorem zh {i:Nat} {fi fv:FX} {k:Ks} {ρ:av} {xs:List D} {j:Int} {n:Nat} {v:D} (h:ρ[i]?=some (some (.own (.lst xs)))) (hv:fv ρ=.ok v) (hi:fi ρ=.ok (.int j)) (hn:uE xs.length j=some n):jF i fi fv k ρ=k.nx (ρ.set i (some (.own (.lst (xs.set n v))))):=by
 unfold jF
 rw [h]
 simp only [hv,hi,nS,fT,hn]
theorem sr {n i:Nat} (h:i < n):uE n (i:Int)=some i:=by
 unfold uE
 rw [if_pos ‹0›,if_pos ‹0›]; rfl
theorem HM {xs:List D} {ρ:av} {fk:FX} {j:Int} {i:Nat} {d:D} (h:ρ[i]?=some (some (.own (.lst xs)))) (hk:fk ρ=.ok (.int j)) (hd:aw (.lst xs) (.int j)=some d):jv i fk ρ=.ok d:=by
 unfold jv
 rw [h]
 show (fk ρ).bind _=_
 rw [hk]
 show rO (aw (.lst xs) (.int j))=_
 rw [hd]; rfl
theorem DK {qs:List (Str×D)} (h:∀ p∈qs,pl p.2=true):pj (.tup (qs.map fld)) (.tup [])=some (.bl (!qs.isEmpty)):=by
 have e:pj (.tup (qs.map fld)) (.tup [])=if (pl (.tup (qs.map fld)) && pl (.tup [])) && (ck 8 (.tup (qs.map fld)) || ck 8 (.tup [])) then some (.bl (!pyEq (.tup (qs.map fld)) (.tup []))) else none:=rfl
 have d:ck 8 (.tup [])=true:=rfl
 have p2:pl (.tup [])=true:=rfl
 have p1:fX (qs.map fld)=true:=pE fun x hx=>by
  obtain⟨p,hp,rfl⟩:=List.mem_map.mp hx
  show pl (.tup [.str p.1,p.2])=true
  rw [ce]
  show (pl (.str p.1) && (pl p.2 && fX []))=true
  rw [h p hp]; rfl
 rw [e,ce,p1,p2,d,Bool.or_true]
 show some (D.bl (!pyEq (.tup (qs.map fld)) (.tup [])))=_
 rw [pyEq]
 cases qs with
 | nil=>rfl
 | cons a r =>
  have z:dB (fld a::r.map fld) []=false:=by unfold dB; rfl
  rw [JO,z]; rfl
section
variable {k0 k:KL} {r0 r:List (Str×D)}
def zE:cc:=(ir 5 (ir 4 (bW (bh (af (fL cy (af (ai 4) (au))) (af (fL cy (af (ai 5) (au))) (au)))))))
theorem BG (x0 x1 x2 x3 x6 x7 x8 x9 x10:Option S) (k:KL) (r:List (Str×D)):zE K0 [x0,x1,x2,x3,some (.own (.lst (k.map kf))),some (.own (.lst (r.map fld))),x6,x7,x8,x9,x10]=.ok (fr k r):=by
 unfold zE
 simp! only [oo]
def z7:cc:=(aF (eY (fB (f2 eI (ai 7) (fC (.int 7)))) (dP [0,2,6,7,8] (lw (cX (af (f2 bH (f2 bT (ai 3) (fC (.int 64))) (fC (.int 9))) (au))) (gN 10) (aF (eY (et [5] (fB (f2 lC (fL cQ (af (ai 5) (au))) (fC (.int 8))))) (oM 5 gx (af (md [5] (bh (af (f2 aw (ai 9) (f2 pX (fL cQ (af (ai 5) (au))) (fL cQ (af (f2 aw (ai 1) (fC (.int 1))) (au))))) (af (bh (af (fC (.str "word")) (af (bh (af (fC (.str "")) (af (fC (.str "b")) (au)))) (au)))) (au))))) (au))) (bI)) (dP [10] bI)))) (bI)) zE)
def z6:cc:=(aF (eY (et [5] (kU (fB (f2 eI (ai 7) (fC (.int 6)))) (kU (fB (f2 pj (f2 aw (ai 0) (fC (.int 1))) (bh (au)))) (kU (fB (f2 lC (fL cQ (af (ai 5) (au))) (fC (.int 8)))) (fB (f2 jo (f2 aw (f2 aw (f2 aw (ai 0) (fC (.int 1))) (f2 bH (f2 bT (ai 3) (fC (.int 64))) (fL cQ (af (f2 aw (ai 0) (fC (.int 1))) (au))))) (fC (.int 0))) (ai 8))))))) (oM 5 gx (af (f2 aw (f2 aw (ai 0) (fC (.int 1))) (f2 bH (f2 bT (ai 3) (fC (.int 64))) (fL cQ (af (f2 aw (ai 0) (fC (.int 1))) (au))))) (au))) (bI)) z7)
theorem o4 (x0 x1 x2 x3 x6 x8 x9 x10:Option S) (w:Int) (hw:(w==7)=false) (k:KL) (r:List (Str×D)):z7 K0 [x0,x1,x2,x3,some (.own (.lst (k.map kf))),some (.own (.lst (r.map fld))),x6,some (.val (.int w)),x8,x9,x10]=.ok (fr k r):=by
 unfold z7
 simp! only [hw]
 exact BG _ _ _ _ _ _ _ _ _ _ _
theorem CT {k':KL} (F:Fo k' r) (x0 x2 x6 x8:Option S) (x:Int) (sp:List Str) (h8:8<=sp.length):∃ r',Fo k' r'/\z7 K0 [x0,some (.val (fr k r)),x2,some (.val (.int x)),some (.own (.lst (k'.map kf))),some (.own (.lst (r.map fld))),x6,some (.val (.int 7)),x8,some (.val (.lst (sp.map .str))),none]=.ok (fr k' r'):=by
 have r8:=F.r8
 have g9:=fun i=>bE (i:=i) (show (0:Int) < 9 by decide)
 have d64:=fun i=>bJ (i:=i) (show (0:Int) < 64 by decide) (show (64:Int) < 10 ^ 200 by decide)
 have s7:((7:Int)==7)=true:=rfl
 obtain⟨n,hn,en⟩:∃ n:Nat,n < 9/\x / 64%9=(n:Int):=⟨(x / 64%9).toNat,by omega,by omega⟩
 have rn:=e9 n ‹0›
 unfold z7
 simp! only [s7,d64,g9,en,rn]
 refine ji (Q:=fun z=>∃ r',Fo k' r'/\z=.ok (fr k' r')) (fun j ρ=>∃ s:List (Str×D),r.length+s.length<=8/\(∀ p∈s,pl p.2=true)/\ρ=[none,some (.val (fr k r)),none,some (.val (.int x)),some (.own (.lst (k'.map kf))),some (.own (.lst ((r++s).map fld))),none,none,none,some (.val (.lst (sp.map .str))),none]) ?_ ⟨[],by simpa using r8,(fun _ h=>nomatch h),by rw [JA]⟩ ?_
 ·rintro j d ρ K hd ⟨s,l8,hp,rfl⟩
  have ll:((r++s).map fld).length=r.length+s.length:=by rw [JI,JH]
  by_cases hl:r.length+s.length < 8
  ·have lt:decide (((r.length+s.length:Nat):Int) < 8)=true:=decide_eq_true ‹0›
   have si:s.length < sp.length:=by omega
   have es:aw (.lst (sp.map .str)) (.int (((r.length+s.length:Nat):Int) - (r.length:Int)))=some (.str sp[s.length]):=by
    rw [show ((r.length+s.length:Nat):Int) - (r.length:Int)=(s.length:Int) by omega,zQ,jg,jG si]; rfl
   have lfv:lf (.tup [.str sp[s.length],.tup [.str "word",.tup [.str "",.str "b"]]])=true:=rfl
   have ap:gx ((r++s).map fld) [.tup [.str sp[s.length],.tup [.str "word",.tup [.str "",.str "b"]]]]=some ((r++(s++[(sp[s.length],D.tup [.str "word",.tup [.str "",.str "b"]])])).map fld):=by
    rw [nw (by rw [ll]; omega),<- Kk,KU (l₁:=r++s)]; rfl
   refine⟨_,_,rfl,⟨s++[(sp[s.length],.tup [.str "word",.tup [.str "",.str "b"]])],by rw [JH,JM]; omega,fun p hm=>?_,rfl⟩,?_⟩
   ·rcases List.mem_append.mp hm with z | z
    ·exact hp p z
    ·rw [List.mem_singleton.mp z]; rfl
   ·have sm:=fun K:Ks=>jl 5 gx (af (md [5] (bh (af (f2 aw (ai 9) (f2 pX (fL cQ (af (ai 5) (au))) (fL cQ (af (f2 aw (ai 1) (fC (.int 1))) (au))))) (af (bh (af (fC (.str "word")) (af (bh (af (fC (.str "")) (af (fC (.str "b")) (au)))) (au)))) (au))))) (au)) K [none,some (.val (fr k r)),none,some (.val (.int x)),some (.own (.lst (k'.map kf))),some (.own (.lst ((r++s).map fld))),none,none,none,some (.val (.lst (sp.map .str))),some (.val d)] (xs:=(r++s).map fld) rfl
    generalize hZ:(r++s).map fld=Z at ll ap sm ⊢
    simp! only [ca,jc,ll,lt,sm,B3,JI,es,oo,lfv,ap]
  ·have lt:decide (((r.length+s.length:Nat):Int) < 8)=false:=decide_eq_false ‹0›
   refine⟨_,_,rfl,⟨s,l8,hp,rfl⟩,?_⟩
   generalize hZ:(r++s).map fld=Z at ll ⊢
   simp! only [ca,jc,ll,lt]
 ·rintro ρ' ⟨s,l8,hp,rfl⟩
  refine⟨r++s,⟨F.k1,F.k8,by rw [JH]; omega,F.ok,fun p hm=>?_⟩,BG none (some (.val (fr k r))) none (some (.val (.int x))) none none none (some (.val (.lst (sp.map .str)))) none k' (r++s)⟩
  rcases List.mem_append.mp hm with z | z
  ·exact F.rp p z
  ·exact hp p z
theorem pA (x0 x1 x2 x3 x6 x8 x9 x10:Option S) (w:Int) (hw:(w==6)=false) (k:KL) (r:List (Str×D)):z6 K0 [x0,x1,x2,x3,some (.own (.lst (k.map kf))),some (.own (.lst (r.map fld))),x6,some (.val (.int w)),x8,x9,x10]=z7 K0 [x0,x1,x2,x3,some (.own (.lst (k.map kf))),some (.own (.lst (r.map fld))),x6,some (.val (.int w)),x8,x9,x10]:=by
 unfold z6
 simp! only [ca,jc,hw]
theorem C7 (F0:Fo k0 r0) (F:Fo k r) (x1 x2 x6 x9 x10:Option S) (x:Int) (M:List Str):∃ r',Fo k r'/\z6 K0 [some (.val (fr k0 r0)),x1,x2,some (.val (.int x)),some (.own (.lst (k.map kf))),some (.own (.lst (r.map fld))),x6,some (.val (.int 6)),some (.val (.lst (M.map .str))),x9,x10]=.ok (fr k r'):=by
 have d64:=fun i=>bJ (i:=i) (show (0:Int) < 64 by decide) (show (64:Int) < 10 ^ 200 by decide)
 have s6:((6:Int)==6)=true:=rfl
 have nn:=DK F0.rp
 have s67:((6:Int)==7)=false:=rfl
 have no:=fun r'=>o4 (some (.val (fr k0 r0))) x1 x2 (some (.val (.int x))) x6 (some (.val (.lst (M.map .str)))) x9 x10 6 s67 k r'
 cases h1:r0.isEmpty with
 | true =>
  rw [h1] at nn
  refine⟨r,F,?_⟩
  unfold z6
  simp! only [ca,jc,s6,DY,nn]
  exact no r
 | false =>
  rw [h1] at nn
  have rl:0 < r0.length:=by
   cases r0 with
   | nil=>cases h1
   | cons _ _=>simp
  have gl:=fun i=>bE (i:=i) (show (0:Int) < (r0.length:Int) by omega)
  have y1:=K9 (x / 64) (show (r0.length:Int)≠0 by omega)
  have y2:=La (x / 64) (show (0:Int) < (r0.length:Int) by omega)
  obtain⟨p,hp,ep⟩:∃ p∈r0,aw (.tup (r0.map fld)) (.int (x / 64%(r0.length:Int)))=some (.tup [.str p.1,p.2]):=by
   refine⟨r0[(x / 64%(r0.length:Int)).toNat]'‹0›,KO _,?_⟩
   rw [Fd,jg,j3 y1 y2]; rfl
  have ni:=vC p.1 M
  have r8:=F.r8
  cases h2:decide ((r.length:Int) < 8) with
  | false =>
   refine⟨r,F,?_⟩
   unfold z6
   simp! only [ca,jc,s6,DY,nn,JI,h2]
   exact no r
  | true =>
   cases h3:(!M.contains p.1) with
   | false =>
    rw [h3] at ni
    refine⟨r,F,?_⟩
    unfold z6
    simp! only [ca,jc,s6,DY,nn,JI,h2,d64,gl,ep,ni]
    exact no r
   | true =>
    rw [h3] at ni
    have lt:=of_decide_eq_true h2
    refine⟨r++[p],⟨F.k1,F.k8,by rw [JH,JM]; omega,F.ok,fun z hz=>?_⟩,?_⟩
    ·rcases List.mem_append.mp hz with z' | z'
     ·exact F.rp z z'
     ·rw [List.mem_singleton.mp z']; exact F0.rp p hp
    ·have ap:gx (r.map fld) [.tup [.str p.1,p.2]]=some ((r++[p]).map fld):=by
      rw [nw (by rw [JI]; omega),KU]; rfl
     have sm:=fun K:Ks=>jl 5 gx (af (f2 aw (f2 aw (ai 0) (fC (.int 1))) (f2 bH (f2 bT (ai 3) (fC (.int 64))) (fL cQ (af (f2 aw (ai 0) (fC (.int 1))) (au))))) (au)) K [some (.val (fr k0 r0)),x1,x2,some (.val (.int x)),some (.own (.lst (k.map kf))),some (.own (.lst (r.map fld))),x6,some (.val (.int 6)),some (.val (.lst (M.map .str))),x9,x10] (xs:=r.map fld) rfl
     have no:=no (r++[p])
     unfold z6
     generalize hY:(r++[p]).map fld=Y at ap no
     simp! only [ca,jc,s6,DY,nn,JI,h2,d64,gl,ep,ni,sm,ap]
     exact no
end
def z5:cc:=(aF (eY (fB (f2 eI (ai 7) (fC (.int 5)))) (jF 4 (ai 6) (bh (af (f2 aw (jv 4 (ai 6)) (fC (.int 0))) (af (fR (bp cV 2 3) (af (f2 aw (f2 aw (f2 aw (ai 0) (fC (.int 0))) (f2 bH (ai 6) (fL cQ (af (f2 aw (ai 0) (fC (.int 0))) (au))))) (fC (.int 1))) (af (f2 bT (ai 3) (fC (.int 64))) (au)))) (au))))) (bI)) z6)
theorem oO (x0 x1 x2 x3 x6 x8 x9 x10:Option S) (w:Int) (hw:(w==5)=false) (k:KL) (r:List (Str×D)):z5 K0 [x0,x1,x2,x3,some (.own (.lst (k.map kf))),some (.own (.lst (r.map fld))),x6,some (.val (.int w)),x8,x9,x10]=z6 K0 [x0,x1,x2,x3,some (.own (.lst (k.map kf))),some (.own (.lst (r.map fld))),x6,some (.val (.int w)),x8,x9,x10]:=by
 unfold z5
 simp! only [ca,jc,hw]
def z4:cc:=(aF (eY (fB (f2 eI (ai 7) (fC (.int 4)))) (jF 4 (ai 6) (bh (af (f2 aw (jv 4 (ai 6)) (fC (.int 0))) (af (f2 aw (dU (af (bh (af (fC (.str "number")) (af (fC (.int 0)) (af (fC (.int 9)) (au))))) (af (bh (af (fC (.str "word")) (af (bh (af (fC (.str "")) (af (fC (.str "a")) (au)))) (au)))) (au)))) (fL nQ (af (f2 eI (f2 aw (f2 aw (jv 4 (ai 6)) (fC (.int 1))) (fC (.int 0))) (fC (.str "number"))) (au)))) (au))))) (bI)) z5)
theorem oP (x0 x1 x2 x3 x6 x8 x9 x10:Option S) (w:Int) (hw:(w==4)=false) (k:KL) (r:List (Str×D)):z4 K0 [x0,x1,x2,x3,some (.own (.lst (k.map kf))),some (.own (.lst (r.map fld))),x6,some (.val (.int w)),x8,x9,x10]=z5 K0 [x0,x1,x2,x3,some (.own (.lst (k.map kf))),some (.own (.lst (r.map fld))),x6,some (.val (.int w)),x8,x9,x10]:=by
 unfold z4
 simp! only [ca,jc,hw]
def z3:cc:=(aF (eY (fB (f2 eI (ai 7) (fC (.int 3)))) (oM 4 xU au) (bI)) z4)
theorem pF (x0 x1 x2 x3 x6 x8 x9 x10:Option S) (w:Int) (hw:(w==3)=false) (k:KL) (r:List (Str×D)):z3 K0 [x0,x1,x2,x3,some (.own (.lst (k.map kf))),some (.own (.lst (r.map fld))),x6,some (.val (.int w)),x8,x9,x10]=z4 K0 [x0,x1,x2,x3,some (.own (.lst (k.map kf))),some (.own (.lst (r.map fld))),x6,some (.val (.int w)),x8,x9,x10]:=by
 unfold z3
 simp! only [ca,jc,hw]
def z2:cc:=(aF (eY (fB (f2 eI (ai 7) (fC (.int 2)))) (jF 4 (ai 6) (bh (af (f2 aw (ai 9) (f2 bH (f2 bT (ai 3) (fC (.int 128))) (fL cQ (af (ai 9) (au))))) (af (f2 aw (jv 4 (ai 6)) (fC (.int 1))) (au))))) (bI)) z3)
theorem pq (x0 x1 x2 x3 x6 x8 x9 x10:Option S) (w:Int) (hw:(w==2)=false) (k:KL) (r:List (Str×D)):z2 K0 [x0,x1,x2,x3,some (.own (.lst (k.map kf))),some (.own (.lst (r.map fld))),x6,some (.val (.int w)),x8,x9,x10]=z3 K0 [x0,x1,x2,x3,some (.own (.lst (k.map kf))),some (.own (.lst (r.map fld))),x6,some (.val (.int w)),x8,x9,x10]:=by
 unfold z2
 simp! only [ca,jc,hw]
def z1:cc:=(aF (eY (et [4] (kU (fB (f2 eI (ai 7) (fC (.int 1)))) (fB (f2 lC (fL cQ (af (ai 4) (au))) (fC (.int 8)))))) (oM 4 uH (af (f2 bV (ai 6) (f2 bH (f2 bT (ai 3) (fC (.int 64))) (fC (.int 2)))) (af (bh (af (f2 aw (ai 9) (f2 bH (f2 bT (ai 3) (fC (.int 128))) (fL cQ (af (ai 9) (au))))) (af (bh (af (fC (.str "number")) (af (fC (.int 0)) (af (fC (.int 5)) (au))))) (au)))) (au)))) (bI)) z2)
theorem oW (x0 x1 x2 x3 x6 x8 x9 x10:Option S) (w:Int) (hw:(w==1)=false) (k:KL) (r:List (Str×D)):z1 K0 [x0,x1,x2,x3,some (.own (.lst (k.map kf))),some (.own (.lst (r.map fld))),x6,some (.val (.int w)),x8,x9,x10]=z2 K0 [x0,x1,x2,x3,some (.own (.lst (k.map kf))),some (.own (.lst (r.map fld))),x6,some (.val (.int w)),x8,x9,x10]:=by
 unfold z1
 simp! only [ca,jc,hw]
def z0:cc:=(aF (eY (et [4] (kU (fB (f2 eI (ai 7) (fC (.int 0)))) (fB (f2 C9 (fL cQ (af (ai 4) (au))) (fC (.int 1)))))) (oM 4 mG (af (ai 6) (au))) (bI)) z1)
theorem pW (x0 x1 x2 x3 x6 x8 x9 x10:Option S) (w:Int) (hw:(w==0)=false) (k:KL) (r:List (Str×D)):z0 K0 [x0,x1,x2,x3,some (.own (.lst (k.map kf))),some (.own (.lst (r.map fld))),x6,some (.val (.int w)),x8,x9,x10]=z1 K0 [x0,x1,x2,x3,some (.own (.lst (k.map kf))),some (.own (.lst (r.map fld))),x6,some (.val (.int w)),x8,x9,x10]:=by
 unfold z0
 simp! only [ca,jc,hw]
theorem e1 (x0 x1 x2 x3 x6 x8 x9 x10:Option S) (w:Int) (h1:(w==1)=false) (h2:(w==2)=false) (h3:(w==3)=false) (h4:(w==4)=false) (h5:(w==5)=false) (h6:(w==6)=false) (h7:(w==7)=false) (k:KL) (r:List (Str×D)):z1 K0 [x0,x1,x2,x3,some (.own (.lst (k.map kf))),some (.own (.lst (r.map fld))),x6,some (.val (.int w)),x8,x9,x10]=.ok (fr k r):=by
 rw [oW _ _ _ _ _ _ _ _ _ h1,pq _ _ _ _ _ _ _ _ _ h2,pF _ _ _ _ _ _ _ _ _ h3,oP _ _ _ _ _ _ _ _ _ h4,oO _ _ _ _ _ _ _ _ _ h5,pA _ _ _ _ _ _ _ _ _ h6]
 exact o4 _ _ _ _ _ _ _ _ _ h7 _ _
theorem e2 (x0 x1 x2 x3 x6 x8 x9 x10:Option S) (w:Int) (h2:(w==2)=false) (h3:(w==3)=false) (h4:(w==4)=false) (h5:(w==5)=false) (h6:(w==6)=false) (h7:(w==7)=false) (k:KL) (r:List (Str×D)):z2 K0 [x0,x1,x2,x3,some (.own (.lst (k.map kf))),some (.own (.lst (r.map fld))),x6,some (.val (.int w)),x8,x9,x10]=.ok (fr k r):=by
 rw [pq _ _ _ _ _ _ _ _ _ h2,pF _ _ _ _ _ _ _ _ _ h3,oP _ _ _ _ _ _ _ _ _ h4,oO _ _ _ _ _ _ _ _ _ h5,pA _ _ _ _ _ _ _ _ _ h6]
 exact o4 _ _ _ _ _ _ _ _ _ h7 _ _
theorem e3 (x0 x1 x2 x3 x6 x8 x9 x10:Option S) (w:Int) (h3:(w==3)=false) (h4:(w==4)=false) (h5:(w==5)=false) (h6:(w==6)=false) (h7:(w==7)=false) (k:KL) (r:List (Str×D)):z3 K0 [x0,x1,x2,x3,some (.own (.lst (k.map kf))),some (.own (.lst (r.map fld))),x6,some (.val (.int w)),x8,x9,x10]=.ok (fr k r):=by
 rw [pF _ _ _ _ _ _ _ _ _ h3,oP _ _ _ _ _ _ _ _ _ h4,oO _ _ _ _ _ _ _ _ _ h5,pA _ _ _ _ _ _ _ _ _ h6]
 exact o4 _ _ _ _ _ _ _ _ _ h7 _ _
theorem e4 (x0 x1 x2 x3 x6 x8 x9 x10:Option S) (w:Int) (h4:(w==4)=false) (h5:(w==5)=false) (h6:(w==6)=false) (h7:(w==7)=false) (k:KL) (r:List (Str×D)):z4 K0 [x0,x1,x2,x3,some (.own (.lst (k.map kf))),some (.own (.lst (r.map fld))),x6,some (.val (.int w)),x8,x9,x10]=.ok (fr k r):=by
 rw [oP _ _ _ _ _ _ _ _ _ h4,oO _ _ _ _ _ _ _ _ _ h5,pA _ _ _ _ _ _ _ _ _ h6]
 exact o4 _ _ _ _ _ _ _ _ _ h7 _ _
theorem e5 (x0 x1 x2 x3 x6 x8 x9 x10:Option S) (w:Int) (h5:(w==5)=false) (h6:(w==6)=false) (h7:(w==7)=false) (k:KL) (r:List (Str×D)):z5 K0 [x0,x1,x2,x3,some (.own (.lst (k.map kf))),some (.own (.lst (r.map fld))),x6,some (.val (.int w)),x8,x9,x10]=.ok (fr k r):=by
 rw [oO _ _ _ _ _ _ _ _ _ h5,pA _ _ _ _ _ _ _ _ _ h6]
 exact o4 _ _ _ _ _ _ _ _ _ h7 _ _
theorem e6 (x0 x1 x2 x3 x6 x8 x9 x10:Option S) (w:Int) (h6:(w==6)=false) (h7:(w==7)=false) (k:KL) (r:List (Str×D)):z6 K0 [x0,x1,x2,x3,some (.own (.lst (k.map kf))),some (.own (.lst (r.map fld))),x6,some (.val (.int w)),x8,x9,x10]=.ok (fr k r):=by
 rw [pA _ _ _ _ _ _ _ _ _ h6]
 exact o4 _ _ _ _ _ _ _ _ _ h7 _ _
section
variable {k0 k:KL} {r0 r:List (Str×D)}
theorem Fo.set (F:Fo k r) {a:Nat} {p:Str×Kd} (hp:p.2.ok):Fo (k.set a p) r:=⟨by rw [JK]; exact F.k1,by rw [JK]; exact F.k8,F.r8,fun q hq=>by
 rcases List.mem_or_eq_of_mem_set hq with z | z
 ·exact F.ok q z
 ·rw [z]; exact hp,F.rp⟩
theorem uS (k:KL) (a:Nat) (p:Str×Kd):(k.map kf).set a (kf p)=(k.set a p).map kf:=by rw [List.map_set]
theorem Di {a:Nat} (h:a < k.length):aw (.lst (k.map kf)) (.int (a:Int))=some (kf k[a]):=by rw [zQ,jg,jG h]; rfl
theorem y5 (F0:Fo k0 r0) (F:Fo k r) (x1 x2 x8 x9 x10:Option S) (x:Int) (a:Nat) (ha:a < k.length):∃ k',Fo k' r/\z5 K0 [some (.val (fr k0 r0)),x1,x2,some (.val (.int x)),some (.own (.lst (k.map kf))),some (.own (.lst (r.map fld))),some (.val (.int a)),some (.val (.int 5)),x8,x9,x10]=.ok (fr k' r):=by
 have k1:=F0.k1
 have s5:((5:Int)==5)=true:=rfl
 have d64:=fun i=>bJ (i:=i) (show (0:Int) < 64 by decide) (show (64:Int) < 10 ^ 200 by decide)
 have gl:=fun i=>bE (i:=i) (show (0:Int) < (k0.length:Int) by omega)
 have y1:=K9 (a:Int) (show (k0.length:Int)≠0 by omega)
 have y2:=La (a:Int) (show (0:Int) < (k0.length:Int) by omega)
 obtain⟨p,hp,ep⟩:∃ p∈k0,aw (.tup (k0.map kf)) (.int ((a:Int)%(k0.length:Int)))=some (kf p):=by
  refine⟨k0[((a:Int)%(k0.length:Int)).toNat]'‹0›,KO _,?_⟩
  rw [Fd,jg,j3 y1 y2]; rfl
 have p1:aw (kf p) (.int 1)=some p.2.d:=rfl
 obtain⟨c',ok,ec⟩:=zG p.2 (x / 64)
 have at1:=Di ha
 have a0:aw (kf k[a]) (.int 0)=some (.str k[a].1):=rfl
 refine⟨k.set a (k[a].1,c'),F.set ok,?_⟩
 have io:=HM (i:=4) (fk:=ai 6) (ρ:=[some (.val (fr k0 r0)),x1,x2,some (.val (.int x)),some (.own (.lst (k.map kf))),some (.own (.lst (r.map fld))),some (.val (.int a)),some (.val (.int 5)),x8,x9,x10]) rfl rfl at1
 have pu:=fun K:Ks=>zh (i:=4) (fi:=ai 6) (k:=K) (fv:=(bh (af (f2 aw (jv 4 (ai 6)) (fC (.int 0))) (af (fR (bp cV 2 3) (af (f2 aw (f2 aw (f2 aw (ai 0) (fC (.int 0))) (f2 bH (ai 6) (fL cQ (af (f2 aw (ai 0) (fC (.int 0))) (au))))) (fC (.int 1))) (af (f2 bT (ai 3) (fC (.int 64))) (au)))) (au))))) (ρ:=[some (.val (fr k0 r0)),x1,x2,some (.val (.int x)),some (.own (.lst (k.map kf))),some (.own (.lst (r.map fld))),some (.val (.int a)),some (.val (.int 5)),x8,x9,x10]) (xs:=k.map kf) (v:=kf (k[a].1,c')) rfl (by simp! only [io,a0,JI,gl,ep,p1,d64,ec,oo]; rfl) rfl (sr (by rw [JI]; exact ha))
 unfold z5
 simp! only [s5,pu,uS]
 exact e6 _ _ _ _ _ _ _ _ 5 rfl rfl _ _
theorem y4 (F:Fo k r) (x0 x1 x2 x3 x8 x9 x10:Option S) (a:Nat) (ha:a < k.length):∃ k',Fo k' r/\z4 K0 [x0,x1,x2,x3,some (.own (.lst (k.map kf))),some (.own (.lst (r.map fld))),some (.val (.int a)),some (.val (.int 4)),x8,x9,x10]=.ok (fr k' r):=by
 have s4:((4:Int)==4)=true:=rfl
 have at1:=Di ha
 have a0:aw (kf k[a]) (.int 0)=some (.str k[a].1):=rfl
 have a1:aw (kf k[a]) (.int 1)=some k[a].2.d:=rfl
 have a2:=Bs k[a].2
 have io:=HM (i:=4) (fk:=ai 6) (ρ:=[x0,x1,x2,x3,some (.own (.lst (k.map kf))),some (.own (.lst (r.map fld))),some (.val (.int a)),some (.val (.int 4)),x8,x9,x10]) rfl rfl at1
 have l2:∀ a b:D,js [a,b]=some (.lst [a,b]):=fun _ _=>nr rfl
 obtain⟨c',ok,ec⟩:∃ c':Kd,c'.ok/\f2 aw (dU (af (bh (af (fC (.str "number")) (af (fC (.int 0)) (af (fC (.int 9)) (au))))) (af (bh (af (fC (.str "word")) (af (bh (af (fC (.str "")) (af (fC (.str "a")) (au)))) (au)))) (au)))) (fL nQ (af (f2 eI (f2 aw (f2 aw (jv 4 (ai 6)) (fC (.int 1))) (fC (.int 0))) (fC (.str "number"))) (au))) [x0,x1,x2,x3,some (.own (.lst (k.map kf))),some (.own (.lst (r.map fld))),some (.val (.int a)),some (.val (.int 4)),x8,x9,x10]=.ok c'.d:=by
  cases hs:(k[a].2.srt==("number":Str)) with
  | true =>
   refine⟨.wrd ["","a"],by show (["","a"]:List Str).length<=100; simp,?_⟩
   have i1:nQ [.bl true]=some (.int 1):=rfl
   have ix:aw (.lst [.tup [.str "number",.int 0,.int 9],.tup [.str "word",.tup [.str "",.str "a"]]]) (.int 1)=some (Kd.wrd ["","a"]).d:=rfl
   simp! only [io,a1,a2,hs,As,oo,l2,i1,ix]
  | false =>
   refine⟨.num 0 9,trivial,?_⟩
   have i1:nQ [.bl false]=some (.int 0):=rfl
   have ix:aw (.lst [.tup [.str "number",.int 0,.int 9],.tup [.str "word",.tup [.str "",.str "a"]]]) (.int 0)=some (Kd.num 0 9).d:=rfl
   simp! only [io,a1,a2,hs,As,oo,l2,i1,ix]
 refine⟨k.set a (k[a].1,c'),F.set ok,?_⟩
 generalize hG:f2 aw (dU (af (bh (af (fC (.str "number")) (af (fC (.int 0)) (af (fC (.int 9)) (au))))) (af (bh (af (fC (.str "word")) (af (bh (af (fC (.str "")) (af (fC (.str "a")) (au)))) (au)))) (au)))) (fL nQ (af (f2 eI (f2 aw (f2 aw (jv 4 (ai 6)) (fC (.int 1))) (fC (.int 0))) (fC (.str "number"))) (au)))=G at ec
 have pu:=fun K:Ks=>zh (i:=4) (fi:=ai 6) (k:=K) (fv:=(bh (af (f2 aw (jv 4 (ai 6)) (fC (.int 0))) (af G (au))))) (ρ:=[x0,x1,x2,x3,some (.own (.lst (k.map kf))),some (.own (.lst (r.map fld))),some (.val (.int a)),some (.val (.int 4)),x8,x9,x10]) (xs:=k.map kf) (v:=kf (k[a].1,c')) rfl (by simp! only [io,a0,ec,oo]; rfl) rfl (sr (by rw [JI]; exact ha))
 unfold z4
 rw [hG]
 simp! only [s4,pu,uS]
 exact e5 _ _ _ _ _ _ _ _ 4 rfl rfl rfl _ _
theorem y3 (F:Fo k r) (x0 x1 x2 x3 x6 x8 x9 x10:Option S):∃ k',Fo k' r/\z3 K0 [x0,x1,x2,x3,some (.own (.lst (k.map kf))),some (.own (.lst (r.map fld))),x6,some (.val (.int 3)),x8,x9,x10]=.ok (fr k' r):=by
 have s3:((3:Int)==3)=true:=rfl
 have k8:=F.k8
 refine⟨k.reverse,⟨by rw [KY]; exact F.k1,by rw [KY]; exact k8,F.r8,fun p hp=>F.ok p (List.mem_reverse.mp hp),F.rp⟩,?_⟩
 have ap:xU (k.map kf) []=some (k.reverse.map kf):=by
  show (if small (k.map kf).length then some (k.map kf).reverse else none)=_
  rw [cZ (by rw [JI]; omega),List.map_reverse]; rfl
 have sm:=fun K:Ks=>jl 4 xU au K [x0,x1,x2,x3,some (.own (.lst (k.map kf))),some (.own (.lst (r.map fld))),x6,some (.val (.int 3)),x8,x9,x10] (xs:=k.map kf) rfl
 unfold z3
 simp! only [s3,sm,ap]
 exact e4 _ _ _ _ _ _ _ _ 3 rfl rfl rfl rfl _ _
theorem BL (sp:List Str) (h:8<=sp.length) (x:Int):∃ w:Str,aw (.lst (sp.map .str)) (.int (x / 128%(sp.length:Int)))=some (.str w):=by
 have y1:=K9 (x / 128) (show (sp.length:Int)≠0 by omega)
 have y2:=La (x / 128) (show (0:Int) < (sp.length:Int) by omega)
 refine⟨sp[(x / 128%(sp.length:Int)).toNat]'‹0›,?_⟩
 rw [zQ,jg,j3 y1 y2]; rfl
theorem y2 (F:Fo k r) (x0 x1 x2 x8 x10:Option S) (x:Int) (sp:List Str) (h8:8<=sp.length) (a:Nat) (ha:a < k.length):∃ k',Fo k' r/\z2 K0 [x0,x1,x2,some (.val (.int x)),some (.own (.lst (k.map kf))),some (.own (.lst (r.map fld))),some (.val (.int a)),some (.val (.int 2)),x8,some (.val (.lst (sp.map .str))),x10]=.ok (fr k' r):=by
 have s2:((2:Int)==2)=true:=rfl
 obtain⟨w,ew⟩:=BL sp h8 x
 have d128:=fun i=>bJ (i:=i) (show (0:Int) < 128 by decide) (show (128:Int) < 10 ^ 200 by decide)
 have gl:=fun i=>bE (i:=i) (show (0:Int) < (sp.length:Int) by omega)
 have at1:=Di ha
 have a1:aw (kf k[a]) (.int 1)=some k[a].2.d:=rfl
 have io:=HM (i:=4) (fk:=ai 6) (ρ:=[x0,x1,x2,some (.val (.int x)),some (.own (.lst (k.map kf))),some (.own (.lst (r.map fld))),some (.val (.int a)),some (.val (.int 2)),x8,some (.val (.lst (sp.map .str))),x10]) rfl rfl at1
 refine⟨k.set a (w,k[a].2),F.set (show k[a].2.ok from F.ok _ (KO ha)),?_⟩
 have pu:=fun K:Ks=>zh (i:=4) (fi:=ai 6) (k:=K) (fv:=(bh (af (f2 aw (ai 9) (f2 bH (f2 bT (ai 3) (fC (.int 128))) (fL cQ (af (ai 9) (au))))) (af (f2 aw (jv 4 (ai 6)) (fC (.int 1))) (au))))) (ρ:=[x0,x1,x2,some (.val (.int x)),some (.own (.lst (k.map kf))),some (.own (.lst (r.map fld))),some (.val (.int a)),some (.val (.int 2)),x8,some (.val (.lst (sp.map .str))),x10]) (xs:=k.map kf) (v:=kf (w,k[a].2)) rfl (by simp! only [d128,JI,gl,ew,io,a1,oo]; rfl) rfl (sr (by rw [JI]; exact ha))
 unfold z2
 simp! only [s2,pu,uS]
 exact e3 _ _ _ _ _ _ _ _ 2 rfl rfl rfl rfl rfl _ _
theorem y1 (F:Fo k r) (x0 x1 x2 x8 x10:Option S) (x:Int) (sp:List Str) (h8:8<=sp.length) (a:Nat) (ha:a < k.length):∃ k',Fo k' r/\z1 K0 [x0,x1,x2,some (.val (.int x)),some (.own (.lst (k.map kf))),some (.own (.lst (r.map fld))),some (.val (.int a)),some (.val (.int 1)),x8,some (.val (.lst (sp.map .str))),x10]=.ok (fr k' r):=by
 have s1:((1:Int)==1)=true:=rfl
 obtain⟨w,ew⟩:=BL sp h8 x
 have d128:=fun i=>bJ (i:=i) (show (0:Int) < 128 by decide) (show (128:Int) < 10 ^ 200 by decide)
 have d64:=fun i=>bJ (i:=i) (show (0:Int) < 64 by decide) (show (64:Int) < 10 ^ 200 by decide)
 have g2:=fun i=>bE (i:=i) (show (0:Int) < 2 by decide)
 have gl:=fun i=>bE (i:=i) (show (0:Int) < (sp.length:Int) by omega)
 have k1:=F.k1
 cases hl:decide ((k.length:Int) < 8) with
 | false =>
  refine⟨k,F,?_⟩
  unfold z1
  simp! only [ca,jc,s1,JI,hl]
  exact e2 _ _ _ _ _ _ _ _ 1 rfl rfl rfl rfl rfl rfl _ _
 | true =>
  have lt:=of_decide_eq_true hl
  obtain⟨j,hj,ej⟩:∃ j:Nat,j<=k.length/\(a:Int)+x / 64%2=(j:Int):=⟨((a:Int)+x / 64%2).toNat,by omega,by omega⟩
  refine⟨k.take j++(w,.num 0 5)::k.drop j,⟨by simp; omega,by simp; omega,F.r8,fun p hp=>?_,F.rp⟩,?_⟩
  ·rcases List.mem_append.mp hp with z | z
   ·exact F.ok p (List.mem_of_mem_take z)
   ·rcases List.mem_cons.mp z with rfl | z
    ·exact trivial
    ·exact F.ok p (List.mem_of_mem_drop z)
  ·have ap:uH (k.map kf) [.int j,.tup [.str w,.tup [.str "number",.int 0,.int 5]]]=some ((k.take j++(w,.num 0 5)::k.drop j).map kf):=by
    rw [CA (by rw [JI]; omega) (by rw [JI]; omega),KU,JO,List.map_take,List.map_drop]; rfl
   have sm:=fun K:Ks=>jl 4 uH (af (f2 bV (ai 6) (f2 bH (f2 bT (ai 3) (fC (.int 64))) (fC (.int 2)))) (af (bh (af (f2 aw (ai 9) (f2 bH (f2 bT (ai 3) (fC (.int 128))) (fL cQ (af (ai 9) (au))))) (af (bh (af (fC (.str "number")) (af (fC (.int 0)) (af (fC (.int 5)) (au))))) (au)))) (au))) K [x0,x1,x2,some (.val (.int x)),some (.own (.lst (k.map kf))),some (.own (.lst (r.map fld))),some (.val (.int a)),some (.val (.int 1)),x8,some (.val (.lst (sp.map .str))),x10] (xs:=k.map kf) rfl
   have en:=e2 x0 x1 x2 (some (.val (.int x))) (some (.val (.int a))) x8 (some (.val (.lst (sp.map .str)))) x10 1 rfl rfl rfl rfl rfl rfl (k.take j++(w,.num 0 5)::k.drop j) r
   unfold z1
   generalize (k.take j++(w,Kd.num 0 5)::k.drop j).map kf=Y at ap en
   simp! only [ca,jc,s1,JI,hl,sm,d64,g2,ej,d128,gl,ew,As,oo,ap]
   exact en
theorem y0 (F:Fo k r) (x0 x1 x2 x3 x8 x9 x10:Option S) (a:Nat) (ha:a < k.length):∃ k',Fo k' r/\z0 K0 [x0,x1,x2,x3,some (.own (.lst (k.map kf))),some (.own (.lst (r.map fld))),some (.val (.int a)),some (.val (.int 0)),x8,x9,x10]=.ok (fr k' r):=by
 have s0:((0:Int)==0)=true:=rfl
 have k8:=F.k8
 cases hl:decide ((1:Int) < (k.length:Int)) with
 | false =>
  refine⟨k,F,?_⟩
  unfold z0
  simp! only [ca,jc,s0,JI,hl]
  exact e1 _ _ _ _ _ _ _ _ 0 rfl rfl rfl rfl rfl rfl rfl _ _
 | true =>
  have lt:=of_decide_eq_true hl
  have le:=List.length_eraseIdx_of_lt ha
  refine⟨k.eraseIdx a,⟨by omega,by omega,F.r8,fun p hp=>F.ok p (List.mem_of_mem_eraseIdx hp),F.rp⟩,?_⟩
  have ap:mG (k.map kf) [.int a]=some ((k.eraseIdx a).map kf):=by
   show (if decide ((0:Int)<=(a:Int)/\(a:Int) < ((k.map kf).length:Int)) && small (k.map kf).length then some ((k.map kf).eraseIdx (a:Int).toNat) else none)=_
   rw [JI,decide_eq_true ‹0›,cZ ‹0›,Kl,KW,KW,KU,List.map_take,List.map_drop]; rfl
  have sm:=fun K:Ks=>jl 4 mG (af (ai 6) (au)) K [x0,x1,x2,x3,some (.own (.lst (k.map kf))),some (.own (.lst (r.map fld))),some (.val (.int a)),some (.val (.int 0)),x8,x9,x10] (xs:=k.map kf) rfl
  unfold z0
  simp! only [ca,jc,s0,JI,hl,sm,ap]
  exact e1 _ _ _ _ _ _ _ _ 0 rfl rfl rfl rfl rfl rfl rfl _ _
end
theorem hB:dC=aF (lu 4 (fL nY (af (f2 aw (ai 1) (fC (.int 0))) (au)))) (aF (lu 5 (fL nY (af (f2 aw (ai 1) (fC (.int 1))) (au)))) (aF (bB 6 (md [4] (f2 bH (f2 bT (ai 3) (fC (.int 8))) (fL cQ (af (ai 4) (au)))))) (aF (bB 7 (f2 bH (ai 3) (fC (.int 8)))) (aF (bB 8 (kZ [4,5] (iC [none,none] (bQ (f2 bV (ai 4) (ai 5))) (gT 2 (fJ [0,1])) (cP) (ai 0)))) (aF (bB 9 (iC [none,some 2,some 8] (cX (af (fC (.int 24)) (au))) (gN 0) (fB (f2 jo (fR (bp aN 2 7) (af (ai 1) (af (ai 0) (au)))) (ai 2))) (fR (bp aN 2 7) (af (ai 1) (af (ai 0) (au)))))) z0))))):=rfl
theorem uQ {k0 k:KL} {r0 r:List (Str×D)} (F0:Fo k0 r0) (F:Fo k r) (b x:Int) (hb:0<=b):∃ k' r',Fo k' r'/\bp dC 4 11 [fr k0 r0,fr k r,.int b,.int x]=.ok (fr k' r'):=by
 have k1:=F.k1
 have k8:=F.k8
 have r8:=F.r8
 have g8:=fun i=>bE (i:=i) (show (0:Int) < 8 by decide)
 have gl:=fun i=>bE (i:=i) (show (0:Int) < (k.length:Int) by omega)
 have d8:=fun i=>bJ (i:=i) (show (0:Int) < 8 by decide) (show (8:Int) < 10 ^ 200 by decide)
 have lfi:∀ i:Int,lf (.int i)=true:=fun _=>rfl
 have y1:=K9 (x / 8) (show (k.length:Int)≠0 by omega)
 have y2:=La (x / 8) (show (0:Int) < (k.length:Int) by omega)
 obtain⟨a,ha,ea⟩:∃ a:Nat,a < k.length/\x / 8%(k.length:Int)=(a:Int):=⟨(x / 8%(k.length:Int)).toNat,by omega,by omega⟩
 have np:=Az F
 obtain⟨sp,s8,s24,es⟩:=Ah b hb (nms k r) (by unfold nms; rw [JH,JI,JI]; omega)
 have key:∃ k' r',Fo k' r'/\z0 K0 [some (.val (fr k0 r0)),some (.val (fr k r)),some (.val (.int b)),some (.val (.int x)),some (.own (.lst (k.map kf))),some (.own (.lst (r.map fld))),some (.val (.int a)),some (.val (.int (x%8))),some (.val (.lst ((nms k r).map .str))),some (.val (.lst (sp.map .str))),none]=.ok (fr k' r'):=by
  rcases(show x%8=0\/x%8=1\/x%8=2\/x%8=3\/x%8=4\/x%8=5\/x%8=6\/x%8=7 by omega) with h | h | h | h | h | h | h | h <;> rw [h]
  ·obtain⟨k',f,e⟩:=y0 F (some (.val (fr k0 r0))) (some (.val (fr k r))) (some (.val (.int b))) (some (.val (.int x))) (some (.val (.lst ((nms k r).map .str)))) (some (.val (.lst (sp.map .str)))) none a ha
   exact⟨k',r,f,e⟩
  ·obtain⟨k',f,e⟩:=Tk52.y1 F (some (.val (fr k0 r0))) (some (.val (fr k r))) (some (.val (.int b))) (some (.val (.lst ((nms k r).map .str)))) none x sp s8 a ha
   exact⟨k',r,f,by rw [pW _ _ _ _ _ _ _ _ _ rfl]; exact e⟩
  ·obtain⟨k',f,e⟩:=Tk52.y2 F (some (.val (fr k0 r0))) (some (.val (fr k r))) (some (.val (.int b))) (some (.val (.lst ((nms k r).map .str)))) none x sp s8 a ha
   exact⟨k',r,f,by rw [pW _ _ _ _ _ _ _ _ _ rfl,oW _ _ _ _ _ _ _ _ _ rfl]; exact e⟩
  ·obtain⟨k',f,e⟩:=y3 F (some (.val (fr k0 r0))) (some (.val (fr k r))) (some (.val (.int b))) (some (.val (.int x))) (some (.val (.int a))) (some (.val (.lst ((nms k r).map .str)))) (some (.val (.lst (sp.map .str)))) none
   exact⟨k',r,f,by rw [pW _ _ _ _ _ _ _ _ _ rfl,oW _ _ _ _ _ _ _ _ _ rfl,pq _ _ _ _ _ _ _ _ _ rfl]; exact e⟩
  ·obtain⟨k',f,e⟩:=y4 F (some (.val (fr k0 r0))) (some (.val (fr k r))) (some (.val (.int b))) (some (.val (.int x))) (some (.val (.lst ((nms k r).map .str)))) (some (.val (.lst (sp.map .str)))) none a ha
   exact⟨k',r,f,by rw [pW _ _ _ _ _ _ _ _ _ rfl,oW _ _ _ _ _ _ _ _ _ rfl,pq _ _ _ _ _ _ _ _ _ rfl,pF _ _ _ _ _ _ _ _ _ rfl]; exact e⟩
  ·obtain⟨k',f,e⟩:=y5 F0 F (some (.val (fr k r))) (some (.val (.int b))) (some (.val (.lst ((nms k r).map .str)))) (some (.val (.lst (sp.map .str)))) none x a ha
   exact⟨k',r,f,by rw [pW _ _ _ _ _ _ _ _ _ rfl,oW _ _ _ _ _ _ _ _ _ rfl,pq _ _ _ _ _ _ _ _ _ rfl,pF _ _ _ _ _ _ _ _ _ rfl,oP _ _ _ _ _ _ _ _ _ rfl]; exact e⟩
  ·obtain⟨r',f,e⟩:=C7 F0 F (some (.val (fr k r))) (some (.val (.int b))) (some (.val (.int a))) (some (.val (.lst (sp.map .str)))) none x (nms k r)
   exact⟨k,r',f,by rw [pW _ _ _ _ _ _ _ _ _ rfl,oW _ _ _ _ _ _ _ _ _ rfl,pq _ _ _ _ _ _ _ _ _ rfl,pF _ _ _ _ _ _ _ _ _ rfl,oP _ _ _ _ _ _ _ _ _ rfl,oO _ _ _ _ _ _ _ _ _ rfl]; exact e⟩
  ·obtain⟨r',f,e⟩:=CT (k:=k) F (some (.val (fr k0 r0))) (some (.val (.int b))) (some (.val (.int a))) (some (.val (.lst ((nms k r).map .str)))) x sp s8
   exact⟨k,r',f,by rw [pW _ _ _ _ _ _ _ _ _ rfl,oW _ _ _ _ _ _ _ _ _ rfl,pq _ _ _ _ _ _ _ _ _ rfl,pF _ _ _ _ _ _ _ _ _ rfl,oP _ _ _ _ _ _ _ _ _ rfl,oO _ _ _ _ _ _ _ _ _ rfl,pA _ _ _ _ _ _ _ _ _ rfl]; exact e⟩
 obtain⟨k',r',f,e⟩:=key
 refine⟨k',r',f,?_⟩
 have ev4:∀ (B:cc) (n:Nat) (a b c d:D),bp B 4 n [a,b,c,d]=B K0 (env0 n [a,b,c,d]):=fun _ _ _ _ _ _=>rfl
 simp only [K0] at e
 rw [ev4,hB]
 simp! only [CG,B3,jc,d8,JI,gl,ea,lfi,g8,np,es,e]
theorem EQ (ws:List Str) (h:ws.Nodup) (hl:ws.length < 64):∃ us:List Str,gd [.lst (ws.map .str)]=some (.lst (us.map .str))/\us.Perm ws:=by
 have pz:∀ zs:List D,zs.Perm (ws.map D.str)->∃ us:List Str,zs=us.map .str/\us.Perm ws:=fun zs p=>by
  have e:zs=(zs.map fun z=>match z with | .str w=>w | _ => "").map .str:=by
   rw [KR]
   conv=>lhs; rw [<- List.map_id zs]
   refine KS fun z hz=>?_
   obtain⟨w,_,rfl⟩:=List.mem_map.mp (p.mem_iff.mp hz)
   rfl
  refine⟨_,e,?_⟩
  have q:=p.map fun z:D=>match z with | .str w=>w | _=>("":Str)
  rw [KR] at q
  have e2:ws.map ((fun z:D=>match z with | .str w=>w | _=>("":Str)) ∘ D.str)=ws:=by
   conv=>rhs; rw [<- List.map_id ws]
   exact KS fun _ _=>rfl
  rw [e2] at q
  exact q
 have fin:∀ key:D->List D,∃ us:List Str,some (D.lst (lH key (ws.map .str)))=some (.lst (us.map .str))/\us.Perm ws:=fun key=>by
  obtain⟨us,e,q⟩:=pz _ (eA key (ws.map .str))
  exact⟨us,by rw [e],q⟩
 show ∃ us,nW (ws.map .str)=_/\_
 unfold nW
 by_cases a:DA (ws.map .str)
 ·rw [if_pos a]; exact fin _
 ·have b:Dw (ws.map .str):=by
   refine⟨by rw [JI]; exact hl,false,fun x hx=>?_,?_⟩
   ·obtain⟨w,_,rfl⟩:=List.mem_map.mp hx
    exact .str w .nil
   ·rw [KP]
    refine h.imp fun hne e=>hne ?_
    have e:[D.str _]=[D.str _]:=e
    injection e with e _
    injection e
  rw [if_neg a,if_pos b]; exact fin _
def nK (b st:Int) (l:List (Str×D)):Prop:=∀ (j:Nat) (p:Str×D),l[j]?=some p->Cg b (st+(j:Int)) p.1
theorem ui {b st:Int} {l:List (Str×D)} (h:nK b st l) {w:Str} {k:D} (hw:Cg b (st+(l.length:Int)) w):nK b st (l++[(w,k)]):=fun j p e=>by
 rcases Nat.lt_trichotomy j l.length with z | z | z
 ·rw [JE z] at e; exact h j p e
 ·subst z
  rw [JC (Jt _),K1] at e
  cases e; exact hw
 ·rw [KZ (by simp; omega)] at e; cases e
theorem vI (dp g:Nat) (hk:∀ x b:Int,0<=x->x < 2147483700->0<=b->∃ d,aS g [.int x,.int b,.int dp]=.ok d/\K3 dp d) (x b st:Int) (m r:Nat) (h0:0<=x) (h1:x < 2147483700) (hb:0<=b) (hs:0<=st) (hm:m<=8) (hr:r<=8) :
  ∃ ps qs,aJ (g+1) [.int x,.int b,.int st,.int m,.int r,.int dp]=.ok (fm ps qs)/\ps.length=m/\qs.length=r/\GA (K3 dp) ps qs/\nK b st (ps++qs):=by
 rw [fe,CC]; unfold hV
 have rn:jk [.int ((m:Int)+(r:Int))]=some (eB 0 (m+r)):=by
  rw [show ((m:Int)+(r:Int))=((m+r:Nat):Int) by omega]
  exact e9 (m+r) ‹0›
 obtain⟨T,hT⟩:∃ T:cc,T=ir 7 (ir 6 (bW (bh (af (fL cy (af (ai 6) (au))) (af (fL cy (af (ai 7) (au))) (au)))))):=⟨_,rfl⟩
 rw [<- hT]
 simp! only [Ea,rn]
 refine ji (Q:=fun z=>∃ ps qs,z=.ok (fm ps qs)/\ps.length=m/\qs.length=r/\GA (K3 dp) ps qs/\nK b st (ps++qs))
  (fun i ρ=>∃ (y:Int) (ps qs:List (Str×D)),0<=y/\y < 2147483700/\ps.length=min i m/\qs.length=i - m/\(∀ p∈ps,Flat p.2)/\(∀ p∈qs,K3 dp p.2)/\nK b st (ps++qs) /\
   ρ=[some (.val (.int y)),some (.val (.int b)),some (.val (.int st)),some (.val (.int m)),some (.val (.int r)),some (.val (.int dp)),some (.own (.lst (ps.map fld))),some (.own (.lst (qs.map fld))),none]) ?_ ⟨x,[],[],h0,h1,by simp,by simp,(fun _ h=>nomatch h),(fun _ h=>nomatch h),(fun _ _ h=>by simp at h),rfl⟩ ?_
 ·rintro i d ρ kk hd ⟨y,ps,qs,y0,y1,lp,lq,fp,fq,fn,rfl⟩
  have hi:=gI hd
  rw [cL] at hi
  have hdi:d=.int (i:Int):=by
   rw [gJ,JF,Kh hi] at hd
   cases hd; simp
  subst hdi
  obtain⟨y',y0',y1',ey⟩:=ky y y0 y1
  obtain⟨nm,en,hnm⟩:=rR b (st+(i:Int)) hb ‹0›
  by_cases h:i < m
  ·have h':decide ((i:Int) < (m:Int))=true:=decide_eq_true ‹0›
   obtain⟨k,ek,fk⟩:=pS y' y0' ‹0›
   refine⟨_,_,rfl,⟨y',ps++[(nm,k)],qs,y0',by omega,by rw [JH,JM]; omega,by omega,fun p hp=>?_,fq,?_,rfl⟩,?_⟩
   ·rcases List.mem_append.mp hp with z | z
    ·exact fp p z
    ·rw [Lb] at z; subst z; exact fk
   ·have q0:qs=[]:=List.length_eq_zero_iff.mp ‹0›
    subst q0
    rw [JA] at fn ⊢
    exact ui fn (by rw [lp,Nat.min_eq_left ‹0›]; exact hnm)
   ·have ap:gx (ps.map fld) [.tup [.str nm,k]]=some ((ps++[(nm,k)]).map fld):=by
     rw [nw (by rw [JI]; omega),KU]; rfl
    have sm:=fun K:Ks=>jl 6 gx (af (bh (af (fR (bp aN 2 7) (af (ai 1) (af (f2 bV (ai 2) (ai 8)) (au)))) (af (fR (bp cv 1 8) (af (ai 0) (au))) (au)))) (au)) K [some (.val (.int y')),some (.val (.int b)),some (.val (.int st)),some (.val (.int m)),some (.val (.int r)),some (.val (.int dp)),some (.own (.lst (ps.map fld))),some (.own (.lst (qs.map fld))),some (.val (.int i))] (xs:=ps.map fld) rfl
    simp! only [ey,h',sm,en,ek,oo,ap]
  ·have h':decide ((i:Int) < (m:Int))=false:=decide_eq_false ‹0›
   obtain⟨k,ek,fk⟩:=hk y' b y0' ‹0› hb
   refine⟨_,_,rfl,⟨y',ps,qs++[(nm,k)],y0',by omega,by omega,by rw [JH,JM]; omega,fp,fun p hp=>?_,?_,rfl⟩,?_⟩
   ·rcases List.mem_append.mp hp with z | z
    ·exact fq p z
    ·rw [Lb] at z; subst z; exact fk
   ·rw [<- Kk]
    exact ui fn (by rw [JH,lp,lq,show min i m+(i - m)=i by omega]; exact hnm)
   ·have ap:gx (qs.map fld) [.tup [.str nm,k]]=some ((qs++[(nm,k)]).map fld):=by
     rw [nw (by rw [JI]; omega),KU]; rfl
    have sm:=fun K:Ks=>jl 7 gx (af (bh (af (fR (bp aN 2 7) (af (ai 1) (af (f2 bV (ai 2) (ai 8)) (au)))) (af (fR (aS g) (af (ai 0) (af (ai 1) (af (ai 5) (au))))) (au)))) (au)) K [some (.val (.int y')),some (.val (.int b)),some (.val (.int st)),some (.val (.int m)),some (.val (.int r)),some (.val (.int dp)),some (.own (.lst (ps.map fld))),some (.own (.lst (qs.map fld))),some (.val (.int i))] (xs:=qs.map fld) rfl
    simp! only [ey,h',sm,en,ek,oo,ap]
 ·rintro ρ' ⟨y,ps,qs,y0,y1,lp,lq,fp,fq,fn,rfl⟩
  rw [cL] at lp lq
  refine⟨ps,qs,?_,by omega,by omega,⟨by omega,by omega,fp,fq⟩,fn⟩
  rw [hT]
  simp! only [oo]
theorem A2:∀ (dp g:Nat),2*dp+1<=g->∀ x b:Int,0<=x->x < 2147483700->0<=b->∃ d,aS g [.int x,.int b,.int dp]=.ok d/\K3 dp d:=by
 intro dp
 induction dp with
 | zero =>
  intro g hg x b h0 h1 hb
  obtain⟨g,rfl⟩:∃ g',g=g'+1:=⟨g - 1,by omega⟩
  have d3:=fun i=>bJ (i:=i) (show (0:Int) < 3 by decide) (show (3:Int) < 10 ^ 200 by decide)
  obtain⟨d,e,f⟩:=pS (x / 3) ‹0› ‹0›
  refine⟨d,?_,f⟩
  rw [dJ,kX]; unfold fO
  have z:(((0:Nat):Int)==0)=true:=rfl
  simp! only [z,d3,e]
 | succ dp ih =>
  intro g hg x b h0 h1 hb
  obtain⟨g,rfl⟩:∃ g',g=g'+1+1:=⟨g - 2,by omega⟩
  have g2:=fun i=>bE (i:=i) (show (0:Int) < 2 by decide)
  have g3:=fun i=>bE (i:=i) (show (0:Int) < 3 by decide)
  have g12:=fun i=>bE (i:=i) (show (0:Int) < 12 by decide)
  have d3:=fun i=>bJ (i:=i) (show (0:Int) < 3 by decide) (show (3:Int) < 10 ^ 200 by decide)
  have d6:=fun i=>bJ (i:=i) (show (0:Int) < 6 by decide) (show (6:Int) < 10 ^ 200 by decide)
  have d18:=fun i=>bJ (i:=i) (show (0:Int) < 18 by decide) (show (18:Int) < 10 ^ 200 by decide)
  have d36:=fun i=>bJ (i:=i) (show (0:Int) < 36 by decide) (show (36:Int) < 10 ^ 200 by decide)
  have z:(((dp+1:Nat):Int)==0)=false:=by simp; omega
  rw [dJ,kX]; unfold fO
  by_cases h:x%3 < 2
  ·have h':decide (x%3 < 2)=true:=decide_eq_true h
   obtain⟨d,e,f⟩:=pS (x / 3) ‹0› ‹0›
   refine⟨d,?_,.inl f⟩
   simp! only [z,g3,h',d3,e]
  ·have h':decide (x%3 < 2)=false:=decide_eq_false h
   obtain⟨m,hm,hm8⟩:∃ m:Nat,1+x / 3%2=(m:Int)/\m<=8:=⟨(1+x / 3%2).toNat,by omega,by omega⟩
   obtain⟨r,hr,hr8⟩:∃ m:Nat,x / 6%3=(m:Int)/\m<=8:=⟨(x / 6%3).toNat,by omega,by omega⟩
   have hd:((dp+1:Nat):Int) - 1=(dp:Int):=by omega
   obtain⟨ps,qs,e,_,_,F,_⟩:=vI dp g (ih g ‹0›) (x / 3) b (x / 36%12) m r ‹0› ‹0› hb ‹0› hm8 hr8
   refine⟨.tup [.str "rows",fm ps qs,.bl (x / 18%2==1)],?_,.inr ⟨ps,qs,_,rfl,F⟩⟩
   simp! only [z,g3,h',d3,d36,g12,g2,d6,hm,hr,hd,e,d18,As]
theorem vK (dp:Nat) (hd:dp<=3) (x b st:Int) (m r:Nat) (h0:0<=x) (h1:x < 2147483700) (hb:0<=b) (hs:0<=st) (hm:m<=8) (hr:r<=8) :
  ∃ ps qs,aJ 12 [.int x,.int b,.int st,.int m,.int r,.int dp]=.ok (fm ps qs)/\ps.length=m/\qs.length=r/\GA (K3 dp) ps qs/\nK b st (ps++qs) :=
 vI dp 11 (A2 dp 11 ‹0›) x b st m r h0 h1 hb hs hm hr

theorem uO (x:Int):∃ us:List Str,us≠[]/\us.length<=8/\bp cK 1 6 [.int x]=.ok (.lst (us.map .str)):=by
 have g26:=fun i=>bE (i:=i) (show (0:Int) < 26 by decide)
 have d26:=fun i=>bJ (i:=i) (show (0:Int) < 26 by decide) (show (26:Int) < 10 ^ 200 by decide)
 have LL:(("abcdefghijklmnopqrstuvwxyz":Str)).length=26:=by decide +kernel
 generalize hL:("abcdefghijklmnopqrstuvwxyz":Str)=L at LL
 obtain⟨one,ho,e1⟩:=lX L ‹0› (x%26) ‹0› ‹0›
 obtain⟨oth,hq,e2⟩:=lX L ‹0› (x / 26%26) ‹0› ‹0›
 have a1:=fP one oth ‹0› ‹0›
 have a2:=fP oth one ‹0› ‹0›
 have a3:=fP one one ‹0› ‹0›
 have m1:=zc (x:=one) (n:=8) (by decide) (by decide) ‹0›
 have m2:=zc (x:=oth) (n:=3) (by decide) (by decide) ‹0›
 generalize hW:[D.str "",.str one,.str oth,.str (one++oth),.str (oth++one),.str (gV one 8),.str (one++one),.str (gV oth 3)]=W
 have W8:W.length=8:=by rw [<- hW]; rfl
 have Ws:∀ d∈W,∃ w:Str,d=.str w:=by
  rw [<- hW]
  intro d hd
  simp only [Kn,Lc,or_false] at hd
  rcases hd with rfl | rfl | rfl | rfl | rfl | rfl | rfl | rfl <;> exact⟨_,rfl⟩
 have mW:js W=some (.lst W):=zY ‹0›
 obtain⟨T,hT⟩:∃ T:cc,T=(ir 4 (bW (fL gd (af (fL jD (af (ai 4) (au))) (au))))):=⟨_,rfl⟩
 rw [nF]; unfold cK
 rw [<- hT]
 simp! only [hL,g26,e1,d26,e2,vE,a1,a2,a3,m1,m2,hW,mW]
 refine ji (Q:=fun z=>∃ us:List Str,us≠[]/\us.length<=8/\z=.ok (.lst (us.map .str))) (fun i ρ=>∃ ws:List Str,ws.Nodup/\ws.length<=i/\(0 < i->ws≠[])/\ρ=[none,none,some (.val (.str one)),some (.val (.str oth)),some (.own (wd ws)),none]) ?_ ⟨[],JV,Jt _,fun h=>by omega,rfl⟩ ?_
 ·rintro i d ρ kk hd ⟨ws,nd,hl,hn,rfl⟩
  have hi:=gI hd
  obtain⟨w,rfl⟩:=Ws d (JG hd)
  have pn:pT ws w≠[]:=by
   unfold pT
   split
   ·rename_i h
    intro z
    rw [z] at h
    simp at h
   ·simp
  refine⟨_,_,rfl,⟨pT ws w,sX w nd,by have:=o6 ws w; omega,fun _=>pn,rfl⟩,?_⟩
  have pk:=fun k:Ks=>sQ (i:=4) (fk:=ai 5) (fv:=fC (.bl true)) (k:=k) (ρ:=[none,none,some (.val (.str one)),some (.val (.str oth)),some (.own (wd ws)),some (.val (.str w))]) (al:=wC ws) (q:=.inr w) (d:=.str w) (v:=.bl true) rfl rfl rfl rfl (by simp; omega)
  simp! only [pk,uZ]
 ·rintro ρ' ⟨ws,nd,hl,hn,rfl⟩
  rw [W8] at hl hn
  obtain⟨us,eu,pu⟩:=EQ ws nd ‹0›
  refine⟨us,fun z=>hn (by decide) (by rw [z] at pu; exact pu.symm.eq_nil),by rw [pu.length_eq]; exact hl,?_⟩
  rw [hT]
  simp! only [ux,eu]
theorem tB:∀ (us:List Str) (i:Nat),jt i (us.map .str)=(us.zipIdx i).map fun p=>.tup [.int (p.2:Int),.str p.1]
 | [],_=>rfl
 | u::us,i=>by
  rw [JO,jt,tB us (i+1),Km,JO]
structure Mt (c e:Kd):Prop where
 o1:c.ok
 o2:e.ok
 s:c.srt=e.srt
 b:(sV c e).bad=false
 b':(sV e c).bad=false
theorem Mt.swap {c e:Kd} (h:Mt c e):Mt e c:=⟨h.o2,h.o1,h.s.symm,h.b',h.b⟩
theorem DW {lo w f g:Int} (h1:0<=f) (h2:f<=w) (h3:0<=g):Mt (.num lo (lo+w)) (.num (lo+f) (lo+f+g)):=by
 refine⟨trivial,trivial,rfl,?_,?_⟩
 ·show decide (mn (lo+w) (lo+f+g) < mx lo (lo+f))=false
  refine decide_eq_false ?_
  unfold mn mx
  split <;> split <;> omega
 ·show decide (mn (lo+f+g) (lo+w) < mx (lo+f) lo)=false
  refine decide_eq_false ?_
  unfold mn mx
  split <;> split <;> omega
theorem DG {a b:List Str} {w:Str} (h1:w∈a) (h2:w∈b) (l1:a.length<=100) (l2:b.length<=100):Mt (.wrd a) (.wrd b):=by
 refine⟨l1,l2,rfl,?_,?_⟩
 ·show (a.filter fun w=>b.contains w).isEmpty=false
  have:w∈a.filter fun w=>b.contains w:=List.mem_filter.mpr ⟨h1,by simpa using h2⟩
  cases h:a.filter fun w=>b.contains w with
  | nil=>rw [h] at this; cases this
  | cons _ _=>rfl
 ·show (b.filter fun w=>a.contains w).isEmpty=false
  have:w∈b.filter fun w=>a.contains w:=List.mem_filter.mpr ⟨h2,by simpa using h1⟩
  cases h:b.filter fun w=>a.contains w with
  | nil=>rw [h] at this; cases this
  | cons _ _=>rfl
theorem BD (a b c d i:Int) (h0:0<=i) (h1:i < 4):∃ x:Int,(x=a\/x=b\/x=c\/x=d)/\aw (.lst [.int a,.int b,.int c,.int d]) (.int i)=some (.int x):=by
 rcases(show i=0\/i=1\/i=2\/i=3 by omega) with z | z | z | z <;> subst z
 ·exact⟨a,by simp,rfl⟩
 ·exact⟨b,by simp,rfl⟩
 ·exact⟨c,by simp,rfl⟩
 ·exact⟨d,by simp,rfl⟩
def bit (y m:Int) (j:Nat):Bool:=Builtin.bitAnd (y / m / 2 ^ j) 1==1
theorem v7 (us:List Str) (hl:us.length<=8) (sp:Str) (hs:sp∈us) (y m:Int) (h0:0 < m) (h1:m < 10 ^ 200) (x0 x2 x3 x4 x5 x6:Option S):∃ ws:List Str,ws.length<=8/\sp∈ws/\iC [none,none,some 8,some 1] (fz (af (ai 7) (au))) (gT 2 (fJ [0,1])) (Aq (fB (f2 eI (ai 1) (ai 2))) (fB (f2 eI (f2 oN (f2 vo (f2 bT (ai 3) (fC (.int m))) (ai 0)) (fC (.int 1))) (fC (.int 1))))) (ai 1) [x0,some (.val (.int y)),x2,x3,x4,x5,x6,some (.val (.lst (us.map .str))),some (.val (.str sp))]=.ok (.lst (ws.map .str)):=by
 have dm:=fun i=>bJ (i:=i) h0 h1
 have en:ra [.lst (us.map .str)]=some ((us.zipIdx 0).map fun p=>.tup [.int (p.2:Int),.str p.1]):=by
  show some (jt 0 (us.map .str))=_
  rw [tB]
 refine⟨((us.zipIdx 0).filter fun p=>(p.1==sp) || bit y m p.2).map (·.1),?_,?_,?_⟩
 ·rw [JI]
  refine Jk (Le _ _) ?_
  rw [Lf]; exact hl
 ·obtain⟨j,hj,e⟩:=Ke hs
  refine List.mem_map.mpr ⟨(sp,j),List.mem_filter.mpr ⟨?_,by simp⟩,rfl⟩
  rw [List.mem_iff_getElem?]
  refine⟨j,?_⟩
  rw [List.getElem?_zipIdx,J8 hj,e]
  simp
 ·refine dZ (ds:=(us.zipIdx 0).map fun p=>.tup [.int (p.2:Int),.str p.1]) (by simp! only [en]) (by rw [JI,Lf]; omega) ?_
  refine Eq.trans (fj (ρ:=[none,none,some (.val (.str sp)),some (.val (.int y))]) (g:=gT 2 (fJ [0,1])) (fun p:Str×Nat=>D.tup [.int (p.2:Int),.str p.1]) (fun p=>(p.1==sp) || bit y m p.2) (D.str ∘ fun p:Str×Nat=>p.1) (us.zipIdx 0) fun p _=>⟨[some (.val (.int (p.2:Int))),some (.val (.str p.1)),some (.val (.str sp)),some (.val (.int y))],rfl,?_,?_⟩) (by rw [KR])
  ·have sh:=y9 (y / m) p.2
   unfold bit
   cases h:(p.1==sp) <;> simp! only [h,dm,sh,sZ,JR,JS]
  ·simp! only []; rfl
theorem sy (x:Int) (h0:0<=x) (h1:x < 2147483700):∃ c e:Kd,Mt c e/\bp cT 1 9 [.int x]=.ok (.tup [c.d,e.d]):=by
 obtain⟨y,y0,y1,ey⟩:=ky x h0 h1
 have g2:=fun i=>bE (i:=i) (show (0:Int) < 2 by decide)
 have g3:=fun i=>bE (i:=i) (show (0:Int) < 3 by decide)
 have g4:=fun i=>bE (i:=i) (show (0:Int) < 4 by decide)
 have d3:=fun i=>bJ (i:=i) (show (0:Int) < 3 by decide) (show (3:Int) < 10 ^ 200 by decide)
 have d12:=fun i=>bJ (i:=i) (show (0:Int) < 12 by decide) (show (12:Int) < 10 ^ 200 by decide)
 have d48:=fun i=>bJ (i:=i) (show (0:Int) < 48 by decide) (show (48:Int) < 10 ^ 200 by decide)
 have d200:=fun i=>bJ (i:=i) (show (0:Int) < 200 by decide) (show (200:Int) < 10 ^ 200 by decide)
 have p7:ju (.int y) (.int 7)=some (.int (y ^ 7)):=vz y 7 (by decide) ‹0›
 have pb:=BU
 have gp:=fun i=>bE (i:=i) (show (0:Int) < ye by omega)
 obtain⟨lo,_,e1⟩:=BD 0 (-3) (0 - y ^ 7%ye) (y ^ 7%ye) (x / 3%4) ‹0› ‹0›
 obtain⟨wd',hw,e2⟩:=BD 0 1 6 ye (x / 12%4) ‹0› ‹0›
 obtain⟨ex,hx,e3⟩:=BD 0 2 9 ye (x / 48%4) ‹0› ‹0›
 have w0:0<=wd':=by omega
 have x0:0<=ex:=by omega
 have gw:=fun i=>bE (i:=i) (show (0:Int) < wd'+1 by omega)
 have f0:=K9 (y ^ 7) (show wd'+1≠0 by omega)
 have f1:=La (y ^ 7) (show 0 < wd'+1 by omega)
 obtain⟨T,hT⟩:∃ T:cc,T=(aF (eY (fB (f2 eI (f2 bH (f2 bT (ai 0) (fC (.int 200))) (fC (.int 2))) (fC (.int 1)))) (bW (bh (af (ai 6) (af (ai 5) (au))))) (bI)) (bW (bh (af (ai 5) (af (ai 6) (au)))))):=⟨_,rfl⟩
 have fin:∀ (c e:Kd) (x1 x2 x3 x4 x7 x8:Option S),Mt c e->∃ c' e':Kd,Mt c' e'/\T K0 [some (.val (.int x)),x1,x2,x3,x4,some (.val c.d),some (.val e.d),x7,x8]=.ok (.tup [c'.d,e'.d]):=fun c e x1 x2 x3 x4 x7 x8 m=>by
  rw [hT]
  cases hb:(x / 200%2==1) with
  | true=>exact⟨e,c,m.swap,by simp! only [d200,g2,hb,oo]⟩
  | false=>exact⟨c,e,m,by simp! only [d200,g2,hb,oo]⟩
 rw [nF]; unfold cT
 rw [<- hT]
 simp only [K0] at fin
 cases h3:(x%3==2) with
 | false =>
  obtain⟨c',e',m,e⟩:=fin (.num lo (lo+wd')) (.num (lo+y ^ 7%(wd'+1)) (lo+y ^ 7%(wd'+1)+ex)) (some (.val (.int y))) (some (.val (.int lo))) (some (.val (.int wd'))) (some (.val (.int (y ^ 7%(wd'+1))))) none none (DW f0 ‹0› x0)
  unfold Kd.d at e
  refine⟨c',e',m,?_⟩
  refine Eq.trans ?_ e
  simp! only [ey,p7,vj,gp,FJ,d3,g4,e1,d12,e2,gw,As,d48,e3,g3,h3]
 | true =>
  obtain⟨us,u1,u2,eu⟩:=uO (x / 3)
  have ul:0 < us.length:=by
   cases us with
   | nil=>exact absurd rfl u1
   | cons _ _=>simp
  have gu:=fun i=>bE (i:=i) (show (0:Int) < (us.length:Int) by omega)
  have q1:=K9 y (show (us.length:Int)≠0 by omega)
  have q2:=La y (show (0:Int) < (us.length:Int) by omega)
  obtain⟨sp,hs,es⟩:∃ sp∈us,aw (.lst (us.map .str)) (.int (y%(us.length:Int)))=some (.str sp):=by
   refine⟨us[(y%(us.length:Int)).toNat]'‹0›,KO _,?_⟩
   rw [zQ,jg,j3 q1 q2]; rfl
  obtain⟨A,a1,a2,ea⟩:=v7 us u2 sp hs y 9 (by decide) (by decide) (some (.val (.int x))) (some (.val (.int lo))) (some (.val (.int wd'))) (some (.val (.int (y ^ 7%(wd'+1))))) (some (.val (.tup [.str "number",.int lo,.int (lo+wd')]))) (some (.val (.tup [.str "number",.int (lo+y ^ 7%(wd'+1)),.int (lo+y ^ 7%(wd'+1)+ex)])))
  obtain⟨B,b1,b2,eb⟩:=v7 us u2 sp hs y 3000 (by decide) (by decide) (some (.val (.int x))) (some (.val (.int lo))) (some (.val (.int wd'))) (some (.val (.int (y ^ 7%(wd'+1))))) (some (.val (.tup [.str "word",.tup (A.map .str)]))) (some (.val (.tup [.str "number",.int (lo+y ^ 7%(wd'+1)),.int (lo+y ^ 7%(wd'+1)+ex)])))
  obtain⟨c',e',m,e⟩:=fin (.wrd A) (.wrd B) (some (.val (.int y))) (some (.val (.int lo))) (some (.val (.int wd'))) (some (.val (.int (y ^ 7%(wd'+1))))) (some (.val (.lst (us.map .str)))) (some (.val (.str sp))) (DG a2 b2 ‹0› ‹0›)
  unfold Kd.d at e
  refine⟨c',e',m,?_⟩
  refine Eq.trans ?_ e
  simp! only [ey,p7,vj,gp,FJ,d3,g4,e1,d12,e2,gw,As,d48,e3,g3,h3,eu,JI,gu,es,ea,eb,oo]
theorem tD (x b:Int) (m:Nat) (h0:0<=x) (h1:x < 2147483700) (hb:0<=b) (hm:m<=8):∃ L:List ZP,L.length=m/\(∀ q∈L,q.1.1=q.2.1/\Mt q.1.2 q.2.2)/\bp cY 3 7 [.int x,.int b,.int m]=.ok (.tup [.tup ((L.map (·.1)).map kf),.tup ((L.map (·.2)).map kf)]):=by
 have rn:=e9 m ‹0›
 obtain⟨T,hT⟩:∃ T:cc,T=(ir 4 (ir 3 (bW (bh (af (fL cy (af (ai 3) (au))) (af (fL cy (af (ai 4) (au))) (au))))))):=⟨_,rfl⟩
 rw [kX]; unfold cY
 rw [<- hT]
 simp! only [Ea,rn]
 refine ji (Q:=fun z=>∃ L:List ZP,L.length=m/\(∀ q∈L,q.1.1=q.2.1/\Mt q.1.2 q.2.2)/\z=.ok (.tup [.tup ((L.map (·.1)).map kf),.tup ((L.map (·.2)).map kf)]))
  (fun i ρ=>∃ (y:Int) (L:List ZP),0<=y/\y < 2147483700/\L.length=i/\(∀ q∈L,q.1.1=q.2.1/\Mt q.1.2 q.2.2)/\ρ=[some (.val (.int y)),some (.val (.int b)),some (.val (.int m)),some (.own (.lst ((L.map (·.1)).map kf))),some (.own (.lst ((L.map (·.2)).map kf))),none,none]) ?_ ⟨x,[],h0,h1,rfl,(fun _ h=>nomatch h),rfl⟩ ?_
 ·rintro i d ρ kk hd ⟨y,L,y0,y1,ll,hq,rfl⟩
  have hi:=gI hd
  rw [cL] at hi
  have hdi:d=.int (i:Int):=by
   rw [gJ,JF,Kh hi] at hd
   cases hd; simp
  subst hdi
  obtain⟨y',y0',y1',ey⟩:=ky y y0 y1
  obtain⟨c,e,mt,ek⟩:=sy y' y0' ‹0›
  obtain⟨nm,en,_⟩:=rR b (i:Int) hb ‹0›
  have i0:aw (.tup [c.d,e.d]) (.int 0)=some c.d:=lL _ _
  have i1:aw (.tup [c.d,e.d]) (.int 1)=some e.d:=rfl
  have ap1:gx ((L.map (·.1)).map kf) [.tup [.str nm,c.d]]=some (((L++[((nm,c),(nm,e))]).map (·.1)).map kf):=by
   rw [nw (by rw [JI,JI]; omega),KU,KU]; rfl
  have ap2:gx ((L.map (·.2)).map kf) [.tup [.str nm,e.d]]=some (((L++[((nm,c),(nm,e))]).map (·.2)).map kf):=by
   rw [nw (by rw [JI,JI]; omega),KU,KU]; rfl
  refine⟨_,_,rfl,⟨y',L++[((nm,c),(nm,e))],y0',by omega,by rw [JH,JM]; omega,fun q hm=>?_,rfl⟩,?_⟩
  ·rcases List.mem_append.mp hm with z | z
   ·exact hq q z
   ·rw [List.mem_singleton.mp z]; exact⟨rfl,mt⟩
  ·generalize ((L++[((nm,c),(nm,e))]).map (·.1)).map kf=Y1 at ap1 ⊢
   generalize ((L++[((nm,c),(nm,e))]).map (·.2)).map kf=Y2 at ap2 ⊢
   generalize (L.map (·.1)).map kf=Z1 at ap1 ⊢
   generalize (L.map (·.2)).map kf=Z2 at ap2 ⊢
   have CO:=fun K:Ks=>jl 3 gx (af (bh (af (fR (bp aN 2 7) (af (ai 1) (af (ai 5) (au)))) (af (f2 aw (ai 6) (fC (.int 0))) (au)))) (au)) K [some (.val (.int y')),some (.val (.int b)),some (.val (.int m)),some (.own (.lst Z1)),some (.own (.lst Z2)),some (.val (.int i)),some (.val (.tup [c.d,e.d]))] (xs:=Z1) rfl
   have sm2:=fun K:Ks=>jl 4 gx (af (bh (af (fR (bp aN 2 7) (af (ai 1) (af (ai 5) (au)))) (af (f2 aw (ai 6) (fC (.int 1))) (au)))) (au)) K [some (.val (.int y')),some (.val (.int b)),some (.val (.int m)),some (.own (.lst Y1)),some (.own (.lst Z2)),some (.val (.int i)),some (.val (.tup [c.d,e.d]))] (xs:=Z2) rfl
   simp! only [ey,ek,CO,en,i0,oo,ap1,sm2,i1,ap2]
 ·rintro ρ' ⟨y,L,y0,y1,ll,hq,rfl⟩
  rw [cL] at ll
  refine⟨L,ll,hq,?_⟩
  rw [hT]
  simp! only [oo]
theorem Je (a b c d e f g h:D) (i:Int) (h0:0<=i) (h1:i < 8):∃ x∈[a,b,c,d,e,f,g,h],aw (.lst [a,b,c,d,e,f,g,h]) (.int i)=some x:=by
 rcases(show i=0\/i=1\/i=2\/i=3\/i=4\/i=5\/i=6\/i=7 by omega) with z | z | z | z | z | z | z | z <;> subst z
 ·exact⟨a,by simp,rfl⟩
 ·exact⟨b,by simp,rfl⟩
 ·exact⟨c,by simp,rfl⟩
 ·exact⟨d,by simp,rfl⟩
 ·exact⟨e,by simp,rfl⟩
 ·exact⟨f,by simp,rfl⟩
 ·exact⟨g,by simp,rfl⟩
 ·exact⟨h,by simp,rfl⟩
theorem rP:∀ L:List ZP,(L.map (·.1)).zip (L.map (·.2))=L
 | []=>rfl
 | a::L=>by rw [JO,JO,Kx,rP L]
theorem res_none {L:List ZP} {r q:List (Str×D)} {b:Int} (hq:∀ z∈L,z.1.1=z.2.1/\Mt z.1.2 z.2.2) (n1:nK b 8 r) (n2:nK b 16 q) (r8:r.length<=8) (q8:q.length<=8) (s8:r.length+q.length<=8):res (L.map (·.1)) (L.map (·.2)) r q = "none":=by
 unfold res
 have e1:(L.map (·.1)).map (·.1)=(L.map (·.2)).map (·.1):=by
  rw [KR,KR]
  exact KS fun z hz=>(hq z hz).1
 rw [decide_eq_true e1,if_neg (by simp),rP]
 have e2:(L.any fun q=>!(q.1.2.srt==q.2.2.srt))=false:=List.any_eq_false.mpr fun z hz=>by
  rw [(hq z hz).2.s]; simp
 have e3:(L.any fun q=>(sV q.1.2 q.2.2).bad)=false:=List.any_eq_false.mpr fun z hz=>by
  rw [(hq z hz).2.b]; simp
 have e4:(q.any fun z=>(r.map (·.1)).contains z.1)=false:=List.any_eq_false.mpr fun z hz h=>by
  have h:z.1∈r.map (·.1):=by simpa using h
  obtain⟨w,hw,e⟩:=List.mem_map.mp h
  obtain⟨i,hi,ei⟩:=Ke hz
  obtain⟨j,hj,ej⟩:=Ke hw
  have a:=n2 i z (by rw [J8 hi,ei])
  have c:=n1 j w (by rw [J8 hj,ej])
  rw [e] at c
  have:=wA ‹0› ‹0› ‹0› ‹0› a c
  omega
 rw [e2,if_neg Jx,e3,if_neg Jx,e4,if_neg Jx,decide_eq_false ‹0›,if_neg Jx]
theorem w6 (ns:List Int):∃ (k p:KL) (r q:List (Str×D)),Fo k r/\Fo p q/\res k p r q = "none"/\bp cp 1 8 [.lst (ns.map .int)]=.ok (.tup [fr k r,fr p q]):=by
 obtain⟨x,x0,x1,ex⟩:=wv ns 0 ‹0›
 obtain⟨c1,e1⟩:=TD.GI ns 1 (by decide)
 have ex:bp cH 2 3 [.lst (ns.map .int),.int 0]=.ok (.int x):=ex
 have mm:=fun i=>lJ (i:=i) (j:=48271) (by decide) (by decide)
 have gM:=fun i=>bE (i:=i) (show (0:Int) < 2147483647 by decide)
 have g4:=fun i=>bE (i:=i) (show (0:Int) < 4 by decide)
 have g8:=fun i=>bE (i:=i) (show (0:Int) < 8 by decide)
 have g9:=fun i=>bE (i:=i) (show (0:Int) < 9 by decide)
 have d8:=fun i=>bJ (i:=i) (show (0:Int) < 8 by decide) (show (8:Int) < 10 ^ 200 by decide)
 have d32:=fun i=>bJ (i:=i) (show (0:Int) < 32 by decide) (show (32:Int) < 10 ^ 200 by decide)
 have d64:=fun i=>bJ (i:=i) (show (0:Int) < 64 by decide) (show (64:Int) < 10 ^ 200 by decide)
 have d512:=fun i=>bJ (i:=i) (show (0:Int) < 512 by decide) (show (512:Int) < 10 ^ 200 by decide)
 have d2048:=fun i=>bJ (i:=i) (show (0:Int) < 2048 by decide) (show (2048:Int) < 10 ^ 200 by decide)
 obtain⟨b,hb,b0⟩:∃ b:Int,c1*48271%2147483647=b/\0<=b:=⟨_,rfl,K9 _ (by decide)⟩
 obtain⟨y,y0,y1,ey⟩:=ky x x0 ‹0›
 obtain⟨m,m1,m8,em⟩:∃ m:Nat,1<=m/\m<=8/\aw (.lst [.int 1,.int 2,.int 1,.int 3,.int 2,.int 1,.int 2,.int (1+x / 64%8)]) (.int (x%8))=some (.int (m:Int)):=by
  obtain⟨d,hd,ed⟩:=Je (.int 1) (.int 2) (.int 1) (.int 3) (.int 2) (.int 1) (.int 2) (.int (1+x / 64%8)) (x%8) ‹0› ‹0›
  simp only [Kn,Lc,or_false] at hd
  rcases hd with rfl | rfl | rfl | rfl | rfl | rfl | rfl | rfl
  ·exact⟨1,by decide,by decide,ed⟩
  ·exact⟨2,by decide,by decide,ed⟩
  ·exact⟨1,by decide,by decide,ed⟩
  ·exact⟨3,by decide,by decide,ed⟩
  ·exact⟨2,by decide,by decide,ed⟩
  ·exact⟨1,by decide,by decide,ed⟩
  ·exact⟨2,by decide,by decide,ed⟩
  ·exact⟨(1+x / 64%8).toNat,by omega,by omega,by rw [ed]; congr 2; omega⟩
 obtain⟨L,ll,hq,ek⟩:=tD y b m y0 ‹0› b0 m8
 obtain⟨dp,dp2,ed⟩:∃ dp:Nat,dp<=2/\aw (.lst [.int 0,.int 0,.int 1,.int 2]) (.int (x / 8%4))=some (.int (dp:Int)):=by
  obtain⟨z,hz,ez⟩:=BD 0 0 1 2 (x / 8%4) ‹0› ‹0›
  rcases hz with rfl | rfl | rfl | rfl
  ·exact⟨0,by decide,ez⟩
  ·exact⟨0,by decide,ez⟩
  ·exact⟨1,by decide,ez⟩
  ·exact⟨2,by decide,ez⟩
 have l2:∀ a b:D,js [a,b]=some (.lst [a,b]):=fun _ _=>nr rfl
 have l0:∀ a b:D,aw (.lst [a,b]) (.int 0)=some a:=fun _ _=>rfl
 have l1:∀ a b:D,aw (.lst [a,b]) (.int 1)=some b:=fun _ _=>rfl
 have t0:∀ a b:D,aw (.tup [a,b]) (.int 0)=some a:=fun _ _=>rfl
 have t1:∀ a b:D,aw (.tup [a,b]) (.int 1)=some b:=fun _ _=>rfl
 have key:∀ (u v:Nat) (dp:Nat),u+v<=8->dp<=2->∃ r q:List (Str×D),Fo (L.map (·.1)) r/\Fo (L.map (·.2)) q/\res (L.map (·.1)) (L.map (·.2)) r q = "none"/\aJ 12 [.int (y+1),.int b,.int 8,.int 0,.int u,.int dp]=.ok (.tup [.tup [],.tup (r.map fld)])/\aJ 12 [.int (y+2),.int b,.int 16,.int 0,.int v,.int dp]=.ok (.tup [.tup [],.tup (q.map fld)]):=fun u v dp huv hd=>by
  obtain⟨ps,r,er,p0,rl,Fr,nr'⟩:=vK dp ‹0› (y+1) b 8 0 u ‹0› ‹0› b0 ‹0› ‹0› ‹0›
  obtain⟨ps',q,eq,p0',ql,Fq,nq⟩:=vK dp ‹0› (y+2) b 16 0 v ‹0› ‹0› b0 ‹0› ‹0› ‹0›
  have z1:=List.length_eq_zero_iff.mp p0
  have z2:=List.length_eq_zero_iff.mp p0'
  subst z1 z2
  refine⟨r,q,⟨by rw [JI]; omega,by rw [JI]; omega,by omega,fun p hp=>?_,fun p hp=>yx (Fr.2.2.2 p hp)⟩,⟨by rw [JI]; omega,by rw [JI]; omega,by omega,fun p hp=>?_,fun p hp=>yx (Fq.2.2.2 p hp)⟩,res_none hq nr' nq ‹0› ‹0› ‹0›,er,eq⟩
  ·obtain⟨z,hz,rfl⟩:=List.mem_map.mp hp
   exact(hq z hz).2.o1
  ·obtain⟨z,hz,rfl⟩:=List.mem_map.mp hp
   exact(hq z hz).2.o2
 obtain⟨T,hT⟩:∃ T:cc,T=(aF (bB 6 (f2 aw (fR (aJ 12) (af (f2 bV (fR (bp bf 1 1) (af (ai 1) (au))) (fC (.int 1))) (af (ai 2) (af (fC (.int 8)) (af (fC (.int 0)) (af (f2 aw (ai 5) (fC (.int 0))) (af (ai 4) (au)))))))) (fC (.int 1)))) (aF (bB 7 (f2 aw (fR (aJ 12) (af (f2 bV (fR (bp bf 1 1) (af (ai 1) (au))) (fC (.int 2))) (af (ai 2) (af (fC (.int 16)) (af (fC (.int 0)) (af (f2 aw (ai 5) (fC (.int 1))) (af (ai 4) (au)))))))) (fC (.int 1)))) (bW (bh (af (bh (af (f2 aw (ai 3) (fC (.int 0))) (af (ai 6) (au)))) (af (bh (af (f2 aw (ai 3) (fC (.int 1))) (af (ai 7) (au)))) (au))))))):=⟨_,rfl⟩
 have fin:∀ (u v dp:Nat) (k5 k4:D),u+v<=8->dp<=2->k5=.lst [.int u,.int v]->k4=.int dp->∃ (k p:KL) (r q:List (Str×D)),Fo k r/\Fo p q/\res k p r q = "none"/\T K0 [some (.val (.lst (ns.map .int))),some (.val (.int x)),some (.val (.int b)),some (.val (.tup [.tup ((L.map (·.1)).map kf),.tup ((L.map (·.2)).map kf)])),some (.val k4),some (.val k5),none,none]=.ok (.tup [fr k r,fr p q]):=fun u v dp k5 k4 h1 h2 e5 e4=>by
  subst e5 e4
  obtain⟨r,q,F,G,rs,er,eq⟩:=key u v dp h1 h2
  refine⟨_,_,r,q,F,G,rs,?_⟩
  rw [hT]
  simp! only [ey,l0,l1,t0,t1,er,eq,oo]
 rw [nF]; unfold cp
 rw [<- hT]
 simp only [K0] at fin
 cases h3:(x / 32%8==3) with
 | true =>
  obtain⟨k,p,r,q,F,G,rs,e⟩:=fin (x / 512%9).toNat (8 - x / 512%9).toNat 0 (.lst [.int (x / 512%9),.int (8 - x / 512%9)]) (.int 0) ‹0› (by decide) (by rw [Lg ‹0›,Lg ‹0›]) rfl
  refine⟨k,p,r,q,F,G,rs,Eq.trans ?_ e⟩
  simp! only [ex,e1,mm,gM,hb,ey,d64,g8,IG,em,ek,d8,g4,FJ,ed,d512,d2048,l2,d32,h3,g9]
 | false =>
  obtain⟨k,p,r,q,F,G,rs,e⟩:=fin (x / 512%4).toNat (x / 2048%4).toNat dp (.lst [.int (x / 512%4),.int (x / 2048%4)]) (.int dp) ‹0› dp2 (by rw [Lg ‹0›,Lg ‹0›]) rfl
  refine⟨k,p,r,q,F,G,rs,Eq.trans ?_ e⟩
  simp! only [ex,e1,mm,gM,hb,ey,d64,g8,IG,em,ek,d8,g4,FJ,ed,d512,d2048,l2,d32,h3]
theorem math (ns:List Int) (hl:ns.length<=63):bp pM 1 6 [.lst (ns.map .int)]=.ok (.bl true):=by
 obtain⟨k,p,r,q,F,G,rs,ej⟩:=w6 ns
 obtain⟨c1,e1⟩:=TD.GI ns 1 (by decide)
 obtain⟨c2,e2⟩:=TD.GI ns 2 (by decide)
 have mm:=fun i=>lJ (i:=i) (j:=48271) (by decide) (by decide)
 have gM:=fun i=>bE (i:=i) (show (0:Int) < 2147483647 by decide)
 have g3:=fun i=>bE (i:=i) (show (0:Int) < 3 by decide)
 obtain⟨b,hb,b0⟩:∃ b:Int,c1*48271%2147483647=b/\0<=b:=⟨_,rfl,K9 _ (by decide)⟩
 have f0:=pB F G
 rw [rs] at f0
 have bq:((("none":Str))==(("none":Str)))=true:=by decide +kernel
 obtain⟨n,hn,en⟩:∃ n:Nat,n < 3/\c2%3=(n:Int):=⟨(c2%3).toNat,by omega,by omega⟩
 have rn:=e9 n ‹0›
 have un2:∀ (a b:D) (ρ:av),gT 2 (fJ [1,2]) (.tup [a,b]) ρ=some (setV 2 b (setV 1 a ρ)):=fun _ _ _=>rfl
 have evU:∀ (f:FX) (g:GF) (k:Ks) (ρ:av),AW f g k ρ=og (f ρ) k ρ fun d=>(rO (g d ρ)).bind k.nx:=fun _ _ _ _=>rfl
 rw [nF]; unfold pM
 simp! only [evU,ej,un2,e1,mm,gM,hb,f0,bq,e2,g3,en,rn]
 refine ji (Q:=fun z=>z=.ok (.bl true)) (fun j ρ=>∃ (k':KL) (r':List (Str×D)),Fo k' r'/\ρ=[some (.val (.lst (ns.map .int))),some (.val (fr k r)),some (.val (fr p q)),some (.val (.int b)),some (.val (fr k' r')),none]) ?_ ⟨p,q,G,rfl⟩ ?_
 ·rintro j d ρ kk hd ⟨k',r',F',rfl⟩
  have hj:=gI hd
  rw [cL] at hj
  have hdi:d=.int (j:Int):=by
   rw [gJ,JF,Kh hj] at hd
   cases hd; simp
  subst hdi
  obtain⟨s,s0,s1,es⟩:=wv ns (3+j) ‹0›
  have es:bp cH 2 3 [.lst (ns.map .int),.int (3+(j:Int))]=.ok (.int s):=by
   have c:((3+j:Nat):Int)=3+(j:Int):=by omega
   rw [<- c]; exact es
  obtain⟨k2,r2,F2',e⟩:=uQ F F' b s b0
  refine⟨_,_,rfl,⟨k2,r2,F2',rfl⟩,?_⟩
  simp! only [es,e]
 ·rintro ρ' ⟨k',r',F',rfl⟩
  have a1:=pB F F'
  have a2:=zI F F'
  have a3:=pB F' F
  have a4:=zI F' F
  simp! only [a1,a2,BEq.rfl,a3,a4,f0,bq,Bool.and_self]
end Tk52
open PySem PySem.W PyProof.Rows
theorem PySem.W.Fast.tw7044853826882996714 : True := trivial
theorem PySem.W.Fast.tw15745136951986232952 : True := trivial
theorem PySem.W.Fast.tw7664429720190576386 : True := trivial
theorem PySem.W.Fast.tw15501640016004550969 : True := trivial
theorem PySem.W.Fast.tw3113518023187628244 : True := trivial
theorem PySem.W.Fast.tw6758217752662626334 : True := trivial
theorem PySem.W.Fast.tw16636108270697071762 : True := trivial
theorem PySem.W.Fast.tw7119307926655396237 : True := trivial
theorem PySem.W.Fast.tw270541817704354133 : True := trivial
theorem PySem.W.Fast.tw8390715331397919659 : True := trivial
theorem PySem.W.Fast.tw12698181356162963099 : True := trivial
theorem PySem.W.Fast.tw622956635658718914 : True := trivial
theorem PySem.W.Fast.tw12955547672724718239 : True := trivial
theorem PySem.W.Fast.tw9213388903656307052 : True := trivial
theorem PySem.W.Fast.tw1424813370266665930 : True := trivial
theorem PySem.W.Fast.tw14418374516951310815 : True := trivial
theorem PySem.W.Fast.tw485939088734240228 : True := trivial
theorem PySem.W.Fast.tw8338648296121482144 : True := trivial
theorem PySem.W.Fast.tw8793094845867898502 : True := trivial
theorem PySem.W.Fast.tw11927671316381491516 : True := trivial
theorem PySem.W.Fast.tw5841540921676649090 : True := trivial
theorem PySem.W.Fast.tw8766222283906829682 : True := trivial
theorem PySem.W.Fast.tw12841702763661455131 : True := trivial
theorem PySem.W.Fast.tw6299849227552586518 : True := trivial
theorem PySem.W.Fast.tw17419984084352939949 : True := trivial
theorem PySem.W.Fast.tw9167824988003538529 : True := trivial
theorem PySem.W.Fast.tw4680657220304906754 : True := trivial
theorem PySem.W.Fast.tw13379195762335554138 : True := trivial
theorem PySem.W.Fast.tw11651421088629232275 : True := trivial
theorem PySem.W.Fast.tw15875639918805705901 : True := trivial
theorem PySem.W.Fast.tw6575800840013969307 : True := trivial
theorem PySem.W.Fast.tw7518615798919226299 : True := trivial
theorem PySem.W.Fast.tw8395959362917714018 : True := trivial
theorem PySem.W.Fast.tw2117282422681949535 : True := trivial
theorem PySem.W.Fast.tw10343923999509740020 : True := trivial
theorem PySem.W.Fast.tw13228361638344177155 : True := trivial
theorem PySem.W.Fast.tw8966500710213596755 : True := trivial
theorem PySem.W.Fast.tw2143571573877329828 : True := trivial
theorem PySem.W.Fast.tw11805164269677106071 : True := trivial
theorem PySem.W.Fast.tw6372358821772450270 : True := trivial
theorem PySem.W.Fast.tw16742636529161060866 : True := trivial
theorem PySem.W.Fast.tw4271585964898135909 : True := trivial
theorem PySem.W.Fast.tw16147018980970627511 : True := trivial
theorem PySem.W.Fast.tw11704902145355665467 : True := trivial
theorem PySem.W.Fast.tw3213890333701579330 : True := trivial
theorem PySem.W.Fast.tw9637791515439092535 : True := trivial
theorem PySem.W.Fast.tw13914167474220454749 : True := trivial
theorem PySem.W.Fast.tw8640878715403175610 : True := trivial
theorem PySem.W.Fast.tw12597923922338280518 : True := trivial
theorem PySem.W.Fast.tw9378871835442856727 : True := trivial
theorem PySem.W.Fast.tw7288757377828771240 : True := trivial
theorem PySem.W.Fast.tw5232965820335869831 : True := trivial
theorem PySem.W.Fast.tw14745312922754577417 : True := trivial
theorem PySem.W.Fast.tw10181915986231220854 : True := trivial
theorem PySem.W.Fast.tw3010753310195017874 : True := trivial
theorem PySem.W.Fast.tw18265806342765385232 : True := trivial
theorem PySem.W.Fast.tw2476558517085449277 : True := trivial
theorem PySem.W.Fast.tw10154537703910960673 : True := trivial
theorem PySem.W.Fast.tw7275009261915753009 : True := trivial
theorem PySem.W.Fast.tw2556713840012951098 : True := trivial
theorem PySem.W.Fast.tw13531701614700925218 : True := trivial
theorem PySem.W.Fast.tw15600959091013972935 : True := trivial
theorem PySem.W.Fast.tw15967244662349948797 : True := trivial
theorem PySem.W.Fast.tw9101289204411199435 : True := trivial
theorem PySem.W.Fast.tw6278199050300109076 : True := trivial
theorem PySem.W.Fast.tw18247440916805755325 : True := trivial
theorem PySem.W.Fast.tw6271030624626520260 : True := trivial
theorem PySem.W.Fast.tw6411729044225645186 : True := trivial
theorem PySem.W.Fast.tw8429444941576045720 : True := trivial
theorem PySem.W.Fast.tw639261287600294390 : True := trivial
theorem PySem.W.Fast.tw9324401020452451797 : True := trivial
theorem PySem.W.Fast.tw7716764831456075008 : True := trivial
theorem PySem.W.Fast.tw15623222369886004243 : True := trivial
theorem PySem.W.Fast.tw6130191782244345374 : True := trivial
theorem PySem.W.Fast.tw4715686301382488019 : True := trivial
theorem PySem.W.Fast.tw579467544305800105 : True := trivial
theorem PySem.W.Fast.tw2244303089748443895 : True := trivial
theorem PySem.W.Fast.tw7732336438566026354 : True := trivial
theorem PySem.W.Fast.tw12258990115050162585 : True := trivial
theorem PySem.W.Fast.tw6030737097883773334 : True := trivial
theorem PySem.W.Fast.tw1845510624936955996 : True := trivial
theorem PySem.W.Fast.tw10387296641306933875 : True := trivial
theorem PySem.W.Fast.tw7175290139182137453 : True := trivial
theorem PySem.W.Fast.tw2487208055704151747 : True := trivial
theorem PySem.W.Fast.tw5671401214449886249 : True := trivial
theorem PySem.W.Fast.tw3589935279510857942 : True := trivial
theorem PySem.W.Fast.tw8343365280419003811 : True := trivial
theorem PySem.W.Fast.tw9214030989552957639 : True := trivial
theorem PySem.W.Fast.tw8923659146014308303 : True := trivial
theorem PySem.W.Fast.tw6514113841157130841 : True := trivial
theorem PySem.W.Fast.tw14183712935785024001 : True := trivial
theorem PySem.W.Fast.tw10903508358383003937 : True := trivial
theorem PySem.W.Fast.tw18444924244112223878 : True := trivial
theorem PySem.W.Fast.tw2577696523398331030 : True := trivial
theorem PySem.W.Fast.tw6251270358388135783 : True := trivial
theorem PySem.W.Fast.tw8892543340861863229 : True := trivial
theorem PySem.W.Fast.tw5716446196155260970 : True := trivial
theorem PySem.W.Fast.tw15006033598160168421 : True := trivial
theorem PySem.W.Fast.tw129512176382029431 : True := trivial
theorem PySem.W.Fast.tw13993759444035467436 : True := trivial
theorem PySem.W.Fast.tw2886205229250062390 : True := trivial
theorem PySem.W.Fast.tw5408510232070857936 : True := trivial
theorem PySem.W.Fast.tw5811173256822278843 : True := trivial
theorem PySem.W.Fast.tw6709586160961754919 : True := trivial
set_option maxRecDepth 100000 in
set_option maxHeartbeats 0 in
theorem PySem.Challenge.cw_twoglass_k52_joins_refused_holds : PySem.Challenge.rw_twoglass_k52_joins_refused.Holds := by
  w_on; o_law; k_head; (case hw => w_witness2)
  k_fill
  refine Tk52.walk (l := PySem.Challenge.rw_twoglass_k52_joins_refused) rfl rfl (fun w h Y => PySem.W.kIn_of Y) ?F Tk52.math
  case F =>
    intro w mg fa h KX G hmg
    refine' Tk52.all_mk KX G hmg ?ac0 ?ac1 ?a0 ?l0 ?c0 ?k0 ?a1 ?i1 ?l1 ?c1 ?k1 ?a2 ?l2 ?c2 ?k2 ?a3 ?l3 ?c3 ?k3 ?a4 ?l4 ?c4 ?k4 ?a5 ?l5 ?c5 ?k5 ?a6 ?i6 ?l6 ?c6 ?k6 ?a7 ?l7 ?c7 ?k7 ?a8 ?l8 ?c8 ?k8 ?a9 ?l9 ?c9 ?k9 ?a10 ?l10 ?c10 ?k10 ?a11 ?l11 ?c11 ?k11 ?a12 ?l12 ?c12 ?k12 ?a13 ?l13 ?c13 ?k13 ?a14 ?l14 ?c14 ?k14 ?a15 ?l15 ?c15 ?k15 ?a16 ?l16 ?c16 ?k16 ?a17 ?l17 ?c17 ?k17 ?a18 ?l18 ?c18 ?k18 ?a19 ?l19 ?c19 ?k19 ?a20 ?l20 ?c20 ?k20 ?a21 ?l21 ?c21 ?k21 ?a22 ?l22 ?c22 ?k22 ?a23 ?l23 ?c23 ?k23 ?p0 ?q0 ?r0 ?s0 ?p1 ?q1 ?r1 ?s1 ?o1 ?m1 ?kp1 ?xa0 ?xa1 ?xa2 ?xa3 ?xa4 ?xa5 ?xa6 ?xa7 ?xa8 ?xa9 ?xa10 ?xa11 ?xa12 ?xa13 ?xe4 ?xe3 ?xe5 ?xe7 ?xsg ?xtk ?xg5 ?xn5 ?xf5 ?xb5 ?xg4 ?xn4 ?xf4 ?xb4 ?xg3 ?xn3 ?xf3 ?xb3 ?xg7 ?xn7 ?xf7 ?xb7 ?xo0 ?xt0 ?xo1 ?xt1 ?xo2 ?xt2 ?xo3 ?xt3 ?xo4 ?xt4 ?xo5 ?xt5 ?xo6 ?xt6 ?xo7 ?xt7 ?xo8 ?xt8 ?xo9 ?xt9 ?xo10 ?xt10 ?xo11 ?xt11 ?xo12 ?xt12 ?xo13 ?xt13 ?xw13 ?xm13_5 ?xm13_4 ?xm13_3 ?xm13_7 ?xk0_5 ?vnx0_5 ?xk0_4 ?vnx0_4 ?xk0_3 ?vnx0_3 ?xk0_7 ?vnx0_7 ?xk1_5 ?vnx1_5 ?xk1_4 ?vnx1_4 ?xk1_3 ?vnx1_3 ?xk1_7 ?vnx1_7 ?xk2_5 ?vnx2_5 ?xk2_4 ?vnx2_4 ?xk2_3 ?vnx2_3 ?xk2_7 ?vnx2_7 ?xk3_5 ?vnx3_5 ?xk3_4 ?vnx3_4 ?xk3_3 ?xk3_7 ?vnx3_7 ?xk4_5 ?vnx4_5 ?xk4_4 ?xk4_3 ?vnx4_3 ?xk4_7 ?vnx4_7 ?xk5_5 ?xk5_4 ?vnx5_4 ?xk5_3 ?vnx5_3 ?xk5_7 ?vnx5_7 ?xk6_5 ?vnx6_5 ?xk6_4 ?vnx6_4 ?xk6_3 ?vnx6_3 ?xk6_7 ?vnx6_7 ?xk7_5 ?vnx7_5 ?xk7_4 ?vnx7_4 ?xk7_3 ?vnx7_3 ?xk7_7 ?xk8_5 ?vnx8_5 ?xk8_4 ?vnx8_4 ?xk8_3 ?vnx8_3 ?xk8_7 ?vnx8_7 ?xk9_5 ?vnx9_5 ?xk9_4 ?vnx9_4 ?xk9_3 ?vnx9_3 ?xk9_7 ?vnx9_7 ?xk10_5 ?vnx10_5 ?xk10_4 ?vnx10_4 ?xk10_3 ?vnx10_3 ?xk10_7 ?vnx10_7 ?xk11_5 ?vnx11_5 ?xk11_4 ?vnx11_4 ?xk11_3 ?vnx11_3 ?xk11_7 ?vnx11_7 ?xk12_5 ?vnx12_5 ?xk12_4 ?vnx12_4 ?xk12_3 ?vnx12_3 ?xk12_7 ?vnx12_7 ?xv_ValueError_5 ?xv_ValueError_4 ?xv_ValueError_3 ?xv_ValueError_7 ?z0 ?z1 ?z2 ?z3 ?z4 ?z5 ?z6 ?z7 ?z8 ?z9 ?z10 ?z11 ?z12 ?e0
    (case ac0 => k_is)
    (case ac1 => k_is)
    (case a0 => k_is)
    (case l0 => delta TX.Lk; k_is)
    (case c0 => k_is)
    (case k0 => k_is)
    (case a1 => k_is)
    (case i1 => k_is)
    (case l1 => delta TX.Lk; k_is)
    (case c1 => k_is)
    (case k1 => k_is)
    (case a2 => k_is)
    (case l2 => delta TX.Lk; k_is)
    (case c2 => k_is)
    (case k2 => k_is)
    (case a3 => k_is)
    (case l3 => delta TX.Lk; k_is)
    (case c3 => k_is)
    (case k3 => k_is)
    (case a4 => k_is)
    (case l4 => delta TX.Lk; k_is)
    (case c4 => k_is)
    (case k4 => k_is)
    (case a5 => k_is)
    (case l5 => delta TX.Lk; k_is)
    (case c5 => k_is)
    (case k5 => k_is)
    (case a6 => k_is)
    (case i6 => k_is)
    (case l6 => delta TX.Lk; k_is)
    (case c6 => k_is)
    (case k6 => k_is)
    (case a7 => k_is)
    (case l7 => delta TX.Lk; k_is)
    (case c7 => k_is)
    (case k7 => k_is)
    (case a8 => k_is)
    (case l8 => delta TX.Lk; k_is)
    (case c8 => k_is)
    (case k8 => k_is)
    (case a9 => k_is)
    (case l9 => delta TX.Lk; k_is)
    (case c9 => k_is)
    (case k9 => k_is)
    (case a10 => k_is)
    (case l10 => delta TX.Lk; k_is)
    (case c10 => k_is)
    (case k10 => k_is)
    (case a11 => k_is)
    (case l11 => delta TX.Lk; k_is)
    (case c11 => k_is)
    (case k11 => k_is)
    (case a12 => k_is)
    (case l12 => delta TX.Lk; k_is)
    (case c12 => k_is)
    (case k12 => k_is)
    (case a13 => k_is)
    (case l13 => delta TX.Lk; k_is)
    (case c13 => k_is)
    (case k13 => k_is)
    (case a14 => k_is)
    (case l14 => delta TX.Lk; k_is)
    (case c14 => k_is)
    (case k14 => k_is)
    (case a15 => k_is)
    (case l15 => delta TX.Lk; k_is)
    (case c15 => k_is)
    (case k15 => k_is)
    (case a16 => k_is)
    (case l16 => delta TX.Lk; k_is)
    (case c16 => k_is)
    (case k16 => k_is)
    (case a17 => k_is)
    (case l17 => delta TX.Lk; k_is)
    (case c17 => k_is)
    (case k17 => k_is)
    (case a18 => k_is)
    (case l18 => delta TX.Lk; k_is)
    (case c18 => k_is)
    (case k18 => k_is)
    (case a19 => k_is)
    (case l19 => delta TX.Lk; k_is)
    (case c19 => k_is)
    (case k19 => k_is)
    (case a20 => k_is)
    (case l20 => delta TX.Lk; k_is)
    (case c20 => k_is)
    (case k20 => k_is)
    (case a21 => k_is)
    (case l21 => delta TX.Lk; k_is)
    (case c21 => k_is)
    (case k21 => k_is)
    (case a22 => k_is)
    (case l22 => delta TX.Lk; k_is)
    (case c22 => k_is)
    (case k22 => k_is)
    (case a23 => k_is)
    (case l23 => delta TX.Lk; k_is)
    (case c23 => k_is)
    (case k23 => k_is)
    (case p0 => k_is)
    (case q0 => k_is)
    (case r0 => k_is)
    (case s0 => k_is)
    (case p1 => k_is)
    (case q1 => k_is)
    (case r1 => k_is)
    (case s1 => k_is)
    (case o1 => k_is)
    (case m1 => k_is)
    (case kp1 => k_is)
    (case xa0 => k_is)
    (case xa1 => k_is)
    (case xa2 => k_is)
    (case xa3 => k_is)
    (case xa4 => k_is)
    (case xa5 => k_is)
    (case xa6 => k_is)
    (case xa7 => k_is)
    (case xa8 => k_is)
    (case xa9 => k_is)
    (case xa10 => k_is)
    (case xa11 => k_is)
    (case xa12 => k_is)
    (case xa13 => k_is)
    (case xe4 => k_exc)
    (case xe3 => k_exc)
    (case xe5 => k_exc)
    (case xe7 => k_exc)
    (case xsg => k_is)
    (case xtk => k_is)
    (case xg5 => k_is)
    (case xn5 => k_is)
    (case xf5 => k_is)
    (case xb5 => k_is)
    (case xg4 => k_is)
    (case xn4 => k_is)
    (case xf4 => k_is)
    (case xb4 => k_is)
    (case xg3 => k_is)
    (case xn3 => k_is)
    (case xf3 => k_is)
    (case xb3 => k_is)
    (case xg7 => k_is)
    (case xn7 => k_is)
    (case xf7 => k_is)
    (case xb7 => k_is)
    (case xo0 => k_is)
    (case xt0 => k_is)
    (case xo1 => k_is)
    (case xt1 => k_is)
    (case xo2 => k_is)
    (case xt2 => k_is)
    (case xo3 => k_is)
    (case xt3 => k_is)
    (case xo4 => k_is)
    (case xt4 => k_is)
    (case xo5 => k_is)
    (case xt5 => k_is)
    (case xo6 => k_is)
    (case xt6 => k_is)
    (case xo7 => k_is)
    (case xt7 => k_is)
    (case xo8 => k_is)
    (case xt8 => k_is)
    (case xo9 => k_is)
    (case xt9 => k_is)
    (case xo10 => k_is)
    (case xt10 => k_is)
    (case xo11 => k_is)
    (case xt11 => k_is)
    (case xo12 => k_is)
    (case xt12 => k_is)
    (case xo13 => k_is)
    (case xt13 => k_is)
    (case xw13 => k_is)
    (case xm13_5 => k_is)
    (case xm13_4 => k_is)
    (case xm13_3 => k_is)
    (case xm13_7 => k_is)
    (case xk0_5 => k_is)
    (case vnx0_5 => decide)
    (case xk0_4 => k_is)
    (case vnx0_4 => decide)
    (case xk0_3 => k_is)
    (case vnx0_3 => decide)
    (case xk0_7 => k_is)
    (case vnx0_7 => decide)
    (case xk1_5 => k_is)
    (case vnx1_5 => decide)
    (case xk1_4 => k_is)
    (case vnx1_4 => decide)
    (case xk1_3 => k_is)
    (case vnx1_3 => decide)
    (case xk1_7 => k_is)
    (case vnx1_7 => decide)
    (case xk2_5 => k_is)
    (case vnx2_5 => decide)
    (case xk2_4 => k_is)
    (case vnx2_4 => decide)
    (case xk2_3 => k_is)
    (case vnx2_3 => decide)
    (case xk2_7 => k_is)
    (case vnx2_7 => decide)
    (case xk3_5 => k_is)
    (case vnx3_5 => decide)
    (case xk3_4 => k_is)
    (case vnx3_4 => decide)
    (case xk3_3 => k_is)
    (case xk3_7 => k_is)
    (case vnx3_7 => decide)
    (case xk4_5 => k_is)
    (case vnx4_5 => decide)
    (case xk4_4 => k_is)
    (case xk4_3 => k_is)
    (case vnx4_3 => decide)
    (case xk4_7 => k_is)
    (case vnx4_7 => decide)
    (case xk5_5 => k_is)
    (case xk5_4 => k_is)
    (case vnx5_4 => decide)
    (case xk5_3 => k_is)
    (case vnx5_3 => decide)
    (case xk5_7 => k_is)
    (case vnx5_7 => decide)
    (case xk6_5 => k_is)
    (case vnx6_5 => decide)
    (case xk6_4 => k_is)
    (case vnx6_4 => decide)
    (case xk6_3 => k_is)
    (case vnx6_3 => decide)
    (case xk6_7 => k_is)
    (case vnx6_7 => decide)
    (case xk7_5 => k_is)
    (case vnx7_5 => decide)
    (case xk7_4 => k_is)
    (case vnx7_4 => decide)
    (case xk7_3 => k_is)
    (case vnx7_3 => decide)
    (case xk7_7 => k_is)
    (case xk8_5 => k_is)
    (case vnx8_5 => decide)
    (case xk8_4 => k_is)
    (case vnx8_4 => decide)
    (case xk8_3 => k_is)
    (case vnx8_3 => decide)
    (case xk8_7 => k_is)
    (case vnx8_7 => decide)
    (case xk9_5 => k_is)
    (case vnx9_5 => decide)
    (case xk9_4 => k_is)
    (case vnx9_4 => decide)
    (case xk9_3 => k_is)
    (case vnx9_3 => decide)
    (case xk9_7 => k_is)
    (case vnx9_7 => decide)
    (case xk10_5 => k_is)
    (case vnx10_5 => decide)
    (case xk10_4 => k_is)
    (case vnx10_4 => decide)
    (case xk10_3 => k_is)
    (case vnx10_3 => decide)
    (case xk10_7 => k_is)
    (case vnx10_7 => decide)
    (case xk11_5 => k_is)
    (case vnx11_5 => decide)
    (case xk11_4 => k_is)
    (case vnx11_4 => decide)
    (case xk11_3 => k_is)
    (case vnx11_3 => decide)
    (case xk11_7 => k_is)
    (case vnx11_7 => decide)
    (case xk12_5 => k_is)
    (case vnx12_5 => decide)
    (case xk12_4 => k_is)
    (case vnx12_4 => decide)
    (case xk12_3 => k_is)
    (case vnx12_3 => decide)
    (case xk12_7 => k_is)
    (case vnx12_7 => decide)
    (case xv_ValueError_5 => k_is)
    (case xv_ValueError_4 => k_is)
    (case xv_ValueError_3 => k_is)
    (case xv_ValueError_7 => k_is)
    (case z0 => k_is)
    (case z1 => k_is)
    (case z2 => k_is)
    (case z3 => k_is)
    (case z4 => k_is)
    (case z5 => k_is)
    (case z6 => k_is)
    (case z7 => k_is)
    (case z8 => k_is)
    (case z9 => k_is)
    (case z10 => k_is)
    (case z11 => k_is)
    (case z12 => k_is)
    (case e0 => k_is)
