import PyProof.Rows.All
import Wide.All
import OpenK.AllK
import Wide.FinOn
import Lean
import PyProof.EqAt
import PyProof.EqKinds
import PyProof.TupleCall
import PyProof.NeKinds
import PyProof.ZipIter
import PyProof.Draws
import PyProof.FactsAll.zip
import KE.KSortTup
import KE.KDictSum
import PyProof.TupleOfSeq
import PyProof.StrWalks
import PyProof.Rows.SetFrom
import KE.KRevIter
import PyProof.Rows.Range3
import KE.KTryMore
import KE.KIsNot
import PyProof.ExcArgsOwn
import PyProof.ExcAttrAll.ValueError
import PyProof.ExcBaseAll.ValueError
import PyProof.NsDelKeeps
import PyProof.Rows.CallKwBuiltin
import PyProof.WalkInts
import PyProof.Rows.Catch
import KE.KLam
import KE.KNestM
import PyProof.FactsAll.list_3
import KE.KDictList
import PyProof.Rows.CountFlat
import KE.KDictOf
import PyProof.AttrMissHeap
import PyProof.DictFindH
import PySem.Challenge.RW_twoglass_k55_gathers_refused
set_option Elab.async false
set_option linter.all false
set_option maxRecDepth 100000
open List renaming filterMap_cons→MH, mem_cons_self→MI, mem_cons_of_mem→MJ, mem_append_left→MK, getElem?_set_self→ML, getElem?_set_ne→MM, mem_append_right→MP, size_toArray→MR, length_cons→MT, map_cons→MU, length_map→MV, append_nil→MZ, of_mem_zip→M1, length_take→M2, getElem?_append_right→M3, getElem?_replicate→M4, getElem?_append_left→M5, getElem?_map→M6, mem_of_getElem?→M7, length_append→M8, length_drop→Nb, length_set→Nf, length_singleton→Nh, eraseIdxIfInBounds_toArray→Ni, length_dropLast→Nj, map_nil→Nk, find?_cons→Nm, any_cons→Nn, length_nil→Nr, nodup_nil→Nt, lookup_cons→Nu, forIn_cons→Nv, cons_append→Ny, take_zero→Nz, take_succ_cons→NA, drop_zero→NB, drop_succ_cons→NC, all_cons→ND, all_map→NE, getElem?_eq_getElem→NF, getElem_of_mem→NP, nil_append→NQ, map_congr_left→NR, map_append→NS, take_add_one→NT, length_range→NU, getElem?_range→NW, drop_eq_getElem_cons→NX, append_assoc→NZ, zipIdx_cons→N0, mem_cons→N1, not_mem_nil→N2, getElem?_cons_zero→N3, getElem?_cons_succ→N4, zip_cons_cons→N9, contains_cons→Oa, replicate_zero→Oe, zip_nil_right→Of, length_zip→Og, replicate_succ→Oh, foldl_cons→Oi, dropLast_eq_take→Oj, not_lt_nil→Ol, nil_lt_cons→Om, cons_lt_cons_iff→Oo, filter_cons_of_pos→Oq, filter_cons_of_neg→Ot, getElem_mem→Ou, pairwise_map→Ov, getD_eq_getElem?_getD→Ow, mem_nil_iff→Ox, map_map→Oy, any_map→Oz, eraseIdx_eq_take_drop_succ→OA, getElem?_eq_none→OB, take_of_length_le→OG, drop_eq_nil_of_le→OH, set_cons_zero→OI, set_cons_succ→OJ, mem_singleton→OS, filter_append→OU, map_take→OV, map_drop→OW, length_zipIdx→OX
open Int renaming fdiv_eq_ediv_of_nonneg→MQ, toNat_natCast→M9, emod_nonneg→OO, emod_lt_of_pos→OQ, toNat_of_nonneg→OY
open Nat renaming lt_of_lt_of_le→MC, lt_irrefl→MD, ne_of_lt→ME, le_trans→MF, le_of_lt→MG, ne_of_gt→MN, le_refl→MO, le_of_eq→MX, zero_le→MY, le_succ→M0, lt_succ_of_lt→Nx, min_self→NI, sub_zero→NV, lt_of_le_of_lt→NY, le_add_right→N5, add_lt_add_left→N6, lt_add_of_pos_right→N7, zero_add→N8, sub_self→Od, min_eq_left→OD
open Bool renaming false_ne_true→MS, and_eq_true→Nc, true_or→Np, false_or→Nq, false_eq_true→Nw, and_true→NK, and_false→NM, or_eq_true→NN, or_eq_false_iff→Oc, not_true→OL, not_false→OM, eq_iff_iff→OT
open Option renaming getD_none→Ng, map_some→OC
open PySem renaming Value→Ql, World→Qm, Program→Qn, Addr→Qo, Heap→Qp, sizeLine→Qq, mainGlobals→Qr, bootBuiltins→Qs, Around→Qt, Shared→Qu, Scope→Qv, Model→Qw, wpAny→Qx, Expr→Qy, starEach→Qz, Stmt→QA, wpAny_mono→QB, wpAny_execs_nil→QC, wpAny_bind→QD, wpAny_holding→QE, wpAny_standAt→QF, wpAny_pure→QG, wpAny_pyIter_list→QH, PassesOwn→QI, foldedSetIterable→QJ, wpAny_passesOwn→QK, binaryOp→QL, compareOp→QM, behindInMarks→QN, wpAny_truthy_bool→QO, sizeLine_eq→QP, Result→QQ, codeAny→QR, attributeBase→QS, callWith→QT, keywordEach→QU, recursionLimit→QV, cLine→QW, FuncData→QX, BindsTo→QY, wpAny_call→QZ, codeAny_mono→Q0, wpAny_Call_Name_kw→Q1, Keyword→Q2, NameKind→Q3, wpAny_newFunctionEnv_cells→Q4, concat_meets→Q5, noFill_tuple_add→Q6, seq_tuple_add→Q7, IsPart→Q8, wpAny_field→Q9, wpAny_callSpecial?_slot→Ra, wpAny_call_entry→Rb, wpAny_newObj_type→Rc, call_meets→Rf, wpAny_comprehension_free→Rg, wpAny_rule→Rh, wpAny_getItem_str_slice→Ri, post_val_or_str→Rj, wpAny_seqItems→Rl, IsZip→Rm, IsPair→Rn, wpAny_setField_rec→Ro, wpAny_onRaise→Rp, wpAny_updateSeq_pair→Rq, wpAny_letGo→Rr, wpAny_attempt→Rt, codeAny_call_builtin→Rv, codeAny_builtin→Rw, wpAny_tryCatch→Rx, wpAny_updateSeq→Ry, plainId_quiet→Rz
open PySem.W renaming instObj→OZ, methodObj→O0, Frag→O2, lookIn→O3, plainGet→O5, hasDictIn→O6, findIn→O7, handedIn→O8, plainGet_of→O9, isFn→Pa, plainOver→Pb, takerIn→Pg, makesIn→Ph, typeIn→Pj, emptyDict→Pk, keepIn→Pl, callWith_K→Pm, cellsFrom_some→Pn, fnOf→Pp, codeIn→Pq, codeRec_of→Pr, OpenLaw→Pt, nsIn→Pu, BoolBack→Pw, excIn→Px, exmOne→Py, kitOne→Pz, mroIn→PB, subIn→PC, kitCls→PD, mg_of→PF, mg_none_of→PH
open PySem.Heap renaming lt_size→PJ, SameBut→PL, get?_push_of_some→PN, get?_push_size→PP, size_push→PQ, get?_update_self→PR, get?_update_other→PV, get?_push_ne→PX
open PyProof.Rows renaming callWith_type1→PY, slot_tuple_getitem→PZ, envOfC→P0, IsTup→P4, Call_→P5, boot_tuple→P7, boot_max→P8, boot_min→P9, boot_list→Qa, listUpdate_at→Ru
open PySem.F renaming slot_tuple_add→Qb, entry_tuple_add→Qc, args_tuple_add_2→Qd, slot_list_index→Qe, plainAttrs_list→Qf, slot_list_count→Qg, slot_list_append→Qh, type_list_append→Qi, slot_list_pop→Qj, type_list_pop→Qk
set_option maxHeartbeats 1000000
local macro_rules | `(‹1›)=>`(by first | exact Or.inl rfl | exact Or.inr rfl)
local macro_rules | `(‹2›)=>`(⟨rfl, rfl, rfl, by decide +kernel, rfl, by decide +kernel, by decide +kernel⟩)
local macro_rules | `(‹0›)=>`(by omega)
namespace L2
open PySem PySem.Spec PyProof.Rows

abbrev Key:=Sum Int Str
def pQ:Key->Ql->Bool
 | .inl k,v=>Value.isInt k v
 | .inr x,v=>Value.isStrOf x v
def La (w:Qm):Key->Int
 | .inl k=>hashInt k
 | .inr x=>hashStr w x
theorem cL:∀ {k:Key} {v:Ql},pQ k v=true->(∃ i t,k=Sum.inl i/\v=Value.int i t)\/(∃ x t,k=Sum.inr x/\v=Value.str x t)
 | .inl i,v,h=>by
  obtain⟨t,e⟩:=Value.isInt_shape (k:=i) (v:=v) h
  exact .inl ⟨i,t,rfl,e⟩
 | .inr x,v,h=>by
  obtain⟨t,e⟩:=Value.isStrOf_shape (x:=x) (v:=v) h
  exact .inr ⟨x,t,rfl,e⟩
theorem AR (i:Int) (t:Tok):pQ (.inl i) (.int i t)=true:=by simp [pQ,Value.isInt]
theorem Ak (x:Str) (t:Tok):pQ (.inr x) (.str x t)=true:=by simp [pQ,Value.isStrOf]
theorem Gy (a b:Int):decide ((Sum.inl a:Key)=Sum.inl b)=(a==b):=by
 by_cases e:a=b
 ·subst e; simp
 ·have h:¬ (Sum.inl a:Key)=Sum.inl b:=fun q=>e (Sum.inl.inj q)
  rw [decide_eq_false h]
  exact(beq_eq_false_iff_ne.mpr e).symm
theorem Gw (a b:Str):decide ((Sum.inr a:Key)=Sum.inr b)=decide (a=b):=by
 by_cases e:a=b
 ·subst e; simp
 ·have h:¬ (Sum.inr a:Key)=Sum.inr b:=fun q=>e (Sum.inr.inj q)
  rw [decide_eq_false h,decide_eq_false e]
theorem Fu (a:Int) (b:Str):decide ((Sum.inl a:Key)=Sum.inr b)=false:=decide_eq_false (fun q=>nomatch q)
theorem Fs (a:Str) (b:Int):decide ((Sum.inr a:Key)=Sum.inl b)=false:=decide_eq_false (fun q=>nomatch q)

def de (prog:Qn) (w:Qm):PySem.KeyKind prog w Key where
 is:=pQ
 hash:=La w
 inj:=fun v a b ha hb=>by
  rcases cL ha with ⟨i,t,rfl,rfl⟩ | ⟨x,t,rfl,rfl⟩
  ·rcases cL hb with ⟨j,u,rfl,e⟩ | ⟨y,u,rfl,e⟩
   ·injection e with e1 _; rw [e1]
   ·exact nomatch e
  ·rcases cL hb with ⟨j,u,rfl,e⟩ | ⟨y,u,rfl,e⟩
   ·exact nomatch e
   ·injection e with e1 _; rw [e1]
 byValue:=fun k v h=>by
  rcases cL h with ⟨i,t,rfl,rfl⟩ | ⟨x,t,rfl,rfl⟩ <;> rfl
 pyHash:=fun hv h=>by
  rcases cL hv with ⟨i,t,rfl,rfl⟩ | ⟨x,t,rfl,rfl⟩
  ·exact wpAny_pyHash_int h
  ·exact wpAny_pyHash_str h
 eqBool:=fun hu hv h=>by
  rcases cL hu with ⟨i,t,rfl,rfl⟩ | ⟨x,t,rfl,rfl⟩
  ·rcases cL hv with ⟨j,u,rfl,rfl⟩ | ⟨y,u,rfl,rfl⟩
   ·rw [Gy] at h; exact wpAny_eqBool_int h
   ·rw [Fu] at h; exact SeqAt.EqAt.int_str i t y u _ _ _ _ h
  ·rcases cL hv with ⟨j,u,rfl,rfl⟩ | ⟨y,u,rfl,rfl⟩
   ·rw [Fs] at h; exact SeqAt.EqAt.str_int x t j u _ _ _ _ h
   ·rw [Gw] at h; exact wpAny_eqBool_str h
 «strs»:=fun k x t v h=>by
  rcases cL h with ⟨i,u,rfl,e⟩ | ⟨y,u,rfl,e⟩
  ·exact nomatch e
  ·injection e with e1 _
   subst e1
   cases v <;> rfl

theorem xx (prog:Qn) (w:Qm) (k:Key) (v:Ql):(de prog w).is k v=pQ k v:=rfl
theorem wM (prog:Qn) (w:Qm) (i:Int) (t:Tok):(de prog w).is (.inl i) (.int i t)=true:=AR i t
theorem wa (prog:Qn) (w:Qm) (x:Str) (t:Tok):(de prog w).is (.inr x) (.str x t)=true:=Ak x t
end L2

namespace L2
open PySem PySem.Spec PyProof.Rows

inductive V where
 | non | bl (b:Bool) | int (i:Int) | str (x:Str) | byt (b:Array UInt8) | flt (b:UInt64) | ref (a:Qo) | ty (n:String)
 deriving DecidableEq

def RelV:V->Ql->Prop
 | .non,u=>u=Value.none
 | .bl b,u=>u=Value.bool b
 | .int i,u=>∃ t,u=Value.int i t
 | .str x,u=>∃ t,u=Value.str x t
 | .byt b,u=>∃ t,u=Value.bytes b t
 | .flt b,u=>∃ t,u=Value.float b t
 | .ref a,u=>u=Value.ref a
 | .ty n,u=>u=Value.type n

abbrev Vals:List V->List Ql->Prop:=Paired RelV
theorem Vals.length {xs:List V} {us:List Ql} (r:Vals xs us):xs.length=us.length:=Paired.length r
theorem Vals.get:∀ {xs:List V} {us:List Ql} {i:Nat} {x:V},Vals xs us->xs[i]?=some x->∃ u,us[i]?=some u/\RelV x u
 | _,_,_,_,.nil,e=>by simp at e
 | _,_,0,_,.cons r _,e=>by simp at e; subst e; exact⟨_,rfl,r⟩
 | _,_,i+1,x,.cons _ t,e=>by
  obtain⟨u,h1,h2⟩:=Vals.get (i:=i) (x:=x) t (by simpa using e)
  exact⟨u,by simpa using h1,h2⟩
theorem Vals.set {x:V} {u:Ql} (r:RelV x u):∀ {xs:List V} {us:List Ql} (i:Nat),Vals xs us->Vals (xs.set i x) (us.set i u)
 | _,_,_,.nil=>.nil
 | _,_,0,.cons _ t=>.cons r t
 | _,_,i+1,.cons q t=>.cons q (Vals.set r i t)
theorem Vals.append:∀ {xs ys:List V} {us ws:List Ql},Vals xs us->Vals ys ws->Vals (xs++ys) (us++ws)
 | _,_,_,_,.nil,s=>s
 | _,_,_,_,.cons r t,s=>.cons r (Vals.append t s)
theorem Vals.take:∀ {xs:List V} {us:List Ql} (n:Nat),Vals xs us->Vals (xs.take n) (us.take n)
 | _,_,0,_=>.nil
 | _,_,_+1,.nil=>.nil
 | _,_,n+1,.cons r t=>.cons r (Vals.take n t)
theorem Vals.drop:∀ {xs:List V} {us:List Ql} (n:Nat),Vals xs us->Vals (xs.drop n) (us.drop n)
 | _,_,0,r=>r
 | _,_,_+1,.nil=>.nil
 | _,_,n+1,.cons _ t=>Vals.drop n t
def wG:Option V->Option Ql->Prop
 | some v,some u=>RelV v u
 | none,none=>True
 | _,_=>False
def KV {κ:Type}:List (κ×V)->List (κ×Ql)->Prop:=Paired fun (p:κ×V) (q:κ×Ql)=>p.1=q.1/\RelV p.2 q.2

def kV:Key->V
 | .inl i=>.int i
 | .inr x=>.str x

inductive HO where
  | lst (xs:List V)
  | tup (xs:List V)
  | dK (kvs:List (Key×V)) | dT (kvs:List (List Key×V))
  | set (S:Int->Bool) (n:Nat)
  | ins (C dx:Qo) (fs:List (Str×V))
  | own (x:Qo)
  | xd (fs:List (Str×V))
  | met (f x:Qo)
  | rng (lo hi:Int)
  | frz (o:Obj) (u:HO)
  | tbl (ps:Array Ql)
  | ext (φ:(Qo->Prop)->Qp->Prop)

abbrev Hp:=Qo->Option HO
def upd (H:Hp) (a:Qo) (o:HO):Hp:=fun b=>if b=a then some o else H b
theorem bJ {H:Hp} {a:Qo} {o:HO}:upd H a o a=some o:=by unfold upd; rw [if_pos rfl]
theorem bg {H:Hp} {a b:Qo} {o:HO} (h:b≠a):upd H a o b=H b:=by unfold upd; rw [if_neg h]
theorem Ip {H:Hp} {a b:Qo} {o u:HO} (h:H a=some o) (h':H b=some u) (d:o≠u):a≠b:=by
 intro e; subst e; rw [h] at h'; exact d (Option.some.inj h')
theorem bM {H:Hp} {a b:Qo} {o:HO} (h:H a=some o) (h':H b=none):a≠b:=by
 intro e; subst e; rw [h] at h'; cases h'

section
variable (P:Qn) (w:Qm)
def dg (H:Hp) (h:Qp) (a:Qo):HO->Prop
 | .lst xs=>xs.length<=Qq/\∃ (its:List Ql) (n:Nat),Vals xs its/\h.get? a=some { cls:=.type "list",data:=.seq its.toArray n }
 | .tup xs=>xs.length<=Qq/\∃ its:List Ql,Vals xs its/\IsTup h a its.toArray
 | .dK kvs=>kvs.length<=Qq/\(a==sysModules)=false/\∃ vs,KV kvs vs/\h.DictOf (de P w) a vs
 | .dT kvs=>kvs.length<=Qq/\(a==sysModules)=false/\∃ xs:List (List Key×Qo×Ql),
   Paired (fun (p:List Key×V) (q:List Key×Qo×Ql)=>p.1=q.1/\H q.2.1=some (.tup (p.1.map kV))/\RelV p.2 q.2.2) kvs xs /\
   ∃ o es ep,h.get? a=some o/\o.ExactDict/\o.data=.dict es ep/\es.toList=xs.map (entryOfKey (tupleKind (de P w)))/\(xs.map (·.1)).Nodup
 | .set S n=>h.SetOf (intKind P w) a S n
 | .ins C dx fs=>H dx=some (.own a)/\fs.length<=1000/\dx≠a/\h.get? a=some (OZ C dx) /\
   ∃ mA,h.Ns1 dx mA/\(∀ f,wG (fs.lookup f) (mA f))/\PySem.Within mA (fs.map (·.1))
 | .own _=>∃ o,h.get? a=some o
 | .xd fs=>∃ mA,h.Ns1 a mA/\∀ f,wG (fs.lookup f) (mA f)
 | .rng lo hi=>∃ t u v,h.get? a=some { cls:=.type "range",data:=.fields #[.int lo t,.int hi u,.int 1 v] }
 | .frz o u=>h.get? a=some o/\dg H h a u
 | .tbl ps=>h.get? a=some { cls:=.none,data:=.fields ps }
 | .met f x=>h.get? a=some (O0 (.ref f) (.ref x))
 | .ext φ=>φ (fun b=>H b=some (.own a)) h/\(∃ o,h.get? a=some o)/\∀ (S1 S2:Qo->Prop) (h1 h2:Qp),φ S1 h1->(∀ b,S1 b->S2 b)->(∀ b o,(b=a\/S1 b)->h1.get? b=some o->h2.get? b=some o)->φ S2 h2
def pj (H:Hp) (h:Qp):Prop:=∀ a o,H a=some o->dg P w H h a o
end

section
variable {P:Qn} {w:Qm} {H H':Hp} {h h':Qp} {a:Qo} {o:HO}
theorem dg.lt (x:dg P w H h a o):a < h.objs.size:=by
 cases o with
 | lst xs=>obtain⟨_,_,_,_,e⟩:=x; exact PJ e
 | tup xs=>obtain⟨_,_,_,p⟩:=x; exact p.lt
 | dK kvs=>obtain⟨_,_,_,_,o,_,_,e,_⟩:=x; exact PJ e
 | dT kvs=>obtain⟨_,_,_,_,o,_,_,e,_⟩:=x; exact PJ e
 | set S n=>obtain⟨o,_,_,_,e,_⟩:=x; exact PJ e
 | ins C dx fs=>obtain⟨_,_,_,e,_⟩:=x; exact PJ e
 | own y=>obtain⟨_,e⟩:=x; exact PJ e
 | xd fs=>obtain⟨_,⟨_,_,_,e,_⟩,_⟩:=x; exact PJ e
 | rng lo hi=>obtain⟨_,_,_,e⟩:=x; exact PJ e
 | frz ob u=>obtain⟨e,_⟩:=x; exact PJ e
 | tbl ps=>exact PJ (show h.get? a=some _ from x)
 | met f y=>exact PJ (show h.get? a=some _ from x)
 | ext φ=>obtain⟨_,⟨_,e⟩,_⟩:=x; exact PJ e
theorem Paired.mapP {α β:Type} {F G:α->β->Prop}:∀ {l₁:List α} {l₂:List β},Paired F l₁ l₂->(∀ a b,F a b->G a b)->Paired G l₁ l₂
 | _,_,.nil,_=>.nil
 | _,_,.cons r t,f=>.cons (f _ _ r) (Paired.mapP t f)
theorem dg.stay (x:dg P w H h a o) (k:∀ b u,(b=a\/H b=some (.own a))->h.get? b=some u->h'.get? b=some u)
  (ho:∀ b,H b=some (.own a)->H' b=some (.own a)) (ht:∀ b xs,H b=some (.tup xs)->H' b=some (.tup xs)):dg P w H' h' a o:=by
 induction o with
 | lst xs=>obtain⟨z,its,n,r,e⟩:=x; exact⟨z,its,n,r,k _ _ (.inl rfl) e⟩
 | tup xs=>obtain⟨z,its,r,ob,e,c⟩:=x; exact⟨z,its,r,ob,k _ _ (.inl rfl) e,c⟩
 | dK kvs=>obtain⟨z,y,vs,r,ob,es,ep,e,c⟩:=x; exact⟨z,y,vs,r,ob,es,ep,k _ _ (.inl rfl) e,c⟩
 | dT kvs =>
  obtain⟨z,y,xs,r,ob,es,ep,e,c⟩:=x
  exact⟨z,y,xs,Paired.mapP r fun p q z=>⟨z.1,ht _ _ z.2.1,z.2.2⟩,ob,es,ep,k _ _ (.inl rfl) e,c⟩
 | set S n=>obtain⟨ob,es,ep,t,e,c⟩:=x; exact⟨ob,es,ep,t,k _ _ (.inl rfl) e,c⟩
 | ins C dx fs =>
  obtain⟨d,z,ne,e,mA,⟨od,es,ep,e2,c⟩,r⟩:=x
  exact⟨ho _ d,z,ne,k _ _ (.inl rfl) e,mA,⟨od,es,ep,k _ _ (.inr d) e2,c⟩,r⟩
 | own y=>obtain⟨ob,e⟩:=x; exact⟨ob,k _ _ (.inl rfl) e⟩
 | xd fs=>obtain⟨mA,⟨od,es,ep,e,c⟩,r⟩:=x; exact⟨mA,⟨od,es,ep,k _ _ (.inl rfl) e,c⟩,r⟩
 | rng lo hi=>obtain⟨t,u,v,e⟩:=x; exact⟨t,u,v,k _ _ (.inl rfl) e⟩
 | frz ob u ih=>obtain⟨e,q⟩:=x; exact⟨k _ _ (.inl rfl) e,ih q⟩
 | tbl ps =>
  have e:h.get? a=some { cls:=.none,data:=.fields ps }:=x
  show h'.get? a=some { cls:=.none,data:=.fields ps }
  exact k a _ (.inl rfl) e
 | met f y =>
  have e:h.get? a=some (O0 (.ref f) (.ref y)):=x
  show h'.get? a=some (O0 (.ref f) (.ref y))
  exact k a _ (.inl rfl) e
 | ext φ=>obtain⟨p,⟨o,e⟩,st⟩:=x; exact⟨st _ _ _ _ p ho k,⟨o,k _ _ (.inl rfl) e⟩,st⟩
theorem pj.lt (x:pj P w H h) (e:H a=some o):a < h.objs.size:=(x a o e).lt
theorem pj.fresh (x:pj P w H h) (e:h.objs.size<=a):H a=none:=by
 cases q:H a with
 | none=>rfl
 | some u=>exact absurd (MC (x.lt q) e) (MD _)
theorem pj.kept (x:pj P w H h) (k:∀ b u,h.get? b=some u->h'.get? b=some u):pj P w H h':=fun a o e =>
 (x a o e).stay (fun b u _ q=>k b u q) (fun _ q=>q) fun _ _ q=>q
theorem pj.laid (x:pj P w H h) (k:∀ b u,h.get? b=some u->h'.get? b=some u) (hp:h.objs.size<=a) (new:dg P w (upd H a o) h' a o):pj P w (upd H a o) h':=fun b u e=>by
 have hn:=x.fresh hp
 by_cases hb:b=a
 ·subst hb; rw [bJ] at e; cases e; exact new
 ·rw [bg hb] at e
  exact(x b u e).stay (fun c v _ q=>k c v q) (fun c q=>by rw [bg (bM q hn)]; exact q) fun c xs q=>by rw [bg (bM q hn)]; exact q
end

def Rd (H:Hp) (a:Qo) (u:HO):Prop:=H a=some u\/∃ o,H a=some (.frz o u)
theorem Rd.ok {P:Qn} {w:Qm} {H:Hp} {h:Qp} {a:Qo} {u:HO} (r:Rd H a u) (x:pj P w H h):dg P w H h a u:=by
 rcases r with r | ⟨o,r⟩
 ·exact x a u r
 ·obtain⟨_,q⟩:=x a _ r
  exact q
def IG:Option HO->Prop
 | some (.lst _)=>True
 | some (.dK _)=>True
 | some (.dT _)=>True
 | some (.set _ _)=>True
 | some (.ins _ _ _)=>True
 | some (.ext _)=>True
 | _=>False
section
variable {P:Qn} {w:Qm} {H:Hp} {h h':Qp} {x e:Qo} {o':HO}
theorem pj.write (ok:pj P w H h) (mu:IG (H x)) (he:e=x\/H e=some (.own x)) (k:∀ b u,b≠e->h.get? b=some u->h'.get? b=some u) (heo:∃ u,h'.get? e=some u)
  (new:dg P w (upd H x o') h' x o'):pj P w (upd H x o') h':=fun b u q=>by
 have nown:∀ c y,H c=some (.own y)->c≠x:=fun c y r z=>by subst z; rw [r] at mu; exact mu
 have ntup:∀ c xs,H c=some (.tup xs)->c≠x:=fun c xs r z=>by subst z; rw [r] at mu; exact mu
 by_cases hb:b=x
 ·subst hb; rw [bJ] at q; cases q; exact new
 ·rw [bg hb] at q
  by_cases hbe:b=e
  ·have q':H b=some (.own x):=by
    rcases he with z | z
    ·exact absurd (hbe.trans z) hb
    ·rw [hbe]; exact z
   rw [q] at q'; cases q'
   obtain⟨v,hv⟩:=heo
   exact⟨v,by rw [hbe]; exact hv⟩
  ·refine(ok b u q).stay (fun c v hc r=>k c v ?_ r) (fun c r=>by rw [bg (nown c b r)]; exact r) fun c xs r=>by rw [bg (ntup c xs r)]; exact r
   rcases hc with rfl | hc
   ·exact hbe
   ·rintro rfl
    rcases he with z | z
    ·exact nown c b hc z
    ·rw [hc] at z; cases z; exact hb rfl
end

structure Un (fs ex:List Qo) (H H':Hp) (h h':Qp):Prop where
 keep:∀ b o,h.get? b=some o->H b=none->b∉fs->b∉ex->h'.get? b=some o
 slot:∀ b o,h.get? b=some o->H b=none->b∈fs->b∉ex->∃ sl,h'.get? b=some { o with slots:=sl }
 free:∀ b o,h.get? b=some o->H b=none->b∉ex->H' b=none
 there:∀ b o,h.get? b=some o->b∉ex->∃ o',h'.get? b=some o'
 tups:∀ b xs,H b=some (.tup xs)->H' b=some (.tup xs)
 frzs:∀ b o u,H b=some (.frz o u)->H' b=some (.frz o u)
 tbls:∀ b ps,H b=some (.tbl ps)->∃ more,H' b=some (.tbl (ps++more))
section
variable {fs fs' ex ex':List Qo} {H H1 H2:Hp} {h h1 h2 h':Qp} {a x e:Qo} {o:HO}
theorem Un.any (u:Un fs ex H H1 h h1) {b:Qo} {ob:Obj} (q:h.get? b=some ob) (n:H b=none) (hx:b∉ex):∃ sl,h1.get? b=some { ob with slots:=sl }:=by
 by_cases hb:b∈fs
 ·exact u.slot b ob q n hb hx
 ·exact⟨ob.slots,u.keep b ob q n hb hx⟩
theorem Un.kept (k:∀ b u,h.get? b=some u->h'.get? b=some u):Un fs ex H H h h' :=
 ⟨fun b ob q _ _ _=>k b ob q,fun b ob q _ _ _=>⟨ob.slots,k b ob q⟩,fun _ _ _ n _=>n,fun b ob q _=>⟨ob,k b ob q⟩,fun _ _ q=>q,fun _ _ _ q=>q,fun _ ps q=>⟨#[],by rw [q]; simp⟩⟩
theorem Un.refl:Un fs ex H H h h:=Un.kept fun _ _ q=>q
theorem Un.laid (k:∀ b u,h.get? b=some u->h'.get? b=some u) (hp:h.objs.size<=a) (hn:H a=none):Un fs ex H (upd H a o) h h' where
 keep:=fun b u q _ _ _=>k b u q
 slot:=fun b u q _ _ _=>⟨u.slots,k b u q⟩
 free:=fun b u q n _=>by rw [bg (ME (MC (PJ q) hp))]; exact n
 there:=fun b u q _=>⟨u,k b u q⟩
 tups:=fun b xs q=>by rw [bg (bM q hn)]; exact q
 frzs:=fun b u xs q=>by rw [bg (bM q hn)]; exact q
 tbls:=fun b ps q=>⟨#[],by rw [bg (bM q hn),q]; simp⟩
theorem Un.write (mu:IG (H x)) (he:e=x\/H e=some (.own x)) (k:∀ b u,b≠e->h.get? b=some u->h'.get? b=some u) (heo:∃ u,h'.get? e=some u):Un fs ex H (upd H x o) h h':=by
 have hx:∀ b,H b=none->b≠x:=fun b n z=>by subst z; rw [n] at mu; exact mu
 have hb:∀ b,H b=none->b≠e:=fun b n z=>by
  subst z
  rcases he with r | r
  ·exact hx b n r
  ·rw [n] at r; cases r
 have hm:∀ b u,H b=some u->¬ IG (some u)->b≠x:=fun b u q nm z=>by subst z; rw [q] at mu; exact nm mu
 refine⟨fun b u q n _ _=>k b u (hb b n) q,fun b u q n _ _=>⟨u.slots,k b u (hb b n) q⟩,fun b u q n _=>by rw [bg (hx b n)]; exact n,fun b u q _=>?_,
  fun b xs q=>by rw [bg (hm b _ q fun z=>z)]; exact q,fun b u xs q=>by rw [bg (hm b _ q fun z=>z)]; exact q,fun b ps q=>⟨#[],by rw [bg (hm b _ q fun z=>z),q]; simp⟩⟩
 by_cases hbe:b=e
 ·subst hbe; exact heo
 ·exact⟨u,k b u hbe q⟩
end

def Jd (h:Qp) (H:Hp):List Qo:=(List.range h.objs.size).filter fun a=>(H a).isSome
def pE (h:Qp) (H:Hp):Qp:=PySem.W.hideAll h (Jd h H)
theorem AU (h:Qp) (H:Hp):(pE h H).objs.size=h.objs.size:=PySem.W.hideAll_size _ _
theorem vG {h:Qp} {H:Hp} {b:Qo} {o:Obj} (e:h.get? b=some o) (n:H b=none):(pE h H).get? b=some o :=
 PySem.W.hideAll_get _ e fun hm=>by
  have q:(H b).isSome=true:=(List.mem_filter.mp hm).2
  rw [n] at q; simp at q
theorem yM {h:Qp} {H:Hp} {b:Qo} {o:Obj} (e:(pE h H).get? b=some o):h.get? b=some o/\H b=none:=by
 have e':h.get? b=some o:=PySem.W.of_hideAll (Jd h H) e
 refine⟨e',?_⟩
 cases q:H b with
 | none=>rfl
 | some x =>
  have hm:b∈Jd h H:=List.mem_filter.mpr ⟨List.mem_range.mpr (PJ e'),by simp [q]⟩
  have z:(pE h H).get? b=none:=PySem.W.hideAll_none (Jd h H) hm
  rw [z] at e; cases e

def DM (g h:Qp) (L:Qo):List (Qo×Obj):=(List.range h.objs.size).filterMap fun a=>if a=L\/(g.get? a).isSome=true then none else (h.get? a).map fun o=>(a,o)
def rest (g h:Qp) (L d:Qo):List (Qo×Obj):=(DM g h L).filter fun p=>decide (p.1≠d)
end L2

namespace L2
open PySem PySem.Spec PyProof.Rows

structure Mod (K:O2) (mg:Str->Option Ql) (base:Qp):Prop where
 kin:K.In base
 glob:base.Ns Qr mg
 blt:∃ mb,base.Ns builtinsNs mb/\∀ x:Str,x ≠ "__name__"->mb x=Qs x
 nolimit:base.NoLimit

structure Cx where
 prog:Qn
 w:Qm
 K:O2
 mg:Str->Option Ql
 base:Qp
 A:Qt
 N:List Str
 s₀:Qu
 H₀:Hp
 env:Env
 outer:List Env
 stack:List Env
 ex:List Qo
 fn:Str->Bool
 calm:Bool
 pn:List (Qo×Obj)
 xe:Ql->Qu->Prop
def frs (l:List Env):List Qo:=l.filterMap (·.frame)
abbrev Cx.fs (X:Cx):List Qo:=frs X.outer

def Hj (sc:Qv) (x:Str):Prop:=sc.names.lookup x=some .local\/sc.names.lookup x=some .cell\/sc.names.lookup x=some .free
def Loc (sc:Qv) (x:Str):Prop:=sc.names.lookup x=some .local\/sc.names.lookup x=some .cell
def Look (env:Env) (h:Qp) (m:Str->Option Ql) (x:Str) (u:Ql):Prop :=
 (env.kindOf x=some .local/\m x=some u)\/((env.kindOf x=some .cell\/env.kindOf x=some .free)/\∃ c,env.cells.lookup x=some c/\h.IsCell c (some u))

structure Cx.Ok (X:Cx):Prop where
 mod:Mod X.K X.mg X.base
 kind:X.env.scope.kind=.function
 glob:X.env.globals=Qr
 blt:X.env.builtins=builtinsNs
 above:X.s₀.heap.objs.size<=X.env.locals
 inj:∀ x y c,X.env.cells.lookup x=some c->X.env.cells.lookup y=some c->x=y
 has:∀ x,(X.env.kindOf x=some .cell\/X.env.kindOf x=some .free)->∃ c,X.env.cells.lookup x=some c
 cab:∀ x c,X.fn x=true->X.env.cells.lookup x=some c->X.s₀.heap.objs.size<=c
 hd:X.calm=true->X.A.handled=none
 frames:X.A.frames=some X.stack
 stk:X.stack=X.outer\/(X.stack=X.env::X.outer/\X.env.frame=some X.env.locals)
 exf:∀ b∈X.ex,b≠X.env.locals/\∀ x c,X.env.cells.lookup x=some c->c≠b
 bs:∀ b o,X.base.get? b=some o->X.s₀.heap.get? b=some o/\X.H₀ b=none
 bsz:X.base.objs.size<=X.s₀.heap.objs.size
 noex:∀ b o,X.base.get? b=some o->b∉X.ex
 exfs:∀ b∈X.ex,b∉X.fs
 funs:X.s₀.heap.FunFrames X.base X.outer
 frf:∀ b∈X.fs,X.H₀ b=none

structure Inv (X:Cx) (pins:List (Qo×Obj)) (σ:List (Option V)) (H:Hp) (s:Qu):Prop where
 ok:X.Ok
 os:s.os=X.s₀.os
 bare:AllBare s.gens
 base:Un X.fs X.ex X.H₀ H X.s₀.heap s.heap
 loc:∃ m,s.heap.Ns X.env.locals m/\∀ (i:Nat) (x:Str) (v:V),X.N[i]?=some x->σ[i]?=some (some v)->Hj X.env.scope x->∃ u,RelV v u/\Look X.env s.heap m x u
 cell:∀ x c,X.env.cells.lookup x=some c->∃ v,s.heap.IsCell c v
 free:H X.env.locals=none
 freeC:∀ x c,X.env.cells.lookup x=some c->H c=none
 pin:∀ p∈X.pn++pins,s.heap.get? p.1=some p.2/\H p.1=none/\p.1≠X.env.locals/\p.1∉X.fs/\∀ v,p.2.data≠.cell v
 hok:pj X.prog X.w H s.heap
 len:σ.length=X.N.length

section
variable {X:Cx} {pins:List (Qo×Obj)} {σ:List (Option V)} {H H':Hp} {s:Qu} {h':Qp}

theorem Cx.Ok.nofr (ok:X.Ok) {b:Qo} {o:Obj} (e:X.base.get? b=some o):b∉X.fs:=fun hb=>by
 have:=(ok.funs.mem hb).1
 rw [e] at this; cases this
theorem Inv.bs (I:Inv X pins σ H s):∀ b o,X.base.get? b=some o->s.heap.get? b=some o/\H b=none:=fun b o e =>
 ⟨I.base.keep b o (I.ok.bs b o e).1 (I.ok.bs b o e).2 (I.ok.nofr e) (I.ok.noex b o e),I.base.free b o (I.ok.bs b o e).1 (I.ok.bs b o e).2 (I.ok.noex b o e)⟩
theorem Inv.bk (I:Inv X pins σ H s):∀ b o,X.base.get? b=some o->s.heap.get? b=some o:=fun b o e=>(I.bs b o e).1
theorem Inv.mod (I:Inv X pins σ H s):Mod X.K X.mg X.base:=I.ok.mod
theorem Inv.kIn (I:Inv X pins σ H s):X.K.In s.heap:=I.ok.mod.kin.keeps I.bk
theorem Inv.lt (I:Inv X pins σ H s):X.env.locals < s.heap.objs.size:=let ⟨_,hn,_⟩:=I.loc; hn.lt
theorem Inv.sz (I:Inv X pins σ H s):X.s₀.heap.objs.size<=s.heap.objs.size:=MF I.ok.above (MG I.lt)
theorem Inv.nofs (I:Inv X pins σ H s) {a:Qo} (h:s.heap.objs.size<=a):a∉X.fs:=fun hb=>by
 obtain⟨_,o,ho,_⟩:=I.ok.funs.mem hb
 exact absurd (MC (PJ ho) (MF I.sz h)) (MD _)
theorem Inv.cne (I:Inv X pins σ H s):∀ x c,X.env.cells.lookup x=some c->c≠X.env.locals:=fun x c e z=>by
 obtain⟨v,o,ho,hd⟩:=I.cell x c e
 obtain⟨m,⟨o',es,ep,ho',hd',_⟩,_⟩:=I.loc
 rw [z,ho'] at ho; cases ho; rw [hd'] at hd; cases hd
theorem Inv.funs (I:Inv X pins σ H s):s.heap.FunFrames X.base X.outer:=by
 have all:∀ (l:List Env),(∀ b∈frs l,b∈X.fs)->X.s₀.heap.FunFrames X.base l->s.heap.FunFrames X.base l:=by
  intro l
  induction l with
  | nil=>intro _ _; trivial
  | cons env r ih =>
   intro hs hl
   obtain⟨hk,⟨L,o,hf,hn,ho,hd⟩,hr⟩:=hl
   have hL:L∈X.fs:=hs L (by unfold frs; rw [MH,hf]; exact MI)
   obtain⟨sl,e⟩:=I.base.slot L o ho (I.ok.frf L hL) hL fun z=>I.ok.exfs L z hL
   exact⟨hk,⟨L,_,hf,hn,e,hd⟩,ih (fun b hb=>hs b (by unfold frs; rw [MH,hf]; exact MJ _ hb)) hr⟩
 exact all X.outer (fun _ hb=>hb) I.ok.funs

theorem Inv.stack (I:Inv X pins σ H s):s.heap.FunFrames X.base X.stack:=by
 rcases I.ok.stk with e | ⟨e,hf⟩
 ·rw [e]; exact I.funs
 ·rw [e]
  obtain⟨m,hn,_⟩:=I.loc
  refine .cons (by rw [I.ok.kind]; decide) hf hn ?_ I.funs
  exact Heap.get?_none_of_le (MF I.ok.bsz I.ok.above)
theorem Inv.stkSub (I:Inv X pins σ H s):∀ b∈frs X.stack,b∈X.env.locals::X.fs:=fun b hb=>by
 rcases I.ok.stk with e | ⟨e,hf⟩
 ·rw [e] at hb; exact MJ _ hb
 ·rw [e] at hb
  unfold frs at hb
  rw [MH,hf] at hb
  exact hb
theorem Inv.stkFree (I:Inv X pins σ H s):∀ b∈frs X.stack,H b=none:=fun b hb=>by
 rcases List.mem_cons.mp (I.stkSub b hb) with e | hb
 ·rw [e]; exact I.free
 ·obtain⟨_,o,ho,_⟩:=I.ok.funs.mem hb
  exact I.base.free b o ho (I.ok.frf b hb) fun z=>I.ok.exfs b z hb

theorem Inv.step {g':Array GenState} {t':Nat} {d':Drawn} {ch:List Qo} (I:Inv X pins σ H s)
  (hch:∀ b∈ch,(b∈X.ex\/X.s₀.heap.objs.size<=b)/\b≠X.env.locals/\(∀ x c,X.env.cells.lookup x=some c->c≠b)/\∀ p∈X.pn++pins,p.1≠b)
  (keep:∀ b o,b≠X.env.locals->b∉X.fs->b∉ch->s.heap.get? b=some o->H b=none->h'.get? b=some o)
  (slot:∀ b o,b≠X.env.locals->b∈X.fs->b∉ch->s.heap.get? b=some o->H b=none->∃ sl,h'.get? b=some { o with slots:=sl }) (free:∀ b o,b∉ch->s.heap.get? b=some o->H b=none->H' b=none)
  (there:∀ b o,b∉ch->s.heap.get? b=some o->∃ o',h'.get? b=some o')
  (tups:∀ b xs,H b=some (.tup xs)->H' b=some (.tup xs)) (frzs:∀ b o u,H b=some (.frz o u)->H' b=some (.frz o u)) (tbls:∀ b ps,H b=some (.tbl ps)->∃ more,H' b=some (.tbl (ps++more)))
  (ns:∀ m,s.heap.Ns X.env.locals m->h'.Ns X.env.locals m) (hok:pj X.prog X.w H' h') (hg:AllBare g') :
  Inv X pins σ H' { s with heap:=h',gens:=g',drawn:=d',toks:=t' }:=by
 have neL:∀ b o,X.s₀.heap.get? b=some o->b≠X.env.locals:=fun b o e=>ME (MC (PJ e) I.ok.above)
 have neC:∀ b o,X.s₀.heap.get? b=some o->b∉X.ex->b∉ch:=fun b o e hx hb=>by
  rcases(hch b hb).1 with z | z
  ·exact hx z
  ·exact absurd (MC (PJ e) z) (MD _)
 have cellK:∀ x c,X.env.cells.lookup x=some c->∀ v,s.heap.IsCell c v->h'.IsCell c v:=fun x c e v ⟨o,ho,hd⟩=>by
  have nch:c∉ch:=fun z=>(hch c z).2.2.1 x c e rfl
  by_cases hc:c∈X.fs
  ·obtain⟨sl,q⟩:=slot c o (I.cne x c e) hc nch ho (I.freeC x c e)
   exact⟨_,q,hd⟩
  ·exact⟨o,keep c o (I.cne x c e) hc nch ho (I.freeC x c e),hd⟩
 refine⟨I.ok,I.os,hg,⟨fun b o e n hb hx=>?_,fun b o e n hb hx=>?_,fun b o e n hx=>?_,fun b o e hx=>?_,fun b xs e=>tups b xs (I.base.tups b xs e),fun b o xs e=>frzs b o xs (I.base.frzs b o xs e),fun b ps e=>?_⟩,?_,fun x c e=>?_,?_,fun x c e=>?_,fun p hp=>?_,hok,I.len⟩
 ·exact keep b o (neL b o e) hb (neC b o e hx) (I.base.keep b o e n hb hx) (I.base.free b o e n hx)
 ·obtain⟨sl,e1⟩:=I.base.slot b o e n hb hx
  obtain⟨sl',e2⟩:=slot b _ (neL b o e) hb (neC b o e hx) e1 (I.base.free b o e n hx)
  exact⟨sl',e2⟩
 ·obtain⟨o',e1⟩:=I.base.there b o e hx
  exact free b o' (neC b o e hx) e1 (I.base.free b o e n hx)
 ·obtain⟨o',e1⟩:=I.base.there b o e hx
  exact there b o' (neC b o e hx) e1
 ·obtain⟨m1,e1⟩:=I.base.tbls b ps e
  obtain⟨m2,e2⟩:=tbls b _ e1
  exact⟨m1++m2,by rw [e2,Array.append_assoc]⟩
 ·obtain⟨m,hn,hl⟩:=I.loc
  refine⟨m,ns m hn,fun i x v e1 e2 e3=>?_⟩
  obtain⟨u,r,l⟩:=hl i x v e1 e2 e3
  refine⟨u,r,?_⟩
  rcases l with l | ⟨k,c,e,z⟩
  ·exact .inl l
  ·exact .inr ⟨k,c,e,cellK x c e _ z⟩
 ·obtain⟨v,z⟩:=I.cell x c e
  exact⟨v,cellK x c e v z⟩
 ·obtain⟨m,⟨o,_,_,ho,_⟩,_⟩:=I.loc
  exact free _ o (fun z=>(hch _ z).2.1 rfl) ho I.free
 ·obtain⟨v,o,ho,hd⟩:=I.cell x c e
  exact free c o (fun z=>(hch c z).2.2.1 x c e rfl) ho (I.freeC x c e)
 ·obtain⟨e,n,ne,nf,d⟩:=I.pin p hp
  have nch:p.1∉ch:=fun z=>(hch p.1 z).2.2.2 p hp rfl
  exact⟨keep p.1 p.2 ne nf nch e n,free p.1 p.2 nch e n,ne,nf,d⟩
theorem Inv.un {t':Nat} (I:Inv X pins σ H s) (u:Un X.fs [] H H' s.heap h') (hok:pj X.prog X.w H' h'):Inv X pins σ H' { s with heap:=h',toks:=t' }:=by
 obtain⟨m,⟨o,es,ep,ho,r⟩,_⟩:=id I.loc
 obtain⟨sl,hL⟩:=u.any ho I.free (by simp)
 exact I.step (g':=s.gens) (d':=s.drawn) (ch:=[]) (fun _ z=>nomatch z) (fun b o _ hb _ e n=>u.keep b o e n hb (by simp)) (fun b o _ hb _ e n=>u.slot b o e n hb (by simp)) (fun b o _ e n=>u.free b o e n (by simp)) (fun b o _ e=>u.there b o e (by simp)) u.tups u.frzs u.tbls (fun m' hm=>by
  obtain⟨o',es',ep',ho',r'⟩:=hm
  rw [ho] at ho'; cases ho'
  exact⟨_,es',ep',hL,r'⟩) hok I.bare
theorem Inv.call {g':Array GenState} {t':Nat} {d':Drawn} {ch:List Qo} (I:Inv X pins σ H s) (u:Un (frs X.stack) ch H H' s.heap h') (hok:pj X.prog X.w H' h') (hg:AllBare g')
  (hch:∀ b∈ch,(b∈X.ex\/X.s₀.heap.objs.size<=b)/\b≠X.env.locals/\(∀ x c,X.env.cells.lookup x=some c->c≠b)/\∀ p∈X.pn++pins,p.1≠b) :
  Inv X pins σ H' { s with heap:=h',gens:=g',drawn:=d',toks:=t' }:=by
 obtain⟨m,⟨o,es,ep,ho,r⟩,_⟩:=id I.loc
 obtain⟨sl,hL⟩:=u.any ho I.free fun z=>(hch _ z).2.1 rfl
 exact I.step (ch:=ch) hch (fun b o hL hb hc e n=>u.keep b o e n (fun z=>(List.mem_cons.mp (I.stkSub b z)).elim hL hb) hc) (fun b o _ _ hc e n=>u.any e n hc) (fun b o hc e n=>u.free b o e n hc) (fun b o hc e=>u.there b o e hc) u.tups u.frzs u.tbls (fun m' hm=>by
  obtain⟨o',es',ep',ho',r'⟩:=hm
  rw [ho] at ho'; cases ho'
  exact⟨_,es',ep',hL,r'⟩) hok hg
theorem Inv.turned {t':Nat} {it:Qo} (I:Inv X pins σ H s) (k:∀ b o,b≠it->s.heap.get? b=some o->h'.get? b=some o) (hn:H it=none) (hL:it≠X.env.locals)
  (h1:it∈X.ex\/X.s₀.heap.objs.size<=it) (h2:∀ x c,X.env.cells.lookup x=some c->c≠it) (h3:∀ p∈X.pn++pins,p.1≠it):Inv X pins σ H { s with heap:=h',toks:=t' }:=by
 have nit:∀ b u,H b=some u->b≠it:=fun b u e z=>by rw [z,hn] at e; cases e
 refine I.step (g':=s.gens) (d':=s.drawn) (ch:=[it]) (fun b hb=>?_) (fun b o _ _ hc e _=>k b o (fun z=>hc (by simp [z])) e) (fun b o _ _ hc e _=>⟨o.slots,k b o (fun z=>hc (by simp [z])) e⟩) (fun _ _ _ _ n=>n)
  (fun b o hc e=>⟨o,k b o (fun z=>hc (by simp [z])) e⟩) (fun _ _ e=>e) (fun _ _ _ e=>e) (fun b ps e=>⟨#[],by rw [e]; simp⟩) (fun m hm=>?_) (fun b u e=>?_) I.bare
 ·have e:b=it:=by simpa using hb
  subst e
  exact⟨h1,hL,h2,h3⟩
 ·obtain⟨o,es,ep,ho,r⟩:=hm
  exact⟨o,es,ep,k _ o (Ne.symm hL) ho,r⟩
 ·refine(I.hok b u e).stay (fun c v hc q=>k c v ?_ q) (fun _ q=>q) fun _ _ q=>q
  rcases hc with z | z
  ·rw [z]; exact nit b u e
  ·exact nit c _ z
theorem Inv.tok (I:Inv X pins σ H s) (t:Nat):Inv X pins σ H { s with toks:=t }:=I.un (h':=s.heap) (t':=t) Un.refl I.hok
theorem Inv.kept {t':Nat} (I:Inv X pins σ H s) (k:∀ b u,s.heap.get? b=some u->h'.get? b=some u):Inv X pins σ H { s with heap:=h',toks:=t' }:=I.un (Un.kept k) (I.hok.kept k)
theorem Inv.laid {a:Qo} {o:HO} {t':Nat} (I:Inv X pins σ H s) (k:∀ b u,s.heap.get? b=some u->h'.get? b=some u) (hp:s.heap.objs.size<=a) (new:dg X.prog X.w (upd H a o) h' a o) :
  Inv X pins σ (upd H a o) { s with heap:=h',toks:=t' }:=I.un (Un.laid k hp (I.hok.fresh hp)) (I.hok.laid k hp new)
theorem Inv.write {x e:Qo} {o:HO} {t':Nat} (I:Inv X pins σ H s) (mu:IG (H x)) (he:e=x\/H e=some (.own x)) (k:∀ b u,b≠e->s.heap.get? b=some u->h'.get? b=some u) (heo:∃ u,h'.get? e=some u)
  (new:dg X.prog X.w (upd H x o) h' x o):Inv X pins σ (upd H x o) { s with heap:=h',toks:=t' }:=I.un (Un.write mu he k heo) (I.hok.write mu he k heo new)
theorem Inv.pins_of {pins':List (Qo×Obj)} (I:Inv X pins σ H s) (h:∀ p∈pins',s.heap.get? p.1=some p.2/\H p.1=none/\p.1≠X.env.locals/\p.1∉X.fs/\∀ v,p.2.data≠.cell v):Inv X pins' σ H s :=
 ⟨I.ok,I.os,I.bare,I.base,I.loc,I.cell,I.free,I.freeC,fun p hp=>(List.mem_append.mp hp).elim (fun z=>I.pin p (MK _ z)) (h p),I.hok,I.len⟩

theorem vH {N:List Str} (hN:N.Nodup) {i j:Nat} {x:Str} (a:N[i]?=some x) (b:N[j]?=some x):i=j:=by
 obtain⟨h1,e1⟩:=List.getElem?_eq_some_iff.mp a
 obtain⟨h2,e2⟩:=List.getElem?_eq_some_iff.mp b
 exact(List.getElem_inj hN).mp (e1.trans e2.symm)

theorem tI {M:Qw} {A:Qt} {E:Ql->Qu->Prop} {i:Nat} {x:Str} {v:V} {u:Ql} {Q:Unit->Qu->Prop} (I:Inv X pins σ H s) (hN:X.N.Nodup) (hi:X.N[i]?=some x) (hx:Loc X.env.scope x) (r:RelV v u)
  (h:∀ s',Inv X pins (σ.set i (some v)) H s'->(∃ a,PL a s.heap s'.heap/\(a=X.env.locals\/X.env.cells.lookup x=some a))->Q () s') (hf:X.fn x=true\/X.env.scope.names.lookup x=some .local:=by first | exact .inl rfl | exact .inr rfl | assumption):Qx M A (storeName X.env x u) Q E s:=by
 obtain⟨m,hn,hl⟩:=id I.loc
 have hcls:(X.env.scope.kind==.class || (X.env.scope.kind==.module && X.env.locals != X.env.globals))=false:=by rw [I.ok.kind]; rfl
 have hiσ:i < σ.length:=by rw [I.len]; exact(List.getElem?_eq_some_iff.mp hi).1
 have cne:=I.cne
 have tracked:∀ {a:Qo} {h':Qp},(∃ o,s.heap.get? a=some o/\H a=none)->PL a s.heap h'->pj X.prog X.w H h':=fun {a h'} ha hs b ob e=>by
  obtain⟨_,_,hfree⟩:=ha
  refine(I.hok b ob e).stay (fun c w' hc q=>(hs.2 c ?_).trans q) (fun _ q=>q) fun _ _ q=>q
  rintro rfl
  rcases hc with rfl | hc
  ·rw [hfree] at e; cases e
  ·rw [hfree] at hc; cases hc
 rcases hx with hk | hk
 ·refine wpAny_storeName_local hk hn (fun h' hn' hs=>?_) hcls
  obtain⟨oL,_,_,hoL,_⟩:=id hn
  refine h _ ⟨I.ok,I.os,I.bare,⟨fun b o e n hb hx=>?_,fun b o e n hb hx=>?_,I.base.free,fun b o e hx=>?_,I.base.tups,I.base.frzs,I.base.tbls⟩,⟨_,hn',fun j y v' e1 e2 e3=>?_⟩,fun y c e=>?_,I.free,I.freeC,fun p hp=>?_,tracked ⟨oL,hoL,I.free⟩ hs,by simpa using I.len⟩ ⟨_,hs,.inl rfl⟩
  ·exact(hs.2 b (ME (MC (PJ e) I.ok.above))).trans (I.base.keep b o e n hb hx)
  ·obtain⟨sl,e1⟩:=I.base.slot b o e n hb hx
   exact⟨sl,(hs.2 b (ME (MC (PJ e) I.ok.above))).trans e1⟩
  ·obtain⟨o',e1⟩:=I.base.there b o e hx
   exact⟨o',(hs.2 b (ME (MC (PJ e) I.ok.above))).trans e1⟩
  ·by_cases hj:j=i
   ·subst hj
    rw [hi] at e1; cases e1
    rw [ML hiσ] at e2
    cases e2
    exact⟨u,r,.inl ⟨hk,by simp⟩⟩
   ·rw [MM (Ne.symm hj)] at e2
    obtain⟨u',r',q⟩:=hl j y v' e1 e2 e3
    refine⟨u',r',?_⟩
    rcases q with ⟨k,e⟩ | ⟨k,c,e,z⟩
    ·refine .inl ⟨k,?_⟩
     have:y≠x:=fun e=>hj (vH hN e1 (e ▸ hi))
     simp [this,e]
    ·exact .inr ⟨k,c,e,z.sameBut hs (cne y c e)⟩
  ·obtain⟨w',z⟩:=I.cell y c e
   exact⟨w',z.sameBut hs (cne y c e)⟩
  ·obtain⟨e,n,ne,nf,d⟩:=I.pin p hp
   exact⟨(hs.2 p.1 ne).trans e,n,ne,nf,d⟩
 ·have hfn:X.fn x=true:=by
   rcases hf with z | z
   ·exact z
   ·rw [z] at hk; cases hk
  obtain⟨c,hc⟩:=I.ok.has x (.inl hk)
  obtain⟨w',z⟩:=I.cell x c hc
  refine wpAny_storeName_cell I.ok.kind hk hc z (fun h' hc' hs=>?_)
  obtain⟨oc,hoc,hocd⟩:=id z
  refine h { s with heap:=h' } ⟨I.ok,I.os,I.bare,⟨fun b o e n hb hx=>?_,fun b o e n hb hx=>?_,I.base.free,fun b o e hx=>?_,I.base.tups,I.base.frzs,I.base.tbls⟩,⟨m,hn.sameBut hs (Ne.symm (cne x c hc)),fun j y v' e1 e2 e3=>?_⟩,fun y c' e=>?_,I.free,I.freeC,fun p hp=>?_,tracked ⟨oc,hoc,I.freeC x c hc⟩ hs,by simpa using I.len⟩ ⟨c,hs,.inr hc⟩
  ·exact(hs.2 b (ME (MC (PJ e) (I.ok.cab x c hfn hc)))).trans (I.base.keep b o e n hb hx)
  ·obtain⟨sl,e1⟩:=I.base.slot b o e n hb hx
   exact⟨sl,(hs.2 b (ME (MC (PJ e) (I.ok.cab x c hfn hc)))).trans e1⟩
  ·obtain⟨o',e1⟩:=I.base.there b o e hx
   exact⟨o',(hs.2 b (ME (MC (PJ e) (I.ok.cab x c hfn hc)))).trans e1⟩
  ·by_cases hj:j=i
   ·subst hj
    rw [hi] at e1; cases e1
    rw [ML hiσ] at e2
    cases e2
    exact⟨u,r,.inr ⟨.inl hk,c,hc,hc'⟩⟩
   ·rw [MM (Ne.symm hj)] at e2
    obtain⟨u',r',q⟩:=hl j y v' e1 e2 e3
    refine⟨u',r',?_⟩
    rcases q with q | ⟨k,c',e,z'⟩
    ·exact .inl q
    ·refine .inr ⟨k,c',e,z'.sameBut hs ?_⟩
     rintro rfl
     exact hj (vH hN e1 (I.ok.inj _ _ _ e hc ▸ hi))
  ·by_cases hcc:c'=c
   ·subst hcc; exact⟨_,hc'⟩
   ·obtain⟨w2,z2⟩:=I.cell y c' e
    exact⟨w2,z2.sameBut hs hcc⟩
  ·obtain⟨e,n,ne,nf,d⟩:=I.pin p hp
   refine⟨(hs.2 p.1 ?_).trans e,n,ne,nf,d⟩
   intro q
   rw [q,hoc] at e
   have q':oc=p.2:=Option.some.inj e
   exact d w' (by rw [<- q']; exact hocd)
theorem qZ {M:Qw} {A:Qt} {E:Ql->Qu->Prop} {i:Nat} {x:Str} {v:V} {u:Ql} {Q:Unit->Qu->Prop} (I:Inv X pins σ H s) (hN:X.N.Nodup) (hi:X.N[i]?=some x) (hx:Loc X.env.scope x) (r:RelV v u)
  (h:∀ s',Inv X pins (σ.set i (some v)) H s'->Q () s') (hf:X.fn x=true\/X.env.scope.names.lookup x=some .local:=by first | exact .inl rfl | exact .inr rfl | assumption):Qx M A (storeName X.env x u) Q E s :=
 tI I hN hi hx r (fun s' I' _=>h s' I') hf
theorem Inv.call' {s':Qu} {ch:List Qo} (I:Inv X pins σ H s) (ho:s'.os=s.os) (u:Un (frs X.stack) ch H H' s.heap s'.heap) (hok:pj X.prog X.w H' s'.heap) (hg:AllBare s'.gens)
  (hch:∀ b∈ch,(b∈X.ex\/X.s₀.heap.objs.size<=b)/\b≠X.env.locals/\(∀ x c,X.env.cells.lookup x=some c->c≠b)/\∀ p∈X.pn++pins,p.1≠b):Inv X pins σ H' s':=by
 obtain⟨h',g',d',t',o'⟩:=s'
 have e:o'=s.os:=ho
 subst e
 exact I.call (g':=g') (t':=t') (d':=d') u hok hg hch
end

abbrev XK:=Ql->Option Qo->Hp->Prop
abbrev St:=List (Option V)
abbrev VK:=V->Hp->Prop
abbrev TE:=St->Hp->VK->Prop
abbrev TT:=St->Hp->(Bool->Hp->Prop)->Prop
abbrev TA:=St->Hp->(List V->Hp->Prop)->Prop
structure Ends where
 nx:St->Hp->Prop
 rt:VK
 bk:St->Hp->Prop:=fun _ _=>False
 ct:St->Hp->Prop:=fun _ _=>False
abbrev TS:=Ends->St->Hp->Prop

def EP (X:Cx) (pins:List (Qo×Obj)) (σ:St) (Q:VK) (u:Ql) (s':Qu):Prop:=∃ v H',Inv X pins σ H' s'/\RelV v u/\Q v H'
def TP (X:Cx) (pins:List (Qo×Obj)) (σ:St) (Q:Bool->Hp->Prop) (b:Bool) (s':Qu):Prop:=∃ H',Inv X pins σ H' s'/\Q b H'
def AP (X:Cx) (pins:List (Qo×Obj)) (σ:St) (Q:List V->Hp->Prop) (us:List Ql) (s':Qu):Prop:=∃ vs H',Inv X pins σ H' s'/\Vals vs us/\Q vs H'
def SP (X:Cx) (pins:List (Qo×Obj)) (D:Ends) (f:Flow) (s':Qu):Prop :=
 match f with
 | .next=>∃ σ' H',Inv X pins σ' H' s'/\D.nx σ' H'
 | .brk=>∃ σ' H',Inv X pins σ' H' s'/\D.bk σ' H'
 | .cont=>∃ σ' H',Inv X pins σ' H' s'/\D.ct σ' H'
 | .ret u=>∃ v σ' H',Inv X pins σ' H' s'/\RelV v u/\D.rt v H'

def PE (X:Cx) (e:Qy) (t:TE):Prop :=
 ∀ (pins:List (Qo×Obj)) (s:Qu) (σ:St) (H:Hp) (Q:VK),Inv X pins σ H s->t σ H Q->Qx (model X.prog X.w) X.A (eval e X.env) (EP X pins σ Q) X.xe s
def PT (X:Cx) (e:Qy) (t:TT):Prop :=
 ∀ (pins:List (Qo×Obj)) (s:Qu) (σ:St) (H:Hp) (Q:Bool->Hp->Prop),Inv X pins σ H s->t σ H Q->Qx (model X.prog X.w) X.A (isTrue e X.env (eval e X.env)) (TP X pins σ Q) X.xe s
def PW (X:Cx) (e:Qy) (t:TT):Prop :=
 ∀ (whole:Sem Ql) (pins:List (Qo×Obj)) (s:Qu) (σ:St) (H:Hp) (Q:Bool->Hp->Prop),Inv X pins σ H s->t σ H Q->Qx (model X.prog X.w) X.A (isTrue e X.env whole) (TP X pins σ Q) X.xe s
theorem PW.pt {X:Cx} {e:Qy} {t:TT} (h:PW X e t):PT X e t:=h _
def PA (X:Cx) (es:List Qy) (t:TA):Prop :=
 ∀ (pos:Pos) (pins:List (Qo×Obj)) (s:Qu) (σ:St) (H:Hp) (Q:List V->Hp->Prop),Inv X pins σ H s->t σ H Q->Qx (model X.prog X.w) X.A (spliced (backTo pos (Qz es X.env))) (AP X pins σ Q) X.xe s
def PS (X:Cx) (st:QA) (t:TS):Prop :=
 ∀ (pins:List (Qo×Obj)) (s:Qu) (σ:St) (H:Hp) (D:Ends),Inv X pins σ H s->t D σ H->Qx (model X.prog X.w) X.A (exec st X.env) (SP X pins D) X.xe s
def vC (X:Cx) (st:List QA) (t:TS):Prop :=
 ∀ (pins:List (Qo×Obj)) (s:Qu) (σ:St) (H:Hp) (D:Ends),Inv X pins σ H s->t D σ H->Qx (model X.prog X.w) X.A (execs st X.env) (SP X pins D) X.xe s
theorem dB {α:Type} {t:Sem α} {Q Q':α->Qu->Prop} {M:Qw} {A:Qt} {E:Ql->Qu->Prop} {s:Qu} (h:Qx M A t Q E s) (hQ:∀ a s,Q a s->Q' a s):Qx M A t Q' E s:=QB h hQ fun _ _ x=>x
end L2

namespace L2
open PySem PySem.Spec PyProof.Rows
section
variable {X:Cx}

def qd (i:Nat):TE:=fun σ H Q=>∃ v,σ[i]?=some (some v)/\Q v H
def tC (v:V):TE:=fun _ H Q=>Q v H
theorem Gp {i:Nat} {x:Str} {pos:Pos} (hN:X.N[i]?=some x) (hv:Hj X.env.scope x) (hd:(x==("__debug__":Str))=false:=by decide) (hcd:(x==("__classdict__":Str))=false:=by decide):PE X (.Name x pos) (qd i):=by
 intro pins s σ H Q I h
 obtain⟨v,e,h⟩:=h
 obtain⟨m,hn,hl⟩:=I.loc
 obtain⟨u,r,l⟩:=hl i x v hN e hv
 have fin:EP X pins σ Q u s:=⟨v,H,I,r,h⟩
 rcases l with ⟨hk,hm⟩ | ⟨hk,c,hc,hcell⟩
 ·exact wpAny_Name (wpAny_loadName_local I.ok.kind hk hn hm fin) hd
 ·rcases hk with hk | hk
  ·exact wpAny_Name (wpAny_loadName_cell I.ok.kind hk hc hcell fin) hd
  ·exact wpAny_Name (wpAny_loadName_free I.ok.kind hk hc hcell fin hcd) hd
theorem CM {i j pos}:PE X (.Constant (.int i) j pos) (tC (.int i)):=fun _ _ _ H _ I h=>wpAny_Constant_int ⟨.int i,H,I.tok _,⟨_,rfl⟩,h⟩
theorem IX {b j pos}:PE X (.Constant (.bool b) j pos) (tC (.bl b)):=fun _ _ _ H _ I h=>Constant_bool ⟨.bl b,H,I,rfl,h⟩
theorem FR {j pos}:PE X (.Constant .none j pos) (tC .non):=fun _ _ _ H _ I h=>Constant_none ⟨.non,H,I,rfl,h⟩
theorem GD {x j pos}:PE X (.Constant (.str x) j pos) (tC (.str x)):=fun _ _ _ H _ I h=>Calls.Constant_str ⟨.str x,H,I.tok _,⟨_,rfl⟩,h⟩

def Gl (X:Cx) (x:Str):Prop:=X.env.kindOf x=some .globalImplicit
theorem md {E:Ql->Qu->Prop} {pins:List (Qo×Obj)} {s:Qu} {σ:St} {H:Hp} {x:Str} {u:Ql} {pos:Pos} {Q:Ql->Qu->Prop} (I:Inv X pins σ H s) (hg:Gl X x) (hm:X.mg x=some u) (h:Q u s)
  (hd:(x==("__debug__":Str))=false:=by decide):Qx (model X.prog X.w) X.A (eval (.Name x pos) X.env) Q E s :=
 Calls.Name_function_global I.ok.kind hg (Calls.loadGlobal_global (by rw [I.ok.glob]; exact I.mod.glob.keeps I.bk) hm h) hd
theorem nv {E:Ql->Qu->Prop} {pins:List (Qo×Obj)} {s:Qu} {σ:St} {H:Hp} {x:Str} {u:Ql} {pos:Pos} {Q:Ql->Qu->Prop} (I:Inv X pins σ H s) (hg:Gl X x) (hm:X.mg x=none) (hv:Qs x=some u) (h:Q u s)
  (hn:x ≠ "__name__":=by decide) (hd:(x==("__debug__":Str))=false:=by decide):Qx (model X.prog X.w) X.A (eval (.Name x pos) X.env) Q E s:=by
 obtain⟨mb,h1,h2⟩:=I.mod.blt
 exact Calls.Name_function_global I.ok.kind hg (Calls.loadGlobal_builtin (by rw [I.ok.glob]; exact I.mod.glob.keeps I.bk) hm (by rw [I.ok.blt]; exact h1.keeps I.bk) ((h2 x hn).trans hv) h) hd
theorem yR {x:Str} {v:V} {u:Ql} {pos:Pos} (hg:Gl X x) (hm:X.mg x=some u) (r:RelV v u) (hd:(x==("__debug__":Str))=false:=by decide):PE X (.Name x pos) (tC v) :=
 fun _ _ _ H _ I h=>md I hg hm ⟨v,H,I,r,h⟩ hd
theorem D4 {x:Str} {v:V} {u:Ql} {pos:Pos} (hg:Gl X x) (hm:X.mg x=none) (hv:Qs x=some u) (r:RelV v u) (hn:x ≠ "__name__":=by decide) (hd:(x==("__debug__":Str))=false:=by decide):PE X (.Name x pos) (tC v) :=
 fun _ _ _ H _ I h=>nv I hg hm hv ⟨v,H,I,r,h⟩ hn hd

variable {a b:Qy} {ta tb:TE} {pos:Pos}
variable {tA tB':TT} {rest:List Qy}
def Kv (t u:TT):TT:=fun σ H Q=>t σ H fun c H1=>if c=true then u σ H1 Q else Q false H1
def Mq (t u:TT):TT:=fun σ H Q=>t σ H fun c H1=>if c=true then Q true H1 else u σ H1 Q
def Ky (t:TT):TT:=fun σ H Q=>t σ H fun c H1=>Q (!c) H1
theorem Dx (ha:PT X a tA):PW X (.BoolOp .And [a] pos) tA:=by
 intro wh pins s σ H Q I h
 refine isTrue_and (dB (ha pins s σ H Q I h) fun c s1 e=>?_)
 cases c with
 | true=>exact isTrue_and_nil e
 | false=>exact e
theorem GV (ha:PT X a tA):PW X (.BoolOp .Or [a] pos) tA:=by
 intro wh pins s σ H Q I h
 refine isTrue_or (dB (ha pins s σ H Q I h) fun c s1 e=>?_)
 cases c with
 | false=>exact isTrue_or_nil e
 | true=>exact e
theorem FC (ha:PT X a tA) (hb:PW X (.BoolOp .And (b::rest) pos) tB'):PW X (.BoolOp .And (a::b::rest) pos) (Kv tA tB'):=by
 intro wh pins s σ H Q I h
 refine isTrue_and (dB (ha pins s σ H _ I h) fun c s1 ⟨H1,I1,q1⟩=>?_)
 cases c with
 | true=>exact hb wh pins s1 σ H1 Q I1 q1
 | false=>exact⟨H1,I1,q1⟩
theorem Id (ha:PT X a tA) (hb:PW X (.BoolOp .Or (b::rest) pos) tB'):PW X (.BoolOp .Or (a::b::rest) pos) (Mq tA tB'):=by
 intro wh pins s σ H Q I h
 refine isTrue_or (dB (ha pins s σ H _ I h) fun c s1 ⟨H1,I1,q1⟩=>?_)
 cases c with
 | true=>exact⟨H1,I1,q1⟩
 | false=>exact hb wh pins s1 σ H1 Q I1 q1
theorem Gv (ha:PT X a tA):PT X (.UnaryOp .Not a pos) (Ky tA):=by
 intro pins s σ H Q I h
 exact isTrue_not (ha pins s σ H (fun c H1=>Q (!c) H1) I h)
def Mz (t:TT) (ta tb:TE):TE:=fun σ H Q=>t σ H fun c H1=>if c=true then ta σ H1 Q else tb σ H1 Q
theorem Ct {c:Qy} (hc:PT X c tA) (ha:PE X a ta) (hb:PE X b tb):PE X (.IfExp c a b pos) (Mz tA ta tb):=by
 intro pins s σ H Q I h
 refine wpAny_IfExp (dB (hc pins s σ H _ I h) fun d s1 ⟨H1,I1,q1⟩=>?_)
 cases d with
 | true=>exact ha pins s1 σ H1 Q I1 q1
 | false=>exact hb pins s1 σ H1 Q I1 q1
end
end L2

namespace L2
open PySem PySem.Spec PyProof.Rows

def mG (K:O2) (H:Hp) (a:Qo) (xs:List V):Prop :=
 Rd H a (.lst xs) \/
  ∃ (o:Obj) (its:Array Ql) (n:Nat),K.lookup a=some o/\o.cls=.type "list"/\o.dict=none/\o.data=.seq its n/\its.size<=Qq/\Vals xs its.toList
def oR (K:O2) (H:Hp) (a:Qo) (xs:List V):Prop :=
 Rd H a (.tup xs) \/
  ∃ (o:Obj) (its:Array Ql) (n:Nat),K.lookup a=some o/\o.cls=.type "tuple"/\o.data=.seq its n/\its.size<=Qq/\Vals xs its.toList
def Le:Ql->Option V
 | .none=>some .non
 | .bool b=>some (.bl b)
 | .int i _=>some (.int i)
 | .str x _=>some (.str x)
 | .bytes b _=>some (.byt b)
 | .float b _=>some (.flt b)
 | .ref a=>some (.ref a)
 | .type n=>some (.ty n)
 | _=>none
theorem RelV.abs {x:V} {u:Ql} (r:RelV x u):Le u=some x:=by
 cases x with
 | non=>cases r; rfl
 | bl _=>cases r; rfl
 | int _=>obtain⟨t,rfl⟩:=r; rfl
 | str _=>obtain⟨t,rfl⟩:=r; rfl
 | byt _=>obtain⟨t,rfl⟩:=r; rfl
 | flt _=>obtain⟨t,rfl⟩:=r; rfl
 | ref _=>cases r; rfl
 | ty _=>cases r; rfl
theorem RelV.inj {x y:V} {u:Ql} (r:RelV x u) (q:RelV y u):x=y:=Option.some.inj (r.abs.symm.trans q.abs)
theorem Vals.inj:∀ {xs ys:List V} {us:List Ql},Vals xs us->Vals ys us->xs=ys
 | _,_,_,.nil,.nil=>rfl
 | _,_,_,.cons r t,.cons r' t'=>by rw [r.inj r',Vals.inj t t']
section
variable {X:Cx} {pins:List (Qo×Obj)} {σ:St} {H:Hp} {s:Qu} {a:Qo} {xs ys:List V}
theorem mG.of {K:O2} (h:H a=some (.lst xs)):mG K H a xs:=.inl (.inl h)
theorem oR.of {K:O2} (h:H a=some (.tup xs)):oR K H a xs:=.inl (.inl h)
theorem Inv.list (I:Inv X pins σ H s) (h:mG X.K H a xs):∃ its:List Ql,Vals xs its/\PlainL s.heap a its.toArray/\xs.length<=Qq:=by
 rcases h with h | ⟨o,its,n,hk,hc,hd,hs,hz,r⟩
 ·obtain⟨z,its,n,r,e⟩:=h.ok I.hok
  exact⟨its,r,⟨_,n,e,rfl,rfl,rfl⟩,z⟩
 ·refine⟨its.toList,r,⟨o,n,I.kIn a o hk,hc,hd,by simpa using hs⟩,?_⟩
  have e:=r.length
  simp only [Array.length_toList] at e
  omega
theorem Inv.tuple (I:Inv X pins σ H s) (h:oR X.K H a xs):∃ its:List Ql,Vals xs its/\IsTup s.heap a its.toArray/\xs.length<=Qq:=by
 rcases h with h | ⟨o,its,n,hk,hc,hs,hz,r⟩
 ·obtain⟨z,its,r,p⟩:=h.ok I.hok
  exact⟨its,r,p,z⟩
 ·refine⟨its.toList,r,⟨o,I.kIn a o hk,hc,n,by simpa using hs⟩,?_⟩
  have e:=r.length
  simp only [Array.length_toList] at e
  omega
theorem Inv.list_inj (I:Inv X pins σ H s) (h:mG X.K H a xs) (h':mG X.K H a ys):xs=ys:=by
 obtain⟨its,r,⟨o,n,e,_,_,d⟩,_⟩:=I.list h
 obtain⟨its',r',⟨o',n',e',_,_,d'⟩,_⟩:=I.list h'
 rw [e] at e'; cases e'
 rw [d] at d'
 injection d' with d1 _
 have:its=its':=by simpa using congrArg Array.toList d1
 subst this
 exact r.inj r'
theorem Inv.tuple_inj (I:Inv X pins σ H s) (h:oR X.K H a xs) (h':oR X.K H a ys):xs=ys:=by
 obtain⟨its,r,⟨o,e,_,n,d⟩,_⟩:=I.tuple h
 obtain⟨its',r',⟨o',e',_,n',d'⟩,_⟩:=I.tuple h'
 rw [e] at e'; cases e'
 rw [d] at d'
 injection d' with d1 _
 have:its=its':=by simpa using congrArg Array.toList d1
 subst this
 exact r.inj r'
end

abbrev Cx.wish (X:Cx) (E:Ql->Qu->Prop):Cx:={ X with xe:=E }
abbrev Cx.nox (X:Cx):Cx:=X.wish fun _ _=>False
theorem Cx.Ok.wish {X:Cx} (ok:X.Ok) (E:Ql->Qu->Prop):(X.wish E).Ok :=
 ⟨ok.mod,ok.kind,ok.glob,ok.blt,ok.above,ok.inj,ok.has,ok.cab,ok.hd,ok.frames,ok.stk,ok.exf,ok.bs,ok.bsz,ok.noex,ok.exfs,ok.funs,ok.frf⟩
theorem Cx.Ok.unwish {X:Cx} {E:Ql->Qu->Prop} (ok:(X.wish E).Ok):X.Ok :=
 ⟨ok.mod,ok.kind,ok.glob,ok.blt,ok.above,ok.inj,ok.has,ok.cab,ok.hd,ok.frames,ok.stk,ok.exf,ok.bs,ok.bsz,ok.noex,ok.exfs,ok.funs,ok.frf⟩
section
variable {X:Cx} {pins:List (Qo×Obj)} {σ:St} {H:Hp} {s:Qu} {E:Ql->Qu->Prop}
theorem Inv.wish (I:Inv X pins σ H s) (E:Ql->Qu->Prop):Inv (X.wish E) pins σ H s:=⟨I.ok.wish E,I.os,I.bare,I.base,I.loc,I.cell,I.free,I.freeC,I.pin,I.hok,I.len⟩
theorem Inv.unwish (I:Inv (X.wish E) pins σ H s):Inv X pins σ H s:=⟨I.ok.unwish,I.os,I.bare,I.base,I.loc,I.cell,I.free,I.freeC,I.pin,I.hok,I.len⟩
theorem SP.unwish {D:Ends} {f:Flow} {s':Qu} (h:SP (X.wish E) pins D f s'):SP X pins D f s':=by
 cases f with
 | next=>obtain⟨σ',H',I,q⟩:=h; exact⟨σ',H',I.unwish,q⟩
 | brk=>obtain⟨σ',H',I,q⟩:=h; exact⟨σ',H',I.unwish,q⟩
 | cont=>obtain⟨σ',H',I,q⟩:=h; exact⟨σ',H',I.unwish,q⟩
 | ret u=>obtain⟨v,σ',H',I,r,q⟩:=h; exact⟨v,σ',H',I.unwish,r,q⟩
theorem vC.nox {st:List QA} {t:TS} (h:vC X.nox st t):vC X st t:=fun pins s σ H D I hw =>
 QB (h pins s σ H D (I.wish _) hw) (fun _ _ q=>q.unwish) fun _ _ z=>False.elim z
end

section
variable {X:Cx} {st:QA} {rest:List QA} {t u:TS} {e:Qy} {te:TE} {pos:Pos}
def HB:TS:=fun D σ H=>D.nx σ H
def Lv (t u:TS):TS:=fun D σ H=>t { D with nx:=u D } σ H
theorem yT:vC X [] HB:=fun _ _ σ H _ I h=>QC ⟨σ,H,I,h⟩
theorem Bz (h1:PS X st t) (h2:vC X rest u):vC X (st::rest) (Lv t u):=by
 intro pins s σ H D I h
 refine wpAny_execs_cons (dB (h1 pins s σ H { D with nx:=u D } I h) fun f s1 q=>?_)
 cases f with
 | next =>
  obtain⟨σ',H',I',q⟩:=q
  exact h2 pins s1 σ' H' D I' q
 | ret v=>exact q
 | brk=>exact q
 | cont=>exact q
theorem yz (h1:PS X st t):vC X [st] t:=by
 intro pins s σ H D I h
 refine wpAny_execs_cons (dB (h1 pins s σ H D I h) fun f s1 q=>?_)
 cases f with
 | next=>exact QC q
 | ret v=>exact q
 | brk=>exact q
 | cont=>exact q
theorem Inv.quiet {pins:List (Qo×Obj)} {σ:St} {H:Hp} {s:Qu} (I:Inv X pins σ H s):interactive X.env=false:=by simp [interactive,I.ok.kind]
def HF (te:TE):TS:=fun D σ H=>te σ H fun _ H1=>D.nx σ H1
theorem uq (he:PE X e te) (hs:swapsWith e none pos.line X.env=pure false:=by rfl):PS X (.Expr e pos) (HF te):=by
 intro pins s σ H D I h
 exact wpAny_Expr_any (dB (he pins s σ H _ I h) fun v s1 ⟨x,H1,I1,r1,q1⟩=>⟨σ,H1,I1,q1⟩) I.quiet hs
def Lb (te:TE):TS:=fun D σ H=>te σ H D.rt
theorem FD (he:PE X e te):PS X (.Return (some e) pos) (Lb te):=by
 intro pins s σ H D I h
 exact wpAny_Return_some (dB (he pins s σ H _ I h) fun v s1 ⟨x,H1,I1,r1,q1⟩=>⟨x,σ,H1,I1,r1,q1⟩)
def J0 (c:TT) (t u:TS):TS:=fun D σ H=>c σ H fun b H1=>if b=true then t D σ H1 else u D σ H1
theorem Hw {c:Qy} {a b:List QA} {tc:TT} (hc:PT X c tc) (ha:vC X a t) (hb:vC X b u):PS X (.If c a b pos) (J0 tc t u):=by
 intro pins s σ H D I h
 refine wpAny_If (dB (hc pins s σ H _ I h) fun d s1 ⟨H1,I1,q1⟩=>?_)
 cases d with
 | true=>exact ha pins s1 σ H1 D I1 q1
 | false=>exact hb pins s1 σ H1 D I1 q1
end

abbrev TG:=V->St->Hp->(St->Hp->Prop)->Prop
abbrev Ff:=List V->St->Hp->(St->Hp->Prop)->Prop
def PG (X:Cx) (target:Qy) (t:TG):Prop :=
 ∀ (pins:List (Qo×Obj)) (s:Qu) (σ:St) (H:Hp) (v:V) (u:Ql) (Q:St->Hp->Prop),Inv X pins σ H s->RelV v u->t v σ H Q ->
  Qx (model X.prog X.w) X.A (assign target X.env u) (fun _ s'=>∃ σ' H',Inv X pins σ' H' s'/\Q σ' H') X.xe s
def IP (X:Cx) (ts:List Qy) (t:Ff):Prop :=
 ∀ (pins:List (Qo×Obj)) (s:Qu) (σ:St) (H:Hp) (vs:List V) (us:List Ql) (Q:St->Hp->Prop),Inv X pins σ H s->Vals vs us->t vs σ H Q ->
  Qx (model X.prog X.w) X.A (assignInOrder ((assignEach ts X.env).map (·.2)) us) (fun _ s'=>∃ σ' H',Inv X pins σ' H' s'/\Q σ' H') X.xe s
abbrev Gu:=V->V->V->Hp->(Hp->Prop)->Prop
def Iz (X:Cx) (t:Gu):Prop :=
 ∀ (pins:List (Qo×Obj)) (s:Qu) (σ:St) (H:Hp) (o i v:V) (ov iv u:Ql) (Q:Hp->Prop),Inv X pins σ H s->RelV o ov->RelV i iv->RelV v u->t o i v H Q ->
  Qx (model X.prog X.w) X.A (setItem ov iv u) (fun _ s'=>∃ H',Inv X pins σ H' s'/\Q H') X.xe s
section
variable {X:Cx} {pos:Pos}
def tB (i:Nat):TG:=fun v σ H Q=>Q (σ.set i (some v)) H
theorem Dw {i:Nat} {x:Str} (hN:X.N.Nodup) (hi:X.N[i]?=some x) (hx:Loc X.env.scope x) (hf:X.fn x=true\/X.env.scope.names.lookup x=some .local:=by first | exact .inl rfl | exact .inr rfl | assumption):PG X (.Name x pos) (tB i):=by
 intro pins s σ H v u Q I r h
 exact wpAny_assign_Name (qZ I hN hi hx r (fun s' I'=>⟨_,H,I',h⟩) hf)
def LA:Ff:=fun vs σ H Q=>vs=[]/\Q σ H
def HH (t:TG) (u:Ff):Ff:=fun vs σ H Q=>∃ v r,vs=v::r/\t v σ H fun σ' H'=>u r σ' H' Q
theorem DZ:IP X [] LA:=by
 intro pins s σ H vs us Q I r h
 obtain⟨e,h⟩:=h
 subst e
 cases r
 exact assignInOrder_nil ⟨σ,H,I,h⟩
theorem Ci {e:Qy} {es:List Qy} {t:TG} {u:Ff} (h1:PG X e t) (h2:IP X es u)
  (hs:(assignEach (e::es) X.env).map (·.2)=assign e X.env::(assignEach es X.env).map (·.2):=by rfl):IP X (e::es) (HH t u):=by
 intro pins s σ H vs us Q I r h
 obtain⟨v,vr,e1,h⟩:=h
 subst e1
 cases r with
 | cons r rr =>
  rw [hs]
  refine assignInOrder_cons (dB (h1 pins s σ H _ _ _ I r h) fun _ s1 ⟨σ1,H1,I1,q1⟩=>?_)
  exact h2 pins s1 σ1 H1 _ _ Q I1 rr q1
def J7 (K:O2) (n:Nat) (t:Ff):TG:=fun v σ H Q=>∃ a xs,v=.ref a/\oR K H a xs/\xs.length=n/\t xs σ H Q
theorem Gj {es:List Qy} {k:Nat} {t:Ff} {n:Nat} (hc:X.calm=true) (h:IP X es t)
  (hn:(assignEach es X.env).length=n:=by rfl) (hst:(assignEach es X.env).findIdx? (·.1)=none:=by rfl):PG X (.Tuple es k pos) (J7 X.K n t):=by
 intro pins s σ H v u Q I r hw
 obtain⟨a,xs,e1,hq,hl,hw⟩:=hw
 subst e1
 cases r
 obtain⟨its,rv,ht,hz⟩:=I.tuple hq
 refine assign_Tuple_tuple (I.ok.hd hc) ht (by simp [hn,<- hl,rv.length]) hst fun h' hx=>?_
 have I1:Inv X pins σ H { s with heap:=h' }:=I.kept (t':=s.toks) fun b o e=>hx b o (ME (PJ e)) e
 exact h pins _ σ H xs _ Q I1 (by simpa using rv) hw
def wQ (to ti:TE) (t:Gu):TG:=fun v σ H Q=>to σ H fun o H1=>ti σ H1 fun i H2=>t o i v H2 fun H3=>Q σ H3
theorem GU {o i:Qy} {to ti:TE} {t:Gu} (ho:PE X o to) (hi:PE X i ti) (hs:Iz X t)
  (ha:∀ v,assign (.Subscript o i pos) X.env v=(do
   let ov <- holding [v] (eval o X.env)
   let iv <- holding [v,ov] (eval i X.env)
   standAt pos
   holding [v,ov,iv] (setItem ov iv v)
   release [v,ov,iv] []):=by intro _; rfl):PG X (.Subscript o i pos) (wQ to ti t):=by
 intro pins s σ H v u Q I r h
 rw [ha]
 refine QD (QE (dB (ho pins s σ H _ I h) fun ov s1 ⟨x,H1,I1,r1,q1⟩=>?_))
 refine QD (QE (dB (hi pins s1 σ H1 _ I1 q1) fun iv s2 ⟨y,H2,I2,r2,q2⟩=>?_))
 refine QD (QF (QD (QE (dB (hs pins s2 σ H2 x y v ov iv u _ I2 r1 r2 r q2) fun _ s3 ⟨H3,I3,q3⟩=>?_))))
 exact wpAny_release ⟨σ,H3,I3,q3⟩
def Cv (te:TE) (g:TG):TS:=fun D σ H=>te σ H fun x H1=>g x σ H1 D.nx
theorem Cz {tg e:Qy} {te:TE} {g:TG} (he:PE X e te) (hg:PG X tg g) (hs:swapsWithSole [tg] e pos.line X.env=pure false:=by rfl) (hw:swappedStores [tg] e X.env=pure none:=by rfl)
  (h1:(assignEach [tg] X.env).map (·.2)=[assign tg X.env]:=by rfl):PS X (.Assign [tg] e pos) (Cv te g):=by
 intro pins s σ H D I h
 refine wpAny_Assign_stores (dB (he pins s σ H _ I h) fun v s1 ⟨x,H1,I1,r1,q1⟩=>?_) hs hw
 rw [h1]
 exact dB (hg pins s1 σ H1 x v _ I1 r1 q1) fun _ s2 q=>q
theorem BO {i:Nat} {x:Str} {e:Qy} {te:TE} {pos':Pos} (hN:X.N.Nodup) (hi:X.N[i]?=some x) (hx:Loc X.env.scope x) (he:PE X e te) (hs:swapsWith e (some (.Name x pos')) pos.line X.env=pure false:=by rfl) (hf:X.fn x=true\/X.env.scope.names.lookup x=some .local:=by first | exact .inl rfl | exact .inr rfl | assumption) :
  PS X (.Assign [.Name x pos'] e pos) (Cv te (tB i)):=by
 intro pins s σ H D I h
 refine wpAny_Assign_Name (dB (he pins s σ H _ I h) fun v s1 ⟨y,H1,I1,r1,q1⟩=>?_) hs
 exact qZ I1 hN hi hx r1 (fun s2 I2=>⟨_,H1,I2,q1⟩) hf
end


structure It where
 go:Nat->Hp->Prop
 yld:Nat->Hp->V->Hp->Prop
 stop:Nat->Hp->Prop
def sf (X:Cx) (pins:List (Qo×Obj)) (H:Hp) (b:Qo):Prop :=
 H b=none/\b≠X.env.locals/\b∉X.fs/\(b∈X.ex\/X.s₀.heap.objs.size<=b)/\(∀ x c,X.env.cells.lookup x=some c->c≠b)/\∀ p∈X.pn++pins,p.1≠b
theorem Inv.fpOk {X:Cx} {pins:List (Qo×Obj)} {σ:St} {H H':Hp} {s:Qu} {b:Qo} (I:Inv X pins σ H s) (hb:s.heap.objs.size<=b) (hn:H' b=none):sf X pins H' b:=by
 refine⟨hn,MN (MC I.lt hb),I.nofs hb,.inr (MF I.sz hb),fun x c e z=>?_,fun p hp z=>?_⟩
 ·obtain⟨v,q⟩:=I.cell x c e
  exact absurd (MC q.lt (by rw [z]; exact hb)) (MD _)
 ·exact absurd (MC (PJ (I.pin p hp).1) (by rw [z]; exact hb)) (MD _)
structure Turn (P:Qn) (w:Qm) (K:O2) (tg:Qy) (J:It) (fp:List Qo) (it:Qo) (tn:Nat->Qp->Prop):Prop where
 mem:it∈fp
 obj:∀ i h,tn i h->∀ b∈fp,∃ o,h.get? b=some o/\∀ v,o.data≠.cell v
 keep:∀ i h h',tn i h->(∀ b∈fp,∀ o,h.get? b=some o->h'.get? b=some o)->tn i h'
 item:∀ (X:Cx),X.prog=P->X.w=w->X.K=K->X.calm=true->∀ (i:Nat) (pins:List (Qo×Obj)) (s:Qu) (σ:St) (H:Hp) (E:Ql->Qu->Prop),Inv X pins σ H s->(∀ b∈fp,sf X pins H b)->tn i s.heap->J.go i H ->
  Qx (model P w) X.A (pyNext (.ref it)) (fun r s1=>∃ u,r=some u /\
   Qx (model P w) X.A (letOwnedTupleGo tg (.ref it) u) (fun _ s2=>∃ x H',Inv X pins σ H' s2/\RelV x u/\J.yld i H x H'/\tn (i+1) s2.heap/\∀ b∈fp,H' b=none) E s1) E s
 done:∀ (X:Cx),X.prog=P->X.w=w->X.K=K->X.calm=true->∀ (i:Nat) (pins:List (Qo×Obj)) (s:Qu) (σ:St) (H:Hp) (E:Ql->Qu->Prop),Inv X pins σ H s->(∀ b∈fp,sf X pins H b)->tn i s.heap->J.stop i H ->
  Qx (model P w) X.A (pyNext (.ref it)) (fun r s1=>r=none/\Inv X pins σ H s1) E s
 self:∀ (A:Qt) (i:Nat) (s:Qu) (Q:Ql->Qu->Prop) (E:Ql->Qu->Prop),tn i s.heap->Q (.ref it) s->Qx (model P w) A (pyIter (.ref it)) Q E s
abbrev TI:=St->Hp->(It->Hp->Prop)->Prop
def PIE (X:Cx) (pins:List (Qo×Obj)) (σ:St) (tg:Qy) (R:It->Hp->Prop) (itv:Ql) (s2:Qu):Prop :=
 ∃ (it:Qo) (fp:List Qo) (tn:Nat->Qp->Prop) (J:It) (H':Hp),itv=.ref it/\Inv X pins σ H' s2/\Turn X.prog X.w X.K tg J fp it tn/\tn 0 s2.heap/\(∀ b∈fp,sf X pins H' b)/\R J H'
def PI (X:Cx) (tg iter:Qy) (wi:TI):Prop :=
 ∀ (pins:List (Qo×Obj)) (s:Qu) (σ:St) (H:Hp) (R:It->Hp->Prop),Inv X pins σ H s->wi σ H R ->
  Qx (model X.prog X.w) X.A (eval iter X.env) (fun v s1=>Qx (model X.prog X.w) X.A (pyIter v) (PIE X pins σ tg R) X.xe s1) X.xe s

theorem BP {M:Qw} {A:Qt} {E:Ql->Qu->Prop} {s:Qu} {tg:Qy} {it:Qo} {u:Ql} {o:Obj} {n:String} {vs:Array Ql} {Q:Unit->Qu->Prop} (ho:s.heap.get? it=some o) (hc:o.cls=.type n) (hd:o.data=.fields vs)
    (hn:["enumerate","zip","dict_itemiterator","dict_reverseitemiterator","odict_iterator","itertools.zip_longest","itertools.pairwise"].contains n=false) (hQ:Q () s):Qx M A (letOwnedTupleGo tg (.ref it) u) Q E s:=by
  unfold letOwnedTupleGo
  cases tg <;> first
    | exact QG hQ
    | (cases u <;> first
        | exact QG hQ
        | (refine QD (wpAny_load ho ?_)
           rw [hc,hd]
           show Qx M A (if (["enumerate","zip","dict_itemiterator","dict_reverseitemiterator","odict_iterator","itertools.zip_longest","itertools.pairwise"].contains n && vs[0]?==some (rawInt _))=true then _ else _) Q E s
           rw [if_neg (by intro h; rw [hn,Bool.false_and] at h; cases h)]
           exact QG hQ))

def Km (K:O2) (a:Qo):It :=
 ⟨fun i H=>∃ xs x,mG K H a xs/\xs[i]?=some x,fun i H x H'=>H'=H/\∀ xs,mG K H a xs->xs[i]?=some x,fun i H=>∃ xs,mG K H a xs/\xs.length<=i⟩
def K9 (K:O2) (a:Qo):It :=
 ⟨fun i H=>∃ xs x,oR K H a xs/\xs[i]?=some x,fun i H x H'=>H'=H/\∀ xs,oR K H a xs->xs[i]?=some x,fun i H=>∃ xs,oR K H a xs/\xs.length<=i⟩
def JE (lo:Int) (n:Nat):It:=⟨fun i _=>i < n,fun i H x H'=>H'=H/\x=.int (lo+i),fun i _=>n<=i⟩
theorem zX {P:Qn} {w:Qm} {K:O2} {tg:Qy} (a it:Qo):Turn P w K tg (Km K a) [it] it (fun i h=>h.IsListIter it a i) where
 mem:=by simp
 obj:=fun i h st b hb=>by
  have e:b=it:=by simpa using hb
  subst e
  obtain⟨o,e,c,d⟩:=st
  exact⟨o,e,fun v z=>by rw [d] at z; cases z⟩
 keep:=fun i h h' st k=>st.at fun o e=>k it (by simp) o e
 item:=by
  intro X hP hw hK hc i pins s σ H E I hf st hg
  subst hP hw hK
  obtain⟨xs,x,hq,hx⟩:=hg
  obtain⟨its,rv,p,hz⟩:=I.list hq
  obtain⟨u,hu,ru⟩:=rv.get hx
  obtain⟨f0,f1,f2,f3,f4,f5⟩:=hf it (by simp)
  refine wpAny_pyNext_list_item st p.isList (x:=u) (by simpa using hu) fun h' st' sb=>?_
  have I1:Inv X pins σ H { s with heap:=h' }:=I.turned (t':=s.toks) (fun b o hb e=>(sb.2 b hb).trans e) f0 f1 f3 f4 f5
  obtain⟨o,e,c,d⟩:=id st'
  exact⟨u,rfl,BP (s:={ s with heap:=h' }) e c d (by decide) ⟨x,H,I1,ru,⟨rfl,fun ys hy=>by rw [I.list_inj hy hq]; exact hx⟩,st',fun b hb=>(hf b hb).1⟩⟩
 done:=by
  intro X hP hw hK hc i pins s σ H E I hf st hg
  subst hP hw hK
  obtain⟨xs,hq,hx⟩:=hg
  obtain⟨its,rv,p,hz⟩:=I.list hq
  obtain⟨f0,f1,f2,f3,f4,f5⟩:=hf it (by simp)
  have hl:=rv.length
  exact wpAny_pyNext_list_end (I.ok.hd hc) st p.isList (by simp; omega) fun h' eb=>⟨rfl,I.turned (t':=s.toks) (fun b o hb e=>eb b o hb e) f0 f1 f3 f4 f5⟩
 self:=fun _ _ _ _ _ st h=>wpAny_pyIter_listiter st h
theorem xU {P:Qn} {w:Qm} {K:O2} {tg:Qy} (a it:Qo):Turn P w K tg (K9 K a) [it] it (fun i h=>h.IsTupleIter it a i) where
 mem:=by simp
 obj:=fun i h st b hb=>by
  have e:b=it:=by simpa using hb
  subst e
  obtain⟨o,e,c,d⟩:=st
  exact⟨o,e,fun v z=>by rw [d] at z; cases z⟩
 keep:=fun i h h' st k=>st.at fun o e=>k it (by simp) o e
 item:=by
  intro X hP hw hK hc i pins s σ H E I hf st hg
  subst hP hw hK
  obtain⟨xs,x,hq,hx⟩:=hg
  obtain⟨its,rv,p,hz⟩:=I.tuple hq
  obtain⟨u,hu,ru⟩:=rv.get hx
  obtain⟨f0,f1,f2,f3,f4,f5⟩:=hf it (by simp)
  refine wpAny_pyNext_tuple_item st (show s.heap.IsTuple a its.toArray from p) (x:=u) (by simpa using hu) fun h' st' sb=>?_
  have I1:Inv X pins σ H { s with heap:=h' }:=I.turned (t':=s.toks) (fun b o hb e=>(sb.2 b hb).trans e) f0 f1 f3 f4 f5
  obtain⟨o,e,c,d⟩:=id st'
  exact⟨u,rfl,BP (s:={ s with heap:=h' }) e c d (by decide) ⟨x,H,I1,ru,⟨rfl,fun ys hy=>by rw [I.tuple_inj hy hq]; exact hx⟩,st',fun b hb=>(hf b hb).1⟩⟩
 done:=by
  intro X hP hw hK hc i pins s σ H E I hf st hg
  subst hP hw hK
  obtain⟨xs,hq,hx⟩:=hg
  obtain⟨its,rv,p,hz⟩:=I.tuple hq
  obtain⟨f0,f1,f2,f3,f4,f5⟩:=hf it (by simp)
  have hl:=rv.length
  exact wpAny_pyNext_tuple_end (I.ok.hd hc) st (show s.heap.IsTuple a its.toArray from p) (by simp; omega) fun h' eb=>⟨rfl,I.turned (t':=s.toks) (fun b o hb e=>eb b o hb e) f0 f1 f3 f4 f5⟩
 self:=fun _ _ _ _ _ st h=>wpAny_pyIter_tupleiter st h
theorem xI {P:Qn} {w:Qm} {K:O2} {tg:Qy} (it:Qo) (lo:Int) (n:Nat):Turn P w K tg (JE lo n) [it] it (fun i h=>IsRangeIter h it (lo+(i:Nat)*1) ((n:Int) - (i:Nat)) 1) where
 mem:=by simp
 obj:=fun i h st b hb=>by
  have e:b=it:=by simpa using hb
  subst e
  exact⟨_,st,fun v z=>by
   have z':Data.fields _=Data.cell v:=z
   cases z'⟩
 keep:=fun i h h' st k=>k it (by simp) _ st
 item:=by
  intro X hP hw hK hc i pins s σ H E I hf st hg
  subst hP hw hK
  obtain⟨f0,f1,f2,f3,f4,f5⟩:=hf it (by simp)
  have W:=Walks.range (prog:=X.prog) (w:=X.w) (I.ok.hd hc) it lo 1 n
  refine W.item i s _ _ hg st fun v h' tk hv st' kk=>?_
  obtain⟨t,rfl⟩:=hv
  have I1:Inv X pins σ H { s with heap:=h',toks:=tk }:=I.turned (fun b o hb e=>kk b o (by simpa using hb) e) f0 f1 f3 f4 f5
  refine⟨_,rfl,BP (s:={ s with heap:=h',toks:=tk }) (n := "range_iterator") st' rfl rfl (by decide) ⟨.int (lo+i),H,I1,⟨t,?_⟩,⟨rfl,rfl⟩,st',fun b hb=>(hf b hb).1⟩⟩
  rw [Int.mul_one]
 done:=by
  intro X hP hw hK hc i pins s σ H E I hf st hg
  subst hP hw hK
  obtain⟨f0,f1,f2,f3,f4,f5⟩:=hf it (by simp)
  exact wpAny_pyNext_range_end (I.ok.hd hc) st (by have:n<=i:=hg; omega) fun h' eb=>⟨rfl,I.turned (t':=s.toks) (fun b o hb e=>eb b o hb e) f0 f1 f3 f4 f5⟩
 self:=fun _ _ _ _ _ st h=>wpAny_pyIter_rangeiter st h
end L2

namespace L2
open PySem PySem.Spec PyProof.Rows
section
variable {X:Cx} {tg:Qy}
def Ja (K:O2) (tl:TE):TI:=fun σ H R=>tl σ H fun x H1=>∃ a,x=.ref a/\(∃ xs,mG K H1 a xs)/\R (Km K a) H1
def Ki (K:O2) (tl:TE):TI:=fun σ H R=>tl σ H fun x H1=>∃ a,x=.ref a/\(∃ xs,oR K H1 a xs)/\R (K9 K a) H1
theorem yx {l:Qy} {tl:TE} (hl:PE X l tl):PI X tg l (Ja X.K tl):=by
 intro pins s σ H R I h
 refine dB (hl pins s σ H _ I h) fun v s1 ⟨x,H1,I1,r1,q1⟩=>?_
 obtain⟨a,e,⟨xs,hq⟩,q⟩:=q1
 subst e
 cases r1
 obtain⟨its,rv,p,hz⟩:=I1.list hq
 refine QH p.isList ?_
 refine⟨s1.heap.objs.size,[s1.heap.objs.size],_,_,H1,rfl,I1.kept (t':=s1.toks) fun b o e=>PN _ e,zX a _,⟨_,PP _ rfl,rfl,rfl⟩,fun b hb=>?_,q⟩
 have e:b=s1.heap.objs.size:=by simpa using hb
 subst e
 exact I1.fpOk (MO _) (I1.hok.fresh (MO _))
theorem GO {l:Qy} {tl:TE} (hl:PE X l tl):PI X tg l (Ki X.K tl):=by
 intro pins s σ H R I h
 refine dB (hl pins s σ H _ I h) fun v s1 ⟨x,H1,I1,r1,q1⟩=>?_
 obtain⟨a,e,⟨xs,hq⟩,q⟩:=q1
 subst e
 cases r1
 obtain⟨its,rv,p,hz⟩:=I1.tuple hq
 refine wpAny_pyIter_tuple (show s1.heap.IsTuple a its.toArray from p) ?_
 refine⟨s1.heap.objs.size,[s1.heap.objs.size],_,_,H1,rfl,I1.kept (t':=s1.toks) fun b o e=>PN _ e,xU a _,⟨_,PP _ rfl,rfl,rfl⟩,fun b hb=>?_,q⟩
 have e:b=s1.heap.objs.size:=by simpa using hb
 subst e
 exact I1.fpOk (MO _) (I1.hok.fresh (MO _))
theorem Cu {pins:List (Qo×Obj)} {σ:St} {H:Hp} {s:Qu} {R:It->Hp->Prop} {E:Ql->Qu->Prop} {lo hi:Int} {t u v:Tok} {tk:Nat} (I:Inv X pins σ H s) (h1:-(2 ^ 62)<=lo) (h2:lo < 2 ^ 62) (h3:-(2 ^ 62)<=hi) (h4:hi < 2 ^ 62)
  (q:R (JE lo (hi - lo).toNat) H):Qx (model X.prog X.w) X.A (pyIter (.ref s.heap.objs.size)) (PIE X pins σ tg R) E { s with heap:=s.heap.push { cls:=.type "range",data:=.fields #[.int lo t,.int hi u,.int 1 v] },toks:=tk }:=by
 refine wpAny_pyIter_range (IsRange.new ..) (small_one h1 h2 h3 h4) ?_
 have I1:Inv X pins σ H { s with heap:=s.heap.push { cls:=.type "range",data:=.fields #[.int lo t,.int hi u,.int 1 v] },toks:=tk }:=I.kept fun b o e=>PN _ e
 refine⟨(s.heap.push { cls:=.type "range",data:=.fields #[.int lo t,.int hi u,.int 1 v] }).objs.size,[(s.heap.push { cls:=.type "range",data:=.fields #[.int lo t,.int hi u,.int 1 v] }).objs.size],_,_,H,rfl,
  I1.kept (t':=tk) fun b o e=>PN _ e,xI _ lo (hi - lo).toNat,?_,fun b hb=>?_,q⟩
 ·have e1:lo+((0:Nat):Int)*1=lo:=by simp
  have e2:(((hi - lo).toNat:Nat):Int) - ((0:Nat):Int)=Builtin.Range.rangeSize lo hi 1:=by rw [rangeSize_one]; split <;> omega
  show IsRangeIter _ _ (lo+((0:Nat):Int)*1) ((((hi - lo).toNat:Nat):Int) - ((0:Nat):Int)) 1
  rw [e1,e2]
  exact PP _ rfl
 ·have e:b=(s.heap.push { cls:=.type "range",data:=.fields #[.int lo t,.int hi u,.int 1 v] }).objs.size:=by simpa using hb
  subst e
  exact I1.fpOk (MO _) (I1.hok.fresh (MO _))
def IE (ta:TA):TI:=fun σ H R=>ta σ H fun vs H1=>∃ j:Int,vs=[.int j]/\-(2 ^ 62)<=j/\j < 2 ^ 62/\R (JE 0 j.toNat) H1
theorem A5 {a:Qy} {ta:TA} {p pos:Pos} (hg:Gl X "range") (hm:X.mg "range"=none) (ha:PA X [a] ta) (hs:Qz [a] X.env=[(false,eval a X.env)]:=by rfl):PI X tg (.Call (.Name "range" p) [a] [] pos) (IE ta):=by
 intro pins s σ H R I h
 refine Call_ (nv I hg hm boot_range (PY (dB (ha pos pins s σ H _ I h) fun us s1 ⟨vs,H1,I1,r1,q1⟩=>?_) hs rfl))
 obtain⟨j,e,q1,q2,q⟩:=q1
 subst e
 cases r1 with
 | cons r rr =>
  cases rr
  obtain⟨t,rfl⟩:=r
  exact call_range_1 (Cu I1 ‹0› ‹0› q1 q2 (by simpa using q))
def K5 (wi:TI) (g:TG) (tb:TS):TS:=fun D σ H=>wi σ H fun J H1=>∃ W:Nat->Nat->St->Hp->Prop,(∃ m,W 0 m σ H1)/\∀ i m σ H,W i m σ H ->
 (J.stop i H/\D.nx σ H)\/(J.go i H/\∃ N:St->Hp->Prop,(∀ σ' H',N σ' H'->∃ m',m' < m/\W (i+1) m' σ' H')/\∀ x H',J.yld i H x H'->g x σ H' fun σ2 H2=>tb { D with nx:=N,ct:=N,bk:=D.nx } σ2 H2)
def qS (fp:List Qo) (h:Qp):List (Qo×Obj):=fp.filterMap fun b=>(h.get? b).map fun o=>(b,o)
theorem j3 {fp:List Qo} {h:Qp} {b:Qo} {o:Obj} (hb:b∈fp) (e:h.get? b=some o):(b,o)∈qS fp h:=List.mem_filterMap.mpr ⟨b,hb,by rw [e]; rfl⟩
theorem AG {fp:List Qo} {h:Qp} {p:Qo×Obj} (hp:p∈qS fp h):p.1∈fp/\h.get? p.1=some p.2:=by
 obtain⟨b,hb,e⟩:=List.mem_filterMap.mp hp
 cases q:h.get? b with
 | none=>rw [q] at e; cases e
 | some o =>
  rw [q] at e
  have e':(b,o)=p:=Option.some.inj e
  subst e'
  exact⟨hb,q⟩
theorem Inv.pinned {pins:List (Qo×Obj)} {σ:St} {H:Hp} {s:Qu} {fp:List Qo} (I:Inv X pins σ H s) (hf:∀ b∈fp,sf X pins H b) (ho:∀ b∈fp,∃ o,s.heap.get? b=some o/\∀ v,o.data≠.cell v):Inv X (pins++qS fp s.heap) σ H s :=
 I.pins_of fun p hp=>(List.mem_append.mp hp).elim (fun z=>I.pin p (MP _ z)) fun z=>by
  obtain⟨hb,e⟩:=AG z
  obtain⟨f0,f1,f2,_⟩:=hf p.1 hb
  obtain⟨o,e',d⟩:=ho p.1 hb
  rw [e] at e'; cases e'
  exact⟨e,f0,f1,f2,d⟩
theorem Inv.unpinned {pins pl:List (Qo×Obj)} {σ:St} {H:Hp} {s:Qu} (I:Inv X (pins++pl) σ H s):Inv X pins σ H s:=I.pins_of fun p hp=>I.pin p (MP _ (MK _ hp))
theorem GJ {iter:Qy} {body:List QA} {wi:TI} {g:TG} {tb:TS} {pos:Pos} (hp:QI (model X.prog X.w) X.A X.env X.xe) (hc:X.calm=true) (hi:PI X tg iter wi) (hg:PG X tg g) (hb:vC X body tb)
  (hs:∀ x,QJ iter X.env x=pure x:=by intro _; rfl):PS X (.For tg iter body [] pos) (K5 wi g tb):=by
 intro pins s σ H D I h
 refine wpAny_For (dB (hi pins s σ H _ I h) fun v s1 h1=>dB h1 fun itv s2 h2=>?_) hs
 obtain⟨it,fp,tn,J,H2,e,I2,T,st2,f2,W,⟨m0,w0⟩,turn⟩:=h2
 subst e
 have stat:∀ {H':Hp},(∀ b∈fp,H' b=none)->∀ b∈fp,sf X pins H' b:=fun hn b hb=>⟨hn b hb,(f2 b hb).2⟩
 refine codeAny_forLoop_any (fun n s'=>∃ i σ' H',Inv X pins σ' H' s'/\tn i s'.heap/\(∀ b∈fp,H' b=none)/\W i n σ' H') ?_ m0 ⟨0,σ,H2,I2,st2,fun b hb=>(f2 b hb).1,w0⟩
 rintro n s3 ⟨i,σ3,H3,I3,st3,fr3,w3⟩
 rcases turn i n σ3 H3 w3 with ⟨stop,qn⟩ | ⟨go,N,hN,step⟩
 ·refine QK hp (dB (T.done X rfl rfl rfl hc i pins s3 σ3 H3 X.xe I3 (stat fr3) st3 stop) fun r s4 ⟨hr,I4⟩=>?_)
  subst hr
  exact QC ⟨σ3,H3,I4,qn⟩
 ·refine QK hp (dB (T.item X rfl rfl rfl hc i pins s3 σ3 H3 X.xe I3 (stat fr3) st3 go) fun r s4 ⟨u,hr,h4⟩=>?_)
  subst hr
  refine QK hp (dB h4 fun _ s5 ⟨x,H5,I5,r5,y5,st5,fr5⟩=>?_)
  have I5':=I5.pinned (stat fr5) (T.obj _ _ st5)
  refine QK hp (dB (hg _ s5 σ3 H5 x u _ I5' r5 (step x H5 y5)) fun _ s6 ⟨σ6,H6,I6,q6⟩=>?_)
  refine QK hp (dB (hb _ s6 σ6 H6 _ I6 q6) fun f s7 q7=>?_)
  have again:∀ {σ7:St} {H7:Hp},Inv X (pins++qS fp s5.heap) σ7 H7 s7->N σ7 H7->∃ m,m < n/\∃ i σ' H',Inv X pins σ' H' s7/\tn i s7.heap/\(∀ b∈fp,H' b=none)/\W i m σ' H':=fun {σ7 H7} I7 n7=>by
   obtain⟨m',hm,w7⟩:=hN σ7 H7 n7
   refine⟨m',hm,i+1,σ7,H7,I7.unpinned,T.keep _ _ _ st5 fun b hb o e=>(I7.pin (b,o) (MP _ (MP _ (j3 hb e)))).1,fun b hb=>?_,w7⟩
   obtain⟨o,e,d⟩:=T.obj _ _ st5 b hb
   exact(I7.pin (b,o) (MP _ (MP _ (j3 hb e)))).2.1
  cases f with
  | next=>obtain⟨σ7,H7,I7,n7⟩:=q7; exact again I7 n7
  | cont=>obtain⟨σ7,H7,I7,n7⟩:=q7; exact again I7 n7
  | brk=>obtain⟨σ7,H7,I7,q7⟩:=q7; exact⟨σ7,H7,I7.unpinned,q7⟩
  | ret v=>obtain⟨x7,σ7,H7,I7,r7,q7⟩:=q7; exact⟨x7,σ7,H7,I7.unpinned,r7,q7⟩
end

end L2

namespace L2
open PySem PySem.Spec PyProof.Rows

abbrev R2:=V->V->Hp->VK->Prop
def kD (X:Cx) (f:Ql->Ql->Sem Ql) (r:R2):Prop :=
 ∀ (pins:List (Qo×Obj)) (s:Qu) (σ:St) (H:Hp) (x y:V) (v u:Ql) (Q:VK),Inv X pins σ H s->RelV x v->RelV y u->r x y H Q ->
  Qx (model X.prog X.w) X.A (f v u) (EP X pins σ Q) X.xe s
def Kz (X:Cx) (f:Ql->Sem Ql) (r:V->Hp->VK->Prop):Prop :=
 ∀ (pins:List (Qo×Obj)) (s:Qu) (σ:St) (H:Hp) (x:V) (v:Ql) (Q:VK),Inv X pins σ H s->RelV x v->r x H Q ->
  Qx (model X.prog X.w) X.A (f v) (EP X pins σ Q) X.xe s
def eG (X:Cx) (f:Ql) (r:List V->Hp->VK->Prop):Prop :=
 ∀ (pins:List (Qo×Obj)) (s:Qu) (σ:St) (H:Hp) (xs:List V) (us:List Ql) (Q:VK),Inv X pins σ H s->Vals xs us->r xs H Q ->
  Qx (model X.prog X.w) X.A (call f us) (EP X pins σ Q) X.xe s
def KI (X:Cx) (r:V->Hp->(Bool->Hp->Prop)->Prop):Prop :=
 ∀ (pins:List (Qo×Obj)) (s:Qu) (σ:St) (H:Hp) (x:V) (v:Ql) (Q:Bool->Hp->Prop),Inv X pins σ H s->RelV x v->r x H Q ->
  Qx (model X.prog X.w) X.A (truthy v) (TP X pins σ Q) X.xe s

def HY (r:R2) (ta tb:TE):TE:=fun σ H Q=>ta σ H fun x H1=>tb σ H1 fun y H2=>r x y H2 Q
def Md (r:V->Hp->VK->Prop) (ta:TE):TE:=fun σ H Q=>ta σ H fun x H1=>r x H1 Q
def rI (C:Int->Int->Prop) (g:Int->Int->V):R2:=fun x y H Q=>∃ i j,x=.int i/\y=.int j/\C i j/\Q (g i j) H
def AX (g:Int->Int->V):R2:=fun x y H Q=>∃ i j,x=.int i/\y=.int j/\Q (g i j) H
def rU (g:Int->V):V->Hp->VK->Prop:=fun x H Q=>∃ i,x=.int i/\Q (g i) H

section
variable {X:Cx} {a b c:Qy} {ta tb tc:TE} {pos:Pos}

theorem FP (ha:PE X a ta) (hb:PE X b tb) {pins:List (Qo×Obj)} {s:Qu} {σ:St} {H:Hp} {R:V->V->Hp->Prop} (I:Inv X pins σ H s)
  (h:ta σ H fun x H1=>tb σ H1 fun y H2=>R x y H2) {Q:Ql->Qu->Prop} {f:Ql->Ql->Sem Ql}
  (hf:∀ v u s2 x y H2,Inv X pins σ H2 s2->RelV x v->RelV y u->R x y H2->Qx (model X.prog X.w) X.A (f v u) Q X.xe s2) :
  Qx (model X.prog X.w) X.A (eval a X.env) (fun v s₁=>Qx (model X.prog X.w) X.A (eval b X.env) (fun u s₂=>Qx (model X.prog X.w) X.A (f v u) Q X.xe s₂) X.xe s₁) X.xe s:=by
 refine dB (ha pins s σ H _ I h) fun v s1 ⟨x,H1,I1,r1,q1⟩=>?_
 refine dB (hb pins s1 σ H1 _ I1 q1) fun u s2 ⟨y,H2,I2,r2,q2⟩=>?_
 exact hf v u s2 x y H2 I2 r1 r2 q2

theorem Fc {op:Operator} {r:R2} (ho:kD X (QL op) r) (ha:PE X a ta) (hb:PE X b tb):PE X (.BinOp a op b pos) (HY r ta tb):=by
 intro pins s σ H Q I h
 exact wpAny_BinOp (FP ha hb I h fun v u s2 x y H2 I2 rx ry q=>ho pins s2 σ H2 x y v u Q I2 rx ry q)
theorem Iu {op:UnaryOp} {r:V->Hp->VK->Prop} (ho:Kz X (unaryOp op) r) (ha:PE X a ta):PE X (.UnaryOp op a pos) (Md r ta):=by
 intro pins s σ H Q I h
 exact UnaryOp_ (dB (ha pins s σ H _ I h) fun v s1 ⟨x,H1,I1,r1,q1⟩=>ho pins s1 σ H1 x v Q I1 r1 q1)
theorem HQ {f:Ql->Ql->Sem Ql} {C:Int->Int->Prop} {g:Int->Int->Int}
  (rule:∀ (i j:Int) (t u:Tok) (s:Qu) (Q:Ql->Qu->Prop) (E:Ql->Qu->Prop),C i j->Q (.int (g i j) s.toks) { s with toks:=s.toks+1 }->Qx (model X.prog X.w) X.A (f (.int i t) (.int j u)) Q E s) :
  kD X f (rI C fun i j=>.int (g i j)):=by
 intro pins s σ H x y v u Q I rx ry h
 obtain⟨i,j,rfl,rfl,hc,q⟩:=h
 obtain⟨t,rfl⟩:=rx
 obtain⟨t',rfl⟩:=ry
 exact rule i j t t' s _ _ hc ⟨.int (g i j),H,I.tok _,⟨_,rfl⟩,q⟩
theorem Gk {f:Ql->Ql->Sem Ql} {g:Int->Int->Int}
  (rule:∀ (i j:Int) (t u:Tok) (s:Qu) (Q:Ql->Qu->Prop) (E:Ql->Qu->Prop),Q (.int (g i j) s.toks) { s with toks:=s.toks+1 }->Qx (model X.prog X.w) X.A (f (.int i t) (.int j u)) Q E s) :
  kD X f (AX fun i j=>.int (g i j)):=by
 intro pins s σ H x y v u Q I rx ry h
 obtain⟨i,j,rfl,rfl,q⟩:=h
 obtain⟨t,rfl⟩:=rx
 obtain⟨t',rfl⟩:=ry
 exact rule i j t t' s _ _ ⟨.int (g i j),H,I.tok _,⟨_,rfl⟩,q⟩
theorem DX {f:Ql->Ql->Sem Ql} {g:Int->Int->Bool}
  (rule:∀ (i j:Int) (t u:Tok) (s:Qu) (Q:Ql->Qu->Prop) (E:Ql->Qu->Prop),Q (.bool (g i j)) s->Qx (model X.prog X.w) X.A (f (.int i t) (.int j u)) Q E s) :
  kD X f (AX fun i j=>.bl (g i j)):=by
 intro pins s σ H x y v u Q I rx ry h
 obtain⟨i,j,rfl,rfl,q⟩:=h
 obtain⟨t,rfl⟩:=rx
 obtain⟨t',rfl⟩:=ry
 exact rule i j t t' s _ _ ⟨.bl (g i j),H,I,rfl,q⟩

def IJ (i j:Int):Prop:=0<=j/\j<=1000000/\i.natAbs < 2 ^ 64
def Gi (i j:Int):Prop:=(-(2 ^ 64) < i/\i < 2 ^ 64)\/(-(2 ^ 64) < j/\j < 2 ^ 64)
theorem Gi.ok {i j:Int} (h:Gi i j):IntMulOk i j:=by
 rcases h with ⟨h1,h2⟩ | ⟨h1,h2⟩
 ·exact .of_left (intBits_le_64 h1 h2)
 ·exact .of_right (intBits_le_64 h1 h2)
theorem xG (k:Nat):(0:Int)<=2 ^ k:=by
 rw [two_pow_cast]
 exact Int.natCast_nonneg _

theorem FJ:kD X (QL .Add) (AX fun i j=>.int (i+j)):=Gk fun _ _ _ _ _ _ _ q=>add_int q
theorem uJ:kD X (QL .Sub) (AX fun i j=>.int (i - j)):=Gk fun _ _ _ _ _ _ _ q=>sub_int q
theorem iO:kD X (QL .Mult) (rI Gi fun i j=>.int (i*j)):=HQ fun _ _ _ _ _ _ _ hc q=>mul_int q hc.ok
theorem aY:kD X (QL .Mod) (rI (fun _ j=>0 < j) fun i j=>.int (i%j)):=HQ fun i j _ _ _ _ _ hc q=>by
 have h1:(0:Int) < j:=hc
 exact mod_int' ‹0› (by rw [Int.fmod_eq_emod_of_nonneg i ‹0›]; exact q)
theorem hX:kD X (QL .Pow) (rI IJ fun i j=>.int (i ^ j.toNat)):=HQ fun _ _ _ _ _ _ _ hc q=>pow_int_small hc.1 hc.2.1 hc.2.2 q
theorem yg:kD X (QL .RShift) (rI (fun _ j=>0<=j) fun i j=>.int (i / 2 ^ j.toNat)):=HQ fun i j _ _ _ _ _ hc q =>
 rshift_int hc (by rw [MQ i (xG _)]; exact q)
theorem xP:kD X (QL .BitAnd) (AX fun i j=>.int (Builtin.bitAnd i j)):=Gk fun _ _ _ _ _ _ _ q=>and_int q
theorem MA {f:Ql->Sem Ql} {g:Int->Int}
  (rule:∀ (i:Int) (t:Tok) (s:Qu) (Q:Ql->Qu->Prop) (E:Ql->Qu->Prop),Q (.int (g i) s.toks) { s with toks:=s.toks+1 }->Qx (model X.prog X.w) X.A (f (.int i t)) Q E s) :
  Kz X f (rU fun i=>.int (g i)):=by
 intro pins s σ H x v Q I rx h
 obtain⟨i,rfl,q⟩:=h
 obtain⟨t,rfl⟩:=rx
 exact rule i t s _ _ ⟨.int (g i),H,I.tok _,⟨_,rfl⟩,q⟩
theorem FQ:Kz X (unaryOp .USub) (rU fun i=>.int (-i)):=MA fun _ _ _ _ _ q=>neg_int q
end

section
variable {X:Cx} {a b c:Qy} {ta tb tc:TE} {pos:Pos}
theorem Cw {pins:List (Qo×Obj)} {σ:St} {H:Hp} {s:Qu} {Q:VK} {k k':Bool} (I:Inv X pins σ H s) (q:Q (.bl k) H) (e:k=k'):EP X pins σ Q (.bool k') s:=by
 subst e
 exact⟨.bl k,H,I,rfl,q⟩
theorem Ic:kD X (QM .Lt) (AX fun i j=>.bl (decide (i < j))):=DX fun _ _ _ _ _ _ _ q=>lt_int q
theorem Bl:kD X (QM .LtE) (AX fun i j=>.bl (decide (i<=j))):=DX fun _ _ _ _ _ _ _ q=>le_int q
theorem rm:kD X (QM .Gt) (AX fun i j=>.bl (decide (j < i))):=DX fun _ _ _ _ _ _ _ q=>gt_int q
theorem EK:kD X (QM .GtE) (AX fun i j=>.bl (decide (j<=i))):=DX fun _ _ _ _ _ _ _ q=>ge_int q
theorem zN:kD X (QM .Lt) (fun x y H Q=>∃ i j,x=.str i/\y=.str j/\Q (.bl (decide (i.cps.toList < j.cps.toList))) H):=by
 intro pins s σ H x y v u Q I rx ry h
 obtain⟨i,j,rfl,rfl,q⟩:=h
 obtain⟨t,rfl⟩:=rx
 obtain⟨t',rfl⟩:=ry
 exact lt_str (Cw I q rfl)
theorem aU (b:Qy) {op:CmpOp} (h:op≠.In:=by decide) (h2:op≠.NotIn:=by decide):QN op b=false:=by
 have e1:(op==CmpOp.In)=false:=by cases op <;> first | rfl | exact absurd rfl h
 have e2:(op==CmpOp.NotIn)=false:=by cases op <;> first | rfl | exact absurd rfl h2
 cases b <;> simp [QN,e1,e2]
theorem Et {op:CmpOp} {r:R2} (ho:kD X (QM op) r) (ha:PE X a ta) (hb:PE X b tb) (hm:QN op b=false):PE X (.Compare a [op] [b] pos) (HY r ta tb):=by
 intro pins s σ H Q I h
 exact wpAny_Compare1 (FP ha hb I h fun v u s2 x y H2 I2 rx ry q=>ho pins s2 σ H2 x y v u Q I2 rx ry q) hm
def Fd (t:TE):TT:=fun σ H Q=>t σ H fun x H'=>∃ k,x=.bl k/\Q k H'
theorem Ep {op:CmpOp} {r:R2} (ho:kD X (QM op) r) (ha:PE X a ta) (hb:PE X b tb) (hm:QN op b=false):PT X (.Compare a [op] [b] pos) (Fd (HY r ta tb)):=by
 intro pins s σ H Q I h
 refine wpAny_isTrue_Compare1 (dB (ha pins s σ H _ I h) fun v s1 ⟨x,H1,I1,r1,q1⟩=>dB (hb pins s1 σ H1 _ I1 q1) fun u s2 ⟨y,H2,I2,r2,q2⟩ =>
  dB (ho pins s2 σ H2 x y v u _ I2 r1 r2 q2) fun c s3 ⟨z,H3,I3,r3,k,e,q3⟩=>?_) hm
 subst e
 cases r3
 exact QO ⟨H3,I3,q3⟩
def HJ (K:O2) (x:V) (H:Hp) (k:Bool):Prop :=
 match x with
 | .non=>k=false
 | .bl b=>k=b
 | .int i=>k=(i != 0)
 | .str y=>y.length<=Qq/\k=((y.length:Int) != 0)
 | .byt y=>y.size<=Qq/\k=((y.size:Int) != 0)
 | .ref p=>(∃ xs,mG K H p xs/\k=!xs.isEmpty)\/(∃ xs,oR K H p xs/\k=!xs.isEmpty)\/∃ kvs,H p=some (.dK kvs)/\k=!kvs.isEmpty
 | _=>False
theorem xT {κ:Type} {kvs:List (κ×V)} {vs:List (κ×Ql)} (r:KV kvs vs):(!vs.isEmpty)=!kvs.isEmpty:=by
 cases r <;> rfl
theorem qV {xs:List V} {its:List Ql} (r:Vals xs its):(!its.toArray.isEmpty)=!xs.isEmpty:=by
 cases r <;> simp
theorem ng:(Qq:Nat) < 2 ^ 63:=by rw [QP]; decide
theorem GZ:KI X (fun x H Q=>∃ k,HJ X.K x H k/\Q k H):=by
 intro pins s σ H x v Q I rx h
 obtain⟨k,e,q⟩:=h
 have hl:=ng
 have hs:Qq=16777216:=QP
 cases x with
 | non =>
  cases rx
  have e':k=false:=e
  subst e'
  exact truthy_none ⟨H,I,q⟩
 | bl b =>
  cases rx
  have e':k=b:=e
  subst e'
  exact QO ⟨H,I,q⟩
 | int i =>
  obtain⟨t,rfl⟩:=rx
  have e':k=(i != 0):=e
  subst e'
  exact PySem.P.truthy_int ⟨H,I,q⟩
 | str y =>
  obtain⟨t,rfl⟩:=rx
  obtain⟨hy,e'⟩:y.length<=Qq/\k=((y.length:Int) != 0):=e
  subst e'
  exact PySem.P.truthy_str ‹0› ⟨H,I.tok _,q⟩
 | byt y =>
  obtain⟨t,rfl⟩:=rx
  obtain⟨hy,e'⟩:y.size<=Qq/\k=((y.size:Int) != 0):=e
  subst e'
  exact PySem.W.truthy_bytes ‹0› ⟨H,I.tok _,q⟩
 | ref p =>
  cases rx
  have e':(∃ xs,mG X.K H p xs/\k=!xs.isEmpty)\/(∃ xs,oR X.K H p xs/\k=!xs.isEmpty)\/∃ kvs,H p=some (.dK kvs)/\k=!kvs.isEmpty:=e
  rcases e' with ⟨xs,hx,e'⟩ | ⟨xs,hx,e'⟩ | ⟨kvs,hx,e'⟩
  ·subst e'
   obtain⟨its,r,pl,hz⟩:=I.list hx
   have hlen:=r.length
   exact wpAny_truthy_list pl.isList (by simp only [MR]; omega) ⟨H,I.tok _,by rw [qV r]; exact q⟩
  ·subst e'
   obtain⟨its,r,pl,hz⟩:=I.tuple hx
   have hlen:=r.length
   exact truthy_tuple pl (by simp only [MR]; omega) ⟨H,I.tok _,by rw [qV r]; exact q⟩
  ·subst e'
   obtain⟨hz,hS,vs,r,m⟩:kvs.length<=Qq/\(p==sysModules)=false/\∃ vs,KV kvs vs/\s.heap.DictOf (de X.prog X.w) p vs:=I.hok p _ hx
   have hlen:kvs.length=vs.length:=Paired.length r
   exact wpAny_truthy_dict hS m ‹0› ⟨H,I.tok _,by rw [xT r]; exact q⟩
 | _=>exact(show False from e).elim
theorem C9 (ha:PE X a ta) (he:∀ whole,isTrue a X.env whole=(do let v <- whole; standAt a.pos; holding [v] (truthy v))) :
  PT X a (fun σ H Q=>ta σ H fun x H'=>∃ k,HJ X.K x H' k/\Q k H'):=by
 intro pins s σ H Q I h
 exact isTrue_plain (dB (ha pins s σ H _ I h) fun v s1 ⟨x,H1,I1,r1,q1⟩=>GZ pins s1 σ H1 x v Q I1 r1 q1) (he _)

theorem yo:kD X (QL .Add) (fun x y H Q=>∃ i j,x=.str i/\y=.str j/\i.length+j.length<=Qq/\Q (.str (i++j)) H):=by
 intro pins s σ H x y v u Q I rx ry h
 obtain⟨i,j,rfl,rfl,hz,q⟩:=h
 obtain⟨t,rfl⟩:=rx
 obtain⟨t',rfl⟩:=ry
 exact add_str (fun t' tk=>⟨.str (i++j),H,I.tok _,⟨_,rfl⟩,q⟩) hz
theorem vals1 {x:V} {us:List Ql} (r:Vals [x] us):∃ u,us=[u]/\RelV x u:=by
 cases r with
 | cons r1 r2=>cases r2; exact⟨_,rfl,r1⟩
theorem vals2 {x y:V} {us:List Ql} (r:Vals [x,y] us):∃ u w',us=[u,w']/\RelV x u/\RelV y w':=by
 cases r with
 | cons r1 r2 =>
  cases r2 with
  | cons r3 r4=>cases r4; exact⟨_,_,rfl,r1,r3⟩
theorem AF (hc:X.calm=true):eG X (.builtin "max") (fun xs H Q=>∃ i j,xs=[.int i,.int j]/\Q (.int (if j > i then j else i)) H):=by
 intro pins s σ H xs us Q I r h
 obtain⟨i,j,rfl,q⟩:=h
 obtain⟨u,w',rfl,⟨t,rfl⟩,⟨t',rfl⟩⟩:=vals2 r
 refine max_two_ints (I.ok.hd hc) fun h' tk k=>⟨_,H,I.kept k,?_,q⟩
 by_cases hj:j > i
 ·rw [if_pos hj,if_pos hj]; exact⟨_,rfl⟩
 ·rw [if_neg hj,if_neg hj]; exact⟨_,rfl⟩
theorem AV (hc:X.calm=true):eG X (.builtin "min") (fun xs H Q=>∃ i j,xs=[.int i,.int j]/\Q (.int (if j < i then j else i)) H):=by
 intro pins s σ H xs us Q I r h
 obtain⟨i,j,rfl,q⟩:=h
 obtain⟨u,w',rfl,⟨t,rfl⟩,⟨t',rfl⟩⟩:=vals2 r
 refine min_two_ints (I.ok.hd hc) fun h' tk k=>⟨_,H,I.kept k,?_,q⟩
 by_cases hj:j < i
 ·rw [if_pos hj,if_pos hj]; exact⟨_,rfl⟩
 ·rw [if_neg hj,if_neg hj]; exact⟨_,rfl⟩
theorem tQ:eG X (.type "int") (fun xs H Q=>(∃ i,xs=[.int i]/\Q (.int i) H)\/∃ k,xs=[.bl k]/\Q (.int (if k then 1 else 0)) H):=by
 intro pins s σ H xs us Q I r h
 rcases h with ⟨i,rfl,q⟩ | ⟨k,rfl,q⟩
 ·obtain⟨u,rfl,t,rfl⟩:=vals1 r
  exact call_int_int ⟨.int i,H,I,⟨_,rfl⟩,q⟩
 ·obtain⟨u,rfl,r1⟩:=vals1 r
  cases r1
  exact call_int_bool ⟨.int (if k then 1 else 0),H,I.tok _,⟨_,rfl⟩,q⟩
end
end L2

namespace L2
open PySem PySem.Spec PyProof.Rows

structure Ac (h:Qp) (x dx C:Qo) (mA:Str->Option Ql):Prop where
 obj:h.get? x=some (OZ C dx)
 ns:h.Ns1 dx mA
 ne:dx≠x

theorem Ah {h:Qp} {dx:Qo} {mA:Str->Option Ql} (n:h.Ns1 dx mA):∃ od,h.get? dx=some od/\∀ name,O3 name od=some (mA name):=by
 obtain⟨o,es,ep,ho,hd,hk,_,hm⟩:=n
 refine⟨o,ho,fun name=>?_⟩
 have e:=hm name
 unfold nsFind findBy at e
 rw [<- Array.find?_toList] at e
 unfold O3
 rw [hd]
 dsimp only
 split
 ·rename_i y q
  rw [q] at e
  exact congrArg some e
 ·rename_i q
  rw [q] at e
  have a:es.toList.any (·.refKey)=false:=by
   rw [List.any_eq_false]
   intro y hy
   obtain⟨z,t,hkey⟩:=hk y (Array.mem_toList_iff.mp hy)
   simp [DictEntry.refKey,hkey]
  have a':¬ es.toList.any (·.refKey)=true:=by rw [a]; exact MS
  rw [if_neg a']
  exact congrArg some e

theorem Ac.look {h:Qp} {x dx C:Qo} {mA:Str->Option Ql} (I:Ac h x dx C mA):∃ od,PySem.W.InstAt h x (OZ C dx) C (some od)/\∀ name,O3 name od=some (mA name) :=
 let ⟨od,ho,hl⟩:=Ah I.ns
 ⟨od,⟨I.obj,rfl,rfl,ho⟩,hl⟩

section
variable {prog:Qn} {w:Qm} {A:Qt} {E:Ql->Qu->Prop} {s:Qu} {K:O2} {x dx C f:Qo} {mA:Str->Option Ql} {name:Str} {v:Ql}

theorem Eh {expr:Bool} {Q:Ql->Qu->Prop} (X:K.In s.heap) (I:Ac s.heap x dx C mA) (hg:O5 K C name=true) (hh:O6 K C=true)
  (ha:O7 K (.ref C) name=some none) (hv:mA name=some v) (hv':O8 v=true) (h:Q v { s with toks:=s.toks+1 }) :
  Qx (model prog w) A (getAttr (.ref x) name expr) Q E s:=by
 obtain⟨od,J,hl⟩:=I.look
 exact PySem.W.get_value X J (O9 hg).1 (PySem.W.findObj_own hh ha rfl (by rw [hl,hv])) hv' h

theorem CN {pl:Sem Bool} {Q:Ql×List Ql->Qu->Prop} (X:K.In s.heap) (I:Ac s.heap x dx C mA) (hg:O5 K C name=true)
  (hf:O7 K (.ref C) name=some (some (.ref f))) (ht:Pa K (.ref f)=true) (hv:mA name=none) (h:Q (.ref f,[.ref x]) s) :
  Qx (model prog w) A (getMethod (.ref x) name pl) Q E s:=by
 obtain⟨od,J,hl⟩:=I.look
 exact PySem.W.method_fn X J (O9 hg).1 (O9 hg).2 hf (beq_iff_eq.mp ht) (by show (O3 name od).map (·.isSome)=some false; rw [hl,hv]; rfl) h

theorem Dv {ns:List Str} {Q:Unit->Qu->Prop} (X:K.In s.heap) (I:Ac s.heap x dx C mA)
  (hs:O7 K (.ref C) "__setattr__"=some (some (.builtin "object.__setattr__"))) (hp:Pb K C=true) (ht:Pg K C name=some none) (hh:O6 K C=true)
  (hw:PySem.Within mA ns) (hsz:ns.length<=Qq)
  (h:∀ h',Ac h' x dx C (fun y=>if y=name then some v else mA y)->PL dx s.heap h'->Q () { s with heap:=h',toks:=s.toks+2 }) :
  Qx (model prog w) A (setAttr (.ref x) name v) Q E s:=by
 obtain⟨od,J,hl⟩:=I.look
 refine PySem.W.set_plain X J hs (PySem.W.osa_open (s:={ s with toks:=s.toks+1 }) (r:=none) X J hp ht fun b=>?_)
 obtain⟨cd,hc,hd'⟩:=PySem.W.any_some hh
 have hx:s.heap.get? x=some ⟨.ref C,some dx,.plain,#[]⟩:=I.obj
 refine QD (QG (QD (QD (wpAny_loadPart hx (QD (PySem.W.Looks.here (s:={ s with toks:=s.toks+1 }) (PySem.W.looks_clsIn X hc) ?_))))))
 rw [hd']
 refine QG (a:=some dx) (QD (QG (QD ?_)))
 refine wpAny_nsSet1 (s:={ s with toks:=s.toks+1 }) I.ns fun h' hn2 hs2=>?_
 obtain⟨oD,esD,epD,hoD,hdD,hcD⟩:=hn2.count (PySem.Within.cons name v hw)
 refine QD (wpAny_lookBehind hoD (by rw [hdD]; exact pastItsLine_dict (MF hcD (by rw [MT]; omega))) ?_)
 exact QG (h _ ⟨(hs2.2 _ (Ne.symm I.ne)).trans I.obj,hn2,I.ne⟩ hs2)

theorem Dj {R:QQ->Qu->Prop} {vs:List Ql} {kw:List (Str×Ql)} (X:K.In s.heap) (hm:Ph K C=true)
  (hi:O7 K (.ref C) "__init__"=some (some (.ref f))) (hf:Pj K (.ref f)=some (.type "function"))
  (h:QR (model prog w) (A.under (.builtin "type.__call__" ⟨.ref C::vs,kw⟩)) (.call (.ref f) ⟨.ref (s.heap.objs.size+1)::vs,kw⟩) (PySem.W.InitBack (s.heap.objs.size+1) R)
   { s with heap:=(s.heap.push Pk).push (OZ C s.heap.objs.size) }) :
  QR (model prog w) A (.call (.ref C) ⟨vs,kw⟩) R s:=by
 obtain⟨hh,g,d,t,os⟩:=s
 exact PySem.W.make_core (PySem.W.makes_of X hm) (PySem.W.looks_findIn X hi) (fun self=>PySem.W.bind_fn X self hf) (.inl rfl) h
end

def kz (f:Str) (v:V):List (Str×V)->List (Str×V)
 | []=>[(f,v)]
 | (g,x)::r=>if g=f then (g,v)::r else (g,x)::kz f v r
theorem pM (f g:Str) (v:V):∀ fs:List (Str×V),(kz f v fs).lookup g=if g=f then some v else fs.lookup g
 | []=>by
  show List.lookup g [(f,v)]=_
  by_cases h:g=f
  ·have hb:(g==f)=true:=beq_iff_eq.mpr h
   simp only [List.lookup,hb,if_pos h]
  ·have hb:(g==f)=false:=beq_eq_false_iff_ne.mpr h
   simp only [List.lookup,hb,if_neg h]
 | (k,x)::r=>by
  have ih:=pM f g v r
  rw [show kz f v ((k,x)::r)=(if k=f then (k,v)::r else (k,x)::kz f v r) from rfl]
  by_cases hk:k=f
  ·rw [if_pos hk]
   by_cases h:g=k
   ·have hb:(g==k)=true:=beq_iff_eq.mpr h
    simp only [List.lookup,hb,if_pos (h.trans hk)]
   ·have hb:(g==k)=false:=beq_eq_false_iff_ne.mpr h
    simp only [List.lookup,hb,if_neg (fun e:g=f=>h (e.trans hk.symm))]
  ·rw [if_neg hk]
   by_cases h:g=k
   ·have hb:(g==k)=true:=beq_iff_eq.mpr h
    simp only [List.lookup,hb,if_neg (fun e:g=f=>hk (h.symm.trans e))]
   ·have hb:(g==k)=false:=beq_eq_false_iff_ne.mpr h
    simp only [List.lookup,hb]
    exact ih
theorem oJ (f:Str) (v:V):∀ fs:List (Str×V),f∈(kz f v fs).map (·.1)/\∀ g,g∈fs.map (·.1)->g∈(kz f v fs).map (·.1)
 | []=>⟨by simp [kz],fun g h=>by simp at h⟩
 | (k,x)::r=>by
  obtain⟨i1,i2⟩:=oJ f v r
  rw [show kz f v ((k,x)::r)=(if k=f then (k,v)::r else (k,x)::kz f v r) from rfl]
  by_cases hk:k=f
  ·rw [if_pos hk]
   subst hk
   exact⟨by simp,fun g h=>by simpa using h⟩
  ·rw [if_neg hk]
   refine⟨?_,fun g h=>?_⟩
   ·rw [MU]
    exact MJ _ i1
   ·rw [MU] at h ⊢
    rcases List.mem_cons.mp h with e | e
    ·exact List.mem_cons.mpr (.inl e)
    ·exact MJ _ (i2 g e)
theorem pS (f:Str) (v:V):∀ fs:List (Str×V),(kz f v fs).length<=fs.length+1
 | []=>by simp [kz]
 | (k,x)::r=>by
  have ih:=pS f v r
  rw [show kz f v ((k,x)::r)=(if k=f then (k,v)::r else (k,x)::kz f v r) from rfl]
  by_cases hk:k=f
  ·rw [if_pos hk,MT,MT]; omega
  ·rw [if_neg hk,MT,MT]; omega

theorem wG.some_of {v:V} {o:Option Ql} (r:wG (some v) o):∃ u,o=some u/\RelV v u:=by
 cases o with
 | none=>exact(show False from r).elim
 | some u=>exact⟨u,rfl,r⟩
theorem wG.none_of {o:Option Ql} (r:wG none o):o=none:=by
 cases o with
 | none=>rfl
 | some u=>exact(show False from r).elim
theorem Ad {v:V} {u:Ql} (r:RelV v u):O8 u=true:=by
 cases v with
 | non=>cases (show u=Value.none from r); rfl
 | bl b=>cases (show u=Value.bool b from r); rfl
 | int i=>obtain⟨t,e⟩:=(show ∃ t,u=Value.int i t from r); cases e; rfl
 | str x=>obtain⟨t,e⟩:=(show ∃ t,u=Value.str x t from r); cases e; rfl
 | byt b=>obtain⟨t,e⟩:=(show ∃ t,u=Value.bytes b t from r); cases e; rfl
 | flt b=>obtain⟨t,e⟩:=(show ∃ t,u=Value.float b t from r); cases e; rfl
 | ref a=>cases (show u=Value.ref a from r); rfl
 | ty n=>cases (show u=Value.type n from r); rfl

section
variable {P:Qn} {w:Qm} {H H':Hp} {h h':Qp} {a C dx:Qo} {fs fs':List (Str×V)}
theorem vz (hok:pj P w H h) (e:H a=some (.ins C dx fs)):∃ mA,Ac h a dx C mA/\(∀ f,wG (fs.lookup f) (mA f))/\PySem.Within mA (fs.map (·.1))/\fs.length<=1000/\H dx=some (.own a):=by
 obtain⟨d,z,ne,ob,mA,n,r,q⟩:=(show dg P w H h a (.ins C dx fs) from hok a _ e)
 exact⟨mA,⟨ob,n,ne⟩,r,q,z,d⟩
end

structure yi (K:O2) (C:Qo):Prop where
 pg:O5 K C Str.empty=true
 hd:O6 K C=true
 po:Pb K C=true
 sa:O7 K (.ref C) "__setattr__"=some (some (.builtin "object.__setattr__"))
theorem yi.get {K:O2} {C:Qo} (c:yi K C) (f:Str):O5 K C f=true:=c.pg
def kn (K:O2) (C:Qo) (f:Str):Prop:=O7 K (.ref C) f=some none
theorem kn.taker {K:O2} {C:Qo} {f:Str} (n:kn K C f):Pg K C f=some none:=by
 unfold Pg
 rw [show O7 K (.ref C) f=some none from n]
 rfl
structure Meth (K:O2) (C:Qo) (m:Str) (f:Qo):Prop where
 at_:O7 K (.ref C) m=some (some (.ref f))
 fn:Pa K (.ref f)=true
 kp:Pl K (.ref f)=true

section
variable {X:Cx} {pins:List (Qo×Obj)} {σ:St} {H:Hp} {s:Qu} {a C dx:Qo} {fs:List (Str×V)} {f:Str} {v:V} {A:Qt} {E:Ql->Qu->Prop}

theorem xN {b:Bool} {Q:Ql->Qu->Prop} (I:Inv X pins σ H s) (e:H a=some (.ins C dx fs)) (c:yi X.K C) (n:kn X.K C f) (l:fs.lookup f=some v)
  (h:∀ u s',Inv X pins σ H s'->RelV v u->Q u s'):Qx (model X.prog X.w) A (getAttr (.ref a) f b) Q E s:=by
 obtain⟨mA,O,r,_,_,_⟩:=vz I.hok e
 obtain⟨u,hu,ru⟩:=wG.some_of (v:=v) (o:=mA f) (by rw [<- l]; exact r f)
 exact Eh I.kIn O (c.get f) c.hd n hu (Ad ru) (h u _ (I.tok _) ru)

theorem yj {m:Str} {g:Qo} {pl:Sem Bool} {Q:Ql×List Ql->Qu->Prop} (I:Inv X pins σ H s) (e:H a=some (.ins C dx fs)) (c:yi X.K C) (k:Meth X.K C m g) (l:fs.lookup m=none)
  (h:Q (.ref g,[.ref a]) s):Qx (model X.prog X.w) A (getMethod (.ref a) m pl) Q E s:=by
 obtain⟨mA,O,r,_,_,_⟩:=vz I.hok e
 have hn:mA m=none:=wG.none_of (by rw [<- l]; exact r m)
 exact CN I.kIn O (c.get m) k.at_ k.fn hn h

theorem xA {y:V} {u:Ql} {Q:Unit->Qu->Prop} (I:Inv X pins σ H s) (e:H a=some (.ins C dx fs)) (c:yi X.K C) (n:kn X.K C f) (hl:fs.length < 1000) (ry:RelV y u)
  (h:∀ s',Inv X pins σ (upd H a (.ins C dx (kz f y fs))) s'->Q () s'):Qx (model X.prog X.w) A (setAttr (.ref a) f u) Q E s:=by
 obtain⟨mA,O,r,wi,_,ho⟩:=vz I.hok e
 have hz:(fs.map (·.1)).length<=Qq:=by rw [MV,QP]; omega
 refine Dv I.kIn O c.sa c.po n.taker c.hd wi hz fun h' O' sb=>h _ ?_
 have hd:∃ o,h'.get? dx=some o:=let ⟨o,_,_,e',_⟩:=O'.ns; ⟨o,e'⟩
 refine I.write (x:=a) (e:=dx) (by rw [e]; exact True.intro) (.inr ho) (fun b q hb z=>(sb.2 b hb).trans z) hd ?_
 refine⟨by rw [bg O.ne]; exact ho,?_,O.ne,O'.obj,_,O'.ns,fun g=>?_,fun g hg=>?_⟩
 ·have:=pS f y fs; omega
 ·show wG ((kz f y fs).lookup g) (if g=f then some u else mA g)
  rw [pM]
  by_cases q:g=f
  ·rw [if_pos q,if_pos q]; exact ry
  ·rw [if_neg q,if_neg q]; exact r g
 ·by_cases q:g=f
  ·rw [q]; exact(oJ f y fs).1
  ·refine(oJ f y fs).2 g (wi g fun z=>hg ?_)
   show (if g=f then some u else mA g)=none
   rw [if_neg q]; exact z

theorem Inv.made (I:Inv X pins σ H s):Inv X pins σ (upd (upd H s.heap.objs.size (.own (s.heap.objs.size+1))) (s.heap.objs.size+1) (.ins C s.heap.objs.size []))
  { s with heap:=(s.heap.push Pk).push (OZ C s.heap.objs.size) }:=by
 have e1:(s.heap.push Pk).get? s.heap.objs.size=some Pk:=PP s.heap rfl
 have e2:((s.heap.push Pk).push (OZ C s.heap.objs.size)).get? (s.heap.objs.size+1)=some (OZ C s.heap.objs.size):=by
  have:=PP (s.heap.push Pk) (o:=OZ C s.heap.objs.size) rfl
  rwa [PQ] at this
 have e3:(s.heap.push Pk).Ns s.heap.objs.size (fun _=>none):=⟨Pk,#[],_,e1,rfl,(fun e he=>absurd he (by simp)),fun _=>rfl⟩
 have I1:=I.laid (a:=s.heap.objs.size) (o:=.own (s.heap.objs.size+1)) (h':=s.heap.push Pk) (t':=s.toks) (fun b u q=>PN _ q) (MO _) ⟨_,e1⟩
 refine I1.laid (a:=s.heap.objs.size+1) (o:=.ins C s.heap.objs.size []) (t':=s.toks) (fun b u q=>PN _ q) (MX (PQ _ _)) ?_
 have ne:s.heap.objs.size≠s.heap.objs.size+1:=ME (Nat.lt_succ_self _)
 refine⟨by rw [bg ne,bJ],MY _,ne,e2,fun _=>none,(Heap.Ns1.of_empty e3).at fun o q=>PN _ q,fun _=>True.intro,fun y hy=>absurd rfl hy⟩

theorem DI {prog:Qn} {w:Qm} {env:Env} {e:Qy} {f:Str} {pos:Pos} {s:Qu} {Q:Ql->Qu->Prop} (hb:QS e f env (eval e env)=eval e env)
  (h:Qx (model prog w) A (eval e env) (fun o s₁=>Qx (model prog w) A (getAttr o f true) Q E s₁) E s):Qx (model prog w) A (eval (.Attribute e f pos) env) Q E s :=
 Attribute_any_ h (by rw [arm_eval_Attribute,hb])
end

def Kk (K:O2) (ta:TE) (f:Str):TE:=fun σ H Q=>ta σ H fun x H1=>∃ a C dx fs v,x=.ref a/\H1 a=some (.ins C dx fs)/\yi K C/\kn K C f/\fs.lookup f=some v/\Q v H1
def Ku (K:O2) (ta tv:TE) (f:Str):TS:=fun D σ H=>tv σ H fun y H1=>ta σ H1 fun x H2=>∃ a C dx fs,x=.ref a/\H2 a=some (.ins C dx fs)/\yi K C/\kn K C f/\fs.length < 1000 /\
 D.nx σ (upd H2 a (.ins C dx (kz f y fs)))
section
variable {X:Cx} {o e value:Qy} {f:Str} {pos pos' tpos:Pos} {ta tv:TE}
theorem G4 (he:PE X e ta) (hb:QS e f X.env (eval e X.env)=eval e X.env):PE X (.Attribute e f pos) (Kk X.K ta f):=by
 intro pins s σ H Q I h
 refine DI hb (dB (he pins s σ H _ I h) fun u s1 ⟨x,H1,I1,rx,a,C,dx,fs,v,ex,ea,c,n,l,q⟩=>?_)
 subst ex
 obtain rfl:u=Value.ref a:=rx
 exact xN I1 ea c n l fun u' s2 I2 ru=>⟨v,H1,I2,ru,q⟩
theorem GI (ha:PE X o ta) (hv:PE X value tv) (hs:swapsWith value (some (.Attribute o f pos')) pos.line X.env=pure false):PS X (.Assign [.Attribute o f pos'] value pos) (Ku X.K ta tv f):=by
 intro pins s σ H D I h
 refine plainObj_wpAny_Assign_Attribute (dB (hv pins s σ H _ I h) fun u s1 ⟨y,H1,I1,ry,q⟩=>dB (ha pins s1 σ H1 _ I1 q) fun ov s2 ⟨x,H2,I2,rx,a,C,dx,fs,ex,ea,c,n,l,q2⟩=>?_) hs
 subst ex
 obtain rfl:ov=Value.ref a:=rx
 exact xA I2 ea c n l ry fun s3 I3=>⟨σ,_,I3,q2⟩
theorem vI {pl:Sem Bool} {m:Str} {apos:Pos} {args:List Qy} {pins:List (Qo×Obj)} {s:Qu} {σ:St} {H:Hp} {Q:Ql->Qu->Prop} {te:TE} (he:PE X e te) (I:Inv X pins σ H s)
  (h:te σ H fun x H1=>∃ a C dx fs g,x=.ref a/\H1 a=some (.ins C dx fs)/\yi X.K C/\Meth X.K C m g/\fs.lookup m=none /\
   ∀ s1,Inv X pins σ H1 s1->Qx (model X.prog X.w) X.A (QT pos (.ref g) [.ref a] (backTo pos (Qz args X.env)) (backToKw pos (QU [] X.env))) Q X.xe s1)
  (ht:eval (.Call (.Attribute e m apos) args [] pos) X.env=(do
   let ov <- eval e X.env
   standAt apos.atName
   let (f,first) <- holding [ov] (getMethod ov m pl)
   QT pos f first (backTo pos (Qz args X.env)) (backToKw pos (QU [] X.env)))) :
  Qx (model X.prog X.w) X.A (eval (.Call (.Attribute e m apos) args [] pos) X.env) Q X.xe s:=by
 refine PySem.W.methodCall_KW (pl:=pl) (dB (he pins s σ H _ I h) fun u s1 ⟨x,H1,I1,rx,a,C,dx,fs,g,ex,ea,c,k,l,q⟩=>?_) ht
 subst ex
 obtain rfl:u=Value.ref a:=rx
 exact yj I1 ea c k l (q s1 I1)
end

end L2

namespace L2
open PySem PySem.Spec PyProof.Rows

structure fX (k:Nat) (A:Qt):Prop where
 hd:A.handled=none
 dp:A.depth+3*k+5 < QV
 un:A.units+16*k+200 < QW
theorem fX.mono {j k:Nat} {A:Qt} (r:fX k A) (h:j<=k):fX j A:=⟨r.hd,by have:=r.dp; omega,by have:=r.un; omega⟩
theorem fX.deeper {k:Nat} {A:Qt} (r:fX (k+1) A) (env:Env):fX k (A.deeper env) :=
 ⟨r.hd,by have:=r.dp; show A.depth+1+3*k+5 < _; omega,by have:=r.un; show A.units+3+16*k+200 < _; omega⟩
theorem xQ {A:Qt} {C:Qo} {us:List Ql} {kw:List (Str×Ql)}:(A.under (.builtin "type.__call__" ⟨.ref C::us,kw⟩)).depth=A.depth+1:=by
 first | rfl | simp [Around.under,Code.weight,Code.isCreation,Code.isGuard,Code.isCaller,Code.frames,Code.isFrame,guardIds]
theorem xK {A:Qt} {C:Qo} {us:List Ql} {kw:List (Str×Ql)}:(A.under (.builtin "type.__call__" ⟨.ref C::us,kw⟩)).units=A.units+1:=by
 first | rfl | simp [Around.under,Code.cUnits,Code.frames,Code.isFrame]
theorem fX.make {k:Nat} {A:Qt} (r:fX (k+1) A) (C:Qo) (us:List Ql) (kw:List (Str×Ql)):fX k (A.under (.builtin "type.__call__" ⟨.ref C::us,kw⟩)) :=
 ⟨r.hd,by have:=r.dp; rw [xQ]; omega,by have:=r.un; rw [xK]; omega⟩
theorem fX.depth {k:Nat} {A:Qt} (r:fX k A):A.depth < QV:=by have:=r.dp; omega
theorem fX.units {k:Nat} {A:Qt} (r:fX k A):A.units+64 < QW:=by have:=r.un; omega
def FY:TA:=fun _ H Q=>Q [] H
def zI (ta:TE) (tr:TA):TA:=fun σ H Q=>ta σ H fun x H1=>tr σ H1 fun xs H2=>Q (x::xs) H2
section
variable {X:Cx} {e:Qy} {es:List Qy} {te:TE} {t:TA} {pos:Pos}
theorem vv:PA X [] FY:=fun _ _ _ _ H Q I h=>Calls.spliced_nil ⟨[],H,I,.nil,h⟩
theorem lZ (ha:PE X e te) (hr:PA X es t) (hs:Qz (e::es) X.env=(false,eval e X.env)::Qz es X.env:=by rfl):PA X (e::es) (zI te t):=by
 intro pos pins s σ H Q I h
 rw [hs]
 show Qx _ _ (spliced ((false,eval e X.env)::backTo pos (Qz es X.env))) _ _ s
 refine Calls.spliced_cons (dB (ha pins s σ H _ I h) fun u s1 ⟨x,H1,I1,r1,q1⟩=>?_)
 exact dB (hr pos pins s1 σ H1 _ I1 q1) fun us s2 ⟨xs,H2,I2,r2,q2⟩=>⟨x::xs,H2,I2,.cons r1 r2,q2⟩

def Ly (t:TA):TE:=fun σ H Q=>t σ H fun xs H1=>xs.length<=Qq/\∀ p,H1 p=none->Q (.ref p) (upd H1 p (.tup xs))
def K2 (t:TA):TE:=fun σ H Q=>t σ H fun xs H1=>xs.length<=Qq/\∀ p,H1 p=none->Q (.ref p) (upd H1 p (.lst xs))
theorem G7 {x1} (h:PA X es t):PE X (.Tuple es x1 pos) (Ly t):=by
 intro pins s σ H Q I hq
 refine wpAny_Tuple_spliced (dB (h pos pins s σ H _ I hq) fun us s1 ⟨xs,H1,I1,r,z,q⟩=>⟨by rw [<- r.length]; exact z,?_⟩)
 have hf:H1 s1.heap.objs.size=none:=I1.hok.fresh (MO _)
 refine⟨.ref s1.heap.objs.size,upd H1 s1.heap.objs.size (.tup xs),I1.laid (t':=s1.toks) (fun b u e=>PN _ e) (MO _) ?_,rfl,q _ hf⟩
 exact⟨z,us,r,⟨_,PP _ rfl,rfl,_,rfl⟩⟩
theorem CK (h:PA X es t):PE X (.List es pos) (K2 t):=by
 intro pins s σ H Q I hq
 refine wpAny_List_spliced (dB (h pos pins s σ H _ I hq) fun us s1 ⟨xs,H1,I1,r,z,q⟩=>⟨by rw [<- r.length]; exact z,?_⟩)
 have hf:H1 s1.heap.objs.size=none:=I1.hok.fresh (MO _)
 refine⟨.ref s1.heap.objs.size,upd H1 s1.heap.objs.size (.lst xs),I1.laid (t':=s1.toks) (fun b u e=>PN _ e) (MO _) ?_,rfl,q _ hf⟩
 exact⟨z,us,0,r,PP _ rfl⟩
end

abbrev Sp:=List V->Hp->VK->XK->Prop
abbrev xg:=List Env->Hp->Qu->XK->Ql->Qu->Prop

structure uN (P:Qn) (w:Qm) (K:O2) (mg:Str->Option Ql) (base:Qp) (A:Qt) (outer:List Env) (s:Qu) (H:Hp):Prop where
 frames:A.frames=some outer
 mod:Mod K mg base
 bs:∀ b o,base.get? b=some o->s.heap.get? b=some o/\H b=none
 bsz:base.objs.size<=s.heap.objs.size
 funs:s.heap.FunFrames base outer
 frf:∀ b∈frs outer,H b=none
 hok:pj P w H s.heap
 bare:AllBare s.gens
def CE (outer:List Env) (P:Qn) (w:Qm) (H:Hp) (s:Qu) (Q:VK) (u:Ql) (s':Qu):Prop :=
 ∃ v H',s'.os=s.os/\AllBare s'.gens/\Un (frs outer) [] H H' s.heap s'.heap/\pj P w H' s'.heap/\RelV v u/\Q v H'
def CR (CX:xg) (outer:List Env) (P:Qn) (w:Qm) (H:Hp) (s:Qu) (Q:VK) (E:XK) (r:QQ) (s':Qu):Prop :=
 match r with
 | .ok (.ret u)=>CE outer P w H s Q u s'
 | .ok _=>False
 | .error e=>CX outer H s E e s'
structure jn (P:Qn) (w:Qm) (K:O2) (mg:Str->Option Ql) (base:Qp) (CX:xg) (k:Nat) (f:Qo) (fd:QX) (ps:List Str) (sp:Sp):Prop where
 len:∀ vs H Q E,sp vs H Q E->vs.length=ps.length
 run:∀ (A:Qt) (outer:List Env) (s:Qu) (H:Hp) (args:Args) (us:List Ql) (vs:List V) (Q:VK) (E:XK),fX k A->uN P w K mg base A outer s H->QY s fd args (ps.zip us)->Vals vs us->sp vs H Q E ->
  QR (model P w) A (.call (.ref f) args) (CR CX outer P w H s Q E) s
theorem jn.mono {P:Qn} {w:Qm} {K:O2} {mg:Str->Option Ql} {base:Qp} {CX:xg} {j k:Nat} {f:Qo} {fd:QX} {ps:List Str} {sp:Sp} (F:jn P w K mg base CX j f fd ps sp) (h:j<=k) :
  jn P w K mg base CX k f fd ps sp:=⟨F.len,fun A outer s H args us vs Q E hr=>F.run A outer s H args us vs Q E (hr.mono h)⟩
theorem uN.make {P:Qn} {w:Qm} {K:O2} {mg:Str->Option Ql} {base:Qp} {A:Qt} {outer:List Env} {s:Qu} {H:Hp} (e:uN P w K mg base A outer s H) (C:Qo) (us:List Ql) (kw:List (Str×Ql)) :
  uN P w K mg base (A.under (.builtin "type.__call__" ⟨.ref C::us,kw⟩)) outer s H:=⟨by first | exact e.frames | (simpa [Around.under,Code.envs,Code.isFrame,pushEnvs] using e.frames),e.mod,e.bs,e.bsz,e.funs,e.frf,e.hok,e.bare⟩
section
variable {X:Cx} {pins:List (Qo×Obj)} {σ:St} {H:Hp} {s s':Qu}
theorem Inv.env0 (I:Inv X pins σ H s):uN X.prog X.w X.K X.mg X.base X.A X.stack s H :=
 ⟨I.ok.frames,I.ok.mod,I.bs,MF I.ok.bsz I.sz,I.stack,I.stkFree,I.hok,I.bare⟩
theorem Inv.after {Q:VK} {u:Ql} (I:Inv X pins σ H s) (h:CE X.stack X.prog X.w H s Q u s'):EP X pins σ Q u s':=by
 obtain⟨v,H',os,bare,un,hok,r,q⟩:=h
 obtain⟨hh,g,d,t,os'⟩:=s'
 obtain rfl:os'=s.os:=os
 exact⟨v,H',I.call (h':=hh) (g':=g) (d':=d) (t':=t) (ch:=[]) un hok bare (fun b z=>absurd z (by simp)),r,q⟩
end

def IU (C:Qo) (sp:Sp) (dvs:List V) (E:XK) (t:TA):TE:=fun σ H Q=>t σ H fun vs H1=>∀ x dx,H1 x=none->H1 dx=none->dx≠x ->
 sp (.ref x::(vs++dvs)) (upd (upd H1 dx (.own x)) x (.ins C dx [])) (fun v H2=>v=.non/\Q (.ref x) H2) E

def Binds (K:O2) (fd:QX) (ps:List Str) (ds:List Ql):Prop :=
 ∀ (s:Qu) (us:List Ql),K.In s.heap->(us++ds).length=ps.length->QY s fd ⟨us,[]⟩ (ps.zip (us++ds))
theorem Binds.all {K:O2} {fd:QX} {ps:List Str} (h:∀ us:List Ql,us.length=ps.length->bindArgs fd ⟨us,[]⟩=pure (ps.zip us)):Binds K fd ps []:=fun s us _ hl=>by
 rw [MZ] at hl ⊢
 exact .of_eq (h us hl)

def xY (CX:xg) (X:Cx) (E:XK):Prop:=∀ (pins:List (Qo×Obj)) (σ:St) (H:Hp) (s:Qu) (e:Ql) (s':Qu),Inv X pins σ H s->CX X.stack H s E e s'->X.xe e s'

section
variable {X:Cx} {CX:xg} {k:Nat} {f C:Qo} {fd:QX} {ps:List Str} {sp:Sp} {dvs:List V} {ds:List Ql} {E:XK} {x m:Str} {p pos apos:Pos} {e o:Qy} {es:List Qy} {ta:TE} {t:TA}

structure Mk (K:O2) (C f:Qo):Prop where
 makes:Ph K C=true
 init:O7 K (.ref C) "__init__"=some (some (.ref f))
 fn:Pa K (.ref f)=true
 kp:Pl K (.ref C)=true

theorem Dk {pins:List (Qo×Obj)} {σ:St} {H:Hp} {s:Qu} {Q:VK} {us:List Ql} {vs:List V} (M:Mk X.K C f) (F:jn X.prog X.w X.K X.mg X.base CX k f fd ps sp) (hr:fX (k+1) X.A) (hb:Binds X.K fd ps ds) (hd:Vals dvs ds)
  (hx:xY CX X E) (I:Inv X pins σ H s) (r:Vals vs us)
  (h:∀ x dx,H x=none->H dx=none->dx≠x->sp (.ref x::(vs++dvs)) (upd (upd H dx (.own x)) x (.ins C dx [])) (fun v H2=>v=.non/\Q (.ref x) H2) E) :
  Qx (model X.prog X.w) X.A (call (.ref C) us) (EP X pins σ Q) X.xe s:=by
 have hq:=h (s.heap.objs.size+1) s.heap.objs.size (I.hok.fresh (M0 _)) (I.hok.fresh (MO _)) (ME (Nat.lt_succ_self _))
 have I2:=Inv.made (C:=C) I
 have r2:Vals (V.ref (s.heap.objs.size+1)::(vs++dvs)) (Value.ref (s.heap.objs.size+1)::(us++ds)):=.cons rfl (r.append hd)
 have hl:(Value.ref (s.heap.objs.size+1)::us++ds).length=ps.length:=by
  have e:=r2.length
  rw [F.len _ _ _ _ hq] at e
  exact e.symm
 refine QZ (Dj (f:=f) I.kIn M.makes M.init (beq_iff_eq.mp M.fn) (Q0 (F.run _ X.stack _ _ ⟨Value.ref (s.heap.objs.size+1)::us,[]⟩ (Value.ref (s.heap.objs.size+1)::(us++ds)) _ _ E (hr.make C us [])
  (I2.env0.make C us []) (hb _ (Value.ref (s.heap.objs.size+1)::us) I2.kIn hl) r2 hq) fun r s' hq'=>?_))
 cases r with
 | error e=>exact hx pins σ _ _ e s' I2 hq'
 | ok fl =>
  cases fl with
  | ret u =>
   obtain⟨v,H',I3,rv,ev,q3⟩:=I2.after hq'
   subst ev
   exact⟨rv,⟨V.ref (s.heap.objs.size+1),H',I3,rfl,q3⟩⟩
  | next=>exact False.elim hq'
  | brk=>exact False.elim hq'
  | cont=>exact False.elim hq'
theorem DV (M:Mk X.K C f) (F:jn X.prog X.w X.K X.mg X.base CX k f fd ps sp) (hr:fX (k+1) X.A) (hg:Gl X x) (hm:X.mg x=some (.ref C)) (hb:Binds X.K fd ps ds) (hd:Vals dvs ds) (hx:xY CX X E)
  (ha:PA X (e::es) t) (hdb:(x==("__debug__":Str))=false:=by decide) (he:Qz (e::es) X.env=(false,eval e X.env)::Qz es X.env:=by rfl) (hpl:(backTo pos (Qz es X.env)).any (·.1)=false:=by rfl) :
  PE X (.Call (.Name x p) (e::es) [] pos) (IU C sp dvs E t):=by
 intro pins s σ H Q I h
 refine Q1 (md I hg hm ?_ hdb)
 refine Pm (h₀:=X.base) I.ok.mod.kin M.kp (dB (ha pos pins s σ H _ I h) fun us s1 ⟨vs,H1,I1,r,q⟩=>⟨I1.kIn,?_⟩) he hpl
 exact Dk M F hr hb hd hx I1 r q
end

def PK (X:Cx) (kws:List Q2) (t:TA):Prop :=
 ∀ (pos:Pos) (pins:List (Qo×Obj)) (s:Qu) (σ:St) (H:Hp) (Q:List V->Hp->Prop),Inv X pins σ H s->t σ H Q->Qx (model X.prog X.w) X.A (evalAll ((backToKw pos (QU kws X.env)).map (·.2))) (AP X pins σ Q) X.xe s
section
variable {X:Cx} {CX:xg} {k:Nat} {f C:Qo} {fd:QX} {ps ks:List Str} {sp:Sp} {E:XK} {x m:Str} {p pos apos kpos:Pos} {e o:Qy} {es:List Qy} {kws:List Q2} {te ta:TE} {t tk:TA} {nm:Option Str}
theorem FU:PK X [] FY:=fun _ _ _ _ H Q I h=>wpAny_evalAll_nil ⟨[],H,I,.nil,h⟩
theorem DJ (ha:PE X e te) (hr:PK X kws t):PK X (⟨nm,e,kpos⟩::kws) (zI te t):=by
 intro pos pins s σ H Q I h
 show Qx _ _ (evalAll ((do let v <- eval e X.env; standAt pos; pure v)::(backToKw pos (QU kws X.env)).map (·.2))) _ _ s
 refine wpAny_evalAll_cons (QD (dB (ha pins s σ H _ I h) fun u s1 ⟨x,H1,I1,r1,q1⟩=>QD (QF (QG ?_))))
 exact dB (hr pos pins s1 σ H1 _ I1 q1) fun us s2 ⟨xs,H2,I2,r2,q2⟩=>⟨x::xs,H2,I2,.cons r1 r2,q2⟩

variable {g:List Ql->List Ql->List Ql} {gV:List V->List V->List V}
end

structure bh (N P:List Str) (sc:Qv):Prop where
 kind:sc.kind=.function
 co:sc.isCoroutine=false
 gen:sc.isGenerator=false
 nd:N.Nodup
 pre:N.take P.length=P
 par:∀ x∈P,sc.names.lookup x=some .local\/sc.names.lookup x=some .cell
 nofree:∀ y∈sc.names,y.2≠.free

theorem t7 {kindOf:Str->Option Q3} {x:Str}:∀ {binds:List (Str×Ql)} {m:Str->Option Ql},(∀ v,(x,v)∉binds)->bindL kindOf binds m x=m x
 | [],_,_=>rfl
 | (n,v)::r,m,h=>by
  unfold bindL
  rw [t7 fun w hw=>h w (MJ _ hw)]
  split
  ·have:x≠n:=by rintro rfl; exact h v MI
   simp [this]
  ·rfl
theorem uj {kindOf:Str->Option Q3} {x:Str}:∀ {binds:List (Str×Ql)} {m:Str->Option Ql},(∀ v,(x,v)∉binds)->bindC kindOf binds m x=m x
 | [],_,_=>rfl
 | (n,v)::r,m,h=>by
  unfold bindC
  rw [uj fun w hw=>h w (MJ _ hw)]
  split
  ·rfl
  ·have:x≠n:=by rintro rfl; exact h v MI
   simp [this]
theorem sG {kindOf:Str->Option Q3} {x:Str} {v:Ql}:∀ {P:List Str} {vs:List Ql} {i:Nat} {m:Str->Option Ql},P.Nodup->P[i]?=some x->vs[i]?=some v->kindOf x=some .local ->
  bindL kindOf (P.zip vs) m x=some v
 | [],_,_,_,_,h,_,_=>by simp at h
 | _::_,[],_,_,_,_,h,_=>by simp at h
 | p::P,w::vs,0,m,nd,h1,h2,hk=>by
  simp at h1 h2; subst h1; subst h2
  show bindL kindOf ((p,w)::P.zip vs) m p=_
  unfold bindL
  rw [t7 fun v hv=>(List.nodup_cons.mp nd).1 (M1 hv).1,if_pos hk]
  simp
 | p::P,w::vs,i+1,m,nd,h1,h2,hk=>by
  show bindL kindOf ((p,w)::P.zip vs) m x=_
  unfold bindL
  exact sG (i:=i) (List.nodup_cons.mp nd).2 (by simpa using h1) (by simpa using h2) hk
theorem tZ {kindOf:Str->Option Q3} {x:Str} {v:Ql}:∀ {P:List Str} {vs:List Ql} {i:Nat} {m:Str->Option Ql},P.Nodup->P[i]?=some x->vs[i]?=some v->kindOf x≠some .local ->
  bindC kindOf (P.zip vs) m x=some v
 | [],_,_,_,_,h,_,_=>by simp at h
 | _::_,[],_,_,_,_,h,_=>by simp at h
 | p::P,w::vs,0,m,nd,h1,h2,hk=>by
  simp at h1 h2; subst h1; subst h2
  show bindC kindOf ((p,w)::P.zip vs) m p=_
  unfold bindC
  rw [uj fun v hv=>(List.nodup_cons.mp nd).1 (M1 hv).1,if_neg hk]
  simp
 | p::P,w::vs,i+1,m,nd,h1,h2,hk=>by
  show bindC kindOf ((p,w)::P.zip vs) m x=_
  unfold bindC
  exact tZ (i:=i) (List.nodup_cons.mp nd).2 (by simpa using h1) (by simpa using h2) hk

def start (N:List Str) (vs:List V):St:=vs.map some++List.replicate (N.length - vs.length) none

def kB (CX:xg) (P:Qn) (w:Qm) (K:O2) (mg:Str->Option Ql) (base:Qp) (N:List Str) (qual:Str) (scope:Qv) (f:Qo) (cd:Ql) (A:Qt) (outer:List Env) (s:Qu) (H:Hp) (E:XK):Cx where
 prog:=P
 w:=w
 K:=K
 mg:=mg
 base:=base
 A:=A.deeper (envOfC qual scope s.heap.objs.size f cd)
 N:=N
 s₀:=s
 H₀:=H
 env:=envOfC qual scope s.heap.objs.size f cd
 outer:=outer
 stack:=envOfC qual scope s.heap.objs.size f cd::outer
 ex:=[]
 calm:=true
 fn:=fun _=>true
 pn:=[]
 xe:=fun e s'=>Qx (model P w) (A.deeper (envOfC qual scope s.heap.objs.size f cd)) (leaving (envOfC qual scope s.heap.objs.size f cd) e) (fun _ s''=>CX outer H s E e s'') (fun e' s''=>CX outer H s E e' s'') s'

theorem wF {sc:Qv} {n:Nat} {x:Str} (h:sc.names.lookup x=some .cell):∃ c,(cellsFrom n sc.names []).lookup x=some c:=by
 have q:=Pn sc.names n [] (.inl h)
 exact Option.isSome_iff_exists.mp q

theorem sU {CX:xg} {P:Qn} {w:Qm} {K:O2} {mg:Str->Option Ql} {base:Qp} {N ps:List Str} {qual:Str} {scope:Qv} {f:Qo} {cd:Ql} {A:Qt} {outer:List Env} {s s1:Qu} {H:Hp} {E:XK} {us:List Ql} {vs:List V}
  (S:bh N ps scope) (hd:A.handled=none) (e0:uN P w K mg base A outer s H) (hl:vs.length=ps.length) (r:Vals vs us)
  (x:InCallC s s.heap.objs.size (bindL (envOfC qual scope s.heap.objs.size f cd).kindOf (ps.zip us) fun _=>none) (cellsFrom (s.heap.objs.size+1) scope.names []) (bindC (envOfC qual scope s.heap.objs.size f cd).kindOf (ps.zip us) fun _=>none) s1) :
  Inv (kB CX P w K mg base N qual scope f cd A outer s H E) [] (start N vs) H s1:=by
 have hpl:ps.length<=N.length:=by have:=congrArg List.length S.pre; rw [M2] at this; omega
 obtain⟨h1,tk,rfl,hk⟩:=x.done
 have noA:∀ b:Qo,b∉(kB CX P w K mg base N qual scope f cd A outer s H E).ex:=fun b z=>absurd (show b∈([]:List Qo) from z) (by simp)
 refine⟨⟨e0.mod,S.kind,rfl,rfl,MO _,fun y z c h1 h2=>?_,fun y hy=>?_,fun y c _ h=>?_,fun _=>hd,Around.frames_deeper e0.frames,.inr ⟨rfl,rfl⟩,fun b z=>absurd z (noA b),e0.bs,e0.bsz,fun b _ _=>noA b,fun b z=>absurd z (noA b),e0.funs,e0.frf⟩,
  rfl,e0.bare,Un.kept hk,⟨_,x.toInCall.ns,fun i y v h1 h2 h3=>?_⟩,fun y c h=>⟨_,x.cell y c h⟩,e0.hok.fresh (MO _),fun y c h=>?_,fun p hp=>absurd (show p∈([]:List (Qo×Obj)) from hp) (by simp),e0.hok.kept hk,?_⟩
 ·exact name_of_addr x.apart (PySem.mem_of_lookup h1) (PySem.mem_of_lookup h2)
 ·have hy:scope.names.lookup y=some .cell\/scope.names.lookup y=some .free:=hy
  rcases hy with hy | hy
  ·exact wF hy
  ·exact absurd rfl (S.nofree _ (PySem.mem_of_lookup hy))
 ·exact MG (x.above y c (PySem.mem_of_lookup h))
 ·have hi:i < vs.length:=by
   unfold start at h2
   by_cases hi:i < vs.length
   ·exact hi
   ·rw [M3 (by simpa using hi)] at h2
    rw [M4] at h2
    split at h2 <;> cases h2
  have ha:vs[i]?=some v:=by
   unfold start at h2
   rw [M5 (by simpa using hi),M6] at h2
   cases e:vs[i]? with
   | none=>rw [e] at h2; cases h2
   | some a=>rw [e] at h2; cases h2; rfl
  obtain⟨u,hu,rv⟩:=r.get ha
  have hp:ps[i]?=some y:=by
   rw [<- S.pre,List.getElem?_take_of_lt ‹0›]; exact h1
  have ndP:ps.Nodup:=by rw [<- S.pre]; exact S.nd.sublist (List.take_sublist _ _)
  refine⟨u,rv,?_⟩
  rcases S.par y (M7 hp) with k | k
  ·exact .inl ⟨k,sG ndP hp hu k⟩
  ·obtain⟨c,e⟩:=wF (n:=s.heap.objs.size+1) k
   refine .inr ⟨.inl k,c,e,?_⟩
   have q:=x.cell y c e
   rw [tZ ndP hp hu (by show scope.names.lookup y≠_; rw [k]; decide)] at q
   exact q
 ·exact e0.hok.fresh (MG (x.above y c (PySem.mem_of_lookup h)))
 ·unfold start
  show _=N.length
  rw [M8,MV,List.length_replicate]
  omega

theorem EA {CX:xg} {P:Qn} {w:Qm} {K:O2} {mg:Str->Option Ql} {base:Qp} {k:Nat} {f:Qo} {name qual:Str} {params:Arguments} {body:List QA} {scope:Qv} {dV kV doc pm cdv ct oc:Ql} {an od:Option Qo}
  {osl:Array (Option Ql)} {N ps:List Str} {sp:Sp} (lk:K.lookup f=some ⟨oc,od,.func (Pp name qual params body scope dV kV doc pm an cdv ct),osl⟩) (hcd:Pq K cdv qual=true) (S:bh N ps scope)
  (len:∀ vs H Q E,sp vs H Q E->vs.length=ps.length)
  (hbody:∀ (A:Qt) (outer:List Env) (s:Qu) (H:Hp) (vs:List V) (Q:VK) (E:XK),fX k (A.deeper (envOfC qual scope s.heap.objs.size f cdv))->sp vs H Q E ->
   ∃ t,vC (kB CX P w K mg base N qual scope f cdv A outer s H E) body t/\t { nx:=fun _ H'=>Q .non H',rt:=Q } (start N vs) H) :
  jn P w K mg base CX (k+1) f (Pp name qual params body scope dV kV doc pm an cdv ct) ps sp:=by
 refine⟨len,fun A outer s H args us vs Q E hr e0 hb r hsp=>?_⟩
 have hl:=len _ _ _ _ hsp
 have KX:K.In s.heap:=e0.mod.kin.keeps fun b o e=>(e0.bs b o e).1
 have lim:s.heap.NoLimit:=e0.mod.nolimit.keeps fun b o e=>(e0.bs b o e).1
 have hkind:∀ y∈ps.zip us,scope.names.lookup y.1=some .local\/(scope.names.lookup y.1=some .cell/\((cellsFrom (s.heap.objs.size+1) scope.names []).lookup y.1).isSome=true):=fun ⟨n,v⟩ hy=>by
  rcases S.par n (M1 hy).1 with q | q
  ·exact .inl q
  ·exact .inr ⟨q,Pn _ _ _ (.inl q)⟩
 refine codeAny_call_function hr.depth (KX _ _ lk) rfl S.co S.gen rfl (Pr KX hcd) (hb _ _ _ _ ?_)
 refine Q4 S.kind hkind fun env he s1 x=>?_
 subst he
 refine⟨lim.keeps x.toInCall.keep,codeAny_func ?_⟩
 obtain⟨t,ht,hq⟩:=hbody A outer s H vs Q E (hr.deeper _) hsp
 have I:Inv (kB CX P w K mg base N qual scope f cdv A outer s H E) [] (start N vs) H s1:=sU S hr.hd e0 hl r x
 refine QB (ht [] s1 (start N vs) H _ I hq) (fun fl s' hs=>?_) fun e s' hs=>hs
 have fin:∀ {σ':St} {H':Hp} {v:V} {u:Ql},Inv (kB CX P w K mg base N qual scope f cdv A outer s H E) [] σ' H' s'->RelV v u->Q v H'->CE outer P w H s Q u s' :=
  fun {σ' H' v u} J rv q=>⟨v,H',J.os,J.bare,J.base,J.hok,rv,q⟩
 cases fl with
 | ret u =>
  obtain⟨v,σ',H',J,rv,q⟩:=hs
  exact fin J rv q
 | next =>
  obtain⟨σ',H',J,q⟩:=hs
  exact fin (v:=V.non) (u:=Value.none) J rfl q
 | brk =>
  obtain⟨_,_,_,q⟩:=hs
  exact False.elim q
 | cont =>
  obtain⟨_,_,_,q⟩:=hs
  exact False.elim q
end L2

namespace L2
open PySem PySem.Spec PyProof.Rows
section
variable {X:Cx} {x:Str} {p pos:Pos} {e:Qy} {es:List Qy} {t:TA} {id T:String} {r:List V->Hp->VK->Prop}

def JS (r:List V->Hp->VK->Prop) (t:TA):TE:=fun σ H Q=>t σ H fun vs H1=>r vs H1 Q
theorem rd (hc:eG X (.builtin id) r) (hg:Gl X x) (hm:X.mg x=none) (hv:Qs x=some (.builtin id)) (ha:PA X (e::es) t) (hn:x ≠ "__name__":=by decide) (hdb:(x==("__debug__":Str))=false:=by decide)
  (he:Qz (e::es) X.env=(false,eval e X.env)::Qz es X.env:=by rfl) (hpl:(backTo pos (Qz es X.env)).any (·.1)=false:=by rfl):PE X (.Call (.Name x p) (e::es) [] pos) (JS r t):=by
 intro pins s σ H Q I h
 refine Q1 (nv I hg hm hv ?_ hn hdb)
 exact PyProof.Rows.callWith_builtin1 (dB (ha pos pins s σ H _ I h) fun us s1 ⟨vs,H1,I1,r1,q1⟩=>hc pins s1 σ H1 vs us Q I1 r1 q1) he hpl
theorem sP (hc:eG X (.type T) r) (hg:Gl X x) (hm:X.mg x=none) (hv:Qs x=some (.type T)) (ha:PA X (e::es) t) (hn:x ≠ "__name__":=by decide) (hdb:(x==("__debug__":Str))=false:=by decide)
  (he:Qz (e::es) X.env=(false,eval e X.env)::Qz es X.env:=by rfl) (hpl:(backTo pos (Qz es X.env)).any (·.1)=false:=by rfl):PE X (.Call (.Name x p) (e::es) [] pos) (JS r t):=by
 intro pins s σ H Q I h
 refine Q1 (nv I hg hm hv ?_ hn hdb)
 exact PY (dB (ha pos pins s σ H _ I h) fun us s1 ⟨vs,H1,I1,r1,q1⟩=>hc pins s1 σ H1 vs us Q I1 r1 q1) he hpl
end
end L2

namespace HT
open PySem PyProof.Rows

theorem Ib (A:Qt) (s:Qu) (a:Int) (t:Tok) (c:Int) (u:Tok) (prog:Qn) (w:Qm) (E:Ql->Qu->Prop) (Q:Ql->Qu->Prop) (h:Q (.bool (decide (a < c))) s) :
  Qx (model prog w) A (richCompare .Lt (.int a t) (.int c u)) Q E s :=
 (PyProof.Rows.lt_int h:Qx (model prog w) A (QM .Lt (.int a t) (.int c u)) Q E s)

section
open PySem.SeqAt
open PySem.AutoSeq1 (wpAny_loadPart')
open PySem.MeetsSeq PySem.MeetsSeq2 PySem.MeetsSeq3

end

section
variable {prog:Qn} {w:Qm} {A:Qt} {E:Ql->Qu->Prop} {s:Qu}

theorem Jt {t b:Qo} {vs ws:List Ql} {Q:Ql->Qu->Prop} (ht:IsTup s.heap t vs.toArray) (hb:IsTup s.heap b ws.toArray) (hv:vs≠[])
  (h1:ws=[]->Q (.ref t) s) (h2:ws≠[]->Q (.ref s.heap.objs.size) { s with heap:=s.heap.push { cls:=.type "tuple",data:=.seq (vs++ws).toArray } })
  (hsz:vs.length+ws.length<=Qq):Qx (model prog w) A (QL .Add (.ref t) (.ref b)) Q E s:=by
 obtain⟨⟨cls,dd,data,sl⟩,ho,hc,n,hd⟩:=id ht
 obtain⟨⟨cls2,dd2,data2,sl2⟩,ho2,hc2,n2,hd2⟩:=id hb
 simp only at hc hd hc2 hd2
 subst hc hd hc2 hd2
 have e:vs.toArray++ws.toArray=(vs++ws).toArray:=by simp
 by_cases hw:ws=[]
 ·exact Q5 ⟨_,ho,rfl⟩ ⟨_,ho2,rfl⟩ Q6 Q7 Qb Qc (Qd _ _)
   (tuple_addW1 t b vs.toArray ws.toArray n n2 dd dd2 sl sl2 (by simpa using hv) (by simp [hw])) ⟨ho,ho2,h1 hw⟩
 ·refine Q5 ⟨_,ho,rfl⟩ ⟨_,ho2,rfl⟩ Q6 Q7 Qb Qc (Qd _ _)
   (tuple_addW2 t b vs.toArray ws.toArray n n2 dd dd2 sl sl2 (by simpa using hv) (by simpa using hw) (by rw [MR,MR]; exact hsz)) ⟨ho,ho2,?_⟩
  rw [e]
  exact h2 hw

def sIx (n d:Nat):Option Int->Nat
 | none=>d
 | some v=>if v < 0 then (v+(n:Int)).toNat else min v.toNat n
theorem Hz (n d:Nat):sIx n d none=d:=rfl
theorem JB (n d k:Nat):sIx n d (some (k:Int))=min k n:=by
 show (if (k:Int) < 0 then ((k:Int)+(n:Int)).toNat else min (k:Int).toNat n)=min k n
 rw [if_neg ‹0›,M9]
theorem Gz (n d:Nat) (hd:d<=n) (o:Option Int):sIx n d o<=n:=by
 cases o with
 | none=>exact hd
 | some v =>
  show (if v < 0 then (v+(n:Int)).toNat else min v.toNat n)<=n
  by_cases hv:v < 0
  ·rw [if_pos hv]; omega
  ·rw [if_neg hv]; exact Nat.min_le_right _ _
theorem zb (v:Int) (n d:Nat):(if v < 0 then max (v+(n:Int)) 0 else min v (n:Int))=((sIx n d (some v):Nat):Int):=by
 show (if v < 0 then max (v+(n:Int)) 0 else min v (n:Int))=(((if v < 0 then (v+(n:Int)).toNat else min v.toNat n):Nat):Int)
 by_cases hv:v < 0
 ·simp only [if_pos hv]; omega
 ·simp only [if_neg hv]; omega
theorem xl (lo hi:Option Int) (n:Nat):Builtin.Slice.sliceAdjust lo hi 1 (n:Int)=(((sIx n 0 lo:Nat):Int),((sIx n n hi:Nat):Int)):=by
 have h1:¬ ((1:Int) < 0):=by omega
 unfold Builtin.Slice.sliceAdjust
 simp only [h1,if_false]
 refine Prod.ext ?_ ?_
 ·cases lo with
  | none=>rfl
  | some v=>exact zb v n 0
 ·cases hi with
  | none=>rfl
  | some v=>exact zb v n n
theorem xm (i j:Nat):Builtin.Slice.slicePlaces (i:Int) (j:Int) 1=j - i:=by
 unfold Builtin.Slice.slicePlaces
 have h1:(1:Int) > 0:=by omega
 simp only [h1,if_true,Int.ediv_one]
 split <;> omega
theorem qy {v:Ql} {o:Option Int} {Q:Option Int->Qu->Prop} (p:Q8 v o) (h:Q o s):Qx (model prog w) A (Builtin.Slice.slicePartIndex v) Q E s:=by
 cases p with
 | none=>exact slicePart_none h
 | int i t=>exact slicePart_int h
theorem oY {sl:Qo} {vl vu:Ql} {lo hi:Option Int} {n:Nat} {Q:Int×Int×Nat->Qu->Prop} (hs:s.heap.IsSliceOf sl vl vu .none) (pl:Q8 vl lo) (pu:Q8 vu hi)
  (h:Q (((sIx n 0 lo:Nat):Int),1,sIx n n hi - sIx n 0 lo) s):Qx (model prog w) A (Builtin.Slice.sliceApplied (.ref sl) (pure (n:Int))) Q E s:=by
 obtain⟨os,hos,hcs,hds⟩:=id hs
 unfold Builtin.Slice.sliceApplied Builtin.Slice.sliceFields
 refine QD (QD (Q9 hos hds (x:=vl) rfl (QD (Q9 hos hds (x:=vu) rfl (QD (Q9 hos hds (x:=.none) rfl (QG ?_)))))))
 refine QD (slicePart_none ?_)
 show Qx _ _ (if ((1:Int)==0)=true then _ else _) _ _ s
 rw [if_neg (by decide)]
 refine QD (qy pl (QD (qy pu (QD (QG ?_)))))
 show Qx _ _ (match Builtin.Slice.sliceAdjust lo hi 1 (n:Int) with | (lo,hi)=>pure (lo,(1:Int),Builtin.Slice.slicePlaces lo hi 1)) _ _ s
 rw [xl lo hi n]
 show Qx _ _ (pure (((sIx n 0 lo:Nat):Int),(1:Int),Builtin.Slice.slicePlaces ((sIx n 0 lo:Nat):Int) ((sIx n n hi:Nat):Int) 1)) _ _ s
 rw [xm]
 exact QG h
theorem Bt (xs:Array Ql) (i k:Nat):((List.range k).filterMap fun (m:Nat)=>xs[((i:Int)+(m:Int)*1).toNat]?).toArray=((xs.toList.drop i).take k).toArray:=by
 have e:(fun (m:Nat)=>xs[((i:Int)+(m:Int)*1).toNat]?)=fun m=>xs[i+m]?:=by
  funext m
  have:((i:Int)+(m:Int)*1).toNat=i+m:=by omega
  rw [this]
 rw [e]
 have:=pick_run xs i k
 rw [List.filterMap_map] at this
 have e2:((fun x=>xs[x]?) ∘ fun x=>i+x)=fun m=>xs[i+m]?:=rfl
 rw [e2] at this
 rw [this]

theorem zG {t sl:Qo} {items:Array Ql} {vl vu:Ql} {lo hi:Option Int} {Q:Ql->Qu->Prop} (ht:IsTup s.heap t items) (hs:s.heap.IsSliceOf sl vl vu .none) (pl:Q8 vl lo) (pu:Q8 vu hi)
  (hw:¬ (sIx items.size 0 lo=0/\sIx items.size items.size hi=items.size))
  (h:Q (.ref s.heap.objs.size) { s with heap:=s.heap.push { cls:=.type "tuple",data:=.seq ((items.toList.drop (sIx items.size 0 lo)).take (sIx items.size items.size hi - sIx items.size 0 lo)).toArray } })
  (hsz:items.size<=Qq):Qx (model prog w) A (getItem (.ref t) (.ref sl)) Q E s:=by
 have htake:sizeOk (.seq ((items.toList.drop (sIx items.size 0 lo)).take (sIx items.size items.size hi - sIx items.size 0 lo)).toArray):=by
  show ((items.toList.drop (sIx items.size 0 lo)).take (sIx items.size items.size hi - sIx items.size 0 lo)).toArray.size<=Qq
  rw [MR,M2,Nb,Array.length_toList]
  omega
 have hj:sIx items.size items.size hi<=items.size:=Gz _ _ (MO _) hi
 obtain⟨os,hos,hcs,hds⟩:=id hs
 have hTs:s.TypeIs (.ref sl) "slice":=⟨os,hos,hcs⟩
 unfold getItem
 try with_reducible refine QE ?_
 first | refine QD (QG ?_) | skip
 refine QD (wpAny_sequenceKey ht.typeIs (by decide) ?_)
 refine QD (Ra (name:=Str.ofString "__getitem__") ht.typeIs PZ
  (Rb PZ ht.typeIs entry_tuple_getitem ?_ (args_tuple_getitem _ _)))
 show Qx _ _ (Builtin.Tuple.tupleItemsOf (.ref t) >>= _) _ _ s
 refine QD (tupleItemsOf_ ht ?_)
 refine QD (wpAny_typeOf hTs ?_)
 rw [if_pos (by decide)]
 refine QD (oY hs pl pu ?_)
 have hno:¬ ((((sIx items.size 0 lo:Nat):Int)==0 && (1:Int)==1 && (sIx items.size items.size hi - sIx items.size 0 lo)==items.size)=true):=by
  intro q
  rw [Nc,Nc] at q
  have q1:((sIx items.size 0 lo:Nat):Int)=0:=eq_of_beq q.1.1
  have q2:sIx items.size items.size hi - sIx items.size 0 lo=items.size:=eq_of_beq q.2
  exact hw ⟨by omega,by omega⟩
 show Qx _ _ (if (((sIx items.size 0 lo:Nat):Int)==0 && (1:Int)==1 && (sIx items.size items.size hi - sIx items.size 0 lo)==items.size)=true then _ else _) _ _ s
 rw [if_neg hno,Bt]
 first
  | exact QD (m:=Builtin.Tuple.tupleExact _) (Rc (QG ⟨_,rfl,QG h⟩) htake)
  | exact QD (m:=Builtin.Tuple.tupleExact _) (Rc (QD (QG (QG ⟨_,rfl,QG h⟩))) htake)
  | exact QD (QD (m:=Builtin.Tuple.tupleExact _) (Rc (QG (QG ⟨_,rfl,QG h⟩)) htake))
  | exact QD (QD (m:=Builtin.Tuple.tupleExact _) (Rc (QG ⟨_,rfl,QG h⟩) htake))
end
end HT

namespace L2
open PySem PySem.Spec PyProof.Rows

abbrev TO:=St->Hp->(Option Int->Hp->Prop)->Prop
def PO (X:Cx) (e:Option Qy) (t:TO):Prop :=
 ∀ (pins:List (Qo×Obj)) (s:Qu) (σ:St) (H:Hp) (Q:Option Int->Hp->Prop),Inv X pins σ H s->t σ H Q ->
  Qx (model X.prog X.w) X.A (evalPart e X.env) (fun u s'=>∃ o H',Inv X pins σ H' s'/\Q8 u o/\Q o H') X.xe s
def D3:TO:=fun _ H Q=>Q none H
def HN (t:TE):TO:=fun σ H Q=>t σ H fun x H1=>∃ i,x=.int i/\Q (some i) H1

section
variable {X:Cx} {e:Qy} {te:TE} {lo hi:Option Qy} {tl th:TO} {pos p2:Pos}

theorem DP:PO X none D3:=by
 intro pins s σ H Q I h
 rw [evalPart_none]
 exact QG ⟨none,H,I,.none,h⟩
theorem DE (h:PE X e te):PO X (some e) (HN te):=by
 intro pins s σ H Q I hw
 rw [evalPart_some]
 refine dB (h pins s σ H _ I hw) fun u s1 ⟨x,H1,I1,r1,q1⟩=>?_
 obtain⟨i,rfl,q⟩:=q1
 obtain⟨t,rfl⟩:=r1
 exact⟨some i,H1,I1,.int i t,q⟩

def JT (X:Cx) (r:V->Option Int->Option Int->Hp->VK->Prop):Prop :=
 ∀ (pins:List (Qo×Obj)) (s:Qu) (σ:St) (H:Hp) (x:V) (v vl vu:Ql) (lo hi:Option Int) (sl:Qo) (Q:VK),Inv X pins σ H s->RelV x v->s.heap.IsSliceOf sl vl vu .none->Q8 vl lo->Q8 vu hi->r x lo hi H Q ->
  ∃ T id,typeLookup (.type T) "__getitem__"=pure (some (.builtin id))/\s.TypeIs v T/\Qx (model X.prog X.w) X.A (getItem v (.ref sl)) (EP X pins σ Q) X.xe s
def Mw (r:V->Option Int->Option Int->Hp->VK->Prop) (te:TE) (tl th:TO):TE:=fun σ H Q=>te σ H fun x H1=>tl σ H1 fun l H2=>th σ H2 fun u H3=>r x l u H3 Q
theorem BF {r:V->Option Int->Option Int->Hp->VK->Prop} (hr:JT X r) (he:PE X e te) (hl:PO X lo tl) (hu:PO X hi th):PE X (.Subscript e (.Slice lo hi none p2) pos) (Mw r te tl th):=by
 intro pins s σ H Q I h
 refine Subscript_ (dB (he pins s σ H _ I h) fun v s1 ⟨x,H1,I1,r1,q1⟩=>?_)
 refine wpAny_Slice (dB (hl pins s1 σ H1 _ I1 q1) fun vl s2 ⟨l,H2,I2,pl,q2⟩=>dB (hu pins s2 σ H2 _ I2 q2) fun vu s3 ⟨u,H3,I3,pu,q3⟩=>?_)
 rw [evalPart_none]
 refine QG ?_
 have I4:Inv X pins σ H3 { s3 with heap:=s3.heap.push { cls:=.type "slice",data:=.fields #[vl,vu,.none] } }:=I3.kept (t':=s3.toks) fun b ob q=>PN _ q
 obtain⟨T,id,hT,ht,hg⟩:=hr pins { s3 with heap:=s3.heap.push { cls:=.type "slice",data:=.fields #[vl,vu,.none] } } σ H3 x v vl vu l u s3.heap.objs.size Q I4 r1 (Heap.IsSliceOf.new ..) pl pu q3
 show Qx (model X.prog X.w) X.A (subscriptTail e (.Slice lo hi none p2) v (.ref s3.heap.objs.size)) (EP X pins σ Q) X.xe { s3 with heap:=s3.heap.push { cls:=.type "slice",data:=.fields #[vl,vu,.none] } }
 exact tail_any (ops:=[.ref s3.heap.objs.size,v]) ht hT hg (by with_unfolding_all rfl)

def wV (xs:List V) (lo hi:Option Int):List V:=(xs.drop (HT.sIx xs.length 0 lo)).take (HT.sIx xs.length xs.length hi - HT.sIx xs.length 0 lo)
theorem pG (xs:List V) (lo hi:Option Int):(wV xs lo hi).length<=xs.length:=by
 unfold wV
 rw [M2,Nb]
 omega
def LK (K:O2):V->Option Int->Option Int->Hp->VK->Prop:=fun x lo hi H Q=>∃ a xs,x=.ref a/\oR K H a xs /\
 ¬ (HT.sIx xs.length 0 lo=0/\HT.sIx xs.length xs.length hi=xs.length)/\∀ p,H p=none->Q (.ref p) (upd H p (.tup (wV xs lo hi)))
theorem G5:JT X (LK X.K):=by
 intro pins s σ H x v vl vu lo hi sl Q I rx hs pl pu h
 obtain⟨a,xs,rfl,hx,hw,q⟩:=h
 cases rx
 obtain⟨its,r,ht,hz⟩:=I.tuple hx
 have hlen:its.toArray.size=xs.length:=by rw [MR]; exact r.length.symm
 refine⟨"tuple",_,PyProof.Rows.slot_tuple_getitem.lookup,ht.typeIs,?_⟩
 refine HT.zG ht hs pl pu (by rw [hlen]; exact hw) ?_ (by rw [hlen]; exact hz)
 rw [hlen]
 refine⟨.ref s.heap.objs.size,_,I.laid (t':=s.toks) (o:=.tup (wV xs lo hi)) (fun b ob q=>PN _ q) (MO _) ?_,rfl,q _ (I.hok.fresh (MO _))⟩
 exact⟨MF (pG xs lo hi) hz,_,(r.drop (HT.sIx xs.length 0 lo)).take (HT.sIx xs.length xs.length hi - HT.sIx xs.length 0 lo),IsTup.new _ _⟩

def HD (K:O2):R2:=fun x y H Q=>∃ a b xs ys,x=.ref a/\y=.ref b/\oR K H a xs/\oR K H b ys/\xs≠[]/\xs.length+ys.length<=Qq /\
 (ys=[]->Q (.ref a) H)/\(ys≠[]->∀ p,H p=none->Q (.ref p) (upd H p (.tup (xs++ys))))
theorem Vals.nil_iff {xs:List V} {us:List Ql} (r:Vals xs us):us=[]↔xs=[]:=by
 cases r with
 | nil=>simp
 | cons _ _=>simp
theorem DA:kD X (QL .Add) (HD X.K):=by
 intro pins s σ H x y v u Q I rx ry h
 obtain⟨a,b,xs,ys,rfl,rfl,ha,hb,hx,hz,q1,q2⟩:=h
 cases rx
 cases ry
 obtain⟨its,r1,p1,_⟩:=I.tuple ha
 obtain⟨its2,r2,p2,_⟩:=I.tuple hb
 refine HT.Jt p1 p2 (fun z=>hx (r1.nil_iff.mp z)) (fun z=>⟨.ref a,H,I,rfl,q1 (r2.nil_iff.mp z)⟩) (fun z=>?_) (by rw [<- r1.length,<- r2.length]; exact hz)
 refine⟨.ref s.heap.objs.size,_,I.laid (t':=s.toks) (o:=.tup (xs++ys)) (fun b ob q=>PN _ q) (MO _) ?_,rfl,q2 (fun w=>z (r2.nil_iff.mpr w)) _ (I.hok.fresh (MO _))⟩
 exact⟨by rw [M8]; exact hz,_,r1.append r2,IsTup.new _ _⟩
end
end L2

namespace L2
open PySem PySem.Spec PyProof.Rows

def uy (n:Nat) (i:Int):Option Nat:=if 0<=i then (if i < n then some i.toNat else none) else if -(n:Int)<=i then some (i+n).toNat else none
def nF {α:Type} (xs:List α) (i:Int):Option α:=(uy xs.length i).bind fun j=>xs[j]?
theorem yZ {n:Nat} {i:Int} {j:Nat} (h:uy n i=some j):seqIndex? i n=some j/\j < n/\-(n:Int)<=i/\i < n:=by
 unfold uy at h
 by_cases h0:0<=i
 ·rw [if_pos h0] at h
  by_cases h1:i < n
  ·rw [if_pos h1] at h
   have e:i.toNat=j:=Option.some.inj h
   exact⟨by rw [seqIndex_of h0 h1,e],by omega,by omega,h1⟩
  ·rw [if_neg h1] at h; cases h
 ·rw [if_neg h0] at h
  by_cases h1:-(n:Int)<=i
  ·rw [if_pos h1] at h
   have e:(i+n).toNat=j:=Option.some.inj h
   exact⟨by rw [seqIndex_neg ‹0› h1,e],by omega,h1,by omega⟩
  ·rw [if_neg h1] at h; cases h
theorem vp {α:Type} {xs:List α} {i:Int} {v:α} (h:nF xs i=some v):∃ j,seqIndex? i xs.length=some j/\xs[j]?=some v/\j < xs.length/\-(xs.length:Int)<=i/\i < xs.length:=by
 unfold nF at h
 cases e:uy xs.length i with
 | none=>rw [e] at h; cases h
 | some j =>
  rw [e] at h
  obtain⟨h1,h2,h3,h4⟩:=yZ e
  exact⟨j,h1,h,h2,h3,h4⟩
def nK (b:Qy):Prop:=∀ o i,subscripted b false o i=operate [o,i] (getItem o i)
def IL (X:Cx) (r:R2):Prop :=
 ∀ (value slice:Qy) (pins:List (Qo×Obj)) (s:Qu) (σ:St) (H:Hp) (x y:V) (v u:Ql) (Q:VK),Inv X pins σ H s->RelV x v->RelV y u->r x y H Q ->
  subscripted slice false v u=operate [v,u] (getItem v u)->Qx (model X.prog X.w) X.A (subscriptTail value slice v u) (EP X pins σ Q) X.xe s
def JP (X:Cx) (id:String) (r:V->List V->Hp->VK->Prop):Prop :=
 ∀ (pins:List (Qo×Obj)) (s:Qu) (σ:St) (H:Hp) (x:V) (xs:List V) (v:Ql) (us:List Ql) (Q:VK),Inv X pins σ H s->RelV x v->Vals xs us->r x xs H Q ->
  Qx (model X.prog X.w) X.A (call (.builtin id) (v::us)) (EP X pins σ Q) X.xe s
section
variable {X:Cx} {a b:Qy} {ta tb:TE} {pos:Pos}
theorem E5 {r:R2} (hr:IL X r) (ha:PE X a ta) (hb:PE X b tb) (hs:nK b):PE X (.Subscript a b pos) (HY r ta tb):=by
 intro pins s σ H Q I h
 exact Subscript_ (FP ha hb I h fun v u s2 x y H2 I2 rx ry q=>hr a b pins s2 σ H2 x y v u Q I2 rx ry q (hs _ _))

def JY (K:O2):R2:=fun x y H Q=>∃ p xs i v,x=.ref p/\y=.int i/\mG K H p xs/\nF xs i=some v/\Q v H
def LO (K:O2):R2:=fun x y H Q=>∃ p xs i v,x=.ref p/\y=.int i/\oR K H p xs/\nF xs i=some v/\Q v H
def KQ:R2:=fun x y H Q=>∃ z i c,x=.str z/\y=.int i/\z.length<=Qq/\nF z.cps.toList i=some c/\Q (.str ⟨#[c]⟩) H
theorem yF:IL X (JY X.K):=by
 intro value slice pins s σ H x y v u Q I rx ry h hs
 obtain⟨p,xs,i,z,rfl,rfl,hq,he,q⟩:=h
 cases rx
 obtain⟨t,rfl⟩:=ry
 obtain⟨its,r,pl,hz⟩:=I.list hq
 obtain⟨j,h1,h2,h3,h4,h5⟩:=vp he
 obtain⟨w,ew,rw'⟩:=r.get h2
 have hl:=r.length
 have hn:=ng
 have fin:EP X pins σ Q w s:=⟨z,H,I,rw',q⟩
 by_cases h0:0<=i
 ·have hj:i.toNat=j:=by
   rw [seqIndex_of h0 h5] at h1
   exact Option.some.inj h1
  exact item_listR pl.isList h0 ‹0› (by rw [hj]; simpa using ew) fin hs
 ·have hj:(i+(its.toArray.size:Int)).toNat=j:=by
   rw [seqIndex_neg ‹0› h4] at h1
   rw [MR,<- hl]
   exact Option.some.inj h1
  exact subscriptTail_builtinR (x:=w) pl.isList.typeIs slot_list_getitem.lookup
   (wpAny_getItem_list_neg (Q:=fun r s'=>r=w/\EP X pins σ Q r s') pl.isList ‹0› (by rw [MR] <;> omega) ‹0› (by rw [hj]; simpa using ew) ⟨rfl,fin⟩) hs
theorem G9:IL X (LO X.K):=by
 intro value slice pins s σ H x y v u Q I rx ry h hs
 obtain⟨p,xs,i,z,rfl,rfl,hq,he,q⟩:=h
 cases rx
 obtain⟨t,rfl⟩:=ry
 obtain⟨its,r,pl,hz⟩:=I.tuple hq
 obtain⟨j,h1,h2,h3,h4,h5⟩:=vp he
 obtain⟨w,ew,rw'⟩:=r.get h2
 have hl:=r.length
 have hn:=ng
 have fin:EP X pins σ Q w s:=⟨z,H,I,rw',q⟩
 exact subscriptTail_builtinR (x:=w) pl.typeIs slot_tuple_getitem.lookup
  (getItem_tuple (j:=j) (Q:=fun r s'=>r=w/\EP X pins σ Q r s') pl ‹0› ‹0› (by rw [MR,<- hl]; exact h1) (by simpa using ew) ⟨rfl,fin⟩) hs
theorem Ga:IL X KQ:=by
 intro value slice pins s σ H x y v u Q I rx ry h hs
 obtain⟨z,i,c,rfl,rfl,hz,he,q⟩:=h
 obtain⟨t,rfl⟩:=rx
 obtain⟨t',rfl⟩:=ry
 obtain⟨j,h1,h2,h3,h4,h5⟩:=vp he
 have hl:z.cps.toList.length=z.length:=by simp [Str.length]
 rw [hl] at h1 h4 h5
 have hn:=ng
 exact tail_any (typeIs_str s z t) slot_str_getitem.lookup (getItem_str (c:=c) (by
  have e1:decide (i < -(2 ^ 63:Int))=false:=decide_eq_false ‹0›
  have e2:decide (i>=2 ^ 63)=false:=decide_eq_false ‹0›
  rw [e1,e2,Bool.or_false]) (by rw [h1]; simpa using h2) ⟨.str ⟨#[c]⟩,H,I.tok _,⟨_,rfl⟩,q⟩) hs
theorem xL (its:List Ql) (n j:Nat) (u:Ql):Obj.mapSeq (·.setIfInBounds j u) { cls:=.type "list",data:=.seq its.toArray n }={ cls:=.type "list",data:=.seq (its.set j u).toArray n }:=by
 simp [Obj.mapSeq]
theorem Inv.lst {pins:List (Qo×Obj)} {σ:St} {H:Hp} {s:Qu} {p:Qo} {xs:List V} (I:Inv X pins σ H s) (h:H p=some (.lst xs)) :
  ∃ (its:List Ql) (n:Nat),Vals xs its/\s.heap.get? p=some { cls:=.type "list",data:=.seq its.toArray n }/\xs.length<=Qq:=by
 obtain⟨z,its,n,r,e⟩:=I.hok p _ h
 exact⟨its,n,r,e,z⟩
theorem Inv.lstUpd {pins:List (Qo×Obj)} {σ:St} {H:Hp} {s:Qu} {p:Qo} {xs ys:List V} {its its':List Ql} {n n':Nat} {f:Obj->Obj} (I:Inv X pins σ H s) (h:H p=some (.lst xs))
  (ho:s.heap.get? p=some { cls:=.type "list",data:=.seq its.toArray n }) (hf:f { cls:=.type "list",data:=.seq its.toArray n }={ cls:=.type "list",data:=.seq its'.toArray n' }) (r:Vals ys its') (hz:ys.length<=Qq) (t:Nat) :
  Inv X pins σ (upd H p (.lst ys)) { s with heap:=s.heap.update p f,toks:=t }:=by
 have e:(s.heap.update p f).get? p=some { cls:=.type "list",data:=.seq its'.toArray n' }:=by
  rw [PR f ho (by rw [hf] <;> rfl),hf]
 refine I.write (x:=p) (e:=p) (by rw [h]; trivial) (.inl rfl) (fun b u hb q=>(PV _ _ (Ne.symm hb)).trans q) ⟨_,e⟩ ?_
 exact⟨hz,its',n',r,e⟩
def E9:V->V->V->Hp->(Hp->Prop)->Prop:=fun o i v H Q=>∃ p xs k j,o=.ref p/\i=.int k/\H p=some (.lst xs)/\uy xs.length k=some j/\Q (upd H p (.lst (xs.set j v)))
theorem set_list:Iz X E9:=by
 intro pins s σ H o i v ov iv u Q I ro ri rv h
 obtain⟨p,xs,k,j,rfl,rfl,hp,hj,q⟩:=h
 cases ro
 obtain⟨t,rfl⟩:=ri
 obtain⟨its,n,r,ho,hz⟩:=I.lst hp
 obtain⟨h1,h2,h3,h4⟩:=yZ hj
 have hl:=r.length
 have hn:=ng
 have I':Inv X pins σ (upd H p (.lst (xs.set j v))) { s with heap:=s.heap.update p (Obj.mapSeq (·.setIfInBounds j u)) } :=
  I.lstUpd hp ho (xL its n j u) (r.set rv j) (by rw [Nf]; exact hz) s.toks
 by_cases h0:0<=k
 ·have hk:k.toNat=j:=by
   rw [seqIndex_of h0 h4] at h1
   exact Option.some.inj h1
  exact PySem.W.ki_setAt ho h0 ‹0› (by rw [MR,<- hl]; exact h4) (by rw [hk]; exact⟨_,I',q⟩)
 ·have hk:(k+(its.toArray.size:Int)).toNat=j:=by
   rw [seqIndex_neg ‹0› h3] at h1
   rw [MR,<- hl]
   exact Option.some.inj h1
  exact PySem.W.ki_setBack ho ‹0› (by rw [MR,<- hl]; exact h3) ‹0› (by rw [hk]; exact⟨_,I',q⟩)

theorem uO (lo hi:Option Int) (n:Nat):(sliceBounds lo hi none n).1=((HT.sIx n 0 lo:Nat):Int)/\(sliceBounds lo hi none n).2.1=((HT.sIx n n hi:Nat):Int)/\(sliceBounds lo hi none n).2.2=1:=by
 refine⟨?_,?_,rfl⟩
 ·cases lo with
  | none=>simp [sliceBounds,HT.sIx]
  | some i =>
   simp only [sliceBounds,HT.sIx,Ng,show (1:Int) > 0 by decide,if_true]
   by_cases h:i < 0
   ·simp only [h,if_true] <;> omega
   ·simp only [h,if_false] <;> omega
 ·cases hi with
  | none=>simp [sliceBounds,HT.sIx]
  | some i =>
   simp only [sliceBounds,HT.sIx,Ng,show (1:Int) > 0 by decide,if_true]
   by_cases h:i < 0
   ·simp only [h,if_true] <;> omega
   ·simp only [h,if_false] <;> omega
theorem sF (its:List Ql) (lo hi:Option Int):slicePick its.toArray lo hi none=((its.drop (HT.sIx its.length 0 lo)).take (HT.sIx its.length its.length hi - HT.sIx its.length 0 lo)).toArray:=by
 obtain⟨h1,h2,h3⟩:=uO lo hi its.toArray.size
 unfold slicePick
 rw [h1,h2,h3]
 simp only [sliceRange_one,pick_run,MR] <;> rfl
def JZ (K:O2):V->Option Int->Option Int->Hp->VK->Prop:=fun x lo hi H Q=>∃ a xs,x=.ref a/\mG K H a xs/\∀ p,H p=none->Q (.ref p) (upd H p (.lst (wV xs lo hi)))
theorem Ed:JT X (JZ X.K):=by
 intro pins s σ H x v vl vu lo hi sl Q I rx hs pl pu h
 obtain⟨a,xs,rfl,hx,q⟩:=h
 cases rx
 obtain⟨its,r,ht,hz⟩:=I.list hx
 have hlen:=r.length
 refine⟨"list",_,slot_list_getitem.lookup,ht.isList.typeIs,?_⟩
 refine wpAny_getItem_list_slice ht.isList hs pl pu .none (by simp) ?_ (by rw [MR] <;> omega)
 rw [sF,<- hlen]
 refine⟨.ref s.heap.objs.size,_,I.laid (t':=s.toks) (o:=.lst (wV xs lo hi)) (fun b ob q=>PN _ q) (MO _) ?_,rfl,q _ (I.hok.fresh (MO _))⟩
 exact⟨MF (pG xs lo hi) hz,_,0,(r.drop (HT.sIx xs.length 0 lo)).take (HT.sIx xs.length xs.length hi - HT.sIx xs.length 0 lo),PP _ rfl⟩

def Dg:V->Bool
 | .non=>true
 | .bl _=>true
 | .int _=>true
 | .str _=>true
 | _=>false
def Lg:V->V->Bool
 | .non,.non=>true
 | .bl a,.bl b=>a==b
 | .bl a,.int b=>(if a then 1 else 0)==b
 | .int a,.bl b=>a==(if b then 1 else 0)
 | .int a,.int b=>a==b
 | .str a,.str b=>a==b
 | _,_=>false
theorem Fw {A:Qt} {s:Qu} {y x:V} {u v:Ql} (ry:RelV y u) (rx:RelV x v) (fy:Dg y=true) (fx:Dg x=true):SeqAt.EqAt A s u v (Lg y x):=by
 cases y with
 | non =>
  cases ry
  cases x with
  | non=>cases rx; exact SeqAt.EqAt.same _
  | bl b=>cases rx; exact SeqAt.EqAt.none_bool b
  | int b=>obtain⟨t,rfl⟩:=rx; exact SeqAt.EqAt.none_int b t
  | str b=>obtain⟨t,rfl⟩:=rx; exact SeqAt.EqAt.none_str b t
  | _=>exact absurd (show false=true from fx) MS
 | bl a =>
  cases ry
  cases x with
  | non=>cases rx; exact SeqAt.EqAt.bool_none a
  | bl b=>cases rx; exact SeqAt.EqAt.bool_bool a b
  | int b=>obtain⟨t,rfl⟩:=rx; exact SeqAt.EqAt.bool_int a b t
  | str b=>obtain⟨t,rfl⟩:=rx; exact SeqAt.EqAt.bool_str a b t
  | _=>exact absurd (show false=true from fx) MS
 | int a =>
  obtain⟨t',rfl⟩:=ry
  cases x with
  | non=>cases rx; exact SeqAt.EqAt.int_none a t'
  | bl b=>cases rx; exact SeqAt.EqAt.int_bool a t' b
  | int b=>obtain⟨t,rfl⟩:=rx; exact SeqAt.EqAt.int_int a t' b t
  | str b=>obtain⟨t,rfl⟩:=rx; exact SeqAt.EqAt.int_str a t' b t
  | _=>exact absurd (show false=true from fx) MS
 | str a =>
  obtain⟨t',rfl⟩:=ry
  cases x with
  | non=>cases rx; exact SeqAt.EqAt.str_none a t'
  | bl b=>cases rx; exact SeqAt.EqAt.str_bool a t' b
  | int b=>obtain⟨t,rfl⟩:=rx; exact SeqAt.EqAt.str_int a t' b t
  | str b=>obtain⟨t,rfl⟩:=rx; exact SeqAt.EqAt.str_str a t' b t
  | _=>exact absurd (show false=true from fx) MS
 | _=>exact absurd (show false=true from fy) MS
theorem oq:eG X (.builtin "len") (fun xs H Q=>∃ p ys,xs=[.ref p]/\(mG X.K H p ys\/oR X.K H p ys)/\Q (.int ys.length) H):=by
 intro pins s σ H xs us Q I r h
 obtain⟨p,ys,rfl,hq,q⟩:=h
 obtain⟨u,rfl,rx⟩:=vals1 r
 cases rx
 have hn:=ng
 rcases hq with hq | hq
 ·obtain⟨its,r',pl,hz⟩:=I.list hq
  have hlen:=r'.length
  exact Calls.call_len_list pl.isList (by simp only [MR] <;> omega) ⟨.int ys.length,H,I.tok _,⟨s.toks+1,by rw [MR,hlen]⟩,q⟩
 ·obtain⟨its,r',pl,hz⟩:=I.tuple hq
  have hlen:=r'.length
  exact len_tuple pl (by simp only [MR] <;> omega) ⟨.int ys.length,H,I.tok _,⟨s.toks+1,by rw [MR,hlen]⟩,q⟩
theorem ve:eG X (.builtin "len") (fun xs H Q=>∃ z,xs=[.str z]/\z.length<=Qq/\Q (.int z.length) H):=by
 intro pins s σ H xs us Q I r h
 obtain⟨z,rfl,hz,q⟩:=h
 obtain⟨u,rfl,t,rfl⟩:=vals1 r
 have hn:=ng
 exact len_str ‹0› ⟨.int z.length,H,I.tok _,⟨_,rfl⟩,q⟩
theorem vo:eG X (.type "list") (fun xs H Q=>∃ p ys,xs=[.ref p]/\(mG X.K H p ys\/oR X.K H p ys)/\∀ l,H l=none->Q (.ref l) (upd H l (.lst ys))):=by
 intro pins s σ H xs us Q I r h
 obtain⟨p,ys,rfl,hq,q⟩:=h
 obtain⟨u,rfl,rx⟩:=vals1 r
 cases rx
 have fin:∀ (its:List Ql),Vals ys its->ys.length<=Qq->∀ (h':Qp) (c':Nat),(∀ b o',s.heap.get? b=some o'->h'.get? b=some o') ->
   h'.get? s.heap.objs.size=some { cls:=.type "list",dict:=none,data:=.seq its.toArray c',slots:=#[] }->EP X pins σ Q (.ref s.heap.objs.size) { s with heap:=h' }:=fun its r' hz h' c' kp e =>
  ⟨.ref s.heap.objs.size,_,I.laid (t':=s.toks) kp (MO _) (show dg X.prog X.w _ h' _ (.lst ys) from ⟨hz,its,c',r',e⟩),rfl,q _ (I.hok.fresh (MO _))⟩
 rcases hq with hq | hq
 ·obtain⟨its,r',pl,hz⟩:=I.list hq
  have hlen:=r'.length
  obtain⟨o,ho,hc,n,hd⟩:=pl.isList
  exact call_list_seq p (.inl rfl) ho hc hd (fun h' c' kp e=>fin its r' hz h' c' kp e) (by simp only [MR] <;> omega)
 ·obtain⟨its,r',pl,hz⟩:=I.tuple hq
  have hlen:=r'.length
  obtain⟨o,ho,hc,n,hd⟩:=pl
  exact call_list_seq p (.inr rfl) ho hc hd (fun h' c' kp e=>fin its r' hz h' c' kp e) (by simp only [MR] <;> omega)
theorem mS:eG X (.type "tuple") (fun xs H Q=>∃ p ys,xs=[.ref p]/\((mG X.K H p ys/\∀ l,H l=none->Q (.ref l) (upd H l (.tup ys)))\/(oR X.K H p ys/\Q (.ref p) H))):=by
 intro pins s σ H xs us Q I r h
 obtain⟨p,ys,rfl,h⟩:=h
 obtain⟨u,rfl,rx⟩:=vals1 r
 cases rx
 rcases h with ⟨hq,q⟩ | ⟨hq,q⟩
 ·obtain⟨its,r',pl,hz⟩:=I.list hq
  have hlen:=r'.length
  refine call_tuple_list pl.isList (fun h' kp=>?_) (by simp only [MR] <;> omega)
  have I1:Inv X pins σ H { s with heap:=h' }:=I.kept (t':=s.toks) kp
  have I2:Inv X pins σ (upd H h'.objs.size (.tup ys)) { s with heap:=h'.push { cls:=.type "tuple",data:=.seq its.toArray } } :=
   I1.laid (t':=s.toks) (fun b o e=>PN _ e) (MO _) (show dg X.prog X.w _ _ _ (.tup ys) from ⟨hz,its,r',IsTup.new _ _⟩)
  exact⟨.ref h'.objs.size,_,I2,rfl,q _ (I1.hok.fresh (MO _))⟩
 ·obtain⟨its,r',pl,hz⟩:=I.tuple hq
  exact call_tuple_same pl ⟨.ref p,H,I,rfl,q⟩

def KP (K:O2) (T:String) (x:V) (H:Hp):Prop:=match x with
 | .str _=>T = "str"
 | .int _=>T = "int"
 | .ref p=>(T = "list"/\∃ xs,mG K H p xs)\/(T = "tuple"/\∃ o,K.lookup p=some o/\o.cls=.type "tuple"/\o.dict=none) \/
   (T = "dict"/\((∃ kvs,H p=some (.dK kvs))\/∃ kvs,H p=some (.dT kvs)))\/(T = "set"/\∃ S n,H p=some (.set S n))
 | _=>False
theorem Cg {pins:List (Qo×Obj)} {σ:St} {H:Hp} {s:Qu} {T:String} {x:V} {v:Ql} (I:Inv X pins σ H s) (r:RelV x v) (ty:KP X.K T x H) :
  s.TypeIs v T/\∀ a,v=.ref a->∃ ob,s.heap.get? a=some ob/\ob.dict=none:=by
 cases x with
 | str z =>
  obtain⟨t,rfl⟩:=r
  cases (show T = "str" from ty)
  exact⟨typeIs_str s z t,fun _ e=>nomatch e⟩
 | int i =>
  obtain⟨t,rfl⟩:=r
  cases (show T = "int" from ty)
  exact⟨typeIs_int s i t,fun _ e=>nomatch e⟩
 | ref p =>
  cases r
  rcases ty with ⟨rfl,xs,hq⟩ | ⟨rfl,o,hk,hc,hd⟩ | ⟨rfl,hk⟩ | ⟨rfl,S,n,hk⟩
  ·obtain⟨its,_,pl,_⟩:=I.list hq
   refine⟨pl.isList.typeIs,fun a e=>?_⟩
   cases e
   obtain⟨o,n,e,c,hd,_⟩:=pl
   exact⟨o,e,hd⟩
  ·refine⟨⟨o,I.kIn p o hk,hc⟩,fun a e=>?_⟩
   cases e
   exact⟨o,I.kIn _ o hk,hd⟩
  ·have z:∃ o,s.heap.get? p=some o/\o.ExactDict:=by
    rcases hk with ⟨kvs,hk⟩ | ⟨kvs,hk⟩
    ·obtain⟨_,_,_,_,o,_,_,e,ex,_⟩:=I.hok p _ hk
     exact⟨o,e,ex⟩
    ·obtain⟨_,_,_,_,o,_,_,e,ex,_⟩:=I.hok p _ hk
     exact⟨o,e,ex⟩
   obtain⟨o,e,ex⟩:=z
   refine⟨⟨o,e,ex.1⟩,fun a e2=>?_⟩
   cases e2
   exact⟨o,e,ex.2.1⟩
  ·obtain⟨o,_,_,_,e,ex,_⟩:=I.hok p _ hk
   refine⟨⟨o,e,ex.1⟩,fun a e2=>?_⟩
   cases e2
   exact⟨o,e,ex.2.1⟩
 | _=>exact False.elim ty
def KZ (K:O2) (T:String) (r:V->List V->Hp->VK->Prop) (to:TE):TE:=fun σ H Q=>to σ H fun x H1=>KP K T x H1/\r x [] H1 Q
def Mo (K:O2) (T:String) (r:V->List V->Hp->VK->Prop) (to:TE) (t:TA):TE:=fun σ H Q=>to σ H fun x H1=>KP K T x H1/\t σ H1 fun xs H2=>r x xs H2 Q
variable {o e:Qy} {es:List Qy} {to:TE} {t:TA} {name:Str} {apos cpos:Pos} {T id:String} {r:V->List V->Hp->VK->Prop}
theorem G1 (pa:PlainAttrs T) (slot:Slot T name id) (hty:typeOf (.builtin id)=pure (.type "method_descriptor")) (hm:JP X id r) (ho:PE X o to)
  (hbase:QS o name X.env (eval o X.env)=eval o X.env:=by rfl) (hline:(apos.endLine==cpos.line)=true:=by rfl):PE X (.Call (.Attribute o name apos) [] [] cpos) (KZ X.K T r to):=by
 intro pins s σ H Q I h
 refine wpAny_Call_method0_late hbase hline (dB (ho pins s σ H _ I h) fun v s1 ⟨x,H1,I1,r1,ty,q1⟩=>?_)
 obtain⟨h1,h2⟩:=Cg I1 r1 ty
 exact⟨T,id,pa,slot,hty,h1,h2,Calls.callWith_builtin rfl (PySem.evalArgs_none (hm pins s1 σ H1 x [] v [] Q I1 r1 .nil q1))⟩
theorem CO (pa:PlainAttrs T) (slot:Slot T name id) (hty:typeOf (.builtin id)=pure (.type "method_descriptor")) (hm:JP X id r) (ho:PE X o to) (ha:PA X (e::es) t)
  (hbase:QS o name X.env (eval o X.env)=eval o X.env:=by rfl)
  (hfew:((backTo cpos (Qz (e::es) X.env)).all (fun x=>!x.1) && (backToKw cpos (QU [] X.env)).all (fun x=>x.1.isSome)
   && decide ((e::es).length+([]:List Q2).length+(if ([]:List Q2).isEmpty then 0 else 1) < 30))=true:=by rfl)
  (hline:(apos.endLine==cpos.line)=true:=by rfl) (hs:Qz (e::es) X.env=(false,eval e X.env)::Qz es X.env:=by rfl) (hplain:(backTo cpos (Qz es X.env)).any (·.1)=false:=by rfl) :
  PE X (.Call (.Attribute o name apos) (e::es) [] cpos) (Mo X.K T r to t):=by
 intro pins s σ H Q I h
 refine wpAny_Call_method_late hbase hfew hline rfl (dB (ho pins s σ H _ I h) fun v s1 ⟨x,H1,I1,r1,ty,q1⟩=>?_)
 obtain⟨h1,h2⟩:=Cg I1 r1 ty
 refine⟨T,id,pa,slot,hty,h1,h2,?_⟩
 have hA:=ha cpos pins s1 σ H1 _ I1 q1
 rw [hs] at hA ⊢
 refine Calls.callWith_builtin (by show (false || (backTo cpos (Qz es X.env)).any (·.1))=false; rw [hplain] <;> rfl) (Calls.evalArgs_plain ?_)
 exact dB hA fun us s2 ⟨vs,H2,I2,r2,q2⟩=>hm pins s2 σ H2 x vs v us Q I2 r1 r2 q2
end
end L2

namespace L2
open PySem PySem.Spec PyProof.Rows

def GL (X:Cx) (id:String) (r:V->List V->Hp->VK->Prop):Prop :=
 ∀ (pins:List (Qo×Obj)) (s:Qu) (σ:St) (H:Hp) (x:V) (xs:List V) (v:Ql) (us:List Ql) (Q:VK),Inv X pins σ H s->RelV x v->Vals xs us->r x xs H Q ->
  Qx (model X.prog X.w) X.A (call (.builtin id) (v::us)) (EP X pins σ Q) X.xe s

theorem Vals.one:∀ {x:V} {us:List Ql},Vals [x] us->∃ u,us=[u]/\RelV x u
 | _,_,.cons r .nil=>⟨_,rfl,r⟩
theorem Vals.zero:∀ {us:List Ql},Vals [] us->us=[]
 | _,.nil=>rfl
theorem Vals.dropLast {xs:List V} {us:List Ql} (h:Vals xs us):Vals xs.dropLast us.dropLast:=by
 induction h with
 | nil=>exact .nil
 | cons r t ih =>
  cases t with
  | nil=>exact .nil
  | cons q t'=>exact .cons r ih
theorem Vals.eraseIdx:∀ {xs:List V} {us:List Ql} (i:Nat),Vals xs us->Vals (xs.eraseIdx i) (us.eraseIdx i)
 | _,_,_,.nil=>.nil
 | _,_,0,.cons _ t=>t
 | _,_,i+1,.cons r t=>.cons r (Vals.eraseIdx i t)
theorem xr {α:Type} (l:List α):l.eraseIdx (l.length - 1)=l.dropLast:=by
 induction l with
 | nil=>rfl
 | cons a r ih =>
  cases r with
  | nil=>rfl
  | cons b r =>
   have e:(a::b::r).length - 1=((b::r).length - 1)+1:=by
    have h1:(a::b::r).length=r.length+2:=rfl
    have h2:(b::r).length=r.length+1:=rfl
    omega
   rw [e,List.eraseIdx_cons_succ,ih]
   all_goals rfl
theorem tN {α:Type}:∀ (l:List α) (i:Nat),(l.eraseIdx i).length<=l.length
 | [],_=>MO _
 | _::_,0=>M0 _
 | _::r,i+1=>Nat.succ_le_succ (tN r i)
section
variable {X:Cx} {pins:List (Qo×Obj)} {σ:St} {H:Hp} {s:Qu} {l b:Qo} {xs ys zs:List V}

theorem Inv.lset {its its':List Ql} {n:Nat} {f:Array Ql->Array Ql} {t':Nat} (I:Inv X pins σ H s) (hH:H l=some (.lst xs))
  (e:s.heap.get? l=some { cls:=.type "list",data:=.seq its.toArray n }) (hf:f its.toArray=its'.toArray) (hv:Vals ys its') (hz:ys.length<=Qq) :
  Inv X pins σ (upd H l (.lst ys)) { s with heap:=s.heap.update l (Obj.mapSeq f),toks:=t' }:=by
 have q:=PySem.IsL.update e f
 rw [hf] at q
 refine I.write (x:=l) (e:=l) (by rw [hH]; exact trivial) (.inl rfl) (fun b' u hb hu=>(PV s.heap (Obj.mapSeq f) (Ne.symm hb)).trans hu) ⟨_,q⟩ ?_
 exact⟨hz,its',_,hv,q⟩
theorem Inv.lnew {its:List Ql} {t':Nat} (I:Inv X pins σ H s) (hv:Vals ys its) (hz:ys.length<=Qq) :
  Inv X pins σ (upd H s.heap.objs.size (.lst ys)) { s with heap:=s.heap.push { cls:=.type "list",data:=.seq its.toArray },toks:=t' } :=
 I.laid (fun _ _ q=>PN _ q) (MO _) ⟨hz,its,0,hv,PP _ rfl⟩
theorem Inv.fresh (I:Inv X pins σ H s):H s.heap.objs.size=none:=I.hok.fresh (MO _)
theorem Inv.lstM (I:Inv X pins σ H s) (hH:H l=some (.lst xs)):xs.length<=Qq/\∃ (its:List Ql) (n:Nat),Vals xs its/\xs.length=its.length/\s.heap.get? l=some { cls:=.type "list",data:=.seq its.toArray n }:=by
 obtain⟨z,its,n,r,e⟩:=I.hok l _ hH
 exact⟨z,its,n,r,r.length,e⟩

end

section
variable {X:Cx}

def yG:V->List V->Hp->VK->Prop:=fun x vs H Q=>∃ l xs y,x=.ref l/\vs=[y]/\H l=some (.lst xs)/\xs.length < Qq/\Q .non (upd H l (.lst (xs++[y])))
theorem fz:GL X "list.append" yG:=by
 intro pins s σ H x vs v us Q I rx rv h
 obtain⟨l,xs,y,rfl,rfl,hH,hz,q⟩:=h
 cases rx
 obtain⟨u,rfl,ru⟩:=rv.one
 obtain⟨z,its,n,r,hl,e⟩:=I.lstM hH
 refine Rf F.slot_list_append ⟨_,e,rfl⟩ F.entry_list_append (F.args_list_append_2 _ _) (PySem.list_append l its.toArray n u (by rw [MR]; omega)) ⟨e,?_⟩
 refine⟨.non,_,I.lset (its':=its++[u]) hH e (by simp) (r.append (.cons ru .nil)) ?_,rfl,q⟩
 rw [M8,Nh]
 omega

def HK:V->List V->Hp->VK->Prop:=fun x vs H Q=>∃ l xs y,x=.ref l/\vs=[]/\H l=some (.lst xs)/\xs[xs.length - 1]?=some y/\Q y (upd H l (.lst xs.dropLast))
theorem FH:GL X "list.pop" HK:=by
 intro pins s σ H x vs v us Q I rx rv h
 obtain⟨l,xs,y,rfl,rfl,hH,hy,q⟩:=h
 cases rx
 have hus:=rv.zero
 subst hus
 obtain⟨z,its,n,r,hl,e⟩:=I.lstM hH
 obtain⟨u,hu,ru⟩:=r.get hy
 have hy':its.toArray[its.toArray.size - 1]?=some u:=by
  show its.toArray[its.length - 1]?=some u
  rw [<- Array.getElem?_toList,<- hl]
  exact hu
 refine Rf F.slot_list_pop ⟨_,e,rfl⟩ F.entry_list_pop (F.args_list_pop_1 _) (MeetsSeq.list_pop_last l its.toArray n u hy' (by rw [MR]; omega)) ⟨e,?_⟩
 refine⟨y,_,I.lset (its':=its.dropLast) hH e ?_ r.dropLast ?_,ru,q⟩
 ·show its.toArray.eraseIdxIfInBounds (its.toArray.size - 1)=its.dropLast.toArray
  rw [MR,Ni,xr]
 ·rw [Nj]
  omega

def CD:V->List V->Hp->VK->Prop:=fun x vs H Q=>∃ l xs i k y,x=.ref l/\vs=[.int i]/\H l=some (.lst xs)/\-(2 ^ 63)<=i/\i < 2 ^ 63/\seqIndex? i xs.length=some k/\xs[k]?=some y/\Q y (upd H l (.lst (xs.eraseIdx k)))
theorem CY:GL X "list.pop" CD:=by
 intro pins s σ H x vs v us Q I rx rv h
 obtain⟨l,xs,i,k,y,rfl,rfl,hH,h1,h2,hk,hy,q⟩:=h
 cases rx
 obtain⟨u,rfl,ru⟩:=rv.one
 obtain⟨t,rfl⟩:=ru
 obtain⟨z,its,n,r,hl,e⟩:=I.lstM hH
 obtain⟨w,hw,rw'⟩:=r.get hy
 refine Rf F.slot_list_pop ⟨_,e,rfl⟩ F.entry_list_pop (F.args_list_pop_2 _ _)
  (MeetsSeq.list_pop_at l its.toArray n i t k w (fitsIndex_both h1 h2) (by rw [MR,<- hl]; exact hk) (by rw [<- Array.getElem?_toList]; exact hw) (by rw [MR]; omega)) ⟨e,?_⟩
 refine⟨y,_,I.lset (its':=its.eraseIdx k) hH e ?_ (r.eraseIdx k) ?_,rw',q⟩
 ·show its.toArray.eraseIdxIfInBounds k=(its.eraseIdx k).toArray
  rw [Ni]
 ·have:=tN xs k
  omega

end


end L2

namespace Att
open PySem PySem.W PySem.Calls PyProof.Rows

theorem qc {P:Params} {h:Qp}:∀ (ns:List Int) (vs:List Ql),WellAll P h vs (ns.map WData.int)->IntsAre vs ns:=by
 intro ns
 induction ns with
 | nil =>
  intro vs w
  rw [Nk] at w
  cases w
  exact .nil
 | cons n ns ih =>
  intro vs w
  rw [MU] at w
  cases w with
  | cons a b =>
   cases a
   exact .cons _ _ (ih _ b)

theorem AW {l:OpenLaw} {n:Nat} (hn:l.most=some n) {P:Params} {h:Qp} {args:List WData} {vals:List Ql}
  (hpre:l.row.toRowW.claim.pre args=true) (hwl:WellAll P h vals args) :
  ∃ a vs ns,vals=[Value.ref a]/\args=[WData.list (ns.map WData.int)]/\h.get? a=some { cls:=.type "list",data:=.seq vs.toArray }/\IntsAre vs ns/\ns.length<=n:=by
 have hsh:WShape.hasAll [] args [.list .int]=true:=(pre_splitW hpre).1
 have hc:l.pre.holds [] { args:=args }=true:=(pre_splitW hpre).2
 obtain⟨d,r,rfl,h1,h2⟩:=hasAllW_cons hsh
 obtain rfl:=hasAllW_nil h2
 obtain⟨xs,rfl,h3⟩:=hasW_list h1
 obtain⟨ns,rfl⟩:=items_int h3
 have hlen:ns.length<=n:=by
  unfold OpenLaw.pre at hc
  have h4:(WTm.not (.lt (.lit (.int (n:Int))) (.len (.arg 0)))).holds [] { args:=[.list (ns.map .int)] }=true:=by
   have h4:=(holds_andW hc).1
   rw [hn] at h4
   exact h4
  have h5:=condW_of h4 (w_not (w_lt w_lit (w_len_list (w_arg rfl))))
  rw [MV] at h5
  refine Nat.le_of_not_lt fun q=>?_
  have q':(n:Int) < ((ns.length:Nat):Int):=by omega
  first
   | (rw [decide_eq_true q'] at h5; exact absurd h5 (by decide))
   | (simp at h5; omega)
 cases hwl with
 | cons w1 w2 =>
  cases w2
  cases w1 with
  | list ho hall=>exact⟨_,_,ns,rfl,rfl,ho,qc ns _ hall,hlen⟩

theorem A6 (l:OpenLaw) (args:List WData):l.row.toRowW.claim.post args (.bool true) args=true :=
 postW_of (r:=l.row.toRowW) (X:=(true==true))
  (show WShape.has [] (.bool true) .bool=true by first | rfl | decide | simp [WShape.has,WShape.arms,WShape.armsAll])
  (show (WTm.eq .res (.lit (.bool true))).value [] { args:=args,res:=some (.bool true),after:=args }=some (.bool (true==true)) from w_eq_bool (w_res rfl) w_lit) rfl

theorem EF {l:OpenLaw} {n:Nat} {q:Qn} {loose:List Str} {XP:(Str->Option Ql)->Qp->Prop} {YP:Qm->Qp->Prop} {d:DefRec}
  (hn:l.most=some n) (hdf:d.params.defaults=[])
  (call:∀ (w:Qm) (s₀ s₁:Qu) (mg mb:Str->Option Ql) (fa:Qo) (o:Obj) (pm cd doc:Ql) (a:Qo) (vs:List Ql) (ns:List Int),
   Ground q loose [] XP w s₀ mg mb s₁.heap->YP w s₁.heap ->
   s₁.heap.get? fa=some o->o.data=.func (docDef d.name d.params d.body d.scope pm cd doc)->s₁.heap.CodeRec cd d.name->mg d.name=some (.ref fa) ->
   s₁.heap.get? a=some { cls:=.type "list",data:=.seq vs.toArray }->IntsAre vs ns->ns.length<=n->s₁.gens=#[] ->
   QR (model l.prog w) callerA (.call (.ref fa) ⟨[.ref a],[]⟩) (fun r s'=>r=.ok (.ret (.bool true))/\OldK s₁.heap s'.heap/\s'.os=s₁.os/\AllBare s'.gens) s₁) :
  WalkO q loose XP YP l.row.toRowW d [] (fun f vs=>PySem.call f vs):=by
 intro w s₀ s₁ mg mb G Y fa o pm cd doc dV kV ho hd hcd hD hmg hg args vals as hpre hlay hrd hwl hlo
 obtain rfl:dV=.none:=Dflts.none hD hdf
 obtain rfl:kV=.none:=Dflts.noKw hD
 obtain⟨a,vs,ns,rfl,rfl,hobj,hints,hlen⟩:=AW hn hpre hwl
 refine enter_call (Q0 (call w s₀ s₁ mg mb fa o pm cd doc a vs ns G Y ho (fd_plain hd) hcd hmg hobj hints hlen hg) fun r s' hq=>?_)
 obtain⟨rfl,h2,h3,h4⟩:=hq
 exact⟨.inl ⟨.bool true,.bool true,[],rfl,fun _=>rfl,.bool true,A6 l _,fun _=>⟨List.Pairwise.nil,fun _ hm=>(nomatch hm)⟩⟩,h2,h3,h4⟩

section
variable {prog:Qn} {w:Qm} {A:Qt} {E:Ql->Qu->Prop} {s:Qu} {K:Frag}

end
end Att

namespace L2
open PySem PySem.Spec PyProof.Rows

theorem sS:∀ {vs:List Ql} {ns:List Int},IntsAre vs ns->Vals (ns.map V.int) vs
 | _,_,.nil=>.nil
 | _,_,.cons n t h=>.cons ⟨t,rfl⟩ (sS h)

def Only (H:Hp):Prop:=∀ b,H b=none\/∃ o xs,H b=some (.frz o (.lst xs))

theorem Bo {P:Qn} {w:Qm} {K:O2} {mg mb:Str->Option Ql} {CX:xg} {k:Nat} {fa a:Qo} {fd:QX} {x:Str} {sp:Sp} {s₁:Qu} {vs:List Ql} {ns:List Int}
  (KX:K.In s₁.heap) (hns:s₁.heap.Ns Qr mg) (hb:s₁.heap.Ns builtinsNs mb) (hbb:∀ x:Str,x ≠ "__name__"->mb x=Qs x) (hlim:s₁.heap.NoLimit) (hg:s₁.gens=#[])
  (ha:s₁.heap.get? a=some { cls:=.type "list",data:=.seq vs.toArray }) (hi:IntsAre vs ns) (hl:ns.length<=Qq) (hr:fX k callerA)
  (F:∀ base:Qp,K.In base->base.Ns Qr mg->jn P w K mg base CX k fa fd [x] sp) (hbind:∀ (s:Qu) (u:Ql),QY s fd ⟨[u],[]⟩ [(x,u)])
  (hsp:∀ H:Hp,Only H->mG K H a (ns.map V.int)->sp [.ref a] H (fun v _=>v=.bl true) fun _ _ _=>False)
  (hCX:∀ H e s',CX [] H s₁ (fun _ _ _=>False) e s'->False) :
  QR (model P w) callerA (.call (.ref fa) ⟨[.ref a],[]⟩) (fun r s'=>r=.ok (.ret (.bool true))/\OldK s₁.heap s'.heap/\s'.os=s₁.os/\AllBare s'.gens) s₁:=by
 have rv:=sS hi
 have lenV:=hi.length
 have core:∀ H:Hp,Only H->mG K H a (ns.map V.int)->pj P w H s₁.heap->(∀ b,H b≠none->b=a)->(H a≠none->K.lookup a=none) ->
   QR (model P w) callerA (.call (.ref fa) ⟨[.ref a],[]⟩) (fun r s'=>r=.ok (.ret (.bool true))/\OldK s₁.heap s'.heap/\s'.os=s₁.os/\AllBare s'.gens) s₁:=by
  intro H hO hS hok hA hK
  have base_of:∀ {b:Qo} {o:Obj},s₁.heap.get? b=some o->H b=none->(pE s₁.heap H).get? b=some o:=fun e n=>vG e n
  have noA:∀ {b:Qo} {o:Obj} {es:Array DictEntry} {ep:Nat},s₁.heap.get? b=some o->o.data=.dict es ep->H b=none:=fun {b o es ep} e d=>by
   cases q:H b with
   | none=>rfl
   | some u =>
    have e':b=a:=hA b (by rw [q]; simp)
    subst e'
    rw [ha] at e; cases e
    have d':Data.seq vs.toArray _=Data.dict es ep:=d
    cases d'
  have nsK:∀ {b:Qo} {m:Str->Option Ql},s₁.heap.Ns b m->(pE s₁.heap H).Ns b m:=fun {b m} ⟨o,es,ep,e,d,r⟩=>⟨o,es,ep,base_of e (noA e d),d,r⟩
  have hKb:K.In (pE s₁.heap H):=fun b o e=>base_of (KX b o e) (by
   cases q:H b with
   | none=>rfl
   | some u =>
    have e':b=a:=hA b (by rw [q]; simp)
    subst e'
    rw [hK (by rw [q]; simp)] at e; cases e)
  have hM:Mod K mg (pE s₁.heap H):=⟨hKb,nsK hns,⟨mb,nsK hb,hbb⟩,let ⟨mc,h1,h2⟩:=hlim; ⟨mc,nsK h1,h2⟩⟩
  have e0:uN P w K mg (pE s₁.heap H) callerA [] s₁ H:=⟨rfl,hM,fun b o e=>yM e,MX (AU _ _),trivial,fun b hb=>absurd (show b∈([]:List Qo) from hb) (by simp),hok,.of_eq hg⟩
  refine Q0 ((F _ hKb (nsK hns)).run callerA [] s₁ H ⟨[.ref a],[]⟩ [.ref a] [.ref a] _ _ hr e0 (hbind s₁ (.ref a)) (.cons rfl .nil) (hsp H hO hS)) fun r s' h=>?_
  cases r with
  | error e=>exact(hCX H e s' h).elim
  | ok fl =>
   cases fl with
   | next=>exact False.elim h
   | brk=>exact False.elim h
   | cont=>exact False.elim h
   | ret u =>
    obtain⟨v,H',os,bare,un,hok',r',q⟩:=h
    have q':v=.bl true:=q
    subst q'
    obtain rfl:u=Value.bool true:=r'
    refine⟨rfl,OldK.of_keep fun b o e=>?_,os,bare⟩
    cases q:H b with
    | none=>exact un.keep b o e q (by intro z; exact absurd (show b∈([]:List Qo) from z) (by simp)) (by simp)
    | some u =>
     rcases hO b with z | ⟨ob,xs,z⟩
     ·rw [q] at z; cases z
     ·have z2:=un.frzs b ob _ z
      obtain⟨e1,_⟩:=hok b _ z
      obtain⟨e2,_⟩:=hok' b _ z2
      rw [e] at e1; cases e1
      exact e2
 cases hk:K.lookup a with
 | some o =>
  have e:=KX a o hk
  rw [ha] at e
  cases e
  refine core (fun _=>none) (fun _=>.inl rfl) (.inr ⟨_,vs.toArray,_,hk,rfl,rfl,rfl,by rw [MR,lenV]; exact hl,by simpa using rv⟩) (fun b u z=>by have z':(none:Option HO)=some u:=z; cases z') (fun b z=>absurd rfl z) fun z=>absurd rfl z
 | none =>
  refine core (fun b=>if b=a then some (.frz { cls:=.type "list",data:=.seq vs.toArray } (.lst (ns.map V.int))) else none) (fun b=>?_) (.inl (.inr ⟨{ cls:=.type "list",data:=.seq vs.toArray },if_pos rfl⟩)) (fun b u z=>?_) (fun b z=>?_) fun _=>hk
  ·by_cases hb:b=a
   ·exact .inr ⟨_,_,if_pos hb⟩
   ·exact .inl (if_neg hb)
  ·by_cases hb:b=a
   ·have z':=(if_pos hb).symm.trans z
    cases z'
    subst hb
    exact⟨ha,by rw [MV]; exact hl,vs,_,rv,ha⟩
   ·have z':=(if_neg hb).symm.trans z
    cases z'
  ·by_cases hb:b=a
   ·exact hb
   ·exact absurd (if_neg hb) z
end L2

namespace L2
open PySem PySem.Spec PyProof.Rows

theorem Jx {l:Pt} {n k:Nat} {q:Qn} {loose:List Str} {XP:(Str->Option Ql)->Qp->Prop} {YP:Qm->Qp->Prop} {d:DefRec} {K:Params->O2} {CX:Qm->xg} {sp:Qm->Sp} {x:Str}
  (hn:l.most=some n) (hn2:n<=Qq) (hdf:d.params.defaults=[]) (hr:fX k callerA)
  (hY:∀ (w:Qm) (h:Qp),YP w h->(K w.params).In h)
  (F:∀ (w:Qm) (mg:Str->Option Ql) (fa:Qo) (h:Qp),(K w.params).In h->h.Ns Qr mg->mg d.name=some (.ref fa) ->
   ∃ fd:QX,(∀ (s:Qu) (u:Ql),QY s fd ⟨[u],[]⟩ [(x,u)]) /\
    ∀ base:Qp,(K w.params).In base->base.Ns Qr mg->jn l.prog w (K w.params) mg base (CX w) k fa fd [x] (sp w))
  (hsp:∀ (w:Qm) (H:Hp) (a:Qo) (ns:List Int),ns.length<=n->Only H->mG (K w.params) H a (ns.map V.int)->sp w [.ref a] H (fun v _=>v=.bl true) fun _ _ _=>False)
  (hCX:∀ (w:Qm) (H:Hp) (s:Qu) (e:Ql) (s':Qu),CX w [] H s (fun _ _ _=>False) e s'->False) :
  PySem.W.WalkO q loose XP YP l.row.toRowW d [] (fun f vs=>PySem.call f vs):=by
 refine Att.EF hn hdf fun w s₀ s₁ mg mb fa o pm cd doc a vs ns G Y ho hd hcd hmg hobj hints hlen hg=>?_
 have KX:=hY w _ Y
 obtain⟨fd,hb,hF⟩:=F w mg fa _ KX G.T.g hmg
 exact Bo KX G.T.g G.T.b G.T.builtins G.T.nolimit hg hobj hints (MF hlen hn2) hr hF hb (fun H hO hS=>hsp w H a ns hlen hO hS) fun H e s'=>hCX w H s₁ e s'
end L2

namespace L2
open PySem PySem.Spec PyProof.Rows

def inClass (s:QA) (j:Nat):QA:=match s with
 | .ClassDef _ _ _ body _ _ _ _ _ _ _=>body.getD j (.Pass ⟨0,0,0,0⟩)
 | _=>.Pass ⟨0,0,0,0⟩
def lG (s:QA):Arguments:=match s with
 | .FunctionDef _ a _ _ _ _ _ _ _ _=>a
 | _=>{ posonlyargs:=[],args:=[],vararg:=none,kwonlyargs:=[],kw_defaults:=[],kwarg:=none,defaults:=[] }
def eF (s:QA):List QA:=match s with
 | .FunctionDef _ _ b _ _ _ _ _ _ _=>b
 | _=>[]
def aB (s:QA):Qv:=match s with
 | .FunctionDef _ _ _ _ _ _ sc _ _ _=>sc
 | _=>{ kind:=.function,names:=[],isGenerator:=false,isCoroutine:=false }

abbrev JH:xg:=fun _ _ _ _ _ _=>False
abbrev E0:XK:=fun _ _ _=>False
structure w8 (K:O2) (x qual:Str) (st:QA) (f:Qo) (fd:QX):Prop where
 ex:∃ (oc:Ql) (od:Option Qo) (kV doc pm:Ql) (an:Option Qo) (cdv ct:Ql) (osl:Array (Option Ql)),
  fd=Pp x qual (lG st) (eF st) (aB st) .none kV doc pm an cdv ct/\K.lookup f=some ⟨oc,od,.func fd,osl⟩/\Pq K cdv qual=true
 kp:Pl K (.ref f)=true
section
variable {P:Qn} {w:Qm} {K:O2} {mg:Str->Option Ql} {base:Qp}
theorem w8.ok {x qual:Str} {st:QA} {f:Qo} {fd:QX} {N ps:List Str} {k:Nat} {sp:Sp} (F:w8 K x qual st f fd) (S:bh N ps (aB st)) (len:∀ vs H Q E,sp vs H Q E->vs.length=ps.length)
  (hbody:∀ (cdv:Ql) (A:Qt) (outer:List Env) (s:Qu) (H:Hp) (vs:List V) (Q:VK) (E:XK),fX k (A.deeper (envOfC qual (aB st) s.heap.objs.size f cdv))->sp vs H Q E ->
   ∃ t,vC (kB JH P w K mg base N qual (aB st) f cdv A outer s H E).nox (eF st) t/\t { nx:=fun _ H'=>Q .non H',rt:=Q } (start N vs) H):jn P w K mg base JH (k+1) f fd ps sp:=by
 obtain⟨oc,od,kV,doc,pm,an,cdv,ct,osl,rfl,lk,hcd⟩:=F.ex
 refine EA lk hcd S len fun A outer s H vs Q E hr hsp=>?_
 obtain⟨t,h,q⟩:=hbody cdv A outer s H vs Q E hr hsp
 exact⟨t,h.nox,q⟩
theorem w8.binds {x qual:Str} {st:QA} {f:Qo} {fd:QX} {ps:List Str} (F:w8 K x qual st f fd)
  (h:∀ (kV doc pm:Ql) (an:Option Qo) (cdv ct:Ql) (us:List Ql),us.length=ps.length->bindArgs (Pp x qual (lG st) (eF st) (aB st) .none kV doc pm an cdv ct) ⟨us,[]⟩=pure (ps.zip us)):Binds K fd ps []:=by
 obtain⟨oc,od,kV,doc,pm,an,cdv,ct,osl,rfl,lk,hcd⟩:=F.ex
 exact .all (h kV doc pm an cdv ct)
theorem ce {x qual:Str} {st:QA} {f:Qo} {oc:Ql} {od an:Option Qo} {osl:Array (Option Ql)} {kV doc pm cdv ct:Ql} (l:K.lookup f=some ⟨oc,od,.func (Pp x qual (lG st) (eF st) (aB st) .none kV doc pm an cdv ct),osl⟩)
  (c:Pq K cdv qual=true) (k:Pl K (.ref f)=true):w8 K x qual st f (Pp x qual (lG st) (eF st) (aB st) .none kV doc pm an cdv ct):=⟨⟨oc,od,kV,doc,pm,an,cdv,ct,osl,rfl,l,c⟩,k⟩
end
section
variable {X:Cx}
theorem pv (i:Nat) {x:Str} {pos:Pos} (hN:X.N[i]?=some x:=by rfl) (hv:Hj X.env.scope x:=by first | exact Or.inl rfl | exact Or.inr (Or.inl rfl) | exact Or.inr (Or.inr rfl)) (hd:(x==("__debug__":Str))=false:=by decide)
  (hcd:(x==("__classdict__":Str))=false:=by decide):PE X (.Name x pos) (qd i):=Gp hN hv hd hcd
end

theorem Bm {A B:Prop} (h:B):if false=true then A else B:=by
 rw [if_neg MS]
 exact h
theorem C4 {A B:Prop} (h:A):if true=true then A else B:=by
 rw [if_pos rfl]
 exact h
def bH (H H':Hp):Prop:=∀ b o,H b=some o->H' b=some o
theorem bH.refl (H:Hp):bH H H:=fun _ _ h=>h
theorem bH.trans {H H1 H2:Hp} (a:bH H H1) (b:bH H1 H2):bH H H2:=fun c o h=>b c o (a c o h)
theorem bH.free {H H':Hp} (e:bH H H') {l:Qo} (h:H' l=Option.none):H l=Option.none:=by
 cases q:H l with
 | none=>rfl
 | some o =>
  rw [e l o q] at h
  cases h
theorem bH.seq {K:O2} {H H':Hp} {a:Qo} {xs:List V} (e:bH H H') (h:mG K H a xs):mG K H' a xs:=by
 rcases h with (h | ⟨o,h⟩) | h
 ·exact .inl (.inl (e _ _ h))
 ·exact .inl (.inr ⟨o,e _ _ h⟩)
 ·exact .inr h

end L2
namespace L2
open PySem PySem.Spec PyProof.Rows

section
variable {κ:Type} [DecidableEq κ]
def xC (kvs:List (κ×V)) (k:κ):Option V:=(kvs.find? fun kv=>decide (kv.1=k)).map (·.2)
def putK (kvs:List (κ×V)) (k:κ) (v:V):List (κ×V) :=
 if (kvs.any fun kv=>decide (kv.1=k))=true then kvs.map (fun kv=>if kv.1=k then (kv.1,v) else kv) else kvs++[(k,v)]
theorem wO {p:κ×V} {r:List (κ×V)} {k:κ} (e:p.1=k):xC (p::r) k=some p.2:=by simp [xC,Nm,e]
theorem vM {p:κ×V} {r:List (κ×V)} {k:κ} (e:¬ p.1=k):xC (p::r) k=xC r k:=by simp [xC,Nm,e]
theorem vV (k:κ):∀ kvs:List (κ×V),(kvs.any fun kv=>decide (kv.1=k))=(xC kvs k).isSome
 | []=>rfl
 | p::r=>by
  rw [Nn]
  by_cases e:p.1=k
  ·simp only [wO e,decide_eq_true e,Np,Option.isSome_some]
  ·rw [vM e,decide_eq_false e,Nq]; exact vV k r
theorem pK (kvs:List (κ×V)) (k:κ) (v:V):(putK kvs k v).length<=kvs.length+1:=by
 unfold putK
 split
 ·rw [MV]; omega
 ·rw [M8,MT,Nr]; omega
theorem wG.isSome_eq {o:Option V} {u:Option Ql} (r:wG o u):o.isSome=u.isSome:=by
 cases o with
 | none=>cases u with
  | none=>rfl
  | some _=>exact(show False from r).elim
 | some _=>cases u with
  | none=>exact(show False from r).elim
  | some _=>rfl
theorem KV.any {kvs:List (κ×V)} {vs:List (κ×Ql)} (r:KV kvs vs) (k:κ):(kvs.any fun kv=>decide (kv.1=k))=vs.any fun kv=>decide (kv.1=k):=by
 unfold KV at r
 induction r with
 | nil=>rfl
 | cons h t ih=>rw [Nn,Nn,ih,h.1]
theorem KV.repl {kvs:List (κ×V)} {vs:List (κ×Ql)} (r:KV kvs vs) (k:κ) {y:V} {u:Ql} (ry:RelV y u) :
  KV (kvs.map fun kv=>if kv.1=k then (kv.1,y) else kv) (vs.map fun kv=>if kv.1=k then (kv.1,u) else kv):=by
 unfold KV at r ⊢
 induction r with
 | nil=>exact .nil
 | @cons p q ps qs h t ih =>
  rw [MU,MU]
  refine .cons ?_ ih
  obtain⟨h1,h2⟩:=h
  by_cases e:p.1=k
  ·rw [if_pos e,if_pos (h1.symm.trans e)]; exact⟨h1,ry⟩
  ·rw [if_neg e,if_neg (fun z=>e (h1.trans z))]; exact⟨h1,h2⟩
theorem KV.put {kvs:List (κ×V)} {vs:List (κ×Ql)} (r:KV kvs vs) (k:κ) {y:V} {u:Ql} (ry:RelV y u):KV (putK kvs k y) (stored vs k u):=by
 unfold putK stored
 rw [r.any k]
 by_cases e:(vs.any fun kv=>decide (kv.1=k))=true
 ·rw [if_pos e,if_pos e]; exact r.repl k ry
 ·rw [if_neg e,if_neg e]; exact Paired.snoc r ⟨rfl,ry⟩
theorem KV.keys {kvs:List (κ×V)} {vs:List (κ×Ql)} (r:KV kvs vs):kvs.map (·.1)=vs.map (·.1):=by
 unfold KV at r
 induction r with
 | nil=>rfl
 | cons h t ih=>rw [MU,MU,ih,h.1]
theorem KV.length {kvs:List (κ×V)} {vs:List (κ×Ql)} (r:KV kvs vs):kvs.length=vs.length:=Paired.length r
end


theorem Fm {P:Qn} {w:Qm} {k:Key} {u:Ql} (r:RelV (kV k) u):(de P w).is k u=true:=by
 cases k with
 | inl i=>obtain⟨t,e⟩:=(show ∃ t,u=Value.int i t from r); subst e; exact wM P w i t
 | inr x=>obtain⟨t,e⟩:=(show ∃ t,u=Value.str x t from r); subst e; exact wa P w x t
theorem sW {P:Qn} {w:Qm}:∀ {ks:List Key} {us:List Ql},Vals (ks.map kV) us->ItemsAre (de P w) ks us
 | [],_,r=>by rw [Nk] at r; cases r; exact .nil
 | k::ks,_,r=>by
  rw [MU] at r
  cases r with
  | cons h t=>exact .cons (Fm h) (sW t)

abbrev KT (H:Hp):List (List Key×V)->List (List Key×Qo×Ql)->Prop:=Paired fun p q=>p.1=q.1/\H q.2.1=some (.tup (p.1.map kV))/\RelV p.2 q.2.2
theorem KT.val {H:Hp} {kvs:List (List Key×V)} {xs:List (List Key×Qo×Ql)} (r:KT H kvs xs) (k:List Key):wG (xC kvs k) ((atKey xs k).map (·.2)):=by
 induction r with
 | nil=>exact True.intro
 | @cons p q ps qs h t ih =>
  obtain⟨h1,_,h2⟩:=h
  by_cases e:p.1=k
  ·have e':q.1=k:=h1.symm.trans e
   have b:atKey (q::qs) k=some q.2:=by simp [atKey,Nm,e']
   rw [wO e,b]; exact h2
  ·have e':¬ q.1=k:=fun z=>e (h1.trans z)
   have b:atKey (q::qs) k=atKey qs k:=by simp [atKey,Nm,e']
   rw [vM e,b]; exact ih
theorem KT.repl {H:Hp} {kvs:List (List Key×V)} {xs:List (List Key×Qo×Ql)} (r:KT H kvs xs) (k:List Key) {y:V} {u:Ql} (ry:RelV y u) :
  KT H (kvs.map fun kv=>if kv.1=k then (kv.1,y) else kv) (xs.map (putAt k u)):=by
 induction r with
 | nil=>exact .nil
 | @cons p q ps qs h t ih =>
  rw [MU,MU]
  refine .cons ?_ ih
  obtain⟨h1,h2,h3⟩:=h
  unfold putAt
  by_cases e:p.1=k
  ·rw [if_pos e,if_pos (h1.symm.trans e)]; exact⟨h1,h2,ry⟩
  ·rw [if_neg e,if_neg (fun z=>e (h1.trans z))]; exact⟨h1,h2,h3⟩
theorem KT.put {H:Hp} {kvs:List (List Key×V)} {xs:List (List Key×Qo×Ql)} (r:KT H kvs xs) (k:List Key) {b:Qo} {y:V} {u:Ql} (hb:H b=some (.tup (k.map kV))) (ry:RelV y u) :
  KT H (putK kvs k y) (storedH xs k b u):=by
 have e:(kvs.any fun kv=>decide (kv.1=k))=(atKey xs k).isSome:=by
  rw [vV,(r.val k).isSome_eq,Option.isSome_map]
 unfold putK storedH
 rw [e]
 by_cases q:(atKey xs k).isSome=true
 ·rw [if_pos q,if_pos q]; exact r.repl k ry
 ·rw [if_neg q,if_neg q]; exact Paired.snoc r ⟨rfl,hb,ry⟩
theorem KT.keeps {H H':Hp} {kvs:List (List Key×V)} {xs:List (List Key×Qo×Ql)} (r:KT H kvs xs) (ht:∀ b ys,H b=some (.tup ys)->H' b=some (.tup ys)):KT H' kvs xs :=
 Paired.mapP r fun _ _ z=>⟨z.1,ht _ _ z.2.1,z.2.2⟩

section
variable {P:Qn} {w:Qm} {H:Hp} {h:Qp} {a:Qo}
theorem E8 {u:HO} (ok:pj P w H h) (e:Rd H a u):dg P w H h a u:=e.ok ok
theorem Hr {kvs:List (Key×V)} (ok:pj P w H h) (e:Rd H a (.dK kvs)):kvs.length<=Qq/\(a==sysModules)=false/\∃ vs,KV kvs vs/\h.DictOf (de P w) a vs :=
 show dg P w H h a (.dK kvs) from E8 ok e
theorem EE {kvs:List (Key×V)} (ok:pj P w H h) (e:H a=some (.dK kvs)):kvs.length<=Qq/\(a==sysModules)=false/\∃ vs,KV kvs vs/\h.DictOf (de P w) a vs:=Hr ok (.inl e)
theorem BI {ks:List Key} (ok:pj P w H h) (e:H a=some (.tup (ks.map kV))):(tupleKind (de P w)).is h ks a:=by
 obtain⟨_,its,r,o,h1,h2,n,h3⟩:=(show dg P w H h a (.tup (ks.map kV)) from ok a _ e)
 exact⟨o,its.toArray,n,h1,h2,h3,by simpa using sW r⟩
theorem Ir {kvs:List (List Key×V)} (ok:pj P w H h) (e:Rd H a (.dT kvs)):kvs.length<=Qq/\(a==sysModules)=false /\
  ∃ xs,KT H kvs xs/\h.DictOfH (tupleKind (de P w)) a xs:=by
 obtain⟨z,y,xs,r,o,es,ep,h1,h2,h3,h4,h5⟩:=(show dg P w H h a (.dT kvs) from E8 ok e)
 refine⟨z,y,xs,r,o,es,ep,h1,h2,h3,h4,fun x hx=>?_,h5⟩
 have all:∀ {l:List (List Key×V)} {m:List (List Key×Qo×Ql)},KT H l m->∀ x∈m,(tupleKind (de P w)).is h x.1 x.2.1:=by
  intro l m q
  induction q with
  | nil=>intro x hx; exact nomatch hx
  | @cons p q ps qs hq t ih =>
   intro x hx
   rcases List.mem_cons.mp hx with e | hx
   ·subst e
    exact BI ok (by rw [<- hq.1]; exact hq.2.1)
   ·exact ih x hx
 exact all r x hx
theorem HL {kvs:List (List Key×V)} (ok:pj P w H h) (e:H a=some (.dT kvs)):kvs.length<=Qq/\(a==sysModules)=false /\
  ∃ xs,KT H kvs xs/\h.DictOfH (tupleKind (de P w)) a xs:=Ir ok (.inl e)
end

def Ht (H:Hp) (a:Qo) (y v:V) (H':Hp):Prop :=
 (∃ kvs k,H a=some (.dK kvs)/\y=kV k/\kvs.length < Qq/\H'=upd H a (.dK (putK kvs k v))) \/
 ∃ kvs k b,H a=some (.dT kvs)/\y=.ref b/\H b=some (.tup (k.map kV))/\kvs.length < Qq/\H'=upd H a (.dT (putK kvs k v))
theorem Ht.k {H:Hp} {a:Qo} {kvs:List (Key×V)} {k:Key} {v:V} (e:H a=some (.dK kvs)) (hl:kvs.length < Qq):Ht H a (kV k) v (upd H a (.dK (putK kvs k v))):=.inl ⟨kvs,k,e,rfl,hl,rfl⟩
section
variable {X:Cx} {pins:List (Qo×Obj)} {σ:St} {H:Hp} {s:Qu} {a:Qo} {y v:V} {u r:Ql} {o:Option V} {A:Qt} {E:Ql->Qu->Prop}

theorem Inv.big (I:Inv X pins σ H s):sysModules < s.heap.objs.size:=by
 have h:Qr < s.heap.objs.size:=(I.mod.glob.keeps I.bk).lt
 exact Nat.lt_trans (by decide) h

theorem uG {h':Qp} {t':Nat} {ob:HO} (I:Inv X pins σ H s) (mu:IG (H a)) (hs:PL a s.heap h') (he:∃ q,h'.get? a=some q) (new:dg X.prog X.w (upd H a ob) h' a ob) :
  Inv X pins σ (upd H a ob) { s with heap:=h',toks:=t' } :=
 I.write (x:=a) (e:=a) mu (.inl rfl) (fun b q hb z=>(hs.2 b hb).trans z) he new
theorem Gq {P:Qn} {w:Qm} {H':Hp} {h':Qp} {kvs:List (Key×V)} {vs:List (Key×Ql)} (z:kvs.length<=Qq) (hd:(a==sysModules)=false) (rel:KV kvs vs) (dd:h'.DictOf (de P w) a vs) :
  dg P w H' h' a (.dK kvs):=⟨z,hd,vs,rel,dd⟩
theorem t6 {H':Hp} {Q:Unit->Qu->Prop} (hu:A.units+1 < QW) (I:Inv X pins σ H s) (g:Ht H a y v H') (ry:RelV y u) (rv:RelV v r) (h:∀ s',Inv X pins σ H' s'->Q () s') :
  Qx (model X.prog X.w) A (setItem (.ref a) u r) Q E s:=by
 rcases g with ⟨kvs,k,e,ey,l,eH⟩ | ⟨kvs,k,b,e,ey,eb,l,eH⟩
 ·subst ey eH
  obtain⟨z,hd,vs,rel,dd⟩:=EE I.hok e
  have hz:vs.length<=Qq:=by rw [<- rel.length]; exact z
  have hl:(putK kvs k v).length<=Qq:=by have:=pK kvs k v; omega
  refine wpAny_setItem_pairs (hsz:=hz) (Fm ry) dd fun h' dd' hs=>h _ ?_
  have he:∃ q,h'.get? a=some q:=let ⟨q,_,_,hq,_⟩:=dd'; ⟨q,hq⟩
  exact uG I (by rw [e]; exact True.intro) hs he (Gq hl hd (rel.put k rv) dd')
 ·subst ey eH
  cases (show u=Value.ref b from ry)
  obtain⟨z,hd,xs,rel,dd⟩:=HL I.hok e
  have hz:xs.length<=Qq:=by rw [<- Paired.length rel]; exact z
  have hl:(putK kvs k v).length<=Qq:=by have:=pK kvs k v; omega
  refine wpAny_setItem_heap (hsz:=hz) (tupleKind_room_in1 hu) (BI I.hok eb) dd fun h' dd' hs=>h _ ?_
  obtain⟨q,es,ep,hq,h2,h3,h4,_,h5⟩:=dd'
  refine uG I (by rw [e]; exact True.intro) hs ⟨q,hq⟩ ⟨hl,hd,_,(rel.put k eb rv).keeps fun c ys ec=>?_,q,es,ep,hq,h2,h3,h4,h5⟩
  rw [bg (Ip ec e (fun z=>nomatch z))]
  exact ec
end





theorem Df {P:Qn} {w:Qm} {H:Hp} (h:Qp) (hb:sysModules < h.objs.size):dg P w H (h.push { cls:=.type "dict",data:=.dict #[] }) h.objs.size (.dT []) :=
 ⟨MY _,beq_eq_false_iff_ne.mpr (Ne.symm (ME hb)),[],.nil,_,#[],0,PP _ rfl,⟨rfl,rfl,rfl⟩,rfl,rfl,Nt⟩
def GN:TE:=fun _ H Q=>∀ p,H p=none->Q (.ref p) (upd H p (.dT []))
section
variable {X:Cx} {pos:Pos}
theorem BA:PE X (.Dict [] [] pos) GN:=fun pins s σ H Q I h =>
 wpAny_Dict_empty ⟨.ref s.heap.objs.size,_,I.laid (a:=s.heap.objs.size) (o:=.dT []) (t':=s.toks) (fun _ _ q=>PN _ q) (MO _) (Df s.heap I.big),rfl,h _ (I.hok.fresh (MO _))⟩
end





end L2
namespace L2
open PySem PySem.Spec PyProof.Rows
end L2
namespace L2
open PySem PySem.Spec PyProof.Rows

def dy (cells:List (Str×Qo)):List (Str×Q3)->List (Str×Qo)->List (Str×Qo)
 | [],acc=>acc
 | (n,k)::r,acc=>if k=.free then (match cells.lookup n with | some c=>dy cells r ((n,c)::acc) | none=>dy cells r acc) else dy cells r acc
theorem lB {cells:List (Str×Qo)}:∀ (names:List (Str×Q3)) (acc:List (Str×Qo)),(∀ x c,acc.lookup x=some c->cells.lookup x=some c) ->
  ∀ x c,(dy cells names acc).lookup x=some c->cells.lookup x=some c
 | [],acc,h=>h
 | (n,k)::r,acc,h=>by
  unfold dy
  by_cases hk:k=.free
  ·rw [if_pos hk]
   cases e:cells.lookup n with
   | none=>exact lB r acc h
   | some c0 =>
    refine lB r _ fun x c q=>?_
    rw [Nu] at q
    cases hx:x==n with
    | true =>
     rw [hx] at q
     have e1:x=n:=by simpa using hx
     cases q
     rw [e1]; exact e
    | false=>rw [hx] at q; exact h x c q
  ·rw [if_neg hk]; exact lB r acc h
theorem j4 {cells:List (Str×Qo)}:∀ (names:List (Str×Q3)) (acc:List (Str×Qo)) (x:Str),(acc.lookup x).isSome=true->((dy cells names acc).lookup x).isSome=true
 | [],acc,x,h=>h
 | (n,k)::r,acc,x,h=>by
  unfold dy
  by_cases hk:k=.free
  ·rw [if_pos hk]
   cases e:cells.lookup n with
   | none=>exact j4 r acc x h
   | some c0 =>
    refine j4 r _ x ?_
    rw [Nu]
    cases hx:x==n with
    | true=>rfl
    | false=>exact h
  ·rw [if_neg hk]; exact j4 r acc x h
theorem jQ {cells:List (Str×Qo)}:∀ (names:List (Str×Q3)) (acc:List (Str×Qo)) (x:Str),(x,NameKind.free)∈names->(∃ c,cells.lookup x=some c)->((dy cells names acc).lookup x).isSome=true
 | [],acc,x,h,_=>absurd h (by simp)
 | (n,k)::r,acc,x,h,hc=>by
  unfold dy
  rcases List.mem_cons.mp h with e | h
  ·cases e
   rw [if_pos rfl]
   obtain⟨c,e⟩:=hc
   rw [e]
   refine j4 r _ _ ?_
   rw [Nu]
   simp
  ·by_cases hk:k=.free
   ·rw [if_pos hk]
    cases e:cells.lookup n with
    | none=>exact jQ r acc x h hc
    | some c0=>exact jQ r _ x h hc
   ·rw [if_neg hk]; exact jQ r acc x h hc
theorem n8 {scope:Qv} {env:Env} (h:∀ p∈scope.names,p.2=.free->∃ c,env.cells.lookup p.1=some c):closureFor scope env=pure (dy env.cells scope.names []):=by
 have go:∀ (names:List (Str×Q3)) (acc:List (Str×Qo)),(∀ p∈names,p.2=.free->∃ c,env.cells.lookup p.1=some c) ->
   (forIn names acc fun x cs=>(match x with | (name,kind)=>if (kind==NameKind.free)=true then do let a <- cellOf env name; pure (ForInStep.yield ((name,a)::cs)) else pure (ForInStep.yield cs):Sem (ForInStep (List (Str×Qo)))))=pure (dy env.cells names acc):=by
  intro names
  induction names with
  | nil=>intro acc _; rfl
  | cons p r ih =>
   intro acc hp
   obtain⟨n,k⟩:=p
   rw [Nv]
   by_cases hk:k=.free
   ·obtain⟨c,e⟩:=hp (n,k) MI hk
    subst hk
    have e2:cellOf env n=pure c:=by unfold cellOf; rw [e]
    simp only [beq_self_eq_true,if_true,e2,pure_bind]
    rw [ih _ fun q hq=>hp q (MJ _ hq)]
    conv=>rhs; rw [dy]
    simp [e]
   ·have hb:(k==NameKind.free)=false:=by simpa using hk
    simp only [hb,Nw,if_false,pure_bind]
    rw [ih _ fun q hq=>hp q (MJ _ hq)]
    conv=>rhs; rw [dy,if_neg hk]
 have:=go scope.names [] h
 unfold closureFor
 simp only []
 rw [this]
 rfl

def cB (X:Cx) (scope:Qv) (N:List Str) (cl:List (Str×Qo)) (C:Qo) (fp:List Qo) (s:Qu) (H:Hp) (E:Ql->Qu->Prop):Cx where
 prog:=X.prog
 w:=X.w
 K:=X.K
 mg:=X.mg
 base:=X.base
 A:=X.A
 N:=N
 s₀:=s
 H₀:=H
 env:=compEnvC scope cl C X.env
 outer:=X.stack
 stack:=X.stack
 ex:=fp
 fn:=fun _=>false
 calm:=X.calm
 pn:=[]
 xe:=E

def uB (XN N:List Str) (names:List (Str×Q3)) (ix:List (Option Nat)):Bool :=
 decide (ix.length=N.length) && (N.zip ix).all fun p=>match p.2 with
  | some i=>decide (XN[i]?=some p.1) && decide (names.lookup p.1=some .free)
  | none=>true
def inBlock (ix:List (Option Nat)) (σ:St):St:=ix.map fun o=>match o with
 | some i=>(σ[i]?).getD none
 | none=>none
theorem uB.len {XN N:List Str} {names:List (Str×Q3)} {ix:List (Option Nat)} (h:uB XN N names ix=true):ix.length=N.length:=by
 unfold uB at h
 rw [Nc] at h
 exact of_decide_eq_true h.1
theorem uB.at_ {XN N:List Str} {names:List (Str×Q3)} {ix:List (Option Nat)} (h:uB XN N names ix=true) {j i:Nat} {x:Str} (h1:N[j]?=some x) (h2:ix[j]?=some (some i)):XN[i]?=some x/\names.lookup x=some .free:=by
 unfold uB at h
 rw [Nc] at h
 have hm:(x,some i)∈N.zip ix:=by
  have e:(N.zip ix)[j]?=some (x,some i):=by rw [List.getElem?_zip_eq_some]; exact⟨h1,h2⟩
  exact M7 e
 have q:=List.all_eq_true.mp h.2 _ hm
 simp only [Nc] at q
 exact⟨of_decide_eq_true q.1,of_decide_eq_true q.2⟩

theorem kY {env:Env}:∀ {names:List (Str×Q3)} {x:Str} {k:Q3},
  (names.map fun (n,k)=>if (k==NameKind.free && env.scope.kind==.function && env.kindOf n==some .cell) then (n,NameKind.cell) else (n,k)).lookup x=some k ->
  names.lookup x=some k\/(names.lookup x=some .free/\k=.cell)
 | [],_,_,h=>by simp at h
 | (n,k0)::r,x,k,h=>by
  have ih:=@kY env r x k
  replace h:List.lookup x ((if (k0==NameKind.free && env.scope.kind==.function && env.kindOf n==some .cell)=true then (n,NameKind.cell) else (n,k0))::(r.map fun (n,k)=>if (k==NameKind.free && env.scope.kind==.function && env.kindOf n==some .cell) then (n,NameKind.cell) else (n,k)))=some k:=h
  by_cases hc:(k0==NameKind.free && env.scope.kind==.function && env.kindOf n==some .cell)=true
  ·rw [if_pos hc] at h
   have hk0:k0=.free:=by
    simp only [Nc] at hc
    simpa using hc.1.1
   cases hx:x==n with
   | true =>
    simp only [Nu,hx] at h
    simp only [Nu,hx]
    cases h
    exact .inr ⟨by rw [hk0],rfl⟩
   | false =>
    simp only [Nu,hx] at h ⊢
    exact ih h
  ·rw [if_neg hc] at h
   cases hx:x==n with
   | true =>
    simp only [Nu,hx] at h ⊢
    exact .inl h
   | false =>
    simp only [Nu,hx] at h ⊢
    exact ih h
def FV (X:Cx) (ifs:List Qy) (t:TT):Prop :=
 ∀ (pins:List (Qo×Obj)) (s:Qu) (σ:St) (H:Hp) (Q:Bool->Hp->Prop),Inv X pins σ H s->t σ H Q ->
  Qx (model X.prog X.w) X.A (forIn ifs true fun c r=>if r=true then do let ok <- isTrue c X.env (eval c X.env); pure (ForInStep.yield ok) else pure (ForInStep.yield r)) (TP X pins σ Q) X.xe s
def Iq:TT:=fun _ H Q=>Q true H
theorem Dz {X:Cx}:FV X [] Iq:=fun _ _ _ H _ I h=>wpAny_tests_nil ⟨H,I,h⟩
theorem Es {X:Cx} {c:Qy} {t:TT} (h:PT X c t):FV X [c] t:=fun pins s σ H Q I q=>wpAny_tests_one (h pins s σ H Q I q)

theorem kG {prog:Qn} {w:Qm} {A:Qt} {R:QQ->Qu->Prop} {s:Qu} {elt target iter:Qy} {ifs:List Qy} {scope:Qv} {pos:Pos} {it acc:Ql} {env:Env} (I:Nat->Qu->Prop)
  (turn:∀ n s,I n s->Qx (model prog w) A (pyNext it) (fun r s₁=>match r with
   | none=>R (.ok .next) s₁
   | some v=>Qx (model prog w) A (letOwnedTupleGo target it v) (fun _ s₁'=>Qx (model prog w) A (assign target env v) (fun _ s₂ =>
     Qx (model prog w) A (forIn ifs true fun c r=>if r=true then do let ok <- isTrue c env (eval c env); pure (ForInStep.yield ok) else pure (ForInStep.yield r)) (fun ok s₃ =>
      if ok=true then Qx (model prog w) A (eval elt env) (fun x s₄ =>
       Qx (model prog w) A (call (.builtin "list.append") [acc,x]) (fun _ s₅=>∃ m,m < n/\I m s₅) (notedBy (model prog w) A env fun e s'=>R (.error e) s') s₄) (notedBy (model prog w) A env fun e s'=>R (.error e) s') s₃
      else ∃ m,m < n/\I m s₃) (notedBy (model prog w) A env fun e s'=>R (.error e) s') s₂) (notedBy (model prog w) A env fun e s'=>R (.error e) s') s₁') (notedBy (model prog w) A env fun e s'=>R (.error e) s') s₁) (notedBy (model prog w) A env fun e s'=>R (.error e) s') s)
  (n:Nat) (h:I n s) :
  QR (model prog w) A (.compLoop (.ListComp elt [⟨target,iter,ifs,0⟩] scope pos) 0 it acc env) R s:=by
 refine codeAny_loop rfl I (fun n s hI=>?_) n h
 show Qx _ A ((compTurn (.ListComp elt [⟨target,iter,ifs,0⟩] scope pos) 0 it acc env).onRaise (fun x=>do noteFrame x env; theTreesLotGoes x)) _ _ s
 refine wpAny_noted ?_
 rw [compTurn_list]
 refine QD (QF (QD (QB (turn n s hI) (fun r s₁ h₁=>?_) fun _ _ h'=>h')))
 cases r with
 | none=>exact QG h₁
 | some v =>
  refine QD (QB h₁ (fun _ s₁' h₁'=>?_) fun _ _ h'=>h')
  refine QD (QB h₁' (fun _ s₂ h₂=>QD (QB h₂ (fun ok s₃ h₃=>?_) fun _ _ h'=>h')) fun _ _ h'=>h')
  cases ok with
  | false=>exact QG ⟨rfl,h₃⟩
  | true =>
   exact QD (QD (QB h₃ (fun x s₄ h₄=>QD (QB h₄ (fun _ s₅ h₅=>QG (QG ⟨rfl,h₅⟩)) fun _ _ h'=>h')) fun _ _ h'=>h'))

def JD (wi:TI) (g:TG) (tc:TT) (te:TE) (ix:List (Option Nat)):TE:=fun σ H Q =>
 wi σ H fun J H1=>∀ D,H1 D=none->∃ W:Nat->Nat->St->Hp->Prop,(∃ m,W 0 m (inBlock ix σ) (upd H1 D (.lst []))) /\
  ∀ i m σ' H',W i m σ' H'->(J.stop i H'/\Q (.ref D) H') \/
   (J.go i H'/\∀ x H2,J.yld i H' x H2->g x σ' H2 fun σ3 H3=>tc σ3 H3 fun b H4 =>
    if b=true then te σ3 H4 fun v H5=>∃ acc,H5 D=some (.lst acc)/\acc.length < Qq/\∃ m',m' < m/\W (i+1) m' σ3 (upd H5 D (.lst (acc++[v])))
    else ∃ m',m' < m/\W (i+1) m' σ3 H4)

section
variable {X:Cx} {elt tg iter:Qy} {ifs:List Qy} {scope:Qv} {pos:Pos} {N:List Str} {ix:List (Option Nat)} {wi:TI} {g:TG} {tc:TT} {te:TE}

theorem rC {pins:List (Qo×Obj)} {σ:St} {s2:Qu} {H2:Hp} {it:Qo} {fp:List Qo} {tn:Nat->Qp->Prop} {J:It} {Q:V->Hp->Prop} {E:Ql->Qu->Prop} {RR:Ql->Qo->QQ->Qu->Prop}
    (hc:X.calm=true) (hcell:∀ y∈scope.names,y.2≠.cell) (hkind:scope.kind=.function)
    (hfr:∀ y∈scope.names,y.2=.free->X.env.scope.names.lookup y.1=some .cell\/X.env.scope.names.lookup y.1=some .free)
    (hix:uB X.N N scope.names ix=true)
    (hb:∀ cl C fp s H E,PG (cB X scope N cl C fp s H E) tg g/\FV (cB X scope N cl C fp s H E) ifs tc/\PE (cB X scope N cl C fp s H E) elt te)
    (I2:Inv X pins σ H2 s2) (T:Turn X.prog X.w X.K tg J fp it tn) (st2:tn 0 s2.heap) (f2:∀ b∈fp,sf X pins H2 b)
    (q:∀ D,H2 D=none->∃ W:Nat->Nat->St->Hp->Prop,(∃ m,W 0 m (inBlock ix σ) (upd H2 D (.lst []))) /\
      ∀ i m σ' H',W i m σ' H'->(J.stop i H'/\Q (.ref D) H') \/
        (J.go i H'/\∀ x H3,J.yld i H' x H3->g x σ' H3 fun σ3 H3=>tc σ3 H3 fun b H4 =>
          if b=true then te σ3 H4 fun v H5=>∃ acc,H5 D=some (.lst acc)/\acc.length < Qq/\∃ m',m' < m/\W (i+1) m' σ3 (upd H5 D (.lst (acc++[v])))
          else ∃ m',m' < m/\W (i+1) m' σ3 H4))
    (hRR:∀ D C H' s' m,H2 D=none->s2.heap.objs.size<=C->H' C=none->s'.heap.Ns C m->(∀ h',PL C s'.heap h'->Inv X pins σ H' { s' with heap:=h' })->Q (.ref D) H'->RR (.ref D) C (.ok .next) s') :
    Qx (model X.prog X.w) X.A (newList []) (fun acc s₃=>Qx (model X.prog X.w) X.A (newFunctionEnv scope X.env.globals (dy X.env.cells scope.names []) [] X.env.qual none .none (some X.env)) (fun cenv s₄ =>
      QR (model X.prog X.w) X.A (.compStart (.ListComp elt [⟨tg,iter,ifs,0⟩] scope pos) 0 (.ref it) acc { cenv with scope:=relabel scope X.env }) (RR acc cenv.locals) s₄) E s₃) E s2:=by
  refine Rc (wpAny_newFunctionEnv hcell (by intro y hy; simp at hy) (fun h₁ hns₁ hsb₁=>?_) hkind)
  dsimp only at hns₁ hsb₁ ⊢
  have I3:Inv X pins σ (upd H2 s2.heap.objs.size (.lst [])) { s2 with heap:=s2.heap.push { cls:=.type "list",dict:=none,data:=.seq ([]:List Ql).toArray },toks:=s2.toks }:=I2.lnew (its:=[]) (t':=s2.toks) .nil (MY _)
  generalize hs3:({ s2 with heap:=s2.heap.push { cls:=.type "list",dict:=none,data:=.seq ([]:List Ql).toArray },toks:=s2.toks }:Qu)=s3 at I3
  have eh3:s2.heap.push { cls:=.type "list",dict:=none,data:=.seq ([]:List Ql).toArray }=s3.heap:=by rw [<- hs3]
  rw [eh3] at hns₁ hsb₁ ⊢
  have hC3:s3.heap.objs.size=s2.heap.objs.size+1:=by rw [<- eh3,PQ]
  have hD:H2 s2.heap.objs.size=none:=I2.fresh
  obtain⟨W,⟨m0,w0⟩,turn⟩:=q s2.heap.objs.size hD
  generalize hH3:upd H2 s2.heap.objs.size (.lst [])=H3 at I3 w0
  have old:∀ b o,s3.heap.get? b=some o->h₁.get? b=some o:=fun b o e=>hsb₁.extBut b o (ME (PJ e)) (PN _ e)
  have fpH3:∀ b∈fp,H3 b=none:=fun b hb'=>by
    rw [<- hH3,bg]
    · exact(f2 b hb').1
    · obtain⟨o,e,_⟩:=T.obj _ _ st2 b hb'
      exact ME (PJ e)
  have fpLt:∀ b∈fp,b < s3.heap.objs.size:=fun b hb'=>by
    obtain⟨o,e,_⟩:=T.obj _ _ st2 b hb'
    rw [hC3]; exact Nx (PJ e)
  have hfree:∀ p∈scope.names,p.2=.free->∃ c,X.env.cells.lookup p.1=some c:=fun p hp hk=>I2.ok.has p.1 (hfr p hp hk)
  have csub:∀ x c,(dy X.env.cells scope.names []).lookup x=some c->X.env.cells.lookup x=some c:=lB scope.names [] (fun x c e=>by simp at e)
  have names':∀ x k,(relabel scope X.env).names.lookup x=some k->scope.names.lookup x=some k\/(scope.names.lookup x=some .free/\k=.cell):=fun x k h=>kY h
  have ok:(cB X scope N (dy X.env.cells scope.names []) s3.heap.objs.size fp s3 H3 (notedBy (model X.prog X.w) X.A (compEnvC scope (dy X.env.cells scope.names []) s3.heap.objs.size X.env) fun e s'=>RR (.ref s2.heap.objs.size) s3.heap.objs.size (.error e) s')).Ok :=
    { mod:=I3.ok.mod
      kind:=hkind
      glob:=I3.ok.glob
      blt:=I3.ok.blt
      above:=MO _
      inj:=fun x y c h1 h2=>I3.ok.inj x y c (csub x c h1) (csub y c h2)
      has:=fun x hx=>by
        have fr:scope.names.lookup x=some .free:=by
          rcases hx with hx | hx
          · rcases names' x .cell hx with h | ⟨h,_⟩
            · exact absurd rfl (hcell _ (PySem.mem_of_lookup h))
            · exact h
          · rcases names' x .free hx with h | ⟨_,h⟩
            · exact h
            · cases h
        have hm:=PySem.mem_of_lookup fr
        exact Option.isSome_iff_exists.mp (jQ scope.names [] x hm (hfree _ hm rfl))
      cab:=fun x c h _=>by cases h
      hd:=I3.ok.hd
      frames:=I3.ok.frames
      stk:=.inl rfl
      exf:=fun b hb'=>⟨ME (fpLt b hb'),fun x c e=>(f2 b hb').2.2.2.2.1 x c (csub x c e)⟩
      bs:=fun b o e=>I3.bs b o e
      bsz:=MF I3.ok.bsz I3.sz
      noex:=fun b o e hb'=>by
        obtain⟨_,_,_,h4,_⟩:=f2 b hb'
        rcases h4 with h4 | h4
        · exact I3.ok.noex b o e h4
        · exact absurd (MC (PJ (I3.ok.bs b o e).1) h4) (MD _)
      exfs:=fun b hb' hs=>by
        obtain⟨_,h2,h3,_⟩:=f2 b hb'
        rcases List.mem_cons.mp (I3.stkSub b hs) with e | e
        · exact h2 e
        · exact h3 e
      funs:=I3.stack
      frf:=fun b hb'=>I3.stkFree b hb' }
  generalize hE:(notedBy (model X.prog X.w) X.A (compEnvC scope (dy X.env.cells scope.names []) s3.heap.objs.size X.env) fun e s'=>RR (.ref s2.heap.objs.size) s3.heap.objs.size (.error e) s')=E' at ok
  obtain⟨hg,htc,hel⟩:=hb (dy X.env.cells scope.names []) s3.heap.objs.size fp s3 H3 E'
  have Istart:∀ tk,Inv (cB X scope N (dy X.env.cells scope.names []) s3.heap.objs.size fp s3 H3 E') [] (inBlock ix σ) H3 { s3 with heap:=h₁,toks:=tk }:=fun tk=>by
    refine⟨ok,rfl,I3.bare,Un.kept old,⟨_,hns₁,fun j x v e1 e2 _=>?_⟩,fun x c e=>?_,I3.fresh,fun x c e=>I3.freeC x c (csub x c e),fun p hp=>absurd (show p∈([]:List (Qo×Obj)) from hp) (by simp),I3.hok.kept old,?_⟩
    · -- a captured name
      unfold inBlock at e2
      rw [M6] at e2
      cases q1:ix[j]? with
      | none=>rw [q1] at e2; simp at e2
      | some o =>
        rw [q1] at e2
        cases o with
        | none=>simp at e2
        | some i =>
          obtain⟨n1,n2⟩:=uB.at_ hix e1 q1
          have e2':(σ[i]?).getD none=some v:=Option.some.inj e2
          have e3:σ[i]?=some (some v):=by
            cases q2:σ[i]? with
            | none=>rw [q2] at e2'; simp at e2'
            | some o2=>rw [q2] at e2'; simpa using e2'
          obtain⟨m,hn,hl⟩:=I3.loc
          have hm:=PySem.mem_of_lookup n2
          have hk:=hfr _ hm rfl
          have hv:Hj X.env.scope x:=by
            rcases hk with hk | hk
            · exact .inr (.inl hk)
            · exact .inr (.inr hk)
          obtain⟨u,r,l⟩:=hl i x v n1 e3 hv
          refine⟨u,r,.inr ?_⟩
          rcases l with ⟨kl,_⟩ | ⟨_,c,hcx,hcell'⟩
          · have kl':X.env.scope.names.lookup x=some .local:=kl
            rcases hk with hk | hk
            · rw [kl'] at hk; cases hk
            · rw [kl'] at hk; cases hk
          · obtain⟨c',hc'⟩:=Option.isSome_iff_exists.mp (jQ (cells:=X.env.cells) scope.names [] x hm ⟨c,hcx⟩)
            have ec:c'=c:=Option.some.inj ((csub x c' hc').symm.trans hcx)
            subst ec
            refine⟨?_,c',hc',?_⟩
            · -- its kind in the block: cell or free
              show (relabel scope X.env).names.lookup x=some .cell\/(relabel scope X.env).names.lookup x=some .free
              have gen:∀ names:List (Str×Q3),names.lookup x=some .free->((names.map fun (n,k)=>if (k==NameKind.free && X.env.scope.kind==.function && X.env.kindOf n==some .cell) then (n,NameKind.cell) else (n,k)).lookup x=some .cell\/(names.map fun (n,k)=>if (k==NameKind.free && X.env.scope.kind==.function && X.env.kindOf n==some .cell) then (n,NameKind.cell) else (n,k)).lookup x=some .free):=by
                intro names
                induction names with
                | nil=>intro h; simp at h
                | cons p r ih =>
                  obtain⟨n,k⟩:=p
                  intro h
                  show List.lookup x ((if (k==NameKind.free && X.env.scope.kind==.function && X.env.kindOf n==some .cell)=true then (n,NameKind.cell) else (n,k))::_)=_\/List.lookup x ((if (k==NameKind.free && X.env.scope.kind==.function && X.env.kindOf n==some .cell)=true then (n,NameKind.cell) else (n,k))::_)=_
                  cases hx:x==n with
                  | true =>
                    simp only [Nu,hx] at h
                    by_cases hcc:(k==NameKind.free && X.env.scope.kind==.function && X.env.kindOf n==some .cell)=true
                    · rw [if_pos hcc]; left; simp only [Nu,hx]
                    · rw [if_neg hcc]; right; simp only [Nu,hx]; exact h
                  | false =>
                    simp only [Nu,hx] at h
                    by_cases hcc:(k==NameKind.free && X.env.scope.kind==.function && X.env.kindOf n==some .cell)=true
                    · rw [if_pos hcc]; simp only [Nu,hx]; exact ih h
                    · rw [if_neg hcc]; simp only [Nu,hx]; exact ih h
              exact gen scope.names n2
            · exact hcell'.keeps old
    · obtain⟨v,z⟩:=I3.cell x c (csub x c e)
      exact⟨v,z.keeps old⟩
    · show (inBlock ix σ).length=N.length
      unfold inBlock
      rw [MV]
      exact uB.len hix
  have stat:∀ {H':Hp},(∀ b∈fp,H' b=none)->∀ b∈fp,sf (cB X scope N (dy X.env.cells scope.names []) s3.heap.objs.size fp s3 H3 E') [] H' b:=fun hn b hb' =>
    ⟨hn b hb',(ok.exf b hb').1,ok.exfs b hb',.inl hb',(ok.exf b hb').2,fun p hp=>absurd (show p∈([]:List (Qo×Obj)) from hp) (by simp)⟩
  have tn1:tn 0 h₁:=T.keep _ _ _ st2 fun b hb' o e=>old b o (by rw [<- eh3]; exact PN _ e)
  have loop:∀ tk,QR (model X.prog X.w) X.A (.compLoop (.ListComp elt [⟨tg,iter,ifs,0⟩] scope pos) 0 (.ref it) (.ref s2.heap.objs.size) (compEnvC scope (dy X.env.cells scope.names []) s3.heap.objs.size X.env))
      (RR (.ref s2.heap.objs.size) s3.heap.objs.size) { s3 with heap:=h₁,toks:=tk }:=by
    intro tk
    refine kG (fun n s'=>∃ i σ' H',Inv (cB X scope N (dy X.env.cells scope.names []) s3.heap.objs.size fp s3 H3 E') [] σ' H' s'/\tn i s'.heap/\(∀ b∈fp,H' b=none)/\W i n σ' H') ?_ m0 ⟨0,_,_,Istart tk,tn1,fpH3,w0⟩
    rintro n s5 ⟨i,σ5,H5,I5,st5,fr5,w5⟩
    rw [hE]
    rcases turn i n σ5 H5 w5 with ⟨stop,qn⟩ | ⟨go,step⟩
    · refine dB (T.done (cB X scope N (dy X.env.cells scope.names []) s3.heap.objs.size fp s3 H3 E') rfl rfl rfl hc i [] s5 σ5 H5 _ I5 (stat fr5) st5 stop) fun r s6 ⟨hr,I6⟩=>?_
      subst hr
      obtain⟨m6,hn6,_⟩:=I6.loc
      refine hRR s2.heap.objs.size s3.heap.objs.size H5 s6 m6 hD (by rw [hC3]; exact M0 _) I6.free hn6 (fun h' sb=>?_) qn
      have ne:∀ b o,s3.heap.get? b=some o->b≠s3.heap.objs.size:=fun b o e=>ME (PJ e)
      refine I3.call' (s':={ s6 with heap:=h' }) (H':=H5) (ch:=fp) I6.os ⟨fun b o e n hb' hx=>?_,fun b o e n hb' hx=>?_,fun b o e n hx=>?_,fun b o e hx=>?_,I6.base.tups,I6.base.frzs,I6.base.tbls⟩ ?_ I6.bare fun b hb'=>?_
      · exact(sb.2 b (ne b o e)).trans (I6.base.keep b o e n hb' hx)
      · obtain⟨sl,e1⟩:=I6.base.slot b o e n hb' hx
        exact⟨sl,(sb.2 b (ne b o e)).trans e1⟩
      · exact I6.base.free b o e n hx
      · obtain⟨o',e1⟩:=I6.base.there b o e hx
        exact⟨o',(sb.2 b (ne b o e)).trans e1⟩
      · intro b ob e
        have hfreeC:H5 s3.heap.objs.size=none:=I6.free
        refine(I6.hok b ob e).stay (fun c v hcc q=>(sb.2 c ?_).trans q) (fun _ q=>q) fun _ _ q=>q
        rintro rfl
        rcases hcc with rfl | hcc
        · rw [hfreeC] at e; cases e
        · rw [hfreeC] at hcc; cases hcc
      · obtain⟨_,h2',_,h4',h5',h6'⟩:=f2 b hb'
        exact⟨h4',h2',h5',h6'⟩
    · refine dB (T.item (cB X scope N (dy X.env.cells scope.names []) s3.heap.objs.size fp s3 H3 E') rfl rfl rfl hc i [] s5 σ5 H5 _ I5 (stat fr5) st5 go) fun r s6 ⟨u,hr,h6⟩=>?_
      subst hr
      refine dB h6 fun _ s7 ⟨x,H7,I7,r7,y7,st7,fr7⟩=>?_
      have I7':=I7.pinned (stat fr7) (T.obj _ _ st7)
      refine dB (hg _ s7 σ5 H7 x u _ I7' r7 (step x H7 y7)) fun _ s8 ⟨σ8,H8,I8,q8⟩=>?_
      refine dB (htc _ s8 σ8 H8 _ I8 q8) fun b s9 ⟨H9,I9,q9⟩=>?_
      have again:∀ {σ':St} {H':Hp} {s':Qu} {m':Nat},Inv (cB X scope N (dy X.env.cells scope.names []) s3.heap.objs.size fp s3 H3 E') ([]++qS fp s7.heap) σ' H' s'->m' < n->W (i+1) m' σ' H' ->
          ∃ m,m < n/\∃ i σ' H',Inv (cB X scope N (dy X.env.cells scope.names []) s3.heap.objs.size fp s3 H3 E') [] σ' H' s'/\tn i s'.heap/\(∀ b∈fp,H' b=none)/\W i m σ' H':=fun {σ' H' s' m'} I' hm w'=>by
        refine⟨m',hm,i+1,σ',H',I'.unpinned,T.keep _ _ _ st7 fun b hb' o e=>(I'.pin (b,o) (MP _ (MP _ (j3 hb' e)))).1,fun b hb'=>?_,w'⟩
        obtain⟨o,e,d⟩:=T.obj _ _ st7 b hb'
        exact(I'.pin (b,o) (MP _ (MP _ (j3 hb' e)))).2.1
      cases b with
      | false =>
        rw [if_neg MS] at q9 ⊢
        obtain⟨m',hm,w9⟩:=q9
        exact again I9 hm w9
      | true =>
        rw [if_pos rfl] at q9 ⊢
        refine dB (hel _ s9 σ8 H9 _ I9 q9) fun y s10 ⟨v,H10,I10,r10,q10⟩=>?_
        obtain⟨acc,ha,hz,m',hm,w10⟩:=q10
        refine dB (fz _ s10 σ8 H10 (.ref s2.heap.objs.size) [v] (.ref s2.heap.objs.size) [y] (fun _ H'=>H'=upd H10 s2.heap.objs.size (.lst (acc++[v]))) I10 rfl (.cons r10 .nil) ⟨_,acc,v,rfl,rfl,ha,hz,rfl⟩) fun _ s11 ⟨_,H11,I11,_,e11⟩=>?_
        subst e11
        exact again I11 hm w10
  subst hs3
  exact codeAny_compStart_list (loop _) (T.self _ 0 _ _ _ tn1 (loop _))

theorem II (hc:X.calm=true) (hcell:∀ y∈scope.names,y.2≠.cell) (hkind:scope.kind=.function) (hnames:∀ y∈scope.names,y.2=.local->scope.names.lookup y.1=some .local)
  (hfr:∀ y∈scope.names,y.2=.free->X.env.scope.names.lookup y.1=some .cell\/X.env.scope.names.lookup y.1=some .free)
  (hix:uB X.N N scope.names ix=true) (hi:PI X tg iter wi)
  (hb:∀ cl C fp s H E,PG (cB X scope N cl C fp s H E) tg g/\FV (cB X scope N cl C fp s H E) ifs tc/\PE (cB X scope N cl C fp s H E) elt te)
  (hs:∀ x,QJ iter X.env x=pure x:=by intro _; rfl):PE X (.ListComp elt [⟨tg,iter,ifs,0⟩] scope pos) (JD wi g tc te ix):=by
 intro pins s σ H Q I h
 rw [eval_ListComp]
 refine Rg (use:=none) rfl hs (n8 fun p hp hk=>I.ok.has p.1 (hfr p hp hk)) hkind hnames (dB (hi pins s σ H _ I h) fun v s1 h1=>dB h1 fun itv s2 h2=>?_)
 obtain⟨it,fp,tn,J,H2,e,I2,T,st2,f2,q⟩:=h2
 subst e
 refine rC (Q:=Q) (RR:=fun acc C=>compPost (model X.prog X.w) X.A X.xe none (EP X pins σ Q) acc C) hc hcell hkind hfr hix hb I2 T st2 f2 q ?_
 intro D C H' s' m _ _ _ hn hI hq
 exact⟨m,hn,fun h' sb=>⟨.ref D,H',hI h' sb,rfl,hq⟩⟩

theorem IT {i:Nat} {y:Str} {py spos:Pos} (hN:X.N.Nodup) (hi':X.N[i]?=some y) (hx:Loc X.env.scope y)
  (hc:X.calm=true) (hcell:∀ y∈scope.names,y.2≠.cell) (hkind:scope.kind=.function) (hnames:∀ y∈scope.names,y.2=.local->scope.names.lookup y.1=some .local)
  (hfr:∀ y∈scope.names,y.2=.free->X.env.scope.names.lookup y.1=some .cell\/X.env.scope.names.lookup y.1=some .free)
  (hix:uB X.N N scope.names ix=true) (hi:PI X tg iter wi)
  (hb:∀ cl C fp s H E,PG (cB X scope N cl C fp s H E) tg g/\FV (cB X scope N cl C fp s H E) ifs tc/\PE (cB X scope N cl C fp s H E) elt te)
  (hsw:swapsWith (.ListComp elt [⟨tg,iter,ifs,0⟩] scope pos) (some (.Name y py)) spos.line X.env=pure true:=by rfl)
  (hs:∀ x,QJ iter X.env x=pure x:=by intro _; rfl)
  (hf:X.fn y=true\/X.env.scope.names.lookup y=some .local:=by first | exact .inl rfl | exact .inr rfl | assumption) :
  PS X (.Assign [.Name y py] (.ListComp elt [⟨tg,iter,ifs,0⟩] scope pos) spos) (Cv (JD wi g tc te ix) (tB i)):=by
 intro pins s σ H D0 I h
 rw [exec_Assign_Name_used _ _ _ _ hsw]
 refine QD (QF (QD ?_))
 show Qx _ X.A (do let _ <- comprehension (.ListComp elt [⟨tg,iter,ifs,0⟩] scope pos) scope X.env _ (newList []) false (eval iter X.env) (some (assign (.Name y py) X.env))) _ _ s
 refine QD (dB (Rg (use:=some (assign (.Name y py) X.env)) (Q:=fun _ s'=>SP X pins D0 .next s') rfl hs (n8 fun p hp hk=>I.ok.has p.1 (hfr p hp hk)) hkind hnames
  (dB (hi pins s σ H _ I h) fun v s1 h1=>dB h1 fun itv s2 h2=>?_)) fun _ s' hq=>QG (QG hq))
 obtain⟨it,fp,tn,J,H2,e,I2,T,st2,f2,q⟩:=h2
 subst e
 refine rC (Q:=fun v H'=>tB i v σ H' D0.nx) (RR:=fun acc C=>compPost (model X.prog X.w) X.A X.xe (some (assign (.Name y py) X.env)) (fun _ s'=>SP X pins D0 .next s') acc C) hc hcell hkind hfr hix hb I2 T st2 f2 q ?_
 intro D C H' s' m _ hC hfree hn hI hq
 have I':Inv X pins σ H' s':=hI s'.heap (.refl ..)
 have nL:C≠X.env.locals:=MN (MC I2.lt hC)
 have nC:∀ x c,X.env.cells.lookup x=some c->c≠C:=fun x c e z=>by
  obtain⟨v,q⟩:=I2.cell x c e
  exact absurd (MC q.lt (by rw [z]; exact hC)) (MD _)
 have nP:∀ p∈X.pn++pins,p.1≠C:=fun p hp z=>absurd (MC (PJ (I2.pin p hp).1) (by rw [z]; exact hC)) (MD _)
 show Qx _ X.A (assign (.Name y py) X.env (.ref D)) _ _ _
 refine wpAny_assign_Name (tI I' hN hi' hx (v:=.ref D) rfl (fun s'' I'' ch=>?_) hf)
 obtain⟨a,sb,ha⟩:=ch
 have hCa:C≠a:=by
  rcases ha with ha | ha
  ·rw [ha]; exact nL
  ·exact Ne.symm (nC y a ha)
 refine⟨m,hn.sameBut sb hCa,fun h' sb'=>⟨_,H',?_,hq⟩⟩
 exact I''.turned (t':=s''.toks) (fun b o hb' e=>(sb'.2 b hb').trans e) hfree nL (.inr (MF I2.sz hC)) nC nP
end
end L2
namespace TG
open PySem PySem.Spec L2

inductive D where
 | non | bl (b:Bool) | int (i:Int) | str (x:Str) | tup (xs:List D) | lst (xs:List D)
 | dct (ks vs:List D) | obj (c:Str) (fs:List Str) (vs:List D) | exc (c:Str) (fs:List Str) (vs:List D)

def dY:Key->D
 | .inl i=>.int i
 | .inr x=>.str x
def clsAt (K:O2) (c:Str) (C:Qo):Prop:=Pu K Qr c=some (some (.ref C))
def AJ (C a:Qo) (dx:Option Qo):(Qo->Prop)->Qp->Prop:=fun _ h=>∃ o,h.get? a=some o/\o.cls=.ref C/\o.dict=dx
mutual
def cA (K:O2) (H:Hp):D->V->Prop
 | .non,v=>v=.non
 | .bl b,v=>v=.bl b
 | .int i,v=>v=.int i
 | .str x,v=>v=.str x
 | .tup xs,v=>∃ a vs,v=.ref a/\H a=some (.tup vs)/\bp K H xs vs
 | .lst xs,v=>∃ a vs,v=.ref a/\mG K H a vs/\bp K H xs vs
 | .dct ks ds,v=>∃ a vs,v=.ref a/\bp K H ds vs/\((∃ kvs:List (Key×V),H a=some (.dK kvs)/\ks=kvs.map (fun p=>dY p.1)/\vs=kvs.map (·.2)) \/
   ∃ kvs:List (List Key×V),H a=some (.dT kvs)/\ks=kvs.map (fun p=>.tup (p.1.map dY))/\vs=kvs.map (·.2))
 | .obj c fs ds,v=>∃ a vs,v=.ref a/\bp K H ds vs/\fs.length=vs.length/\∃ C dx,clsAt K c C/\H a=some (.ins C dx (fs.zip vs))
 | .exc c fs ds,v=>∃ a vs,v=.ref a/\bp K H ds vs/\fs.length=vs.length/\∃ C dx,clsAt K c C/\H a=some (.ext (AJ C a dx))/\(fs=[]\/∃ d,dx=some d/\H d=some (.xd (fs.zip vs)))
def bp (K:O2) (H:Hp):List D->List V->Prop
 | [],vs=>vs=[]
 | x::xs,vs=>∃ v r,vs=v::r/\cA K H x v/\bp K H xs r
end

theorem AK {K:O2} {H H':Hp} {a:Qo} {xs:List V} (e:bH H H') (h:oR K H a xs):oR K H' a xs:=by
 rcases h with (h | ⟨o,h⟩) | h
 ·exact .inl (.inl (e _ _ h))
 ·exact .inl (.inr ⟨o,e _ _ h⟩)
 ·exact .inr h
theorem cw {K:O2} {H H':Hp} {a:Qo} {xs:List V} (e:bH H H') (h:H a=some (.tup xs)):oR K H' a xs:=oR.of (e _ _ h)
mutual
theorem cA.mono {K:O2} {H H':Hp} (e:bH H H'):∀ {d:D} {v:V},cA K H d v->cA K H' d v
 | .non,_,h=>by unfold cA at h ⊢; exact h
 | .bl _,_,h=>by unfold cA at h ⊢; exact h
 | .int _,_,h=>by unfold cA at h ⊢; exact h
 | .str _,_,h=>by unfold cA at h ⊢; exact h
 | .tup xs,_,h=>by
  unfold cA at h ⊢
  obtain⟨a,vs,e1,h1,h2⟩:=h
  exact⟨a,vs,e1,e _ _ h1,bp.mono e h2⟩
 | .lst xs,_,h=>by
  unfold cA at h ⊢
  obtain⟨a,vs,e1,h1,h2⟩:=h
  exact⟨a,vs,e1,e.seq h1,bp.mono e h2⟩
 | .dct _ ds,_,h=>by
  unfold cA at h ⊢
  obtain⟨a,vs,e1,h1,h2⟩:=h
  refine⟨a,vs,e1,bp.mono e h1,?_⟩
  rcases h2 with ⟨kvs,h2,h3⟩ | ⟨kvs,h2,h3⟩
  ·exact .inl ⟨kvs,e _ _ h2,h3⟩
  ·exact .inr ⟨kvs,e _ _ h2,h3⟩
 | .obj _ _ ds,_,h=>by
  unfold cA at h ⊢
  obtain⟨a,vs,e1,h1,h2,C,dx,h3,h4⟩:=h
  exact⟨a,vs,e1,bp.mono e h1,h2,C,dx,h3,e _ _ h4⟩
 | .exc _ _ ds,_,h=>by
  unfold cA at h ⊢
  obtain⟨a,vs,e1,h1,h2,C,dx,h3,h4,h5⟩:=h
  exact⟨a,vs,e1,bp.mono e h1,h2,C,dx,h3,e _ _ h4,h5.imp id fun ⟨d,q1,q2⟩=>⟨d,q1,e _ _ q2⟩⟩
theorem bp.mono {K:O2} {H H':Hp} (e:bH H H'):∀ {ds:List D} {vs:List V},bp K H ds vs->bp K H' ds vs
 | [],_,h=>by unfold bp at h ⊢; exact h
 | x::xs,_,h=>by
  unfold bp at h ⊢
  obtain⟨v,r,e1,h1,h2⟩:=h
  exact⟨v,r,e1,cA.mono e h1,bp.mono e h2⟩
end
section
variable {K:O2} {H:Hp}
theorem kq {v:V}:cA K H .non v↔v=.non:=by unfold cA; rfl
theorem kK {b:Bool} {v:V}:cA K H (.bl b) v↔v=.bl b:=by unfold cA; rfl
theorem eU {i:Int} {v:V}:cA K H (.int i) v↔v=.int i:=by unfold cA; rfl
theorem eV {x:Str} {v:V}:cA K H (.str x) v↔v=.str x:=by unfold cA; rfl
theorem cu {xs:List D} {v:V}:cA K H (.tup xs) v↔∃ a vs,v=.ref a/\H a=some (.tup vs)/\bp K H xs vs:=by unfold cA; rfl
theorem cq {xs:List D} {v:V}:cA K H (.lst xs) v↔∃ a vs,v=.ref a/\mG K H a vs/\bp K H xs vs:=by unfold cA; rfl
theorem JR {ks ds : List D} {v : V} : cA K H (.dct ks ds) v ↔ ∃ a vs, v = .ref a /\ bp K H ds vs /\ ((∃ kvs : List (Key × V), H a = some (.dK kvs) /\ ks = kvs.map (fun p => dY p.1) /\ vs = kvs.map (·.2)) \/
      ∃ kvs:List (List Key×V),H a=some (.dT kvs)/\ks=kvs.map (fun p=>.tup (p.1.map dY))/\vs=kvs.map (·.2)):=by unfold cA; rfl
theorem DT {c:Str} {fs:List Str} {ds:List D} {v:V}:cA K H (.obj c fs ds) v↔∃ a vs,v=.ref a/\bp K H ds vs/\fs.length=vs.length/\∃ C dx,clsAt K c C/\H a=some (.ins C dx (fs.zip vs)):=by unfold cA; rfl
theorem Jf {c:Str} {fs:List Str} {ds:List D} {v:V}:cA K H (.exc c fs ds) v↔∃ a vs,v=.ref a/\bp K H ds vs/\fs.length=vs.length/\∃ C dx,clsAt K c C/\H a=some (.ext (AJ C a dx))/\(fs=[]\/∃ d,dx=some d/\H d=some (.xd (fs.zip vs))):=by unfold cA; rfl
theorem cF {vs:List V}:bp K H [] vs↔vs=[]:=by unfold bp; rfl
theorem bL {x:D} {xs:List D} {vs:List V}:bp K H (x::xs) vs↔∃ v r,vs=v::r/\cA K H x v/\bp K H xs r:=by conv=>lhs; unfold bp
theorem bp.length:∀ {ds:List D} {vs:List V},bp K H ds vs->ds.length=vs.length
 | [],_,h=>by rw [cF] at h; rw [h]; rfl
 | _::xs,_,h=>by
  rw [bL] at h
  obtain⟨v,r,e,_,h⟩:=h
  rw [e,MT,MT,bp.length h]
theorem bp.get:∀ {ds:List D} {vs:List V} {i:Nat} {d:D},bp K H ds vs->ds[i]?=some d->∃ v,vs[i]?=some v/\cA K H d v
 | [],_,_,_,_,e=>by simp at e
 | x::xs,_,0,d,h,e=>by
  rw [bL] at h
  obtain⟨v,r,rfl,h1,_⟩:=h
  simp at e
  subst e
  exact⟨v,rfl,h1⟩
 | x::xs,_,i+1,d,h,e=>by
  rw [bL] at h
  obtain⟨v,r,rfl,_,h2⟩:=h
  obtain⟨w,e1,e2⟩:=bp.get (i:=i) h2 (by simpa using e)
  exact⟨w,by simpa using e1,e2⟩
theorem bp.append:∀ {ds es:List D} {vs ws:List V},bp K H ds vs->bp K H es ws->bp K H (ds++es) (vs++ws)
 | [],_,_,_,h,h'=>by rw [cF] at h; subst h; exact h'
 | x::xs,_,_,_,h,h'=>by
  rw [bL] at h
  obtain⟨v,r,rfl,h1,h2⟩:=h
  rw [Ny,bL]
  exact⟨v,_,rfl,h1,bp.append h2 h'⟩
theorem bp.take:∀ {ds:List D} {vs:List V} (n:Nat),bp K H ds vs->bp K H (ds.take n) (vs.take n)
 | _,_,0,_=>by rw [Nz,Nz,cF]
 | [],_,_+1,h=>by rw [cF] at h; subst h; rw [List.take_nil,List.take_nil,cF]
 | x::xs,_,n+1,h=>by
  rw [bL] at h
  obtain⟨v,r,rfl,h1,h2⟩:=h
  rw [NA,NA,bL]
  exact⟨v,_,rfl,h1,bp.take n h2⟩
theorem bp.drop:∀ {ds:List D} {vs:List V} (n:Nat),bp K H ds vs->bp K H (ds.drop n) (vs.drop n)
 | _,_,0,h=>by rw [NB,NB]; exact h
 | [],_,_+1,h=>by rw [cF] at h; subst h; rw [List.drop_nil,List.drop_nil,cF]
 | x::xs,_,n+1,h=>by
  rw [bL] at h
  obtain⟨v,r,rfl,h1,h2⟩:=h
  rw [NC,NC]
  exact bp.drop n h2
theorem bp.snoc {ds:List D} {vs:List V} {d:D} {v:V} (h:bp K H ds vs) (h':cA K H d v):bp K H (ds++[d]) (vs++[v]) :=
 h.append (bL.mpr ⟨v,[],rfl,h',cF.mpr rfl⟩)
theorem bp.set {d:D} {v:V} (h':cA K H d v):∀ {ds:List D} {vs:List V} (n:Nat),bp K H ds vs->bp K H (ds.set n d) (vs.set n v)
 | [],_,_,h=>by rw [cF] at h; subst h; exact cF.mpr rfl
 | x::xs,_,0,h=>by
  rw [bL] at h
  obtain⟨w,r,rfl,h1,h2⟩:=h
  exact bL.mpr ⟨v,r,rfl,h',h2⟩
 | x::xs,_,n+1,h=>by
  rw [bL] at h
  obtain⟨w,r,rfl,h1,h2⟩:=h
  exact bL.mpr ⟨w,_,rfl,h1,bp.set h' n h2⟩
theorem bp.one {d:D} {vs:List V} (h:bp K H [d] vs):∃ v,vs=[v]/\cA K H d v:=by
 rw [bL] at h
 obtain⟨v,r,rfl,h1,h2⟩:=h
 rw [cF] at h2
 subst h2
 exact⟨v,rfl,h1⟩
theorem bp.two {d e:D} {vs:List V} (h:bp K H [d,e] vs):∃ v w,vs=[v,w]/\cA K H d v/\cA K H e w:=by
 rw [bL] at h
 obtain⟨v,r,rfl,h1,h2⟩:=h
 obtain⟨w,rfl,h3⟩:=h2.one
 exact⟨v,w,rfl,h1,h3⟩
theorem sQ:∀ ns:List Int,bp K H (ns.map D.int) (ns.map V.int)
 | []=>cF.mpr rfl
 | n::ns=>bL.mpr ⟨_,_,rfl,eU.mpr rfl,sQ ns⟩
end

def hid (H:Hp) (O:List Qo):Hp:=fun b=>if b∈O then none else H b
theorem aO (H:Hp) (O:List Qo):bH (hid H O) H:=fun b o h=>by
 unfold hid at h
 split at h
 ·cases h
 ·exact h
theorem cE {H H':Hp} {O:List Qo} (e:bH H H'):bH (hid H O) (hid H' O):=fun b o h=>by
 unfold hid at h ⊢
 by_cases hb:b∈O
 ·rw [if_pos hb] at h; cases h
 ·rw [if_neg hb] at h ⊢; exact e b o h
theorem kZ {H:Hp} {O O':List Qo} (s:∀ a∈O,a∈O'):bH (hid H O') (hid H O):=fun b o h=>by
 unfold hid at h ⊢
 by_cases hb:b∈O'
 ·rw [if_pos hb] at h; cases h
 ·rw [if_neg hb] at h
  rw [if_neg fun z=>hb (s b z)]; exact h
theorem Dy (H:Hp):hid H []=H:=by funext b; unfold hid; simp
theorem yE {H:Hp} {O:List Qo} {p:Qo} {o:HO} (h:H p=none):bH (hid H O) (hid (upd H p o) O):=fun b u q=>by
 unfold hid at q ⊢
 by_cases hb:b∈O
 ·rw [if_pos hb] at q; cases q
 ·rw [if_neg hb] at q ⊢
  rw [bg (bM q h)]; exact q
theorem cv {H:Hp} {p:Qo} (h:H p=none) (o:HO):bH H (upd H p o):=fun b u q=>by rw [bg (bM q h)]; exact q
theorem li {H:Hp} {O:List Qo} {p:Qo} (h:p∉O):hid H O p=H p:=by unfold hid; rw [if_neg h]
theorem oa {H:Hp} {O:List Qo} {p:Qo} {o:HO} (h:p∈O):bH (hid H O) (hid (upd H p o) O):=fun b u q=>by
 unfold hid at q ⊢
 by_cases hb:b∈O
 ·rw [if_pos hb] at q; cases q
 ·rw [if_neg hb] at q ⊢
  rw [bg (fun z=>hb (by rw [z]; exact h))]; exact q

inductive S where
 | val (d:D) | own (d:D)
abbrev av:=List (Option S)
def su:HO->Prop
 | .lst _=>True
 | .dK _=>True
 | .dT _=>True
 | _=>False
class bc where
 tab:Hp->Prop
 same:∀ {H H':Hp},tab H->bH H H'->tab H'
 own:∀ {H:Hp} {p:Qo} {o o':HO},tab H->H p=some o->su o->tab (upd H p o')
variable [bc]
def dD (H:Hp) (O:List Qo):Prop:=bc.tab H/\∀ a∈O,∃ o,H a=some o/\su o
theorem dD.not {H:Hp} {O:List Qo} (h:dD H O) {p:Qo} (n:H p=none):p∉O:=fun z=>by
 obtain⟨vs,e,_⟩:=h.2 p z
 rw [n] at e; cases e
theorem dD.same {H H':Hp} {O:List Qo} (h:dD H O) (e:bH H H'):dD H' O:=⟨bc.same h.1 e,fun a ha=>let ⟨vs,q,m⟩:=h.2 a ha; ⟨vs,e _ _ q,m⟩⟩
theorem dD.upd {H:Hp} {O:List Qo} {p:Qo} {o:HO} (h:dD H O) (hp:p∈O) (m:su o):dD (L2.upd H p o) O:=⟨let ⟨_,q,r⟩:=h.2 p hp; bc.own h.1 q r,fun a ha=>by
 by_cases z:a=p
 ·rw [z]; exact⟨o,bJ,m⟩
 ·obtain⟨u,q,r⟩:=h.2 a ha
  exact⟨u,by rw [bg z]; exact q,r⟩⟩
theorem dD.cons {H:Hp} {O:List Qo} {p:Qo} {o:HO} (h:dD H O) (hp:H p=some o) (m:su o):dD H (p::O):=⟨h.1,fun a ha=>by
 rcases List.mem_cons.mp ha with z | z
 ·rw [z]; exact⟨o,hp,m⟩
 ·exact h.2 a z⟩
def jX (K:O2) (H:Hp) (O:List Qo) (a:Qo) (d:D):Prop:=∃ o vs,H a=some o/\match d with
 | .lst xs=>o=.lst vs/\bp K (hid H O) xs vs
 | .dct ks ds=>bp K (hid H O) ds vs/\((∃ kvs:List (Key×V),o=.dK kvs/\ks=kvs.map (fun p=>dY p.1)/\vs=kvs.map (·.2)) \/
   ∃ kvs:List (List Key×V),o=.dT kvs/\ks=kvs.map (fun p=>.tup (p.1.map dY))/\vs=kvs.map (·.2))
 | _=>False
theorem jX.mono {K:O2} {H H':Hp} {O O':List Qo} {a:Qo} {d:D} (h:jX K H O a d) (e:H a=H' a) (s:bH (hid H O) (hid H' O')):jX K H' O' a d:=by
 obtain⟨o,vs,h1,h2⟩:=h
 refine⟨o,vs,by rw [<- e]; exact h1,?_⟩
 cases d with
 | lst xs=>exact⟨h2.1,h2.2.mono s⟩
 | dct ks ds=>exact⟨h2.1.mono s,h2.2⟩
 | _=>exact h2
theorem jX.some {K:O2} {H:Hp} {O:List Qo} {a:Qo} {d:D} (h:jX K H O a d):∃ o,H a=some o:=let ⟨o,_,e,_⟩:=h; ⟨o,e⟩
theorem jX.den {K:O2} {H:Hp} {O O':List Qo} {a:Qo} {d:D} (h:jX K H O a d) (s:bH (hid H O) (hid H O')) (ha:a∉O'):cA K (hid H O') d (.ref a):=by
 obtain⟨o,vs,h1,h2⟩:=h
 have h1':hid H O' a=Option.some o:=by rw [li ha]; exact h1
 cases d with
 | lst xs =>
  obtain⟨e,g⟩:=h2
  subst e
  exact cq.mpr ⟨a,vs,rfl,mG.of h1',g.mono s⟩
 | dct ks ds =>
  obtain⟨g,q⟩:=h2
  refine JR.mpr ⟨a,vs,rfl,g.mono s,?_⟩
  rcases q with ⟨kvs,e,q⟩ | ⟨kvs,e,q⟩
  ·subst e; exact .inl ⟨kvs,h1',q⟩
  ·subst e; exact .inr ⟨kvs,h1',q⟩
 | _=>exact h2.elim
structure dM (K:O2) (O:List Qo) (H:Hp) (ρ:av) (σ:St):Prop where
 val:∀ (i:Nat) d,ρ[i]?=some (some (.val d))->∃ v,σ[i]?=some (some v)/\cA K (hid H O) d v
 own:∀ (i:Nat) d,ρ[i]?=some (some (.own d))->∃ a,σ[i]?=some (some (.ref a))/\a∈O/\jX K H O a d
 one:∀ (i j:Nat) xs ys a,ρ[i]?=some (some (.own xs))->ρ[j]?=some (some (.own ys))->σ[i]?=some (some (.ref a))->σ[j]?=some (some (.ref a))->i=j
 all:dD H O
theorem uA {H H':Hp} (e:bH H H') {a:Qo} {o:HO} (h:H a=some o):H a=H' a:=by rw [h,e _ _ h]
theorem dM.same {K:O2} {O:List Qo} {H H':Hp} {ρ:av} {σ:St} (h:dM K O H ρ σ) (e:bH H H'):dM K O H' ρ σ :=
  ⟨fun i d q=>let ⟨v,a,b⟩:=h.val i d q; ⟨v,a,b.mono (cE e)⟩,
   fun i xs q=>let ⟨a,q1,q2,q3⟩:=h.own i xs q; ⟨a,q1,q2,q3.mono (let ⟨_,z⟩:=q3.some; uA e z) (cE e)⟩,h.one,h.all.same e⟩

structure Ex where
 c:Str
 fs:List Str
 vs:List D
abbrev R (α:Type):=Except (Option Ex) α
abbrev un {α:Type}:R α:=.error none
def rO {α:Type}:Option α->R α
 | some a=>.ok a
 | none=>.error none
def HV (K:O2) (Hd:Hp) (x:Ex) (C:Qo) (dx:Option Qo):Prop:=clsAt K x.c C/\∃ ws,bp K Hd x.vs ws/\x.fs.length=ws.length/\(x.fs=[]\/∃ d,dx=some d/\Hd d=some (.xd (x.fs.zip ws)))
theorem HV.mono {K:O2} {H H':Hp} {x:Ex} {C:Qo} {dx:Option Qo} (h:HV K H x C dx) (e:bH H H'):HV K H' x C dx:=by
 obtain⟨h1,ws,h2,h3,h4⟩:=h
 exact⟨h1,ws,h2.mono e,h3,h4.imp id fun ⟨d,q1,q2⟩=>⟨d,q1,e _ _ q2⟩⟩
end TG
namespace TG
open PySem PySem.Spec L2
variable [bc]
open PyProof.Rows (AllBare)
theorem C2 {P:Qn} {w:Qm} {H:Hp} {h:Qp} {a:Qo} {o:HO} (x:dg P w H h a o):∃ u,h.get? a=some u:=by
 cases o with
 | lst xs=>obtain⟨_,_,_,_,e⟩:=x; exact⟨_,e⟩
 | tup xs=>obtain⟨_,_,_,o,e,_⟩:=x; exact⟨_,e⟩
 | dK kvs=>obtain⟨_,_,_,_,o,_,_,e,_⟩:=x; exact⟨_,e⟩
 | dT kvs=>obtain⟨_,_,_,_,o,_,_,e,_⟩:=x; exact⟨_,e⟩
 | set S n=>obtain⟨o,_,_,_,e,_⟩:=x; exact⟨_,e⟩
 | ins C dx fs=>obtain⟨_,_,_,e,_⟩:=x; exact⟨_,e⟩
 | own y=>exact x
 | xd fs=>obtain⟨_,⟨_,_,_,e,_⟩,_⟩:=x; exact⟨_,e⟩
 | rng lo hi=>obtain⟨_,_,_,e⟩:=x; exact⟨_,e⟩
 | frz ob u=>obtain⟨e,_⟩:=x; exact⟨_,e⟩
 | tbl ps=>exact⟨_,(show h.get? a=some _ from x)⟩
 | met f y=>exact⟨_,(show h.get? a=some _ from x)⟩
 | ext φ=>obtain⟨_,e,_⟩:=x; exact e
def kT (X:Cx) (H:Hp) (b:Qo):Prop:=((∃ o,X.s₀.heap.get? b=some o)/\b∉X.ex)\/H b≠none\/(∃ o,(b,o)∈X.pn)\/∃ x,X.env.cells.lookup x=some b
def Ms (B:Qp) (e:Qo) (cls a0:Ql) (h:Qp):Prop:=h.TracedW B e cls a0\/∃ oe vs,h.get? e=some oe/\oe.cls=cls/\oe.data=.fields vs/\vs[1]?=some .none/\vs[0]?=some a0
def yN (X:Cx) (H:Hp) (s:Qu) (e C:Qo):Prop:=∃ B a0,B.StaysIn s.heap/\B.get? e=none/\s.heap.FunFrames B X.stack/\Ms B e (.ref C) a0 s.heap/\∀ b o,s.heap.get? b=some o->kT X H b->b∉frs X.stack->B.get? b=some o
def My (X:Cx) (H:Hp) (O:List Qo) (s:Qu) (u:Ql) (x:Ex):Prop:=∃ e C dx,u=.ref e/\HV X.K (hid H O) x C dx/\yN X H s e C
def nc (P:Qn) (w:Qm):xg:=fun outer H s E u s'=>∃ e C dx H' B a0,u=.ref e/\s'.os=s.os/\AllBare s'.gens/\Un (frs outer) [] H H' s.heap s'.heap/\pj P w H' s'.heap/\Heap.FlyingW B outer e (.ref C) a0 s'.heap /\
 (∀ b o,s'.heap.get? b=some o->((∃ o',s.heap.get? b=some o')\/H' b≠none)->b∉frs outer->B.get? b=some o)/\E (.ref C) dx H'
def J8 (K:O2) (H:Hp) (O:List Qo) (x:Ex) (E:XK):Prop:=∀ C dx H',bH H H'->HV K (hid H' O) x C dx->E (.ref C) dx H'
def GA (X:Cx) (σ:St) (O:List Qo) (H:Hp) (x:Ex):Prop:=∀ pins s u H',Inv X pins σ H' s->bH H H'->My X H' O s u x->X.xe u s
theorem GA.mono {X:Cx} {σ:St} {O:List Qo} {H H':Hp} {x:Ex} (h:GA X σ O H x) (s:bH H H'):GA X σ O H' x:=fun pins st u H2 I s2 f=>h pins st u H2 I (s.trans s2) f
def zu (X:Cx) (O:List Qo) (H:Hp) (x:Ex):XK:=fun u dx H'=>∃ C,u=.ref C/\bH H H'/\HV X.K (hid H' O) x C dx
def jB (CX:xg) (X:Cx) (σ:St) (E:XK):Prop:=∀ (pins:List (Qo×Obj)) (H:Hp) (s:Qu) (e:Ql) (s':Qu),Inv X pins σ H s->CX X.stack H s E e s'->X.xe e s'
theorem zF {X:Cx} {σ:St} {O:List Qo} {H:Hp} {x:Ex} (h:GA X σ O H x):jB (nc X.prog X.w) X σ (zu X O H x):=by
 rintro pins H1 s u s' I ⟨e,C,dx,H',B,a0,rfl,os,bare,un,hok,⟨f1,f2,f3,f4⟩,kp,C',eC,sm,hd⟩
 cases eC
 have I':Inv X pins σ H' s':=I.call' os un hok bare (ch:=[]) fun b z=>absurd z (by simp)
 refine h pins s' _ H' I' sm ⟨e,C,dx,rfl,hd,B,a0,f1,f2,f3,.inl f4,fun b o eb hb nf=>kp b o eb ?_ nf⟩
 rcases hb with ⟨⟨o',hb⟩,nx⟩ | hb | ⟨o',hb⟩ | ⟨y,hb⟩
 ·exact .inl (I.base.there b o' hb nx)
 ·exact .inr hb
 ·exact .inl ⟨_,(I.pin _ (MK _ hb)).1⟩
 ·obtain⟨v,o,q,_⟩:=I.cell y b hb
  exact .inl ⟨o,q⟩
theorem yD {X:Cx} {σ:St}:jB (nc X.prog X.w) X σ E0:=fun _ _ _ _ _ _ ⟨_,_,_,_,_,_,_,_,_,_,_,_,_,z⟩=>z.elim
theorem vD {X:Cx} {O:List Qo} {H:Hp} {x:Ex}:J8 X.K H O x (zu X O H x):=fun C dx H' s e=>⟨C,rfl,s,e⟩
section
variable {X:Cx} {pins:List (Qo×Obj)} {σ:St} {H:Hp} {s:Qu} {h':Qp}
theorem zz (I:Inv X pins σ H s) (k:∀ b o,s.heap.get? b=some o->kT X H b->b∉frs X.stack->h'.get? b=some o):pj X.prog X.w H h':=fun a ob ea =>
 (I.hok a ob ea).stay (fun b u hb q=>by
  have hn:H b≠none:=by
   rcases hb with e | e
   ·rw [e,ea]; intro z; cases z
   ·rw [e]; intro z; cases z
  exact k b u q (.inr (.inl hn)) fun hf=>hn (I.stkFree b hf)) (fun _ q=>q) fun _ _ q=>q
theorem tD (I:Inv X pins σ H s) (us:s.heap.UpToSlots h') {b:Qo} {o:Obj} (hb:b∈frs X.stack) (e:s.heap.get? b=some o):∃ sl,h'.get? b=some { o with slots:=sl }:=by
 obtain⟨_,o',e',nf⟩:=I.stack.mem hb
 rw [e] at e'; cases e'
 exact us b o e nf
theorem Bk (I:Inv X pins σ H s) (hx:X.ex=[]) (hst:X.stack=X.env::X.outer) (hf:X.env.frame=some X.env.locals) (us:s.heap.UpToSlots h') (k:∀ b o,s.heap.get? b=some o->kT X H b->b∉frs X.stack->h'.get? b=some o) :
  Un (frs X.outer) [] X.H₀ H X.s₀.heap h':=by
 have U:=I.base
 rw [hx] at U
 have fr:frs X.stack=X.env.locals::frs X.outer:=by rw [hst]; show List.filterMap _ (_::_)=_; rw [MH,hf]; rfl
 have nl:∀ b o,X.s₀.heap.get? b=some o->b≠X.env.locals:=fun b o q z=>by
  have h1:=PJ q
  have h2:=I.ok.above
  rw [z] at h1; exact MD _ (MC h1 h2)
 have nfr:∀ b o,X.s₀.heap.get? b=some o->b∉frs X.outer->b∉frs X.stack:=fun b o q nb z=>by
  rw [fr] at z
  rcases List.mem_cons.mp z with z | z
  ·exact nl b o q z
  ·exact nb z
 refine⟨fun b o q n nb _=>k b o (U.keep b o q n nb (by simp)) (.inl ⟨⟨o,q⟩,by rw [hx]; simp⟩) (nfr b o q nb),fun b o q n hb _=>?_,fun b o q n _=>U.free b o q n (by simp),fun b o q _=>?_,U.tups,U.frzs,U.tbls⟩
 ·obtain⟨sl,e⟩:=U.slot b o q n hb (by simp)
  obtain⟨sl',e'⟩:=tD I us (by rw [fr]; exact MJ _ hb) e
  exact⟨sl',e'⟩
 ·obtain⟨o1,e1⟩:=U.there b o q (by simp)
  by_cases hb:b∈frs X.stack
  ·obtain⟨sl,e⟩:=tD I us hb e1
   exact⟨_,e⟩
  ·exact⟨o1,k b o1 e1 (.inl ⟨⟨o,q⟩,by rw [hx]; simp⟩) hb⟩
end
theorem Gc {P:Qn} {w:Qm} {K:O2} {mg:Str->Option Ql} {base:Qp} {N:List Str} {qual:Str} {scope:Qv} {f:Qo} {cd:Ql} {A:Qt} {outer:List Env} {s:Qu} {H:Hp} {E:XK} {σ:St} {O O':List Qo} {H':Hp} {x:Ex}
  (hx:J8 K H O x E) (sm:bH H H') (hs:∀ a∈O,a∈O'):GA (kB (nc P w) P w K mg base N qual scope f cd A outer s H E) σ O' H' x:=by
 rintro pins s1 u H1 I s2 ⟨e,C,dx,rfl,hd,B,a0,b1,b2,b3,b4,b5⟩
 have fin:∀ h',Heap.FlyingW B outer e (.ref C) a0 h'->s1.heap.UpToSlots h'->nc P w outer H s E (.ref e) { s1 with heap:=h' }:=fun h' fl us=>by
  have k:∀ b o,s1.heap.get? b=some o->kT (kB (nc P w) P w K mg base N qual scope f cd A outer s H E) H1 b->b∉frs (kB (nc P w) P w K mg base N qual scope f cd A outer s H E).stack->h'.get? b=some o:=fun b o q kb nf=>fl.1 b o (b5 b o q kb nf)
  have un:=Bk I rfl rfl rfl us k
  have hok:=zz I k
  refine⟨e,C,dx,H1,B,a0,rfl,I.os,I.bare,un,hok,fl,fun b o q hb nf=>?_,hx C dx H1 (sm.trans s2) (hd.mono (kZ hs))⟩
  have nf2:b∉frs (kB (nc P w) P w K mg base N qual scope f cd A outer s H E).stack:=fun z=>by
   rcases List.mem_cons.mp (show b∈s.heap.objs.size::frs outer from z) with z | z
   ·rcases hb with hb | hb
    ·obtain⟨o',hb⟩:=hb
     have:=PJ hb
     rw [z] at this; exact MD _ this
    ·rw [z] at hb; exact hb I.free
   ·exact nf z
  have kb:kT (kB (nc P w) P w K mg base N qual scope f cd A outer s H E) H1 b:=hb.elim (fun z=>.inl ⟨z,fun y=>nomatch y⟩) fun z=>.inr (.inl z)
  obtain⟨o1,e1⟩:∃ o1,s1.heap.get? b=some o1:=by
   rcases hb with ⟨o',hb⟩ | hb
   ·exact I.base.there b o' hb (fun z=>nomatch z)
   ·cases q0:H1 b with
    | none=>exact absurd q0 hb
    | some ob=>exact C2 (I.hok b ob q0)
  have:=k b o1 e1 kb nf2
  rw [q] at this; cases this
  exact b5 b _ e1 kb nf2
 show Qx _ _ (leaving (P0 qual scope s.heap.objs.size f cd) (.ref e)) _ _ s1
 rcases b4 with b4 | ⟨oe,vs,c1,c2,c3,c4,c5⟩
 ·exact wpAny_leaves_onW I.ok.frames rfl ⟨b1,b2,b3,b4⟩ fin
 ·refine wpAny_leaving_firstW I.ok.frames b3 rfl c1 b1 b2 c3 c4 c5 fun h' hL=>?_
  obtain⟨k1,⟨_,_,k2⟩,k3,k4⟩:=hL
  exact fin h' ⟨k1,b2,k2,c2 ▸ k3⟩ k4
end TG
namespace TG
open PySem PySem.Spec L2
variable [bc]

def hV (X:Cx) (σ:St) (O:List Qo) (H:Hp) {α:Type} (r:R α) (Q:α->Prop):Prop:=match r with
 | .ok a=>Q a
 | .error (some x)=>GA X σ O H x
 | .error none=>False
section
variable {X:Cx} {σ:St} {O:List Qo} {H H':Hp} {α β:Type}
theorem hV.bind {r:R α} {G:α->R β} {Q:β->Prop} (h:hV X σ O H (r.bind G) Q):hV X σ O H r fun a=>hV X σ O H (G a) Q:=by
 match r,h with
 | .ok a,h=>exact h
 | .error (some x),h=>exact h
 | .error none,h=>exact h
theorem hV.imp {r:R α} {Q Q':α->Prop} (h:hV X σ O H r Q) (f:∀ a,Q a->Q' a):hV X σ O H r Q':=by
 match r,h with
 | .ok a,h=>exact f a h
 | .error (some x),h=>exact h
 | .error none,h=>exact h
theorem hV.mono {r:R α} {Q:α->Prop} (h:hV X σ O H r Q) (s:bH H H'):hV X σ O H' r Q:=by
 match r,h with
 | .ok a,h=>exact h
 | .error (some x),h=>exact GA.mono h s
 | .error none,h=>exact h
theorem hV.rO {o:Option α} {Q:α->Prop} (h:hV X σ O H (rO o) Q):∃ a,o=some a/\Q a:=by
 match o,h with
 | some a,h=>exact⟨a,rfl,h⟩
 | none,h=>exact h.elim
end
abbrev FX:=av->R D
def tF (X:Cx) (F:FX):TE:=fun σ H Q=>∃ O ρ,dM X.K O H ρ σ/\hV X σ O H (F ρ) fun d=>∀ v H',bH H H'->cA X.K (hid H' O) d v->Q v H'
def Jo (X:Cx) (F:av->R Bool):TT:=fun σ H Q=>∃ O ρ,dM X.K O H ρ σ/\hV X σ O H (F ρ) fun b=>∀ H',bH H H'->Q b H'
def Kg (X:Cx) (F:av->R (List D)):TA:=fun σ H Q=>∃ O ρ,dM X.K O H ρ σ/\hV X σ O H (F ρ) fun ds=>∀ vs H',bH H H'->bp X.K (hid H' O) ds vs->Q vs H'
def FE (X:Cx) (e:Qy) (F:FX):Prop:=PE X e (tF X F)
def FT (X:Cx) (e:Qy) (F:av->R Bool):Prop:=PT X e (Jo X F)
def FW (X:Cx) (e:Qy) (F:av->R Bool):Prop:=PW X e (Jo X F)
def FA (X:Cx) (es:List Qy) (F:av->R (List D)):Prop:=PA X es (Kg X F)

theorem PE.weak {X:Cx} {e:Qy} {t t':TE} (h:PE X e t) (w:∀ σ H Q,t' σ H Q->t σ H Q):PE X e t':=fun pins s σ H Q I q=>h pins s σ H Q I (w σ H Q q)
theorem PT.weak {X:Cx} {e:Qy} {t t':TT} (h:PT X e t) (w:∀ σ H Q,t' σ H Q->t σ H Q):PT X e t':=fun pins s σ H Q I q=>h pins s σ H Q I (w σ H Q q)
theorem PW.weak {X:Cx} {e:Qy} {t t':TT} (h:PW X e t) (w:∀ σ H Q,t' σ H Q->t σ H Q):PW X e t':=fun whole pins s σ H Q I q=>h whole pins s σ H Q I (w σ H Q q)
theorem PA.weak {X:Cx} {es:List Qy} {t t':TA} (h:PA X es t) (w:∀ σ H Q,t' σ H Q->t σ H Q):PA X es t':=fun pos pins s σ H Q I q=>h pos pins s σ H Q I (w σ H Q q)
theorem PS.weak {X:Cx} {st:QA} {t t':TS} (h:PS X st t) (w:∀ D σ H,t' D σ H->t D σ H):PS X st t':=fun pins s σ H Q I q=>h pins s σ H Q I (w Q σ H q)
theorem vC.weak {X:Cx} {st:List QA} {t t':TS} (h:vC X st t) (w:∀ D σ H,t' D σ H->t D σ H):vC X st t':=fun pins s σ H Q I q=>h pins s σ H Q I (w Q σ H q)

def qQ (ρ:av) (i:Nat):R D:=match ρ[i]? with
 | some (some (.val d))=>.ok d
 | _=>un
theorem DS {ρ:av} {i:Nat} {d:D} (h:qQ ρ i=.ok d):ρ[i]?=some (some (.val d)):=by
 unfold qQ at h
 split at h
 ·rename_i e; cases h; exact e
 ·cases h
def ai (i:Nat):FX:=fun ρ=>qQ ρ i
def fC (d:D):FX:=fun _=>.ok d
section
variable {X:Cx}
theorem Aj {σ:St} {O:List Qo} {H:Hp} {ρ:av} {i:Nat} {Q:D->Prop} (h:hV X σ O H (qQ ρ i) Q):∃ d,ρ[i]?=some (some (.val d))/\Q d:=by
 cases e:qQ ρ i with
 | ok d=>rw [e] at h; exact⟨d,DS e,h⟩
 | error z =>
  rw [e] at h
  cases z with
  | none=>exact h.elim
  | some x =>
   exfalso
   unfold qQ at e
   split at e
   ·cases e
   ·have:=Except.error.inj e; cases this
theorem KS {i:Nat} {x:Str} {pos:Pos} (h:PE X (.Name x pos) (qd i)):FE X (.Name x pos) (ai i) :=
 PE.weak h fun σ H Q ⟨O,ρ,E,hF⟩=>by
  obtain⟨d,e,q⟩:=Aj hF
  obtain⟨v,e,dv⟩:=E.val i d e
  exact⟨v,e,q v H (bH.refl H) dv⟩
theorem lu {e:Qy} {d:D} {v:V} (h:PE X e (tC v)) (hd:∀ K H,cA K H d v):FE X e (fC d) :=
 PE.weak h fun σ H Q ⟨O,ρ,E,q⟩=>q v H (bH.refl H) (hd _ _)
theorem JV {i j pos}:FE X (.Constant (.int i) j pos) (fC (.int i)):=lu CM fun _ _=>eU.mpr rfl
theorem Mb {b j pos}:FE X (.Constant (.bool b) j pos) (fC (.bl b)):=lu IX fun _ _=>kK.mpr rfl
theorem LJ {j pos}:FE X (.Constant .none j pos) (fC .non):=lu FR fun _ _=>kq.mpr rfl
theorem Kw {x j pos}:FE X (.Constant (.str x) j pos) (fC (.str x)):=lu GD fun _ _=>eV.mpr rfl

def noStar:Qy->Bool
 | .Starred _ _=>false
 | _=>true
theorem cS {e:Qy} {es:List Qy} {env:Env} (h:noStar e=true):Qz (e::es) env=(false,eval e env)::Qz es env:=by
 cases e <;> first | rfl | cases h
theorem dE {pos:Pos} {env:Env}:∀ {es:List Qy},es.all noStar=true->(backTo pos (Qz es env)).any (·.1)=false
 | [],_=>rfl
 | e::es,h=>by
  rw [ND,Nc] at h
  rw [cS h.1]
  exact dE h.2
def au:av->R (List D):=fun _=>.ok []
def af (f:FX) (g:av->R (List D)):av->R (List D):=fun ρ=>(f ρ).bind fun x=>(g ρ).bind fun xs=>.ok (x::xs)
theorem Lw:FA X [] au:=PA.weak vv fun σ H Q ⟨O,ρ,E,q⟩=>q [] H (bH.refl H) (cF.mpr rfl)
theorem bind_some {α β:Type} {o:Option α} {f:α->Option β} {b:β} (h:o.bind f=some b):∃ a,o=some a/\f a=some b:=by
 cases o with
 | none=>cases h
 | some a=>exact⟨a,rfl,h⟩
theorem qo {ε α β:Type} {o:Except ε α} {f:α->Except ε β} {b:β} (h:o.bind f=.ok b):∃ a,o=.ok a/\f a=.ok b:=by
 cases o with
 | error _=>cases h
 | ok a=>exact⟨a,rfl,h⟩
theorem JF {e:Qy} {es:List Qy} {f:FX} {g:av->R (List D)} (he:FE X e f) (hs:FA X es g) (hns:noStar e=true:=by rfl):FA X (e::es) (af f g) :=
 PA.weak (lZ he hs (cS hns)) fun σ H Q ⟨O,ρ,E,h⟩ =>
  ⟨O,ρ,E,(hV.bind h).imp fun x h v H1 s1 d1=>⟨O,ρ,E.same s1,((hV.bind h).mono s1).imp fun xs q vs H2 s2 d2=>q (v::vs) H2 (s1.trans s2) (bL.mpr ⟨v,vs,rfl,d1.mono (cE s2),d2⟩)⟩⟩
def small (n:Nat):Bool:=decide (n<=100000)
theorem dh {n:Nat} (h:small n=true):n<=Qq:=MF (of_decide_eq_true h) (by decide)
theorem dW {n:Nat} (h:n<=100000):small n=true:=decide_eq_true h
def tO (xs:List D):Option D:=if small xs.length then some (.tup xs) else none
def ia (xs:List D):Option D:=if small xs.length then some (.lst xs) else none
def bb (g:av->R (List D)):FX:=fun ρ=>(g ρ).bind fun xs=>rO (tO xs)
def dN (g:av->R (List D)):FX:=fun ρ=>(g ρ).bind fun xs=>rO (ia xs)
theorem bP {α:Type} {c:Bool} {a b:α} (h:(if c then some a else none)=some b):c=true/\a=b:=by
 cases c with
 | true=>exact⟨rfl,Option.some.inj h⟩
 | false=>cases h
theorem fh {K:O2} {H:Hp} {O:List Qo} {p:Qo} {ds:List D} {vs:List V} (hO:dD H O) (hp:H p=none) (d:bp K (hid H O) ds vs):cA K (hid (upd H p (.tup vs)) O) (.tup ds) (.ref p) :=
 cu.mpr ⟨p,vs,rfl,by rw [li (hO.not hp),bJ],d.mono (yE hp)⟩
theorem gP {K:O2} {H:Hp} {O:List Qo} {p:Qo} {ds:List D} {vs:List V} (hO:dD H O) (hp:H p=none) (d:bp K (hid H O) ds vs):cA K (hid (upd H p (.lst vs)) O) (.lst ds) (.ref p) :=
 cq.mpr ⟨p,vs,rfl,mG.of (by rw [li (hO.not hp),bJ]),d.mono (yE hp)⟩
theorem LQ {es:List Qy} {g:av->R (List D)} {k pos} (h:FA X es g):FE X (.Tuple es k pos) (bb g) :=
 PE.weak (G7 h) fun σ H Q ⟨O,ρ,E,hF⟩=>⟨O,ρ,E,(hV.bind hF).imp fun xs hF vs H1 s1 d1=>by
  obtain⟨d,e,q⟩:=hV.rO hF
  obtain⟨hz,e⟩:=bP e
  subst e
  refine⟨by rw [<- d1.length]; exact dh hz,fun p hp=>?_⟩
  exact q _ _ (s1.trans (cv hp _)) (fh (E.all.same s1) hp d1)⟩
theorem Lh {es:List Qy} {g:av->R (List D)} {pos} (h:FA X es g):FE X (.List es pos) (dN g) :=
 PE.weak (CK h) fun σ H Q ⟨O,ρ,E,hF⟩=>⟨O,ρ,E,(hV.bind hF).imp fun xs hF vs H1 s1 d1=>by
  obtain⟨d,e,q⟩:=hV.rO hF
  obtain⟨hz,e⟩:=bP e
  subst e
  refine⟨by rw [<- d1.length]; exact dh hz,fun p hp=>?_⟩
  exact q _ _ (s1.trans (cv hp _)) (gP (E.all.same s1) hp d1)⟩

def Ew (K:O2) (r:V->Hp->VK->Prop) (g:D->Option D):Prop :=
 ∀ (a d:D) (x:V) (O:List Qo) (H:Hp) (Q:VK),dD H O->g a=some d->cA K (hid H O) a x->(∀ v H',bH H H'->cA K (hid H' O) d v->Q v H')->r x H Q
def f1 (g:D->Option D) (f:FX):FX:=fun ρ=>(f ρ).bind fun a=>rO (g a)
def dH (K:O2) (r:R2) (g:D->D->Option D):Prop :=
 ∀ (a b d:D) (x y:V) (O:List Qo) (H:Hp) (Q:VK),dD H O->g a b=some d->cA K (hid H O) a x->cA K (hid H O) b y->(∀ v H',bH H H'->cA K (hid H' O) d v->Q v H')->r x y H Q
def f2 (g:D->D->Option D) (f1 f2:FX):FX:=fun ρ=>(f1 ρ).bind fun a=>(f2 ρ).bind fun b=>rO (g a b)
theorem vn {r:R2} {g:D->D->Option D} {fa fb:FX} (s:dH X.K r g):∀ σ H Q,tF X (f2 g fa fb) σ H Q->HY r (tF X fa) (tF X fb) σ H Q:=fun σ H Q ⟨O,ρ,E,hF⟩ =>
 ⟨O,ρ,E,(hV.bind hF).imp fun a hF x H1 s1 d1=>⟨O,ρ,E.same s1,((hV.bind hF).mono s1).imp fun b hF y H2 s2 d2=>by
  obtain⟨d,e,q⟩:=hV.rO hF
  exact s a b d x y O H2 Q (E.all.same (s1.trans s2)) e (d1.mono (cE s2)) d2 fun v H3 s3 d3=>q v H3 ((s1.trans s2).trans s3) d3⟩⟩
theorem J5 {a b:Qy} {op:Operator} {r:R2} {g:D->D->Option D} {fa fb:FX} {pos:Pos} (ho:kD X (QL op) r) (s:dH X.K r g) (ha:FE X a fa) (hb:FE X b fb):FE X (.BinOp a op b pos) (f2 g fa fb) :=
 PE.weak (Fc ho ha hb) (vn s)
theorem Lc {a b:Qy} {op:CmpOp} {r:R2} {g:D->D->Option D} {fa fb:FX} {pos:Pos} (ho:kD X (QM op) r) (s:dH X.K r g) (ha:FE X a fa) (hb:FE X b fb) (hm:QN op b=false):FE X (.Compare a [op] [b] pos) (f2 g fa fb) :=
 PE.weak (Et ho ha hb hm) (vn s)
def Ko:D->Option Bool
 | .bl b=>some b
 | _=>none
def fB (f:FX):av->R Bool:=fun ρ=>(f ρ).bind fun d=>rO (Ko d)
theorem CG {t:TE} {f:FX} (h:∀ σ H Q,tF X f σ H Q->t σ H Q):∀ σ H Q,Jo X (fB f) σ H Q->Fd t σ H Q:=fun σ H Q ⟨O,ρ,E,hF⟩ =>
 h σ H _ ⟨O,ρ,E,(hV.bind hF).imp fun d hF v H1 s1 d1=>by
  obtain⟨b,e,q⟩:=hV.rO hF
  cases d with
  | bl b' =>
   cases e
   exact⟨b,kK.mp d1,q H1 s1⟩
  | _=>cases e⟩
theorem JW {a b:Qy} {op:CmpOp} {r:R2} {g:D->D->Option D} {fa fb:FX} {pos:Pos} (ho:kD X (QM op) r) (s:dH X.K r g) (ha:FE X a fa) (hb:FE X b fb) (hm:QN op b=false):FT X (.Compare a [op] [b] pos) (fB (f2 g fa fb)) :=
 PT.weak (Ep ho ha hb hm) (CG (vn s))

def zC (K:O2) (r:List V->Hp->VK->Prop) (g:List D->Option D):Prop :=
 ∀ (ds:List D) (d:D) (xs:List V) (O:List Qo) (H:Hp) (Q:VK),dD H O->g ds=some d->bp K (hid H O) ds xs->(∀ v H',bH H H'->cA K (hid H' O) d v->Q v H')->r xs H Q
def fL (g:List D->Option D) (f:av->R (List D)):FX:=fun ρ=>(f ρ).bind fun ds=>rO (g ds)
def fR (g:List D->R D) (f:av->R (List D)):FX:=fun ρ=>(f ρ).bind g
theorem Cd {r:List V->Hp->VK->Prop} {g:List D->Option D} {f:av->R (List D)} (s:zC X.K r g):∀ σ H Q,tF X (fL g f) σ H Q->JS r (Kg X f) σ H Q:=fun σ H Q ⟨O,ρ,E,hF⟩ =>
 ⟨O,ρ,E,(hV.bind hF).imp fun ds hF vs H1 s1 d1=>by
  obtain⟨d,e,q⟩:=hV.rO hF
  exact s ds d vs O H1 Q (E.all.same s1) e d1 fun v H2 s2 d2=>q v H2 (s1.trans s2) d2⟩

def Ee (f:av->R Bool):av->R Bool:=fun ρ=>(f ρ).bind fun b=>.ok (!b)
def nB (f g:av->R Bool):av->R Bool:=fun ρ=>(f ρ).bind fun b=>if b then g ρ else .ok false
def xW (f g:av->R Bool):av->R Bool:=fun ρ=>(f ρ).bind fun b=>if b then .ok true else g ρ
variable {a b c:Qy} {rest:List Qy} {pos:Pos} {f g:av->R Bool}
theorem Li (h:FT X a f):FT X (.UnaryOp .Not a pos) (Ee f):=PT.weak (Gv h) fun σ H Q ⟨O,ρ,E,hF⟩=>⟨O,ρ,E,(hV.bind hF).imp fun b q H1 s1=>q H1 s1⟩
theorem JL (h:FT X a f):FW X (.BoolOp .And [a] pos) f:=Dx h
theorem Lj (h:FT X a f):FW X (.BoolOp .Or [a] pos) f:=GV h
theorem KG (ha:FT X a f) (hb:FW X (.BoolOp .And (b::rest) pos) g):FW X (.BoolOp .And (a::b::rest) pos) (nB f g):=PW.weak (FC ha hb) fun σ H Q ⟨O,ρ,E,hF⟩=>⟨O,ρ,E,(hV.bind hF).imp fun c hF H1 s1=>by
 cases c with
 | true=>exact C4 ⟨O,ρ,E.same s1,(hF.mono s1).imp fun b q H2 s2=>q H2 (s1.trans s2)⟩
 | false=>exact Bm (hF H1 s1)⟩
theorem Ma (ha:FT X a f) (hb:FW X (.BoolOp .Or (b::rest) pos) g):FW X (.BoolOp .Or (a::b::rest) pos) (xW f g):=PW.weak (Id ha hb) fun σ H Q ⟨O,ρ,E,hF⟩=>⟨O,ρ,E,(hV.bind hF).imp fun c hF H1 s1=>by
 cases c with
 | false=>exact Bm ⟨O,ρ,E.same s1,(hF.mono s1).imp fun b q H2 s2=>q H2 (s1.trans s2)⟩
 | true=>exact C4 (hF H1 s1)⟩
theorem FW.ft {e:Qy} (h:FW X e f):FT X e f:=PW.pt h
def truth:D->Option Bool
 | .non=>some false
 | .bl b=>some b
 | .int i=>some (i != 0)
 | .str x=>if small x.length then some (x.length != 0) else none
 | .tup xs=>some (!xs.isEmpty)
 | .lst xs=>some (!xs.isEmpty)
 | _=>none
def rG (f:FX):av->R Bool:=fun ρ=>(f ρ).bind fun d=>rO (truth d)

def yd (d:D) (k:R D):R D:=match d with
 | .bl true=>k
 | .bl false=>.ok (.bl false)
 | _=>un
def Ij (d:D) (k:R D):R D:=match d with
 | .bl false=>k
 | .bl true=>.ok (.bl true)
 | _=>un
def FZ:D->Option D
 | .bl b=>some (.bl (!b))
 | _=>none
def Hl (f g:FX):FX:=fun ρ=>(f ρ).bind fun d=>yd d (g ρ)
def LN (f g:FX):FX:=fun ρ=>(f ρ).bind fun d=>Ij d (g ρ)
def HS (f:FX):FX:=f1 FZ f
variable {fa fb:FX}
def Hm (t:av->R Bool) (f g:FX):FX:=fun ρ=>(t ρ).bind fun c=>if c then f ρ else g ρ
theorem Mh (hc:FT X c f) (ha:FE X a fa) (hb:FE X b fb):FE X (.IfExp c a b pos) (Hm f fa fb):=PE.weak (Ct hc ha hb) fun σ H Q ⟨O,ρ,E,hF⟩=>⟨O,ρ,E,(hV.bind hF).imp fun d hF H1 s1=>by
 cases d with
 | true=>exact C4 ⟨O,ρ,E.same s1,(hF.mono s1).imp fun d q v H2 s2 d2=>q v H2 (s1.trans s2) d2⟩
 | false=>exact Bm ⟨O,ρ,E.same s1,(hF.mono s1).imp fun d q v H2 s2 d2=>q v H2 (s1.trans s2) d2⟩⟩
end
end TG
namespace TG
open PySem PySem.Spec L2
variable [bc]
open PySem.SeqAt (EqAt RcAt RcNeAt)

mutual
def pyEq:D->D->Bool
 | .non,.non=>true
 | .bl a,.bl b=>a==b
 | .bl a,.int b=>(if a then 1 else 0)==b
 | .int a,.bl b=>a==(if b then 1 else 0)
 | .int a,.int b=>a==b
 | .str a,.str b=>a==b
 | .tup xs,.tup ys=>eR xs ys
 | .lst xs,.lst ys=>eR xs ys
 | .dct _ _,.dct _ _=>true
 | .obj _ _ _,.obj _ _ _=>true
 | .exc _ _ _,.exc _ _ _=>true
 | _,_=>false
def eR:List D->List D->Bool
 | [],[]=>true
 | x::xs,y::ys=>pyEq x y && eR xs ys
 | _,_=>false
end
mutual
theorem o7:∀ d:D,pyEq d d=true
 | .non=>by unfold pyEq; rfl
 | .bl b=>by unfold pyEq; simp
 | .int i=>by unfold pyEq; simp
 | .str x=>by unfold pyEq; simp
 | .tup xs=>by unfold pyEq; exact nw xs
 | .lst xs=>by unfold pyEq; exact nw xs
 | .dct _ _=>by unfold pyEq; rfl
 | .obj _ _ _=>by unfold pyEq; rfl
 | .exc _ _ _=>by unfold pyEq; rfl
theorem nw:∀ ds:List D,eR ds ds=true
 | []=>by unfold eR; rfl
 | d::ds=>by unfold eR; rw [o7 d,nw ds]; rfl
end
def xn (xs ys:List D) (j:Nat):Bool:=match xs[j]?,ys[j]? with
 | some a,some b=>pyEq a b
 | _,_=>false
theorem gJ:∀ xs ys:List D,((List.range (min xs.length ys.length)).all (xn xs ys) && xs.length==ys.length)=eR xs ys
 | [],[]=>by unfold eR; rfl
 | [],_::_=>by unfold eR; simp
 | _::_,[]=>by unfold eR; simp
 | x::xs,y::ys=>by
  have ih:=gJ xs ys
  conv=>rhs; unfold eR
  rw [<- ih]
  have e:min (x::xs).length (y::ys).length=min xs.length ys.length+1:=by simp only [MT]; omega
  rw [e,List.range_succ_eq_map,ND,NE]
  have e2:((x::xs).length==(y::ys).length)=(xs.length==ys.length):=by simp
  rw [e2,Bool.and_assoc]
  have e3:(List.range (min xs.length ys.length)).all (xn (x::xs) (y::ys) ∘ Nat.succ)=(List.range (min xs.length ys.length)).all (xn xs ys):=by
   congr 1
  rw [e3]
  rfl
mutual
def pl:D->Bool
 | .tup xs=>iY xs
 | .lst xs=>iY xs
 | .dct _ _=>false
 | .obj _ _ _=>false
 | .exc _ _ _=>false
 | _=>true
def iY:List D->Bool
 | []=>true
 | x::xs=>pl x && iY xs
end
theorem gG {ks vs:List D} (h:pl (.dct ks vs)=true):False:=by unfold pl at h; cases h
theorem gk {c:Str} {fs:List Str} {vs:List D} (h:pl (.obj c fs vs)=true):False:=by unfold pl at h; cases h
theorem gH {c:Str} {fs:List Str} {vs:List D} (h:pl (.exc c fs vs)=true):False:=by unfold pl at h; cases h
theorem i6:∀ {xs:List D},iY xs=true->∀ x∈xs,pl x=true
 | [],_,_,h=>nomatch h
 | x::xs,h,y,hy=>by
  unfold iY at h
  rw [Nc] at h
  rcases List.mem_cons.mp hy with z | z
  ·rw [z]; exact h.1
  ·exact i6 h.2 y z
theorem xF:∀ {xs:List D},(∀ x∈xs,pl x=true)->iY xs=true
 | [],_=>by unfold iY; rfl
 | x::xs,h=>by
  unfold iY
  rw [Nc]
  exact⟨h x MI,xF fun y hy=>h y (MJ _ hy)⟩
theorem dj {xs:List D}:pl (.tup xs)=iY xs:=by rw [pl]
theorem dF {xs:List D}:pl (.lst xs)=iY xs:=by rw [pl]
def cO:Nat->D->Bool
 | n+1,.tup xs=>xs.all (cO n)
 | n+1,.lst xs=>xs.all (cO n)
 | 0,.tup _=>false
 | 0,.lst _=>false
 | _,.dct _ _=>false
 | _,.obj _ _ _=>false
 | _,.exc _ _ _=>false
 | _,_=>true

section
variable {X:Cx} {pins:List (Qo×Obj)} {σ:St} {H:Hp} {s:Qu}
theorem Inv.not_both (I:Inv X pins σ H s) {a:Qo} {xs ys:List V} (h:oR X.K H a xs) (h':mG X.K H a ys):False:=by
 obtain⟨its,_,ht,_⟩:=I.tuple h
 obtain⟨its2,_,hl,_⟩:=I.list h'
 exact absurd rfl (SeqAt.ne_of_list_tuple hl.isList (show s.heap.IsTuple a its.toArray from ht))
mutual
theorem Inv.den_inj (I:Inv X pins σ H s):∀ {a b:D} {v:V},pl a=true->pl b=true->cA X.K H a v->cA X.K H b v->a=b
 | .non,b,v,pa,pb,h,h'=>by
  rw [kq] at h; subst h
  cases b with
  | non=>rfl
  | bl _=>rw [kK] at h'; cases h'
  | int _=>rw [eU] at h'; cases h'
  | str _=>rw [eV] at h'; cases h'
  | tup _=>rw [cu] at h'; obtain⟨_,_,e,_⟩:=h'; cases e
  | lst _=>rw [cq] at h'; obtain⟨_,_,e,_⟩:=h'; cases e
  | dct _ _=>exact(gG pb).elim
  | obj _ _ _=>exact(gk pb).elim
  | exc _ _ _=>exact(gH pb).elim
 | .bl x,b,v,pa,pb,h,h'=>by
  rw [kK] at h; subst h
  cases b with
  | non=>rw [kq] at h'; cases h'
  | bl _=>rw [kK] at h'; cases h'; rfl
  | int _=>rw [eU] at h'; cases h'
  | str _=>rw [eV] at h'; cases h'
  | tup _=>rw [cu] at h'; obtain⟨_,_,e,_⟩:=h'; cases e
  | lst _=>rw [cq] at h'; obtain⟨_,_,e,_⟩:=h'; cases e
  | dct _ _=>exact(gG pb).elim
  | obj _ _ _=>exact(gk pb).elim
  | exc _ _ _=>exact(gH pb).elim
 | .int x,b,v,pa,pb,h,h'=>by
  rw [eU] at h; subst h
  cases b with
  | non=>rw [kq] at h'; cases h'
  | bl _=>rw [kK] at h'; cases h'
  | int _=>rw [eU] at h'; cases h'; rfl
  | str _=>rw [eV] at h'; cases h'
  | tup _=>rw [cu] at h'; obtain⟨_,_,e,_⟩:=h'; cases e
  | lst _=>rw [cq] at h'; obtain⟨_,_,e,_⟩:=h'; cases e
  | dct _ _=>exact(gG pb).elim
  | obj _ _ _=>exact(gk pb).elim
  | exc _ _ _=>exact(gH pb).elim
 | .str x,b,v,pa,pb,h,h'=>by
  rw [eV] at h; subst h
  cases b with
  | non=>rw [kq] at h'; cases h'
  | bl _=>rw [kK] at h'; cases h'
  | int _=>rw [eU] at h'; cases h'
  | str _=>rw [eV] at h'; cases h'; rfl
  | tup _=>rw [cu] at h'; obtain⟨_,_,e,_⟩:=h'; cases e
  | lst _=>rw [cq] at h'; obtain⟨_,_,e,_⟩:=h'; cases e
  | dct _ _=>exact(gG pb).elim
  | obj _ _ _=>exact(gk pb).elim
  | exc _ _ _=>exact(gH pb).elim
 | .tup xs,b,v,pa,pb,h,h'=>by
  rw [cu] at h
  obtain⟨a,vs,e,h1,h2⟩:=h
  subst e
  cases b with
  | non=>rw [kq] at h'; cases h'
  | bl _=>rw [kK] at h'; cases h'
  | int _=>rw [eU] at h'; cases h'
  | str _=>rw [eV] at h'; cases h'
  | tup ys =>
   rw [cu] at h'
   obtain⟨a',vs',e,h1',h2'⟩:=h'
   cases e
   have ev:=I.tuple_inj (oR.of h1) (oR.of h1')
   subst ev
   rw [Inv.denL_inj I (by first | rw [<- dj]; exact pa | rw [<- dF]; exact pa) (by first | rw [<- dj]; exact pb | rw [<- dF]; exact pb) h2 h2']
  | lst _=>rw [cq] at h'; obtain⟨_,_,e,h1',_⟩:=h'; cases e; exact(Inv.not_both I (oR.of h1) h1').elim
  | dct _ _=>exact(gG pb).elim
  | obj _ _ _=>exact(gk pb).elim
  | exc _ _ _=>exact(gH pb).elim
 | .lst xs,b,v,pa,pb,h,h'=>by
  rw [cq] at h
  obtain⟨a,vs,e,h1,h2⟩:=h
  subst e
  cases b with
  | non=>rw [kq] at h'; cases h'
  | bl _=>rw [kK] at h'; cases h'
  | int _=>rw [eU] at h'; cases h'
  | str _=>rw [eV] at h'; cases h'
  | lst ys =>
   rw [cq] at h'
   obtain⟨a',vs',e,h1',h2'⟩:=h'
   cases e
   have ev:=I.list_inj h1 h1'
   subst ev
   rw [Inv.denL_inj I (by first | rw [<- dj]; exact pa | rw [<- dF]; exact pa) (by first | rw [<- dj]; exact pb | rw [<- dF]; exact pb) h2 h2']
  | tup _=>rw [cu] at h'; obtain⟨_,_,e,h1',_⟩:=h'; cases e; exact(Inv.not_both I (oR.of h1') h1).elim
  | dct _ _=>exact(gG pb).elim
  | obj _ _ _=>exact(gk pb).elim
  | exc _ _ _=>exact(gH pb).elim
 | .dct _ _,_,_,pa,_,_,_=>(gG pa).elim
 | .obj _ _ _,_,_,pa,_,_,_=>(gk pa).elim
 | .exc _ _ _,_,_,pa,_,_,_=>(gH pa).elim
theorem Inv.denL_inj (I:Inv X pins σ H s):∀ {as bs:List D} {vs:List V},iY as=true->iY bs=true->bp X.K H as vs->bp X.K H bs vs->as=bs
 | [],bs,vs,pa,pb,h,h'=>by
  rw [cF] at h; subst h
  cases bs with
  | nil=>rfl
  | cons b bs=>rw [bL] at h'; obtain⟨_,_,e,_⟩:=h'; cases e
 | a::as,bs,vs,pa,pb,h,h'=>by
  rw [bL] at h
  obtain⟨v,r,e,h1,h2⟩:=h
  subst e
  cases bs with
  | nil=>rw [cF] at h'; cases h'
  | cons b bs =>
   rw [bL] at h'
   obtain⟨v',r',e,h1',h2'⟩:=h'
   cases e
   unfold iY at pa pb
   rw [Nc] at pa pb
   rw [Inv.den_inj I pa.1 pb.1 h1 h1',Inv.denL_inj I pa.2 pb.2 h2 h2']
end

def mQ:D->Option V
 | .non=>some .non
 | .bl b=>some (.bl b)
 | .int i=>some (.int i)
 | .str x=>some (.str x)
 | _=>none
theorem o3 {K:O2} {d:D} {v x:V} (h:mQ d=some x) (hd:cA K H d v):v=x/\Dg x=true:=by
 cases d with
 | non=>cases h; exact⟨kq.mp hd,rfl⟩
 | bl b=>cases h; exact⟨kK.mp hd,rfl⟩
 | int i=>cases h; exact⟨eU.mp hd,rfl⟩
 | str y=>cases h; exact⟨eV.mp hd,rfl⟩
 | _=>cases h
theorem D6 {a b:D} {x y:V} (ha:mQ a=some x) (hb:mQ b=some y):Lg x y=pyEq a b:=by
 cases a <;> cases ha <;> cases b <;> cases hb <;> (unfold pyEq Lg; rfl)
theorem vW {a:D} {x:V} (n:Nat) (h:mQ a=some x):cO n a=true:=by
 cases a with
 | tup _=>cases h
 | lst _=>cases h
 | dct _ _=>cases h
 | obj _ _ _=>cases h
 | exc _ _ _=>cases h
 | _=>cases n <;> rfl
theorem wu {a:D} (h:mQ a=none):cO 0 a=false:=by
 cases a with
 | tup _=>rfl
 | lst _=>rfl
 | dct _ _=>rfl
 | obj _ _ _=>rfl
 | exc _ _ _=>rfl
 | _=>cases h
theorem in1_units (A:Qt):A.in1.units=A.units+1:=rfl
theorem lT {vs:List V} {us:List Ql} (r:Vals vs us) {j:Nat} (h:j < us.toArray.size):∃ x,vs[j]?=some x/\RelV x us.toArray[j]:=by
 have hj:j < us.length:=by simpa using h
 have hl:=r.length
 have hv:j < vs.length:=by omega
 obtain⟨u,e,ru⟩:=r.get (i:=j) (x:=vs[j]) (by simp [hv])
 refine⟨vs[j],by simp [hv],?_⟩
 have e2:us.toArray[j]=u:=by
  rw [NF hj] at e
  simpa using Option.some.inj e
 rw [e2]; exact ru
theorem mz {K:O2} {ds:List D} {vs:List V} (h:bp K H ds vs) {j:Nat} {x:V} (e:vs[j]?=some x):∃ d,ds[j]?=some d/\cA K H d x:=by
 have hj:j < vs.length:=(List.getElem?_eq_some_iff.mp e).1
 have hl:=h.length
 have hd:j < ds.length:=by omega
 obtain⟨v,e1,e2⟩:=h.get (i:=j) (d:=ds[j]) (by simp [hd])
 rw [e] at e1; cases e1
 exact⟨ds[j],by simp [hd],e2⟩

theorem xV (I:Inv X pins σ H s):∀ (n:Nat) (a b:D) (x y:V) (u v:Ql) (A:Qt),pl a=true->pl b=true->(cO n a=true\/cO n b=true)->cA X.K H a x->cA X.K H b y->RelV x u->RelV y v->A.units+n < QW->EqAt A s u v (pyEq a b):=by
 intro n
 induction n with
 | zero =>
  intro a b x y u v A pa pb hd ha hb ru rv hA
  have hu:A.units < QW:=hA
  cases ha':mQ a with
  | some x' =>
   obtain⟨e,f⟩:=o3 ha' ha
   subst e
   cases hb':mQ b with
   | some y' =>
    obtain⟨e,f'⟩:=o3 hb' hb
    subst e
    rw [<- D6 ha' hb']
    exact Fw ru rv f f'
   | none =>
    cases b with
    | tup ys =>
     rw [cu] at hb
     obtain⟨p,vs,e,h1,h2⟩:=hb
     subst e
     cases rv
     obtain⟨its,_,ht,_⟩:=I.tuple (oR.of h1)
     have ht':s.heap.IsTuple p its.toArray:=ht
     cases a with
     | non=>cases ha'; cases ru; unfold pyEq; exact .none_tuple ht' hu
     | bl z=>cases ha'; cases ru; unfold pyEq; exact .bool_tuple z ht' hu
     | int z=>cases ha'; obtain⟨t,rfl⟩:=ru; unfold pyEq; exact .int_tuple z t ht' hu
     | str z=>cases ha'; obtain⟨t,rfl⟩:=ru; unfold pyEq; exact .str_tuple z t ht' hu
     | _=>cases ha'
    | lst ys =>
     rw [cq] at hb
     obtain⟨p,vs,e,h1,h2⟩:=hb
     subst e
     cases rv
     obtain⟨its,_,ht,_⟩:=I.list h1
     have ht':s.heap.IsList p its.toArray:=ht.isList
     cases a with
     | non=>cases ha'; cases ru; unfold pyEq; exact .none_list ht' hu
     | bl z=>cases ha'; cases ru; unfold pyEq; exact .bool_list z ht' hu
     | int z=>cases ha'; obtain⟨t,rfl⟩:=ru; unfold pyEq; exact .int_list z t ht' hu
     | str z=>cases ha'; obtain⟨t,rfl⟩:=ru; unfold pyEq; exact .str_list z t ht' hu
     | _=>cases ha'
    | dct _ _=>exact(gG pb).elim
    | obj _ _ _=>exact(gk pb).elim
    | exc _ _ _=>exact(gH pb).elim
    | _=>cases hb'
  | none =>
   have hdb:cO 0 b=true:=by
    rcases hd with hd | hd
    ·rw [wu ha'] at hd; cases hd
    ·exact hd
   cases hb':mQ b with
   | none=>rw [wu hb'] at hdb; cases hdb
   | some y' =>
    obtain⟨e,f'⟩:=o3 hb' hb
    subst e
    cases a with
    | tup xs =>
     rw [cu] at ha
     obtain⟨p,vs,e,h1,h2⟩:=ha
     subst e
     cases ru
     obtain⟨its,_,ht,_⟩:=I.tuple (oR.of h1)
     have ht':s.heap.IsTuple p its.toArray:=ht
     cases b with
     | non=>cases hb'; cases rv; unfold pyEq; exact .tuple_none ht' hu
     | bl z=>cases hb'; cases rv; unfold pyEq; exact .tuple_bool z ht' hu
     | int z=>cases hb'; obtain⟨t,rfl⟩:=rv; unfold pyEq; exact .tuple_int z t ht' hu
     | str z=>cases hb'; obtain⟨t,rfl⟩:=rv; unfold pyEq; exact .tuple_str z t ht' hu
     | _=>cases hb'
    | lst xs =>
     rw [cq] at ha
     obtain⟨p,vs,e,h1,h2⟩:=ha
     subst e
     cases ru
     obtain⟨its,_,ht,_⟩:=I.list h1
     have ht':s.heap.IsList p its.toArray:=ht.isList
     cases b with
     | non=>cases hb'; cases rv; unfold pyEq; exact .list_none ht' hu
     | bl z=>cases hb'; cases rv; unfold pyEq; exact .list_bool z ht' hu
     | int z=>cases hb'; obtain⟨t,rfl⟩:=rv; unfold pyEq; exact .list_int z t ht' hu
     | str z=>cases hb'; obtain⟨t,rfl⟩:=rv; unfold pyEq; exact .list_str z t ht' hu
     | _=>cases hb'
    | dct _ _=>exact(gG pa).elim
    | obj _ _ _=>exact(gk pa).elim
    | exc _ _ _=>exact(gH pa).elim
    | _=>cases ha'
 | succ n ih =>
  intro a b x y u v A pa pb hd ha hb ru rv hA
  have hu:A.units < QW:=by omega
  have flatWay:(∀ xs ys,¬ (a=.tup xs/\b=.tup ys))->(∀ xs ys,¬ (a=.lst xs/\b=.lst ys))->EqAt A s u v (pyEq a b):=by
   intro n1 n2
   cases ha':mQ a with
   | some x'=>exact ih a b x y u v A pa pb (.inl (vW n ha')) ha hb ru rv ‹0›
   | none =>
    cases hb':mQ b with
    | some y'=>exact ih a b x y u v A pa pb (.inr (vW n hb')) ha hb ru rv ‹0›
    | none =>
     cases a with
     | tup xs =>
      cases b with
      | tup ys=>exact absurd ⟨rfl,rfl⟩ (n1 xs ys)
      | lst ys =>
       rw [cu] at ha
       obtain⟨p,vs,e,h1,h2⟩:=ha
       subst e
       rw [cq] at hb
       obtain⟨p',vs',e,h1',h2'⟩:=hb
       subst e
       cases ru
       cases rv
       obtain⟨its,_,ht,_⟩:=I.tuple (oR.of h1)
       obtain⟨its2,_,ht2,_⟩:=I.list h1'
       unfold pyEq
       exact .tuple_list (show s.heap.IsTuple p its.toArray from ht) ht2.isList hu
      | dct _ _=>exact(gG pb).elim
      | obj _ _ _=>exact(gk pb).elim
      | exc _ _ _=>exact(gH pb).elim
      | _=>cases hb'
     | lst xs =>
      cases b with
      | lst ys=>exact absurd ⟨rfl,rfl⟩ (n2 xs ys)
      | tup ys =>
       rw [cq] at ha
       obtain⟨p,vs,e,h1,h2⟩:=ha
       subst e
       rw [cu] at hb
       obtain⟨p',vs',e,h1',h2'⟩:=hb
       subst e
       cases ru
       cases rv
       obtain⟨its,_,ht,_⟩:=I.list h1
       obtain⟨its2,_,ht2,_⟩:=I.tuple (oR.of h1')
       unfold pyEq
       exact .list_tuple ht.isList (show s.heap.IsTuple p' its2.toArray from ht2) hu
      | dct _ _=>exact(gG pb).elim
      | obj _ _ _=>exact(gk pb).elim
      | exc _ _ _=>exact(gH pb).elim
      | _=>cases hb'
     | dct _ _=>exact(gG pa).elim
     | obj _ _ _=>exact(gk pa).elim
     | exc _ _ _=>exact(gH pa).elim
     | _=>cases ha'
  have items:∀ (xs ys:List D) (vs vs':List V) (its its':List Ql),iY xs=true->iY ys=true->(cO (n+1) (.tup xs)=true\/cO (n+1) (.tup ys)=true)->bp X.K H xs vs->bp X.K H ys vs'->Vals vs its->Vals vs' its' ->
    ∀ j (h1:j < its.toArray.size) (h2:j < its'.toArray.size),EqAt A.in1 s its.toArray[j] its'.toArray[j] (xn xs ys j):=by
   intro xs ys vs vs' its its' px py hdd hx hy rx ry j h1 h2
   obtain⟨w1,e1,r1⟩:=lT rx h1
   obtain⟨w2,e2,r2⟩:=lT ry h2
   obtain⟨d1,f1,g1⟩:=mz hx e1
   obtain⟨d2,f2,g2⟩:=mz hy e2
   have e3:xn xs ys j=pyEq d1 d2:=by unfold xn; rw [f1,f2]
   rw [e3]
   refine ih d1 d2 w1 w2 _ _ A.in1 (i6 px _ (M7 f1)) (i6 py _ (M7 f2)) ?_ g1 g2 r1 r2 (by rw [in1_units]; omega)
   rcases hdd with hdd | hdd
   ·exact .inl (List.all_eq_true.mp hdd d1 (M7 f1))
   ·exact .inr (List.all_eq_true.mp hdd d2 (M7 f2))
  by_cases hT:∃ xs ys,a=.tup xs/\b=.tup ys
  ·obtain⟨xs,ys,rfl,rfl⟩:=hT
   have da:=ha
   have db:=hb
   rw [cu] at ha hb
   obtain⟨p,vs,e,h1,h2⟩:=ha
   subst e
   obtain⟨p',vs',e,h1',h2'⟩:=hb
   subst e
   cases ru
   cases rv
   by_cases hp:p=p'
   ·subst hp
    have e:=Inv.den_inj I pa pb da db
    rw [e,o7]
    exact EqAt.same _
   ·obtain⟨its,rv1,ht,_⟩:=I.tuple (oR.of h1)
    obtain⟨its2,rv2,ht2,_⟩:=I.tuple (oR.of h1')
    refine EqAt.of_refs hp ?_
    have q:=RcAt.tuples (e:=xn xs ys) (show s.heap.IsTuple p its.toArray from ht) (show s.heap.IsTuple p' its2.toArray from ht2) hu (items xs ys vs vs' its its2 (by first | rw [<- dj]; exact pa | rw [<- dF]; exact pa) (by first | rw [<- dj]; exact pb | rw [<- dF]; exact pb) hd h2 h2' rv1 rv2)
    have z1:its.toArray.size=xs.length:=by rw [MR,<- rv1.length,<- h2.length]
    have z2:its2.toArray.size=ys.length:=by rw [MR,<- rv2.length,<- h2'.length]
    rw [z1,z2,gJ] at q
    unfold pyEq
    exact q
  ·by_cases hL:∃ xs ys,a=.lst xs/\b=.lst ys
   ·obtain⟨xs,ys,rfl,rfl⟩:=hL
    have da:=ha
    have db:=hb
    rw [cq] at ha hb
    obtain⟨p,vs,e,h1,h2⟩:=ha
    subst e
    obtain⟨p',vs',e,h1',h2'⟩:=hb
    subst e
    cases ru
    cases rv
    by_cases hp:p=p'
    ·subst hp
     have e:=Inv.den_inj I pa pb da db
     rw [e,o7]
     exact EqAt.same _
    ·obtain⟨its,rv1,ht,_⟩:=I.list h1
     obtain⟨its2,rv2,ht2,_⟩:=I.list h1'
     refine EqAt.of_refs hp ?_
     have z1:its.toArray.size=xs.length:=by rw [MR,<- rv1.length,<- h2.length]
     have z2:its2.toArray.size=ys.length:=by rw [MR,<- rv2.length,<- h2'.length]
     have er:=gJ xs ys
     by_cases hz:its.toArray.size=its2.toArray.size
     ·have q:=RcAt.lists (e:=xn xs ys) ht.isList ht2.isList hz hu (items xs ys vs vs' its its2 (by first | rw [<- dj]; exact pa | rw [<- dF]; exact pa) (by first | rw [<- dj]; exact pb | rw [<- dF]; exact pb) hd h2 h2' rv1 rv2)
      rw [z1] at q
      have hz':xs.length=ys.length:=by omega
      rw [<- hz',NI] at er
      simp only [beq_self_eq_true,NK] at er
      rw [er] at q
      unfold pyEq
      exact q
     ·have hne:(its.toArray.size != its2.toArray.size)=true:=by simpa using hz
      have q:=RcAt.lists_lengths (A:=A) ht.isList ht2.isList hne hu
      have hz':(xs.length==ys.length)=false:=by
       rw [z1,z2] at hz
       simpa using hz
      rw [hz',NM] at er
      unfold pyEq
      rw [<- er]
      exact q
   ·exact flatWay (fun xs ys z=>hT ⟨xs,ys,z⟩) fun xs ys z=>hL ⟨xs,ys,z⟩
end
end TG
namespace TG
open PySem PySem.Spec L2
variable [bc]
open PySem.SeqAt (EqAt RcAt RcNeAt)

section
variable {X:Cx} {pins:List (Qo×Obj)} {σ:St} {H:Hp} {s:Qu}
theorem qg (I:Inv X pins σ H s) {n:Nat} {xs ys:List D} {vs vs':List V} {its its':List Ql} {A:Qt} (px:iY xs=true) (py:iY ys=true) (hdd:cO (n+1) (.tup xs)=true\/cO (n+1) (.tup ys)=true) (hx:bp X.K H xs vs) (hy:bp X.K H ys vs') (rx:Vals vs its) (ry:Vals vs' its') (hA:A.units+n < QW) :
  ∀ j (h1:j < its.toArray.size) (h2:j < its'.toArray.size),EqAt A s its.toArray[j] its'.toArray[j] (xn xs ys j):=by
 intro j h1 h2
 obtain⟨w1,e1,r1⟩:=lT rx h1
 obtain⟨w2,e2,r2⟩:=lT ry h2
 obtain⟨d1,f1,g1⟩:=mz hx e1
 obtain⟨d2,f2,g2⟩:=mz hy e2
 have e3:xn xs ys j=pyEq d1 d2:=by unfold xn; rw [f1,f2]
 rw [e3]
 refine xV I n d1 d2 w1 w2 _ _ A (i6 px _ (M7 f1)) (i6 py _ (M7 f2)) ?_ g1 g2 r1 r2 hA
 rcases hdd with hdd | hdd
 ·exact .inl (List.all_eq_true.mp hdd d1 (M7 f1))
 ·exact .inr (List.all_eq_true.mp hdd d2 (M7 f2))
inductive Way (I:Inv X pins σ H s):D->Ql->Prop where
 | non:Way I .non .none
 | bl (b:Bool):Way I (.bl b) (.bool b)
 | int (i:Int) (t:Tok):Way I (.int i) (.int i t)
 | str (x:Str) (t:Tok):Way I (.str x) (.str x t)
 | tup {xs:List D} {p:Qo} {vs:List V} {its:List Ql} (h:bp X.K H xs vs) (r:Vals vs its) (t:s.heap.IsTuple p its.toArray):Way I (.tup xs) (.ref p)
 | lst {xs:List D} {p:Qo} {vs:List V} {its:List Ql} (h:bp X.K H xs vs) (r:Vals vs its) (t:s.heap.IsList p its.toArray):Way I (.lst xs) (.ref p)
def top:D->Bool
 | .dct _ _=>false
 | .obj _ _ _=>false
 | .exc _ _ _=>false
 | _=>true
theorem fN {d:D} (h:pl d=true):top d=true:=by
 cases d with
 | dct _ _=>exact(gG h).elim
 | obj _ _ _=>exact(gk h).elim
 | exc _ _ _=>exact(gH h).elim
 | _=>rfl
theorem fQ (I:Inv X pins σ H s) {d:D} {v:V} {u:Ql} (pd:top d=true) (h:cA X.K H d v) (r:RelV v u):Way I d u:=by
 cases d with
 | non=>rw [kq] at h; subst h; cases r; exact .non
 | bl b=>rw [kK] at h; subst h; cases r; exact .bl b
 | int i=>rw [eU] at h; subst h; obtain⟨t,rfl⟩:=r; exact .int i t
 | str x=>rw [eV] at h; subst h; obtain⟨t,rfl⟩:=r; exact .str x t
 | tup xs =>
  rw [cu] at h
  obtain⟨p,vs,e,h1,h2⟩:=h
  subst e
  cases r
  obtain⟨its,rv,ht,_⟩:=I.tuple (oR.of h1)
  exact .tup h2 rv ht
 | lst xs =>
  rw [cq] at h
  obtain⟨p,vs,e,h1,h2⟩:=h
  subst e
  cases r
  obtain⟨its,rv,ht,_⟩:=I.list h1
  exact .lst h2 rv ht.isList
 | dct _ _=>cases pd
 | obj _ _ _=>cases pd
 | exc _ _ _=>cases pd
theorem GX (I:Inv X pins σ H s) {n:Nat} {a b:D} {x y:V} {u v:Ql} {A:Qt} (pa:pl a=true) (pb:pl b=true) (hd:cO (n+1) a=true\/cO (n+1) b=true) (ha:cA X.K H a x) (hb:cA X.K H b y) (ru:RelV x u) (rv:RelV y v) (hA:A.units+n+1 < QW):RcAt A s u v (pyEq a b):=by
 have hu:A.units < QW:=by omega
 cases fQ I (fN pa) ha ru with
 | non=>cases fQ I (fN pb) hb rv with
  | non=>unfold pyEq; exact .none_none
  | bl b=>unfold pyEq; exact .none_bool b
  | int i t=>unfold pyEq; exact .none_int i t
  | str x t=>unfold pyEq; exact .none_str x t
  | tup h r t=>unfold pyEq; exact .none_tuple t hu
  | lst h r t=>unfold pyEq; exact .none_list t hu
 | bl z=>cases fQ I (fN pb) hb rv with
  | non=>unfold pyEq; exact .bool_none z
  | bl b=>unfold pyEq; exact .bool_bool z b
  | int i t=>unfold pyEq; exact .bool_int z i t
  | str x t=>unfold pyEq; exact .bool_str z x t
  | tup h r t=>unfold pyEq; exact .bool_tuple z t hu
  | lst h r t=>unfold pyEq; exact .bool_list z t hu
 | int z tz=>cases fQ I (fN pb) hb rv with
  | non=>unfold pyEq; exact .int_none z tz
  | bl b=>unfold pyEq; exact .int_bool z tz b
  | int i t=>unfold pyEq; exact .int_int z tz i t
  | str x t=>unfold pyEq; exact .int_str z tz x t
  | tup h r t=>unfold pyEq; exact .int_tuple z tz t hu
  | lst h r t=>unfold pyEq; exact .int_list z tz t hu
 | str z tz=>cases fQ I (fN pb) hb rv with
  | non=>unfold pyEq; exact .str_none z tz
  | bl b=>unfold pyEq; exact .str_bool z tz b
  | int i t=>unfold pyEq; exact .str_int z tz i t
  | str x t=>unfold pyEq; exact .str_str z tz x t
  | tup h r t=>unfold pyEq; exact .str_tuple z tz t hu
  | lst h r t=>unfold pyEq; exact .str_list z tz t hu
 | @tup xs p vs its h1 r1 t1=>cases fQ I (fN pb) hb rv with
  | non=>unfold pyEq; exact .tuple_none t1 hu
  | bl b=>unfold pyEq; exact .tuple_bool b t1 hu
  | int i t=>unfold pyEq; exact .tuple_int i t t1 hu
  | str x t=>unfold pyEq; exact .tuple_str x t t1 hu
  | @tup ys p' vs' its' h2 r2 t2 =>
   have q:=RcAt.tuples (e:=xn xs ys) t1 t2 hu (qg (A:=A.in1) I (by first | rw [<- dj]; exact pa | rw [<- dF]; exact pa) (by first | rw [<- dj]; exact pb | rw [<- dF]; exact pb) hd h1 h2 r1 r2 (by rw [in1_units]; omega))
   have z1:its.toArray.size=xs.length:=by rw [MR,<- r1.length,<- h1.length]
   have z2:its'.toArray.size=ys.length:=by rw [MR,<- r2.length,<- h2.length]
   rw [z1,z2,gJ] at q
   unfold pyEq; exact q
  | lst h r t=>unfold pyEq; exact .tuple_list t1 t hu
 | @lst xs p vs its h1 r1 t1=>cases fQ I (fN pb) hb rv with
  | non=>unfold pyEq; exact .list_none t1 hu
  | bl b=>unfold pyEq; exact .list_bool b t1 hu
  | int i t=>unfold pyEq; exact .list_int i t t1 hu
  | str x t=>unfold pyEq; exact .list_str x t t1 hu
  | tup h r t=>unfold pyEq; exact .list_tuple t1 t hu
  | @lst ys p' vs' its' h2 r2 t2 =>
   have z1:its.toArray.size=xs.length:=by rw [MR,<- r1.length,<- h1.length]
   have z2:its'.toArray.size=ys.length:=by rw [MR,<- r2.length,<- h2.length]
   have er:=gJ xs ys
   by_cases hz:its.toArray.size=its'.toArray.size
   ·have q:=RcAt.lists (e:=xn xs ys) t1 t2 hz hu (qg (A:=A.in1) I (by first | rw [<- dj]; exact pa | rw [<- dF]; exact pa) (by first | rw [<- dj]; exact pb | rw [<- dF]; exact pb) hd h1 h2 r1 r2 (by rw [in1_units]; omega))
    rw [z1] at q
    have hz':xs.length=ys.length:=by omega
    rw [<- hz',NI] at er
    simp only [beq_self_eq_true,NK] at er
    rw [er] at q
    unfold pyEq; exact q
   ·have q:=RcAt.lists_lengths (A:=A) t1 t2 (by simpa using hz) hu
    have hz':(xs.length==ys.length)=false:=by
     rw [z1,z2] at hz
     simpa using hz
    rw [hz',NM] at er
    unfold pyEq
    rw [<- er]; exact q
theorem By (I:Inv X pins σ H s) {n:Nat} {a b:D} {x y:V} {u v:Ql} {A:Qt} (pa:pl a=true) (pb:pl b=true) (hd:cO (n+1) a=true\/cO (n+1) b=true) (ha:cA X.K H a x) (hb:cA X.K H b y) (ru:RelV x u) (rv:RelV y v) (hA:A.units+n+1 < QW):RcNeAt A s u v (!pyEq a b):=by
 have hu:A.units < QW:=by omega
 cases fQ I (fN pa) ha ru with
 | non=>cases fQ I (fN pb) hb rv with
  | non=>unfold pyEq; exact .none_none
  | bl b=>unfold pyEq; exact .none_bool b
  | int i t=>unfold pyEq; exact .none_int i t
  | str x t=>unfold pyEq; exact .none_str x t
  | tup h r t=>unfold pyEq; exact .none_tuple t hu
  | lst h r t=>unfold pyEq; exact .none_list t hu
 | bl z=>cases fQ I (fN pb) hb rv with
  | non=>unfold pyEq; exact .bool_none z
  | bl b=>unfold pyEq; exact .bool_bool z b
  | int i t=>unfold pyEq; exact .bool_int z i t
  | str x t=>unfold pyEq; exact .bool_str z x t
  | tup h r t=>unfold pyEq; exact .bool_tuple z t hu
  | lst h r t=>unfold pyEq; exact .bool_list z t hu
 | int z tz=>cases fQ I (fN pb) hb rv with
  | non=>unfold pyEq; exact .int_none z tz
  | bl b=>unfold pyEq; exact .int_bool z tz b
  | int i t=>unfold pyEq; exact .int_int z tz i t
  | str x t=>unfold pyEq; exact .int_str z tz x t
  | tup h r t=>unfold pyEq; exact .int_tuple z tz t hu
  | lst h r t=>unfold pyEq; exact .int_list z tz t hu
 | str z tz=>cases fQ I (fN pb) hb rv with
  | non=>unfold pyEq; exact .str_none z tz
  | bl b=>unfold pyEq; exact .str_bool z tz b
  | int i t=>unfold pyEq; exact .str_int z tz i t
  | str x t=>unfold pyEq; exact .str_str z tz x t
  | tup h r t=>unfold pyEq; exact .str_tuple z tz t hu
  | lst h r t=>unfold pyEq; exact .str_list z tz t hu
 | @tup xs p vs its h1 r1 t1=>cases fQ I (fN pb) hb rv with
  | non=>unfold pyEq; exact .tuple_none t1 hu
  | bl b=>unfold pyEq; exact .tuple_bool b t1 hu
  | int i t=>unfold pyEq; exact .tuple_int i t t1 hu
  | str x t=>unfold pyEq; exact .tuple_str x t t1 hu
  | @tup ys p' vs' its' h2 r2 t2 =>
   have q:=RcNeAt.tuples (e:=xn xs ys) t1 t2 hu (qg (A:=A.in1) I (by first | rw [<- dj]; exact pa | rw [<- dF]; exact pa) (by first | rw [<- dj]; exact pb | rw [<- dF]; exact pb) hd h1 h2 r1 r2 (by rw [in1_units]; omega))
   have z1:its.toArray.size=xs.length:=by rw [MR,<- r1.length,<- h1.length]
   have z2:its'.toArray.size=ys.length:=by rw [MR,<- r2.length,<- h2.length]
   rw [z1,z2,gJ] at q
   unfold pyEq; exact q
  | lst h r t=>unfold pyEq; exact .tuple_list t1 t hu
 | @lst xs p vs its h1 r1 t1=>cases fQ I (fN pb) hb rv with
  | non=>unfold pyEq; exact .list_none t1 hu
  | bl b=>unfold pyEq; exact .list_bool b t1 hu
  | int i t=>unfold pyEq; exact .list_int i t t1 hu
  | str x t=>unfold pyEq; exact .list_str x t t1 hu
  | tup h r t=>unfold pyEq; exact .list_tuple t1 t hu
  | @lst ys p' vs' its' h2 r2 t2 =>
   have z1:its.toArray.size=xs.length:=by rw [MR,<- r1.length,<- h1.length]
   have z2:its'.toArray.size=ys.length:=by rw [MR,<- r2.length,<- h2.length]
   have er:=gJ xs ys
   by_cases hz:its.toArray.size=its'.toArray.size
   ·have q:=RcNeAt.lists (e:=xn xs ys) t1 t2 hz hu (qg (A:=A.in1) I (by first | rw [<- dj]; exact pa | rw [<- dF]; exact pa) (by first | rw [<- dj]; exact pb | rw [<- dF]; exact pb) hd h1 h2 r1 r2 (by rw [in1_units]; omega))
    rw [z1] at q
    have hz':xs.length=ys.length:=by omega
    rw [<- hz',NI] at er
    simp only [beq_self_eq_true,NK] at er
    rw [er] at q
    unfold pyEq; exact q
   ·have q:=RcNeAt.lists_lengths (A:=A) t1 t2 (by simpa using hz) hu
    have hz':(xs.length==ys.length)=false:=by
     rw [z1,z2] at hz
     simpa using hz
    rw [hz',NM] at er
    unfold pyEq
    rw [<- er]; exact q
end

section
variable {X:Cx}
def rD (K:O2) (g:D->D->Option D):R2:=fun x y H Q=>∃ O a b d,dD H O/\cA K (hid H O) a x/\cA K (hid H O) b y/\g a b=some d/\∀ v H',bH H H'->cA K (hid H' O) d v->Q v H'
theorem aq {K:O2} {g:D->D->Option D}:dH K (rD K g) g:=fun a b d x y O H Q hO hg ha hb q=>⟨O,a,b,d,hO,ha,hb,hg,q⟩
theorem nJ {f : Ql -> Ql -> Sem Ql} {g : D -> D -> Option D} (h : ∀ (pins : List (Qo × Obj)) (s : Qu) (σ : St) (H : Hp) (a b d : D) (x y : V) (u v : Ql), Inv X pins σ H s -> cA X.K H a x -> cA X.K H b y -> RelV x u -> RelV y v -> g a b = some d ->
      ∃ c,d=.bl c/\∀ (Q:Ql->Qu->Prop),Q (.bool c) s->Qx (model X.prog X.w) X.A (f u v) Q X.xe s):kD X f (rD X.K g):=by
  intro pins s σ H x y u v Q I rx ry ⟨O,a,b,d,hO,ha,hb,hg,q⟩
  obtain⟨c,rfl,hq⟩:=h pins s σ H a b d x y u v I (ha.mono (aO H O)) (hb.mono (aO H O)) rx ry hg
  exact hq _ ⟨.bl c,H,I,rfl,q _ H (bH.refl H) (kK.mpr rfl)⟩
def dL (a b:D):Option D:=if (pl a && pl b) && (cO 8 a || cO 8 b) then some (.bl (pyEq a b)) else none
def uh (a b:D):Option D:=if (pl a && pl b) && (cO 8 a || cO 8 b) then some (.bl (!pyEq a b)) else none
theorem bU (hu:X.A.units+64 < QW):kD X (QM .Eq) (rD X.K dL):=nJ fun pins s σ H a b d x y u v I ha hb ru rv hg=>by
 obtain⟨h1,h2⟩:=bP hg
 subst h2
 rw [Nc,Nc,NN] at h1
 exact⟨_,rfl,fun Q q=>GX (n:=7) (A:=X.A) I h1.1.1 h1.1.2 h1.2 ha hb ru rv ‹0› X.prog X.w X.xe Q q⟩
theorem ka (hu:X.A.units+64 < QW):kD X (QM .NotEq) (rD X.K uh):=nJ fun pins s σ H a b d x y u v I ha hb ru rv hg=>by
 obtain⟨h1,h2⟩:=bP hg
 subst h2
 rw [Nc,Nc,NN] at h1
 exact⟨_,rfl,fun Q q=>By (n:=7) (A:=X.A) I h1.1.1 h1.1.2 h1.2 ha hb ru rv ‹0› X.prog X.w X.xe Q q⟩

def inD (x:D) (ys:List D):Bool:=ys.any fun y=>pyEq y x
def Cr (x y:D):Option D:=match y with
 | .tup ys=>if (pl x && iY ys) && cO 8 x then some (.bl (inD x ys)) else none
 | .lst ys=>if (pl x && iY ys) && cO 8 x then some (.bl (inD x ys)) else none
 | _=>none
def jl (x y:D):Option D:=match y with
 | .tup ys=>if (pl x && iY ys) && cO 8 x then some (.bl (!inD x ys)) else none
 | .lst ys=>if (pl x && iY ys) && cO 8 x then some (.bl (!inD x ys)) else none
 | _=>none
open Classical in
theorem zB {pins:List (Qo×Obj)} {σ:St} {H:Hp} {s:Qu} (I:Inv X pins σ H s) {xd:D} {x:V} {u:Ql} {A:Qt} (px:pl xd=true) (hd:cO 8 xd=true) (hx:cA X.K H xd x) (ru:RelV x u) (hA:A.units+8 < QW) {ys:List D} {vs:List V} {its:List Ql} (py:iY ys=true) (hy:bp X.K H ys vs) (rv:Vals vs its) :
  ∃ e:Ql->Bool,(∀ y,y∈its.toArray->EqAt A s y u (e y))/\its.toArray.any e=inD xd ys:=by
 let e:Ql->Bool:=fun y=>decide (∃ d w,pl d=true/\cA X.K H d w/\RelV w y/\pyEq d xd=true)
 have he:∀ d w y,pl d=true->cA X.K H d w->RelV w y->e y=pyEq d xd:=fun d w y h0 h1 h2=>by
  cases hq:pyEq d xd with
  | true=>exact decide_eq_true ⟨d,w,h0,h1,h2,hq⟩
  | false =>
   refine decide_eq_false ?_
   rintro⟨d',w',g0,g1,g2,g3⟩
   have ew:=RelV.inj h2 g2
   subst ew
   rw [Inv.den_inj I h0 g0 h1 g1,g3] at hq
   cases hq
 refine⟨e,fun y hy'=>?_,?_⟩
 ·have hm:y∈its:=by simpa using hy'
  obtain⟨j,hj,rfl⟩:=NP hm
  obtain⟨w,e1,r1⟩:=lT rv (j:=j) (by simpa using hj)
  obtain⟨d,f1,g1⟩:=mz hy e1
  have r1':RelV w its[j]:=by simpa using r1
  have pd:=i6 py _ (M7 f1)
  rw [he d w _ pd g1 r1']
  exact xV I 8 d xd w x _ u A pd px (.inr hd) g1 hx r1' ru hA
 ·unfold inD
  have go:∀ (ys:List D) (vs:List V) (its:List Ql),iY ys=true->bp X.K H ys vs->Vals vs its->its.any e=ys.any fun y=>pyEq y xd:=by
   intro ys
   induction ys with
   | nil =>
    intro vs its py h r
    rw [cF] at h
    subst h
    cases r
    rfl
   | cons y ys ih =>
    intro vs its py h r
    unfold iY at py
    rw [Nc] at py
    rw [bL] at h
    obtain⟨v,r',e1,h1,h2⟩:=h
    subst e1
    cases r with
    | cons q1 q2=>rw [Nn,Nn,he y v _ py.1 h1 q1,ih _ _ py.2 h2 q2]
  rw [List.any_toArray]
  exact go ys vs its py hy rv
theorem qW (hu:X.A.units+64 < QW):kD X (QM .In) (rD X.K Cr):=nJ fun pins s σ H a b d x y u v I ha hb ru rv hg=>by
 cases b with
 | tup ys =>
  obtain⟨h1,h2⟩:=bP hg
  subst h2
  rw [Nc,Nc] at h1
  rw [cu] at hb
  obtain⟨p,vs,e,g1,g2⟩:=hb
  subst e
  cases rv
  obtain⟨its,r,t,_⟩:=I.tuple (oR.of g1)
  obtain⟨e,he,ea⟩:=zB (A:=X.A.in1) I h1.1.1 h1.2 ha ru (by rw [in1_units]; omega) h1.1.2 g2 r
  exact⟨_,rfl,fun Q q=>SeqAt.in_tupleAt e (show s.heap.IsTuple p its.toArray from t) he (by rw [ea]; exact q)⟩
 | lst ys =>
  obtain⟨h1,h2⟩:=bP hg
  subst h2
  rw [Nc,Nc] at h1
  rw [cq] at hb
  obtain⟨p,vs,e,g1,g2⟩:=hb
  subst e
  cases rv
  obtain⟨its,r,t,_⟩:=I.list g1
  obtain⟨e,he,ea⟩:=zB (A:=X.A.in1) I h1.1.1 h1.2 ha ru (by rw [in1_units]; omega) h1.1.2 g2 r
  exact⟨_,rfl,fun Q q=>SeqAt.in_listAt e t.isList he (by rw [ea]; exact q)⟩
 | _=>cases hg
theorem jP (hu:X.A.units+64 < QW):kD X (QM .NotIn) (rD X.K jl):=nJ fun pins s σ H a b d x y u v I ha hb ru rv hg=>by
 cases b with
 | tup ys =>
  obtain⟨h1,h2⟩:=bP hg
  subst h2
  rw [Nc,Nc] at h1
  rw [cu] at hb
  obtain⟨p,vs,e,g1,g2⟩:=hb
  subst e
  cases rv
  obtain⟨its,r,t,_⟩:=I.tuple (oR.of g1)
  obtain⟨e,he,ea⟩:=zB (A:=X.A.in1) I h1.1.1 h1.2 ha ru (by rw [in1_units]; omega) h1.1.2 g2 r
  exact⟨_,rfl,fun Q q=>SeqAt.notIn_tupleAt e (show s.heap.IsTuple p its.toArray from t) he (by rw [ea]; exact q)⟩
 | lst ys =>
  obtain⟨h1,h2⟩:=bP hg
  subst h2
  rw [Nc,Nc] at h1
  rw [cq] at hb
  obtain⟨p,vs,e,g1,g2⟩:=hb
  subst e
  cases rv
  obtain⟨its,r,t,_⟩:=I.list g1
  obtain⟨e,he,ea⟩:=zB (A:=X.A.in1) I h1.1.1 h1.2 ha ru (by rw [in1_units]; omega) h1.1.2 g2 r
  exact⟨_,rfl,fun Q q=>SeqAt.notIn_listAt e t.isList he (by rw [ea]; exact q)⟩
 | _=>cases hg

def EQ (p:Int->Int->D) (a b:D):Option D:=match a,b with
 | .int i,.int j=>some (p i j)
 | _,_=>none
def Mr:=EQ fun i j=>.bl (decide (i < j))
def JK:=EQ fun i j=>.bl (decide (i<=j))
def Ba:=EQ fun i j=>.bl (decide (j < i))
def J9:=EQ fun i j=>.bl (decide (j<=i))
theorem cT {K:O2} {g:Int->Int->Bool}:dH K (AX fun i j=>.bl (g i j)) (EQ fun i j=>.bl (g i j)):=fun a b d x y O H Q hO hg ha hb q=>by
 cases a with
 | int i =>
  cases b with
  | int j=>cases hg; exact⟨i,j,eU.mp ha,eU.mp hb,q _ H (bH.refl H) (kK.mpr rfl)⟩
  | _=>cases hg
 | _=>cases hg

theorem qE {K:O2} {g:Int->Int->Int}:dH K (AX fun i j=>.int (g i j)) (EQ fun i j=>.int (g i j)):=fun a b d x y O H Q hO hg ha hb q=>by
 cases a with
 | int i =>
  cases b with
  | int j=>cases hg; exact⟨i,j,eU.mp ha,eU.mp hb,q _ H (bH.refl H) (eU.mpr rfl)⟩
  | _=>cases hg
 | _=>cases hg
def Hf (c:Int->Int->Bool) (p:Int->Int->Int) (a b:D):Option D:=match a,b with
 | .int i,.int j=>if c i j then some (.int (p i j)) else none
 | _,_=>none
theorem jE {K:O2} {C:Int->Int->Prop} {c:Int->Int->Bool} {g:Int->Int->Int} (hc:∀ i j,c i j=true->C i j):dH K (rI C fun i j=>.int (g i j)) (Hf c g):=fun a b d x y O H Q hO hg ha hb q=>by
 cases a with
 | int i =>
  cases b with
  | int j =>
   obtain⟨h1,h2⟩:=bP hg
   subst h2
   exact⟨i,j,eU.mp ha,eU.mp hb,hc i j h1,q _ H (bH.refl H) (eU.mpr rfl)⟩
  | _=>cases hg
 | _=>cases hg
def wQ:=EQ fun i j=>.int (i - j)
def mC:=Hf (fun i j=>decide ((-(2 ^ 64) < i/\i < 2 ^ 64)\/(-(2 ^ 64) < j/\j < 2 ^ 64))) (·*·)
def E6 (_ j:Int):Prop:=0 < j/\j < 10 ^ 200
theorem aQ:kD X (QL .FloorDiv) (rI E6 fun i j=>.int (i / j)):=HQ fun i j _ _ _ _ _ hc q=>by
 have h1:(0:Int) < j:=hc.1
 have h2:j < 10 ^ 200:=hc.2
 refine PyProof.Rows.floordiv_int ‹0› (by rw [MQ i ‹0›]; exact q) (.inl (PyProof.noPylong_of_log2 ?_))
 have h3:j.natAbs < 10 ^ 200:=by omega
 rw [Nat.log2_lt ‹0›]
 exact Nat.lt_trans h3 (by decide +kernel)
def cx:=Hf (fun _ j=>decide (0 < j/\j < 10 ^ 200)) (· / ·)
def bN:=Hf (fun _ j=>decide (0 < j)) (·%·)
def j5:=Hf (fun i j=>decide (0<=j/\j<=1000000/\i.natAbs < 2 ^ 64)) fun i j=>i ^ j.toNat
theorem ux {K:O2}:dH K (AX fun i j=>.int (i - j)) wQ:=qE
theorem iR {K:O2}:dH K (rI Gi fun i j=>.int (i*j)) mC:=jE fun i j h=>by have q:=of_decide_eq_true h; exact q
theorem bF {K:O2}:dH K (rI E6 fun i j=>.int (i / j)) cx:=jE fun i j h=>by have q:=of_decide_eq_true h; exact q
theorem aX {K:O2}:dH K (rI (fun _ j=>0 < j) fun i j=>.int (i%j)) bN:=jE fun _ _ h=>of_decide_eq_true h
theorem hJ {K:O2}:dH K (rI IJ fun i j=>.int (i ^ j.toNat)) j5:=jE fun i j h=>by have q:=of_decide_eq_true h; exact q
def IH (K:O2):R2:=fun x y H Q=>∃ l b xs zs,x=.ref l/\y=.ref b/\mG K H l xs/\mG K H b zs/\xs.length+zs.length<=Qq/\∀ p,H p=none->Q (.ref p) (upd H p (.lst (xs++zs)))
theorem zt:kD X (QL .Add) (IH X.K):=by
 intro pins s σ H x y v u Q I rx ry h
 obtain⟨l,b,xs,zs,rfl,rfl,hH,hB,hz,q⟩:=h
 cases rx
 cases ry
 obtain⟨its,r,t1,_⟩:=I.list hH
 obtain⟨its2,r2,t2,_⟩:=I.list hB
 obtain⟨⟨c1,d1,dt1,sl1⟩,n1,ho,hc,hd,hdt⟩:=t1
 obtain⟨⟨c2,d2,dt2,sl2⟩,n2,ho2,hc2,hd2,hdt2⟩:=t2
 simp only at hc hd hdt hc2 hd2 hdt2
 subst hc hd hdt hc2 hd2 hdt2
 have z1:=r.length
 have z2:=r2.length
 refine Q5 ⟨_,ho,rfl⟩ ⟨_,ho2,rfl⟩ noFill_list_add seq_list_add F.slot_list_add F.entry_list_add (F.args_list_add_2 _ _) (PyProof.Rows.list_addW l b its.toArray its2.toArray n1 n2 none none sl1 sl2 (by rw [MR,MR]; omega)) ⟨ho,ho2,?_⟩
 have ea:its.toArray++its2.toArray=(its++its2).toArray:=by simp
 rw [ea]
 exact⟨.ref _,_,I.lnew (t':=s.toks) (r.append r2) (by rw [M8]; omega),rfl,q _ I.fresh⟩
def Fv (K:O2):R2:=fun x y H Q=>∃ a b xs ys,x=.ref a/\y=.ref b/\oR K H a xs/\oR K H b ys/\xs.length+ys.length<=Qq /\
 (xs=[]->Q (.ref b) H)/\(xs≠[]->ys=[]->Q (.ref a) H)/\(xs≠[]->ys≠[]->∀ p,H p=none->Q (.ref p) (upd H p (.tup (xs++ys))))
theorem Ce:kD X (QL .Add) (Fv X.K):=by
 intro pins s σ H x y v u Q I rx ry h
 obtain⟨a,b,xs,ys,ex,ey,ha,hb,hz,q0,q1,q2⟩:=h
 by_cases hx:xs=[]
 ·subst ex ey
  cases rx
  cases ry
  obtain⟨its,r1,p1,_⟩:=I.tuple ha
  obtain⟨its2,r2,p2,_⟩:=I.tuple hb
  obtain⟨⟨cls,dd,data,sl⟩,ho,hc,n,hd⟩:=id p1
  obtain⟨⟨cls2,dd2,data2,sl2⟩,ho2,hc2,n2,hd2⟩:=id p2
  simp only at hc hd hc2 hd2
  subst hc hd hc2 hd2
  have e:its=[]:=r1.nil_iff.mpr hx
  exact Q5 ⟨_,ho,rfl⟩ ⟨_,ho2,rfl⟩ Q6 Q7 F.slot_tuple_add F.entry_tuple_add (F.args_tuple_add_2 _ _)
   (PyProof.Rows.tuple_addW0 a b its.toArray its2.toArray n n2 dd dd2 sl sl2 (by rw [e]; rfl)) ⟨ho,ho2,⟨.ref b,H,I,rfl,q0 hx⟩⟩
 ·exact DA pins s σ H x y v u Q I rx ry ⟨a,b,xs,ys,ex,ey,ha,hb,hx,hz,q1 hx,q2 hx⟩
def bD (a b:D):Option D:=match a,b with
 | .int i,.int j=>some (.int (i+j))
 | .str x,.str y=>if small (x.length+y.length) then some (.str (x++y)) else none
 | .lst xs,.lst ys=>if small (xs.length+ys.length) then some (.lst (xs++ys)) else none
 | .tup xs,.tup ys=>if small (xs.length+ys.length) then some (.tup (xs++ys)) else none
 | _,_=>none
theorem aJ:kD X (QL .Add) (rD X.K bD):=by
 intro pins s σ H x y u v Q I rx ry ⟨O,a,b,d,hO,ha,hb,hg,q⟩
 cases a with
 | int i =>
  cases b with
  | int j =>
   cases hg
   exact FJ pins s σ H x y u v Q I rx ry ⟨i,j,eU.mp ha,eU.mp hb,q _ H (bH.refl H) (eU.mpr rfl)⟩
  | _=>cases hg
 | str i =>
  cases b with
  | str j =>
   obtain⟨h1,h2⟩:=bP hg
   subst h2
   exact yo pins s σ H x y u v Q I rx ry ⟨i,j,eV.mp ha,eV.mp hb,dh h1,q _ H (bH.refl H) (eV.mpr rfl)⟩
  | _=>cases hg
 | lst xs =>
  cases b with
  | lst ys =>
   obtain⟨h1,h2⟩:=bP hg
   subst h2
   rw [cq] at ha hb
   obtain⟨p,vs,ex,g1,g2⟩:=ha
   obtain⟨p',vs',ey,g1',g2'⟩:=hb
   refine zt pins s σ H x y u v Q I rx ry ⟨p,p',vs,vs',ex,ey,(aO H O).seq g1,(aO H O).seq g1',?_,fun r hr=>?_⟩
   ·rw [<- g2.length,<- g2'.length]; exact dh h1
   ·exact q _ _ (cv hr _) (gP hO hr (g2.append g2'))
  | _=>cases hg
 | tup xs =>
  cases b with
  | tup ys =>
   obtain⟨h1,h2⟩:=bP hg
   subst h2
   have da:=ha
   have db:=hb
   rw [cu] at ha hb
   obtain⟨p,vs,ex,g1,g2⟩:=ha
   obtain⟨p',vs',ey,g1',g2'⟩:=hb
   have l1:=g2.length
   have l2:=g2'.length
   refine Ce pins s σ H x y u v Q I rx ry ⟨p,p',vs,vs',ex,ey,cw (aO H O) g1,cw (aO H O) g1',?_,fun z=>?_,fun z z'=>?_,fun z z' r hr=>?_⟩
   ·rw [<- l1,<- l2]; exact dh h1
   ·have e:xs=[]:=List.length_eq_zero_iff.mp (by rw [l1,z]; rfl)
    rw [<- ey]
    refine q _ H (bH.refl H) ?_
    rw [e,NQ]; exact db
   ·have e:ys=[]:=List.length_eq_zero_iff.mp (by rw [l2,z']; rfl)
    rw [<- ex]
    refine q _ H (bH.refl H) ?_
    rw [e,MZ]; exact da
   ·exact q _ _ (cv hr _) (fh hO hr (g2.append g2'))
  | _=>cases hg
 | _=>cases hg

def aw (a b:D):Option D:=match a,b with
 | .tup xs,.int i=>nF xs i
 | .lst xs,.int i=>nF xs i
 | .str x,.int i=>if small x.length then (nF x.cps.toList i).bind fun c=>some (.str ⟨#[c]⟩) else none
 | _,_=>none
theorem uR {K:O2} {H:Hp} {ds:List D} {vs:List V} {i:Int} {d:D} (h:bp K H ds vs) (e:nF ds i=some d):∃ v,nF vs i=some v/\cA K H d v:=by
 unfold nF at e ⊢
 obtain⟨j,e1,e2⟩:=bind_some e
 rw [<- h.length,e1]
 exact h.get e2
theorem K1:IL X (rD X.K aw):=by
 intro value slice pins s σ H x y u v Q I rx ry ⟨O,a,b,d,hO,ha,hb,hg,q⟩ hsub
 cases a with
 | tup xs =>
  cases b with
  | int i =>
   rw [cu] at ha
   obtain⟨p,vs,ex,g1,g2⟩:=ha
   obtain⟨w,e1,e2⟩:=uR g2 hg
   refine G9 value slice pins s σ H x y u v Q I rx ry ?_ hsub; exact⟨p,vs,i,w,ex,eU.mp hb,cw (aO H O) g1,e1,q w H (bH.refl H) e2⟩
  | _=>cases hg
 | lst xs =>
  cases b with
  | int i =>
   rw [cq] at ha
   obtain⟨p,vs,ex,g1,g2⟩:=ha
   obtain⟨w,e1,e2⟩:=uR g2 hg
   refine yF value slice pins s σ H x y u v Q I rx ry ?_ hsub; exact⟨p,vs,i,w,ex,eU.mp hb,(aO H O).seq g1,e1,q w H (bH.refl H) e2⟩
  | _=>cases hg
 | str z =>
  cases b with
  | int i =>
   have hg':(if small z.length then (nF z.cps.toList i).bind fun c=>some (D.str ⟨#[c]⟩) else none)=some d:=hg
   cases hs:small z.length with
   | false=>rw [hs] at hg'; cases hg'
   | true =>
    rw [hs] at hg'
    obtain⟨c,e1,e2⟩:=bind_some hg'
    cases e2
    refine Ga value slice pins s σ H x y u v Q I rx ry ?_ hsub; exact⟨z,i,c,eV.mp ha,eU.mp hb,dh hs,e1,q _ H (bH.refl H) (eV.mpr rfl)⟩
  | _=>cases hg
 | _=>cases hg
theorem LZ {a b:Qy} {fa fb:FX} {pos:Pos} (ha:FE X a fa) (hb:FE X b fb) (hs:nK b):FE X (.Subscript a b pos) (f2 aw fa fb) :=
 PE.weak (E5 K1 ha hb hs) (vn aq)

def cutD {α:Type} (xs:List α) (lo hi:Option Int):List α:=(xs.drop (HT.sIx xs.length 0 lo)).take (HT.sIx xs.length xs.length hi - HT.sIx xs.length 0 lo)
theorem sq {M:Qw} {A:Qt} {E:Ql->Qu->Prop} {s:Qu} {t:Qo} {items:Array Ql} {Q:Bool->Qu->Prop} (ht:P4 s.heap t items) (h:Q true s):Qx M A (Builtin.Tuple.tupleIsExact (.ref t)) Q E s:=by
 unfold Builtin.Tuple.tupleIsExact
 refine QD (wpAny_typeOf ht.typeIs ?_)
 exact QG h
theorem mB {prog:Qn} {w:Qm} {A:Qt} {E:Ql->Qu->Prop} {s:Qu} {t sl:Qo} {items:Array Ql} {vl vu:Ql} {lo hi:Option Int} {Q:Ql->Qu->Prop} (ht:P4 s.heap t items) (hs:s.heap.IsSliceOf sl vl vu .none) (pl:Q8 vl lo) (pu:Q8 vu hi)
  (hw:HT.sIx items.size 0 lo=0/\HT.sIx items.size items.size hi=items.size) (h:Q (.ref t) s):Qx (model prog w) A (getItem (.ref t) (.ref sl)) Q E s:=by
 obtain⟨os,hos,hcs,hds⟩:=id hs
 have hTs:s.TypeIs (.ref sl) "slice":=⟨os,hos,hcs⟩
 unfold getItem
 try with_reducible refine QE ?_
 first | refine QD (QG ?_) | skip
 refine QD (wpAny_sequenceKey ht.typeIs (by decide) ?_)
 refine QD (Ra (name:=Str.ofString "__getitem__") ht.typeIs PZ
  (Rb PZ ht.typeIs PyProof.Rows.entry_tuple_getitem ?_ (PyProof.Rows.args_tuple_getitem _ _)))
 show Qx _ _ (Builtin.Tuple.tupleItemsOf (.ref t) >>= _) _ _ s
 refine QD (PyProof.Rows.tupleItemsOf_ ht ?_)
 refine QD (wpAny_typeOf hTs ?_)
 rw [if_pos (by decide)]
 refine QD (HT.oY hs pl pu ?_)
 have hyes:(((HT.sIx items.size 0 lo:Nat):Int)==0 && (1:Int)==1 && (HT.sIx items.size items.size hi - HT.sIx items.size 0 lo)==items.size)=true:=by
  rw [hw.1,hw.2]
  simp
 show Qx _ _ (if (((HT.sIx items.size 0 lo:Nat):Int)==0 && (1:Int)==1 && (HT.sIx items.size items.size hi - HT.sIx items.size 0 lo)==items.size)=true then _ else _) _ _ s
 rw [if_pos hyes]
 refine QD (sq ht ?_)
 rw [if_pos rfl]
 first
  | exact QD (Rh (QG ⟨_,rfl,QG h⟩))
  | exact QD (Rh (QD (QG (QG ⟨_,rfl,QG h⟩))))
def qN (a:D) (lo hi:Option Int):Option D:=match a with
 | .lst xs=>some (.lst (cutD xs lo hi))
 | .tup xs=>some (.tup (cutD xs lo hi))
 | .str x=>if small x.length then some (.str ⟨(cutD x.cps.toList lo hi).toArray⟩) else none
 | _=>none
theorem ED (v:Option Int) (d n:Nat) (hd:d<=n):(match v with | none=>(d:Int) | some i=>if (1:Int) > 0 then max 0 (min (if i < 0 then i+(n:Int) else i) (n:Int)) else max (-1) (min (if i < 0 then i+(n:Int) else i) ((n:Int) - 1)))=((HT.sIx n d v:Nat):Int):=by
 cases v with
 | none=>rfl
 | some i =>
  show (if (1:Int) > 0 then max 0 (min (if i < 0 then i+(n:Int) else i) (n:Int)) else max (-1) (min (if i < 0 then i+(n:Int) else i) ((n:Int) - 1)))=(((if i < 0 then (i+(n:Int)).toNat else min i.toNat n):Nat):Int)
  rw [if_pos (by decide)]
  by_cases h:i < 0
  ·rw [if_pos h,if_pos h]; omega
  ·rw [if_neg h,if_neg h]; omega
theorem B1 (lo hi:Option Int) (n:Nat):Builtin.Str.strSliceIndices lo hi 1 n=(List.range (HT.sIx n n hi - HT.sIx n 0 lo)).map fun k=>HT.sIx n 0 lo+k:=by
 have e1:=ED lo 0 n (MY _)
 have e2:=ED hi n n (MO _)
 have e:Builtin.Str.strSliceIndices lo hi 1 n=sliceRange ((HT.sIx n 0 lo:Nat):Int) ((HT.sIx n n hi:Nat):Int) 1:=by
  rw [<- e1,<- e2]
  cases lo <;> cases hi <;> rfl
 rw [e]
 unfold sliceRange
 dsimp only
 rw [if_pos (by decide:(1:Int) > 0)]
 have e3:(if ((HT.sIx n 0 lo:Nat):Int) < ((HT.sIx n n hi:Nat):Int) then (((HT.sIx n n hi:Nat):Int) - ((HT.sIx n 0 lo:Nat):Int)+1 - 1) / 1 else 0:Int).toNat=HT.sIx n n hi - HT.sIx n 0 lo:=by
  rw [Int.ediv_one]
  split <;> omega
 rw [e3]
 refine NR fun k _=>?_
 omega
theorem De {α:Type} (l:List α) (a:Nat):∀ n:Nat,((List.range n).map fun k=>a+k).filterMap (fun i=>l[i]?)=(l.drop a).take n
 | 0=>by simp
 | n+1=>by
  rw [List.range_succ,NS,List.filterMap_append,De l a n,NT,List.getElem?_drop]
  cases e:l[a+n]? <;> simp [e]
theorem A3 (x:Str) (lo hi:Option Int):Txt.slice x lo hi=⟨(cutD x.cps.toList lo hi).toArray⟩:=by
 have hl:x.cps.toList.length=x.length:=by simp [Str.length]
 have pick:(Builtin.Str.strSliceIndices lo hi 1 x.length).filterMap (x.cps[·]?)=cutD x.cps.toList lo hi:=by
  rw [B1]
  have q:=De x.cps.toList (HT.sIx x.length 0 lo) (HT.sIx x.length x.length hi - HT.sIx x.length 0 lo)
  unfold cutD
  rw [hl,<- q]
  congr 1
  funext i
  simp
 unfold Txt.slice
 split
 ·rename_i h
  have h':(Builtin.Str.strSliceIndices lo hi 1 x.length).length=x.length:=by simpa using h
  rw [B1,MV,NU] at h'
  have h1:=HT.Gz x.length x.length (MO _) hi
  have z1:HT.sIx x.length 0 lo=0\/x.length=0:=by omega
  have e:cutD x.cps.toList lo hi=x.cps.toList:=by
   unfold cutD
   rw [hl,h']
   rcases z1 with z1 | z1
   ·rw [z1,NB,<- hl,List.take_length]
   ·have:x.cps.toList=[]:=List.length_eq_zero_iff.mp (by rw [hl]; exact z1)
    rw [this]; simp
  rw [e]
 ·rw [pick]
def LC (K:O2):V->Option Int->Option Int->Hp->VK->Prop:=fun x lo hi H Q=>∃ O a d,dD H O/\cA K (hid H O) a x/\qN a lo hi=some d/\∀ v H',bH H H'->cA K (hid H' O) d v->Q v H'
theorem bp.cut {K:O2} {H:Hp} {ds:List D} {vs:List V} (h:bp K H ds vs) (lo hi:Option Int):bp K H (cutD ds lo hi) (wV vs lo hi):=by
 unfold cutD wV
 rw [h.length]
 exact(h.drop _).take _
theorem J2:JT X (LC X.K):=by
 intro pins s σ H x v vl vu lo hi sl Q I rx hs pl pu ⟨O,a,d,hO,ha,hg,q⟩
 cases a with
 | lst xs =>
  cases hg
  rw [cq] at ha
  obtain⟨p,vs,ex,g1,g2⟩:=ha
  exact Ed pins s σ H x v vl vu lo hi sl Q I rx hs pl pu ⟨p,vs,ex,(aO H O).seq g1,fun r hr=>q _ _ (cv hr _) (gP hO hr (g2.cut lo hi))⟩
 | tup xs =>
  cases hg
  have da:=ha
  rw [cu] at ha
  obtain⟨p,vs,ex,g1,g2⟩:=ha
  by_cases hw:HT.sIx vs.length 0 lo=0/\HT.sIx vs.length vs.length hi=vs.length
  ·subst ex
   cases rx
   obtain⟨its,r,ht,hz⟩:=I.tuple (cw (aO H O) g1)
   have hlen:its.toArray.size=vs.length:=by rw [MR]; exact r.length.symm
   refine⟨"tuple",_,PyProof.Rows.slot_tuple_getitem.lookup,ht.typeIs,mB ht hs pl pu (by rw [hlen]; exact hw) ⟨.ref p,H,I,rfl,q _ H (bH.refl H) ?_⟩⟩
   have e:cutD xs lo hi=xs:=by
    unfold cutD
    rw [g2.length,hw.1,hw.2,NV,NB,<- g2.length,List.take_length]
   rw [e]; exact da
  ·exact G5 pins s σ H x v vl vu lo hi sl Q I rx hs pl pu ⟨p,vs,ex,cw (aO H O) g1,hw,fun r hr=>q _ _ (cv hr _) (fh hO hr (g2.cut lo hi))⟩
 | str z =>
  obtain⟨h1,h2⟩:=bP hg
  subst h2
  rw [eV] at ha
  subst ha
  obtain⟨t,rfl⟩:=rx
  have fin:∀ t' tk,EP X pins σ Q (.str (Txt.slice z lo hi) t') { s with toks:=tk }:=fun t' tk=>by
   rw [A3]
   exact⟨.str _,H,I.tok _,⟨_,rfl⟩,q _ H (bH.refl H) (eV.mpr rfl)⟩
  obtain⟨os,hos,hcs,hds⟩:=id hs
  have hz:=dh h1
  refine⟨"str",_,F.slot_str_getitem.lookup,typeIs_str _ _ _,?_⟩
  cases pl with
  | none =>
   cases pu with
   | none=>exact Ri (l:=none) (u:=none) (st:=none) ⟨os,hos,hcs,hds⟩ rfl (Rj ⟨MF (Txt.slice_le z _ _) hz,fun t' k=>fin t' k⟩)
   | int j tj=>exact Ri (l:=none) (u:=some (j,tj)) (st:=none) ⟨os,hos,hcs,hds⟩ rfl (Rj ⟨MF (Txt.slice_le z _ _) hz,fun t' k=>fin t' k⟩)
  | int i ti =>
   cases pu with
   | none=>exact Ri (l:=some (i,ti)) (u:=none) (st:=none) ⟨os,hos,hcs,hds⟩ rfl (Rj ⟨MF (Txt.slice_le z _ _) hz,fun t' k=>fin t' k⟩)
   | int j tj=>exact Ri (l:=some (i,ti)) (u:=some (j,tj)) (st:=none) ⟨os,hos,hcs,hds⟩ rfl (Rj ⟨MF (Txt.slice_le z _ _) hz,fun t' k=>fin t' k⟩)
 | _=>cases hg
def fT:av->R (Option Int):=fun _=>.ok none
def yf:D->Option (Option Int)
 | .int i=>some (some i)
 | _=>none
def kM (f:FX):av->R (Option Int):=fun ρ=>(f ρ).bind fun d=>rO (yf d)
def Mm (X:Cx) (F:av->R (Option Int)):TO:=fun σ H Q=>∃ O ρ,dM X.K O H ρ σ/\hV X σ O H (F ρ) fun o=>∀ H',bH H H'->Q o H'
def FO (X:Cx) (e:Option Qy) (F:av->R (Option Int)):Prop:=PO X e (Mm X F)
theorem JO:FO X none fT:=fun pins s σ H Q I ⟨O,ρ,E,q⟩=>DP pins s σ H Q I (q H (bH.refl H))
theorem Jy {e:Qy} {f:FX} (h:FE X e f):FO X (some e) (kM f):=fun pins s σ H Q I ⟨O,ρ,E,hF⟩ =>
 DE h pins s σ H Q I ⟨O,ρ,E,(hV.bind hF).imp fun d hF v H1 s1 d1=>by
  obtain⟨o,e,q⟩:=hV.rO hF
  cases d with
  | int i =>
   cases e
   exact⟨i,eU.mp d1,q H1 s1⟩
  | _=>cases e⟩
def iI (f:FX) (l h:av->R (Option Int)):FX:=fun ρ=>(f ρ).bind fun a=>(l ρ).bind fun lo=>(h ρ).bind fun hi=>rO (qN a lo hi)
theorem Iw {e:Qy} {f:FX} {l h:av->R (Option Int)} {lo hi:Option Qy} {p2 pos:Pos} (he:FE X e f) (hl:FO X lo l) (hh:FO X hi h):FE X (.Subscript e (.Slice lo hi none p2) pos) (iI f l h) :=
 PE.weak (BF J2 he hl hh) fun σ H Q ⟨O,ρ,E,hF⟩=>⟨O,ρ,E,(hV.bind hF).imp fun a hF x H1 s1 d1=>⟨O,ρ,E.same s1,((hV.bind hF).mono s1).imp fun lo' hF H2 s2=>⟨O,ρ,E.same (s1.trans s2),((hV.bind hF).mono (s1.trans s2)).imp fun hi' hF H3 s3=>by
  obtain⟨d,e,q⟩:=hV.rO hF
  exact⟨O,a,d,E.all.same ((s1.trans s2).trans s3),d1.mono (cE (s2.trans s3)),e,fun v H4 s4 d4=>q v H4 (((s1.trans s2).trans s3).trans s4) d4⟩⟩⟩⟩
end
end TG
namespace TG
open PySem PySem.Spec L2
variable [bc]

def zT (K:O2) (g:List D->Option D):List V->Hp->VK->Prop:=fun xs H Q=>∃ O ds d,dD H O/\bp K (hid H O) ds xs/\g ds=some d/\∀ v H',bH H H'->cA K (hid H' O) d v->Q v H'
theorem rR {K:O2} {g:List D->Option D}:zC K (zT K g) g:=fun ds d xs O H Q hO hg hd q=>⟨O,ds,d,hO,hd,hg,q⟩
section
variable {X:Cx} {x:Str} {p pos:Pos} {e:Qy} {es:List Qy} {id T:String} {g:List D->Option D} {f:av->R (List D)}
theorem IY (hc:eG X (.builtin id) (zT X.K g)) (hg:Gl X x) (hm:X.mg x=none) (hv:Qs x=some (.builtin id)) (ha:FA X (e::es) f) (hn:x ≠ "__name__":=by decide) (hdb:(x==("__debug__":Str))=false:=by decide)
  (hns:(e::es).all noStar=true:=by rfl):FE X (.Call (.Name x p) (e::es) [] pos) (fL g f) :=
 PE.weak (rd hc hg hm hv ha hn hdb (cS (Nc _ _ ▸ hns).1) (dE (Nc _ _ ▸ hns).2)) (Cd rR)
theorem Hg (hc:eG X (.type T) (zT X.K g)) (hg:Gl X x) (hm:X.mg x=none) (hv:Qs x=some (.type T)) (ha:FA X (e::es) f) (hn:x ≠ "__name__":=by decide) (hdb:(x==("__debug__":Str))=false:=by decide)
  (hns:(e::es).all noStar=true:=by rfl):FE X (.Call (.Name x p) (e::es) [] pos) (fL g f) :=
 PE.weak (sP hc hg hm hv ha hn hdb (cS (Nc _ _ ▸ hns).1) (dE (Nc _ _ ▸ hns).2)) (Cd rR)

def fW:List D->Option D
 | [.lst xs]=>some (.int xs.length)
 | [.tup xs]=>some (.int xs.length)
 | [.str x]=>if small x.length then some (.int x.length) else none
 | _=>none
theorem cn:eG X (.builtin "len") (zT X.K fW):=by
 intro pins s σ H xs us Q I r ⟨O,ds,d,hO,hd,hg,q⟩
 unfold fW at hg
 split at hg
 ·rename_i ys
  cases hg
  obtain⟨v,ev,h1⟩:=hd.one
  rw [cq] at h1
  obtain⟨p,vs,ep,g1,g2⟩:=h1
  exact oq pins s σ H xs us Q I r ⟨p,vs,by rw [ev,ep],.inl ((aO H O).seq g1),q _ H (bH.refl H) (eU.mpr (by rw [g2.length]))⟩
 ·rename_i ys
  cases hg
  obtain⟨v,ev,h1⟩:=hd.one
  rw [cu] at h1
  obtain⟨p,vs,ep,g1,g2⟩:=h1
  exact oq pins s σ H xs us Q I r ⟨p,vs,by rw [ev,ep],.inr (cw (aO H O) g1),q _ H (bH.refl H) (eU.mpr (by rw [g2.length]))⟩
 ·rename_i z
  obtain⟨h1,h2⟩:=bP hg
  subst h2
  obtain⟨v,ev,h1'⟩:=hd.one
  exact ve pins s σ H xs us Q I r ⟨z,by rw [ev,eV.mp h1'],dh h1,q _ H (bH.refl H) (eU.mpr rfl)⟩
 ·cases hg
def cg:List D->Option D
 | [.lst xs]=>some (.tup xs)
 | [.tup xs]=>some (.tup xs)
 | _=>none
theorem bW:eG X (.type "tuple") (zT X.K cg):=by
 intro pins s σ H xs us Q I r ⟨O,ds,d,hO,hd,hg,q⟩
 unfold cg at hg
 split at hg
 ·rename_i ys
  cases hg
  obtain⟨v,ev,h1⟩:=hd.one
  rw [cq] at h1
  obtain⟨p,vs,ep,g1,g2⟩:=h1
  exact mS pins s σ H xs us Q I r ⟨p,vs,by rw [ev,ep],.inl ⟨(aO H O).seq g1,fun l hl=>q _ _ (cv hl _) (fh hO hl g2)⟩⟩
 ·rename_i ys
  cases hg
  obtain⟨v,ev,h1⟩:=hd.one
  have h0:=h1
  rw [cu] at h1
  obtain⟨p,vs,ep,g1,g2⟩:=h1
  rw [ep] at h0
  exact mS pins s σ H xs us Q I r ⟨p,vs,by rw [ev,ep],.inr ⟨cw (aO H O) g1,q _ H (bH.refl H) h0⟩⟩
 ·cases hg
def pH:List D->Option D
 | [.lst xs]=>some (.lst xs)
 | [.tup xs]=>some (.lst xs)
 | _=>none
def rT:List D->Option D
 | [.int i,.int j]=>some (.int (if j > i then j else i))
 | _=>none
def pJ:List D->Option D
 | [.int i,.int j]=>some (.int (if j < i then j else i))
 | _=>none
def pI:List D->Option D
 | [.int i]=>some (.int i)
 | [.bl k]=>some (.int (if k then 1 else 0))
 | _=>none
theorem nA (hc:X.calm=true):eG X (.builtin "max") (zT X.K rT):=by
 intro pins s σ H xs us Q I r ⟨O,ds,d,hO,hd,hg,q⟩
 unfold rT at hg
 split at hg
 ·rename_i i j
  cases hg
  obtain⟨v,w,ev,h1,h2⟩:=hd.two
  exact AF hc pins s σ H xs us Q I r ⟨i,j,by rw [ev,eU.mp h1,eU.mp h2],q _ H (bH.refl H) (eU.mpr rfl)⟩
 ·cases hg
theorem nu (hc:X.calm=true):eG X (.builtin "min") (zT X.K pJ):=by
 intro pins s σ H xs us Q I r ⟨O,ds,d,hO,hd,hg,q⟩
 unfold pJ at hg
 split at hg
 ·rename_i i j
  cases hg
  obtain⟨v,w,ev,h1,h2⟩:=hd.two
  exact AV hc pins s σ H xs us Q I r ⟨i,j,by rw [ev,eU.mp h1,eU.mp h2],q _ H (bH.refl H) (eU.mpr rfl)⟩
 ·cases hg
theorem xt:eG X (.type "int") (zT X.K pI):=by
 intro pins s σ H xs us Q I r ⟨O,ds,d,hO,hd,hg,q⟩
 unfold pI at hg
 split at hg
 ·rename_i i
  cases hg
  obtain⟨v,ev,h1⟩:=hd.one
  exact tQ pins s σ H xs us Q I r (.inl ⟨i,by rw [ev,eU.mp h1],q _ H (bH.refl H) (eU.mpr rfl)⟩)
 ·rename_i k
  cases hg
  obtain⟨v,ev,h1⟩:=hd.one
  exact tQ pins s σ H xs us Q I r (.inr ⟨k,by rw [ev,kK.mp h1],q _ H (bH.refl H) (eU.mpr rfl)⟩)
 ·cases hg

def K4 (T:String) (d:D):Bool:=match d with
 | .bl _=>T == "bool" || T == "int"
 | .non=>T == "NoneType"
 | .int _=>T == "int"
 | .str _=>T == "str"
 | .tup _=>T == "tuple"
 | .lst _=>T == "list"
 | .dct _ _=>T == "dict"
 | _=>false
theorem wq:Qs "isinstance"=some (.builtin "isinstance"):=by first | rfl | decide +kernel
def IK (T:String) (d:D):Option D:=if top d then some (.bl (K4 T d)) else none
def J3 (T:String) (f:FX):FX:=f1 (IK T) f
end

section
variable {X:Cx} {a:Qy} {f:FX} {pos:Pos}
def isNon:D->Bool
 | .non=>true
 | _=>false
def Kr (d:D):Option D:=some (.bl (isNon d))
def IQ (d:D):Option D:=some (.bl (!isNon d))
def Lx (f:FX):FX:=f1 Kr f
def Ih (f:FX):FX:=f1 IQ f
theorem IM (h:FE X a f) (he:∀ whole,isTrue a X.env whole=(do let v <- whole; standAt a.pos; holding [v] (truthy v)):=by intro _; rfl):FT X a (rG f):=PT.weak (C9 h he) fun σ H Q ⟨O,ρ,E,hF⟩=>⟨O,ρ,E,(hV.bind hF).imp fun d hF x H1 s1 d1=>by
 obtain⟨r,hF,q⟩:=hV.rO hF
 refine⟨r,?_,q H1 s1⟩
 cases d with
 | non=>cases hF; rw [kq.mp d1]; rfl
 | bl b=>cases hF; rw [kK.mp d1]; rfl
 | int i=>cases hF; rw [eU.mp d1]; rfl
 | str y =>
  obtain⟨hz,e⟩:=bP hF
  subst e
  rw [eV.mp d1]
  refine⟨dh hz,?_⟩
  show (y.length != 0)=((y.length:Int) != 0)
  cases y.length <;> rfl
 | tup xs =>
  cases hF
  obtain⟨p,vs,e,g1,g2⟩:=cu.mp d1
  rw [e]
  refine .inr (.inl ⟨vs,cw (aO H1 O) g1,?_⟩)
  have l:=g2.length
  cases xs <;> cases vs <;> first | rfl | (simp at l)
 | lst xs =>
  cases hF
  obtain⟨p,vs,e,g1,g2⟩:=cq.mp d1
  rw [e]
  refine .inl ⟨vs,(aO H1 O).seq g1,?_⟩
  have l:=g2.length
  cases xs <;> cases vs <;> first | rfl | (simp at l)
 | _=>cases hF⟩
end

def Walk (K:O2) (Hd:Hp) (J:It) (ds:List D):Prop :=
 ∀ (Hn:Hp) (O':List Qo) (i:Nat),dD Hn O'->bH Hd (hid Hn O')->(∀ d,ds[i]?=some d->J.go i Hn/\∀ x H2,J.yld i Hn x H2->bH Hn H2/\cA K (hid H2 O') d x)/\(i=ds.length->J.stop i Hn)
def Kb (X:Cx) (G:av->R (List D)):TI:=fun σ H RR=>∃ O ρ,dM X.K O H ρ σ/\hV X σ O H (G ρ) fun ds=>∀ J H1,bH H H1->Walk X.K (hid H1 O) J ds->RR J H1
def FI (X:Cx) (tg iter:Qy) (G:av->R (List D)):Prop:=PI X tg iter (Kb X G)
def rQ:D->Option (List D)
 | .lst xs=>some xs
 | .tup xs=>some xs
 | _=>none
def bC (f:FX):av->R (List D):=fun ρ=>(f ρ).bind fun d=>rO (rQ d)
section
variable {X:Cx} {tg:Qy}
theorem zZ {K:O2} {Hd:Hp} {a:Qo} {ds:List D} {vs:List V} (h:mG K Hd a vs) (g:bp K Hd ds vs):Walk K Hd (Km K a) ds:=fun Hn O' i hO s =>
  have s':bH Hd Hn:=s.trans (aO Hn O')
  ⟨fun d e=>by
    obtain⟨v,ev,dv⟩:=g.get e
    refine⟨⟨vs,v,s'.seq h,ev⟩,fun x H2 ⟨e2,y⟩=>?_⟩
    have q:=y vs (s'.seq h)
    rw [ev] at q; cases q
    subst e2
    exact⟨bH.refl _,dv.mono s⟩,
   fun hl=>⟨vs,s'.seq h,by rw [<- g.length]; exact MX hl.symm⟩⟩
theorem CP {K:O2} {Hd:Hp} {a:Qo} {ds:List D} {vs:List V} (h:Hd a=some (.tup vs)) (g:bp K Hd ds vs):Walk K Hd (K9 K a) ds:=fun Hn O' i hO s =>
  have s':bH Hd Hn:=s.trans (aO Hn O')
  ⟨fun d e=>by
    obtain⟨v,ev,dv⟩:=g.get e
    refine⟨⟨vs,v,cw s' h,ev⟩,fun x H2 ⟨e2,y⟩=>?_⟩
    have q:=y vs (cw s' h)
    rw [ev] at q; cases q
    subst e2
    exact⟨bH.refl _,dv.mono s⟩,
   fun hl=>⟨vs,cw s' h,by rw [<- g.length]; exact MX hl.symm⟩⟩
theorem Kh {e:Qy} {f:FX} (h:FE X e f):FI X tg e (bC f):=by
 intro pins s σ H R I ⟨O,ρ,E,hG⟩
 have hG':=hV.bind hG
 cases hf:f ρ with
 | error z=>exact yx h pins s σ H R I ⟨O,ρ,E,by rw [hf] at hG' ⊢; cases z with | none=>exact hG'.elim | some x=>exact hG'⟩
 | ok d =>
  rw [hf] at hG'
  obtain⟨ds,e1,q⟩:=hV.rO (α:=List D) (o:=rQ d) hG'
  cases d with
  | lst xs =>
   cases e1
   refine yx h pins s σ H R I ⟨O,ρ,E,?_⟩
   rw [hf]
   refine fun v H1 s1 d1=>?_
   obtain⟨p,vs,ev,g1,g2⟩:=cq.mp d1
   exact⟨p,ev,⟨vs,(aO H1 O).seq g1⟩,q _ H1 s1 (zZ g1 g2)⟩
  | tup xs =>
   cases e1
   refine GO h pins s σ H R I ⟨O,ρ,E,?_⟩
   rw [hf]
   refine fun v H1 s1 d1=>?_
   obtain⟨p,vs,ev,g1,g2⟩:=cu.mp d1
   exact⟨p,ev,⟨vs,cw (aO H1 O) g1⟩,q _ H1 s1 (CP g1 g2)⟩
  | _=>cases e1
def eI (lo:Int) (n:Nat):List D:=(List.range n).map fun (k:Nat)=>D.int (lo+(k:Int))
theorem sy (lo:Int) (n:Nat):(eI lo n).length=n:=by unfold eI; rw [MV,NU]
theorem xX {K:O2} {Hd:Hp} (lo:Int) (n:Nat):Walk K Hd (JE lo n) (eI lo n):=fun Hn O' i hO s =>
  ⟨fun d e=>by
    unfold eI at e
    rw [M6] at e
    cases hi:(List.range n)[i]? with
    | none=>rw [hi] at e; cases e
    | some k =>
      rw [hi] at e
      cases e
      have hlt:i < n:=by
        have:=(List.getElem?_eq_some_iff.mp hi).1
        rwa [NU] at this
      have ek:k=i:=by
        rw [NW hlt] at hi
        exact(Option.some.inj hi).symm
      subst ek
      exact⟨hlt,fun x H2 ⟨e1,e2⟩=>by subst e1; exact⟨bH.refl _,eU.mpr e2⟩⟩,
   fun hl=>by rw [sy] at hl; exact MX hl.symm⟩
def okR (j:Int):Bool:=decide (-(2 ^ 62)<=j/\j < 2 ^ 62)
def jf:List D->Option (List D)
 | [.int j]=>if okR j then some (eI 0 j.toNat) else none
 | _=>none
def yC:List D->Option (List D)
 | [.int i,.int j]=>if okR i && okR j then some (eI i (j - i).toNat) else none
 | _=>none
def dz (f:av->R (List D)):av->R (List D):=fun ρ=>(f ρ).bind fun ds=>rO (jf ds)
def D9 (f:av->R (List D)):av->R (List D):=fun ρ=>(f ρ).bind fun ds=>rO (yC ds)
theorem Hi {a:Qy} {f:av->R (List D)} {p pos:Pos} (hg:Gl X "range") (hm:X.mg "range"=none) (ha:FA X [a] f) (hs:Qz [a] X.env=[(false,eval a X.env)]:=by rfl):FI X tg (.Call (.Name "range" p) [a] [] pos) (dz f):=by
 intro pins s σ H R I ⟨O,ρ,E,hG⟩
 refine A5 hg hm ha hs pins s σ H R I ⟨O,ρ,E,(hV.bind hG).imp fun es hG' vs H1 s1 d1=>?_⟩
 clear hG
 obtain⟨ds,hG,q⟩:=hV.rO hG'
 clear hG'
 unfold jf at hG
 split at hG
 ·rename_i j
  obtain⟨h1,h2⟩:=bP hG
  subst h2
  obtain⟨j1,j2⟩:=of_decide_eq_true h1
  obtain⟨v,ev,dv⟩:=d1.one
  exact⟨j,by rw [ev,eU.mp dv],j1,j2,q _ H1 s1 (xX 0 _)⟩
 ·cases hG
end

abbrev GF:=D->av->Option av
def Jk (K:O2) (g:GF):TG:=fun v σ H Q=>∃ O ρ d ρ',dM K O H ρ σ/\cA K (hid H O) d v/\g d ρ=some ρ'/\∀ σ',dM K O H ρ' σ'->(∀ (i:Nat) xs,ρ'[i]?=some (some (.own xs))->σ'[i]?=σ[i]?/\ρ[i]?=some (some (.own xs)))->Q σ' H
def FG (X:Cx) (tg:Qy) (g:GF):Prop:=PG X tg (Jk X.K g)
def setV (i:Nat) (d:D) (ρ:av):av:=ρ.set i (some (.val d))
theorem cc {α:Type} {l:List α} {i j:Nat} {a b:α} (h:(l.set i a)[j]?=some b):(j=i/\b=a)\/(j≠i/\l[j]?=some b):=by
 by_cases e:j=i
 ·subst e
  left
  have hj:j < (l.set j a).length:=(List.getElem?_eq_some_iff.mp h).1
  rw [Nf] at hj
  rw [ML hj] at h
  exact⟨rfl,(Option.some.inj h).symm⟩
 ·right
  rw [MM (Ne.symm e)] at h
  exact⟨e,h⟩
theorem dM.setV {K:O2} {O:List Qo} {H:Hp} {ρ:av} {σ:St} (E:dM K O H ρ σ) {i:Nat} {d:D} {v:V} (hi:i < σ.length) (hd:cA K (hid H O) d v):dM K O H (setV i d ρ) (σ.set i (some v)) :=
  ⟨fun j d' e=>by
    rcases cc e with ⟨hj,eq⟩ | ⟨ne,eq⟩
    · cases eq; rw [hj]; exact⟨v,ML hi,hd⟩
    · obtain⟨w,e1,e2⟩:=E.val j d' eq
      exact⟨w,by rw [MM (Ne.symm ne)]; exact e1,e2⟩,
   fun j xs e=>by
    rcases cc e with ⟨_,eq⟩ | ⟨ne,eq⟩
    · cases eq
    · obtain⟨a,e1,e2⟩:=E.own j xs eq
      exact⟨a,by rw [MM (Ne.symm ne)]; exact e1,e2⟩,
   fun j k xs ys a e1 e2 e3 e4=>by
    rcases cc e1 with ⟨_,q1⟩ | ⟨ne1,q1⟩
    · cases q1
    · rcases cc e2 with ⟨_,q2⟩ | ⟨ne2,q2⟩
      · cases q2
      · rw [MM (Ne.symm ne1)] at e3
        rw [MM (Ne.symm ne2)] at e4
        exact E.one j k xs ys a q1 q2 e3 e4,E.all⟩
section
variable {X:Cx} {pos:Pos}
def gN (i:Nat):GF:=fun d ρ=>some (setV i d ρ)
theorem JM {i:Nat} {x:Str} (hN:X.N.Nodup) (hi:X.N[i]?=some x) (hx:Loc X.env.scope x) (hf:X.fn x=true\/X.env.scope.names.lookup x=some .local:=by first | exact .inl rfl | exact .inr rfl | assumption):FG X (.Name x pos) (gN i):=by
 intro pins s σ H v u Q I r ⟨O,ρ,d,ρ',E,hd,hg,q⟩
 cases hg
 have hiσ:i < σ.length:=by rw [I.len]; exact(List.getElem?_eq_some_iff.mp hi).1
 refine Dw hN hi hx hf pins s σ H v u Q I r (q _ (E.setV hiσ hd) fun j xs e=>?_)
 rcases cc e with ⟨_,eq⟩ | ⟨ne,eq⟩
 ·cases eq
 ·exact⟨MM (Ne.symm ne),eq⟩
abbrev Bb:=List D->av->Option av
def J1 (K:O2) (g:Bb):Ff:=fun vs σ H Q=>∃ O ρ ds ρ',dM K O H ρ σ/\bp K (hid H O) ds vs/\g ds ρ=some ρ'/\∀ σ',dM K O H ρ' σ'->(∀ (i:Nat) xs,ρ'[i]?=some (some (.own xs))->σ'[i]?=σ[i]?/\ρ[i]?=some (some (.own xs)))->Q σ' H
def IV (X:Cx) (ts:List Qy) (g:Bb):Prop:=IP X ts (J1 X.K g)
def Ck:Bb:=fun ds ρ=>match ds with
 | []=>some ρ
 | _=>none
def yt (g:GF) (h:Bb):Bb:=fun ds ρ=>match ds with
 | d::r=>(g d ρ).bind fun ρ1=>h r ρ1
 | _=>none
theorem Jc:IV X [] Ck:=by
 intro pins s σ H vs us Q I r ⟨O,ρ,ds,ρ',E,hd,hg,q⟩
 cases ds with
 | nil =>
  cases hg
  rw [cF] at hd
  exact DZ pins s σ H vs us Q I r ⟨hd,q _ E fun i xs e=>⟨rfl,e⟩⟩
 | cons _ _=>cases hg
theorem IB {e:Qy} {es:List Qy} {g:GF} {h:Bb} (h1:FG X e g) (h2:IV X es h) (hs:(assignEach (e::es) X.env).map (·.2)=assign e X.env::(assignEach es X.env).map (·.2):=by rfl):IV X (e::es) (yt g h):=by
 intro pins s σ H vs us Q I r ⟨O,ρ,ds,ρ',E,hd,hg,q⟩
 cases ds with
 | nil=>cases hg
 | cons d ds =>
  obtain⟨ρ1,e1,e2⟩:=bind_some hg
  rw [bL] at hd
  obtain⟨v,vr,ev,d1,d2⟩:=hd
  exact Ci h1 h2 hs pins s σ H vs us Q I r ⟨v,vr,ev,O,ρ,d,ρ1,E,d1,e1,fun σ1 E1 k1=>⟨O,ρ1,ds,ρ',E1,d2,e2,fun σ2 E2 k2=>q σ2 E2 fun i xs e=>by
   obtain⟨a1,a2⟩:=k2 i xs e
   obtain⟨b1,b2⟩:=k1 i xs a2
   exact⟨a1.trans b1,b2⟩⟩⟩
def gT (n:Nat) (g:Bb):GF:=fun d ρ=>match d with
 | .tup xs=>if xs.length=n then g xs ρ else none
 | _=>none
theorem J4 {es:List Qy} {k:Nat} {g:Bb} {n:Nat} (hc:X.calm=true) (h:IV X es g) (hn:(assignEach es X.env).length=n:=by rfl) (hst:(assignEach es X.env).findIdx? (·.1)=none:=by rfl):FG X (.Tuple es k pos) (gT n g):=by
 intro pins s σ H v u Q I r ⟨O,ρ,d,ρ',E,hd,hg,q⟩
 cases d with
 | tup xs =>
  obtain⟨p,vs,ev,g1,g2⟩:=cu.mp hd
  have hg':(if xs.length=n then g xs ρ else none)=some ρ':=hg
  by_cases hl:xs.length=n
  ·rw [if_pos hl] at hg'
   exact Gj hc h hn hst pins s σ H v u Q I r ⟨p,vs,ev,cw (aO H O) g1,by rw [<- g2.length]; exact hl,O,ρ,xs,ρ',E,g2,hg',q⟩
  ·rw [if_neg hl] at hg'; cases hg'
 | _=>cases hg
end

def xc {α:Type} (r:R α):R α:=match r with
 | .ok a=>.ok a
 | .error _=>un
theorem CB {α:Type} {r:R α} {a:α} (h:xc r=.ok a):r=.ok a:=by
 cases r with
 | ok b=>exact h
 | error z=>cases h
def inB (ix:List (Option Nat)) (ρ:av):av:=ix.map fun o=>match o with
 | some i=>match ρ[i]? with
  | some (some (.val d))=>some (.val d)
  | _=>none
 | none=>none
def Bc (ρ:av) (g:GF) (C:av->R Bool) (Fe:FX):List D->R (List D)
 | []=>.ok []
 | d::ds=>(rO (g d ρ)).bind fun ρ1=>(xc (C ρ1)).bind fun c=>if c then (xc (Fe ρ1)).bind fun v=>(Bc ρ g C Fe ds).bind fun r=>.ok (v::r) else Bc ρ g C Fe ds
theorem rN (ρ:av) (g:GF) (C:av->R Bool) (Fe:FX) (d:D) (ds:List D):Bc ρ g C Fe (d::ds)=(rO (g d ρ)).bind fun ρ1=>(xc (C ρ1)).bind fun c=>if c then (xc (Fe ρ1)).bind fun v=>(Bc ρ g C Fe ds).bind fun r=>.ok (v::r) else Bc ρ g C Fe ds:=rfl
def iW (ix:List (Option Nat)) (G:av->R (List D)) (g:GF) (C:av->R Bool) (Fe:FX):FX:=fun ρ=>(G ρ).bind fun ds=>if small ds.length then xc ((Bc (inB ix ρ) g C Fe ds).bind fun r=>.ok (.lst r)) else un
def Jh (X:Cx) (ifs:List Qy) (F:av->R Bool):Prop:=FV X ifs (Jo X F)
def cW:av->R Bool:=fun _=>.ok true
theorem Jw {X:Cx}:Jh X [] cW:=fun pins s σ H Q I ⟨O,ρ,E,q⟩=>Dz pins s σ H Q I (q H (bH.refl H))
theorem Jj {X:Cx} {c:Qy} {F:av->R Bool} (h:FT X c F):Jh X [c] F:=Es h
theorem nU {ix:List (Option Nat)} {ρ:av} {j:Nat} {x:S} (e:(inB ix ρ)[j]?=some (some x)):∃ i d,ix[j]?=some (some i)/\ρ[i]?=some (some (.val d))/\x=.val d:=by
 unfold inB at e
 rw [M6] at e
 cases q:ix[j]? with
 | none=>rw [q] at e; cases e
 | some o =>
  rw [q] at e
  cases o with
  | none=>cases e
  | some i =>
   have e':(match ρ[i]? with | some (some (.val d))=>some (S.val d) | _=>none)=some x:=Option.some.inj e
   split at e'
   ·rename_i d hd
    cases e'
    exact⟨i,d,rfl,hd,rfl⟩
   ·cases e'
theorem DC {K:O2} {O:List Qo} {H:Hp} {ρ:av} {σ:St} (ix:List (Option Nat)) (E:dM K O H ρ σ):dM K O H (inB ix ρ) (inBlock ix σ):=by
 refine⟨fun j d e=>?_,fun j xs e=>?_,fun j k xs ys a e=>?_,E.all⟩
 ·obtain⟨i,d',q1,q2,q3⟩:=nU e
  cases q3
  obtain⟨v,e1,e2⟩:=E.val i d q2
  refine⟨v,?_,e2⟩
  unfold inBlock
  rw [M6,q1]
  show some ((σ[i]?).getD none)=some (some v)
  rw [e1]; rfl
 ·obtain⟨_,_,_,_,q3⟩:=nU e
  cases q3
 ·obtain⟨_,_,_,_,q3⟩:=nU e
  cases q3
theorem vX {H:Hp} {O:List Qo} {p:Qo} {o:HO} (hp:H p=none):bH (hid H O) (hid (upd H p o) (p::O)):=fun b u h=>by
 unfold hid at h ⊢
 by_cases hb:b∈O
 ·rw [if_pos hb] at h; cases h
 ·rw [if_neg hb] at h
  have ne:=bM h hp
  rw [if_neg (by intro z; rcases List.mem_cons.mp z with z | z; exact ne z; exact hb z),bg ne]; exact h
theorem dM.hideNew {K:O2} {O:List Qo} {H:Hp} {ρ:av} {σ:St} {p:Qo} {o:HO} (m:su o) (E:dM K O H ρ σ) (hp:H p=none):dM K (p::O) (upd H p o) ρ σ:=by
 have s:bH (hid H O) (hid (upd H p o) (p::O)):=vX hp
 refine⟨fun i d e=>let ⟨v,a,b⟩:=E.val i d e; ⟨v,a,b.mono s⟩,fun i xs e=>?_,E.one,(E.all.same (cv hp o)).cons bJ m⟩
 obtain⟨a,e1,e2,e3⟩:=E.own i xs e
 obtain⟨u,hu⟩:=e3.some
 exact⟨a,e1,MJ _ e2,e3.mono (by rw [bg (bM hu hp)]) s⟩
theorem dM.rewrite {K:O2} {O:List Qo} {H:Hp} {ρ:av} {σ:St} {p:Qo} {o:HO} (m:su o) (E:dM K O H ρ σ) (hp:p∈O) (hs:∀ (i:Nat) xs,ρ[i]?=some (some (.own xs))->σ[i]?≠some (some (.ref p))):dM K O (upd H p o) ρ σ:=by
 have s:bH (hid H O) (hid (upd H p o) O):=oa hp
 refine⟨fun i d e=>let ⟨v,a,b⟩:=E.val i d e; ⟨v,a,b.mono s⟩,fun i xs e=>?_,E.one,E.all.upd hp m⟩
 obtain⟨a,e1,e2,e3⟩:=E.own i xs e
 have ne:a≠p:=fun z=>hs i xs e (by rw [<- z]; exact e1)
 exact⟨a,e1,e2,e3.mono (by rw [bg ne]) s⟩
theorem dM.forget {K:O2} {O:List Qo} {H:Hp} {ρ ρ':av} {σ:St} (E:dM K O H ρ σ) (h:∀ (i:Nat) x,ρ'[i]?=some (some x)->ρ[i]?=some (some x)):dM K O H ρ' σ :=
 ⟨fun i d e=>E.val i d (h i _ e),fun i xs e=>E.own i xs (h i _ e),fun i j xs ys a e1 e2=>E.one i j xs ys a (h i _ e1) (h j _ e2),E.all⟩

def Fills (ρ:av) (g:GF):Prop:=∀ d ρ1,g d ρ=some ρ1->∀ (i:Nat) x,ρ[i]?=some (some x)->ρ1[i]?=some (some x)
theorem sK (ix:List (Option Nat)) (ρ:av):∀ (i:Nat) xs,(inB ix ρ)[i]?≠some (some (.own xs)):=by
 intro j xs e
 obtain⟨_,_,_,_,q3⟩:=nU e
 cases q3
theorem HP {α:Type} {o:Option α} {a:α} (h:rO o=.ok a):o=some a:=by
 cases o with
 | none=>cases h
 | some b=>cases h; rfl

end TG
namespace TG
open PySem PySem.Spec L2
variable [bc]

section
variable {X:Cx} {elt tg iter:Qy} {ifs:List Qy} {scope:Qv} {pos:Pos} {N:List Str} {ix:List (Option Nat)} {G:av->R (List D)} {g:GF} {C:av->R Bool} {Fe:FX}
structure wK (ix:List (Option Nat)) (g:GF):Prop where
 fill:∀ ρ,Fills (inB ix ρ) g
 own:∀ ρ d ρ1,g d (inB ix ρ)=some ρ1->∀ (i:Nat) xs,ρ1[i]?≠some (some (.own xs))
theorem vR {ρ:av} {i:Nat} (h:ix[i]?=some none):∀ x,(inB ix ρ)[i]?≠some (some x):=fun x e=>by
 obtain⟨_,_,q,_⟩:=nU e
 rw [h] at q; cases q
theorem cP {i:Nat} (h:ix[i]?=some none):wK ix (gN i) :=
  ⟨fun ρ d ρ1 e j x q=>by
    cases e
    by_cases z:j=i
    · subst z; exact absurd q (vR h x)
    · unfold setV; rw [MM (Ne.symm z)]; exact q,
   fun ρ d ρ1 e j xs q=>by
    cases e
    rcases cc q with ⟨_,z⟩ | ⟨_,z⟩
    · cases z
    · exact sK ix ρ j xs z⟩
def Ei (ix:List (Option Nat)) (is:List Nat):Bool:=is.all fun i=>match ix[i]? with
 | some none=>true
 | _=>false
def e7:List Nat->Bb
 | []=>Ck
 | i::is=>yt (gN i) (e7 is)
theorem zo:∀ (is:List Nat) (ds:List D) (ρ ρ1:av),e7 is ds ρ=some ρ1->∀ (k:Nat) (x:S),ρ1[k]?=some (some x)->(k∈is/\∃ d,x=.val d)\/ρ[k]?=some (some x)
 | [],ds,ρ,ρ1,h,k,x,e=>by
  cases ds with
  | nil=>cases h; exact .inr e
  | cons _ _=>cases h
 | i::is,ds,ρ,ρ1,h,k,x,e=>by
  cases ds with
  | nil=>cases h
  | cons d ds =>
   rcases zo is ds (setV i d ρ) ρ1 h k x e with ⟨a,b⟩ | q
   ·exact .inl ⟨MJ _ a,b⟩
   ·rcases cc q with ⟨z,w⟩ | ⟨_,w⟩
    ·exact .inl ⟨by rw [z]; exact MI,d,Option.some.inj w⟩
    ·exact .inr w
theorem vE:∀ (is:List Nat) (ds:List D) (ρ ρ1:av),e7 is ds ρ=some ρ1->∀ (k:Nat) (x:S),k∉is->ρ[k]?=some (some x)->ρ1[k]?=some (some x)
 | [],ds,ρ,ρ1,h,k,x,_,e=>by
  cases ds with
  | nil=>cases h; exact e
  | cons _ _=>cases h
 | i::is,ds,ρ,ρ1,h,k,x,n,e=>by
  cases ds with
  | nil=>cases h
  | cons d ds =>
   refine vE is ds (setV i d ρ) ρ1 h k x (fun z=>n (MJ _ z)) ?_
   unfold setV
   rw [MM (fun z=>n (by rw [z]; exact MI))]; exact e
theorem cz {is:List Nat} {n:Nat} (h:Ei ix is=true):wK ix (gT n (e7 is)):=by
 have hn:∀ i∈is,ix[i]?=some none:=fun i hi=>by
  have:=List.all_eq_true.mp h i hi
  cases e:ix[i]? with
  | none=>rw [e] at this; cases this
  | some o=>cases o with
   | none=>rfl
   | some _=>rw [e] at this; cases this
 have shape:∀ ρ d ρ1,gT n (e7 is) d ρ=some ρ1->∃ ds,e7 is ds ρ=some ρ1:=fun ρ d ρ1 e=>by
  cases d with
  | tup xs =>
   have e':(if xs.length=n then e7 is xs ρ else none)=some ρ1:=e
   by_cases hl:xs.length=n
   ·rw [if_pos hl] at e'; exact⟨xs,e'⟩
   ·rw [if_neg hl] at e'; cases e'
  | _=>cases e
 refine⟨fun ρ d ρ1 e k x q=>?_,fun ρ d ρ1 e k xs q=>?_⟩
 ·obtain⟨ds,e⟩:=shape _ d ρ1 e
  exact vE is ds _ ρ1 e k x (fun z=>vR (hn k z) x q) q
 ·obtain⟨ds,e⟩:=shape _ d ρ1 e
  rcases zo is ds _ ρ1 e k _ q with ⟨_,d,z⟩ | z
  ·cases z
  ·exact sK ix ρ k xs z
structure nO (X:Cx) (scope:Qv) (N:List Str) (ix:List (Option Nat)):Prop where
 cell:∀ y∈scope.names,y.2≠.cell
 kind:scope.kind=.function
 names:∀ y∈scope.names,y.2=.local->scope.names.lookup y.1=some .local
 free:∀ y∈scope.names,y.2=.free->X.env.scope.names.lookup y.1=some .cell\/X.env.scope.names.lookup y.1=some .free
 ix:uB X.N N scope.names ix=true
def yA (XS:List (Str×Q3)) (XN:List Str) (scope:Qv) (N:List Str) (ix:List (Option Nat)):Bool :=
 scope.names.all (fun y=>decide (y.2≠.cell)) && decide (scope.kind=.function) && scope.names.all (fun y=>decide (y.2≠.local) || decide (scope.names.lookup y.1=some .local)) &&
  scope.names.all (fun y=>decide (y.2≠.free) || (decide (XS.lookup y.1=some .cell) || decide (XS.lookup y.1=some .free))) && uB XN N scope.names ix
theorem nO.of (h:yA X.env.scope.names X.N scope N ix=true):nO X scope N ix:=by
 unfold yA at h
 simp only [Nc] at h
 obtain⟨⟨⟨⟨h1,h2⟩,h3⟩,h4⟩,h5⟩:=h
 refine⟨fun y hy=>of_decide_eq_true (List.all_eq_true.mp h1 y hy),of_decide_eq_true h2,fun y hy e=>?_,fun y hy e=>?_,h5⟩
 ·rcases NN _ _ ▸ List.all_eq_true.mp h3 y hy with q | q
  ·exact absurd e (of_decide_eq_true q)
  ·exact of_decide_eq_true q
 ·rcases NN _ _ ▸ List.all_eq_true.mp h4 y hy with q | q
  ·exact absurd e (of_decide_eq_true q)
  ·rcases NN _ _ ▸ q with q | q
   ·exact .inl (of_decide_eq_true q)
   ·exact .inr (of_decide_eq_true q)
def JN (X:Cx) (scope:Qv) (N:List Str) (tg elt:Qy) (ifs:List Qy) (g:GF) (C:av->R Bool) (Fe:FX):Prop :=
 ∀ cl C' fp s H E,FG (cB X scope N cl C' fp s H E) tg g/\Jh (cB X scope N cl C' fp s H E) ifs C/\FE (cB X scope N cl C' fp s H E) elt Fe
def Gf (K:O2) (F:av->R Bool):TT:=fun σ H Q=>∃ O ρ b,dM K O H ρ σ/\F ρ=.ok b/\∀ H',bH H H'->Q b H'
def K7 (K:O2) (F:FX):TE:=fun σ H Q=>∃ O ρ d,dM K O H ρ σ/\F ρ=.ok d/\∀ v H',bH H H'->cA K (hid H' O) d v->Q v H'
theorem JN.k (hb:JN X scope N tg elt ifs g C Fe):∀ cl C' fp s H E,PG (cB X scope N cl C' fp s H E) tg (Jk X.K g)/\FV (cB X scope N cl C' fp s H E) ifs (Gf X.K C)/\PE (cB X scope N cl C' fp s H E) elt (K7 X.K Fe):=fun cl C' fp s H E=>by
 obtain⟨h1,h2,h3⟩:=hb cl C' fp s H E
 refine⟨h1,fun pins s σ H Q I ⟨O,ρ,b,e1,e2,q⟩=>h2 pins s σ H Q I ⟨O,ρ,e1,by rw [e2]; exact q⟩,fun pins s σ H Q I ⟨O,ρ,d,e1,e2,q⟩=>h3 pins s σ H Q I ⟨O,ρ,e1,by rw [e2]; exact q⟩⟩
def L7 (X:Cx) (F:FX):TE:=fun σ H Q=>∃ O ρ,dM X.K O H ρ σ/\hV X σ O H (F ρ) fun d=>∀ D H' total acc,d=.lst total->bH H H'->H D=none->H' D=some (.lst acc)->bp X.K (hid H' (D::O)) total acc->Q (.ref D) H'
theorem Kl {F:FX}:∀ σ H Q,tF X F σ H Q->L7 X F σ H Q:=fun σ H Q ⟨O,ρ,E,hF⟩=>⟨O,ρ,E,hF.imp fun d q D H' total acc e sm hD hD' dn=>by
 subst e
 have DO:D∉O:=E.all.not hD
 exact q _ H' sm (cq.mpr ⟨D,acc,rfl,mG.of (by rw [li DO]; exact hD'),dn.mono (kZ fun a ha=>MJ _ ha)⟩)⟩
theorem Im (tk:wK ix g):∀ σ H Q,L7 X (iW ix G g C Fe) σ H Q->JD (Kb X G) (Jk X.K g) (Gf X.K C) (K7 X.K Fe) ix σ H Q:=fun σ H Q ⟨O,ρ,E,hF⟩=>by
 refine⟨O,ρ,E,(hV.bind hF).imp fun ds hF=>?_⟩
 have hz:small ds.length=true:=by
  cases e:small ds.length with
  | true=>rfl
  | false=>rw [e] at hF; exact hF.elim
 rw [hz,if_pos rfl] at hF
 cases hL:Bc (inB ix ρ) g C Fe ds with
 | error z=>rw [hL] at hF; exact hF.elim
 | ok total =>
 rw [hL] at hF
 have q:∀ D H' total' acc,TG.D.lst total=.lst total'->bH H H'->H D=none->H' D=some (.lst acc)->bp X.K (hid H' (D::O)) total' acc->Q (.ref D) H':=hF
 have e2:=hL
 have hfill:=tk.fill
 have hown:=tk.own
 refine fun J H1 s1 wk D hD=>?_
 have E1:dM X.K (D::O) (upd H1 D (.lst [])) (inB ix ρ) (inBlock ix σ):=((DC ix E).same s1).hideNew trivial hD
 have DO:D∉O:=(E.all.same s1).not hD
 refine⟨fun i m σ' H'=>m=ds.length - i/\i<=ds.length/\bH H1 H'/\dM X.K (D::O) H' (inB ix ρ) σ'/\∃ acc dn rest,H' D=some (.lst acc)/\acc.length<=i/\bp X.K (hid H' (D::O)) dn acc/\Bc (inB ix ρ) g C Fe (ds.drop i)=.ok rest/\dn++rest=total,
  ⟨ds.length,by rw [NV],MY _,cv hD _,E1,[],[],total,bJ,MO _,cF.mpr rfl,by rw [NB]; exact e2,rfl⟩,?_⟩
 rintro i m σ' H' ⟨rfl,hi,sm,E',acc,dn,rest,hacc,hlen,hdn,hrest,htot⟩
 have sH:bH (hid H1 O) (hid H' (D::O)):=fun b o h=>by
  have h2:=sm b o (aO H1 O b o h)
  unfold hid at h ⊢
  by_cases hb:b∈O
  ·rw [if_pos hb] at h; cases h
  ·rw [if_neg hb] at h
   have ne:b≠D:=bM h hD
   rw [if_neg (by intro z; rcases List.mem_cons.mp z with z | z; exact ne z; exact hb z)]; exact h2
 by_cases hlt:i < ds.length
 ·right
  obtain⟨go,yl⟩:=(wk H' (D::O) i E'.all sH).1 ds[i] (by simp [hlt])
  refine⟨go,fun x H2 y=>?_⟩
  obtain⟨s2,dx'⟩:=yl x H2 y
  have E':=E'.same s2
  have sm:=sm.trans s2
  have hacc:=s2 _ _ hacc
  have hdn:=hdn.mono (cE s2)
  rw [NX hlt,rN] at hrest
  obtain⟨ρ1,g1,hrest⟩:=qo hrest
  have g1:=HP g1
  obtain⟨c,c1,hrest⟩:=qo hrest
  have c1:=CB c1
  refine⟨D::O,inB ix ρ,ds[i],ρ1,E',dx',g1,fun σ3 E3 _=>?_⟩
  refine⟨D::O,ρ1,c,E3,c1,fun H4 s4=>?_⟩
  have E4:=E3.same s4
  have back:∀ {H5:Hp},dM X.K (D::O) H5 ρ1 σ3->dM X.K (D::O) H5 (inB ix ρ) σ3:=fun z=>z.forget fun j x e=>hfill ρ _ _ g1 j x e
  cases c with
  | true =>
   refine C4 ?_
   rw [if_pos rfl] at hrest
   obtain⟨v,v1,hrest⟩:=qo hrest
   have v1:=CB v1
   obtain⟨r,r1,hrest⟩:=qo hrest
   cases hrest
   refine⟨D::O,ρ1,v,E4,v1,fun w H5 s5 dw=>?_⟩
   have s45:=s4.trans s5
   have ha5:H5 D=some (.lst acc):=s45 _ _ hacc
   have hzl:ds.length < Qq:=NY (of_decide_eq_true hz) (by decide)
   refine⟨acc,ha5,by omega,ds.length - (i+1),by omega,rfl,hlt,?_,?_,acc++[w],dn++[v],r,bJ,by rw [M8,Nh]; omega,?_,r1,by rw [NZ]; exact htot⟩
   ·intro b o h
    rw [bg (bM h hD)]; exact s45 _ _ (sm _ _ h)
   ·exact back ((E3.same s45).rewrite trivial MI fun j xs e=>absurd e (hown ρ _ _ g1 j xs))
   ·have s6:bH (hid H5 (D::O)) (hid (upd H5 D (.lst (acc++[w]))) (D::O)):=oa MI
    exact(hdn.mono ((cE s45).trans s6)).snoc (dw.mono s6)
  | false =>
   refine Bm ?_
   rw [if_neg MS] at hrest
   exact⟨ds.length - (i+1),by omega,rfl,hlt,sm.trans s4,back E4,acc,dn,rest,s4 _ _ hacc,by omega,hdn.mono (cE s4),hrest,htot⟩
 ·left
  have ei:i=ds.length:=by omega
  subst ei
  refine⟨(wk H' (D::O) ds.length E'.all sH).2 rfl,?_⟩
  rw [List.drop_length] at hrest
  cases hrest
  rw [MZ] at htot
  subst htot
  exact q D H' _ acc rfl (s1.trans sm) (s1.free hD) hacc hdn
theorem EV (tk:wK ix g):∀ σ H Q,tF X (iW ix G g C Fe) σ H Q->JD (Kb X G) (Jk X.K g) (Gf X.K C) (K7 X.K Fe) ix σ H Q:=fun σ H Q h=>Im tk σ H Q (Kl σ H Q h)
theorem LW (hc:X.calm=true) (ok:nO X scope N ix) (tk:wK ix g) (hi:FI X tg iter G) (hb:JN X scope N tg elt ifs g C Fe)
  (hs:∀ x,QJ iter X.env x=pure x:=by intro _; rfl):FE X (.ListComp elt [⟨tg,iter,ifs,0⟩] scope pos) (iW ix G g C Fe) :=
 PE.weak (II hc ok.cell ok.kind ok.names ok.free ok.ix hi hb.k hs) (EV tk)
end

structure Ks where
 nx:av->R D
 bk:av->R D:=fun _=>un
 ct:av->R D:=fun _=>un
 ex:Ex->av->R D:=fun x _=>.error (some x)
abbrev ca:=Ks->av->R D
def p9 {α:Type} (r:R α) (k:Ks) (ρ:av) (f:α->R D):R D:=match r with
 | .ok a=>f a
 | .error (some x)=>k.ex x ρ
 | .error none=>un
structure Base (Hb:Hp) (Ob:List Qo) (H:Hp) (O:List Qo):Prop where
 same:bH Hb H
 sub:∀ a∈Ob,a∈O
 new:∀ a∈O,a∈Ob\/Hb a=none
structure fA (K:O2) (Hb:Hp) (Ob O:List Qo) (H:Hp) (ρ:av) (σ:St):Prop where
 env:dM K O H ρ σ
 base:Base Hb Ob H O
 mine:∀ (i:Nat) xs a,ρ[i]?=some (some (.own xs))->σ[i]?=some (some (.ref a))->Hb a=none/\a∉Ob
theorem Base.same' {Hb:Hp} {Ob:List Qo} {H H':Hp} {O:List Qo} (b:Base Hb Ob H O) (s:bH H H'):Base Hb Ob H' O:=⟨b.same.trans s,b.sub,b.new⟩
theorem fA.same {K:O2} {Hb:Hp} {Ob O:List Qo} {H H':Hp} {ρ:av} {σ:St} (h:fA K Hb Ob O H ρ σ) (s:bH H H'):fA K Hb Ob O H' ρ σ:=⟨h.env.same s,h.base.same' s,h.mine⟩
structure Jp (X:Cx) (Hb:Hp) (Ob:List Qo) (E:Ends) (k:Ks) (r:R D):Prop where
 ne:r≠un
 nx:∀ O ρ σ H,fA X.K Hb Ob O H ρ σ->k.nx ρ=r->E.nx σ H
 bk:∀ O ρ σ H,fA X.K Hb Ob O H ρ σ->k.bk ρ=r->E.bk σ H
 ct:∀ O ρ σ H,fA X.K Hb Ob O H ρ σ->k.ct ρ=r->E.ct σ H
 rt:∀ d O v H,r=.ok d->Base Hb Ob H O->cA X.K (hid H O) d v->E.rt v H
 ex:∀ O ρ σ H x,fA X.K Hb Ob O H ρ σ->k.ex x ρ=r->GA X σ O H x
def Ls (X:Cx) (Hb:Hp) (Ob:List Qo) (F:ca):TS:=fun E σ H=>∃ O ρ k r,fA X.K Hb Ob O H ρ σ/\F k ρ=r/\Jp X Hb Ob E k r
def FS (X:Cx) (st:QA) (F:ca):Prop:=∀ Hb Ob,PS X st (Ls X Hb Ob F)
def xf (X:Cx) (st:List QA) (F:ca):Prop:=∀ Hb Ob,vC X st (Ls X Hb Ob F)
theorem hV.on {X:Cx} {Hb:Hp} {Ob O:List Qo} {H:Hp} {ρ:av} {σ:St} {E:Ends} {k:Ks} {r:R D} {α:Type} {fr:R α} {G:α->R D} {Q:α->Prop} (h:p9 fr k ρ G=r) (hk:Jp X Hb Ob E k r) (S:fA X.K Hb Ob O H ρ σ) (q:∀ a,G a=r->Q a):hV X σ O H fr Q:=by
 match fr,h with
 | .ok a,h=>exact q a h
 | .error (some x),h=>exact hk.ex O ρ σ H x S h
 | .error none,h=>exact absurd h.symm hk.ne
section
variable {X:Cx} {st:QA} {rest body:List QA} {pos:Pos}
def bI:ca:=fun k ρ=>k.nx ρ
def aE (F1 F2:ca):ca:=fun k ρ=>F1 { k with nx:=F2 k } ρ
theorem Jq:xf X [] bI:=fun Hb Ob=>vC.weak yT fun E σ H ⟨O,ρ,k,r,S,hF,hk⟩=>hk.nx O ρ σ H S hF
theorem Hu {F1 F2:ca} (h1:FS X st F1) (h2:xf X rest F2):xf X (st::rest) (aE F1 F2):=fun Hb Ob=>vC.weak (Bz (h1 Hb Ob) (h2 Hb Ob)) fun E σ H ⟨O,ρ,k,r,S,hF,hk⟩ =>
 ⟨O,ρ,{ k with nx:=F2 k },r,S,hF,hk.ne,fun O' ρ' σ' H' S' e=>⟨O',ρ',k,r,S',e,hk⟩,hk.bk,hk.ct,hk.rt,hk.ex⟩
theorem Jr {F1:ca} (h1:FS X st F1):xf X [st] F1:=fun Hb Ob=>yz (h1 Hb Ob)
def bT (f:FX):ca:=fun k ρ=>p9 (f ρ) k ρ .ok
theorem KJ {e:Qy} {f:FX} (h:FE X e f):FS X (.Return (some e) pos) (bT f):=fun Hb Ob=>PS.weak (FD h) fun E σ H ⟨O,ρ,k,r,S,hF,hk⟩ =>
 ⟨O,ρ,S.env,hV.on hF hk S fun d e v H' s' d'=>hk.rt d O v H' e.symm (S.base.same' s') d'⟩
def Hv:ca:=fun _ _=>.ok .non
def yy (f:FX):ca:=fun k ρ=>p9 (f ρ) k ρ fun _=>k.nx ρ
theorem Ju {e:Qy} {f:FX} (h:FE X e f) (hs:swapsWith e none pos.line X.env=pure false:=by rfl):FS X (.Expr e pos) (yy f):=fun Hb Ob=>PS.weak (uq h hs) fun E σ H ⟨O,ρ,k,r,S,hF,hk⟩ =>
 ⟨O,ρ,S.env,hV.on hF hk S fun d e v H' s' d'=>hk.nx O ρ σ H' (S.same s') e⟩
def eY (c:av->R Bool) (A B:ca):ca:=fun k ρ=>p9 (c ρ) k ρ fun b=>if b then A k ρ else B k ρ
theorem Mf {c:Qy} {a b:List QA} {tc:av->R Bool} {A B:ca} (hc:FT X c tc) (ha:xf X a A) (hb:xf X b B):FS X (.If c a b pos) (eY tc A B):=fun Hb Ob=>PS.weak (Hw hc (ha Hb Ob) (hb Hb Ob)) fun E σ H ⟨O,ρ,k,r,S,hF,hk⟩ =>
 ⟨O,ρ,S.env,hV.on hF hk S fun z e H1 s1=>by
  cases z with
  | true=>exact C4 ⟨O,ρ,k,r,S.same s1,e,hk⟩
  | false=>exact Bm ⟨O,ρ,k,r,S.same s1,e,hk⟩⟩
def bi (i:Nat) (f:FX):ca:=fun k ρ=>p9 (f ρ) k ρ fun d=>k.nx (setV i d ρ)
theorem fA.setV {K:O2} {Hb:Hp} {Ob O:List Qo} {H:Hp} {ρ:av} {σ:St} (E:fA K Hb Ob O H ρ σ) {i:Nat} {d:D} {v:V} (hi:i < σ.length) (hd:cA K (hid H O) d v):fA K Hb Ob O H (setV i d ρ) (σ.set i (some v)) :=
 ⟨E.env.setV hi hd,E.base,fun j xs a e1 e2=>by
  rcases cc e1 with ⟨_,q⟩ | ⟨ne,q⟩
  ·cases q
  ·rw [MM (Ne.symm ne)] at e2
   exact E.mine j xs a q e2⟩
theorem uc {f:FX} {i:Nat} (hi:i < X.N.length) (h:PS X st (Cv (tF X f) (tB i))):FS X st (bi i f):=fun Hb Ob pins s σ H E I ⟨O,ρ,k,r,S,hF,hk⟩ =>
 h pins s σ H E I ⟨O,ρ,S.env,hV.on hF hk S fun d e v H1 s1 d1=>hk.nx O _ _ H1 ((S.same s1).setV (by rw [I.len]; exact hi) d1) e⟩
theorem KY {i:Nat} {x:Str} {e:Qy} {f:FX} {pos':Pos} (hN:X.N.Nodup) (hi:X.N[i]?=some x) (hx:Loc X.env.scope x) (he:FE X e f) (hs:swapsWith e (some (.Name x pos')) pos.line X.env=pure false:=by rfl) (hf:X.fn x=true\/X.env.scope.names.lookup x=some .local:=by first | exact .inl rfl | exact .inr rfl | assumption) :
  FS X (.Assign [.Name x pos'] e pos) (bi i f):=uc (List.getElem?_eq_some_iff.mp hi).1 (BO hN hi hx he hs hf)
theorem Mi {elt tg iter:Qy} {ifs:List Qy} {scope:Qv} {N:List Str} {ix:List (Option Nat)} {G:av->R (List D)} {g:GF} {C:av->R Bool} {Fe:FX} {i:Nat} {y:Str} {lpos py spos:Pos} (hN:X.N.Nodup) (hi':X.N[i]?=some y) (hx:Loc X.env.scope y)
  (hc:X.calm=true) (ok:nO X scope N ix) (tk:wK ix g) (hi:FI X tg iter G) (hb:JN X scope N tg elt ifs g C Fe)
  (hsw:swapsWith (.ListComp elt [⟨tg,iter,ifs,0⟩] scope lpos) (some (.Name y py)) spos.line X.env=pure true:=by rfl)
  (hs:∀ x,QJ iter X.env x=pure x:=by intro _; rfl)
  (hf:X.fn y=true\/X.env.scope.names.lookup y=some .local:=by first | exact .inl rfl | exact .inr rfl | assumption) :
  FS X (.Assign [.Name y py] (.ListComp elt [⟨tg,iter,ifs,0⟩] scope lpos) spos) (bi i (iW ix G g C Fe)) :=
 uc (List.getElem?_eq_some_iff.mp hi').1 (PS.weak (IT hN hi' hx hc ok.cell ok.kind ok.names ok.free ok.ix hi hb.k hsw hs hf) fun E σ H q=>EV tk σ H _ q)
def D8 (f:FX) (g:GF):ca:=fun k ρ=>p9 (f ρ) k ρ fun d=>(rO (g d ρ)).bind k.nx
theorem KH {tg e:Qy} {f:FX} {g:GF} (he:FE X e f) (hg:FG X tg g) (hs:swapsWithSole [tg] e pos.line X.env=pure false:=by rfl) (hw:swappedStores [tg] e X.env=pure none:=by rfl)
  (h1:(assignEach [tg] X.env).map (·.2)=[assign tg X.env]:=by rfl):FS X (.Assign [tg] e pos) (D8 f g):=fun Hb Ob=>PS.weak (Cz he hg hs hw h1) fun E σ H ⟨O,ρ,k,r,S,hF,hk⟩ =>
 ⟨O,ρ,S.env,hV.on hF hk S fun d e v H1 s1 d1=>by
  cases hg:g d ρ with
  | none=>rw [hg] at e; exact absurd e.symm hk.ne
  | some ρ1 =>
   rw [hg] at e
   refine⟨O,ρ,d,ρ1,(S.same s1).env,d1,hg,fun σ' E' own=>hk.nx O ρ1 σ' H1 ⟨E',S.base.same' s1,fun i xs a q1 q2=>?_⟩ e⟩
   obtain⟨w1,w2⟩:=own i xs q1
   rw [w1] at q2
   exact S.mine i xs a w2 q2⟩
def kill (is:List Nat) (ρ:av):av:=is.foldl (fun ρ i=>ρ.set i none) ρ
theorem qA:∀ (is:List Nat) (ρ:av) (i:Nat) (x:S),(kill is ρ)[i]?=some (some x)->ρ[i]?=some (some x)
 | [],ρ,i,x,e=>e
 | j::is,ρ,i,x,e=>by
  rcases cc (qA is (ρ.set j none) i x e) with ⟨_,q⟩ | ⟨_,q⟩
  ·cases q
  ·exact q
theorem fA.kill {K:O2} {Hb:Hp} {Ob O:List Qo} {H:Hp} {ρ:av} {σ:St} (E:fA K Hb Ob O H ρ σ) (is:List Nat):fA K Hb Ob O H (kill is ρ) σ :=
 ⟨E.env.forget (qA is ρ),E.base,fun i xs a e1 e2=>E.mine i xs a (qA is ρ i _ e1) e2⟩
def cI (is:List Nat) (F:ca):ca:=fun k ρ=>F k (kill is ρ)
theorem Io {st:List QA} {F:ca} (is:List Nat) (h:xf X st F):xf X st (cI is F):=fun Hb Ob=>vC.weak (h Hb Ob) fun E σ H ⟨O,ρ,k,r,S,hF,hk⟩=>⟨O,TG.kill is ρ,k,r,S.kill is,hF,hk⟩
end
def eZ (g:GF) (B:ca) (k:Ks):List D->av->R D
 | [],ρ=>k.nx ρ
 | d::ds,ρ=>(rO (g d ρ)).bind fun ρ1=>B ⟨eZ g B k ds,k.nx,eZ g B k ds,k.ex⟩ ρ1
def jj (G:av->R (List D)) (g:GF) (B:ca):ca:=fun k ρ=>p9 (G ρ) k ρ fun ds=>eZ g B k ds ρ
def lb (H:Hp) (O Ob:List Qo):Hp:=fun b=>if b∈O/\b∉Ob then none else H b
theorem zi {H:Hp} {O Ob:List Qo} {b:Qo} (h1:b∈O) (h2:b∉Ob):lb H O Ob b=none:=by unfold lb; rw [if_pos ⟨h1,h2⟩]
theorem Ek {H:Hp} {O Ob:List Qo} {b:Qo} {o:HO} (h:lb H O Ob b=some o):H b=some o/\¬ (b∈O/\b∉Ob):=by
 unfold lb at h
 split at h
 ·cases h
 ·rename_i n; exact⟨h,n⟩
theorem CT {H:Hp} {O Ob:List Qo} {b:Qo} {o:HO} (h:H b=some o) (n:¬ (b∈O/\b∉Ob)):lb H O Ob b=some o:=by unfold lb; rw [if_neg n]; exact h
theorem Base.loop {Hb:Hp} {Ob:List Qo} {H:Hp} {O:List Qo} (b:Base Hb Ob H O):Base (lb H O Ob) Ob H O :=
 ⟨fun c o h=>(Ek h).1,b.sub,fun a ha=>by
  by_cases h:a∈Ob
  ·exact .inl h
  ·exact .inr (zi ha h)⟩
theorem Base.back {Hb:Hp} {Ob:List Qo} {H H':Hp} {O O':List Qo} (b:Base Hb Ob H O) (b':Base (lb H O Ob) Ob H' O'):Base Hb Ob H' O':=by
 have up:bH Hb (lb H O Ob):=fun c o h=>CT (b.same c o h) fun ⟨z1,z2⟩=>by
  rcases b.new c z1 with z | z
  ·exact z2 z
  ·rw [z] at h; cases h
 exact⟨up.trans b'.same,b'.sub,fun a ha=>(b'.new a ha).imp id up.free⟩
theorem fA.loop {K:O2} {Hb:Hp} {Ob O:List Qo} {H:Hp} {ρ:av} {σ:St} (E:fA K Hb Ob O H ρ σ):fA K (lb H O Ob) Ob O H ρ σ :=
 ⟨E.env,E.base.loop,fun i xs a e1 e2=>by
  obtain⟨_,n⟩:=E.mine i xs a e1 e2
  obtain⟨a',e3,e4,_⟩:=E.env.own i xs e1
  rw [e2] at e3; cases e3
  exact⟨zi e4 n,n⟩⟩
theorem fA.back {K:O2} {Hb:Hp} {Ob O O':List Qo} {H H':Hp} {ρ':av} {σ':St} (b:Base Hb Ob H O) (E:fA K (lb H O Ob) Ob O' H' ρ' σ'):fA K Hb Ob O' H' ρ' σ' :=
 ⟨E.env,b.back E.base,fun i xs a e1 e2=>by
  obtain⟨z,n⟩:=E.mine i xs a e1 e2
  refine⟨?_,n⟩
  have up:bH Hb (lb H O Ob):=fun c o h=>CT (b.same c o h) fun ⟨z1,z2⟩=>by
   rcases b.new c z1 with z | z
   ·exact z2 z
   ·rw [z] at h; cases h
  exact up.free z⟩
theorem Dc {Hb:Hp} {Ob O O':List Qo} {H H':Hp} (b:Base Hb Ob H O) (b':Base (lb H O Ob) Ob H' O'):bH (hid H O) (hid H' O'):=fun c o h=>by
 unfold hid at h ⊢
 by_cases hc:c∈O
 ·rw [if_pos hc] at h; cases h
 ·rw [if_neg hc] at h
  have h1:lb H O Ob c=some o:=CT h fun z=>hc z.1
  rw [if_neg]
  ·exact b'.same _ _ h1
  ·intro z
   rcases b'.new c z with z | z
   ·exact hc (b.sub c z)
   ·rw [h1] at z; cases z
theorem Jp.loop {X:Cx} {Hb:Hp} {Ob O:List Qo} {H:Hp} {E E':Ends} {k k':Ks} {r:R D} (hk:Jp X Hb Ob E k r) (b:Base Hb Ob H O) (hn:∀ O' ρ' σ' H',fA X.K (lb H O Ob) Ob O' H' ρ' σ'->k'.nx ρ'=r->E'.nx σ' H') (hc:∀ O' ρ' σ' H',fA X.K (lb H O Ob) Ob O' H' ρ' σ'->k'.ct ρ'=r->E'.ct σ' H')
    (eb:k'.bk=k.nx) (ee:k'.ex=k.ex) (Eb:E'.bk=E.nx) (Er:E'.rt=E.rt):Jp X (lb H O Ob) Ob E' k' r :=
  ⟨hk.ne,hn,fun O' ρ' σ' H' S e=>by rw [Eb]; exact hk.nx O' ρ' σ' H' (S.back b) (by rw [<- eb]; exact e),hc,fun d O' v H' e b' dv=>by rw [Er]; exact hk.rt d O' v H' e (b.back b') dv,
   fun O' ρ' σ' H' x S e=>hk.ex O' ρ' σ' H' x (S.back b) (by rw [<- ee]; exact e)⟩
section
variable {X:Cx} {st:QA} {rest body:List QA} {pos:Pos}
theorem KU {tg iter:Qy} {G:av->R (List D)} {g:GF} {B:ca} (hp:QI (model X.prog X.w) X.A X.env X.xe) (hc:X.calm=true) (hi:FI X tg iter G) (hg:FG X tg g) (hb:xf X body B)
  (hs:∀ x,QJ iter X.env x=pure x:=by intro _; rfl):FS X (.For tg iter body [] pos) (jj G g B):=fun Hb Ob pins s σ H E I ⟨O,ρ,k,r,S,hF,hk⟩=>by
 have hall:vC X body (fun E σ H=>∃ Hb',Ls X Hb' Ob B E σ H):=fun pins s σ H E I ⟨Hb',q⟩=>hb Hb' Ob pins s σ H E I q
 refine GJ hp hc hi hg hall hs pins s σ H E I ⟨O,ρ,S.env,hV.on hF hk S fun ds hF J H1 s1 wk=>?_⟩
 have E1:=S.same s1
 refine⟨fun i m σ H=>m=ds.length - i/\i<=ds.length/\∃ O' ρ',fA X.K (lb H1 O Ob) Ob O' H ρ' σ/\eZ g B k (ds.drop i) ρ'=r,
  ⟨ds.length,by rw [NV],MY _,O,ρ,E1.loop,by rw [NB]; exact hF⟩,?_⟩
 rintro i m σ' H' ⟨rfl,hi',O',ρ',E',hr⟩
 have sD:=Dc E1.base E'.base
 by_cases hlt:i < ds.length
 ·right
  obtain⟨go,yl⟩:=(wk H' O' i E'.env.all sD).1 ds[i] (by simp [hlt])
  refine⟨go,fun σ2 H2=>ds.length - (i+1)=ds.length - (i+1)/\i+1<=ds.length/\∃ O' ρ',fA X.K (lb H1 O Ob) Ob O' H2 ρ' σ2/\eZ g B k (ds.drop (i+1)) ρ'=r,fun σ2 H2 z=>⟨ds.length - (i+1),by omega,z⟩,fun x H2 y=>?_⟩
  obtain⟨s2,dx⟩:=yl x H2 y
  have E':=E'.same s2
  rw [NX hlt] at hr
  cases hg':g ds[i] ρ' with
  | none =>
   have hr':(rO (g ds[i] ρ')).bind (fun ρ1=>B ⟨eZ g B k (ds.drop (i+1)),k.nx,eZ g B k (ds.drop (i+1)),k.ex⟩ ρ1)=r:=hr
   rw [hg'] at hr'
   exact absurd hr'.symm hk.ne
  | some ρ1 =>
   have hr':(rO (g ds[i] ρ')).bind (fun ρ1=>B ⟨eZ g B k (ds.drop (i+1)),k.nx,eZ g B k (ds.drop (i+1)),k.ex⟩ ρ1)=r:=hr
   rw [hg'] at hr'
   refine⟨O',ρ',ds[i],ρ1,E'.env,dx,hg',fun σ3 E3 own=>?_⟩
   have E3':fA X.K (lb H1 O Ob) Ob O' H2 ρ1 σ3:=⟨E3,E'.base,fun j xs a q1 q2=>by
    obtain⟨w1,w2⟩:=own j xs q1
    rw [w1] at q2
    exact E'.mine j xs a w2 q2⟩
   exact⟨lb H1 O Ob,O',ρ1,⟨eZ g B k (ds.drop (i+1)),k.nx,eZ g B k (ds.drop (i+1)),k.ex⟩,r,E3',hr',hk.loop E1.base (fun O4 ρ4 σ4 H4 E4 z=>⟨rfl,hlt,O4,ρ4,E4,z⟩) (fun O4 ρ4 σ4 H4 E4 z=>⟨rfl,hlt,O4,ρ4,E4,z⟩) rfl rfl rfl rfl⟩
 ·left
  have ei:i=ds.length:=by omega
  subst ei
  refine⟨(wk H' O' ds.length E'.env.all sD).2 rfl,?_⟩
  rw [List.drop_length] at hr
  exact hk.nx O' ρ' σ' H' (E'.back E1.base) hr
end
end TG
namespace TG
open PySem PySem.Spec L2
variable [bc]

theorem fA.setO {K:O2} {Hb:Hp} {Ob O:List Qo} {H:Hp} {ρ:av} {σ:St} (E:fA K Hb Ob O H ρ σ) {i:Nat} {d d':D} {a:Qo} {o:HO} (hi:ρ[i]?=some (some (.own d))) (ha:σ[i]?=some (some (.ref a))) (m:su o) (new:jX K (upd H a o) O a d') :
  fA K Hb Ob O (upd H a o) (ρ.set i (some (.own d'))) σ:=by
 obtain⟨a',ha',haO,hat⟩:=E.env.own i d hi
 rw [ha] at ha'; cases ha'
 obtain⟨m1,m2⟩:=E.mine i d a hi ha
 have s:bH (hid H O) (hid (upd H a o) O):=oa haO
 have own:∀ (j:Nat) ys,(ρ.set i (some (.own d')))[j]?=some (some (.own ys))->∃ ys',ρ[j]?=some (some (.own ys')):=fun j ys q=>by
  rcases cc q with ⟨hj,_⟩ | ⟨_,q⟩
  ·rw [hj]; exact⟨d,hi⟩
  ·exact⟨ys,q⟩
 refine⟨⟨fun j d1 e=>?_,fun j ys e=>?_,fun j l ys zs b q1 q2 q3 q4=>?_,E.env.all.upd haO m⟩,⟨fun b u h=>?_,E.base.sub,E.base.new⟩,fun j ys b q1 q2=>?_⟩
 ·rcases cc e with ⟨_,q⟩ | ⟨ne,q⟩
  ·cases q
  ·obtain⟨w,q1,q2⟩:=E.env.val j d1 q
   exact⟨w,q1,q2.mono s⟩
 ·rcases cc e with ⟨hj,q⟩ | ⟨ne,q⟩
  ·cases q
   rw [hj]
   exact⟨a,ha,haO,new⟩
  ·obtain⟨b,q1,q2,q3⟩:=E.env.own j ys q
   have nb:b≠a:=fun z=>ne (E.env.one j i ys d a q hi (by rw [<- z]; exact q1) ha)
   exact⟨b,q1,q2,q3.mono (by rw [bg nb]) s⟩
 ·obtain⟨_,q1'⟩:=own j ys q1
  obtain⟨_,q2'⟩:=own l zs q2
  exact E.env.one j l _ _ b q1' q2' q3 q4
 ·have nb:b≠a:=fun z=>by rw [z,m1] at h; cases h
  rw [bg nb]; exact E.base.same b u h
 ·obtain⟨ys',q⟩:=own j ys q1
  exact E.mine j ys' b q q2
theorem fA.setNew {K:O2} {Hb:Hp} {Ob O:List Qo} {H H':Hp} {ρ:av} {σ:St} (E:fA K Hb Ob O H ρ σ) {i:Nat} {d:D} {p:Qo} (hi:i < σ.length) (sm:bH H H') (hp:H p=none) (m:∃ o,H' p=some o/\su o) (new:jX K H' (p::O) p d) :
  fA K Hb Ob (p::O) H' (ρ.set i (some (.own d))) (σ.set i (some (.ref p))):=by
 have hpO:p∉O:=E.env.all.not hp
 have s:bH (hid H O) (hid H' (p::O)):=fun b o h=>by
  unfold hid at h ⊢
  by_cases hb:b∈O
  ·rw [if_pos hb] at h; cases h
  ·rw [if_neg hb] at h
   have ne:=bM h hp
   rw [if_neg (by intro z; rcases List.mem_cons.mp z with z | z; exact ne z; exact hb z)]; exact sm _ _ h
 have other:∀ (j:Nat) xs,ρ[j]?=some (some (.own xs))->σ[j]?≠some (some (.ref p)):=fun j xs e z=>by
  obtain⟨a,e1,e2,e3⟩:=E.env.own j xs e
  rw [z] at e1; cases e1
  obtain⟨o,e3⟩:=e3.some
  rw [hp] at e3; cases e3
 refine⟨⟨fun j d' e=>?_,fun j xs e=>?_,fun j k xs ys a e1 e2 e3 e4=>?_,⟨(E.env.all.same sm).1,fun a ha=>?_⟩⟩,⟨E.base.same.trans sm,fun a ha=>MJ _ (E.base.sub a ha),fun a ha=>?_⟩,fun j xs a e1 e2=>?_⟩
 ·rcases cc e with ⟨_,q⟩ | ⟨ne,q⟩
  ·cases q
  ·obtain⟨v,q1,q2⟩:=E.env.val j d' q
   exact⟨v,by rw [MM (Ne.symm ne)]; exact q1,q2.mono s⟩
 ·rcases cc e with ⟨hj,q⟩ | ⟨ne,q⟩
  ·cases q
   rw [hj]
   exact⟨p,ML hi,MI,new⟩
  ·obtain⟨a,q1,q2,q3⟩:=E.env.own j xs q
   obtain⟨o,ho⟩:=q3.some
   exact⟨a,by rw [MM (Ne.symm ne)]; exact q1,MJ _ q2,q3.mono (uA sm ho) s⟩
 ·rcases cc e1 with ⟨hj,q1⟩ | ⟨nj,q1⟩
  ·rcases cc e2 with ⟨hk,q2⟩ | ⟨nk,q2⟩
   ·exact hj.trans hk.symm
   ·rw [hj,ML hi] at e3
    cases e3
    rw [MM (Ne.symm nk)] at e4
    exact absurd e4 (other k ys q2)
  ·rcases cc e2 with ⟨hk,q2⟩ | ⟨nk,q2⟩
   ·rw [hk,ML hi] at e4
    cases e4
    rw [MM (Ne.symm nj)] at e3
    exact absurd e3 (other j xs q1)
   ·rw [MM (Ne.symm nj)] at e3
    rw [MM (Ne.symm nk)] at e4
    exact E.env.one j k xs ys a q1 q2 e3 e4
 ·rcases List.mem_cons.mp ha with rfl | ha
  ·exact m
  ·exact(E.env.all.same sm).2 a ha
 ·rcases List.mem_cons.mp ha with rfl | ha
  ·exact .inr (E.base.same.free hp)
  ·exact E.base.new a ha
 ·rcases cc e1 with ⟨hj,q1⟩ | ⟨nj,q1⟩
  ·rw [hj,ML hi] at e2
   cases e2
   exact⟨E.base.same.free hp,fun z=>hpO (E.base.sub p z)⟩
  ·rw [MM (Ne.symm nj)] at e2
   exact E.mine j xs a q1 e2
def Mg (X:Cx) (F:FX):TE:=fun σ H Q=>∃ O ρ,dM X.K O H ρ σ/\hV X σ O H (F ρ) fun d=>∀ p H',bH H H'->H p=none->(∃ o,H' p=some o/\su o)->jX X.K H' (p::O) p d->Q (.ref p) H'
def FN (X:Cx) (e:Qy) (F:FX):Prop:=PE X e (Mg X F)
section
variable {X:Cx} {pos:Pos}
theorem jc {K:O2} {H:Hp} {O:List Qo} {p:Qo} {ds:List D} {vs:List V} (hp:H p=none) (d:bp K (hid H O) ds vs):jX K (upd H p (.lst vs)) (p::O) p (.lst ds):=⟨_,vs,bJ,rfl,d.mono (vX hp)⟩
theorem KR {es:List Qy} {g:av->R (List D)} (h:FA X es g):FN X (.List es pos) (dN g) :=
 PE.weak (CK h) fun σ H Q ⟨O,ρ,E,hF⟩=>⟨O,ρ,E,(hV.bind hF).imp fun xs hF vs H1 s1 d1=>by
  obtain⟨d,e,q⟩:=hV.rO hF
  obtain⟨hz,e⟩:=bP e
  subst e
  refine⟨by rw [<- d1.length]; exact dh hz,fun p hp=>?_⟩
  exact q p _ (s1.trans (cv hp _)) (s1.free hp) ⟨_,bJ,trivial⟩ (jc hp d1)⟩
theorem Jb {x:Str} {p:Pos} {e:Qy} {f:av->R (List D)} (hg:Gl X x) (hm:X.mg x=none) (hv:Qs x=some (.type "list")) (ha:FA X [e] f) (hn:x ≠ "__name__":=by decide) (hdb:(x==("__debug__":Str))=false:=by decide)
  (hns:noStar e=true:=by rfl):FN X (.Call (.Name x p) [e] [] pos) (fL pH f) :=
 PE.weak (sP (vo) hg hm hv ha hn hdb (cS hns) (dE rfl)) fun σ H Q ⟨O,ρ,E,hF⟩=>⟨O,ρ,E,(hV.bind hF).imp fun ds hF vs H1 s1 d1=>by
  obtain⟨d,hg,q⟩:=hV.rO hF
  unfold pH at hg
  split at hg
  ·rename_i ys
   cases hg
   obtain⟨v,ev,h1⟩:=d1.one
   rw [cq] at h1
   obtain⟨p,ws,ep,g1,g2⟩:=h1
   exact⟨p,ws,by rw [ev,ep],.inl ((aO H1 O).seq g1),fun l hl=>q l _ (s1.trans (cv hl _)) (s1.free hl) ⟨_,bJ,trivial⟩ (jc hl g2)⟩
  ·rename_i ys
   cases hg
   obtain⟨v,ev,h1⟩:=d1.one
   rw [cu] at h1
   obtain⟨p,ws,ep,g1,g2⟩:=h1
   exact⟨p,ws,by rw [ev,ep],.inr (cw (aO H1 O) g1),fun l hl=>q l _ (s1.trans (cv hl _)) (s1.free hl) ⟨_,bJ,trivial⟩ (jc hl g2)⟩
  ·cases hg⟩
def wy:FX:=fun _=>.ok (.dct [] [])
theorem Ho:FN X (.Dict [] [] pos) wy:=PE.weak BA fun σ H Q ⟨O,ρ,E,q⟩ p hp=>q p _ (cv hp _) hp ⟨_,bJ,trivial⟩ ⟨_,[],bJ,cF.mpr rfl,.inr ⟨[],rfl,rfl,rfl⟩⟩
def lm (i:Nat) (f:FX):ca:=fun k ρ=>p9 (f ρ) k ρ fun d=>k.nx (ρ.set i (some (.own d)))
theorem Ax {st:QA} {f:FX} {i:Nat} (hi:i < X.N.length) (h:PS X st (Cv (Mg X f) (tB i))):FS X st (lm i f):=fun Hb Ob pins s σ H E I ⟨O,ρ,k,r,S,hF,hk⟩ =>
 h pins s σ H E I ⟨O,ρ,S.env,hV.on hF hk S fun d e p H1 s1 hp m o=>hk.nx _ _ _ H1 (S.setNew (by rw [I.len]; exact hi) s1 hp m o) e⟩
theorem Kc {i:Nat} {x:Str} {e:Qy} {f:FX} {pos':Pos} (hN:X.N.Nodup) (hi:X.N[i]?=some x) (hx:Loc X.env.scope x) (he:FN X e f) (hs:swapsWith e (some (.Name x pos')) pos.line X.env=pure false:=by rfl) (hf:X.fn x=true\/X.env.scope.names.lookup x=some .local:=by first | exact .inl rfl | exact .inr rfl | assumption) :
  FS X (.Assign [.Name x pos'] e pos) (lm i f):=Ax (List.getElem?_eq_some_iff.mp hi).1 (BO hN hi hx he hs hf)
end
def uz (i:Nat) (u:List D->List D->Option (List D)) (f:av->R (List D)):ca:=fun k ρ=>match ρ[i]? with
 | some (some (.own (.lst xs)))=>p9 (f ρ) k ρ fun ds=>(rO (u xs ds)).bind fun ys=>k.nx (ρ.set i (some (.own (.lst ys))))
 | _=>un
def qH (K:O2) (r:V->List V->Hp->VK->Prop) (u:List D->List D->Option (List D)):Prop :=
 ∀ (H:Hp) (O:List Qo) (a:Qo) (xs ys as:List D) (ws vs:List V) (Q:VK),dD H O->a∈O->H a=some (.lst ws)->bp K (hid H O) xs ws->bp K (hid H O) as vs->u xs as=some ys->(∀ ws' v,bp K (hid H O) ys ws'->Q v (upd H a (.lst ws')))->r (.ref a) vs H Q
theorem kN {K:O2} {H:Hp} {O:List Qo} {a:Qo} {ys:List D} {ws:List V} (ha:a∈O) (h:bp K (hid H O) ys ws):jX K (upd H a (.lst ws)) O a (.lst ys):=⟨_,ws,bJ,rfl,h.mono (oa ha)⟩
theorem LX {X:Cx} {i:Nat} {x m:Str} {id:String} {r:V->List V->Hp->VK->Prop} {u:List D->List D->Option (List D)} {e:Qy} {es:List Qy} {f:av->R (List D)} {npos apos cpos pos:Pos} (slot:Slot "list" m id) (hty:typeOf (.builtin id)=pure (.type "method_descriptor")) (hm:GL X id r) (ok:qH X.K r u) (hx:PE X (.Name x npos) (qd i)) (he:FA X (e::es) f)
  (hbase:QS (.Name x npos) m X.env (eval (.Name x npos) X.env)=eval (.Name x npos) X.env:=by rfl)
  (hfew:((backTo cpos (Qz (e::es) X.env)).all (fun x=>!x.1) && (backToKw cpos (QU [] X.env)).all (fun x=>x.1.isSome)
   && decide ((e::es:List Qy).length+([]:List Q2).length+(if ([]:List Q2).isEmpty then 0 else 1) < 30))=true:=by rfl)
  (hline:(apos.endLine==cpos.line)=true:=by rfl) (hs:Qz (e::es) X.env=(false,eval e X.env)::Qz es X.env:=by rfl) (hplain:(backTo cpos (Qz es X.env)).any (·.1)=false:=by rfl)
  (hsw:swapsWith (.Call (.Attribute (.Name x npos) m apos) (e::es) [] cpos) none pos.line X.env=pure false:=by rfl) :
  FS X (.Expr (.Call (.Attribute (.Name x npos) m apos) (e::es) [] cpos) pos) (uz i u f):=fun Hb Ob pins s σ H E I ⟨O,ρ,k,rr,S,hF,hk⟩=>by
 unfold uz at hF
 split at hF
 ·rename_i xs hxs
  obtain⟨a,ha,haO,hat⟩:=S.env.own i _ hxs
  obtain⟨o,vs0,ho,eo,dn⟩:=hat
  subst eo
  refine uq (CO F.plainAttrs_list slot hty hm hx he hbase hfew hline hs hplain) hsw pins s σ H E I ⟨.ref a,ha,.inl ⟨rfl,vs0,mG.of ho⟩,O,ρ,S.env,hV.on hF hk S fun ds hr vs H1 s1 d1=>?_⟩
  have S1:=S.same s1
  cases hu1:u xs ds with
  | none=>rw [hu1] at hr; exact absurd hr.symm hk.ne
  | some ys =>
   rw [hu1] at hr
   exact ok H1 O a xs ys ds vs0 vs _ S1.env.all haO (s1 _ _ ho) (dn.mono (cE s1)) d1 hu1 fun ws' v new=>hk.nx O _ σ _ (S1.setO hxs ha trivial (kN haO new)) hr
 ·exact absurd hF.symm hk.ne
def jV (xs:List D) (ds:List D):Option (List D):=match ds with
 | [y]=>if small (xs.length+1) then some (xs++[y]) else none
 | _=>none
theorem fZ {K:O2}:qH K yG jV:=fun H O a xs ys as ws vs Q hO haO ha dx da hu q=>by
 unfold jV at hu
 split at hu
 ·rename_i y
  obtain⟨h1,h2⟩:=bP hu
  subst h2
  obtain⟨v,rfl,dv⟩:=da.one
  have:=dh h1
  rw [dx.length] at this
  exact⟨a,ws,v,rfl,rfl,ha,by omega,q _ _ (dx.snoc dv)⟩
 ·cases hu
def Mp (xs:List D) (ds:List D):Option (List D):=match ds with
 | [.int i,y]=>if decide (0<=i/\i<=xs.length) && small (xs.length+1) then some (xs.take i.toNat++y::xs.drop i.toNat) else none
 | _=>none
def iN (i:Nat) (fi fv:FX):ca:=fun k ρ=>match ρ[i]? with
 | some (some (.own (.lst xs)))=>p9 ((fv ρ).bind fun y=>(fi ρ).bind fun j=>.ok (y,j)) k ρ fun p=>match p.2 with
  | .int j=>match uy xs.length j with
   | some n=>k.nx (ρ.set i (some (.own (.lst (xs.set n p.1)))))
   | none=>un
  | _=>un
 | _=>un
theorem DL {X:Cx} {i:Nat} {x:Str} {idx value:Qy} {fi fv:FX} {npos tpos pos:Pos} (hx:PE X (.Name x npos) (qd i)) (hi:FE X idx fi) (hv:FE X value fv)
  (hs:swapsWithSole [.Subscript (.Name x npos) idx tpos] value pos.line X.env=pure false:=by rfl) (hw:swappedStores [.Subscript (.Name x npos) idx tpos] value X.env=pure none:=by rfl)
  (h1:(assignEach [.Subscript (.Name x npos) idx tpos] X.env).map (·.2)=[assign (.Subscript (.Name x npos) idx tpos) X.env]:=by rfl)
  (hg:PG X (.Subscript (.Name x npos) idx tpos) (L2.wQ (qd i) (tF X fi) E9)) :
  FS X (.Assign [.Subscript (.Name x npos) idx tpos] value pos) (iN i fi fv):=fun Hb Ob pins s σ H E I ⟨O,ρ,k,rr,S,hF,hk⟩=>by
 unfold iN at hF
 split at hF
 ·rename_i xs hxs
  obtain⟨a,ha,haO,hat⟩:=S.env.own i _ hxs
  obtain⟨o,vs0,ho,eo,dn⟩:=hat
  subst eo
  have hP:=hV.on hF hk S (Q:=fun p=>(match p.2 with | .int j=>(match uy xs.length j with | some n=>k.nx (ρ.set i (some (.own (.lst (xs.set n p.1))))) | none=>un) | _=>un)=rr) fun p e=>e
  refine Cz hv hg hs hw h1 pins s σ H E I ⟨O,ρ,S.env,(hV.bind hP).imp fun y hP v H1 s1 d1=>?_⟩
  have S1:=S.same s1
  refine⟨.ref a,ha,O,ρ,S1.env,((hV.bind hP).mono s1).imp fun j hP w H2 s2 d2=>?_⟩
  have S2:=S1.same s2
  cases j with
  | int j =>
   cases hn:uy xs.length j with
   | none =>
    have e:(match uy xs.length j with | some n=>k.nx (ρ.set i (some (.own (.lst (xs.set n y))))) | none=>un)=rr:=hP
    rw [hn] at e
    exact absurd e.symm hk.ne
   | some n =>
    have e:(match uy xs.length j with | some n=>k.nx (ρ.set i (some (.own (.lst (xs.set n y))))) | none=>un)=rr:=hP
    rw [hn] at e
    have s12:=s1.trans s2
    refine⟨a,vs0,j,n,rfl,eU.mp d2,s12 _ _ ho,by rw [<- dn.length]; exact hn,hk.nx O _ σ _ (S2.setO hxs ha trivial (kN haO ?_)) e⟩
    exact(dn.mono (cE s12)).set (d1.mono (cE s2)) n
  | _=>exact absurd (show un=rr from hP).symm hk.ne
 ·exact absurd hF.symm hk.ne
def frz (i:Nat) (ρ:av):av:=match ρ[i]? with
 | some (some (.own d))=>setV i d ρ
 | _=>ρ
theorem dM.frz {K:O2} {O:List Qo} {H:Hp} {ρ:av} {σ:St} (E:dM K O H ρ σ) (i:Nat):∃ O',dM K O' H (frz i ρ) σ/\(∀ b∈O',b∈O)/\∀ b∈O,b∉O'->∃ d,ρ[i]?=some (some (.own d))/\σ[i]?=some (some (.ref b)):=by
 unfold TG.frz
 split
 ·rename_i d hd
  obtain⟨a,ha,haO,hat⟩:=E.own i d hd
  have sub:∀ b∈O.filter (fun b=>decide (b≠a)),b∈O:=fun b hb=>(List.mem_filter.mp hb).1
  have s:bH (hid H O) (hid H (O.filter fun b=>decide (b≠a))):=kZ sub
  have na:a∉O.filter fun b=>decide (b≠a):=fun z=>absurd rfl (of_decide_eq_true (List.mem_filter.mp z).2)
  refine⟨O.filter fun b=>decide (b≠a),⟨fun j d' e=>?_,fun j ys e=>?_,fun j l ys zs b q1 q2 q3 q4=>?_,⟨E.all.1,fun b hb=>E.all.2 b (sub b hb)⟩⟩,sub,fun b hb nb=>?_⟩
  ·rcases cc e with ⟨hj,q⟩ | ⟨ne,q⟩
   ·cases q
    rw [hj]
    exact⟨.ref a,ha,hat.den s na⟩
   ·obtain⟨w,q1,q2⟩:=E.val j d' q
    exact⟨w,q1,q2.mono s⟩
  ·rcases cc e with ⟨_,q⟩ | ⟨ne,q⟩
   ·cases q
   ·obtain⟨b,q1,q2,q3⟩:=E.own j ys q
    have nb:b≠a:=fun z=>ne (E.one j i ys d a q hd (by rw [<- z]; exact q1) ha)
    exact⟨b,q1,List.mem_filter.mpr ⟨q2,decide_eq_true nb⟩,q3.mono rfl s⟩
  ·rcases cc q1 with ⟨_,q⟩ | ⟨_,q⟩
   ·cases q
   ·rcases cc q2 with ⟨_,q'⟩ | ⟨_,q'⟩
    ·cases q'
    ·exact E.one j l ys zs b q q' q3 q4
  ·by_cases z:b=a
   ·exact⟨d,hd,by rw [z]; exact ha⟩
   ·exact absurd (List.mem_filter.mpr ⟨hb,decide_eq_true z⟩) nb
 ·exact⟨O,E,fun _ z=>z,fun b hb nb=>absurd hb nb⟩
theorem fA.frz {K:O2} {Hb:Hp} {Ob O:List Qo} {H:Hp} {ρ:av} {σ:St} (E:fA K Hb Ob O H ρ σ) (i:Nat):∃ O',fA K Hb Ob O' H (frz i ρ) σ:=by
 obtain⟨O',E',sub,gone⟩:=E.env.frz i
 refine⟨O',E',⟨E.base.same,fun a ha=>?_,fun a ha=>E.base.new a (sub a ha)⟩,fun j xs a q1 q2=>?_⟩
 ·by_cases z:a∈O'
  ·exact z
  ·obtain⟨d,e1,e2⟩:=gone a (E.base.sub a ha) z
   exact absurd ha (E.mine i d a e1 e2).2
 ·have q:ρ[j]?=some (some (.own xs)):=by
   unfold TG.frz at q1
   split at q1
   ·rcases cc q1 with ⟨_,q⟩ | ⟨_,q⟩
    ·cases q
    ·exact q
   ·exact q1
  exact E.mine j xs a q q2
def iS (i:Nat) (F:ca):ca:=fun k ρ=>F k (frz i ρ)
theorem Jl {X:Cx} {st:List QA} {F:ca} (i:Nat) (h:xf X st F):xf X st (iS i F):=fun Hb Ob=>vC.weak (h Hb Ob) fun E σ H ⟨O,ρ,k,r,S,hF,hk⟩=>by
 obtain⟨O',S'⟩:=S.frz i
 exact⟨O',TG.frz i ρ,k,r,S',hF,hk⟩
mutual
def lf:D->Bool
 | .tup xs=>sj xs
 | .lst _=>false
 | .dct _ _=>false
 | .obj _ _ vs=>sj vs
 | .exc _ _ _=>false
 | _=>true
def sj:List D->Bool
 | []=>true
 | x::xs=>lf x && sj xs
end
mutual
theorem Bg {K:O2} {H:Hp} {O O':List Qo} (hO:dD H O):∀ {d:D} {v:V},lf d=true->cA K (hid H O') d v->cA K (hid H O) d v
 | .non,_,_,h=>by unfold cA at h ⊢; exact h
 | .bl _,_,_,h=>by unfold cA at h ⊢; exact h
 | .int _,_,_,h=>by unfold cA at h ⊢; exact h
 | .str _,_,_,h=>by unfold cA at h ⊢; exact h
 | .lst _,_,l,_=>by unfold lf at l; cases l
 | .dct _ _,_,l,_=>by unfold lf at l; cases l
 | .exc _ _ _,_,l,_=>by unfold lf at l; cases l
 | .obj c fs xs,_,l,h=>by
  unfold lf at l
  rw [DT] at h ⊢
  obtain⟨a,ws,e,h1,hl,C,dx,hc,ha⟩:=h
  refine⟨a,ws,e,qt hO l h1,hl,C,dx,hc,?_⟩
  have q':=aO H O' a _ ha
  rw [li fun z=>by obtain⟨u,e1,e2⟩:=hO.2 a z; rw [q'] at e1; cases e1; exact e2.elim]
  exact q'
 | .tup xs,_,l,h=>by
  unfold lf at l
  rw [cu] at h ⊢
  obtain⟨a,vs,e,h1,h2⟩:=h
  refine⟨a,vs,e,?_,qt hO l h2⟩
  have key:∀ {o:HO},hid H O' a=some o->¬ su o->hid H O a=some o:=fun {o} q n=>by
   have q':=aO H O' a o q
   rw [li fun z=>by obtain⟨u,e1,e2⟩:=hO.2 a z; rw [q'] at e1; cases e1; exact n e2]
   exact q'
  exact key h1 fun z=>z.elim
theorem qt {K:O2} {H:Hp} {O O':List Qo} (hO:dD H O):∀ {ds:List D} {vs:List V},sj ds=true->bp K (hid H O') ds vs->bp K (hid H O) ds vs
 | [],_,_,h=>by rw [cF] at h ⊢; exact h
 | x::xs,_,l,h=>by
  unfold sj at l
  rw [Nc] at l
  rw [bL] at h ⊢
  obtain⟨v,r,e,h1,h2⟩:=h
  exact⟨v,r,e,Bg hO l.1 h1,qt hO l.2 h2⟩
end
def frzs (is:List Nat) (ρ:av):av:=is.foldl (fun ρ i=>frz i ρ) ρ
theorem dM.frzs {K:O2} {H:Hp} {σ:St}:∀ (is:List Nat) {O:List Qo} {ρ:av},dM K O H ρ σ->∃ O',dM K O' H (frzs is ρ) σ
 | [],O,_,E=>⟨O,E⟩
 | i::is,_,_,E=>by
  obtain⟨O',E',_⟩:=E.frz i
  exact dM.frzs is E'
def sL (is:List Nat) (f:FX):FX:=fun ρ=>(xc (f (frzs is ρ))).bind fun d=>if lf d then .ok d else un
def dQ (is:List Nat) (f:av->R Bool):av->R Bool:=fun ρ=>xc (f (frzs is ρ))
theorem JI {X:Cx} {e:Qy} {f:FX} (is:List Nat) (h:FE X e f):FE X e (sL is f):=PE.weak h fun σ H Q ⟨O,ρ,E,hF⟩=>by
 obtain⟨O',E'⟩:=E.frzs is
 refine⟨O',TG.frzs is ρ,E',?_⟩
 unfold sL at hF
 cases hf:f (TG.frzs is ρ) with
 | error z=>rw [hf] at hF; exact hF.elim
 | ok d =>
  rw [hf] at hF
  have hF':hV X σ O H (if lf d then .ok d else un) _:=hF
  cases hl:lf d with
  | false=>rw [hl] at hF'; exact hF'.elim
  | true =>
   rw [hl] at hF'
   exact fun v H' s' dv=>hF' v H' s' (Bg (E.all.same s') hl dv)
theorem Je {X:Cx} {e:Qy} {f:av->R Bool} (is:List Nat) (h:FT X e f):FT X e (dQ is f):=PT.weak h fun σ H Q ⟨O,ρ,E,hF⟩=>by
 obtain⟨O',E'⟩:=E.frzs is
 refine⟨O',TG.frzs is ρ,E',?_⟩
 unfold dQ at hF
 cases hf:f (TG.frzs is ρ) with
 | error z=>rw [hf] at hF; exact hF.elim
 | ok d=>rw [hf] at hF; exact hF
end TG
namespace TG
open PySem PySem.Spec L2
variable [bc]

def Ab (K:O2) (n:Nat) (g:List D->R D):Sp:=fun vs H Q E=>∃ O ds,vs.length=n/\dD H O/\bp K (hid H O) ds vs/\match g ds with
 | .ok d=>∀ v H',bH H H'->cA K (hid H' O) d v->Q v H'
 | .error (some x)=>J8 K H O x E
 | .error none=>False
section
variable {X:Cx} {k:Nat} {f C:Qo} {fd:QX} {ps:List Str} {sp:Sp} {x m:Str} {p pos apos:Pos} {e o:Qy} {es:List Qy} {ta:TE} {t:TA}
theorem yP {pins:List (Qo×Obj)} {σ:St} {H:Hp} {s:Qu} {Q:VK} {E:XK} {us:List Ql} {vs:List V} (F:jn X.prog X.w X.K X.mg X.base (nc X.prog X.w) k f fd ps sp) (hr:fX k X.A) (hb:Binds X.K fd ps []) (hx:jB (nc X.prog X.w) X σ E)
  (I:Inv X pins σ H s) (r:Vals vs us) (h:sp vs H Q E):Qx (model X.prog X.w) X.A (call (.ref f) us) (EP X pins σ Q) X.xe s:=by
 have hl:(us++[]).length=ps.length:=by rw [MZ,<- r.length]; exact F.len _ _ _ _ h
 have hb':=hb s us I.kIn hl
 rw [MZ] at hb'
 refine QZ (Q0 (F.run X.A X.stack s H ⟨us,[]⟩ us vs Q E hr I.env0 hb' r h) fun r s' hq=>?_)
 cases r with
 | error e=>exact hx pins H s e s' I hq
 | ok fl =>
  cases fl with
  | ret u=>exact I.after hq
  | next=>exact False.elim hq
  | brk=>exact False.elim hq
  | cont=>exact False.elim hq
def yu (X:Cx) (sp:Sp) (t:TA):TE:=fun σ H Q=>t σ H fun vs H1=>∃ E,jB (nc X.prog X.w) X σ E/\sp vs H1 Q E
theorem Bp (F:jn X.prog X.w X.K X.mg X.base (nc X.prog X.w) k f fd ps sp) (hr:fX k X.A) (hg:Gl X x) (hm:X.mg x=some (.ref f)) (hk:Pl X.K (.ref f)=true) (hb:Binds X.K fd ps [])
  (ha:PA X (e::es) t) (hdb:(x==("__debug__":Str))=false:=by decide) (he:Qz (e::es) X.env=(false,eval e X.env)::Qz es X.env:=by rfl) (hpl:(backTo pos (Qz es X.env)).any (·.1)=false:=by rfl) :
  PE X (.Call (.Name x p) (e::es) [] pos) (yu X sp t):=by
 intro pins s σ H Q I h
 refine Q1 (md I hg hm ?_ hdb)
 refine Pm (h₀:=X.base) I.ok.mod.kin hk (dB (ha pos pins s σ H _ I h) fun us s1 ⟨vs,H1,I1,r,E,hx,q⟩=>⟨I1.kIn,?_⟩) he hpl
 exact yP F hr hb hx I1 r q
theorem tx {n:Nat} {g:List D->R D} {f:av->R (List D)} (hn:∀ ds,g ds≠un->ds.length=n):∀ σ H Q,tF X (fR g f) σ H Q->yu X (Ab X.K n g) (Kg X f) σ H Q:=fun σ H Q ⟨O,ρ,E,hF⟩ =>
 ⟨O,ρ,E,(hV.bind hF).imp fun ds hF vs H1 s1 d1=>by
  cases hg:g ds with
  | ok d =>
   rw [hg] at hF
   refine⟨E0,yD,O,ds,by rw [<- d1.length]; exact hn ds (by rw [hg]; intro z; cases z),E.all.same s1,d1,?_⟩
   rw [hg]
   exact fun v H2 s2 d2=>hF v H2 (s1.trans s2) d2
  | error z =>
   rw [hg] at hF
   cases z with
   | none=>exact hF.elim
   | some x =>
    refine⟨zu X O H1 x,zF (GA.mono hF s1),O,ds,by rw [<- d1.length]; exact hn ds (by rw [hg]; intro z; cases z),E.all.same s1,d1,?_⟩
    rw [hg]
    exact vD⟩
end
def Callee (P:Qn) (w:Qm) (K:O2) (mg:Str->Option Ql) (base:Qp) (k:Nat) (x:Str) (ps:List Str) (g:List D->R D):Prop :=
 ∃ f fd,jn P w K mg base (nc P w) k f fd ps (Ab K ps.length g)/\Binds K fd ps []/\Pl K (.ref f)=true/\mg x=some (.ref f)
def Ar (n:Nat) (g:List D->R D):Prop:=∀ ds,g ds≠un->ds.length=n
theorem Hc {X:Cx} {k k':Nat} {ps:List Str} {g:List D->R D} {h:av->R (List D)} {x:Str} {p pos:Pos} {e:Qy} {es:List Qy}
  (C:Callee X.prog X.w X.K X.mg X.base k x ps g) (hn:Ar ps.length g) (hr:fX k' X.A) (hk:k<=k') (ha:FA X (e::es) h) (hg:Gl X x:=by rfl)
  (hdb:(x==("__debug__":Str))=false:=by decide) (hns:(e::es).all noStar=true:=by rfl) :
  FE X (.Call (.Name x p) (e::es) [] pos) (fR g h):=by
 obtain⟨f,fd,F,b,kp,m⟩:=C
 exact PE.weak (Bp F (hr.mono hk) hg m kp b ha hdb (cS (Nc _ _ ▸ hns).1) (dE (Nc _ _ ▸ hns).2)) (tx hn)
def K0:Ks:={ nx:=fun _=>.ok .non }
def env0 (n:Nat) (ds:List D):av:=ds.map (fun d=>some (.val d))++List.replicate (n - ds.length) none
def bv (B:ca) (np n:Nat):List D->R D:=fun ds=>if ds.length=np then B K0 (env0 n ds) else un
theorem aZ {B:ca} {np n:Nat}:Ar np (bv B np n):=fun ds h=>by
 unfold bv at h
 split at h
 ·assumption
 ·exact absurd rfl h
theorem kE {n:Nat} {ds:List D} (i:Nat) (x:S) (e:(env0 n ds)[i]?=some (some x)):∃ d,ds[i]?=some d/\x=.val d:=by
 unfold env0 at e
 by_cases hi:i < ds.length
 ·rw [M5 (by rw [MV]; exact hi),M6,NF hi] at e
  have e':some (S.val ds[i])=some x:=Option.some.inj e
  exact⟨ds[i],by rw [NF hi],(Option.some.inj e').symm⟩
 ·rw [M3 (by rw [MV]; omega),MV,M4] at e
  split at e
  ·cases e
  ·cases e
theorem rh {K:O2} {O:List Qo} {H:Hp} {N:List Str} {ds:List D} {vs:List V} (hO:dD H O) (h:bp K (hid H O) ds vs):dM K O H (env0 N.length ds) (L2.start N vs):=by
 refine⟨fun i d e=>?_,fun i xs e=>?_,fun i j xs ys a e=>?_,hO⟩
 ·obtain⟨d',e1,e2⟩:=kE i _ e
  cases e2
  obtain⟨v,e3,e4⟩:=h.get e1
  refine⟨v,?_,e4⟩
  unfold L2.start
  have hi:i < vs.length:=(List.getElem?_eq_some_iff.mp e3).1
  rw [M5 (by rw [MV]; exact hi),M6,e3]; rfl
 ·obtain⟨d',_,e2⟩:=kE i _ e
  cases e2
 ·obtain⟨d',_,e2⟩:=kE i _ e
  cases e2
section
variable {P:Qn} {w:Qm} {K:O2} {mg:Str->Option Ql} {base:Qp}
structure BodyOk (P:Qn) (w:Qm) (K:O2) (mg:Str->Option Ql) (base:Qp) (k:Nat) (N:List Str) (qual:Str) (st:QA) (f:Qo) (B:ca):Prop where
 h:∀ (cdv:Ql) (A:Qt) (outer:List Env) (s:Qu) (H:Hp) (E:XK),fX k (A.deeper (P0 qual (aB st) s.heap.objs.size f cdv))->QI (model P w) (A.deeper (P0 qual (aB st) s.heap.objs.size f cdv)) (P0 qual (aB st) s.heap.objs.size f cdv) (kB (nc P w) P w K mg base N qual (aB st) f cdv A outer s H E).xe ->
  xf (kB (nc P w) P w K mg base N qual (aB st) f cdv A outer s H E) (eF st) B
theorem Lf {x qual:Str} {st:QA} {f:Qo} {fd:QX} {N ps:List Str} {k:Nat} {sp:Sp} {CX:xg} (F:w8 K x qual st f fd) (S:bh N ps (aB st)) (len:∀ vs H Q E,sp vs H Q E->vs.length=ps.length)
  (hbody:∀ (cdv:Ql) (A:Qt) (outer:List Env) (s:Qu) (H:Hp) (vs:List V) (Q:VK) (E:XK),fX k (A.deeper (P0 qual (aB st) s.heap.objs.size f cdv))->sp vs H Q E ->
   ∃ t,vC (kB CX P w K mg base N qual (aB st) f cdv A outer s H E) (eF st) t/\t { nx:=fun _ H'=>Q .non H',rt:=Q } (L2.start N vs) H):jn P w K mg base CX (k+1) f fd ps sp:=by
 obtain⟨oc,od,kV,doc,pm,an,cdv,ct,osl,rfl,lk,hcd⟩:=F.ex
 exact EA lk hcd S len fun A outer s H vs Q E hr hsp=>hbody cdv A outer s H vs Q E hr hsp
theorem jn.any {CX:xg} {k:Nat} {f:Qo} {fd:QX} {ps:List Str} {sp:Sp} (F:jn P w K mg base JH k f fd ps sp):jn P w K mg base CX k f fd ps sp :=
 ⟨F.len,fun A outer s H args us vs Q E hr he hb hv hs=>Q0 (F.run A outer s H args us vs Q E hr he hb hv hs) fun r s' h=>by
  cases r with
  | error e=>exact False.elim h
  | ok fl=>cases fl <;> exact h⟩
theorem uw {x qual:Str} {st:QA} {f:Qo} {fd:QX} {N ps:List Str} {k:Nat} {B:ca} (F:w8 K x qual st f fd) (SC:bh N ps (aB st)) (hb:BodyOk P w K mg base k N qual st f B) :
  jn P w K mg base (nc P w) (k+1) f fd ps (Ab K ps.length (bv B ps.length N.length)):=by
 refine Lf F SC (fun vs H Q E h=>?_) fun cdv A outer s H vs Q E hr h=>?_
 ·obtain⟨O,ds,h1,_⟩:=h
  exact h1
 ·obtain⟨O,ds,h1,h2,h3,h4⟩:=h
  have hl:ds.length=ps.length:=h3.length.trans h1
  have e4:bv B ps.length N.length ds=B K0 (env0 N.length ds):=by unfold bv; rw [if_pos hl]
  rw [e4] at h4
  refine⟨_,hb.h cdv A outer s H E hr PassesOwn.leaving H O,O,env0 N.length ds,K0,_,⟨rh h2 h3,⟨bH.refl H,fun _ z=>z,fun a z=>.inl z⟩,fun i xs a e=>?_⟩,rfl,?_⟩
  ·obtain⟨d',_,e2⟩:=kE i _ e
   cases e2
  ·generalize B K0 (env0 N.length ds)=r at h4
   refine⟨fun z=>by rw [z] at h4; exact h4,fun O' ρ' σ' H' S e=>?_,fun O' ρ' σ' H' S e=>?_,fun O' ρ' σ' H' S e=>?_,fun d O' v H' e b dv=>?_,fun O' ρ' σ' H' x S e=>?_⟩
   ·have e:(.ok .non:R D)=r:=e
    subst e
    exact h4 .non H' S.base.same (kq.mpr rfl)
   ·have e:(un:R D)=r:=e
    subst e
    exact h4.elim
   ·have e:(un:R D)=r:=e
    subst e
    exact h4.elim
   ·subst e
    exact h4 v H' b.same (dv.mono (kZ b.sub))
   ·have e:(.error (some x):R D)=r:=e
    subst e
    exact Gc h4 S.base.same S.base.sub
theorem bx {x qual:Str} {st:QA} {f:Qo} {fd:QX} {N ps:List Str} {k:Nat} {B:ca} (F:w8 K x qual st f fd) (b:Binds K fd ps []) (m:mg x=some (.ref f)) (SC:bh N ps (aB st)) (hb:BodyOk P w K mg base k N qual st f B) :
  Callee P w K mg base (k+1) x ps (bv B ps.length N.length):=⟨f,fd,uw F SC hb,b,F.kp,m⟩
theorem jb {x qual:Str} {st:QA} {f:Qo} {fd:QX} {ps:List Str} (k:Nat) (F:w8 K x qual st f fd) (b:Binds K fd ps []) (m:mg x=some (.ref f)):Callee P w K mg base k x ps (fun _=>un):=by
 have no:∀ vs H Q E,¬ Ab K ps.length (fun _=>un) vs H Q E:=fun vs H Q E ⟨O,ds,_,_,_,e⟩=>e
 exact⟨f,fd,⟨fun vs H Q E h=>absurd h (no vs H Q E),fun A outer s H args us vs Q E _ _ _ _ h=>absurd h (no vs H Q E)⟩,b,F.kp,m⟩
end
end TG
namespace TG
open PySem PySem.Spec L2
variable [bc]

section
variable {X:Cx} {a b c:Qy} {fa fb fc:FX} {pos:Pos}
theorem Gs {r:V->Hp->VK->Prop} {g:D->Option D} (s:Ew X.K r g):∀ σ H Q,tF X (f1 g fa) σ H Q->Md r (tF X fa) σ H Q:=fun σ H Q ⟨O,ρ,E,hF⟩=>⟨O,ρ,E,(hV.bind hF).imp fun a hF x H1 s1 d1=>by
 obtain⟨d,e,q⟩:=hV.rO hF
 exact s a d x O H1 Q (E.all.same s1) e d1 fun v H2 s2 d2=>q v H2 (s1.trans s2) d2⟩
def G3 (g g':D->D->Option D) (fa fb fc:FX):FX:=fun ρ=>(fa ρ).bind fun x=>(fb ρ).bind fun y=>(rO (g x y)).bind fun z=>yd z ((fc ρ).bind fun w=>rO (g' y w))
def GW:D->Option D
 | .int i=>some (.int (-i))
 | _=>none
def pZ (f:FX):FX:=f1 GW f
theorem KC (ha:FE X a fa):FE X (.UnaryOp .USub a pos) (pZ fa):=PE.weak (Iu FQ ha) (Gs fun x d v O H Q _ e dv q=>by
 cases x with
 | int i=>cases e; exact⟨i,eU.mp dv,q _ H (bH.refl H) (eU.mpr rfl)⟩
 | _=>cases e)
theorem Jg {x:Str} {i:Int} (hg:Gl X x) (hm:∃ t,X.mg x=some (.int i t)) (hd:(x==("__debug__":Str))=false:=by decide):FE X (.Name x pos) (fC (.int i)):=by
 obtain⟨t,m⟩:=hm
 exact lu (yR (v:=.int i) hg m ⟨t,rfl⟩ hd) fun _ _=>eU.mpr rfl
def BD:D->Option D
 | .str x=>if small x.length then some (.str (Txt.upper x)) else none
 | _=>none
def GH (f:FX):FX:=f1 BD f
def GK:D->Option D
 | .lst xs=>some (.lst xs.reverse)
 | .tup xs=>some (.tup xs.reverse)
 | _=>none
def K6 (f:FX):FX:=f1 GK f
end

end TG
namespace ZI
open PySem PySem.Spec PyProof.Rows
section
variable {prog:Qn} {w:Qm} {A:Qt} {E:Ql->Qu->Prop} {s:Qu}
theorem yh {it t:Qo} {i:Nat} {its:Array Ql} {x:Ql} {Q:Ql->Qu->Prop} (hit:s.heap.IsTupleIter it t i) (ht:s.heap.IsTuple t its) (hx:its[i]?=some x)
  (hQ:∀ g,g.IsTupleIter it t (i+1)->PL it s.heap g->Q x { s with heap:=g }):Qx (model prog w) A (Builtin.SmallTypes.nextOf (.ref it)) Q E s:=by
 obtain⟨ob,h1,h2,h3⟩:=id hit
 obtain⟨ol,g1,_,n,g2⟩:=ht
 unfold Builtin.SmallTypes.nextOf
 refine QD (Ra (name:=Str.ofString "__next__") hit.typeIs F.slot_tuple_iterator_next (Rb F.slot_tuple_iterator_next hit.typeIs F.entry_tuple_iterator_next ?_ (F.args_tuple_iterator_next_1 _)))
 show Qx _ _ (field (.ref it) 0 >>= _) _ _ s; refine QD (Q9 h1 h3 (x:=.ref t) rfl ?_)
 show Qx _ _ (if (Value.ref t==Value.none)=true then _ else _) _ _ s; rw [if_neg (show ¬ ((Value.ref t==Value.none)=true) from fun z=>MS z)]
 show Qx _ _ (field (.ref it) 1 >>= _) _ _ s; refine QD (Q9 h1 h3 (x:=.int i 0) rfl ?_)
 show Qx _ _ (seqItems? (.ref t) >>= _) _ _ s; refine QD (Rl g1 g2 ?_)
 simp only [M9,hx]
 refine QD (wpAny_setField h1 h3 (by simp) (QG ⟨x,rfl,QG (hQ _ ⟨_,PR _ h1 (Obj.isFreed_of_fields (Obj.data_mapFields h3 _)),(Obj.cls_mapFields ..).trans h2,by rw [Obj.data_mapFields h3]; simp [rawInt]⟩ (Heap.SameBut.update ..))⟩))
theorem Al {it t:Qo} {i:Nat} {its:Array Ql} {Q:Ql->Qu->Prop} (hh:A.handled=none) (hit:s.heap.IsTupleIter it t i) (ht:s.heap.IsTuple t its) (hx:its[i]?=none)
  (hE:∀ g e,Heap.ExtBut it s.heap g->(∃ o,g.get? e=some o/\o.cls=.type "StopIteration")->E (.ref e) { s with heap:=g }):Qx (model prog w) A (Builtin.SmallTypes.nextOf (.ref it)) Q E s:=by
 obtain⟨ob,h1,h2,h3⟩:=id hit
 obtain⟨ol,g1,_,n,g2⟩:=ht
 unfold Builtin.SmallTypes.nextOf
 refine QD (Ra (name:=Str.ofString "__next__") hit.typeIs F.slot_tuple_iterator_next (Rb F.slot_tuple_iterator_next hit.typeIs F.entry_tuple_iterator_next ?_ (F.args_tuple_iterator_next_1 _)))
 show Qx _ _ (field (.ref it) 0 >>= _) _ _ s; refine QD (Q9 h1 h3 (x:=.ref t) rfl ?_)
 show Qx _ _ (if (Value.ref t==Value.none)=true then _ else _) _ _ s; rw [if_neg (show ¬ ((Value.ref t==Value.none)=true) from fun z=>MS z)]
 show Qx _ _ (field (.ref it) 1 >>= _) _ _ s; refine QD (Q9 h1 h3 (x:=.int i 0) rfl ?_)
 show Qx _ _ (seqItems? (.ref t) >>= _) _ _ s; refine QD (Rl g1 g2 ?_)
 simp only [M9,hx]; refine QD (Rh (QD (wpAny_setField h1 h3 (by simp) ?_)))
 show Qx _ _ (newExc (.type "StopIteration") [] >>= _) _ _ _; refine QD ?_
 simp only [newExc,newTuple]; refine QD (Rc ?_ (by size_fits))
 refine QD (m:=firstArgMember _ _) (wpAny_of_eq (a:=Value.none) (by first | rfl | (simp only [firstArgMember]; rfl)) ?_); refine Rc ?_ (by size_fits)
 simp only [raiseNew]; refine QD (wpAny_handled ?_)
 first | rw [show A.in1.handled=none from hh] | rw [hh]
 refine QD (QG (wpAny_throw ?_)); exact hE _ _ (((Heap.SameBut.update ..).extBut.push _).push _) ⟨_,PP _ rfl,rfl⟩
end
theorem GB {prog:Qn} {w:Qm} {A:Qt} (hh:A.handled=none) (it t:Qo) (hne:t≠it) (its:Array Ql):Draws prog w A it [it,t] its.size (fun i v=>its[i]?=some v) (fun i h=>h.IsTupleIter it t i/\h.IsTuple t its) where
 live:=fun i h ⟨⟨o,e,_⟩,_⟩=>⟨o,e⟩
 frame:=fun i h h' ⟨x,y⟩ k=>⟨x.at fun o e=>k it (by simp) o e,let ⟨o,e,r⟩:=y; ⟨o,k t (by simp) o e,r⟩⟩
 item:=fun i s Q E hi ⟨x,y⟩ hQ=>yh x y (Array.getElem?_eq_getElem hi) fun g hg hs=>hQ _ g s.toks (Array.getElem?_eq_getElem hi) ⟨hg,let ⟨o,e,r⟩:=y; ⟨o,(hs.2 t hne).trans e,r⟩⟩ hs
 done:=fun s Q E ⟨x,y⟩ hE=>Al hh x y (by simp) hE

structure Apart (z TI TO i1 i2:Qo) (fp1 fp2:List Qo):Prop where
 a1:TI≠z
 a2:TO≠z
 a3:TI≠TO
 b1:z∉fp1
 b2:TO∉fp1
 b3:i2∉fp1
 c1:z∉fp2
 c2:TO∉fp2
 c3:i1∉fp2
 d1:TI≠i1
 d2:TI≠i2
 e1:i1∈fp1
 e2:i2∈fp2
section
variable {prog:Qn} {w:Qm} {A:Qt} {E:Ql->Qu->Prop} {s:Qu} {z TI TO i1 i2:Qo} {fp1 fp2:List Qo} {n1 n2 i:Nat} {P1 P2:Nat->Ql->Prop} {S1 S2:Nat->Qp->Prop} {a b:Ql}
theorem next_item {Q:Ql->Qu->Prop} (Ap:Apart z TI TO i1 i2 fp1 fp2) (D1:Draws prog w A i1 fp1 n1 P1 S1) (D2:Draws prog w A i2 fp2 n2 P2 S2) (hz:Rm s.heap z TI TO .none) (hTI:Rn s.heap TI (.ref i1) (.ref i2)) (hTO:Rn s.heap TO a b) (st1:S1 i s.heap) (st2:S2 i s.heap) (l1:i < n1) (l2:i < n2)
  (hQ:∀ x y g tk,P1 i x->P2 i y->Rm g z TI TO (rawInt s.heap.objs.size)->Rn g TO x y->S1 (i+1) g->S2 (i+1) g->Rn g s.heap.objs.size x y->g.objs.size=s.heap.objs.size+1 ->
   (∀ c o,c≠z->c≠TO->c≠i1->c≠i2->s.heap.get? c=some o->g.get? c=some o)->Q (.ref s.heap.objs.size) { s with heap:=g,toks:=tk }) :
  Qx (model prog w) A (Builtin.«zip.__next__» ⟨[.ref z],[]⟩) (fun fin s'=>∃ v,fin=.done (.ret v)/\Q v s') E s:=by
 have n1z:i1≠z:=fun e=>Ap.b1 (e ▸ Ap.e1)
 have n2z:i2≠z:=fun e=>Ap.c1 (e ▸ Ap.e2)
 have n1T:i1≠TO:=fun e=>Ap.b2 (e ▸ Ap.e1)
 have n2T:i2≠TO:=fun e=>Ap.c2 (e ▸ Ap.e2)
 show Qx _ _ (field (.ref z) 2 >>= _) _ _ _; refine QD (Q9 hz rfl (x:=.bool false) rfl ?_)
 show Qx _ _ (field (.ref z) 3 >>= _) _ _ _; refine QD (Q9 hz rfl (x:=.ref TI) rfl ?_); refine QD (Rl hTI rfl ?_)
 show Qx _ _ (Builtin.SmallTypes.ownedTupleIsFree (.ref z) >>= _) _ _ _; refine QD ?_
 unfold Builtin.SmallTypes.ownedTupleIsFree; refine QD (Q9 hz rfl (x:=.none) rfl (QG ?_))
 simp only [if_true]; refine QD (Rh ?_); refine QD (Q9 hz rfl (x:=.ref TO) rfl ?_)
 refine QD (Ro hz (by simp) fun g1 hz1 k1=>?_)
 have hz1:Rm g1 z TI TO .ellipsis:=hz1
 refine QD ?_; simp only [N0,List.zipIdx_nil,Nv,List.forIn_nil]
 refine QD (QD (Rp ?_)); show Qx _ _ (Builtin.SmallTypes.nextOf (.ref i1) >>= _) _ _ _
 have q1:S1 i g1:=D1.frame _ _ _ st1 fun b hb o e=>k1.extBut _ _ (fun z'=>Ap.b1 (z' ▸ hb)) e
 refine QD (D1.item i { s with heap:=g1 } _ _ l1 q1 fun x g2 tk2 p1 q2 k2=>QG ?_)
 have t2:Rn g2 TO a b:=k2.extBut _ _ n1T.symm (k1.extBut _ _ Ap.a2 hTO)
 refine QD (Rl t2 rfl ?_); refine QD (Rq t2 fun g3 t3 k3=>?_)
 have t3:Rn g3 TO x b:=t3
 refine QD (Rr (QG ?_)); refine QD (QD (Rp ?_)); show Qx _ _ (Builtin.SmallTypes.nextOf (.ref i2) >>= _) _ _ _
 have q3:S2 i g3:=D2.frame _ _ _ st2 fun b hb o e=>k3.extBut _ _ (fun z'=>Ap.c2 (z' ▸ hb)) (k2.extBut _ _ (fun z'=>Ap.c3 (z' ▸ hb)) (k1.extBut _ _ (fun z'=>Ap.c1 (z' ▸ hb)) e))
 refine QD (D2.item i { s with heap:=g3,toks:=tk2 } _ _ l2 q3 fun y g4 tk4 p2 q4 k4=>QG ?_)
 have t4:Rn g4 TO x b:=k4.extBut _ _ n2T.symm t3
 refine QD (Rl t4 rfl ?_); refine QD (Rq t4 fun g5 t5 k5=>?_)
 have t5:Rn g5 TO x y:=t5
 refine QD (Rr (QG (QG ?_))); refine QD (Rl t5 rfl ?_); refine QD (wpAny_newTuple ?_)
 have hsz:g5.objs.size=s.heap.objs.size:=by rw [k5.1,k4.1,k3.1,k2.1,k1.1]
 have hz5:Rm g5 z TI TO .ellipsis:=k5.extBut _ _ Ap.a2.symm (k4.extBut _ _ n2z.symm (k3.extBut _ _ Ap.a2.symm (k2.extBut _ _ n1z.symm hz1)))
 have k15:∀ c o,c≠z->c≠TO->c≠i1->c≠i2->s.heap.get? c=some o->g5.get? c=some o:=fun c o c1 c2 c3 c4 e=>k5.extBut _ _ c2 (k4.extBut _ _ c4 (k3.extBut _ _ c2 (k2.extBut _ _ c3 (k1.extBut _ _ c1 e))))
 have r1:S1 (i+1) g5:=D1.frame _ _ _ q2 fun b hb o e=>k5.extBut _ _ (fun z'=>Ap.b2 (z' ▸ hb)) (k4.extBut _ _ (fun z'=>Ap.b3 (z' ▸ hb)) (k3.extBut _ _ (fun z'=>Ap.b2 (z' ▸ hb)) e))
 have r2:S2 (i+1) g5:=D2.frame _ _ _ q4 fun b hb o e=>k5.extBut _ _ (fun z'=>Ap.c2 (z' ▸ hb)) e
 have lz:z < g5.objs.size:=PJ hz5
 show Qx _ _ (Builtin.SmallTypes.ownedTupleHandOut (.ref z) (.ref g5.objs.size) >>= _) _ _ _; refine QD ?_
 unfold Builtin.SmallTypes.ownedTupleHandOut
 have hz6:Rm (g5.push { cls:=.type "tuple",data:=.seq #[x,y] }) z TI TO .ellipsis:=PN _ hz5
 refine QD (Ro hz6 (by simp) fun g7 hz7 k7=>?_)
 have hz7:Rm g7 z TI TO (rawInt g5.objs.size):=hz7
 refine Ro hz7 (by simp) fun g8 hz8 k8=>?_
 have hz8:Rm g8 z TI TO (rawInt g5.objs.size):=hz8
 have up:∀ c o,c≠z->g5.get? c=some o->g8.get? c=some o:=fun c o c1 e=>k8.extBut _ _ c1 (k7.extBut _ _ c1 (PN _ e))
 have t8:Rn g8 g5.objs.size x y:=k8.extBut _ _ (MN lz) (k7.extBut _ _ (MN lz) (PP _ rfl))
 have s8:g8.objs.size=g5.objs.size+1:=by rw [k8.1,k7.1,PQ]
 rw [hsz] at hz8 t8 s8
 refine QG ⟨_,rfl,?_⟩
 show Q (.ref g5.objs.size) _
 rw [hsz]
 exact hQ x y g8 tk4 p1 p2 hz8 (up _ _ Ap.a2 t5) (D1.frame _ _ _ r1 fun b hb o e=>up b o (fun z'=>Ap.b1 (z' ▸ hb)) e) (D2.frame _ _ _ r2 fun b hb o e=>up b o (fun z'=>Ap.c1 (z' ▸ hb)) e) t8 s8 fun c o c1 c2 c3 c4 e=>up c o c1 (k15 c o c1 c2 c3 c4 e)
theorem next_end {Q:Fin->Qu->Prop} (Ap:Apart z TI TO i1 i2 fp1 fp2) (D1:Draws prog w A i1 fp1 n1 P1 S1) (D2:Draws prog w A i2 fp2 n2 P2 S2) (hz:Rm s.heap z TI TO .none) (hTI:Rn s.heap TI (.ref i1) (.ref i2)) (hTO:Rn s.heap TO a b) (st1:S1 i s.heap) (st2:S2 i s.heap) (hend:i=n1\/(i < n1/\i=n2))
  (hE:∀ g e tk,(∀ c o,c≠z->c≠TO->c≠i1->c≠i2->s.heap.get? c=some o->g.get? c=some o)->(∃ o,g.get? e=some o/\o.cls=.type "StopIteration")->E (.ref e) { s with heap:=g,toks:=tk }) :
  Qx (model prog w) A (Builtin.«zip.__next__» ⟨[.ref z],[]⟩) Q E s:=by
 have n1z:i1≠z:=fun e=>Ap.b1 (e ▸ Ap.e1)
 have n2z:i2≠z:=fun e=>Ap.c1 (e ▸ Ap.e2)
 have n1T:i1≠TO:=fun e=>Ap.b2 (e ▸ Ap.e1)
 show Qx _ _ (field (.ref z) 2 >>= _) _ _ _; refine QD (Q9 hz rfl (x:=.bool false) rfl ?_)
 show Qx _ _ (field (.ref z) 3 >>= _) _ _ _; refine QD (Q9 hz rfl (x:=.ref TI) rfl ?_); refine QD (Rl hTI rfl ?_)
 show Qx _ _ (Builtin.SmallTypes.ownedTupleIsFree (.ref z) >>= _) _ _ _; refine QD ?_
 unfold Builtin.SmallTypes.ownedTupleIsFree; refine QD (Q9 hz rfl (x:=.none) rfl (QG ?_))
 simp only [if_true]; refine QD (Rh ?_); refine QD (Q9 hz rfl (x:=.ref TO) rfl ?_)
 refine QD (Ro hz (by simp) fun g1 hz1 k1=>?_)
 have hz1:Rm g1 z TI TO .ellipsis:=hz1
 refine QD ?_; simp only [N0,List.zipIdx_nil,Nv,List.forIn_nil]
 refine QD (QD (Rp ?_)); show Qx _ _ (Builtin.SmallTypes.nextOf (.ref i1) >>= _) _ _ _
 have q1:S1 i g1:=D1.frame _ _ _ st1 fun b hb o e=>k1.extBut _ _ (fun z'=>Ap.b1 (z' ▸ hb)) e
 rcases hend with hend | ⟨l1,hend⟩
 ·subst hend
  refine QD (D1.done { s with heap:=g1 } _ _ q1 fun g2 e k2 he=>?_)
  obtain⟨oe,hoe,hce⟩:=he
  have hz2:Rm g2 z TI TO .ellipsis:=k2 _ _ n1z.symm hz1
  have hez:e≠z:=fun x=>by rw [x,hz2] at hoe; cases hoe; simp at hce
  exact Ro hz2 (by simp) fun g3 _ k3=>hE g3 e s.toks (fun c o c1 _ c3 _ x=>k3.extBut _ _ c1 (k2 _ _ c3 (k1.extBut _ _ c1 x))) ⟨oe,k3.extBut _ _ hez hoe,hce⟩
 ·refine QD (D1.item i { s with heap:=g1 } _ _ l1 q1 fun x g2 tk2 p1 q2 k2=>QG ?_)
  have t2:Rn g2 TO a b:=k2.extBut _ _ n1T.symm (k1.extBut _ _ Ap.a2 hTO)
  refine QD (Rl t2 rfl ?_); refine QD (Rq t2 fun g3 t3 k3=>?_)
  refine QD (Rr (QG ?_)); refine QD (QD (Rp ?_)); show Qx _ _ (Builtin.SmallTypes.nextOf (.ref i2) >>= _) _ _ _
  have q3:S2 i g3:=D2.frame _ _ _ st2 fun b hb o e=>k3.extBut _ _ (fun z'=>Ap.c2 (z' ▸ hb)) (k2.extBut _ _ (fun z'=>Ap.c3 (z' ▸ hb)) (k1.extBut _ _ (fun z'=>Ap.c1 (z' ▸ hb)) e))
  subst hend
  refine QD (D2.done { s with heap:=g3,toks:=tk2 } _ _ q3 fun g4 e k4 he=>?_)
  obtain⟨oe,hoe,hce⟩:=he
  have hz4:Rm g4 z TI TO .ellipsis:=k4 _ _ n2z.symm (k3.extBut _ _ Ap.a2.symm (k2.extBut _ _ n1z.symm hz1))
  have hez:e≠z:=fun x=>by rw [x,hz4] at hoe; cases hoe; simp at hce
  exact Ro hz4 (by simp) fun g5 _ k5=>hE g5 e tk2 (fun c o c1 c2 c3 c4 x=>k5.extBut _ _ c1 (k4 _ _ c4 (k3.extBut _ _ c2 (k2.extBut _ _ c3 (k1.extBut _ _ c1 x))))) ⟨oe,k5.extBut _ _ hez hoe,hce⟩
end
def SQ (b:Bool) (h:Qp) (l:Qo) (xs:Array Ql):Prop:=if b then h.IsList l xs else h.IsTuple l xs
def SI (b:Bool) (h:Qp) (i l:Qo) (k:Nat):Prop:=if b then h.IsListIter i l k else h.IsTupleIter i l k
def Jm (b:Bool):String:=if b then "list_iterator" else "tuple_iterator"
theorem SQ.keep {b:Bool} {h h':Qp} {l:Qo} {xs:Array Ql} (x:SQ b h l xs) (k:∀ o,h.get? l=some o->h'.get? l=some o):SQ b h' l xs:=by
 cases b with
 | true=>exact Heap.IsList.at x k
 | false=>obtain⟨o,e,r⟩:=(show h.IsTuple l xs from x); exact(show h'.IsTuple l xs from ⟨o,k o e,r⟩)
theorem SI.keep {b:Bool} {h h':Qp} {i l:Qo} {n:Nat} (x:SI b h i l n) (k:∀ o,h.get? i=some o->h'.get? i=some o):SI b h' i l n:=by
 cases b with
 | true=>exact Heap.IsListIter.at x k
 | false=>exact Heap.IsTupleIter.at x k
theorem SQ.lt {b:Bool} {h:Qp} {l:Qo} {xs:Array Ql} (x:SQ b h l xs):l < h.objs.size:=by
 cases b with
 | true=>obtain⟨o,e,_⟩:=(show h.IsList l xs from x); exact PJ e
 | false=>obtain⟨o,e,_⟩:=(show h.IsTuple l xs from x); exact PJ e
theorem SI.get {b:Bool} {h:Qp} {i l:Qo} {n:Nat} (x:SI b h i l n):∃ o,h.get? i=some o/\∀ v,o.data≠.cell v:=by
 cases b with
 | true=>obtain⟨o,e,_,d⟩:=(show h.IsListIter i l n from x); exact⟨o,e,fun v z=>by rw [d] at z; cases z⟩
 | false=>obtain⟨o,e,_,d⟩:=(show h.IsTupleIter i l n from x); exact⟨o,e,fun v z=>by rw [d] at z; cases z⟩
theorem SI.new {b:Bool} {h:Qp} {l:Qo}:SI b (h.push { cls:=.type (Jm b),data:=.fields #[.ref l,.int 0 0] }) h.objs.size l 0:=by
 cases b with
 | true=>exact⟨_,PP _ rfl,rfl,rfl⟩
 | false=>exact⟨_,PP _ rfl,rfl,rfl⟩
theorem qz {b:Bool} {prog:Qn} {w:Qm} {A:Qt} {E:Ql->Qu->Prop} {s:Qu} {l:Qo} {xs:Array Ql} {Q:Ql->Qu->Prop} (h:SQ b s.heap l xs)
  (hQ:Q (.ref s.heap.objs.size) { s with heap:=s.heap.push { cls:=.type (Jm b),data:=.fields #[.ref l,.int 0 0] } }):Qx (model prog w) A (pyIter (.ref l)) Q E s:=by
 cases b with
 | true=>exact QH h hQ
 | false=>exact wpAny_pyIter_tuple h hQ
theorem mq {prog:Qn} {w:Qm} {A:Qt} (b:Bool) (hh:A.handled=none) (it l:Qo) (hne:l≠it) (its:Array Ql):Draws prog w A it [it,l] its.size (fun i v=>its[i]?=some v) (fun i h=>SI b h it l i/\SQ b h l its):=by
 cases b with
 | true=>exact Draws.list hh it l hne its
 | false=>exact GB hh it l hne its
abbrev A9 (b1:Bool) (h:Qp) (l1:Qo):Qp:=h.push { cls:=.type (Jm b1),data:=.fields #[.ref l1,.int 0 0] }
abbrev Hq (b1 b2:Bool) (h:Qp) (l1 l2:Qo):Qp:=(A9 b1 h l1).push { cls:=.type (Jm b2),data:=.fields #[.ref l2,.int 0 0] }
abbrev JG (b1 b2:Bool) (h:Qp) (l1 l2:Qo):Qp:=(Hq b1 b2 h l1 l2).push { cls:=.type "tuple",data:=.seq #[.ref h.objs.size,.ref (A9 b1 h l1).objs.size] }
abbrev JA (b1 b2:Bool) (h:Qp) (l1 l2:Qo):Qp:=(JG b1 b2 h l1 l2).push { cls:=.type "tuple",data:=.seq #[.none,.none] }
abbrev EZ (b1 b2:Bool) (h:Qp) (l1 l2:Qo):Qp:=(JA b1 b2 h l1 l2).push { cls:=.type "zip",data:=.fields #[.none,.bool false,.bool false,.ref (Hq b1 b2 h l1 l2).objs.size,.ref (JG b1 b2 h l1 l2).objs.size] }
theorem Bx (b1 b2:Bool) (l1 l2:Qo) (xs ys:Array Ql):Meets (Builtin.«zip.__new__» ⟨[.type "zip",.ref l1,.ref l2],[]⟩) (fun _ R s=>SQ b1 s.heap l1 xs/\SQ b2 s.heap l2 ys/\R (.ok (.ret (.ref (JA b1 b2 s.heap l1 l2).objs.size))) { s with heap:=EZ b1 b2 s.heap l1 l2 }) :=
 .of_wp fun prog w A R s h=>by
  obtain⟨hp,g,d,tk,os⟩:=s
  obtain⟨q1,q2,h⟩:=h
  have hsub:=sub_zip
  have e1:SQ b1 (Shared.heap ⟨hp,g,d,tk,os⟩) l1 xs:=q1
  have e2:SQ b2 (Shared.heap ⟨A9 b1 hp l1,g,d,tk,os⟩) l2 ys:=q2.keep fun o e=>PN _ e
  wp_walk using qz e1,qz e2
  exact⟨_,rfl,h⟩
theorem Br {prog:Qn} {w:Qm} {A:Qt} {E:Ql->Qu->Prop} {s:Qu} {b1 b2:Bool} {l1 l2:Qo} {xs ys:Array Ql} {Q:Ql->Qu->Prop} (h1:SQ b1 s.heap l1 xs) (h2:SQ b2 s.heap l2 ys)
  (h:∀ g,Rm g (s.heap.objs.size+4) (s.heap.objs.size+2) (s.heap.objs.size+3) .none->Rn g (s.heap.objs.size+2) (.ref s.heap.objs.size) (.ref (s.heap.objs.size+1))->Rn g (s.heap.objs.size+3) .none .none->SI b1 g s.heap.objs.size l1 0->SI b2 g (s.heap.objs.size+1) l2 0 ->
   (∀ c o,s.heap.get? c=some o->g.get? c=some o)->Q (.ref (s.heap.objs.size+4)) { s with heap:=g }):Qx (model prog w) A (call (.type "zip") [.ref l1,.ref l2]) Q E s:=by
 refine callType_new F.called_zip (by decide) (F.typeCall_zip_2 _ _) (F.newCall_zip_2 _ _) (fun obj=>F.args_object_init_3 obj _ _) F.entry_zip_new (Bx b1 b2 l1 l2 xs ys) ⟨h1,h2,?_⟩
 have z1:(A9 b1 s.heap l1).objs.size=s.heap.objs.size+1:=PQ ..
 have z2:(Hq b1 b2 s.heap l1 l2).objs.size=s.heap.objs.size+2:=by rw [PQ,z1]
 have z3:(JG b1 b2 s.heap l1 l2).objs.size=s.heap.objs.size+3:=by rw [PQ,z2]
 have z4:(JA b1 b2 s.heap l1 l2).objs.size=s.heap.objs.size+4:=by rw [PQ,z3]
 have u1:∀ c o,(A9 b1 s.heap l1).get? c=some o->(EZ b1 b2 s.heap l1 l2).get? c=some o:=fun c o e=>PN _ (PN _ (PN _ (PN _ e)))
 have u2:∀ c o,(Hq b1 b2 s.heap l1 l2).get? c=some o->(EZ b1 b2 s.heap l1 l2).get? c=some o:=fun c o e=>PN _ (PN _ (PN _ e))
 have g5:(EZ b1 b2 s.heap l1 l2).get? (JA b1 b2 s.heap l1 l2).objs.size=some _:=PP _ rfl
 have g4:(EZ b1 b2 s.heap l1 l2).get? (JG b1 b2 s.heap l1 l2).objs.size=some _:=PN _ (PP _ rfl)
 have g3:(EZ b1 b2 s.heap l1 l2).get? (Hq b1 b2 s.heap l1 l2).objs.size=some _:=PN _ (PN _ (PP _ rfl))
 have g2:SI b2 (EZ b1 b2 s.heap l1 l2) (A9 b1 s.heap l1).objs.size l2 0:=SI.keep (SI.new (h:=A9 b1 s.heap l1)) fun o e=>u2 _ o e
 have g1:SI b1 (EZ b1 b2 s.heap l1 l2) s.heap.objs.size l1 0:=SI.keep SI.new fun o e=>u1 _ o e
 show _/\_
 rw [z2,z3,z4] at g5
 rw [z1,z2] at g3
 rw [z3] at g4
 rw [z1] at g2
 rw [z4]
 exact⟨⟨_,g5,rfl⟩,h _ g5 g3 g4 g1 g2 fun c o e=>u1 c o (PN _ e)⟩
theorem AA (b : Bool) (l : Qo) (xs : Array Ql) : Meets (Builtin.«enumerate.__new__» ⟨[.type "enumerate", .ref l], []⟩) (fun _ R s => SQ b s.heap l xs /\
      R (.ok (.ret (.ref (A9 b s.heap l).objs.size))) { s with heap:=(A9 b s.heap l).push { cls:=.type "enumerate",data:=.fields #[.none,.bool false,.ref s.heap.objs.size,rawInt 0,.none,.none] } }) :=
  .of_wp fun prog w A R s h=>by
    obtain⟨hp,g,d,tk,os⟩:=s
    obtain⟨q1,h⟩:=h
    have hsub:=sub_enumerate
    have e1:SQ b (Shared.heap ⟨hp,g,d,tk,os⟩) l xs:=q1
    wp_walk using qz e1
    refine wpAny_stack_any fun st=>QG ?_
    split
    · rename_i c _ _ _ _ _
      cases (c==Value.type "enumerate") <;> (wp_walk using qz e1; exact⟨_,rfl,h⟩)
    · wp_walk using qz e1
      exact⟨_,rfl,h⟩
end ZI
namespace TG
open PySem PySem.Spec L2 ZI
variable [bc]
section
variable {X:Cx} {pins:List (Qo×Obj)} {σ:St} {H:Hp} {s:Qu} {h':Qp}
theorem Inv.turnedL {ch:List Qo} {p:Qo} {o:HO} {t':Nat} (I:Inv X pins σ H s) (hf:∀ b∈ch,sf X pins H b) (k:∀ b u,b∉ch->s.heap.get? b=some u->h'.get? b=some u) (hp:s.heap.objs.size<=p) (new:dg X.prog X.w (upd H p o) h' p o) :
  Inv X pins σ (upd H p o) { s with heap:=h',toks:=t' }:=by
 have hn:=I.hok.fresh hp
 have nch:∀ b u,H b=some u->b∉ch:=fun b u e z=>by rw [(hf b z).1] at e; cases e
 refine I.step (g':=s.gens) (d':=s.drawn) (ch:=ch) (fun b hb=>?_) (fun b o _ _ hc e _=>k b o hc e) (fun b o _ _ hc e _=>⟨o.slots,k b o hc e⟩) (fun b u _ q n=>by rw [bg (ME (MC (PJ q) hp))]; exact n)
  (fun b o hc e=>⟨o,k b o hc e⟩) (fun b xs q=>by rw [bg (bM q hn)]; exact q) (fun b u xs q=>by rw [bg (bM q hn)]; exact q) (fun b ps q=>⟨#[],by rw [bg (bM q hn),q]; simp⟩) (fun m hm=>?_) (fun b u e=>?_) I.bare
 ·obtain⟨_,f1,_,f3,f4,f5⟩:=hf b hb
  exact⟨f3,f1,f4,f5⟩
 ·obtain⟨o,es,ep,ho,r⟩:=hm
  exact⟨o,es,ep,k _ o (fun z=>(hf _ z).2.1 rfl) ho,r⟩
 ·by_cases hb:b=p
  ·subst hb; rw [bJ] at e; cases e; exact new
  ·rw [bg hb] at e
   refine(I.hok b u e).stay (fun c v hc q=>k c v ?_ q) (fun c q=>by rw [bg (bM q hn)]; exact q) fun c xs q=>by rw [bg (bM q hn)]; exact q
   rcases hc with z | z
   ·rw [z]; exact nch b u e
   ·exact nch c _ z
theorem Inv.turned0 {ch:List Qo} {t':Nat} (I:Inv X pins σ H s) (hf:∀ b∈ch,sf X pins H b) (k:∀ b u,b∉ch->s.heap.get? b=some u->h'.get? b=some u):Inv X pins σ H { s with heap:=h',toks:=t' }:=by
 have nch:∀ b u,H b=some u->b∉ch:=fun b u e z=>by rw [(hf b z).1] at e; cases e
 refine I.step (g':=s.gens) (d':=s.drawn) (ch:=ch) (fun b hb=>?_) (fun b o _ _ hc e _=>k b o hc e) (fun b o _ _ hc e _=>⟨o.slots,k b o hc e⟩) (fun _ _ _ _ n=>n)
  (fun b o hc e=>⟨o,k b o hc e⟩) (fun _ _ e=>e) (fun _ _ _ e=>e) (fun b ps e=>⟨#[],by rw [e]; simp⟩) (fun m hm=>?_) (fun b u e=>?_) I.bare
 ·obtain⟨_,f1,_,f3,f4,f5⟩:=hf b hb
  exact⟨f3,f1,f4,f5⟩
 ·obtain⟨o,es,ep,ho,r⟩:=hm
  exact⟨o,es,ep,k _ o (fun z=>(hf _ z).2.1 rfl) ho,r⟩
 ·refine(I.hok b u e).stay (fun c v hc q=>k c v ?_ q) (fun _ q=>q) fun _ _ q=>q
  rcases hc with z | z
  ·rw [z]; exact nch b u e
  ·exact nch c _ z
end
def SX (K:O2) (b:Bool) (H:Hp) (a:Qo) (xs:List V):Prop:=if b then mG K H a xs else oR K H a xs
theorem SX.same {K:O2} {b:Bool} {H H':Hp} {a:Qo} {xs:List V} (e:bH H H') (h:SX K b H a xs):SX K b H' a xs:=by
 cases b with
 | true=>exact e.seq (show mG K H a xs from h)
 | false=>exact AK e (show oR K H a xs from h)
section
variable {X:Cx} {pins:List (Qo×Obj)} {σ:St} {H:Hp} {s:Qu}
theorem Inv.sx (I:Inv X pins σ H s) {b:Bool} {a:Qo} {xs:List V} (h:SX X.K b H a xs):∃ its:List Ql,Vals xs its/\SQ b s.heap a its.toArray/\xs.length<=Qq:=by
 cases b with
 | true=>obtain⟨its,r,p,z⟩:=I.list (show mG X.K H a xs from h); exact⟨its,r,p.isList,z⟩
 | false=>obtain⟨its,r,p,z⟩:=I.tuple (show oR X.K H a xs from h); exact⟨its,r,p,z⟩
theorem Inv.sx_inj (I:Inv X pins σ H s) {b:Bool} {a:Qo} {xs ys:List V} (h:SX X.K b H a xs) (h':SX X.K b H a ys):xs=ys:=by
 cases b with
 | true=>exact I.list_inj h h'
 | false=>exact I.tuple_inj h h'
end
def LY (K:O2) (b1 b2:Bool) (a1 a2:Qo):It :=
  ⟨fun i H=>∃ xs ys,SX K b1 H a1 xs/\SX K b2 H a2 ys/\i < xs.length/\i < ys.length,
   fun i H v H'=>∃ p x y,v=.ref p/\H p=none/\H'=upd H p (.tup [x,y])/\(∀ xs,SX K b1 H a1 xs->xs[i]?=some x)/\∀ ys,SX K b2 H a2 ys->ys[i]?=some y,
   fun i H=>∃ xs ys,SX K b1 H a1 xs/\SX K b2 H a2 ys/\(i=xs.length\/(i < xs.length/\i=ys.length))⟩
theorem Cp {P:Qn} {w:Qm} {K:O2} {es:List Qy} {k:Nat} {pos:Pos} {b1 b2:Bool} {a1 a2 z TI TO i1 i2:Qo} (Ap:Apart z TI TO i1 i2 [i1,a1] [i2,a2]) (n1:a1≠i1) (n2:a2≠i2) (n3:z≠i1) (n4:z≠i2):Turn P w K (.Tuple es k pos) (LY K b1 b2 a1 a2) [z,TI,TO,i1,i2] z
  (fun i h=>Rm h z TI TO .none/\Rn h TI (.ref i1) (.ref i2)/\(∃ a b,Rn h TO a b)/\SI b1 h i1 a1 i/\SI b2 h i2 a2 i) where
 mem:=by simp
 obj:=fun i h ⟨hz,hI,⟨a,b,hO⟩,s1,s2⟩ c hc=>by
  simp only [N1,N2,or_false] at hc
  rcases hc with rfl | rfl | rfl | rfl | rfl
  ·exact⟨_,hz,fun v q=>by cases q⟩
  ·exact⟨_,hI,fun v q=>by cases q⟩
  ·exact⟨_,hO,fun v q=>by cases q⟩
  ·exact s1.get
  ·exact s2.get
 keep:=fun i h h' ⟨hz,hI,⟨a,b,hO⟩,s1,s2⟩ kp=>⟨kp z (by simp) _ hz,kp TI (by simp) _ hI,⟨a,b,kp TO (by simp) _ hO⟩,s1.keep fun o e=>kp i1 (by simp) o e,s2.keep fun o e=>kp i2 (by simp) o e⟩
 item:=by
  intro X hP hw hK hc i pins s σ H E I hf ⟨hz,hI,⟨a,b,hO⟩,s1,s2⟩ hg
  subst hP hw hK
  obtain⟨xs,ys,g1,g2,l1,l2⟩:=hg
  obtain⟨its1,r1,q1,z1⟩:=Inv.sx I g1
  obtain⟨its2,r2,q2,z2⟩:=Inv.sx I g2
  have hh:X.A.in1.handled=none:=I.ok.hd hc
  have hT:s.TypeIs (.ref z) "zip":=⟨_,hz,rfl⟩
  unfold pyNext
  refine QD (Rt (Ra (name:=Str.ofString "__next__") hT F.slot_zip_next (Rb F.slot_zip_next hT F.entry_zip_next
   (next_item Ap (mq (A:=X.A.in1) b1 hh i1 a1 n1 its1.toArray) (mq (A:=X.A.in1) b2 hh i2 a2 n2 its2.toArray) hz hI hO ⟨s1,q1⟩ ⟨s2,q2⟩ (by rw [MR,<- r1.length]; exact l1) (by rw [MR,<- r2.length]; exact l2) fun u v g tk p1 p2 hz' hO' t1 t2 hp sz kp=>?_) (F.args_zip_next_1 _))))
  have e1:its1[i]?=some u:=by simpa using p1
  have e2:its2[i]?=some v:=by simpa using p2
  have hx:∃ x,xs[i]?=some x/\RelV x u:=by
   obtain⟨u',hu,ru⟩:=r1.get (i:=i) (x:=xs[i]) (by simp [l1])
   rw [e1] at hu; cases hu
   exact⟨xs[i],by simp [l1],ru⟩
  have hy:∃ y,ys[i]?=some y/\RelV y v:=by
   obtain⟨u',hu,ru⟩:=r2.get (i:=i) (x:=ys[i]) (by simp [l2])
   rw [e2] at hu; cases hu
   exact⟨ys[i],by simp [l2],ru⟩
  obtain⟨x,ex,rx⟩:=hx
  obtain⟨y,ey,ry⟩:=hy
  refine QG ⟨_,rfl,?_⟩
  refine wpAny_letOwnedTupleGo_zip hz' fun g' hz2 sb=>?_
  have hpz:s.heap.objs.size≠z:=MN (PJ hz)
  have hp':Rn g' s.heap.objs.size u v:=sb.extBut _ _ hpz hp
  have I':Inv X pins σ (upd H s.heap.objs.size (.tup [x,y])) { s with heap:=g',toks:=tk }:=Inv.turnedL (ch:=[z,TI,TO,i1,i2]) I hf (fun c o hc e=>by
   simp only [N1,N2,or_false,not_or] at hc
   exact sb.extBut _ _ hc.1 (kp c o hc.1 hc.2.2.1 hc.2.2.2.1 hc.2.2.2.2 e)) (MO _) ⟨by show 2<=Qq; decide,[u,v],.cons rx (.cons ry .nil),_,hp',rfl,_,rfl⟩
  have fr:H s.heap.objs.size=none:=I.fresh
  have ne:∀ c∈[z,TI,TO,i1,i2],c≠s.heap.objs.size:=fun c hc e=>by
   simp only [N1,N2,or_false] at hc
   rcases hc with rfl | rfl | rfl | rfl | rfl
   ·exact hpz e.symm
   ·exact absurd (PJ hI) (by rw [e]; exact MD _)
   ·exact absurd (PJ hO) (by rw [e]; exact MD _)
   ·obtain⟨o,q,_⟩:=s1.get; exact absurd (PJ q) (by rw [e]; exact MD _)
   ·obtain⟨o,q,_⟩:=s2.get; exact absurd (PJ q) (by rw [e]; exact MD _)
  refine⟨.ref s.heap.objs.size,_,I',rfl,⟨_,x,y,rfl,fr,rfl,fun xs' h=>by rw [Inv.sx_inj I h g1]; exact ex,fun ys' h=>by rw [Inv.sx_inj I h g2]; exact ey⟩,⟨hz2,?_,⟨u,v,sb.extBut _ _ Ap.a2 hO'⟩,?_,?_⟩,fun c hc=>by rw [bg (ne c hc)]; exact(hf c hc).1⟩
  ·exact sb.extBut _ _ Ap.a1 (kp TI _ Ap.a1 Ap.a3 Ap.d1 Ap.d2 hI)
  ·exact t1.1.keep fun o e=>sb.extBut _ _ n3.symm e
  ·exact t2.1.keep fun o e=>sb.extBut _ _ n4.symm e
 done:=by
  intro X hP hw hK hc i pins s σ H E I hf ⟨hz,hI,⟨a,b,hO⟩,s1,s2⟩ hg
  subst hP hw hK
  obtain⟨xs,ys,g1,g2,hl⟩:=hg
  obtain⟨its1,r1,q1,z1⟩:=Inv.sx I g1
  obtain⟨its2,r2,q2,z2⟩:=Inv.sx I g2
  have hh:X.A.in1.handled=none:=I.ok.hd hc
  have hT:s.TypeIs (.ref z) "zip":=⟨_,hz,rfl⟩
  unfold pyNext
  refine QD (Rt (Ra (name:=Str.ofString "__next__") hT F.slot_zip_next (Rb F.slot_zip_next hT F.entry_zip_next
   (next_end (i:=i) Ap (mq (A:=X.A.in1) b1 hh i1 a1 n1 its1.toArray) (mq (A:=X.A.in1) b2 hh i2 a2 n2 its2.toArray) hz hI hO ⟨s1,q1⟩ ⟨s2,q2⟩ (by rw [MR,MR,<- r1.length,<- r2.length]; exact hl) fun g e tk kp he=>?_) (F.args_zip_next_1 _))))
  obtain⟨o,ho,hce⟩:=he
  refine QD (wpAny_isInstance (T := "StopIteration") (b:=true) ⟨o,ho,hce⟩ isSubtype_stop ?_)
  refine QG ⟨rfl,Inv.turned0 (ch:=[z,TI,TO,i1,i2]) I hf fun c o hc e=>?_⟩
  simp only [N1,N2,or_false,not_or] at hc
  exact kp c o hc.1 hc.2.2.1 hc.2.2.2.1 hc.2.2.2.2 e
 self:=fun _ _ _ _ _ ⟨hz,_⟩ h=>wpAny_pyIter_zip hz h
def D5:D->Option (Bool×List D)
 | .lst xs=>some (true,xs)
 | .tup xs=>some (false,xs)
 | _=>none
theorem qR {K:O2} {H:Hp} {d:D} {b:Bool} {xs:List D} {v:V} (e:D5 d=some (b,xs)) (h:cA K H d v):∃ a vs,v=.ref a/\SX K b H a vs/\bp K H xs vs:=by
 cases d with
 | lst ys=>cases e; exact cq.mp h
 | tup ys=>cases e; obtain⟨a,vs,e1,e2,e3⟩:=cu.mp h; exact⟨a,vs,e1,oR.of e2,e3⟩
 | _=>cases e
def m8:List D->List D->List D
 | x::xs,y::ys=>.tup [x,y]::m8 xs ys
 | _,_=>[]
theorem pL:∀ xs ys:List D,(m8 xs ys).length=min xs.length ys.length
 | [],_=>by simp [m8]
 | _::_,[]=>by simp [m8]
 | x::xs,y::ys=>by
  rw [m8,MT,pL xs ys,MT,MT]; omega
theorem wm:∀ {xs ys:List D} {i:Nat} {d:D},(m8 xs ys)[i]?=some d->∃ x y,xs[i]?=some x/\ys[i]?=some y/\d=.tup [x,y]
 | [],_,i,d,h=>by simp [m8] at h
 | _::_,[],i,d,h=>by simp [m8] at h
 | x::xs,y::ys,0,d,h=>by
  rw [m8,N3] at h
  cases h
  exact⟨x,y,rfl,rfl,rfl⟩
 | x::xs,y::ys,i+1,d,h=>by
  rw [m8,N4] at h
  obtain⟨a,b,h1,h2,h3⟩:=wm h
  exact⟨a,b,by rw [N4]; exact h1,by rw [N4]; exact h2,h3⟩
theorem Bw {K:O2} {Hd:Hp} {b1 b2:Bool} {a1 a2:Qo} {ds es:List D} {vs ws:List V} (h1:SX K b1 Hd a1 vs) (g1:bp K Hd ds vs) (h2:SX K b2 Hd a2 ws) (g2:bp K Hd es ws):Walk K Hd (LY K b1 b2 a1 a2) (m8 ds es):=fun Hn O' i hO sm =>
  have s':bH Hd Hn:=sm.trans (aO Hn O')
  ⟨fun d e=>by
    obtain⟨x,y,e1,e2,rfl⟩:=wm e
    have l1:i < ds.length:=(List.getElem?_eq_some_iff.mp e1).1
    have l2:i < es.length:=(List.getElem?_eq_some_iff.mp e2).1
    obtain⟨v,ev,dv⟩:=g1.get e1
    obtain⟨w,ew,dw⟩:=g2.get e2
    refine⟨⟨vs,ws,h1.same s',h2.same s',by rw [<- g1.length]; exact l1,by rw [<- g2.length]; exact l2⟩,fun u H2 ⟨p,x',y',eu,hp,eH,q1,q2⟩=>?_⟩
    have z1:=q1 vs (h1.same s')
    rw [ev] at z1; cases z1
    have z2:=q2 ws (h2.same s')
    rw [ew] at z2; cases z2
    subst eH eu
    exact⟨cv hp _,fh hO hp (bL.mpr ⟨v,_,rfl,dv.mono sm,bL.mpr ⟨w,_,rfl,dw.mono sm,cF.mpr rfl⟩⟩)⟩,
   fun hl=>by
    rw [pL] at hl
    refine⟨vs,ws,h1.same s',h2.same s',?_⟩
    rw [<- g1.length,<- g2.length]
    omega⟩
def yv:List D->Option (List D)
 | [a,b]=>(D5 a).bind fun x=>(D5 b).bind fun y=>some (m8 x.2 y.2)
 | _=>none
def vB (f:av->R (List D)):av->R (List D):=fun ρ=>(f ρ).bind fun ds=>rO (yv ds)
section
variable {X:Cx}
theorem Gb {a b c:Qo} (h1:a≠b) (h2:a≠c):a∉[b,c]:=fun h=>by
 rcases List.mem_cons.mp h with z | z
 ·exact h1 z
 ·exact h2 (List.mem_singleton.mp z)
theorem Av {n a1 a2:Qo} (h1:a1 < n) (h2:a2 < n):Apart (n+4) (n+2) (n+3) n (n+1) [n,a1] [n+1,a2]:=by
 have lt:∀ {a b:Nat},a < b->(b:Qo)≠(a:Qo):=fun h=>MN h
 have lt':∀ {a b:Nat},a < b->(a:Qo)≠(b:Qo):=fun h=>ME h
 have g:∀ k:Nat,a1 < n+k:=fun k=>MC h1 (N5 _ _)
 have g':∀ k:Nat,a2 < n+k:=fun k=>MC h2 (N5 _ _)
 have p:∀ {j k:Nat},j < k->n+j < n+k:=fun h=>N6 h n
 have p0:∀ {k:Nat},0 < k->n < n+k:=fun h=>N7 h
 exact⟨lt' (p (by decide)),lt' (p (by decide)),lt' (p (by decide)),Gb (lt (p0 (by decide))) (lt (g 4)),Gb (lt (p0 (by decide))) (lt (g 3)),Gb (lt (p0 (by decide))) (lt (g 1)),
  Gb (lt (p (by decide))) (lt (g' 4)),Gb (lt (p (by decide))) (lt (g' 3)),Gb (lt' (p0 (by decide))) (lt h2),lt (p0 (by decide)),lt (p (by decide)),MI,MI⟩
theorem Gn {pins:List (Qo×Obj)} {s:Qu} {σ:St} {H:Hp} {O:List Qo} {es:List Qy} {k:Nat} {tpos:Pos} {ds r:List D} {vs:List V} {us:List Ql} {RR:It->Hp->Prop} (I:Inv X pins σ H s) (hc:yv ds=some r) (d1:bp X.K (hid H O) ds vs) (rv:Vals vs us) (q:∀ J,Walk X.K (hid H O) J r->RR J H) :
  Qx (model X.prog X.w) X.A (call (.type "zip") us) (fun v s1=>Qx (model X.prog X.w) X.A (pyIter v) (PIE X pins σ (.Tuple es k tpos) RR) X.xe s1) X.xe s:=by
 unfold yv at hc
 split at hc
 ·rename_i a b
  obtain⟨⟨b1,xs⟩,e1,hc⟩:=bind_some hc
  obtain⟨⟨b2,ys⟩,e2,hc⟩:=bind_some hc
  cases hc
  obtain⟨va,vb,rfl,da,db⟩:=d1.two
  obtain⟨u1,u2,rfl,r1,r2⟩:=vals2 rv
  obtain⟨a1,ws1,rfl,x1,y1⟩:=qR e1 da
  obtain⟨a2,ws2,rfl,x2,y2⟩:=qR e2 db
  cases r1
  cases r2
  obtain⟨its1,rr1,q1,_⟩:=Inv.sx I (x1.same (aO H O))
  obtain⟨its2,rr2,q2,_⟩:=Inv.sx I (x2.same (aO H O))
  refine Br q1 q2 fun g hz hI hO s1 s2 kp=>wpAny_pyIter_zip hz ?_
  have Ap:=Av q1.lt q2.lt
  refine⟨_,_,_,_,H,rfl,I.kept (t':=s.toks) kp,Cp (b1:=b1) (b2:=b2) Ap (ME q1.lt) (ME (MC q2.lt (N5 _ 1))) (MN (N7 (by decide))) (MN (N6 (by decide) _)),⟨hz,hI,⟨_,_,hO⟩,s1,s2⟩,fun b hb=>?_,q _ (Bw x1 y1 x2 y2)⟩
  have le:s.heap.objs.size<=b:=by
   simp only [N1,N2,or_false] at hb
   rcases hb with rfl | rfl | rfl | rfl | rfl
   ·exact N5 _ _
   ·exact N5 _ _
   ·exact N5 _ _
   ·exact MO _
   ·exact N5 _ _
  exact I.fpOk le (I.hok.fresh le)
 ·cases hc
theorem Kf {a b:Qy} {es:List Qy} {k:Nat} {tpos:Pos} {f:av->R (List D)} {p pos:Pos} (hg:Gl X "zip") (hm:X.mg "zip"=none) (ha:FA X [a,b] f) (hs:Qz [a,b] X.env=(false,eval a X.env)::Qz [b] X.env:=by rfl) (hpl:(backTo pos (Qz [b] X.env)).any (·.1)=false:=by rfl):FI X (.Tuple es k tpos) (.Call (.Name "zip" p) [a,b] [] pos) (vB f):=by
 intro pins s σ H RR I ⟨O,ρ,E,hG⟩
 have hA:=ha pos pins s σ H (fun vs H1=>∃ ds r,yv ds=some r/\bp X.K (hid H1 O) ds vs/\∀ J,Walk X.K (hid H1 O) J r->RR J H1) I ⟨O,ρ,E,(hV.bind hG).imp fun ds hG vs H1 s1 d1=>by
  obtain⟨r,e,q⟩:=hV.rO hG
  exact⟨ds,r,e,d1,fun J wk=>q J H1 s1 wk⟩⟩
 refine P5 (nv I hg hm PyProof.Rows.boot_zip (PY (dB hA fun us s1 ⟨vs,H1,I1,r1,ds,r,er,d1,q⟩=>?_) hs hpl))
 exact Gn I1 er d1 r1 q
end
def L6 (K:O2) (b:Bool) (a:Qo):It :=
  ⟨fun i H=>∃ xs,SX K b H a xs/\i < xs.length,
   fun i H v H'=>∃ p x,v=.ref p/\H p=none/\H'=upd H p (.tup [.int i,x])/\∀ xs,SX K b H a xs->xs[i]?=some x,
   fun i H=>∃ xs,SX K b H a xs/\i=xs.length⟩
theorem Aq {P:Qn} {w:Qm} {K:O2} {es:List Qy} {k:Nat} {pos:Pos} {b:Bool} {a e it:Qo} (n1:a≠it) (n2:e≠it) (n3:e≠a):Turn P w K (.Tuple es k pos) (L6 K b a) [e,it] e (fun i h=>(∃ old,IsEnum h e it i old)/\SI b h it a i) where
 mem:=by simp
 obj:=fun i h ⟨⟨old,he⟩,s1⟩ c hc=>by
  simp only [N1,N2,or_false] at hc
  rcases hc with rfl | rfl
  ·exact⟨_,he,fun v q=>by cases q⟩
  ·exact s1.get
 keep:=fun i h h' ⟨⟨old,he⟩,s1⟩ kp=>⟨⟨old,kp e (by simp) _ he⟩,s1.keep fun o q=>kp it (by simp) o q⟩
 item:=by
  intro X hP hw hK hc i pins s σ H E I hf ⟨⟨old,he⟩,s1⟩ hg
  subst hP hw hK
  obtain⟨xs,g1,l1⟩:=hg
  obtain⟨its,r1,q1,z1⟩:=Inv.sx I g1
  have hh:X.A.in1.handled=none:=I.ok.hd hc
  refine wpAny_pyNext_enum_itemD (mq (A:=X.A.in1) b hh it a n1 its.toArray) he ⟨s1,q1⟩ (by rw [MR,<- r1.length]; exact l1) n2 (Gb n2 n3) fun u g tk p1 ho t1 hp sz kp=>?_
  have e1:its[i]?=some u:=by simpa using p1
  obtain⟨u',hu,ru⟩:=r1.get (i:=i) (x:=xs[i]) (by simp [l1])
  rw [e1] at hu; cases hu
  refine⟨_,rfl,wpAny_letOwnedTupleGo_enum ho fun g' he' sb=>?_⟩
  have hpe:s.heap.objs.size≠e:=MN (PJ he)
  have hp':=sb.extBut _ _ hpe hp
  have I':Inv X pins σ (upd H s.heap.objs.size (.tup [.int i,xs[i]])) { s with heap:=g',toks:=tk+1 }:=Inv.turnedL (ch:=[e,it]) I hf (fun c o hc q=>by
   simp only [N1,N2,or_false,not_or] at hc
   exact sb.extBut _ _ hc.1 (kp c o hc.1 hc.2 q)) (MO _) ⟨by show 2<=Qq; decide,[.int i tk,u],.cons ⟨_,rfl⟩ (.cons ru .nil),_,hp',rfl,_,rfl⟩
  have ne:∀ c∈[e,it],c≠s.heap.objs.size:=fun c hc q=>by
   simp only [N1,N2,or_false] at hc
   rcases hc with rfl | rfl
   ·exact hpe q.symm
   ·obtain⟨o,q',_⟩:=s1.get; exact absurd (PJ q') (by rw [q]; exact MD _)
  refine⟨.ref s.heap.objs.size,_,I',rfl,⟨_,xs[i],rfl,I.fresh,rfl,fun xs' h=>by rw [Inv.sx_inj I h g1]; simp [l1]⟩,⟨⟨u,?_⟩,t1.1.keep fun o q=>sb.extBut _ _ n2.symm q⟩,fun c hc=>by rw [bg (ne c hc)]; exact(hf c hc).1⟩
  have ei:((i+1:Nat):Int)=(i:Int)+1:=by omega
  rw [ei]; exact he'
 done:=by
  intro X hP hw hK hc i pins s σ H E I hf ⟨⟨old,he⟩,s1⟩ hg
  subst hP hw hK
  obtain⟨xs,g1,l1⟩:=hg
  obtain⟨its,r1,q1,z1⟩:=Inv.sx I g1
  have hh:X.A.in1.handled=none:=I.ok.hd hc
  have el:i=its.toArray.size:=by rw [MR,<- r1.length]; exact l1
  refine wpAny_pyNext_enum_endD (mq (A:=X.A.in1) b hh it a n1 its.toArray) he ⟨by rw [<- el]; exact s1,q1⟩ fun g kp=>⟨rfl,Inv.turned0 (ch:=[e,it]) I hf fun c o hc q=>?_⟩
  simp only [N1,N2,or_false,not_or] at hc
  exact kp c o hc.2 q
 self:=fun _ _ _ _ _ ⟨⟨old,he⟩,_⟩ h=>wpAny_pyIter_enum he h
def ku (i:Nat):List D->List D
 | []=>[]
 | x::xs=>.tup [.int i,x]::ku (i+1) xs
theorem nV:∀ (i:Nat) (xs:List D),(ku i xs).length=xs.length
 | _,[]=>rfl
 | i,x::xs=>by rw [ku,MT,nV (i+1) xs,MT]
theorem tE:∀ {xs:List D} {k i:Nat} {d:D},(ku k xs)[i]?=some d->∃ x,xs[i]?=some x/\d=.tup [.int ((k+i:Nat):Int),x]
 | [],k,i,d,h=>by simp [ku] at h
 | x::xs,k,0,d,h=>by
  rw [ku,N3] at h
  cases h
  exact⟨x,rfl,rfl⟩
 | x::xs,k,i+1,d,h=>by
  rw [ku,N4] at h
  obtain⟨y,h1,h2⟩:=tE h
  refine⟨y,by rw [N4]; exact h1,?_⟩
  rw [h2]
  congr 4
  omega
theorem Ao {K:O2} {Hd:Hp} {b:Bool} {a:Qo} {ds:List D} {vs:List V} (h1:SX K b Hd a vs) (g1:bp K Hd ds vs):Walk K Hd (L6 K b a) (ku 0 ds):=fun Hn O' i hO sm =>
  have s':bH Hd Hn:=sm.trans (aO Hn O')
  ⟨fun d e=>by
    obtain⟨x,e1,rfl⟩:=tE e
    have l1:i < ds.length:=(List.getElem?_eq_some_iff.mp e1).1
    obtain⟨v,ev,dv⟩:=g1.get e1
    refine⟨⟨vs,h1.same s',by rw [<- g1.length]; exact l1⟩,fun u H2 ⟨p,x',eu,hp,eH,q1⟩=>?_⟩
    have z1:=q1 vs (h1.same s')
    rw [ev] at z1; cases z1
    subst eH eu
    rw [N8]
    exact⟨cv hp _,fh hO hp (bL.mpr ⟨.int i,_,rfl,eU.mpr rfl,bL.mpr ⟨v,_,rfl,dv.mono sm,cF.mpr rfl⟩⟩)⟩,
   fun hl=>by
    rw [nV] at hl
    exact⟨vs,h1.same s',by rw [<- g1.length]; exact hl⟩⟩
def ug:List D->Option (List D)
 | [a]=>(D5 a).bind fun x=>some (ku 0 x.2)
 | _=>none
def gz (f:av->R (List D)):av->R (List D):=fun ρ=>(f ρ).bind fun ds=>rO (ug ds)
section
variable {X:Cx}
theorem A8 {prog:Qn} {w:Qm} {A:Qt} {E:Ql->Qu->Prop} {s:Qu} {b:Bool} {l:Qo} {xs:Array Ql} {Q:Ql->Qu->Prop} (h1:SQ b s.heap l xs)
  (h:∀ g,IsEnum g (s.heap.objs.size+1) s.heap.objs.size 0 .none->SI b g s.heap.objs.size l 0->(∀ c o,s.heap.get? c=some o->g.get? c=some o)->Q (.ref (s.heap.objs.size+1)) { s with heap:=g }):Qx (model prog w) A (call (.type "enumerate") [.ref l]) Q E s:=by
 refine callType_new F.called_enumerate (by decide) (F.typeCall_enumerate_1 _) (F.newCall_enumerate_1 _) (fun obj=>F.args_object_init_2 obj _) F.entry_enumerate_new (AA b l xs) ⟨h1,?_⟩
 have z1:(A9 b s.heap l).objs.size=s.heap.objs.size+1:=PQ ..
 have g2:=PP (A9 b s.heap l) (o:={ cls:=.type "enumerate",data:=.fields #[.none,.bool false,.ref s.heap.objs.size,rawInt 0,.none,.none] }) rfl
 have g1:SI b ((A9 b s.heap l).push { cls:=.type "enumerate",data:=.fields #[.none,.bool false,.ref s.heap.objs.size,rawInt 0,.none,.none] }) s.heap.objs.size l 0:=SI.keep SI.new fun o e=>PN _ e
 show _/\_
 rw [z1] at g2 ⊢
 exact⟨⟨_,g2,rfl⟩,h _ g2 g1 fun c o e=>PN _ (PN _ e)⟩
theorem En {pins:List (Qo×Obj)} {s:Qu} {σ:St} {H:Hp} {O:List Qo} {es:List Qy} {k:Nat} {tpos:Pos} {ds r:List D} {vs:List V} {us:List Ql} {RR:It->Hp->Prop} (I:Inv X pins σ H s) (hc:ug ds=some r) (d1:bp X.K (hid H O) ds vs) (rv:Vals vs us) (q:∀ J,Walk X.K (hid H O) J r->RR J H) :
  Qx (model X.prog X.w) X.A (call (.type "enumerate") us) (fun v s1=>Qx (model X.prog X.w) X.A (pyIter v) (PIE X pins σ (.Tuple es k tpos) RR) X.xe s1) X.xe s:=by
 unfold ug at hc
 split at hc
 ·rename_i a
  obtain⟨⟨b1,xs⟩,e1,hc⟩:=bind_some hc
  cases hc
  obtain⟨va,rfl,da⟩:=d1.one
  obtain⟨u1,rfl,r1⟩:=vals1 rv
  obtain⟨a1,ws1,rfl,x1,y1⟩:=qR e1 da
  cases r1
  obtain⟨its1,rr1,q1,_⟩:=Inv.sx I (x1.same (aO H O))
  refine A8 q1 fun g he s1 kp=>wpAny_pyIter_enum he ?_
  refine⟨_,_,_,_,H,rfl,I.kept (t':=s.toks) kp,Aq (b:=b1) (ME q1.lt) (MN (N7 (by decide))) (MN (MC q1.lt (N5 _ 1))),⟨⟨_,he⟩,s1⟩,fun b hb=>?_,q _ (Ao x1 y1)⟩
  have le:s.heap.objs.size<=b:=by
   simp only [N1,N2,or_false] at hb
   rcases hb with rfl | rfl
   ·exact N5 _ _
   ·exact MO _
  exact I.fpOk le (I.hok.fresh le)
 ·cases hc
theorem DU {a:Qy} {es:List Qy} {k:Nat} {tpos:Pos} {f:av->R (List D)} {p pos:Pos} (hg:Gl X "enumerate") (hm:X.mg "enumerate"=none) (ha:FA X [a] f) (hs:Qz [a] X.env=(false,eval a X.env)::Qz [] X.env:=by rfl) (hpl:(backTo pos (Qz [] X.env)).any (·.1)=false:=by rfl):FI X (.Tuple es k tpos) (.Call (.Name "enumerate" p) [a] [] pos) (gz f):=by
 intro pins s σ H RR I ⟨O,ρ,E,hG⟩
 have hA:=ha pos pins s σ H (fun vs H1=>∃ ds r,ug ds=some r/\bp X.K (hid H1 O) ds vs/\∀ J,Walk X.K (hid H1 O) J r->RR J H1) I ⟨O,ρ,E,(hV.bind hG).imp fun ds hG vs H1 s1 d1=>by
  obtain⟨r,e,q⟩:=hV.rO hG
  exact⟨ds,r,e,d1,fun J wk=>q J H1 s1 wk⟩⟩
 refine P5 (nv I hg hm PyProof.Rows.boot_enumerate (PY (dB hA fun us s1 ⟨vs,H1,I1,r1,ds,r,er,d1,q⟩=>?_) hs hpl))
 exact En I1 er d1 r1 q
end
end TG
namespace TG
open PySem PySem.Spec L2
variable [bc]

theorem lw {K:O2} {c:Str} {C C':Qo} (h:clsAt K c C) (h':clsAt K c C'):C=C':=by
 unfold clsAt at h h'
 rw [h] at h'
 cases h'; rfl
theorem qM {K:O2} {H:Hp} {f:Str}:∀ {fs:List Str} {ds:List D} {vs:List V} {d:D},bp K H ds vs->(fs.zip ds).lookup f=some d->∃ v,(fs.zip vs).lookup f=some v/\cA K H d v
 | [],_,_,_,_,e=>by simp at e
 | _::_,[],_,_,_,e=>by simp at e
 | g::fs,x::ds,vs,d,h,e=>by
  rw [bL] at h
  obtain⟨v,r,rfl,h1,h2⟩:=h
  rw [N9,Nu] at e ⊢
  cases hg:f==g with
  | true=>rw [hg] at e; cases e; exact⟨v,rfl,h1⟩
  | false=>rw [hg] at e; exact qM h2 e
theorem tL {f:Str}:∀ {fs:List Str} {vs:List V},fs.contains f=false->(fs.zip vs).lookup f=none
 | [],_,_=>by simp
 | _::_,[],_=>by simp
 | g::fs,x::vs,h=>by
  rw [Oa,Oc] at h
  rw [N9,Nu,h.1]
  exact tL h.2
def BM (f:Str) (cs:List Str) (d:D):Option D:=match d with
 | .obj c fs vs=>if cs.contains c then (fs.zip vs).lookup f else none
 | _=>none
def zf (K:O2) (f:Str) (cs:List Str):Prop:=∀ c∈cs,∀ C,clsAt K c C->yi K C/\kn K C f
section
variable {X:Cx} {a o e:Qy} {es:List Qy} {fa fo:FX} {fas:av->R (List D)} {f m x:Str} {cs:List Str} {pos apos p:Pos} {k k':Nat} {ps:List Str}
theorem Lp (ok:zf X.K f cs) (h:FE X a fa) (hb:QS a f X.env (eval a X.env)=eval a X.env:=by rfl):FE X (.Attribute a f pos) (f1 (BM f cs) fa) :=
 PE.weak (G4 h hb) fun σ H Q ⟨O,ρ,E,hF⟩=>⟨O,ρ,E,(hV.bind hF).imp fun d hF v H1 s1 d1=>by
  obtain⟨r,e,q⟩:=hV.rO hF
  cases d with
  | obj c fs vs =>
   have e':(if cs.contains c then (fs.zip vs).lookup f else none)=some r:=e
   cases hc:cs.contains c with
   | false=>rw [hc] at e'; cases e'
   | true =>
    rw [hc] at e'
    obtain⟨a,ws,ev,g1,g2,C,dx,g3,g4⟩:=DT.mp d1
    obtain⟨w,l1,l2⟩:=qM g1 e'
    obtain⟨cl,na⟩:=ok c (List.contains_iff_mem.mp hc) C g3
    exact⟨a,C,dx,_,w,ev,aO H1 O _ _ g4,cl,na,l1,q w H1 s1 l2⟩
  | _=>cases e⟩
def MethAt (P:Qn) (w:Qm) (K:O2) (mg:Str->Option Ql) (base:Qp) (k:Nat) (c m:Str) (ps:List Str) (g:List D->R D):Prop :=
 ∃ C f fd,clsAt K c C/\yi K C/\Meth K C m f/\jn P w K mg base (nc P w) k f fd ps (Ab K ps.length g)/\Binds K fd ps []
def uf (m:Str) (tbl:List (Str×(List D->R D))) (fo:FX) (fas:av->R (List D)):FX:=fun ρ=>(fo ρ).bind fun o=>match o with
 | .obj c fs vs=>match tbl.lookup c with
  | some g=>if fs.contains m then un else (fas ρ).bind fun as=>g (o::as)
  | none=>un
 | _=>un
def pR (P:Qn) (w:Qm) (K:O2) (mg:Str->Option Ql) (base:Qp) (k:Nat) (m:Str) (ps:List Str) (tbl:List (Str×(List D->R D))):Prop :=
 ∀ c g,tbl.lookup c=some g->MethAt P w K mg base k c m ps g/\Ar ps.length g
theorem Du {P:Qn} {w:Qm} {K:O2} {mg:Str->Option Ql} {base:Qp}:pR P w K mg base k m ps []:=fun _ _ h=>nomatch h
theorem vO {P:Qn} {w:Qm} {K:O2} {mg:Str->Option Ql} {base:Qp} {c:Str} {g:List D->R D} {tbl:List (Str×(List D->R D))} (h:MethAt P w K mg base k c m ps g) (hn:Ar ps.length g) (t:pR P w K mg base k m ps tbl):pR P w K mg base k m ps ((c,g)::tbl):=fun c' g' e=>by
 rw [Nu] at e
 cases hc:c'==c with
 | true =>
  rw [hc] at e
  cases e
  have:c'=c:=by simpa using hc
  subst this
  exact⟨h,hn⟩
 | false=>rw [hc] at e; exact t c' g' e
theorem MethAt.mono {P:Qn} {w:Qm} {K:O2} {mg:Str->Option Ql} {base:Qp} {c:Str} {g:List D->R D} (h:MethAt P w K mg base k c m ps g) (hk:k<=k'):MethAt P w K mg base k' c m ps g:=by
 obtain⟨C,f,fd,h1,h2,h3,h4,h5⟩:=h
 exact⟨C,f,fd,h1,h2,h3,h4.mono hk,h5⟩
theorem BL {tbl:List (Str×(List D->R D))} {args:List Qy} {pl:Sem Bool} (tb:pR X.prog X.w X.K X.mg X.base k m ps tbl) (hr:fX k X.A) (ho:FE X o fo)
  (hc:∀ (pins:List (Qo×Obj)) (s1:Qu) (σ:St) (H1:Hp) (O:List Qo) (ρ:av) (a f:Qo) (od:D) (Q:VK) (g:List D->R D) (fd:QX) (w0:V),Pl X.K (.ref f)=true->jn X.prog X.w X.K X.mg X.base (nc X.prog X.w) k f fd ps (Ab X.K ps.length g)->Binds X.K fd ps []->Ar ps.length g->Inv X pins σ H1 s1->dM X.K O H1 ρ σ->cA X.K (hid H1 O) od (.ref a) ->
   (hV X σ O H1 ((fas ρ).bind fun as=>g (od::as)) fun d=>∀ v H',bH H1 H'->cA X.K (hid H' O) d v->Q v H') ->
   Qx (model X.prog X.w) X.A (QT pos (.ref f) [.ref a] (backTo pos (Qz args X.env)) (backToKw pos (QU [] X.env))) (EP X pins σ Q) X.xe s1)
  (ht:eval (.Call (.Attribute o m apos) args [] pos) X.env=(do
   let ov <- eval o X.env
   standAt apos.atName
   let (f,first) <- holding [ov] (getMethod ov m pl)
   QT pos f first (backTo pos (Qz args X.env)) (backToKw pos (QU [] X.env)))) :
  FE X (.Call (.Attribute o m apos) args [] pos) (uf m tbl fo fas):=by
 intro pins s σ H Q I ⟨O,ρ,E,hF⟩
 refine vI ho I ?_ ht
 refine⟨O,ρ,E,(hV.bind hF).imp fun d hF v H1 s1 d1=>?_⟩
 cases d with
 | obj c fs vs =>
  have hF':hV X σ O H (match tbl.lookup c with | some g=>if fs.contains m then un else (fas ρ).bind fun as=>g (.obj c fs vs::as) | none=>un) _:=hF
  cases hg:tbl.lookup c with
  | none=>rw [hg] at hF'; exact hF'.elim
  | some g =>
   rw [hg] at hF'
   have hF2:hV X σ O H (if fs.contains m then un else (fas ρ).bind fun as=>g (.obj c fs vs::as)) _:=hF'
   cases hm:fs.contains m with
   | true=>rw [hm] at hF2; exact hF2.elim
   | false =>
    rw [hm] at hF2
    have hF3:hV X σ O H ((fas ρ).bind fun as=>g (.obj c fs vs::as)) _:=hF2
    have d0:=d1
    obtain⟨a,ws,ev,g1,g2,C,dx,g3,g4⟩:=DT.mp d1
    obtain⟨⟨C',f,fd,m1,m2,m3,m4,m5⟩,ar⟩:=tb c g hg
    have eC:=lw g3 m1
    subst eC
    subst ev
    refine⟨a,C,dx,_,f,rfl,aO H1 O _ _ g4,m2,m3,tL hm,fun s2 I2=>?_⟩
    exact hc pins s2 σ H1 O ρ a f _ Q g fd (.ref a) m3.kp m4 m5 ar I2 (E.same s1) d0 ((hF3.mono s1).imp fun d q v H2 s2 d2=>q v H2 (s1.trans s2) d2)
 | _=>exact hF.elim
theorem xO {σ:St} {O:List Qo} {H:Hp} {g:List D->R D} {ds:List D} {vs:List V} {Q:VK} {n:Nat} (ar:Ar n g) (hO:dD H O) (d1:bp X.K (hid H O) ds vs) (h:hV X σ O H (g ds) fun d=>∀ v H',bH H H'->cA X.K (hid H' O) d v->Q v H'):∃ E,jB (nc X.prog X.w) X σ E/\Ab X.K n g vs H Q E:=by
 cases hg:g ds with
 | ok d =>
  rw [hg] at h
  refine⟨E0,yD,O,ds,by rw [<- d1.length]; exact ar ds (by rw [hg]; intro z; cases z),hO,d1,?_⟩
  rw [hg]; exact h
 | error z =>
  rw [hg] at h
  cases z with
  | none=>exact h.elim
  | some x =>
   refine⟨zu X O H x,zF h,O,ds,by rw [<- d1.length]; exact ar ds (by rw [hg]; intro z; cases z),hO,d1,?_⟩
   rw [hg]; exact vD
theorem JC {tbl:List (Str×(List D->R D))} {pl:Sem Bool} (tb:pR X.prog X.w X.K X.mg X.base k m ps tbl) (hr:fX k' X.A) (hk:k<=k') (ho:FE X o fo) (ha:FA X (e::es) fas)
  (hns:(e::es).all noStar=true:=by rfl)
  (ht:eval (.Call (.Attribute o m apos) (e::es) [] pos) X.env=(do
   let ov <- eval o X.env
   standAt apos.atName
   let (f,first) <- holding [ov] (getMethod ov m pl)
   QT pos f first (backTo pos (Qz (e::es) X.env)) (backToKw pos (QU [] X.env))):=by rfl) :
  FE X (.Call (.Attribute o m apos) (e::es) [] pos) (uf m tbl fo fas) :=
 BL tb (hr.mono hk) ho (fun pins s1 σ H1 O ρ a f od Q g fd _ kp F b ar I1 E1 dO hP=>by
  refine Pm (first:=[.ref a]) (h₀:=X.base) I1.ok.mod.kin kp (dB (ha pos pins s1 σ H1 _ I1 ⟨O,ρ,E1,(hV.bind hP).imp fun as hP vs H2 s2 d2=>xO (vs:=.ref a::vs) ar (E1.all.same s2) (bL.mpr ⟨_,_,rfl,dO.mono (cE s2),d2⟩) ((hP.mono s2).imp fun d q v H3 s3 d3=>q v H3 (s2.trans s3) d3)⟩) fun us s2 ⟨vs,H2,I2,r,Ex,hx,q2⟩=>⟨I2.kIn,?_⟩) (cS (Nc _ _ ▸ hns).1) (dE (Nc _ _ ▸ hns).2)
  exact yP (us:=.ref a::us) (vs:=.ref a::vs) F (hr.mono hk) b hx I2 (.cons rfl r) q2) ht
theorem sR {P:Qn} {w:Qm} {K:O2} {mg:Str->Option Ql} {base:Qp} {c y qual:Str} {C f:Qo} {fd:QX} {st:QA} {N:List Str} {B:ca} (h1:clsAt K c C) (h2:yi K C) (h3:Meth K C m f) (F:w8 K y qual st f fd) (b:Binds K fd ps []) (SC:bh N ps (aB st)) (hb:BodyOk P w K mg base k N qual st f B) :
  MethAt P w K mg base (k+1) c m ps (bv B ps.length N.length):=⟨C,f,fd,h1,h2,h3,uw F SC hb,b⟩
def Mv (C:Qo) (fs:List Str):Sp:=fun vs H Q _=>∃ x dx as,vs=.ref x::as/\as.length=fs.length/\H x=some (.ins C dx [])/\Q .non (upd H x (.ins C dx (fs.zip as)))
def rF (P:Qn) (w:Qm) (K:O2) (mg:Str->Option Ql) (base:Qp) (k:Nat) (c:Str) (ps fs:List Str):Prop :=
 ∃ C f fd,clsAt K c C/\Mk K C f/\jn P w K mg base (nc P w) k f fd ps (Mv C fs)/\Binds K fd ps []/\mg c=some (.ref C)
def fNew (c:Str) (fs:List Str) (fas:av->R (List D)):FX:=fun ρ=>(fas ρ).bind fun as=>if as.length=fs.length then .ok (.obj c fs as) else un
theorem vQ {K:O2} {H1:Hp} {O:List Qo} {c:Str} {fs:List Str} {as:List D} {vs:List V} {C x dx:Qo} (hc:clsAt K c C) (hl:as.length=fs.length) (d1:bp K (hid H1 O) as vs) (hO:dD H1 O) (hx:H1 x=none) (hd:H1 dx=none) (ne:dx≠x) :
  bH H1 (upd (upd (upd H1 dx (.own x)) x (.ins C dx [])) x (.ins C dx (fs.zip vs)))/\cA K (hid (upd (upd (upd H1 dx (.own x)) x (.ins C dx [])) x (.ins C dx (fs.zip vs))) O) (.obj c fs as) (.ref x):=by
 have sm:bH H1 (upd (upd (upd H1 dx (.own x)) x (.ins C dx [])) x (.ins C dx (fs.zip vs))):=fun b o h=>by
  have n1:=bM h hx
  have n2:=bM h hd
  rw [bg n1,bg n1,bg n2]; exact h
 exact⟨sm,DT.mpr ⟨x,vs,rfl,d1.mono (cE sm),by rw [<- d1.length,hl],C,dx,hc,by rw [li (hO.not hx),bJ]⟩⟩
theorem HI {X:Cx}:xY (nc X.prog X.w) X E0:=fun _ _ _ _ _ _ _ h=>by
 obtain⟨_,_,_,_,_,_,_,_,_,_,_,_,_,z⟩:=h
 exact z.elim
theorem Ka {c:Str} {fs:List Str} (IA:rF X.prog X.w X.K X.mg X.base k c ps fs) (hr:fX k' X.A) (hk:k+1<=k') (hg:Gl X c) (ha:FA X (e::es) fas) (hdb:(c==("__debug__":Str))=false:=by decide)
  (hns:(e::es).all noStar=true:=by rfl):FE X (.Call (.Name c p) (e::es) [] pos) (fNew c fs fas):=by
 obtain⟨C,f,fd,h1,h2,h3,h4,h5⟩:=IA
 refine PE.weak (DV (dvs:=[]) (E:=E0) h2 h3 (hr.mono hk) hg h5 h4 .nil HI ha hdb (cS (Nc _ _ ▸ hns).1) (dE (Nc _ _ ▸ hns).2)) fun σ H Q ⟨O,ρ,E,hF⟩=>⟨O,ρ,E,(hV.bind hF).imp fun as hF vs H1 s1 d1 x dx hx hd ne=>?_⟩
 by_cases hl:as.length=fs.length
 ·rw [if_pos hl] at hF
  rw [MZ]
  refine⟨x,dx,vs,rfl,by rw [<- d1.length,hl],by rw [bJ],rfl,?_⟩
  obtain⟨sm,dn⟩:=vQ h1 hl d1 (E.all.same s1) hx hd ne
  exact hF _ _ (s1.trans sm) dn
 ·rw [if_neg hl] at hF; exact hF.elim
theorem wU (f:Str) (v:V):∀ {fs:List (Str×V)},(fs.map (·.1)).contains f=false->kz f v fs=fs++[(f,v)]
 | [],_=>rfl
 | (g,w)::fs,h=>by
  rw [MU,Oa,Oc] at h
  have ne:¬ g=f:=fun z=>by
   have:=h.1
   rw [z] at this
   simp at this
  have:=wU f v (fs:=fs) h.2
  unfold kz
  simp only [ne,if_false,this,Ny]
def Fo (X:Cx) (cs:List Str) (body:List QA) (fs:List Str) (i:Nat):Prop :=
 ∃ t,vC X body t/\∀ (D:Ends) (σ:St) (H:Hp) (x dx C:Qo) (done:List (Str×V)) (as:List V),σ[0]?=some (some (.ref x))->(∀ j v,as[j]?=some v->σ[i+j]?=some (some v))->as.length=fs.length->yi X.K C->(∀ f∈fs,kn X.K C f)->done.length+fs.length < 1000->(done.map (·.1)++fs).Nodup->H x=some (.ins C dx done) ->
  D.nx σ (upd H x (.ins C dx (done++fs.zip as)))->t D σ H
theorem Ag {st:QA} {f:Str} {i:Nat} {o v:Qy} {p1 p2:Pos} (hst:st=.Assign [.Attribute o f p1] v p2) (ho:PE X o (qd 0)) (hv:PE X v (qd i)) (hs:swapsWith v (some (.Attribute o f p1)) p2.line X.env=pure false):Fo X cs [st] [f] i:=by
 subst hst
 refine⟨_,yz (GI ho hv hs),fun D σ H x dx C done as h0 ha hl cl na hz nd hx q=>?_⟩
 obtain⟨a,rfl⟩:∃ a,as=[a]:=by
  match as,hl with
  | [a],_=>exact⟨a,rfl⟩
 refine⟨a,ha 0 a rfl,.ref x,h0,x,C,dx,done,rfl,hx,cl,na f (List.mem_singleton.mpr rfl),by simp at hz; omega,?_⟩
 rw [wU f a (by
  have:=nd
  rw [List.nodup_append] at this
  have h3:=this.2.2
  cases hc:(done.map (·.1)).contains f with
  | false=>rfl
  | true=>exact absurd rfl (h3 f (List.contains_iff_mem.mp hc) f (List.mem_singleton.mpr rfl)))]
 exact q
theorem Af {P:Qn} {w:Qm} {K:O2} {mg:Str->Option Ql} {base:Qp} {c qual:Str} {C f:Qo} {fd:QX} {st:QA} {fs:List Str} (h1:clsAt K c C) (hM:Mk K C f) (cl:yi K C) (na:∀ g∈fs,kn K C g) (F:w8 K "__init__" qual st f fd) (b:Binds K fd ps []) (hmg:mg c=some (.ref C)) (SC:bh ps ps (aB st)) (hps:ps.length=fs.length+1) (hnd:fs.Nodup) (hlen:fs.length < 1000)
  (hb:∀ (cdv:Ql) (A:Qt) (outer:List Env) (s:Qu) (H:Hp) (E:XK),Fo (kB JH P w K mg base ps qual (aB st) f cdv A outer s H E).nox [] (eF st) fs 1):rF P w K mg base (k+1) c ps fs:=by
 refine⟨C,f,fd,h1,hM,?_,b,hmg⟩
 refine jn.any (F.ok SC (fun vs H Q E h=>?_) fun cdv A outer s H vs Q E hr h=>?_)
 ·obtain⟨x,dx,as,rfl,hl,_⟩:=h
  rw [MT,hl,hps]
 ·obtain⟨t,ht,hq⟩:=hb cdv A outer s H E
  obtain⟨x,dx,as,rfl,hl,hx,q⟩:=h
  have hst:L2.start ps (.ref x::as)=(.ref x::as).map some:=by
   unfold L2.start
   rw [MT,hl,hps,Od,Oe,MZ]
  refine⟨t,ht,hq _ _ H x dx C [] as (by rw [hst]; rfl) (fun j v e=>?_) hl cl na (by simpa using hlen) (by simpa using hnd) hx q⟩
  rw [hst,Nat.add_comm,MU,N4,M6,e]; rfl
end
end TG
namespace TG
open PySem PySem.Spec L2
variable [bc]
section
variable {X:Cx}
def MB:D->Option Str
 | .str z=>some z
 | _=>none
def LD (a b:D):Option D:=match a,b with
 | .bl c,.bl d=>some (.bl (c==d))
 | _,_=>none
def DH (a b:D):Option D:=match a,b with
 | .bl c,.bl d=>some (.bl (!(c==d)))
 | _,_=>none
end
section
variable {X:Cx} {C:Qo} {pins:List (Qo×Obj)} {σ:St} {H:Hp} {s:Qu} {Q:VK}
end
end TG
namespace TG
open PySem PySem.Spec PyProof.Rows L2
variable [bc]
def eP:List D->List D->Option Bool
 | [],[]=>some false
 | [],_::_=>some true
 | _::_,[]=>some false
 | a::as,b::bs=>match a,b with
  | .int i,.int j=>if i=j then eP as bs else some (decide (i < j))
  | .str x,.str y=>if x=y then eP as bs else some (decide (x.cps.toList < y.cps.toList))
  | _,_=>none
inductive gS:List Ql->List D->Prop where
 | nil:gS [] []
 | int (i:Int) (t:Tok) {vs:List Ql} {ds:List D} (h:gS vs ds):gS (.int i t::vs) (.int i::ds)
 | str (x:Str) (t:Tok) {vs:List Ql} {ds:List D} (h:gS vs ds):gS (.str x t::vs) (.str x::ds)
theorem gS.length:∀ {vs:List Ql} {ds:List D},gS vs ds->vs.length=ds.length
 | _,_,.nil=>rfl
 | _,_,.int _ _ h=>by rw [MT,MT,h.length]
 | _,_,.str _ _ h=>by rw [MT,MT,h.length]
theorem Fi (A:Qt) (s:Qu) (a:Int) (t:Tok) (c:Int) (u:Tok):∃ e,SeqAt.EqAt A s (.int a t) (.int c u) e/\(e=true↔a=c) :=
 ⟨(a==c),SeqAt.EqAt.int_int a t c u,by simp⟩
theorem EL (A:Qt) (s:Qu) (a:Str) (t:Tok) (c:Str) (u:Tok):∃ e,SeqAt.EqAt A s (.str a t) (.str c u) e/\(e=true↔a=c) :=
 ⟨(a==c),SeqAt.EqAt.str_str a t c u,by simp⟩
theorem HZ (A:Qt) (s:Qu) (a:Str) (t:Tok) (c:Str) (u:Tok) (prog:Qn) (w:Qm) (E:Ql->Qu->Prop) (Q:Ql->Qu->Prop) (h:Q (.bool (decide (a.cps.toList < c.cps.toList))) s) :
  Qx (model prog w) A (richCompare .Lt (.str a t) (.str c u)) Q E s :=
 (PySem.P.lt_str h:Qx (model prog w) A (QM .Lt (.str a t) (.str c u)) Q E s)
section
open PySem.SeqAt
open PySem.AutoSeq1 (wpAny_loadPart')
open PySem.MeetsSeq PySem.MeetsSeq2 PySem.MeetsSeq3
set_option maxHeartbeats 1000000 in
theorem rY (l b:Qo) (items items2:Array Ql) (n n2:Nat) (dd dd2:Option Qo) (sl sl2:Array (Option Ql)) (ns ms:List D) (r:Bool) (hi:gS items.toList ns) (hj:gS items2.toList ms) (hr:eP ns ms=some r) :
  Meets (Builtin.«tuple.__lt__» ⟨[.ref l,.ref b],[]⟩)
   (fun _ R s=>s.heap.get? l=some { cls:=.type "tuple",dict:=dd,data:=.seq items n,slots:=sl }/\s.heap.get? b=some { cls:=.type "tuple",dict:=dd2,data:=.seq items2 n2,slots:=sl2 } /\
    R (.ok (.ret (.bool r))) s) :=
 .of_wp fun prog w A R s h=>by
  obtain⟨hp,g,d,tk,os⟩:=s; obtain⟨hl,hb,h⟩:=h
  have f2:=AutoSeq1.sub_tuple_tuple
  have z1:items.size=ns.length:=by rw [<- hi.length]; simp
  have z2:items2.size=ms.length:=by rw [<- hj.length]; simp
  wp_walk using wpAny_loadPart' hl,wpAny_loadPart' hb,wpAny_forIn_list _ (fun rest b s'=>b.1=none/\s'=⟨hp,g,d,tk,os⟩/\∃ (vs ws:List Ql) (ns' ms':List D),rest=vs.zip ws /\
   gS vs ns'/\gS ws ms'/\ns'.length+items2.size=ms'.length+items.size/\eP ns' ms'=some r/\R (.ok (.ret (.bool r))) ⟨hp,g,d,tk,os⟩) _
  case turn =>
   rintro⟨y,x⟩ rest b s' ⟨hb',rfl,vs,ws,ns',ms',hz,hvi,hwi,hlen,hL,hR⟩
   cases hvi with
   | nil=>rw [List.zip_nil_left] at hz; cases hz
   | int a t hvi' =>
    cases hwi with
    | nil=>rw [Of] at hz; cases hz
    | str c u hwi'=>cases hL
    | int c u hwi' =>
     rw [N9] at hz
     injection hz with hyx hrest
     injection hyx with hy hx
     subst hy hx
     have hL':(if a=c then eP _ _ else some (decide (a < c)))=some r:=hL
     simp only [MT] at hlen
     obtain⟨e,he,hiff⟩:=Fi A.in1 ⟨hp,g,d,tk,os⟩ a t c u
     refine QD (he prog w _ _ ?_)
     cases e with
     | true =>
      rw [if_pos (hiff.mp rfl)] at hL'
      wp_walk
      exact⟨rfl,rfl,_,_,_,_,hrest,hvi',hwi',by omega,hL',hR⟩
     | false =>
      rw [if_neg (fun q=>absurd (hiff.mpr q) MS)] at hL'
      cases hL'
      have hri:=HT.Ib A.in1 ⟨hp,g,d,tk,os⟩ a t c u prog w
      wp_walk using hri
      exact⟨_,rfl,by simpa using hR⟩
   | str a t hvi' =>
    cases hwi with
    | nil=>rw [Of] at hz; cases hz
    | int c u hwi'=>cases hL
    | str c u hwi' =>
     rw [N9] at hz
     injection hz with hyx hrest
     injection hyx with hy hx
     subst hy hx
     have hL':(if a=c then eP _ _ else some (decide (a.cps.toList < c.cps.toList)))=some r:=hL
     simp only [MT] at hlen
     obtain⟨e,he,hiff⟩:=EL A.in1 ⟨hp,g,d,tk,os⟩ a t c u
     refine QD (he prog w _ _ ?_)
     cases e with
     | true =>
      rw [if_pos (hiff.mp rfl)] at hL'
      wp_walk
      exact⟨rfl,rfl,_,_,_,_,hrest,hvi',hwi',by omega,hL',hR⟩
     | false =>
      rw [if_neg (fun q=>absurd (hiff.mpr q) MS)] at hL'
      cases hL'
      have hri:=HZ A.in1 ⟨hp,g,d,tk,os⟩ a t c u prog w
      wp_walk using hri
      exact⟨_,rfl,by simpa using hR⟩
  case fin =>
   rintro⟨b1,b2⟩ s' ⟨hb',rfl,vs,ws,ns',ms',hz,hvi,hwi,hlen,hL,hR⟩
   simp only at hb'
   subst hb'
   have hv:r=decide (items.size < items2.size):=by
    have l1:=hvi.length
    have l2:=hwi.length
    cases ns' with
    | nil =>
     cases ms' with
     | nil =>
      simp only [Nr] at hlen
      cases hL
      exact(decide_eq_false ‹0›).symm
     | cons c u =>
      simp only [Nr,MT] at hlen
      cases hL
      exact(decide_eq_true ‹0›).symm
    | cons a t =>
     cases ms' with
     | nil =>
      simp only [Nr,MT] at hlen
      cases hL
      exact(decide_eq_false ‹0›).symm
     | cons c u =>
      have:=congrArg List.length hz
      simp only [Nr,Og,l1,l2,MT] at this
      omega
   rw [hv] at hR
   wp_walk
   exact⟨_,rfl,by simpa [Builtin.Tuple.tupleCompareSizes] using hR⟩
  case h =>
   exact⟨rfl,rfl,items.toList,items2.toList,ns,ms,rfl,hi,hj,by omega,hr,h⟩
end
section
variable {X:Cx}
theorem AY {α:Type} {c:Bool} {o:Option α} {a:α} (h:(if c then o else none)=some a):c=true/\o=some a:=by
 cases c with
 | true=>exact⟨rfl,h⟩
 | false=>cases h
theorem yw {prog:Qn} {w:Qm} {A:Qt} {E:Ql->Qu->Prop} {s:Qu} {l b:Qo} {items items2:Array Ql} {ns ms:List D} {r:Bool} {Q:Ql->Qu->Prop} (hl:IsTup s.heap l items) (hb:IsTup s.heap b items2) (hi:gS items.toList ns) (hj:gS items2.toList ms) (hr:eP ns ms=some r)
  (hu:A.units < QW) (h:Q (.bool r) s):Qx (model prog w) A (QM .Lt (.ref l) (.ref b)) Q E s:=by
 obtain⟨⟨cls,dd,data,sl⟩,ho,hc,n,hd⟩:=id hl
 obtain⟨⟨cls2,dd2,data2,sl2⟩,ho2,hc2,n2,hd2⟩:=id hb
 simp only at hc hd hc2 hd2
 subst hc hd hc2 hd2
 exact richCompare_meets_room (op:=.Lt) ⟨_,ho,rfl⟩ ⟨_,ho2,rfl⟩ PySem.F.slot_tuple_lt PySem.F.entry_tuple_lt (PySem.F.args_tuple_lt_2 _ _) (rY l b items items2 n n2 dd dd2 sl sl2 ns ms r hi hj hr)
  ⟨ho,ho2,show Value.bool r≠Value.notImplemented/\Q (.bool r) s from ⟨(fun x=>nomatch x),h⟩⟩ hu
def pU:List D->Bool
 | []=>true
 | .int _::r=>pU r
 | .str _::r=>pU r
 | _=>false
theorem lg {K:O2} {H:Hp}:∀ {ds:List D} {vs:List V} {us:List Ql},pU ds=true->bp K H ds vs->Vals vs us->gS us ds
 | [],vs,us,_,h,r=>by
  rw [cF] at h
  subst h
  cases r
  exact .nil
 | d::ds,vs,us,hf,h,r=>by
  obtain⟨v,r',e,h1,h2⟩:=bL.mp h
  subst e
  cases r with
  | cons q1 q2 =>
   cases d with
   | int i =>
    rw [eU] at h1
    subst h1
    obtain⟨t,rfl⟩:=q1
    exact .int i t (lg hf h2 q2)
   | str x =>
    rw [eV] at h1
    subst h1
    obtain⟨t,rfl⟩:=q1
    exact .str x t (lg hf h2 q2)
   | _=>cases hf
def sr (a b:D):Option D:=match a,b with
 | .int i,.int j=>some (.bl (decide (i < j)))
 | .str x,.str y=>some (.bl (decide (x.cps.toList < y.cps.toList)))
 | .tup xs,.tup ys=>if pU xs && pU ys then (eP xs ys).bind fun r=>some (.bl r) else none
 | _,_=>none
theorem rA (hu:X.A.units+64 < QW):kD X (QM .Lt) (rD X.K sr):=by
 intro pins s σ H x y u v Q I rx ry ⟨O,a,b,d,hO,ha,hb,hg,q⟩
 cases a with
 | int i =>
  cases b with
  | int j =>
   cases hg
   exact Ic pins s σ H x y u v Q I rx ry ⟨i,j,eU.mp ha,eU.mp hb,q _ H (bH.refl H) (kK.mpr rfl)⟩
  | _=>cases hg
 | str i =>
  cases b with
  | str j =>
   cases hg
   exact zN pins s σ H x y u v Q I rx ry ⟨i,j,eV.mp ha,eV.mp hb,q _ H (bH.refl H) (kK.mpr rfl)⟩
  | _=>cases hg
 | tup xs =>
  cases b with
  | tup ys =>
   obtain⟨h1,h2⟩:=AY hg
   obtain⟨r,e1,e2⟩:=bind_some h2
   cases e2
   rw [Nc] at h1
   obtain⟨p,vs,ex,g1,g2⟩:=cu.mp ha
   obtain⟨p',vs',ey,g1',g2'⟩:=cu.mp hb
   subst ex ey
   cases rx
   cases ry
   obtain⟨its,r1,t1,_⟩:=I.tuple (cw (aO H O) g1)
   obtain⟨its2,r2,t2,_⟩:=I.tuple (cw (aO H O) g1')
   exact yw t1 t2 (lg h1.1 g2 r1) (lg h1.2 g2' r2) e1 ‹0› (Cw I (q _ H (bH.refl H) (kK.mpr rfl)) rfl)
  | _=>cases hg
 | _=>cases hg
end
end TG
namespace TG
open PySem PySem.Spec L2
variable [bc]
def iX (x:Str) (n:Int):Str:=if (n==1 || x.length==0)=true then x else ⟨(List.replicate n.toNat x.cps).foldl (·++·) #[]⟩
theorem foldl_size:∀ (n:Nat) (c a:Array Nat),((List.replicate n c).foldl (·++·) a).size=a.size+n*c.size
 | 0,_,a=>by simp
 | n+1,c,a=>by
  rw [Oh,Oi,foldl_size n c,Array.size_append,Nat.succ_mul]; omega
theorem vN {x:Str} {n:Int} (h:1<=n):(iX x n).length=n.toNat*x.length:=by
 unfold iX
 split
 ·rename_i q
  rw [NN] at q
  rcases q with q | q
  ·have:n=1:=by simpa using q
   rw [this]; simp
  ·have:x.length=0:=by simpa using q
   rw [this]; simp
 ·show ((List.replicate n.toNat x.cps).foldl (·++·) #[]).size=n.toNat*x.cps.size
  rw [foldl_size]; simp
def rM (a b:D):Option D:=match a,b with
 | .int i,.int j=>mC (.int i) (.int j)
 | .str x,.int n=>if decide (1<=n/\n<=1000/\x.length<=1000) then some (.str (iX x n)) else none
 | _,_=>none
section
variable {X:Cx}
theorem nN:kD X (QL .Mult) (rD X.K rM):=by
 intro pins s σ H x y u v Q I rx ry ⟨O,a,b,d,hO,ha,hb,hg,q⟩
 cases a with
 | int i =>
  cases b with
  | int j=>exact iO pins s σ H x y u v Q I rx ry (iR (.int i) (.int j) d x y O H Q hO hg ha hb q)
  | _=>cases hg
 | str z =>
  cases b with
  | int n =>
   obtain⟨h1,h2⟩:=bP hg
   subst h2
   obtain⟨n1,n2,zl⟩:=of_decide_eq_true h1
   rw [eV] at ha
   rw [eU] at hb
   subst ha hb
   obtain⟨t,rfl⟩:=rx
   obtain⟨t',rfl⟩:=ry
   have zn:z.length*n.toNat<=1000*1000:=Nat.mul_le_mul zl ‹0›
   refine P.mul_str (by rw [decide_eq_false ‹0›,decide_eq_false ‹0›]; rfl) (fun _ _=>?_) (fun _ _=>?_) ?_
   ·have:(2 ^ 63 - 1:Int) / n>=(2 ^ 63 - 1) / 1000:=by
     rw [ge_iff_le,Int.le_ediv_iff_mul_le ‹0›]
     have h3:(2 ^ 63 - 1:Int) / 1000*n<=(2 ^ 63 - 1) / 1000*1000:=Int.mul_le_mul_of_nonneg_left n2 (by decide)
     have h4:(2 ^ 63 - 1:Int) / 1000*1000<=2 ^ 63 - 1:=by decide
     omega
    have h5:(2 ^ 63 - 1:Int) / 1000=9223372036854775:=by decide
    omega
   ·unfold Builtin.Str.tooLong
    rw [decide_eq_false]
    rw [QP]; omega
   ·rw [if_neg ‹0›]
    have fin:∀ tk,EP X pins σ Q (.str (iX z n) tk) { s with toks:=s.toks+1 }/\EP X pins σ Q (.str (iX z n) tk) s:=fun tk=>⟨⟨.str (iX z n),H,I.tok _,⟨_,rfl⟩,q _ H (bH.refl H) (eV.mpr rfl)⟩,⟨.str (iX z n),H,I,⟨_,rfl⟩,q _ H (bH.refl H) (eV.mpr rfl)⟩⟩
    by_cases e:(n==1 || z.length==0)=true
    ·rw [if_pos e]
     have:iX z n=z:=by unfold iX; rw [if_pos e]
     rw [this] at fin
     exact(fin t).2
    ·rw [if_neg e]
     have e2:iX z n=⟨(List.replicate n.toNat z.cps).foldl (·++·) #[]⟩:=by unfold iX; rw [if_neg e]
     rw [e2] at fin
     refine⟨?_,(fin _).1⟩
     have rl:=vN (x:=z) (n:=n) ‹0›
     rw [e2] at rl
     rw [rl,QP,Nat.mul_comm]; omega
  | _=>cases hg
 | _=>cases hg
end
def AH (xs:List D) (ds:List D):Option (List D):=match ds with
 | []=>if xs.isEmpty then none else some xs.dropLast
 | _=>none
theorem bp.dropLast {K:O2} {H:Hp} {ds:List D} {vs:List V} (h:bp K H ds vs):bp K H ds.dropLast vs.dropLast:=by
 rw [Oj,Oj,h.length]
 exact h.take _
theorem zS {K:O2}:qH K HK AH:=fun H O a xs ys as ws vs Q hO haO ha dx da hu q=>by
 unfold AH at hu
 split at hu
 ·rw [cF] at da
  subst da
  by_cases e:xs.isEmpty=true
  ·rw [if_pos e] at hu; cases hu
  ·rw [if_neg e] at hu
   cases hu
   have hl:=dx.length
   have hne:0 < ws.length:=by
    cases xs with
    | nil=>exact absurd rfl e
    | cons x xs=>rw [<- hl]; simp
   exact⟨a,ws,ws[ws.length - 1]'‹0›,rfl,rfl,ha,NF _,q _ _ dx.dropLast⟩
 ·cases hu
theorem K8 {X:Cx} {i:Nat} {x m:Str} {id:String} {r:V->List V->Hp->VK->Prop} {u:List D->List D->Option (List D)} {npos apos cpos pos:Pos} (slot:Slot "list" m id) (hty:typeOf (.builtin id)=pure (.type "method_descriptor")) (hm:GL X id r) (ok:qH X.K r u) (hx:PE X (.Name x npos) (qd i))
  (hbase:QS (.Name x npos) m X.env (eval (.Name x npos) X.env)=eval (.Name x npos) X.env:=by rfl) (hline:(apos.endLine==cpos.line)=true:=by rfl)
  (hsw:swapsWith (.Call (.Attribute (.Name x npos) m apos) [] [] cpos) none pos.line X.env=pure false:=by rfl) :
  FS X (.Expr (.Call (.Attribute (.Name x npos) m apos) [] [] cpos) pos) (uz i u au):=fun Hb Ob pins s σ H E I ⟨O,ρ,k,rr,S,hF,hk⟩=>by
 unfold uz at hF
 split at hF
 ·rename_i xs hxs
  obtain⟨a,ha,haO,hat⟩:=S.env.own i _ hxs
  obtain⟨o,vs0,ho,eo,dn⟩:=hat
  subst eo
  refine uq (G1 F.plainAttrs_list slot hty hm hx hbase hline) hsw pins s σ H E I ⟨.ref a,ha,.inl ⟨rfl,vs0,mG.of ho⟩,?_⟩
  have hr:(rO (u xs [])).bind (fun ys=>k.nx (ρ.set i (some (.own (.lst ys)))))=rr:=hF
  cases hu1:u xs [] with
  | none=>rw [hu1] at hr; exact absurd hr.symm hk.ne
  | some ys =>
   rw [hu1] at hr
   exact ok H O a xs ys [] vs0 [] _ S.env.all haO ho dn (cF.mpr rfl) hu1 fun ws' v new=>hk.nx O _ σ _ (S.setO hxs ha trivial (kN haO new)) hr
 ·exact absurd hF.symm hk.ne
end TG
namespace TG
open PySem PySem.Spec PyProof.Rows PySem.W L2
variable [bc]
theorem qJ:∀ a:List Nat,¬ a < a
 | []=>Ol _
 | x::xs=>fun h=>by
  rcases List.cons_lt_cons_iff.mp h with h | ⟨_,h⟩
  ·omega
  ·exact qJ xs h
theorem kH:∀ {a b c:List Nat},a < b->b < c->a < c
 | _,_,[],_,h=>absurd h (Ol _)
 | _,[],_::_,h,_=>absurd h (Ol _)
 | [],_::_,_::_,_,_=>Om _ _
 | x::xs,y::ys,z::zs,h,h'=>by
  rw [Oo] at h h' ⊢
  rcases h with h | ⟨e,h⟩ <;> rcases h' with h' | ⟨e',h'⟩
  ·exact .inl ‹0›
  ·exact .inl ‹0›
  ·exact .inl ‹0›
  ·exact .inr ⟨by omega,kH h h'⟩
theorem B8:∀ a b:List Nat,a < b\/a=b\/b < a
 | [],[]=>.inr (.inl rfl)
 | [],_::_=>.inl (Om _ _)
 | _::_,[]=>.inr (.inr (Om _ _))
 | x::xs,y::ys=>by
  rw [Oo,Oo]
  rcases Nat.lt_trichotomy x y with h | h | h
  ·exact .inl (.inl h)
  ·rcases B8 xs ys with q | q | q
   ·exact .inl (.inr ⟨h,q⟩)
   ·exact .inr (.inl (by rw [h,q]))
   ·exact .inr (.inr (.inr ⟨h.symm,q⟩))
  ·exact .inr (.inr (.inl h))
theorem Dh {x y:Str} (h:x.cps.toList=y.cps.toList):x=y:=by
 cases x; cases y
 congr 1
 exact Array.toList_inj.mp h
inductive Sh:List Bool->List D->Prop where
 | nil:Sh [] []
 | int (i:Int) {bs:List Bool} {ds:List D} (h:Sh bs ds):Sh (true::bs) (.int i::ds)
 | str (x:Str) {bs:List Bool} {ds:List D} (h:Sh bs ds):Sh (false::bs) (.str x::ds)
theorem Sh.length:∀ {σ:List Bool} {a:List D},Sh σ a->a.length=σ.length
 | _,_,.nil=>rfl
 | _,_,.int _ h=>by rw [MT,MT,h.length]
 | _,_,.str _ h=>by rw [MT,MT,h.length]
theorem u9:∀ {σ:List Bool} {a:List D},Sh σ a->pU a=true
 | _,_,.nil=>rfl
 | _,_,.int i h=>by
  unfold pU; exact u9 h
 | _,_,.str i h=>by
  unfold pU; exact u9 h
theorem rg (i j:Int) (as bs:List D):eP (.int i::as) (.int j::bs)=if i=j then eP as bs else some (decide (i < j)):=by rw [eP]
theorem qT (x y:Str) (as bs:List D):eP (.str x::as) (.str y::bs)=if x=y then eP as bs else some (decide (x.cps.toList < y.cps.toList)):=by rw [eP]
theorem BH:eP [] []=some false:=by rw [eP]
theorem ot:∀ {σ:List Bool} {a:List D},Sh σ a->eP a a=some false
 | _,_,.nil=>BH
 | _,_,.int i h=>by rw [rg,if_pos rfl]; exact ot h
 | _,_,.str x h=>by rw [qT,if_pos rfl]; exact ot h
theorem lY:∀ {σ:List Bool} {a b:List D},Sh σ a->Sh σ b->(eP a b=some true/\eP b a=some false/\a≠b)\/a=b\/(eP b a=some true/\eP a b=some false/\a≠b)
 | _,_,_,.nil,.nil=>.inr (.inl rfl)
 | _,_,_,.int i h,.int j h'=>by
  rw [rg,rg]
  by_cases e:i=j
  ·subst e
   rw [if_pos rfl,if_pos rfl]
   rcases lY h h' with ⟨q1,q2,q3⟩ | q | ⟨q1,q2,q3⟩
   ·exact .inl ⟨q1,q2,fun z=>q3 (by injection z)⟩
   ·exact .inr (.inl (by rw [q]))
   ·exact .inr (.inr ⟨q1,q2,fun z=>q3 (by injection z)⟩)
  ·rw [if_neg e,if_neg (fun z=>e z.symm)]
   rcases Int.lt_or_gt_of_ne e with q | q
   ·exact .inl ⟨by rw [decide_eq_true q],by rw [decide_eq_false ‹0›],fun z=>e (by injection z with z1; injection z1)⟩
   ·exact .inr (.inr ⟨by rw [decide_eq_true q],by rw [decide_eq_false ‹0›],fun z=>e (by injection z with z1; injection z1)⟩)
 | _,_,_,.str x h,.str y h'=>by
  rw [qT,qT]
  by_cases e:x=y
  ·subst e
   rw [if_pos rfl,if_pos rfl]
   rcases lY h h' with ⟨q1,q2,q3⟩ | q | ⟨q1,q2,q3⟩
   ·exact .inl ⟨q1,q2,fun z=>q3 (by injection z)⟩
   ·exact .inr (.inl (by rw [q]))
   ·exact .inr (.inr ⟨q1,q2,fun z=>q3 (by injection z)⟩)
  ·rw [if_neg e,if_neg (fun z=>e z.symm)]
   rcases B8 x.cps.toList y.cps.toList with q | q | q
   ·exact .inl ⟨by rw [decide_eq_true q],by rw [decide_eq_false fun z=>qJ _ (kH q z)],fun z=>e (by injection z with z1; injection z1)⟩
   ·exact absurd (Dh q) e
   ·exact .inr (.inr ⟨by rw [decide_eq_true q],by rw [decide_eq_false fun z=>qJ _ (kH q z)],fun z=>e (by injection z with z1; injection z1)⟩)
theorem lI:∀ {σ:List Bool} {a b c:List D},Sh σ a->Sh σ b->Sh σ c->eP a b=some true->eP b c=some true->eP a c=some true
 | _,_,_,_,.nil,.nil,.nil,h,_=>by rw [BH] at h; cases h
 | _,_,_,_,.int i h,.int j h',.int k h'',q,q'=>by
  rw [rg] at q q' ⊢
  by_cases e:i=j
  ·subst e
   rw [if_pos rfl] at q
   by_cases e':i=k
   ·subst e'
    rw [if_pos rfl] at q' ⊢
    exact lI h h' h'' q q'
   ·rw [if_neg e'] at q' ⊢
    exact q'
  ·rw [if_neg e] at q
   have q1:=of_decide_eq_true (Option.some.inj q)
   by_cases e':j=k
   ·subst e'
    rw [if_neg e,decide_eq_true q1]
   ·rw [if_neg e'] at q'
    have q2:=of_decide_eq_true (Option.some.inj q')
    rw [if_neg ‹0›,decide_eq_true ‹0›]
 | _,_,_,_,.str i h,.str j h',.str k h'',q,q'=>by
  rw [qT] at q q' ⊢
  by_cases e:i=j
  ·subst e
   rw [if_pos rfl] at q
   by_cases e':i=k
   ·subst e'
    rw [if_pos rfl] at q' ⊢
    exact lI h h' h'' q q'
   ·rw [if_neg e'] at q' ⊢
    exact q'
  ·rw [if_neg e] at q
   have q1:=of_decide_eq_true (Option.some.inj q)
   by_cases e':j=k
   ·subst e'
    rw [if_neg e,decide_eq_true q1]
   ·rw [if_neg e'] at q'
    have q2:=of_decide_eq_true (Option.some.inj q')
    rw [if_neg (show ¬ i=k from fun z=>by rw [z] at q1; exact qJ _ (kH q1 q2)),decide_eq_true (kH q1 q2)]
theorem Dd {σ:List Bool} {a b:List D} (h:Sh σ a) (h':Sh σ b) (q:eP a b=some true):eP b a=some false:=by
 rcases lY h h' with ⟨_,q2,_⟩ | e | ⟨_,q2,_⟩
 ·exact q2
 ·subst e; rw [ot h] at q; cases q
 ·rw [q2] at q; cases q
def kLt (a b:List D):Bool:=eP a b==some true
theorem Ea {a b:List D}:kLt a b=true↔eP a b=some true:=by unfold kLt; simp
section
variable {α:Type}
def As (key:α->List D) (x:α):List α->List α
 | []=>[x]
 | y::ys=>if kLt (key x) (key y) then x::y::ys else y::As key x ys
def nZ (key:α->List D):List α->List α
 | []=>[]
 | x::xs=>As key x (nZ key xs)
theorem oB (key:α->List D) (x:α):∀ ys:List α,(As key x ys).Perm (x::ys)
 | []=>.refl _
 | y::ys=>by
  unfold As
  split
  ·exact .refl _
  ·exact(List.Perm.cons y (oB key x ys)).trans (.swap x y ys)
theorem e8 (key:α->List D):∀ xs:List α,(nZ key xs).Perm xs
 | []=>.refl _
 | x::xs=>(oB key x _).trans (.cons x (e8 key xs))
def xu (key:α->List D) (xs:List α):Prop:=xs.Pairwise fun x y=>eP (key x) (key y)=some true
theorem wA {key:α->List D} {σ:List Bool} {x:α} (hx:Sh σ (key x)):∀ {ys:List α},(∀ y∈ys,Sh σ (key y)/\key x≠key y)->xu key ys->xu key (As key x ys)
 | [],_,_=>List.pairwise_singleton _ _
 | y::ys,h,p=>by
  have p':=List.pairwise_cons.mp p
  obtain⟨hy,ne⟩:=h y MI
  unfold As
  split
  ·rename_i q
   have q:=Ea.mp q
   refine List.pairwise_cons.mpr ⟨fun z hz=>?_,p⟩
   rcases List.mem_cons.mp hz with rfl | hz
   ·exact q
   ·exact lI hx hy (h z (MJ _ hz)).1 q (p'.1 z hz)
  ·rename_i q
   have q:eP (key y) (key x)=some true:=by
    rcases lY hx hy with ⟨z,_⟩ | z | ⟨z,_⟩
    ·exact absurd (Ea.mpr z) q
    ·exact absurd z ne
    ·exact z
   refine List.pairwise_cons.mpr ⟨fun z hz=>?_,wA hx (fun z hz=>h z (MJ _ hz)) p'.2⟩
   rcases List.mem_cons.mp ((oB key x ys).mem_iff.mp hz) with rfl | hz
   ·exact q
   ·exact p'.1 z hz
theorem tT {key:α->List D} {σ:List Bool}:∀ {xs:List α},(∀ x∈xs,Sh σ (key x))->xs.Pairwise (fun x y=>key x≠key y)->xu key (nZ key xs)
 | [],_,_=>List.Pairwise.nil
 | x::xs,h,p=>by
  have p':=List.pairwise_cons.mp p
  refine wA (h x MI) (fun y hy=>?_) (tT (fun y hy=>h y (MJ _ hy)) p'.2)
  have hy:=(e8 key xs).mem_iff.mp hy
  exact⟨h y (MJ _ hy),p'.1 y hy⟩
theorem y9 {key:α->List D} {σ:List Bool}:∀ {xs ys:List α},(∀ x∈xs,Sh σ (key x))->xu key xs->xu key ys->xs.Perm ys->xs=ys
 | [],ys,_,_,_,e=>(List.perm_nil.mp e.symm).symm
 | x::xs,[],_,_,_,e=>List.perm_nil.mp e
 | x::xs,y::ys,h,p,q,e=>by
  have p':=List.pairwise_cons.mp p
  have q':=List.pairwise_cons.mp q
  have exy:x=y:=by
   rcases List.mem_cons.mp (e.mem_iff.mp MI) with z | z
   ·exact z
   ·have w1:=q'.1 x z
    rcases List.mem_cons.mp (e.symm.mem_iff.mp MI) with z' | z'
    ·exact z'.symm
    ·have w2:=p'.1 y z'
     have:=Dd (h x MI) (h y (MJ _ z')) w2
     rw [w1] at this; cases this
  subst exy
  rw [y9 (fun z hz=>h z (MJ _ hz)) p'.2 q'.2 (List.Perm.cons_inv e)]
theorem Bq {key:α->List D} {σ:List Bool} {xs ys:List α} (h:∀ x∈xs,Sh σ (key x)) (p:xs.Pairwise fun x y=>key x≠key y) (q:xu key ys) (e:ys.Perm xs):nZ key xs=ys :=
 y9 (fun x hx=>h x ((e8 key xs).mem_iff.mp hx)) (tT h p) q ((e8 key xs).trans e.symm)
def rank (ks:List (List D)) (i:Nat):Nat:=(ks.filter fun k=>kLt k (ks.getD i [])).length
theorem uK {ks:List (List D)} {σ:List Bool} (h:∀ k∈ks,Sh σ k) {i j:Nat} (hi:i < ks.length) (hj:j < ks.length):decide (rank ks i < rank ks j)=kLt (ks.getD i []) (ks.getD j []):=by
 have gi:ks.getD i []=ks[i]:=by simp [hi]
 have gj:ks.getD j []=ks[j]:=by simp [hj]
 have mono:∀ a b:List D,Sh σ a->Sh σ b->eP a b=some true->∀ l:List (List D),(∀ k∈l,Sh σ k)->(l.filter fun k=>kLt k a).length<=(l.filter fun k=>kLt k b).length/\(a∈l->(l.filter fun k=>kLt k a).length < (l.filter fun k=>kLt k b).length):=by
  intro a b ha hb hab l
  induction l with
  | nil=>exact fun _=>⟨MO _,fun z=>nomatch z⟩
  | cons k l ih =>
   intro hl
   obtain⟨i1,i2⟩:=ih fun z hz=>hl z (MJ _ hz)
   have hk:=hl k MI
   by_cases q:kLt k a=true
   ·have q':kLt k b=true:=Ea.mpr (lI hk ha hb (Ea.mp q) hab)
    rw [Oq (p:=fun k=>kLt k a) q,Oq (p:=fun k=>kLt k b) q',MT,MT]
    refine⟨by omega,fun z=>?_⟩
    rcases List.mem_cons.mp z with rfl | z
    ·rw [Ea,ot ha] at q; cases q
    ·have:=i2 z; omega
   ·rw [Ot (p:=fun k=>kLt k a) q]
    by_cases q':kLt k b=true
    ·rw [Oq (p:=fun k=>kLt k b) q',MT]
     exact⟨by omega,fun _=>by omega⟩
    ·rw [Ot (p:=fun k=>kLt k b) q']
     refine⟨i1,fun z=>?_⟩
     rcases List.mem_cons.mp z with rfl | z
     ·exact absurd (Ea.mpr hab) q'
     ·exact i2 z
 unfold rank
 rw [gi,gj]
 have hi':=h _ (Ou hi)
 have hj':=h _ (Ou hj)
 rcases lY hi' hj' with ⟨z,_⟩ | z | ⟨z,z',_⟩
 ·rw [Ea.mpr z]
  exact decide_eq_true ((mono _ _ hi' hj' z ks h).2 (Ou hi))
 ·rw [z]
  have:kLt ks[j] ks[j]=false:=by unfold kLt; rw [ot hj']; rfl
  rw [this]
  exact decide_eq_false (MD _)
 ·have e:kLt ks[i] ks[j]=false:=by unfold kLt; rw [z']; rfl
  rw [e]
  exact decide_eq_false (Nat.not_lt.mpr (mono _ _ hj' hi' z ks h).1)
end
section
variable {cmp:Nat->Nat->(Bool->Qu->Prop)->Qu->Prop} {r:Nat->Nat} {N:Nat}
def mU (cmp:Nat->Nat->(Bool->Qu->Prop)->Qu->Prop) (r:Nat->Nat) (N:Nat) (s:Qu):Prop:=∀ (i j:Nat) (C:Bool->Qu->Prop),i < N->j < N->C (decide (r i < r j)) s->cmp i j C s
def PM (N:Nat) (p:Array Nat):Prop:=p.Perm (List.toArray (List.range N))
theorem PM.size {p:Array Nat} (h:PM N p):p.size=N:=by
 have:=h.size_eq; simpa using this
theorem PM.lt {p:Array Nat} (h:PM N p) {i:Nat} (hi:i < N):p.getD i 0 < N:=by
 have hs:=h.size
 have e:p.getD i 0=p[i]'‹0›:=by simp [Array.getD,hs,hi]
 rw [e]
 have m:p[i]'‹0›∈p:=Array.getElem_mem _
 have:=(h.mem_iff (a:=p[i]'‹0›)).mp m
 simpa using this
theorem PM.rev {p:Array Nat} (h:PM N p) (i j:Nat):PM N (kas_rev p i j):=(mirror_perm p i j _).trans h
abbrev Rk (r:Nat->Nat) (p:Array Nat) (i:Nat):Nat:=r (p.getD i 0)
theorem vf {p:Array Nat} {i j:Nat} (hj:j<=p.size) (k:Nat):Rk r (kas_rev p i j) k=if i<=k/\k < j then Rk r p (i+j - 1 - k) else Rk r p k:=by
 have e:=getElem?_mirror_all (xs:=p) (i:=i) (j:=j) hj k
 have g:∀ (q:Array Nat) (k:Nat),q.getD k 0=(q[k]?).getD 0:=fun q k=>by simp
 show r ((kas_rev p i j).getD k 0)=_
 rw [g]
 show r (((mirror p i j ((j - i) / 2))[k]?).getD 0)=_
 rw [e]
 split
 ·show _=r (p.getD _ 0); rw [g]
 ·show _=r (p.getD _ 0); rw [g]
theorem CH {p:Array Nat} {src d:Nat} (hs:src < p.size) (hd:d<=src) (k:Nat):Rk r (bubble p src d) k=if k=src - d then Rk r p src else if src - d < k/\k<=src then Rk r p (k - 1) else Rk r p k:=by
 have e:=getElem?_bubble (xs:=p) hs d hd k
 have g:∀ (q:Array Nat) (k:Nat),q.getD k 0=(q[k]?).getD 0:=fun q k=>by simp
 show r ((bubble p src d).getD k 0)=_
 rw [g,e]
 split
 ·show _=r (p.getD _ 0); rw [g]
 ·split
  ·show _=r (p.getD _ 0); rw [g]
  ·show _=r (p.getD _ 0); rw [g]
def Up (r:Nat->Nat) (p:Array Nat) (k:Nat):Prop:=∀ i j,i<=j->j < k->Rk r p i<=Rk r p j
def Dn (r:Nat->Nat) (p:Array Nat) (k:Nat):Prop:=∀ i j,i<=j->j < k->Rk r p j<=Rk r p i
variable {s:Qu}
theorem yk (hc:mU cmp r N s) {p:Array Nat} (hp:PM N p) {G:Nat->Qu->Prop}:∀ (f n:Nat),1<=n->n+f<=N->Up r p n->(∀ m,n<=m->m<=n+f->Up r p m->(m=n+f\/Rk r p m < Rk r p (m - 1))->G m s)->(kas_asc p f n).kasWp cmp G s
 | 0,n,_,_,u,h=>h n (MO _) (MO _) u (.inl rfl)
 | f+1,n,h1,h2,u,h=>by
  refine hc _ _ _ (hp.lt ‹0›) (hp.lt ‹0›) ?_
  by_cases q:Rk r p n < Rk r p (n - 1)
  ·rw [decide_eq_true q]; dsimp only; rw [if_pos rfl]
   exact h n (MO _) ‹0› u (.inr q)
  ·rw [decide_eq_false q]; dsimp only; rw [if_neg MS]
   refine yk hc hp f (n+1) ‹0› ‹0› (fun i j hij hj=>?_) fun m a b=>?_
   ·by_cases hjn:j < n
    ·exact u i j hij hjn
    ·have ej:j=n:=by omega
     subst ej
     by_cases ei:i=j
     ·subst ei; exact MO _
     ·have:=u i (j - 1) ‹0› ‹0›
      omega
   ·intro um hm
    exact h m ‹0› ‹0› um (by rcases hm with z | z; exact .inl ‹0›; exact .inr z)
theorem Bu {p:Array Nat} {n q:Nat} (hn:n<=p.size) (hq:q+1<=n) (he:∀ i,n - (q+1)<=i->i < n->Rk r p i=Rk r p (n - 1)) (k:Nat):Rk r (kas_rev p (n - (q+1)) n) k=Rk r p k:=by
 rw [vf hn]
 split
 ·rename_i h
  rw [he _ ‹0› ‹0›,he k h.1 h.2]
 ·rfl
theorem qu (hc:mU cmp r N s) {G:Array Nat×Nat×Nat->Qu->Prop}:∀ (f:Nat) (p:Array Nat) (n q:Nat),PM N p->1<=n->n+f<=N->Dn r p n->q+1<=n->(∀ i,n - (q+1)<=i->i < n->Rk r p i=Rk r p (n - 1)) ->
  (∀ p' m q',PM N p'->n<=m->m<=n+f->Dn r p' m->q'+1<=m->(∀ i,m - (q'+1)<=i->i < m->Rk r p' i=Rk r p' (m - 1))->G (p',m,q') s)->(kas_desc f p n q).kasWp cmp G s
 | 0,p,n,q,hp,_,_,d,hq,he,h=>h p n q hp (MO _) (MO _) d hq he
 | f+1,p,n,q,hp,h1,h2,d,hq,he,h=>by
  have hs:=hp.size
  have step:∀ p',(∀ k,Rk r p' k=Rk r p k)->Rk r p n<=Rk r p (n - 1)->Dn r p' (n+1):=fun p' hk hl i j hij hj=>by
   rw [hk,hk]
   by_cases hjn:j < n
   ·exact d i j hij hjn
   ·have ej:j=n:=by omega
    subst ej
    by_cases ei:i=j
    ·subst ei; exact MO _
    ·have:=d i (j - 1) ‹0› ‹0›
     omega
  refine hc _ _ _ (hp.lt ‹0›) (hp.lt ‹0›) ?_
  by_cases q1:Rk r p n < Rk r p (n - 1)
  ·rw [decide_eq_true q1]; dsimp only; rw [if_pos rfl]
   by_cases hq0:q > 0
   ·rw [if_pos hq0]
    refine qu hc f _ (n+1) 0 (hp.rev _ _) ‹0› ‹0› (step _ (Bu ‹0› hq he) ‹0›) ‹0› (fun i a b=>by rw [show i=n+1 - 1 by omega]) fun p' m q' a b c=>h p' m q' a ‹0› ‹0›
   ·rw [if_neg hq0]
    refine qu hc f _ (n+1) 0 hp ‹0› ‹0› (step _ (fun _=>rfl) ‹0›) ‹0› (fun i a b=>by rw [show i=n+1 - 1 by omega]) fun p' m q' a b c=>h p' m q' a ‹0› ‹0›
  ·rw [decide_eq_false q1]; dsimp only; rw [if_neg MS]
   refine hc _ _ _ (hp.lt ‹0›) (hp.lt ‹0›) ?_
   by_cases q2:Rk r p (n - 1) < Rk r p n
   ·rw [decide_eq_true q2]; dsimp only; rw [if_pos rfl]
    exact h p n q hp (MO _) ‹0› d hq he
   ·rw [decide_eq_false q2]; dsimp only; rw [if_neg MS]
    refine qu hc f _ (n+1) (q+1) hp ‹0› ‹0› (step _ (fun _=>rfl) ‹0›) ‹0› (fun i a b=>?_) fun p' m q' a b c=>h p' m q' a ‹0› ‹0›
    rw [show n+1 - 1=n by omega]
    by_cases ei:i=n
    ·subst ei; rfl
    ·have:=he i ‹0› ‹0›
     omega
theorem wn (hc:mU cmp r N s) {p:Array Nat} (hp:PM N p) {n:Nat} (h1:1<=n) (hn:n<=N) (d:Dn r p n) {G:Nat×Array Nat->Qu->Prop} (h:∀ m p',PM N p'->1<=m->m<=N->Up r p' m->G (m,p') s):(kas_tail3 n N p).kasWp cmp G s:=by
 unfold kas_tail3
 rw [KasT.kasWp_bind]
 have hs:=hp.size
 refine yk hc (hp.rev 0 n) _ _ h1 ‹0› (fun i j hij hj=>?_) fun m a b u _=>h m _ (hp.rev 0 n) ‹0› ‹0› u
 rw [vf ‹0›,vf ‹0›,if_pos ‹0›,if_pos ‹0›]
 exact d _ _ ‹0› ‹0›
theorem pP (hc:mU cmp r N s) {p:Array Nat} (hp:PM N p) {n:Nat} (hn:n+1<=N) (d:Dn r p (n+1)) {G:Nat×Array Nat->Qu->Prop} (h:∀ m p',PM N p'->1<=m->m<=N->Up r p' m->G (m,p') s):(kas_descPart n N p).kasWp cmp G s:=by
 unfold kas_descPart
 rw [KasT.kasWp_bind]
 refine qu hc _ _ _ _ hp ‹0› ‹0› d ‹0› (fun i a b=>by rw [show i=n+1 - 1 by omega]) fun p' m q' hp' a b d' hq he=>?_
 have hs:=hp'.size
 dsimp only
 by_cases hq0:q' > 0
 ·rw [if_pos hq0]
  refine wn hc (hp'.rev _ _) ‹0› ‹0› (fun i j hij hj=>?_) h
  rw [Bu ‹0› hq he,Bu ‹0› hq he]
  exact d' i j hij hj
 ·rw [if_neg hq0]
  exact wn hc hp' ‹0› ‹0› d' h
theorem CU (hc:mU cmp r N s) (h1:1<=N) {p:Array Nat} (hp:PM N p) {G:Nat×Array Nat->Qu->Prop} (h:∀ m p',PM N p'->1<=m->m<=N->Up r p' m->G (m,p') s):(kas_count N p).kasWp cmp G s:=by
 unfold kas_count
 rw [KasT.kasWp_bind]
 have hs:=hp.size
 refine yk hc hp _ _ (MO _) ‹0› (fun i j hij hj=>by rw [show i=j by omega]; exact MO _) fun n a b u hor=>?_
 by_cases hn:n=N
 ·rw [if_pos (by simpa using hn)]
  exact h n p hp a ‹0› u
 ·rw [if_neg (by simpa using hn)]
  have hlt:Rk r p n < Rk r p (n - 1):=by
   rcases hor with z | z
   ·omega
   ·exact z
  by_cases hg:n > 1
  ·rw [if_pos hg]
   refine hc _ _ _ (hp.lt ‹0›) (hp.lt ‹0›) ?_
   by_cases q:Rk r p 0 < Rk r p (n - 1)
   ·rw [decide_eq_true q]; dsimp only; rw [if_pos rfl]
    exact h n p hp a ‹0› u
   ·rw [decide_eq_false q]; dsimp only; rw [if_neg MS]
    have hall:∀ k,k < n->Rk r p k=Rk r p (n - 1):=fun k hk=>by
     have a1:=u 0 k ‹0› hk
     have a2:=u k (n - 1) ‹0› ‹0›
     omega
    have hr:∀ k,Rk r (kas_rev p 0 n) k=Rk r p k:=fun k=>by
     rw [vf ‹0›]
     split
     ·rename_i z
      rw [hall _ ‹0›,hall k z.2]
     ·rfl
    refine pP hc (hp.rev _ _) ‹0› (fun i j hij hj=>?_) h
    rw [hr,hr]
    by_cases hjn:j < n
    ·rw [hall i ‹0›,hall j hjn]; exact MO _
    ·have ej:j=n:=by omega
     subst ej
     by_cases ei:i=j
     ·subst ei; exact MO _
     ·rw [hall i ‹0›]; omega
  ·rw [if_neg hg]
   have en:n=1:=by omega
   subst en
   refine pP hc hp ‹0› (fun i j hij hj=>?_) h
   by_cases ei:i=j
   ·subst ei; exact MO _
   ·have e0:i=0:=by omega
    have e1:j=1:=by omega
    subst e0 e1
    exact MG hlt
theorem qX (hc:mU cmp r N s) {p:Array Nat} (hp:PM N p) {k:Nat} (hk:k < N) (u:Up r p k) {G:Nat->Qu->Prop} (h:∀ l,l<=k->(∀ i,i < l->Rk r p i<=Rk r p k)->(∀ i,l<=i->i < k->Rk r p k < Rk r p i)->G l s) :
  ∀ (f l t:Nat),t - l<=f->l<=t->t<=k->(∀ i,i < l->Rk r p i<=Rk r p k)->(∀ i,t<=i->i < k->Rk r p k < Rk r p i)->(kas_place p k f l t).kasWp cmp G s
 | 0,l,t,a,b,c,d,e=>h l ‹0› d fun i x y=>e i ‹0› y
 | f+1,l,t,a,b,c,d,e=>by
  unfold kas_place
  by_cases hl:l>=t
  ·rw [if_pos hl]
   exact h l ‹0› d fun i x y=>e i ‹0› y
  ·rw [if_neg hl]
   refine hc _ _ _ (hp.lt hk) (hp.lt ‹0›) ?_
   by_cases q:Rk r p k < Rk r p ((l+t) / 2)
   ·rw [decide_eq_true q]; dsimp only; rw [if_pos rfl]
    refine qX hc hp hk u h f l ((l+t) / 2) ‹0› ‹0› ‹0› d fun i x y=>?_
    have:=u ((l+t) / 2) i x y
    omega
   ·rw [decide_eq_false q]; dsimp only; rw [if_neg MS]
    refine qX hc hp hk u h f ((l+t) / 2+1) t ‹0› ‹0› ‹0› (fun i x=>?_) e
    have:=u i ((l+t) / 2) ‹0› ‹0›
    omega
theorem BG (hc:mU cmp r N s) {G:Array Nat->Qu->Prop} (h:∀ p,PM N p->Up r p N->G p s):∀ (f:Nat) (p:Array Nat) (k:Nat),PM N p->k+f=N->Up r p k->(kas_bin f p k).kasWp cmp G s
 | 0,p,k,hp,e,u=>h p hp (by rw [<- e]; exact u)
 | f+1,p,k,hp,e,u=>by
  unfold kas_bin
  rw [KasT.kasWp_bind]
  have hs:=hp.size
  refine qX hc hp ‹0› u (fun l hl d e'=>?_) k 0 k ‹0› (MY _) (MO _) (fun i x=>by omega) fun i x y=>by omega
  refine BG hc h f _ (k+1) ((bubble_perm p k _).trans hp) ‹0› fun i j hij hj=>?_
  rw [CH ‹0› ‹0›,CH ‹0› ‹0›,show k - (k - l)=l by omega]
  have U:=u
  by_cases i1:i=l
  ·rw [if_pos i1]
   by_cases j1:j=l
   ·rw [if_pos j1]; exact MO _
   ·rw [if_neg j1,if_pos ‹0›]
    exact MG (e' (j - 1) ‹0› ‹0›)
  ·rw [if_neg i1]
   by_cases i2:l < i/\i<=k
   ·rw [if_pos i2,if_neg ‹0›,if_pos ‹0›]
    exact U _ _ ‹0› ‹0›
   ·rw [if_neg i2]
    by_cases j1:j=l
    ·rw [if_pos j1]; exact d i ‹0›
    ·rw [if_neg j1]
     by_cases j2:l < j/\j<=k
     ·rw [if_pos j2]
      exact U _ _ ‹0› ‹0›
     ·rw [if_neg j2]
      exact U _ _ hij ‹0›
theorem DG (hc:mU cmp r N s) (h2:1<=N) {G:Array Nat->Qu->Prop} (h:∀ p,PM N p->Up r p N->G p s):(kas_sort N).kasWp cmp G s:=by
 unfold kas_sort
 rw [KasT.kasWp_bind]
 refine CU hc h2 (Array.Perm.refl _) fun m p' hp a b u=>?_
 dsimp only
 by_cases hm:m < N
 ·rw [if_pos hm,show max m 1=m by omega]
  exact BG hc h _ p' m hp ‹0› u
 ·rw [if_neg hm]
  exact h p' hp (by rw [show N=m by omega]; exact u)
end
section
variable {prog:Qn} {w:Qm} {A:Qt} {E:Ql->Qu->Prop} {s:Qu}
theorem sA {a:Qo} {vs:List Ql} {n:Nat} {P:PySem.Fin->Qu->Prop} {κ:SortKind} {r:Nat->Nat} (ho:s.heap.get? a=some (seqObj "list" vs.toArray n)) (h64:vs.length < 64)
  (hk:2<=vs.length->∀ h':Qp,(∀ b o,b≠a->s.heap.get? b=some o->h'.get? b=some o)->∀ (Q:SortKind->Qu->Prop),Q κ { s with heap:=h' }->Qx (model prog w) A (keyKind' vs.toArray) Q E { s with heap:=h' })
  (hr:2<=vs.length->∀ h':Qp,(∀ b o,b≠a->s.heap.get? b=some o->h'.get? b=some o)->mU (kas_ask prog w A κ vs) r vs.length { s with heap:=h' })
  (h:∀ p:Array Nat,PM vs.length p->Up r p vs.length->P (.done (.ret .none)) { s with heap:=sortedHeap s.heap a vs (List.toArray (p.toList.map fun i=>vs.getD i Value.none)) }) :
  Qx (model prog w) A (Builtin.«list.sort» ⟨[.ref a],[]⟩) P E s:=by
 rw [list_sort_plain]
 have ha:a < s.heap.objs.size:=PJ ho
 refine QD (listItems_at ho rfl ?_)
 refine QD (Ru ho rfl ?_ (by rw [MR,QP]; omega) (MY _))
 obtain⟨e1,ho1⟩:∃ e1,(s.heap.update a (Obj.mapSeq fun _=>(#[]:Array Ql))).get? a=some (seqObj "list" #[] e1):=⟨_,get?_update_seq ho (fun _=>#[])⟩
 refine QD (seqEpoch_at ho1 rfl ?_)
 refine QD (wpAny_newTuple ?_ (by show vs.length<=_; rw [QP]; omega))
 refine QD (wpAny_newList ?_ (MY _))
 refine QE ?_
 have ho6:(((s.heap.update a (Obj.mapSeq fun _=>(#[]:Array Ql))).push (seqObj "tuple" vs.toArray 0)).push (seqObj "list" #[] 0)).get? a=some (seqObj "list" #[] e1):=by
  rw [PX _ _ _ (by rw [size_push',Heap.size_update]; exact ME (Nx ha)),PX _ _ _ (by rw [Heap.size_update]; exact ME ha)]
  exact ho1
 have kept:∀ b o,b≠a->s.heap.get? b=some o->(((s.heap.update a (Obj.mapSeq fun _=>(#[]:Array Ql))).push (seqObj "tuple" vs.toArray 0)).push (seqObj "list" #[] 0)).get? b=some o:=fun b o hb e =>
  PN _ (PN _ (by rw [Heap.get?_update_ne _ _ _ _ hb]; exact e))
 show Qx (model prog w) A _ P E { s with heap:=((s.heap.update a (Obj.mapSeq fun _=>(#[]:Array Ql))).push (seqObj "tuple" vs.toArray 0)).push (seqObj "list" #[] 0) }
 dsimp only
 have hsz:vs.toArray.size=vs.length:=by simp
 by_cases h2:vs.toArray.size < 2
 ·rw [if_pos h2,if_pos h2]
  refine QD (QG ?_)
  rw [StateT.run_pure]
  refine QD (QG ?_)
  dsimp only
  refine QD (seqEpoch_at ho6 rfl ?_)
  have hout:(arrOf (SortSt.mk' general' (vs.toArray.zip vs.toArray) #[] 7 none)).map (·.2)=List.toArray ((List.toArray (List.range vs.length)).toList.map fun i=>vs.getD i Value.none):=by
   refine kat_snds rfl ?_
   show vs.toArray.zip vs.toArray=_
   have e:=kas_range (vs.toArray.zip vs.toArray)
   rw [show (vs.toArray.zip vs.toArray).size=vs.length by simp] at e
   exact e.symm
  rw [hout]
  refine QD (Ru ho6 rfl ?_ (MY _) (by rw [MR,MV,QP]; simp; omega))
  simp only [bne_self_eq_false,Nw,if_false]
  refine QG (h _ (Array.Perm.refl _) fun i j hij hj=>?_)
  have:i=j:=by omega
  subst this; exact MO _
 ·rw [if_neg h2,if_neg h2]
  have h2':2<=vs.length:=by omega
  refine QD (hk h2' _ kept _ ?_)
  refine QD (QB (kat_run (Q:=fun st' s'=>∃ p:Array Nat,arrOf st'=p.map (kas_item (vs.toArray.zip vs.toArray))/\failedOf st'=none/\PM vs.length p/\Up r p vs.length/\s'={ s with heap:=((s.heap.update a (Obj.mapSeq fun _=>(#[]:Array Ql))).push (seqObj "tuple" vs.toArray 0)).push (seqObj "list" #[] 0) })
   (G:=fun p s'=>PM vs.length p/\Up r p vs.length/\s'={ s with heap:=((s.heap.update a (Obj.mapSeq fun _=>(#[]:Array Ql))).push (seqObj "tuple" vs.toArray 0)).push (seqObj "list" #[] 0) })
   rfl h2' h64 (fun p' st' s' a1 a2 a3 a4=>⟨p',a2,a3,a4.1,a4.2.1,a4.2.2⟩) (DG (hr h2' _ kept) ‹0› fun p hp hu=>⟨hp,hu,rfl⟩)) ?_ fun _ _ e=>e)
  rintro⟨⟨⟩,st'⟩ s' ⟨p,har,hf,hp,hu,rfl⟩
  dsimp only
  refine QD (seqEpoch_at ho6 rfl ?_)
  have hout:=kat_snds rfl har
  rw [hout]
  refine QD (Ru ho6 rfl ?_ (MY _) (by rw [MR,MV,Array.length_toList,hp.size,QP]; omega))
  rw [hf]
  simp only [bne_self_eq_false,Nw,if_false]
  exact QG (h p hp hu)
theorem qC {src:Ql} {vs:List Ql} {Q:Ql->Qu->Prop} {κ:SortKind} {r:Nat->Nat} (h64:vs.length < 64)
  (hcol:∀ (Q':List Ql->Qu->Prop),(∀ h' tk,(∀ b o,s.heap.get? b=some o->h'.get? b=some o)->Q' vs { s with heap:=h',toks:=tk })->Qx (model prog w) A.in1 (collect src) Q' E s)
  (hk:2<=vs.length->∀ (h':Qp) (tk:Nat),(∀ b o,s.heap.get? b=some o->h'.get? b=some o)->∀ (Q:SortKind->Qu->Prop),Q κ { s with heap:=h',toks:=tk }->Qx (model prog w) A.in1.in1 (keyKind' vs.toArray) Q E { s with heap:=h',toks:=tk })
  (hr:2<=vs.length->∀ (h':Qp) (tk:Nat),(∀ b o,s.heap.get? b=some o->h'.get? b=some o)->mU (kas_ask prog w A.in1.in1 κ vs) r vs.length { s with heap:=h',toks:=tk })
  (h:∀ (p:Array Nat) (h1 h':Qp) (l:Qo) (e tk:Nat),PM vs.length p->Up r p vs.length->(∀ b o,s.heap.get? b=some o->h1.get? b=some o)->(∀ b o,h1.get? b=some o->h'.get? b=some o)->h1.objs.size<=l->h'.get? l=some (seqObj "list" (List.toArray (p.toList.map fun i=>vs.getD i Value.none)) e)->Q (.ref l) { s with heap:=h',toks:=tk }) :
  Qx (model prog w) A (call (.builtin "sorted") [src]) Q E s:=by
 refine Calls.call_function_entry kind_sorted plain_sorted entry_sorted (args_sorted1 _) ?_
 unfold Builtin.«sorted»
 refine QD (m:=checkCount "sorted" 1 1 _) (QG ?_)
 refine QD (hcol _ fun h1 tk k1=>?_)
 refine QD (wpAny_newList ?_ (by rw [QP]; omega))
 have hoL:(h1.push (seqObj "list" vs.toArray 0)).get? h1.objs.size=some (seqObj "list" vs.toArray 0):=PP _ rfl
 have k2:∀ b o,s.heap.get? b=some o->(h1.push (seqObj "list" vs.toArray 0)).get? b=some o:=fun b o e=>PN _ (k1 b o e)
 have ne:∀ b o,s.heap.get? b=some o->b≠h1.objs.size:=fun b o e=>ME (PJ (k1 b o e))
 refine QD (QE (Rb slot_list_sort ⟨_,hoL,rfl⟩ entry_list_sort (sA (s:={ s with heap:=h1.push (seqObj "list" vs.toArray 0),toks:=tk }) (r:=r) (κ:=κ) hoL h64
  (fun h2 h' k=>hk h2 h' tk fun b o e=>k b o (ne b o e) (k2 b o e)) (fun h2 h' k=>hr h2 h' tk fun b o e=>k b o (ne b o e) (k2 b o e)) fun p hp hu=>⟨_,rfl,?_⟩) (args_list_sort _)))
 refine QG ⟨_,rfl,?_⟩
 obtain⟨e,he⟩:=sortedHeap_at (vs:=vs) (out:=List.toArray (p.toList.map fun i=>vs.getD i Value.none)) hoL
 exact h p h1 _ h1.objs.size e tk hp hu k1 (fun b o q=>by rw [sortedHeap_old (ME (PJ q)) (by rw [size_push']; exact Nx (PJ q))]; exact PN _ q) (MO _) he
end
def gL:D->List D
 | .tup ks=>ks
 | _=>[]
def oneOf (d:D):List D:=[d]
def Gx (xs:List D):Prop:=xs.length < 64/\∃ σ:List Bool,σ≠[]/\(∀ x∈xs,∃ k,x=.tup k/\Sh σ k)/\xs.Pairwise fun x y=>gL x≠gL y
def Gr (xs:List D):Prop:=xs.length < 64/\∃ b:Bool,(∀ x∈xs,Sh [b] [x])/\xs.Pairwise fun x y=>oneOf x≠oneOf y
open Classical in
noncomputable def pN (xs:List D):Option D:=if Gx xs then some (.lst (nZ gL xs)) else if Gr xs then some (.lst (nZ oneOf xs)) else none
noncomputable def fV:List D->Option D
 | [.lst xs]=>pN xs
 | [.tup xs]=>pN xs
 | _=>none
theorem lj {prog:Qn} {w:Qm} {A:Qt} {s:Qu} {Q:Bool->Qu->Prop} {fin:Bool} (hf:fin=false):∀ {σ:List Bool} {ns ms:List D} {xs ys:List Ql} {i:Nat},Sh σ ns->Sh σ ms->gS xs ns->gS ys ms->Q (kLt ns ms) s->KatLex prog w A true fin Q (xs.zip ys) i s
 | _,_,_,_,_,i,.nil,.nil,.nil,.nil,h=>by
  subst hf
  exact kat_nil (by simpa [kLt,eP] using h)
 | _,_,_,_,_,i,.int a h1,.int c h2,.int _ t f1,.int _ u f2,h=>by
  rw [N9]
  obtain⟨e,he,hiff⟩:=Fi A s a t c u
  refine kat_cons (he prog w _ _ ?_)
  cases e with
  | true =>
   have ac:=hiff.mp rfl
   refine kat_yes (lj hf h1 h2 f1 f2 ?_)
   unfold kLt at h ⊢
   rw [rg,if_pos ac] at h
   exact h
  | false =>
   have ac:¬ a=c:=fun q=>absurd (hiff.mpr q) MS
   have h':Q (decide (a < c)) s:=by
    unfold kLt at h
    rw [rg,if_neg ac] at h
    cases hd:decide (a < c) <;> rw [hd] at h <;> exact h
   refine kat_no ?_
   cases hi:(i==0) with
   | true=>exact oneLt_int h'
   | false=>exact kat_one _ _ (PySem.P.lt_int (show Pw Q (.bool _) s from h'))
 | _,_,_,_,_,i,.str a h1,.str c h2,.str _ t f1,.str _ u f2,h=>by
  rw [N9]
  obtain⟨e,he,hiff⟩:=EL A s a t c u
  refine kat_cons (he prog w _ _ ?_)
  cases e with
  | true =>
   have ac:=hiff.mp rfl
   refine kat_yes (lj hf h1 h2 f1 f2 ?_)
   unfold kLt at h ⊢
   rw [qT,if_pos ac] at h
   exact h
  | false =>
   have ac:¬ a=c:=fun q=>absurd (hiff.mpr q) MS
   have h':Q (decide (a.cps.toList < c.cps.toList)) s:=by
    unfold kLt at h
    rw [qT,if_neg ac] at h
    cases hd:decide (a.cps.toList < c.cps.toList) <;> rw [hd] at h <;> exact h
   refine kat_no ?_
   cases hi:(i==0) with
   | true=>exact oneLt_str h'
   | false=>exact kat_one _ _ (PySem.P.lt_str (show Pw Q (.bool _) s from h'))
theorem rp {h:Qp} {PT:Ql->Prop}:∀ {its:List Ql},(∀ v∈its,∃ a o xs n f,v=.ref a/\h.get? a=some o/\o.cls=.type "tuple"/\o.data=.seq xs n/\xs[0]?=some f/\PT f)->∃ fs,KatTups h its fs/\fs.length=its.length/\∀ f∈fs,PT f
 | [],_=>⟨[],.nil,rfl,fun _ h=>nomatch h⟩
 | v::its,hh=>by
  obtain⟨a,o,xs,n,f,rfl,h1,h2,h3,h4,h5⟩:=hh v MI
  obtain⟨fs,k1,k2,k3⟩:=rp (its:=its) fun u hu=>hh u (MJ _ hu)
  refine⟨f::fs,.cons h1 h2 h3 h4 k1,by rw [MT,MT,k2],fun g hg=>?_⟩
  rcases List.mem_cons.mp hg with rfl | z
  ·exact h5
  ·exact k3 g z
theorem gS.first {σ:List Bool} {b:Bool} {xs:List Ql} {ns:List D} (f:gS xs ns) (h:Sh (b::σ) ns):∃ v,xs[0]?=some v/\typeOf v=pure (.type (if b then "int" else "str")):=by
 cases f with
 | nil=>cases h
 | int i t f=>cases h; exact⟨_,rfl,rfl⟩
 | str i t f=>cases h; exact⟨_,rfl,rfl⟩
theorem wZ {key:D->List D} {σ:List Bool} {ds:List D} (h:∀ x∈ds,Sh σ (key x)) (pw:ds.Pairwise fun x y=>key x≠key y) {p:Array Nat} (hp:PM ds.length p) (hu:Up (rank (ds.map key)) p ds.length):p.toList.map (fun i=>ds.getD i .non)=nZ key ds:=by
 have hr:p.toList.Perm (List.range ds.length):=by
  have:=Array.perm_iff_toList_perm.mp hp
  simpa using this
 have hmap:(List.range ds.length).map (fun i=>ds.getD i .non)=ds:=by
  apply List.ext_getElem
  ·simp
  ·intro i h1 h2
   simp at h1
   simp [h1]
 have hperm:(p.toList.map fun i=>ds.getD i .non).Perm ds:=by
  have:=hr.map (fun i=>ds.getD i .non)
  rwa [hmap] at this
 have hn:p.toList.Nodup:=hr.nodup_iff.mpr List.nodup_range
 refine(Bq h pw ?_ hperm).symm
 have hl:p.toList.length=ds.length:=by rw [hr.length_eq,NU]
 have kd:∀ i,i < ds.length->(ds.map key).getD i []=key (ds.getD i .non):=fun i hi=>by simp [hi]
 have hsh:∀ k∈ds.map key,Sh σ k:=fun k hk=>by
  obtain⟨x,hx,rfl⟩:=List.mem_map.mp hk
  exact h x hx
 unfold xu
 rw [Ov,List.pairwise_iff_getElem]
 intro i j hi hj hij
 have hi':p.toList[i] < ds.length:=by simpa using hr.mem_iff.mp (Ou hi)
 have hj':p.toList[j] < ds.length:=by simpa using hr.mem_iff.mp (Ou hj)
 have ne:p.toList[i]≠p.toList[j]:=List.pairwise_iff_getElem.mp hn i j hi hj hij
 have up:=hu i j ‹0› ‹0›
 have gi:p.getD i 0=p.toList[i]:=by
  have:i < p.size:=by rw [<- Array.length_toList]; exact hi
  simp [Array.getD,this]
 have gj:p.getD j 0=p.toList[j]:=by
  have:j < p.size:=by rw [<- Array.length_toList]; exact hj
  simp [Array.getD,this]
 unfold Rk at up
 rw [gi,gj] at up
 have rl:=uK hsh (i:=p.toList[j]) (j:=p.toList[i]) (by rw [MV]; exact hj') (by rw [MV]; exact hi')
 rw [kd _ hj',kd _ hi',decide_eq_false ‹0›] at rl
 have ei:ds.getD p.toList[i] .non=ds[p.toList[i]]:=by rw [Ow,NF hi']; rfl
 have ej:ds.getD p.toList[j] .non=ds[p.toList[j]]:=by rw [Ow,NF hj']; rfl
 have s1:=h _ (show ds.getD p.toList[i] .non∈ds by rw [ei]; exact Ou hi')
 have s2:=h _ (show ds.getD p.toList[j] .non∈ds by rw [ej]; exact Ou hj')
 rcases lY s1 s2 with ⟨z,_⟩ | z | ⟨z,_⟩
 ·exact z
 ·exfalso
  have pw':=List.pairwise_iff_getElem.mp pw
  rw [ei,ej] at z
  rcases Nat.lt_or_gt_of_ne ne with q | q
  ·exact pw' _ _ hi' hj' q z
  ·exact pw' _ _ hj' hi' q z.symm
 ·rw [Ea.mpr z] at rl; cases rl
theorem tS {vs:List V} {us:List Ql} (r:Vals vs us):∀ l:List Nat,(∀ i∈l,i < vs.length)->Vals (l.map fun i=>vs.getD i .non) (l.map fun i=>us.getD i Value.none)
 | [],_=>.nil
 | i::l,h=>by
  have hi:=h i MI
  obtain⟨u,e,q⟩:=r.get (i:=i) (x:=vs[i]) (by simp [hi])
  refine .cons ?_ (tS r l fun j hj=>h j (MJ _ hj))
  have e1:vs.getD i .non=vs[i]:=by simp [hi]
  have e2:us.getD i Value.none=u:=by simp [Ow,e]
  show L2.RelV (vs.getD i .non) (us.getD i Value.none)
  rw [e1,e2]; exact q
theorem tR {K:O2} {H:Hp} {ds:List D} {vs:List V} (g:bp K H ds vs):∀ l:List Nat,(∀ i∈l,i < ds.length)->bp K H (l.map fun i=>ds.getD i .non) (l.map fun i=>vs.getD i .non)
 | [],_=>cF.mpr rfl
 | i::l,h=>by
  have hi:=h i MI
  obtain⟨v,e,q⟩:=g.get (i:=i) (d:=ds[i]) (by simp [hi])
  refine bL.mpr ⟨_,_,rfl,?_,tR g l fun j hj=>h j (MJ _ hj)⟩
  have e1:ds.getD i .non=ds[i]:=by simp [hi]
  have e2:vs.getD i .non=v:=by simp [Ow,e]
  show cA K H (ds.getD i .non) (vs.getD i .non)
  rw [e1,e2]; exact q
section
variable {X:Cx} {pins:List (Qo×Obj)} {s:Qu} {σ:L2.St} {H:Hp} {O:List Qo}
theorem tu {u:Ql} {ds:List D} {vs:List V} {its:List Ql} {d:D} {Q:VK} (I:Inv X pins σ H s) (hO:dD H O) (dn:bp X.K (hid H O) ds vs) (rv:Vals vs its) (hs:pN ds=some d)
  (hcol:∀ (Q':List Ql->Qu->Prop),(∀ h' tk,(∀ b o,s.heap.get? b=some o->h'.get? b=some o)->Q' its { s with heap:=h',toks:=tk })->Qx (model X.prog X.w) X.A.in1 (collect u) Q' X.xe s)
  (q:∀ v H',bH H H'->cA X.K (hid H' O) d v->Q v H'):Qx (model X.prog X.w) X.A (call (.builtin "sorted") [u]) (EP X pins σ Q) X.xe s:=by
 have l1:=dn.length
 have l2:=rv.length
 have fin:∀ (key:D->List D) (σ':List Bool),(∀ x∈ds,Sh σ' (key x))->ds.Pairwise (fun x y=>key x≠key y)->ds.length < 64->d=.lst (nZ key ds)->∀ (p:Array Nat) (h1 h':Qp) (l:Qo) (e tk:Nat),PM its.length p->Up (rank (ds.map key)) p its.length->(∀ b o,s.heap.get? b=some o->h1.get? b=some o)->(∀ b o,h1.get? b=some o->h'.get? b=some o)->h1.objs.size<=l ->
   h'.get? l=some (seqObj "list" (List.toArray (p.toList.map fun i=>its.getD i Value.none)) e)->EP X pins σ Q (.ref l) { s with heap:=h',toks:=tk }:=by
  intro key σ' hsh pw h64 ed p h1 h' l e tk hp hu k1 k2 hl he
  have el:its.length=ds.length:=by omega
  rw [el] at hp hu
  have ps:=wZ hsh pw hp hu
  have hr:p.toList.Perm (List.range ds.length):=by
   have:=Array.perm_iff_toList_perm.mp hp
   simpa using this
  have hlt:∀ i∈p.toList,i < ds.length:=fun i hi=>by simpa using hr.mem_iff.mp hi
  have I1:Inv X pins σ H { s with heap:=h1,toks:=tk }:=I.kept k1
  have hn:H l=none:=I1.hok.fresh hl
  have rv':=tS rv p.toList fun i hi=>by have:=hlt i hi; omega
  have dn':=tR dn p.toList hlt
  have hlen:p.toList.length=ds.length:=by rw [hr.length_eq,NU]
  refine⟨.ref l,_,Inv.laid (s:={ s with heap:=h1,toks:=tk }) (t':=tk) I1 k2 hl (show dg X.prog X.w _ h' _ (.lst (p.toList.map fun i=>vs.getD i .non)) from ⟨by rw [MV,hlen,QP]; omega,_,e,rv',he⟩),rfl,?_⟩
  refine q _ _ (cv hn _) ?_
  rw [ed,<- ps]
  exact gP hO hn dn'
 unfold pN at hs
 split at hs
 ·rename_i h
  cases hs
  obtain⟨h64,σ',hσ,hsh,pw⟩:=h
  obtain⟨b,σ1,rfl⟩:∃ b σ1,σ'=b::σ1:=by
   cases σ' with
   | nil=>exact absurd rfl hσ
   | cons b σ1=>exact⟨b,σ1,rfl⟩
  have hsh':∀ x∈ds,Sh (b::σ1) (gL x):=fun x hx=>by
   obtain⟨k,rfl,hk⟩:=hsh x hx
   exact hk
  have at':∀ i (hi:i < ds.length),∃ a o xs n,its[i]?=some (.ref a)/\s.heap.get? a=some o/\o.cls=.type "tuple"/\o.data=.seq xs n/\gS xs.toList (gL ds[i]):=fun i hi=>by
   obtain⟨v,e1,dv⟩:=dn.get (i:=i) (d:=ds[i]) (by simp [hi])
   obtain⟨w,e2,rw'⟩:=rv.get e1
   obtain⟨k,ek,hk⟩:=hsh _ (Ou hi)
   rw [ek] at dv ⊢
   obtain⟨a,ws,rfl,ha,dk⟩:=cu.mp dv
   cases rw'
   obtain⟨it2,r2,⟨o,ho,hc,n,hd⟩,_⟩:=I.tuple (cw (aO H O) ha)
   exact⟨a,o,_,n,e2,ho,hc,hd,by simpa [gL] using lg (u9 hk) dk r2⟩
  refine qC (κ:=tuples' true) (r:=rank (ds.map gL)) ‹0› hcol (fun h2 h' tk kp Q' hQ=>?_) (fun h2 h' tk kp i j C hi hj hC=>?_) (fin gL _ hsh' pw h64 rfl)
  ·obtain⟨fs,t1,t2,t3⟩:=rp (h:=h') (PT:=fun f=>typeOf f=pure (.type (if b then "int" else "str"))) (its:=its) fun v hv=>by
    obtain⟨i,hi,rfl⟩:=NP hv
    obtain⟨a,o,xs,n,e1,ho,hc,hd,ff⟩:=at' i ‹0›
    obtain⟨f,ef,tf⟩:=ff.first (hsh' _ (Ou _))
    refine⟨a,o,xs,n,f,?_,kp _ _ ho,hc,hd,by simpa using ef,tf⟩
    have:=NF hi
    rw [e1] at this
    exact(Option.some.inj this).symm
   refine kat_kind (T:=.type (if b then "int" else "str")) t1 ‹0› (fun f hf=>Looks.of_pure (t3 f hf)) (by cases b <;> rfl) ?_
   have:(Value.type (if b then "int" else "str") != Value.type "tuple")=true:=by cases b <;> rfl
   rw [this]; exact hQ
  ·obtain⟨a,o,xs,n,e1,ho,hc,hd,ff⟩:=at' i ‹0›
   obtain⟨a2,o2,xs2,n2,e2,ho2,hc2,hd2,ff2⟩:=at' j ‹0›
   unfold kas_ask
   have g1:its.getD i Value.none=.ref a:=by simp [Ow,e1]
   have g2:its.getD j Value.none=.ref a2:=by simp [Ow,e2]
   rw [g1,g2]
   have hi':i < ds.length:=by omega
   have hj':j < ds.length:=by omega
   have sh1:=hsh' _ (Ou hi')
   have sh2:=hsh' _ (Ou hj')
   have rl:=uK (ks:=ds.map gL) (σ:=b::σ1) (fun k hk=>by obtain⟨x,hx,rfl⟩:=List.mem_map.mp hk; exact hsh' x hx) (i:=i) (j:=j) (by rw [MV]; exact hi') (by rw [MV]; exact hj')
   have k1:(ds.map gL).getD i []=gL ds[i]:=by simp [hi']
   have k2:(ds.map gL).getD j []=gL ds[j]:=by simp [hj']
   rw [k1,k2] at rl
   rw [rl] at hC
   refine kat_lt (kp _ _ ho) hd (kp _ _ ho2) hd2 (lj ?_ sh1 sh2 ff ff2 hC)
   have z1:xs.size=(gL ds[i]).length:=by have:=ff.length; simpa using this
   have z2:xs2.size=(gL ds[j]).length:=by have:=ff2.length; simpa using this
   have z3:(gL ds[i]).length=(gL ds[j]).length:=by rw [Sh.length sh1,Sh.length sh2]
   exact decide_eq_false ‹0›
 ·split at hs
  ·rename_i _ h
   cases hs
   obtain⟨h64,b,hsh,pw⟩:=h
   have at':∀ i (hi:i < ds.length),(∃ (n:Int) (t:Tok),b=true/\its[i]?=some (.int n t)/\ds[i]=.int n)\/∃ (x:Str) (t:Tok),b=false/\its[i]?=some (.str x t)/\ds[i]=.str x:=fun i hi=>by
    obtain⟨v,e1,dv⟩:=dn.get (i:=i) (d:=ds[i]) (by simp [hi])
    obtain⟨w,e2,rw'⟩:=rv.get e1
    have hk:=hsh _ (Ou hi)
    generalize ds[i]=di at dv hk
    cases hk with
    | int n _ =>
     rw [eU] at dv; subst dv
     obtain⟨t,rfl⟩:=rw'
     exact .inl ⟨n,t,rfl,e2,rfl⟩
    | str x _ =>
     rw [eV] at dv; subst dv
     obtain⟨t,rfl⟩:=rw'
     exact .inr ⟨x,t,rfl,e2,rfl⟩
   refine qC (κ:=oneType') (r:=rank (ds.map oneOf)) ‹0› hcol (fun h2 h' tk kp Q' hQ=>?_) (fun h2 h' tk kp i j C hi hj hC=>?_) (fin oneOf [b] hsh pw h64 rfl)
   ·refine kas_kind (T:=.type (if b then "int" else "str")) h2 (fun v hv=>?_) (by cases b <;> rfl) (by cases b <;> rfl) hQ
    obtain⟨i,hi,rfl⟩:=NP hv
    have hg:=NF hi
    rcases at' i ‹0› with ⟨n,t,rfl,e,_⟩ | ⟨x,t,rfl,e,_⟩
    ·rw [hg] at e; rw [Option.some.inj e]; exact Looks.of_pure rfl
    ·rw [hg] at e; rw [Option.some.inj e]; exact Looks.of_pure rfl
   ·have hi':i < ds.length:=by omega
    have hj':j < ds.length:=by omega
    unfold kas_ask
    have rl:=uK (ks:=ds.map oneOf) (σ:=[b]) (fun k hk=>by obtain⟨x,hx,rfl⟩:=List.mem_map.mp hk; exact hsh x hx) (i:=i) (j:=j) (by rw [MV]; exact hi') (by rw [MV]; exact hj')
    have k1:(ds.map oneOf).getD i []=[ds[i]]:=by simp [hi',oneOf]
    have k2:(ds.map oneOf).getD j []=[ds[j]]:=by simp [hj',oneOf]
    rw [k1,k2] at rl
    rw [rl] at hC
    rcases at' i hi' with ⟨n,t,hb,e1,q1⟩ | ⟨x,t,hb,e1,q1⟩
    ·rcases at' j hj' with ⟨n2,t2,hb2,e2,q2⟩ | ⟨x2,t2,hb2,e2,q2⟩
     ·have g1:its.getD i Value.none=.int n t:=by simp [Ow,e1]
      have g2:its.getD j Value.none=.int n2 t2:=by simp [Ow,e2]
      rw [g1,g2,keyLt'_oneType]
      refine oneLt_int ?_
      rw [q1,q2] at hC
      unfold kLt at hC
      rw [rg] at hC
      by_cases z:n=n2
      ·rw [if_pos z] at hC
       rw [decide_eq_false ‹0›]
       exact hC
      ·rw [if_neg z] at hC
       cases hd:decide (n < n2) <;> rw [hd] at hC <;> exact hC
     ·rw [hb] at hb2; cases hb2
    ·rcases at' j hj' with ⟨n2,t2,hb2,e2,q2⟩ | ⟨x2,t2,hb2,e2,q2⟩
     ·rw [hb] at hb2; cases hb2
     ·have g1:its.getD i Value.none=.str x t:=by simp [Ow,e1]
      have g2:its.getD j Value.none=.str x2 t2:=by simp [Ow,e2]
      rw [g1,g2,keyLt'_oneType]
      refine oneLt_str ?_
      rw [q1,q2] at hC
      unfold kLt at hC
      rw [qT] at hC
      by_cases z:x=x2
      ·rw [if_pos z] at hC
       rw [decide_eq_false (by rw [z]; exact qJ _)]
       exact hC
      ·rw [if_neg z] at hC
       cases hd:decide (x.cps.toList < x2.cps.toList) <;> rw [hd] at hC <;> exact hC
  ·cases hs
theorem om:eG X (.builtin "sorted") (zT X.K fV):=by
 intro pins s σ H xs us Q I r ⟨O,ds,d,hO,hd,hg,q⟩
 unfold fV at hg
 split at hg
 ·obtain⟨v,rfl,h1⟩:=hd.one
  obtain⟨p,ws,rfl,g1,g2⟩:=cq.mp h1
  obtain⟨u,rfl,ru⟩:=vals1 r
  cases ru
  obtain⟨its,rv,pl,hz⟩:=I.list ((aO H O).seq g1)
  have hlen:=rv.length
  obtain⟨o,ho,hc,n,hd'⟩:=pl.isList
  exact tu I hO g2 rv hg (fun Q' hQ=>wpAny_collect_seq p (.inl rfl) ho hc hd' (fun h' k=>by simpa using hQ h' s.toks k) (by simp only [MR] <;> omega)) q
 ·obtain⟨v,rfl,h1⟩:=hd.one
  obtain⟨p,ws,rfl,g1,g2⟩:=cu.mp h1
  obtain⟨u,rfl,ru⟩:=vals1 r
  cases ru
  obtain⟨its,rv,⟨o,ho,hc,n,hd'⟩,hz⟩:=I.tuple (cw (aO H O) g1)
  have hlen:=rv.length
  exact tu I hO g2 rv hg (fun Q' hQ=>wpAny_collect_seq p (.inr rfl) ho hc hd' (fun h' k=>by simpa using hQ h' s.toks k) (by simp only [MR] <;> omega)) q
 ·cases hg
end
end TG
namespace TG
open PySem PySem.Spec L2
variable [bc]
section
variable {X:Cx} {tg:Qy}
end
end TG
namespace TG
open PySem PySem.Spec L2
variable [bc]

end TG
namespace TG
open PySem PySem.Spec L2
variable [bc]
end TG
namespace TG
open PySem PySem.Spec L2
variable [bc]
def keyOf:D->Option Key
 | .int i=>some (.inl i)
 | .str x=>some (.inr x)
 | _=>none
def keysOf:List D->Option (List Key)
 | []=>some []
 | d::r=>(keyOf d).bind fun k=>(keysOf r).map (k::·)
theorem rL {d:D} {k:Key} (h:keyOf d=some k):d=dY k:=by
 cases d with
 | int i=>cases h; rfl
 | str x=>cases h; rfl
 | _=>cases h
theorem oX:∀ {ds:List D} {ks:List Key},keysOf ds=some ks->ds=ks.map dY
 | [],_,h=>by cases h; rfl
 | d::r,ks,h=>by
  unfold keysOf at h
  cases e1:keyOf d with
  | none=>rw [e1] at h; cases h
  | some k =>
   rw [e1] at h
   cases e2:keysOf r with
   | none=>rw [e2] at h; cases h
   | some ks'=>rw [e2] at h; cases h; rw [rL e1,oX e2]; rfl
theorem je:∀ ks:List Key,keysOf (ks.map dY)=some ks
 | []=>rfl
 | k::r=>by
  show (keyOf (dY k)).bind _=_
  have e:keyOf (dY k)=some k:=by cases k <;> rfl
  rw [e]
  show (keysOf (r.map dY)).map (k::·)=_
  rw [je r]; rfl
theorem v5 {K:O2} {H:Hp} {k:Key} {v:V} (h:cA K H (dY k) v):v=kV k:=by
 cases k with
 | inl i=>exact eU.mp h
 | inr x=>exact eV.mp h
section
variable {P:Qn} {w:Qm} {H H':Hp} {h:Qp} {a:Qo}
theorem wH (x:dg P w H h a (.dT [])):dg P w H' h a (.dK []):=by
 obtain⟨z,hd,xs,rel,o,es,ep,h1,h2,h3,h4,h5⟩:=x
 have e:xs=[]:=by have:=rel.length; simpa using this.symm
 subst e
 have e2:es=#[]:=by simpa using h4
 subst e2
 exact⟨MY _,hd,[],.nil,o,#[],ep,h1,h2,h3,fun e he=>by simp at he,.nil,by simp⟩
end
section
variable {X:Cx} {pins:List (Qo×Obj)} {σ:St} {H:Hp} {s:Qu} {a:Qo}
theorem Ln (I:Inv X pins σ H s) (h1:H a=some (.dT [])):Inv X pins σ (upd H a (.dK [])) s:=by
 have hx:=I.hok a _ h1
 have hq:∃ q,s.heap.get? a=some q:=by obtain⟨_,_,_,_,o,_,_,e,_⟩:=id hx; exact⟨o,e⟩
 exact uG (ob:=.dK []) (h':=s.heap) (t':=s.toks) I (by rw [h1]; exact trivial) ⟨rfl,fun _ _=>rfl⟩ hq (wH hx)
end
theorem CI {H:Hp} {a:Qo} {o1 o2:HO}:upd (upd H a o1) a o2=upd H a o2:=by
 funext b
 by_cases e:b=a
 ·subst e; rw [bJ,bJ]
 ·rw [bg e,bg e,bg e]
end TG
namespace TG
open PySem PySem.Spec L2
variable [bc]
end TG
namespace TG
open PySem PySem.Spec PySem.W PySem.Calls PyProof.Rows Builtin Builtin.ObjectAttr Builtin.Getset_descriptor
variable [bc]
section
variable {prog:Qn} {w:Qm} {A:Qt} {E:Ql->Qu->Prop} {s:Qu} {K:Frag} {x D:Qo} {ox:Obj} {R:QQ->Qu->Prop}
theorem Bf {M:Qw} {h:Qp} (X:K.In h) (q1:findIn K (.ref D) "__class__"=some (some (.builtin "object.__class__"))) (q2:specialIn K (.builtin "object.__class__") "__get__"=some (some (.builtin "getset_descriptor.__get__"))) (q3:takesIn K (.builtin "object.__class__")=some true) :
  Looks M h (find (.ref x) (.ref D) "__class__") (.bind (.builtin "getset_descriptor.__get__") (.builtin "object.__class__")):=by
 have y1:=looks_findIn (M:=M) X q1
 have y2:Looks M h (getOf (some (.builtin "object.__class__"))) (some (.builtin "getset_descriptor.__get__")):=looks_specialIn X q2
 have y3:=looks_takesIn (M:=M) X q3
 refine y1.andThen (y2.andThen ?_)
 refine Looks.andThen (a:=some (.builtin "getset_descriptor.__get__",.builtin "object.__class__")) (y3.andThen .now) ?_
 exact Looks.tag .now
theorem Ez {tp:Ql} (y0:Looks (model prog w) s.heap (typeOf (.ref x)) (.ref D)) (y1:Looks (model prog w) s.heap (isSubtype (.ref D) (.type "object")) true) (h:R (.ok (.ret (.ref D))) s) :
  QR (model prog w) A (.call (.builtin "getset_descriptor.__get__") ⟨[.builtin "object.__class__",.ref x,tp],[]⟩) R s:=by
 obtain⟨h₁,g₁,d₁,t₁,o₁⟩:=s
 refine Rv KF.slot_gs.plain KF.entry_gs
  (KF.slot_gs.check _ _ _ _ _ _ _ _ KF.type_class (KF.args_gs _ _ _) ?_)
 unfold Builtin.«getset_descriptor.__get__»
 unfold descrGet
 rw [dga_obj]
 refine QD (QG ?_)
 unfold descrGetter descrCheckInstance
 unfold descrNameAndClass isInstance
 simp only [KF.owner_class]
 repeat lk
 refine⟨Code.quiet_builtin _ (by decide +kernel),
  Rw KF.entry_class ?_⟩
 unfold Builtin.«object.__class__»
 unfold shownTypeOf
 repeat lk
 exact h
structure uT (K:Frag) (D:Qo):Prop where
 ga:findIn K (.ref D) "__getattribute__"=some (some (.builtin "BaseException.__getattribute__"))
 gn:findIn K (.ref D) "__getattr__"=some none
 fc:findIn K (.ref D) "__class__"=some (some (.builtin "object.__class__"))
 sg:specialIn K (.builtin "object.__class__") "__get__"=some (some (.builtin "getset_descriptor.__get__"))
 tk:takesIn K (.builtin "object.__class__")=some true
 ob:mroIn K D (.type "object")=some true
 be:mroIn K D (.type "BaseException")=some true
theorem AQ {Q:Option Ql->Qu->Prop} (Z:uT K D) (X:K.In s.heap) (y0:∀ M,Looks M s.heap (typeOf (.ref x)) (.ref D)) (h:Q (some (.ref D)) { s with toks:=s.toks+1 }):Qx (model prog w) A (getAttr? (.ref x) "__class__") Q E s:=by
 obtain⟨hh,g,d,t,os⟩:=s
 have L0:=y0 (model prog w)
 have L1:=looks_findIn (M:=model prog w) X Z.ga
 have L2:=looks_findIn (M:=model prog w) X Z.gn
 have L3:=looks_mroIn (M:=model prog w) X Z.be
 have L4:=Bf (M:=model prog w) (x:=x) X Z.fc Z.sg Z.tk
 have L5:=looks_mroIn (M:=model prog w) X Z.ob
 unfold getAttr? getAttrBy? getAttrBy
 refine QD (wpAny_mkText (QD
  (Rt (QE (QD (L0.at (QD (L1.at ?_))))))))
 show Qx _ _ (getAttrByItsOwn _ _ _ _ _ _) _ _ _
 unfold getAttrByItsOwn
 refine QD ?_
 show Qx _ _ (typeLookup (Value.ref D) "__getattr__") _ _ _
 refine L2.at ?_
 refine QD (Rt (QE ?_))
 show Qx _ _ (boundAndCalled _ _ _) _ _ _
 unfold boundAndCalled
 rw [PySem.F.attrBase_ValueError.ga.bind (.ref x)]
 refine QD (QG ?_)
 have ha:=F.args_bexc_ga (.ref x) (Value.str (Str.ofString "__class__") t)
 have hk:builtinKind "BaseException.__getattribute__"=some .slot:=by
  decide +kernel
 have hsplit:splitId "BaseException.__getattribute__"=some ("BaseException","__getattribute__"):=by
  decide +kernel
 refine QZ (Rv PySem.F.attrBase_ValueError.ga.plain F.entry_bexc_ga ?_)
 have LI:Looks (model prog w) hh (isInstance (.ref x) (.type "BaseException")) true:=L0.andThen L3
 have hT:∀ A' (Q':Unit->Qu->Prop) E',Q' () ⟨hh,g,d,t+1,os⟩->Qx (model prog w) A' (checkBuiltinCall "BaseException.__getattribute__" ⟨[.ref x,Value.str (Str.ofString "__class__") t],[]⟩) Q' E' ⟨hh,g,d,t+1,os⟩:=fun A' Q' E' hq=>by
  simp only [checkBuiltinCall,hk,hsplit]
  refine QD (LI.at ?_)
  repeat (first | exact hq | wp_step)
 refine hT _ _ _ ?_
 show Qx _ _ (Builtin.«object.__getattribute__» ⟨[.ref x,Value.str (Str.ofString "__class__") t],[]⟩) _ _ _
 unfold Builtin.«object.__getattribute__»
 refine QD (QG ?_)
 refine QD (QG ?_)
 refine QD (L0.at ?_)
 refine QD (L4.at ?_)
 show Qx _ _ (Builtin.ObjectAttr.bindTo (.builtin "getset_descriptor.__get__") (.builtin "object.__class__") (.ref x) (.ref D)) _ _ _
 unfold Builtin.ObjectAttr.bindTo
 dsimp only
 refine QD (QE (QZ (Ez (s:=⟨hh,g,d,t+1,os⟩) L0 L5 ?_)))
 exact QG (handed_on rfl (QG h))
theorem CZ (F:uT K D):KitX K (.ref x) (.ref D) (fun h=>∃ o,h.get? x=some o/\o.cls=.ref D):=by
 have cl:∃ c d cd sl,K.lookup D=some ⟨c,d,.cls cd,sl⟩:=by
  have z:=F.fc
  unfold findIn at z
  dsimp only at z
  split at z
  ·rename_i ho; exact⟨_,_,_,_,ho⟩
  ·cases z
 have ty:∀ (M:Qw) (h:Qp),(∃ o,h.get? x=some o/\o.cls=.ref D)->Looks M h (typeOf (.ref x)) (.ref D):=fun M h ⟨o,e,c⟩=>c ▸ (Looks.ld e).andThen .now
 refine⟨fun M h _ I=>ty M h I,fun M h X _=>?_,fun h tp dd its n sl X htp=>?_,fun X I k=>AQ F X (fun M=>ty M _ I) k⟩
 ·obtain⟨c,d,cd,sl,ho⟩:=cl
  intro A' Q' E' s' k q
  unfold isType loadHead
  exact QD (wpAny_loadPart (k _ _ (X _ _ ho)) (QG q))
 ·obtain⟨c,d,cd,sl,ho⟩:=cl
  cases hb:(Value.ref D==Value.ref tp) with
  | false=>rfl
  | true =>
   have e:D=tp:=Value.ref.inj (beq_iff_eq.mp hb)
   subst e
   cases (X _ _ ho).symm.trans htp
end
end TG
namespace TG
open PySem PySem.Spec L2
variable [bc]
open PyProof.Rows (AllBare OwnCls)
section
variable {X:Cx} {pins:List (Qo×Obj)} {σ:St} {H:Hp} {s:Qu} {h':Qp}
theorem zJ (I:Inv X pins σ H s) (hx:X.ex=[]) (hst:X.stack=X.env::X.outer) (hf:X.env.frame=some X.env.locals) (hfn:∀ x,X.fn x=true) (us:s.heap.UpToSlots h') (k:∀ b o,s.heap.get? b=some o->kT X H b->b∉frs X.stack->h'.get? b=some o) :
  Inv X [] σ H { s with heap:=h' }:=by
 have un:=Bk I hx hst hf us k
 have cellF:∀ x c,X.env.cells.lookup x=some c->c∉frs X.stack:=fun x c e z=>by
  obtain⟨v,o,q,d⟩:=I.cell x c e
  rw [hst] at z
  have z':c∈X.env.locals::frs X.outer:=by
   have:frs (X.env::X.outer)=X.env.locals::frs X.outer:=by show List.filterMap _ (_::_)=_; rw [MH,hf]; rfl
   rw [this] at z; exact z
  rcases List.mem_cons.mp z' with z | z
  ·obtain⟨m,⟨o2,es,ep,e2,d2,_⟩,_⟩:=I.loc
   rw [<- z,q] at e2; cases e2; rw [d] at d2; cases d2
  ·obtain⟨_,o2,e2,_⟩:=I.ok.funs.mem z
   exact MD _ (MC (PJ e2) (I.ok.cab x c (hfn x) e))
 have cellK:∀ x c v,X.env.cells.lookup x=some c->s.heap.IsCell c v->h'.IsCell c v:=fun x c v e ⟨o,q,d⟩=>⟨o,k c o q (.inr (.inr (.inr ⟨x,e⟩))) (cellF x c e),d⟩
 obtain⟨m,hn,hl⟩:=I.loc
 refine⟨I.ok,I.os,I.bare,by rw [hx]; exact un,⟨m,us.ns hn,fun i x v e1 e2 e3=>?_⟩,fun x c e=>?_,I.free,I.freeC,fun p hp=>?_,zz I k,I.len⟩
 ·obtain⟨u,r,q⟩:=hl i x v e1 e2 e3
  refine⟨u,r,?_⟩
  rcases q with q | ⟨q1,c,q2,q3⟩
  ·exact .inl q
  ·exact .inr ⟨q1,c,q2,cellK x c _ q2 q3⟩
 ·obtain⟨v,q⟩:=I.cell x c e
  exact⟨v,cellK x c v e q⟩
 ·rw [MZ] at hp
  obtain⟨e,n,ne,nf,d⟩:=I.pin p (MK _ hp)
  have nfs:p.1∉frs X.stack:=fun z=>by
   have:frs X.stack=X.env.locals::frs X.outer:=by rw [hst]; show List.filterMap _ (_::_)=_; rw [MH,hf]; rfl
   rw [this] at z
   rcases List.mem_cons.mp z with z | z
   ·exact ne z
   ·exact nf z
  exact⟨k _ _ e (.inr (.inr (.inl ⟨p.2,hp⟩))) nfs,n,ne,nf,d⟩
theorem AD {e C:Qo} {oe:Obj} (I:Inv X pins σ H s) (hx:X.ex=[]) (hn:H e=none) (he:s.heap.get? e=some oe) (hc:oe.cls=.ref C) (h0:X.s₀.heap.get? e=none) (hL:e≠X.env.locals) (hcl:∀ x,X.env.cells.lookup x≠some e) (hp:∀ p∈X.pn++pins,p.1≠e) :
  Inv X pins σ (upd H e (.ext (AJ C e oe.dict))) s:=by
 have ne:∀ b u,H b=some u->b≠e:=fun b u q z=>by rw [z,hn] at q; cases q
 have U:=I.base
 refine⟨I.ok,I.os,I.bare,⟨U.keep,U.slot,fun b o q n nx=>?_,U.there,fun b xs q=>?_,fun b o u q=>?_,fun b ps q=>?_⟩,I.loc,I.cell,?_,fun x c q=>?_,fun p q=>?_,fun a o q=>?_,I.len⟩
 ·rw [bg fun z=>by rw [z,h0] at q; cases q]; exact U.free b o q n nx
 ·have:=U.tups b xs q; rw [bg (ne _ _ this)]; exact this
 ·have:=U.frzs b o u q; rw [bg (ne _ _ this)]; exact this
 ·obtain⟨more,z⟩:=U.tbls b ps q; exact⟨more,by rw [bg (ne _ _ z)]; exact z⟩
 ·rw [bg hL.symm]; exact I.free
 ·rw [bg fun z=>hcl x (by rw [<- z]; exact q)]; exact I.freeC x c q
 ·obtain⟨a1,a2,a3⟩:=I.pin p q
  exact⟨a1,by rw [bg (hp p q)]; exact a2,a3⟩
 ·by_cases z:a=e
  ·subst z
   rw [bJ] at q; cases q
   exact⟨⟨oe,he,hc,rfl⟩,⟨oe,he⟩,fun _ _ h1 h2 ⟨o,q1,q2⟩ _ k=>⟨o,k _ o (.inl rfl) q1,q2⟩⟩
  ·rw [bg z] at q
   exact(I.hok a o q).stay (fun b u _ q=>q) (fun b q=>by rw [bg (ne _ _ q)]; exact q) fun b xs q=>by rw [bg (ne _ _ q)]; exact q
end
abbrev Ii:List Ql:=[.type "ValueError",.type "Exception",.type "BaseException",.type "object"]
theorem Dp {K:O2} {h:Qp} {C:Qo} {bmB:List Ql} {newId:String} (X:K.In h) (q:Px K C bmB newId=true) (x:Str):OwnCls x C bmB newId (fun _=>some (.ref C)) h:=by
 constructor
 ·rfl
 ·unfold Px at q
  split at q
  ·rename_i od data slots look
   split at q
   ·rename_i C0 tl s0 s1 s2 s3 nid s5 e1 e2
    simp only [Nc,beq_iff_eq,Bool.not_eq_true'] at q
    obtain⟨⟨⟨⟨⟨y1,y2⟩,y3⟩,y4⟩,y5⟩,y6⟩:=q
    subst y1 y2
    obtain⟨d1,d2,d3,d4,d5,d6,d7,d8,d9,d10,d11⟩:=data
    dsimp only at e1 y3 y5 y6
    subst e1 y3
    have hs:slots=#[s0,s1,s2,s3,some (.builtin nid),s5]:=by
     cases slots with
     | mk l=>rw [show l=_ from e2]
    subst hs
    exact⟨tl,d4,d1,d5,d2,d6,d7,d8,d9,d10,od,s0,s1,s2,s3,s5,_,X _ _ look,.of_isNs (PySem.W.isNs_of_in X y5),PySem.W.nsMap_none_of_in X y5 y6,PySem.W.tail_of_in X y4⟩
   ·cases q
  ·cases q
def ExcAt (K:O2) (mg:Str->Option Ql) (x:Str):Prop:=∃ C,clsAt K x C/\mg x=some (.ref C)/\Px K C Ii "ValueError.__new__"=true
def ke (c:Str) (f:av->R (List D)):ca:=fun k ρ=>p9 (f ρ) k ρ fun ds=>if small ds.length then k.ex ⟨c,[],[]⟩ ρ else un
theorem og {base B h h':Qp} (k:∀ b o,h.get? b=some o->h'.get? b=some o):∀ {l:List Env},(∀ b∈frs l,B.get? b=none)->h.FunFrames base l->h'.FunFrames B l
 | [],_,_=>trivial
 | env::l,hb,⟨h1,⟨L,o,h2,_,h3,h4⟩,h5⟩=>by
  have mem:L∈frs (env::l):=by show L∈List.filterMap _ (_::_); rw [MH,h2]; exact MI
  refine⟨h1,⟨L,o,h2,hb L mem,k _ _ h3,h4⟩,og k (fun b z=>hb b ?_) h5⟩
  show b∈List.filterMap _ (_::_)
  rw [MH,h2]
  exact MJ _ z
section
variable {X:Cx} {pos:Pos}
theorem CV {pins:List (Qo×Obj)} {σ:St} {H:Hp} {s:Qu} {h':Qp} {e C:Qo} {us:List Ql} (I:Inv X pins σ H s) (m:Heap.MadeExcOf s.heap h' e (.ref C) us):yN X H { s with heap:=h' } e C:=by
 have hd:∀ b o,(pE s.heap (fun b=>if b∈frs X.stack then some (.tup []) else none)).get? b=some o->s.heap.get? b=some o/\b∉frs X.stack:=fun b o q=>by
  obtain⟨q1,q2⟩:=yM q
  refine⟨q1,fun z=>?_⟩
  rw [if_pos z] at q2; cases q2
 obtain⟨t,m1,m2,m3⟩:=m.there
 refine⟨pE s.heap (fun b=>if b∈frs X.stack then some (.tup []) else none),.ref t,fun b o q=>m.keeps b o (hd b o q).1,?_,og m.keeps (fun b hb=>?_) I.stack,.inr ⟨_,_,m1,rfl,rfl,rfl,rfl⟩,fun b o q kb nf=>?_⟩
 ·cases q:(pE s.heap (fun b=>if b∈frs X.stack then some (.tup []) else none)).get? e with
  | none=>rfl
  | some o=>have:=(hd e o q).1; rw [m.new] at this; cases this
 ·cases q:(pE s.heap (fun b=>if b∈frs X.stack then some (.tup []) else none)).get? b with
  | none=>rfl
  | some o=>exact absurd hb (hd b o q).2
 ·obtain⟨o1,e1⟩:∃ o1,s.heap.get? b=some o1:=by
   rcases kb with ⟨⟨o0,z⟩,nx⟩ | z | ⟨o0,z⟩ | ⟨y,z⟩
   ·exact I.base.there b o0 z nx
   ·cases q0:H b with
    | none=>exact absurd q0 z
    | some ob=>exact C2 (I.hok b ob q0)
   ·exact⟨_,(I.pin _ (MK _ z)).1⟩
   ·obtain⟨v,o0,z0,_⟩:=I.cell y b z
    exact⟨o0,z0⟩
  have:=m.keeps b o1 e1
  rw [show h'.get? b=some o from q] at this; cases this
  exact vG e1 (if_neg nf)
theorem HE {x:Str} {e:Qy} {es:List Qy} {f:av->R (List D)} {np cpos:Pos} (hc:X.calm=true) (hx:ExcAt X.K X.mg x) (hg:Gl X x) (ha:FA X (e::es) f)
  (hdb:(x==("__debug__":Str))=false:=by decide) (hns:(e::es).all noStar=true:=by rfl) :
  FS X (.Raise (some (.Call (.Name x np) (e::es) [] cpos)) none pos) (ke x f):=fun Hb Ob pins s σ H E I ⟨O,ρ,k,r,S,hF,hk⟩=>by
 obtain⟨C,cl,hm,hi⟩:=hx
 obtain⟨tl,N,nm,q,bs,hdct,sn,sub,ab,col,dd,k0,k1,k2,k3,k5,mN,hC,hN,hni,T⟩:=(Dp I.mod.kin hi x).obj
 have st:Qz (e::es) X.env=_:=cS (Nc _ _ ▸ hns).1
 have plain:(backTo cpos (Qz (e::es) X.env)).any (·.1)=false:=dE hns
 refine wpAny_Raise_call_subT (k5:=k5) (k3:=k3) (k2:=k2) (k1:=k1) (k0:=k0) (dd:=dd) (col:=col) (ab:=ab) (sub:=sub) (sn:=sn) (hdct:=hdct) (bs:=bs) (N:=N) (q:=q) (nm:=nm) PySem.F.excBase_ValueError (mN:=mN) (T.hasType PySem.F.excBase_ValueError.hasBase) (I.ok.hd hc) plain hni (md I hg hm ⟨rfl,?_⟩ hdb)
 have A1:=ha cpos pins s σ H (fun vs H1=>vs.length<=Qq/\bH H H1/\k.ex ⟨x,[],[]⟩ ρ=r) I ⟨O,ρ,S.env,hV.on hF hk S fun ds e vs H' s' d'=>by
  have z:small ds.length=true:=by
   cases z:small ds.length with
   | true=>rfl
   | false=>rw [z] at e; exact absurd e.symm hk.ne
  rw [z] at e
  exact⟨by rw [<- d'.length]; exact dh z,s',e⟩⟩
 rw [st] at A1 ⊢
 refine Calls.evalArgs_plain (dB A1 fun us s2 ⟨vs,H1,I1,rv,q1,q2,q3⟩=>⟨rfl,by rw [<- rv.length]; exact q1,I1.bk _ _ hC,hN.keeps I1.bk,T.keeps I1.bk,fun h' a m=>?_⟩)
 exact hk.ex O ρ σ H1 _ (S.same q2) q3 pins _ _ H1 (I1.kept (t':=s2.toks) m.keeps) (bH.refl H1) ⟨a,C,none,rfl,⟨cl,[],cF.mpr rfl,rfl,.inl rfl⟩,CV I1 m⟩
end
end TG
namespace TG
open PySem PySem.Spec L2
variable [bc]
abbrev wf (X:Cx) (E:Ql->Qu->Prop) (pn:List (Qo×Obj)):Cx:={ X with xe:=E,pn:=pn }
abbrev rB (X:Cx) (A:Qt) (pn:List (Qo×Obj)):Cx:={ X with A:=A,xe:=fun _ _=>False,calm:=false,pn:=pn }
section
variable {X:Cx} {pins:List (Qo×Obj)} {σ:St} {H:Hp} {s:Qu} {E:Ql->Qu->Prop} {A:Qt}
theorem Eg (I:L2.Inv X pins σ H s) (E:Ql->Qu->Prop):L2.Inv (wf X E (X.pn++pins)) [] σ H s :=
 ⟨⟨I.ok.mod,I.ok.kind,I.ok.glob,I.ok.blt,I.ok.above,I.ok.inj,I.ok.has,I.ok.cab,I.ok.hd,I.ok.frames,I.ok.stk,I.ok.exf,I.ok.bs,I.ok.bsz,I.ok.noex,I.ok.exfs,I.ok.funs,I.ok.frf⟩,
  I.os,I.bare,I.base,I.loc,I.cell,I.free,I.freeC,fun p hp=>I.pin p (by simpa using hp),I.hok,I.len⟩
theorem la {E':Ql->Qu->Prop} {A':Qt} {c':Bool} (ok:X.Ok) (I:L2.Inv { X with A:=A',xe:=E',calm:=c',pn:=X.pn++pins } [] σ H s):L2.Inv X pins σ H s :=
 ⟨ok,I.os,I.bare,I.base,I.loc,I.cell,I.free,I.freeC,fun p hp=>I.pin p (by simpa using hp),I.hok,I.len⟩
theorem wW {pn:List (Qo×Obj)} {ps:List (Qo×Obj)} (I:L2.Inv (wf X E pn) ps σ H s) (hA:A.frames=X.A.frames):L2.Inv (rB X A pn) ps σ H s :=
 ⟨⟨I.ok.mod,I.ok.kind,I.ok.glob,I.ok.blt,I.ok.above,I.ok.inj,I.ok.has,I.ok.cab,(fun z=>nomatch z),by rw [show (rB X A pn).A=A from rfl,hA]; exact I.ok.frames,I.ok.stk,I.ok.exf,I.ok.bs,I.ok.bsz,I.ok.noex,I.ok.exfs,I.ok.funs,I.ok.frf⟩,
  I.os,I.bare,I.base,I.loc,I.cell,I.free,I.freeC,I.pin,I.hok,I.len⟩
theorem CQ {i:Nat} {n:Str} {v:Option Ql} {m:Str->Option Ql} {h9:Qp} {t:Nat} (I:L2.Inv X pins σ H s) (hN:X.N.Nodup) (hi:X.N[i]?=some n) (hn:s.heap.Ns X.env.locals m)
  (hl:∀ (i:Nat) (x:Str) (v:V),X.N[i]?=some x->σ[i]?=some (some v)->Hj X.env.scope x->∃ u,RelV v u/\Look X.env s.heap m x u)
  (ns:h9.Ns X.env.locals (fun x=>if x=n then v else m x)) (sb:PL X.env.locals s.heap h9):L2.Inv X pins (σ.set i none) H { s with heap:=h9,toks:=t }:=by
 have old:∀ b o,X.s₀.heap.get? b=some o->b≠X.env.locals:=fun b o q z=>by
  have h1:=PJ q
  rw [z] at h1; exact MD _ (MC h1 I.ok.above)
 have go:∀ b o,b≠X.env.locals->s.heap.get? b=some o->h9.get? b=some o:=fun b o ne q=>(sb.2 b ne).trans q
 have cne:∀ c w,s.heap.IsCell c w->c≠X.env.locals:=fun c w ⟨o,q,d⟩ z=>by
  obtain⟨o2,es,ep,e2,d2,_⟩:=hn
  rw [z,e2] at q; cases q; rw [d2] at d; cases d
 have U:=I.base
 refine⟨I.ok,I.os,I.bare,⟨fun b o q n nb nx=>go b o (old b o q) (U.keep b o q n nb nx),fun b o q n nb nx=>?_,U.free,fun b o q nx=>?_,U.tups,U.frzs,U.tbls⟩,⟨_,ns,fun j y v' e1 e2 e3=>?_⟩,fun x c q=>?_,I.free,I.freeC,fun p hp=>?_,fun a o q=>?_,by rw [Nf]; exact I.len⟩
 ·obtain⟨sl,z⟩:=U.slot b o q n nb nx
  exact⟨sl,go b _ (old b o q) z⟩
 ·obtain⟨o1,z⟩:=U.there b o q nx
  exact⟨o1,go b _ (old b o q) z⟩
 ·by_cases hj:j=i
  ·subst hj
   have hlt:j < σ.length:=by rw [I.len]; exact(List.getElem?_eq_some_iff.mp hi).1
   rw [ML hlt] at e2; cases e2
  ·rw [MM (Ne.symm hj)] at e2
   have hy:y≠n:=fun z=>by
    subst z
    obtain⟨l1,g1⟩:=List.getElem?_eq_some_iff.mp e1
    obtain⟨l2,g2⟩:=List.getElem?_eq_some_iff.mp hi
    exact hj (List.getElem_inj hN |>.mp (g1.trans g2.symm))
   obtain⟨u,r,q⟩:=hl j y v' e1 e2 e3
   refine⟨u,r,?_⟩
   rcases q with ⟨q1,q2⟩ | ⟨q1,c,q2,q3⟩
   ·exact .inl ⟨q1,by show (if y=n then v else m y)=some u; rw [if_neg hy]; exact q2⟩
   ·obtain⟨o,z1,z2⟩:=id q3
    exact .inr ⟨q1,c,q2,o,go c o (cne c _ q3) z1,z2⟩
 ·obtain⟨w,z⟩:=I.cell x c q
  obtain⟨o,z1,z2⟩:=id z
  exact⟨w,o,go c o (cne c _ z) z1,z2⟩
 ·obtain⟨e,n',ne,r⟩:=I.pin p hp
  exact⟨go _ _ ne e,n',ne,r⟩
 ·refine(I.hok a o q).stay (fun b u hb z=>go b u (fun w=>?_) z) (fun _ q=>q) fun _ _ q=>q
  have hz:=I.free
  rw [<- w] at hz
  rcases hb with e | e
  ·rw [e,q] at hz; cases hz
  ·rw [e] at hz; cases hz
theorem A7 {e C:Qo} (fl:yN X H s e C):∃ oe vs,s.heap.get? e=some oe/\oe.cls=.ref C/\oe.data=.fields vs:=by
 obtain⟨B,a0,_,_,_,b4,_⟩:=fl
 rcases b4 with ⟨oe,vs,T,oT,ts,h1,h2,h3,_⟩ | ⟨oe,vs,h1,h2,h3,_⟩
 ·exact⟨oe,vs,h1,h2.1,h3⟩
 ·exact⟨oe,vs,h1,h2,h3⟩
theorem BJ {M:Qw} {e C:Qo} {Q:Unit->Qu->Prop} (hfr:A.frames=some X.stack) (hst:X.stack=X.env::X.outer) (hf:X.env.frame=some X.env.locals) (fl:yN X H s e C)
  (hQ:∀ B a0 h',Heap.HeldW B X.stack e (.ref C) a0 X.env.locals h'->s.heap.UpToSlots h'->(∀ b o,s.heap.get? b=some o->kT X H b->b∉frs X.stack->B.get? b=some o)->Q () { s with heap:=h' }) :
  Qx M A (noteFrame (.ref e) X.env) Q E s:=by
 obtain⟨B,a0,b1,b2,b3,b4,b5⟩:=fl
 rw [hst] at hfr b3
 rcases b4 with b4 | ⟨oe,vs,c1,c2,c3,c4,c5⟩
 ·exact wpAny_looks_onW hfr hf ⟨b1,b2,b3,b4⟩ fun h' hd us=>hQ B a0 h' (by rw [hst]; exact hd) us b5
 ·unfold noteFrame
  simp only [hf]
  refine QD (Q9 c1 c3 c4 ?_)
  rw [if_neg (by decide)]
  refine wpAny_entryW hfr b3 hf c1 b1 b2 c3 (Array.getElem?_eq_some_iff.mp c4).1 c5 fun h' hN=>?_
  obtain⟨k1,k2,k3,k4⟩:=hN
  exact hQ B a0 h' ⟨k1,b2,by rw [hst]; exact k2,c2 ▸ k3⟩ k4 b5
end
theorem fA.unset {K:O2} {Hb:Hp} {Ob O:List Qo} {H:Hp} {ρ:av} {σ:St} (T:fA K Hb Ob O H ρ σ) (i:Nat):fA K Hb Ob O H (ρ.set i none) (σ.set i none):=by
 have key:∀ (j:Nat) (x:S),(ρ.set i none)[j]?=some (some x)->j≠i/\ρ[j]?=some (some x):=fun j x e=>by
  rcases cc e with ⟨_,q⟩ | ⟨ne,q⟩
  ·cases q
  ·exact⟨ne,q⟩
 refine⟨⟨fun j d e=>?_,fun j d e=>?_,fun j l xs ys a e1 e2 e3 e4=>?_,T.env.all⟩,T.base,fun j xs a e1 e2=>?_⟩
 ·obtain⟨ne,q⟩:=key j _ e
  obtain⟨v,q1,q2⟩:=T.env.val j d q
  exact⟨v,by rw [MM ne.symm]; exact q1,q2⟩
 ·obtain⟨ne,q⟩:=key j _ e
  obtain⟨a,q1,q2⟩:=T.env.own j d q
  exact⟨a,by rw [MM ne.symm]; exact q1,q2⟩
 ·obtain⟨n1,q1⟩:=key j _ e1
  obtain⟨n2,q2⟩:=key l _ e2
  rw [MM n1.symm] at e3
  rw [MM n2.symm] at e4
  exact T.env.one j l xs ys a q1 q2 e3 e4
 ·obtain⟨ne,q⟩:=key j _ e1
  rw [MM ne.symm] at e2
  exact T.mine j xs a q e2
def wl (K:O2) (mg:Str->Option Ql) (g:Str) (cs:List Str):Prop:=∃ G,mg g=some (.ref G)/\∀ c∈cs,∀ C,clsAt K c C->Py K (.ref C) (.ref G)=some true
def Hk (i:Nat) (k:Ks):Ks:=⟨fun ρ=>k.nx (ρ.set i none),fun ρ=>k.bk (ρ.set i none),fun ρ=>k.ct (ρ.set i none),fun _ _=>un⟩
def Dt (cs:List Str) (i:Nat) (F Fh:ca):ca:=fun k ρ=>F { k with ex:=fun x ρ1=>if (cs.contains x.c && x.fs.isEmpty)=true then Fh (Hk i k) (setV i (.exc x.c [] []) ρ1) else un } ρ
section
variable {X:Cx} {pos:Pos}
theorem Lr {body suite:List QA} {b₀:QA} {g n:Str} {gp hpos:Pos} {F Fh:ca} {cs:List Str} {i:Nat} (hx:X.ex=[]) (hst:X.stack=X.env::X.outer) (hf:X.env.frame=some X.env.locals) (hfn:∀ x,X.fn x=true)
  (hT:wl X.K X.mg g cs) (hg:Gl X g) (hN:X.N.Nodup) (hi:X.N[i]?=some n) (hl:X.env.scope.names.lookup n=some .local)
  (hb:∀ E pn,QI (model X.prog X.w) X.A X.env E->xf (wf X E pn) body F) (hs:∀ A pn,A.depth=X.A.depth->A.units=X.A.units->xf (rB X A pn) (b₀::suite) Fh) (hdb:(g==("__debug__":Str))=false:=by decide) :
  FS X (.Try body [.ExceptHandler (some (.Name g gp)) (some n) (b₀::suite) hpos] [] [] pos) (Dt cs i F Fh):=fun Hb Ob pins s σ H E I ⟨O,ρ,k,r,S,hF,hk⟩=>by
 obtain⟨G,hG,hcs⟩:=hT
 refine wpAny_Try_except ?_
 have land:∀ O1 ρ1 σ1 H1 x,fA X.K Hb Ob O1 H1 ρ1 σ1->(if (cs.contains x.c && x.fs.isEmpty)=true then Fh (Hk i k) (setV i (.exc x.c [] []) ρ1) else un)=r ->
   GA (wf X (fun e s₁=>Qx (model X.prog X.w) X.A (noteFrame e X.env) (fun _ s₂=>Qx (model X.prog X.w) X.A (setFlight e none) (fun _ s₃=>Qx (model X.prog X.w) X.A (handleBy e X.env [.ExceptHandler (some (.Name g gp)) (some n) (b₀::suite) hpos]) (SP X pins E) X.xe s₃) X.xe s₂) X.xe s₁) (X.pn++pins)) σ1 O1 H1 x:=by
  rintro O1 ρ1 σ1 H1 x S1 ex pins' s1 u H2 I1 sm ⟨e,C,dx,rfl,hd,fl⟩
  have cond:(cs.contains x.c && x.fs.isEmpty)=true:=by
   cases z:(cs.contains x.c && x.fs.isEmpty) with
   | true=>rfl
   | false=>rw [z] at ex; exact absurd ex.symm hk.ne
  rw [if_pos cond] at ex
  rw [Nc] at cond
  obtain⟨oe1,vs1,he1,hc1,hd1⟩:=A7 fl
  have nfr:e∉frs X.stack:=fun z=>by
   obtain⟨_,o,q,nf⟩:=I1.stack.mem z
   rw [he1] at q; cases q; exact nf _ hd1
  refine BJ (X:=wf X _ (X.pn++pins)) I1.ok.frames hst hf fl fun B a0 h4 held us4 kb=>?_
  have nk:¬ kT (wf X _ (X.pn++pins)) H2 e:=fun z=>by
   have:=kb e oe1 he1 z nfr
   rw [held.2.1] at this; cases this
  refine wpAny_landsW held fun h5 fl5 us5=>?_
  have I5:=zJ I1 hx hst hf hfn (us4.trans us5) fun b o q kb' nf=>fl5.1 b o (kb b o q kb' nf)
  obtain⟨oe5,he5,hc5⟩:=fl5.there
  have I5h:=wW (A:=X.A.mark (some (.ref e))) I5 rfl
  refine wpAny_handleBy_cons (codeAny_handlers_test (md (X:=rB X (X.A.mark (some (.ref e))) (X.pn++pins)) I5h hg hG ?_ hdb)) (by intro z; cases z)
  refine(PySem.W.exm_one I5.kIn (show PySem.W.Looks _ h5 (typeOf (.ref e)) (.ref C) from hc5 ▸ (PySem.W.Looks.ld he5).andThen .now) (hcs x.c (by simpa using cond.1) C hd.1)).at ?_
  refine codeAny_handlers_suite_as ?_
  refine PyProof.Rows.lands_againW fl5 fun h6 fl6 us6=>?_
  have I6:=zJ I1 hx hst hf hfn ((us4.trans us5).trans us6) fun b o q kb' nf=>fl6.1 b o (kb b o q kb' nf)
  obtain⟨oe6,ws6,he6,hc6,hd6,_⟩:=fl6.first
  have hn:H2 e=none:=by
   cases q:H2 e with
   | none=>rfl
   | some ob=>exact absurd (.inr (.inl (by rw [q]; intro z; cases z))) nk
  have I6a:=AD (C:=C) I6 hx hn he6 hc6 (by
    cases q:X.s₀.heap.get? e with
    | none=>rfl
    | some o=>exact absurd (.inl ⟨⟨o,q⟩,by rw [show (wf X _ (X.pn++pins)).ex=X.ex from rfl,hx]; simp⟩) nk) (fun z=>by
    apply nfr; rw [hst,z]; show X.env.locals∈List.filterMap _ (_::_); rw [MH,hf]; exact MI)
   (fun y q=>nk (.inr (.inr (.inr ⟨y,q⟩)))) (fun p hp q=>by
    rw [MZ] at hp
    exact nk (.inr (.inr (.inl ⟨p.2,by rw [<- q]; exact hp⟩))))
  have I6h:=wW (A:=X.A.mark (some (.ref e))) I6a rfl
  have same26:bH H2 (upd H2 e (.ext (AJ C e oe6.dict))):=fun b o q=>by rw [bg fun z=>by rw [z,hn] at q; cases q]; exact q
  have eO:e∉O1:=(S1.env.all.same sm).not hn
  refine qZ (X:=rB X (X.A.mark (some (.ref e))) (X.pn++pins)) I6h hN hi (.inl hl) (show RelV (.ref e) (.ref e) from rfl) (fun s7 I7=>?_) (.inl (hfn n))
  have S7:=(S1.same (sm.trans same26)).setV (i:=i) (d:=.exc x.c [] []) (v:=.ref e) (by rw [I1.len]; exact(List.getElem?_eq_some_iff.mp hi).1)
   (Jf.mpr ⟨e,[],rfl,cF.mpr rfl,rfl,C,oe6.dict,hd.1,by rw [li eO]; exact bJ,.inl rfl⟩)
  refine QB (hs (X.A.mark (some (.ref e))) (X.pn++pins) rfl rfl Hb Ob [] s7 _ _ { nx:=fun σ' H'=>E.nx (σ'.set i none) H',rt:=E.rt,bk:=fun σ' H'=>E.bk (σ'.set i none) H',ct:=fun σ' H'=>E.ct (σ'.set i none) H' } I7
   ⟨O1,_,Hk i k,r,S7,ex,hk.ne,fun O' ρ' σ' H' S' q=>hk.nx O' _ _ H' (S'.unset i) q,fun O' ρ' σ' H' S' q=>hk.bk O' _ _ H' (S'.unset i) q,fun O' ρ' σ' H' S' q=>hk.ct O' _ _ H' (S'.unset i) q,hk.rt,fun O' ρ' σ' H' y S' q=>absurd q.symm hk.ne⟩) (fun f s8 h8=>?_) fun _ _ z=>z.elim
  have fin:∀ σ' H',L2.Inv (rB X (X.A.mark (some (.ref e))) (X.pn++pins)) [] σ' H' s8->∀ Q:Qu->Prop,(∀ s9,L2.Inv X pins (σ'.set i none) H' s9->Q s9) ->
    Qx (model X.prog X.w) X.A (do bindName X.env n .none; unbindBehindTheSuite X.env n hpos) (fun _ s₃=>Q s₃) X.xe s8:=fun σ' H' I8 Q q=>by
   obtain⟨m,hm,hlk⟩:=I8.loc
   exact wpAny_nameGoes_keeps hl hm (by rw [I8.ok.kind]; rfl) fun h9 v ns9 sb9=>q _ (la I.ok (CQ I8 hN hi hm hlk ns9 sb9))
  cases f with
  | next=>obtain⟨σ',H',I8,q⟩:=h8; exact fin σ' H' I8 _ fun s9 I9=>⟨_,H',I9,q⟩
  | brk=>obtain⟨σ',H',I8,q⟩:=h8; exact fin σ' H' I8 _ fun s9 I9=>⟨_,H',I9,q⟩
  | cont=>obtain⟨σ',H',I8,q⟩:=h8; exact fin σ' H' I8 _ fun s9 I9=>⟨_,H',I9,q⟩
  | ret u=>obtain⟨v,σ',H',I8,rv,q⟩:=h8; exact fin σ' H' I8 _ fun s9 I9=>⟨v,_,H',I9,rv,q⟩
 refine QB (hb _ (X.pn++pins) PassesOwn.looking Hb Ob [] s σ H E (Eg I _) ⟨O,ρ,_,r,S,hF,hk.ne,hk.nx,hk.bk,hk.ct,hk.rt,land⟩) (fun f s1 h1=>?_) fun _ _ z=>z
 cases f with
 | next=>obtain⟨σ',H',I1,q⟩:=h1; exact yT pins s1 σ' H' E (la I.ok I1) q
 | brk=>obtain⟨σ',H',I1,q⟩:=h1; exact⟨σ',H',la I.ok I1,q⟩
 | cont=>obtain⟨σ',H',I1,q⟩:=h1; exact⟨σ',H',la I.ok I1,q⟩
 | ret u=>obtain⟨v,σ',H',I1,rv,q⟩:=h1; exact⟨v,σ',H',la I.ok I1,rv,q⟩
end
end TG
namespace TG
open PySem PySem.Spec L2
variable [bc]
def rV (K:O2) (T:Ql) (tbl:List (Str×Bool)):Prop:=∀ c b,tbl.lookup c=some b->∀ D,clsAt K c D->uT K D/\Pz K (.ref D) T=some b
def eQ (tbl:List (Str×Bool)) (d:D):Option D:=match d with
 | .exc c [] []=>(tbl.lookup c).map .bl
 | _=>none
def bZ (K:O2) (mg:Str->Option Ql) (x:Str) (tbl:List (Str×Bool)):Prop:=∃ C,mg x=some (.ref C)/\rV K (.ref C) tbl
theorem cZ {K:O2} {T:Ql}:rV K T []:=fun _ _ h=>by cases h
theorem aD {K:O2} {T:Ql} {c:Str} {D:Qo} {b:Bool} {tbl:List (Str×Bool)} (ac:clsAt K c D) (F:uT K D) (k:Pz K (.ref D) T=some b) (r:rV K T tbl):rV K T ((c,b)::tbl):=fun c' b' h D' hD=>by
 rw [Nu] at h
 split at h
 ·rename_i e
  have e:=beq_iff_eq.mp e
  subst e
  cases h
  cases lw hD ac
  exact⟨F,k⟩
 ·exact r c' b' h D' hD
theorem v6 {K:O2} {C:Qo} {v:Ql} (h:PB K C v=some true):(PySem.W.clsIn K C).isSome=true:=by
 unfold PB at h
 cases e:PySem.W.clsIn K C with
 | none=>rw [e] at h; cases h
 | some c=>rfl
theorem aN {K:O2} {C D:Qo} {b:Bool} (hs:PC K (.ref D) (.ref C)=some b) (ho:PB K C (.type "object")=some true) (ht:Pj K (.ref C)=some (.type "type")) (hn:b=true\/D≠C):Pz K (.ref D) (.ref C)=some b:=by
 unfold Pz
 by_cases e:D=C
 ·rcases hn with hn | hn
  ·rw [if_pos (by rw [e]; simp),hn]
  ·exact absurd e hn
 ·rw [if_neg (by simpa using e)]
  unfold PD
  dsimp only
  rw [if_pos (by rw [v6 ho,ht]; rfl)]
  exact hs
theorem uo {K:O2} {D:Qo} {b:Bool} (hs:PC K (.ref D) (.type "ValueError")=some b):Pz K (.ref D) (.type "ValueError")=some b:=by
 unfold Pz
 rw [if_neg (by simp)]
 unfold PD
 dsimp only
 rw [if_pos (by decide +kernel)]
 exact hs
theorem qp {K:O2} {C G:Qo} (hb:PC K (.ref G) (.type "BaseException")=some true) (hs:PC K (.ref C) (.ref G)=some true) (ho:PB K G (.type "object")=some true) (ht:Pj K (.ref G)=some (.type "type")):Py K (.ref C) (.ref G)=some true:=by
 unfold Py
 rw [if_pos (by rw [hb]; rfl)]
 unfold PD
 dsimp only
 rw [if_pos (by rw [v6 ho,ht]; rfl)]
 exact hs
theorem BW {K:O2} {mg:Str->Option Ql} {g:Str} {G:Qo} {cs:List Str} (hm:mg g=some (.ref G)) (h:∀ c∈cs,∃ C,clsAt K c C/\Py K (.ref C) (.ref G)=some true):wl K mg g cs:=⟨G,hm,fun c hc C hC=>by
 obtain⟨C',h1,h2⟩:=h c hc
 cases lw hC h1
 exact h2⟩
section
variable {X:Cx} {p pos:Pos} {e:Qy}
def EX (K:O2) (tv:V) (T:Ql):List V->Hp->VK->Prop:=fun xs H Q=>∃ a D dx b,xs=[.ref a,tv]/\H a=some (.ext (AJ D a dx))/\uT K D/\Pz K (.ref D) T=some b/\Q (.bl b) H
theorem sN {tv:V} {T:Ql} (hT:∀ u,RelV tv u->u=T):eG X (.builtin "isinstance") (EX X.K tv T):=by
 intro pins s σ H xs us Q I r ⟨a,D,dx,b,ex,ha,F,hk,q⟩
 subst ex
 obtain⟨u,w',rfl,rx,rt⟩:=vals2 r
 cases rx
 cases hT _ rt
 obtain⟨⟨o,e1,e2,_⟩,_⟩:=(show dg X.prog X.w H s.heap a (.ext (AJ D a dx)) from I.hok a _ ha)
 exact PySem.W.kia_one (CZ F) I.kIn ⟨o,e1,e2⟩ hk (fun z=>nomatch z) fun tk=>⟨.bl _,H,I.tok _,rfl,q⟩
theorem xH {tbl:List (Str×Bool)} {a d:D} (h:eQ tbl a=some d):∃ c b,a=.exc c [] []/\tbl.lookup c=some b/\d=.bl b:=by
 unfold eQ at h
 split at h
 ·rename_i c
  cases e:tbl.lookup c with
  | none=>rw [e] at h; cases h
  | some b=>rw [e] at h; cases h; exact⟨c,b,rfl,e,rfl⟩
 ·cases h
theorem Fl {tbl:List (Str×Bool)} {tv:V} {T:Ql} {f:FX} (h:rV X.K T tbl):∀ σ H Q,tF X (f1 (eQ tbl) f) σ H Q->JS (EX X.K tv T) (zI (tF X f) (zI (tC tv) FY)) σ H Q:=fun σ H Q ⟨O,ρ,E,hF⟩=>⟨O,ρ,E,(hV.bind hF).imp fun a hF v H1 s1 d1=>by
  obtain⟨d,e,q⟩:=hV.rO hF
  obtain⟨c,b,rfl,e2,rfl⟩:=xH e
  obtain⟨a,ws,rfl,_,_,D,dx,hcl,ha,_⟩:=Jf.mp d1
  obtain⟨F,hk⟩:=h c b e2 D hcl
  exact⟨a,D,dx,b,rfl,aO _ _ _ _ ha,F,hk,q _ H1 s1 (kK.mpr rfl)⟩⟩
theorem Js {f:FX} {x:Str} {p2:Pos} {tbl:List (Str×Bool)} (h:bZ X.K X.mg x tbl) (hg:Gl X "isinstance") (hm:X.mg "isinstance"=none) (hgx:Gl X x) (he:FE X e f)
  (hd2:(x==("__debug__":Str))=false:=by decide) (hns:noStar e=true:=by rfl) :
  FE X (.Call (.Name "isinstance" p) [e,.Name x p2] [] pos) (f1 (eQ tbl) f):=by
 obtain⟨C,hC,h⟩:=h
 exact PE.weak (rd (sN (tv:=.ref C) (T:=.ref C) fun u r=>r) hg hm wq (lZ he (lZ (yR (v:=.ref C) hgx hC rfl hd2) vv (cS rfl)) (cS hns)) (by decide) (by decide) (cS hns) (dE rfl)) (Fl h)
theorem Ie {f:FX} {x:Str} {T:String} {p2:Pos} {tbl:List (Str×Bool)} (h:rV X.K (.type T) tbl) (hg:Gl X "isinstance") (hm:X.mg "isinstance"=none) (hgx:Gl X x) (hmx:X.mg x=none) (hv:Qs x=some (.type T)) (he:FE X e f)
  (hn2:x ≠ "__name__":=by decide) (hd2:(x==("__debug__":Str))=false:=by decide) (hns:noStar e=true:=by rfl) :
  FE X (.Call (.Name "isinstance" p) [e,.Name x p2] [] pos) (f1 (eQ tbl) f) :=
 PE.weak (rd (sN (tv:=.ty T) (T:=.type T) fun u r=>r) hg hm wq (lZ he (lZ (D4 (v:=.ty T) hgx hmx hv rfl hn2 hd2) vv (cS rfl)) (cS hns)) (by decide) (by decide) (cS hns) (dE rfl)) (Fl h)
end
def sI (val:Nat->Int):Nat->Int
 | 0=>0
 | 1=>val 0
 | n+2=>if val (n+1) > sI val (n+1) then val (n+1) else sI val (n+1)
def kI:List D->Option (List Int)
 | []=>some []
 | .int i::r=>(kI r).map (i::·)
 | _=>none
theorem tq:∀ {xs:List D} {ns:List Int},kI xs=some ns->xs=ns.map .int
 | [],_,h=>by cases h; rfl
 | d::r,ns,h=>by
  cases d with
  | int i =>
   cases e:kI r with
   | none=>rw [show kI (.int i::r)=(kI r).map (i::·) from rfl,e] at h; cases h
   | some ms=>rw [show kI (.int i::r)=(kI r).map (i::·) from rfl,e] at h; cases h; rw [tq e]; rfl
  | _=>cases h
theorem we:∀ ns:List Int,kI (ns.map .int)=some ns
 | []=>rfl
 | n::ns=>by show (kI (ns.map .int)).map (n::·)=_; rw [we ns]; rfl
def rq (i:Int) (d:D):Option D:=match d with
 | .lst xs=>(kI xs).map fun ns=>.int (if ns.length=0 then i else sI (fun k=>ns.getD k 0) ns.length)
 | _=>none
section
variable {prog:Qn} {w:Qm} {A:Qt} {R:QQ->Qu->Prop} {I:Qo} {fp wr:List Qo} {n:Nat} {P:Nat->Ql->Prop} {St:Nat->Qp->Prop}
theorem Aw (W:Walks prog w A.in1 I fp wr n P St) (val:Nat->Int) (hv:∀ i v,P i v->∃ t,v=.int (val i) t) (dv:Ql) (Z:Qo) (hZ:Z∉fp) :
  ∀ (k j:Nat) (s:Qu) (cs:Array Ql) (c:Nat),n - j=k->j<=n->St j s.heap->(cs=#[]/\j=0\/0 < j/\∃ t,cs=#[.int (sI val j) t,.int (sI val j) t]) ->
   s.heap.get? Z=some { cls:=.type "list",dict:=none,data:=.seq cs c,slots:=#[] } ->
   (∀ v h' tk,(n=0/\v=dv\/0 < n/\∃ t,v=.int (sI val n) t)->(∀ b o,b∉wr->b≠Z->s.heap.get? b=some o->h'.get? b=some o)->R (.ok (.ret v)) { s with heap:=h',toks:=tk }) ->
   QR (model prog w) A (.builtin "max.loop" ⟨[.ref I,.none,.ref Z],[(Str.ofString "default",dv)]⟩) R s:=by
 have zw:Z∉wr:=fun h=>hZ (W.sub _ h)
 have nm:(toString "max"++toString ".loop":String) = "max.loop":=by
  decide
 intro k
 induction k with
 | zero =>
  intro j s cs c hk hj hst hcs hl hR
  have en:j=n:=by omega
  subst en
  refine Rw F.entry_max_loop ?_
  rw [Around.under_plainId F.plain_max_loop _]
  refine QD (m:=seqItems? (.ref Z)) (Rl hl rfl ?_)
  refine QD (m:=tryCatch (pyNext (.ref I)) _)
   (Rx (W.done s _ _ hst fun h' tk hk'=>?_))
  have hl':=hk' Z _ zw hl
  rcases hcs with ⟨rfl,rfl⟩ | ⟨hp,t,rfl⟩
  ·refine QD (Rh ?_)
   exact QG (hR dv h' tk (.inl ⟨rfl,rfl⟩) fun b o hb _ e=>hk' b o hb e)
  ·refine QD (m:=updateSeq Z fun _=>#[]) (Ry hl' rfl
    (QD (Rr (QG (hR _ _ tk (.inr ⟨hp,t,rfl⟩) fun b o hb hz e=>?_)))))
   exact(PV _ _ hz.symm).trans (hk' b o hb e)
 | succ k ih =>
  intro j s cs c hk hj hst hcs hl hR
  have hlt:j < n:=by omega
  refine Rw F.entry_max_loop ?_
  rw [Around.under_plainId F.plain_max_loop _]
  refine QD (m:=seqItems? (.ref Z)) (Rl hl rfl ?_)
  refine QD (m:=tryCatch (pyNext (.ref I)) _)
   (Rx (W.item j s _ _ hlt hst fun v h' tk hP hst' hk'=>?_))
  have hl':=hk' Z _ zw hl
  obtain⟨tv,rfl⟩:=hv j v hP
  have next:∀ (h2:Qp) (cs2:Array Ql) (c2:Nat),(∀ b o,b≠Z->h'.get? b=some o->h2.get? b=some o)->h2.get? Z=some { cls:=.type "list",dict:=none,data:=.seq cs2 c2,slots:=#[] }->(∃ t,cs2=#[.int (sI val (j+1)) t,.int (sI val (j+1)) t]) ->
    QR (model prog w) A (.builtin "max.loop" ⟨[.ref I,.none,.ref Z],[(Str.ofString "default",dv)]⟩) R { s with heap:=h2,toks:=tk }:=fun h2 cs2 c2 k2 l2 hc2=>by
   refine ih (j+1) _ cs2 c2 ‹0› hlt (W.frame _ _ _ hst' fun b hb o e=>k2 b o (fun z=>hZ (z ▸ hb)) e) (.inr ⟨by omega,hc2⟩) l2 fun v' h'' tk'' hv' hk''=>?_
   exact hR v' h'' tk'' hv' fun b o hb hz e=>hk'' b o hb hz (k2 b o hz (hk' b o hb e))
  rcases hcs with ⟨rfl,rfl⟩ | ⟨hp,t,rfl⟩
  ·refine QD (QG ?_)
   refine QD (m:=updateSeq Z fun _=>#[.int (val 0) tv,.int (val 0) tv]) (Ry hl' rfl ?_)
   rw [nm]
   exact QG ⟨Rz F.plain_max_loop _,next _ _ _ (fun b o hz e=>(PV _ _ hz.symm).trans e) (PR _ hl' rfl) ⟨tv,rfl⟩⟩
  ·obtain⟨m,rfl⟩:∃ m,j=m+1:=⟨j - 1,by omega⟩
   refine QD (QG ?_)
   refine QD (m:=tryCatch _ _) (Rx (QE
    (QD (CmpOf.ints_gt (P:=fun i v=>∃ t,v=.int (if i=0 then val (m+1) else sI val (m+1)) t) (fun i=>if i=0 then val (m+1) else sI val (m+1)) (fun i v h=>h) 0 1 _ _ _ _ _ ⟨tv,rfl⟩ ⟨t,rfl⟩ ?_))))
   refine QD (QE (QO ?_))
   refine QD (Rr
    (QG ?_))
   split
   ·rename_i hz
    have hb:val (m+1) > sI val (m+1):=of_decide_eq_true (show decide (val (m+1) > sI val (m+1))=true from hz)
    refine QD (m:=updateSeq Z fun _=>#[.int (val (m+1)) tv,.int (val (m+1)) tv])
     (Ry hl' rfl (QD (Rr ?_)))
    rw [nm]
    exact QG ⟨Rz F.plain_max_loop _,next _ _ _ (fun b o hz e=>(PV _ _ hz.symm).trans e) (PR _ hl' rfl) ⟨tv,by rw [sI,if_pos hb]⟩⟩
   ·rename_i hz
    have hb:¬ val (m+1) > sI val (m+1):=fun z=>hz (show decide (val (m+1) > sI val (m+1))=true from decide_eq_true z)
    refine QD (Rr ?_)
    rw [nm]
    exact QG ⟨Rz F.plain_max_loop _,next _ _ _ (fun b o _ e=>e) hl' ⟨t,by rw [sI,if_neg hb]⟩⟩
theorem Az (a v:Ql):argsOk "max" ⟨[a],[(Str.ofString "default",v)]⟩:=by
 unfold argsOk
 kernel_rfl
theorem zQ:Qs "max"=some (.builtin "max"):=by first | rfl | decide +kernel
theorem AZ {E:Ql->Qu->Prop} {s:Qu} {l:Qo} {its:List Ql} {ns:List Int} {dv:Ql} {Q:Ql->Qu->Prop} (hh:A.handled=none) (hl:s.heap.IsList l its.toArray) (hi:∀ (i:Nat) (v:Ql),its[i]?=some v->∃ t,v=.int (ns.getD i 0) t) (hn:its.length=ns.length)
  (hQ:∀ v h' tk,(ns.length=0/\v=dv\/0 < ns.length/\∃ t,v=.int (sI (fun k=>ns.getD k 0) ns.length) t)->(∀ b o,s.heap.get? b=some o->h'.get? b=some o)->Q v { s with heap:=h',toks:=tk }) :
  Qx (model prog w) A (call (.builtin "max") [.ref l] [(Str.ofString "default",dv)]) Q E s:=by
 have nm:(toString "max"++toString ".loop":String) = "max.loop":=by
  decide
 have hlt:l < s.heap.objs.size:=by obtain⟨_,e,_⟩:=hl; exact PJ e
 refine QZ (Rv F.plain_max F.entry_max ?_)
 have go:Qx (model prog w) A.in1 (Builtin.«max» ⟨[.ref l],[(Str.ofString "default",dv)]⟩) (fun fin s'=>match fin with
   | .done f=>(match (Except.ok f:QQ) with | .ok (.ret v)=>Q v s' | .ok _=>False | .error e=>E e s')
   | .again c'=>c'.quiet=true/\QR (model prog w) A c' (fun r s'=>match r with | .ok (.ret v)=>Q v s' | .ok _=>False | .error e=>E e s') s') E s:=by
  show Qx _ A.in1 (Builtin.Builtins.bindParams "max" ["key","default"] 0 ⟨[],[(Str.ofString "default",dv)]⟩ >>= _) _ _ s
  refine QD (wpAny_of_eq (show Builtin.Builtins.bindParams "max" ["key","default"] 0 ⟨[],[(Str.ofString "default",dv)]⟩=pure [none,some dv] from rfl) ?_)
  refine QD (QG ?_)
  refine QD (QH hl ?_)
  refine QD (Rc ?_)
  rw [nm]
  have hne:l≠s.heap.objs.size:=ME hlt
  refine QG ⟨Rz F.plain_max_loop _,Aw (Walks.list (A:=A.in1) hh s.heap.objs.size l hne its.toArray) (fun k=>ns.getD k 0) (fun i v h=>hi i v (by simpa using h)) dv _ (fun hm=>?_) _ 0 _ #[] _ rfl (MY _) ⟨⟨_,PN _ (PP _ rfl),rfl,rfl⟩,(hl.push _).push _⟩ (.inl ⟨rfl,rfl⟩) (PP _ rfl) fun v h' tk hv hk=>?_⟩
  ·simp only [PQ,N1,Ox,or_false] at hm
   rcases hm with hm | hm
   ·exact Nat.succ_ne_self _ hm
   ·rw [<- hm] at hlt; exact MD _ (Nat.lt_of_succ_lt hlt)
  ·have e:its.toArray.size=ns.length:=by rw [MR,hn]
   rw [e] at hv
   refine hQ v h' tk hv fun b o q=>hk b o (fun z=>?_) (fun z=>?_) (PN _ (PN _ q))
   ·have h1:=PJ q
    simp only [N1,Ox,or_false] at z
    rw [z] at h1; exact MD _ h1
   ·have h1:=PJ q
    rw [z,PQ] at h1
    exact MD _ (Nat.lt_of_succ_lt h1)
 simp only [checkBuiltinCall,F.kind_max]
 cases hsig:Manifest.signature? "max" with
 | none=>exact QG go
 | some sig =>
  have ha:Bind.checkArgs "max" sig ⟨[.ref l],[(Str.ofString "default",dv)]⟩=pure ():=by
   have:=Az (.ref l) dv
   unfold argsOk at this
   rw [hsig] at this
   exact this
  simp only [ha]
  exact QG go
end
section
variable {X:Cx} {p pos kp:Pos} {e:Qy}
theorem zh {K:O2} {H:Hp}:∀ {ns:List Int} {ys:List V} {its:List Ql},bp K H (ns.map .int) ys->Vals ys its->∀ (k:Nat) (v:Ql),its[k]?=some v->∃ t,v=.int (ns.getD k 0) t
 | [],ys,its,h,r,k,v,e=>by
  rw [Nk,cF] at h
  subst h
  cases r
  simp at e
 | n::ns,ys,its,h,r,k,v,e=>by
  rw [MU,bL] at h
  obtain⟨y,ys',rfl,h1,h2⟩:=h
  cases r with
  | cons r1 r2 =>
   cases k with
   | zero =>
    rw [eU] at h1
    subst h1
    obtain⟨t,rfl⟩:=r1
    simp at e
    exact⟨t,e.symm⟩
   | succ k =>
    simp only [N4] at e
    exact zh h2 r2 k v e
theorem Jz {f:FX} {i:Int} {j:Nat} {cp:Pos} (hc:X.calm=true) (hg:Gl X "max") (hm:X.mg "max"=none) (he:FE X e f) (hns:noStar e=true:=by rfl) :
  FE X (.Call (.Name "max" p) [e] [⟨some "default",.Constant (.int i) j cp,kp⟩] pos) (f1 (rq i) f):=by
 intro pins s σ H Q I ⟨O,ρ,E,hF⟩
 refine Q1 (nv I hg hm zQ ?_)
 have st:backTo pos (Qz [e] X.env)=(false,eval e X.env)::backTo pos (Qz [] X.env):=by rw [cS hns]; rfl
 refine PyProof.Rows.callWith_kw ?_ ?_ (dE (by rw [ND,hns]; rfl))
 ·refine dB (lZ he vv (cS hns) pos pins s σ H (fun vs H1=>∃ v d a,vs=[v]/\bH H H1/\rq i a=some d/\cA X.K (hid H1 O) a v/\∀ v H',bH H H'->cA X.K (hid H' O) d v->Q v H') I ⟨O,ρ,E,(hV.bind hF).imp fun a hF v H1 s1 d1=>?_⟩) fun us s1 ⟨vs,H1,I1,rv,v,d,a,ev,s1',hd,dn,q⟩=>?_
  ·obtain⟨d,e,q⟩:=hV.rO hF
   exact⟨v,d,a,rfl,s1,e,d1,q⟩
  ·subst ev
   refine dB (DJ (kws:=[]) CM FU pos pins s1 σ H1 (fun zs H2=>zs=[.int i]/\H2=H1) I1 ⟨rfl,rfl⟩) fun ws s2 ⟨zs,H2,I2,rz,ez,eh⟩=>?_
   subst ez eh
   obtain⟨u,eu,ru⟩:=vals1 rv
   obtain⟨wv,ew,rw'⟩:=vals1 rz
   subst eu ew
   unfold rq at hd
   split at hd
   ·rename_i xs
    cases ei:kI xs with
    | none=>rw [ei] at hd; cases hd
    | some ns =>
     rw [ei] at hd
     cases hd
     have exs:=tq ei
     subst exs
     obtain⟨l,ys,el,g1,g2⟩:=cq.mp dn
     subst el
     cases ru
     obtain⟨its,ri,pl,hz⟩:=I2.list ((aO H2 O).seq g1)
     have hlen:its.length=ns.length:=by rw [<- ri.length,<- g2.length,MV]
     refine AZ (I2.ok.hd hc) pl.isList (ns:=ns) (fun k v hk=>?_) hlen fun v h' tk hv kk=>?_
     ·exact zh g2 ri k v hk
     ·have I3:=I2.kept (t':=tk) kk
      have q:∀ (v:V) (H':Hp),bH H H'->cA X.K (hid H' O) (.int (if ns.length=0 then i else sI (fun k=>ns.getD k 0) ns.length)) v->Q v H':=q
      rcases hv with ⟨z,rfl⟩ | ⟨z,t,rfl⟩
      ·rw [if_pos z] at q
       exact⟨.int i,H2,I3,rw',q _ H2 s1' (eU.mpr rfl)⟩
      ·rw [if_neg ‹0›] at q
       exact⟨.int _,H2,I3,⟨t,rfl⟩,q _ H2 s1' (eU.mpr rfl)⟩
   ·cases hd
 ·exact st
end
end TG
namespace TG
open PySem PySem.Spec L2
variable [bc]
end TG
namespace TG
open PySem PySem.Spec L2
end TG
namespace TG
open PySem PySem.Spec PyProof.Rows PySem.W L2
variable [bc]
end TG
namespace TG
open PySem PySem.Spec PyProof.Rows PySem.W L2
variable [bc]
end TG
namespace TG
open PySem PySem.Spec PyProof.Rows PySem.W L2
variable [bc]
theorem nM:Qs "sorted"=some (.builtin "sorted"):=by first | rfl | decide +kernel
end TG
namespace TG
open PySem PySem.Spec PyProof.Rows PySem.W L2
end TG
namespace TG
open PySem PySem.Spec PySem.Calls L2
open PySem.SeqAt (EqAt list_indexAt)
variable [bc]
def Hx (c:Str):List (List (Str×Bool))->Option Bool
 | []=>some false
 | t::r=>match t.lookup c with
  | some true=>some true
  | some false=>Hx c r
  | none=>none
def Mj (tbls:List (List (Str×Bool))) (d:D):Option D:=match d with
 | .exc c [] []=>(Hx c tbls).map .bl
 | _=>none
section
variable {X:Cx} {p pos:Pos} {e:Qy}
theorem B4 {pins:List (Qo×Obj)} {σ:L2.St} {H:Hp} {s:Qu} (I:Inv X pins σ H s) {xd:D} {x:V} {u:Ql} {A:Qt} (px:pl xd=true) (hd:cO 8 xd=true) (hx:cA X.K H xd x) (ru:RelV x u) (hA:A.units+8 < QW) {ys:List D} {vs:List V} {its:List Ql} (py:iY ys=true) (hy:bp X.K H ys vs) (rv:Vals vs its) :
  ∃ e:Ql->Bool,(∀ y,y∈its.toArray->EqAt A s y u (e y))/\∀ (j:Nat) (d:D) (w:Ql),ys[j]?=some d->its[j]?=some w->e w=pyEq d xd:=by
 classical
 let e:Ql->Bool:=fun y=>decide (∃ d w,pl d=true/\cA X.K H d w/\RelV w y/\pyEq d xd=true)
 have he:∀ d w y,pl d=true->cA X.K H d w->RelV w y->e y=pyEq d xd:=fun d w y h0 h1 h2=>by
  cases hq:pyEq d xd with
  | true=>exact decide_eq_true ⟨d,w,h0,h1,h2,hq⟩
  | false =>
   refine decide_eq_false ?_
   rintro⟨d',w',g0,g1,g2,g3⟩
   have ew:=RelV.inj h2 g2
   subst ew
   rw [Inv.den_inj I h0 g0 h1 g1,g3] at hq
   cases hq
 refine⟨e,fun y hy'=>?_,fun j d w e1 e2=>?_⟩
 ·have hm:y∈its:=by simpa using hy'
  obtain⟨j,hj,rfl⟩:=NP hm
  obtain⟨w,e1,r1⟩:=lT rv (j:=j) (by simpa using hj)
  obtain⟨d,f1,g1⟩:=mz hy e1
  have r1':RelV w its[j]:=by simpa using r1
  have pd:=i6 py _ (M7 f1)
  rw [he d w _ pd g1 r1']
  exact xV I 8 d xd w x _ u A pd px (.inr hd) g1 hx r1' ru hA
 ·obtain⟨v,f1,f2⟩:=hy.get e1
  obtain⟨w',f3,f4⟩:=rv.get f1
  rw [e2] at f3; cases f3
  exact he d v w (i6 py _ (M7 e1)) f2 f4
def v9 (x:D):List D->Option Nat
 | []=>none
 | y::ys=>if pyEq y x then some 0 else (v9 x ys).map (·+1)
theorem tU {x:D}:∀ {ys:List D} {j:Nat},v9 x ys=some j->∃ h:j < ys.length,pyEq ys[j] x=true/\∀ m (hm:m < ys.length),m < j->pyEq ys[m] x=false
 | [],_,h=>by cases h
 | y::ys,j,h=>by
  unfold v9 at h
  split at h
  ·rename_i e
   cases h
   exact⟨by simp,e,fun m _ hm=>absurd hm (Nat.not_lt_zero _)⟩
  ·rename_i e
   cases q:v9 x ys with
   | none=>rw [q] at h; cases h
   | some i =>
    rw [q] at h
    cases h
    obtain⟨h1,h2,h3⟩:=tU q
    refine⟨by simpa using h1,by simpa using h2,fun m hm hlt=>?_⟩
    cases m with
    | zero=>simpa using e
    | succ m =>
     have hlt:m+1 < i+1:=hlt
     simpa using h3 m (by simpa using hm) ‹0›
def C3 (a b:D):Option D:=match a with
 | .lst ys=>if (pl b && iY ys) && cO 8 b then (v9 b ys).map (fun (j:Nat)=>D.int (j:Int)) else none
 | _=>none
def xR (f:FX) (g:av->R (List D)):FX:=fun ρ=>(f ρ).bind fun a=>match a with
 | .lst ys=>(g ρ).bind fun ds=>match ds with
  | [b]=>rO (C3 (.lst ys) b)
  | _=>un
 | _=>un
def Ge (K:O2):V->List V->Hp->VK->Prop:=fun x xs H Q=>∃ Hd a ys vs b v d,bH Hd H/\x=.ref a/\xs=[v]/\mG K Hd a vs/\bp K H ys vs/\cA K H b v/\C3 (.lst ys) b=some d/\∀ w,cA K H d w->Q w H
theorem BU (hu:X.A.units+64 < QW):JP X "list.index" (Ge X.K):=by
 intro pins s σ H x xs v us Q I rx rs ⟨Hd,a,ys,vs,b,y,d,sm,ex,exs,hl,dl,db,hg,q⟩
 subst ex exs
 cases rx
 obtain⟨u,rfl,ru⟩:=vals1 rs
 obtain⟨its,r,⟨o,n,ho,hc,hd',hdd⟩,hz⟩:=I.list (sm.seq hl)
 have hg':(if (pl b && iY ys) && cO 8 b then (v9 b ys).map (fun (j:Nat)=>D.int (j:Int)) else none)=some d:=hg
 obtain⟨h1,h2⟩:((pl b && iY ys) && cO 8 b)=true/\(v9 b ys).map (fun (j:Nat)=>D.int (j:Int))=some d:=by
  split at hg'
  ·rename_i z; exact⟨z,hg'⟩
  ·cases hg'
 rw [Nc,Nc] at h1
 obtain⟨j,ej,ed⟩:=Option.map_eq_some_iff.mp h2
 subst ed
 obtain⟨hj,hit,hno⟩:=tU ej
 obtain⟨e,he,hv⟩:=B4 (A:=X.A.in1) I h1.1.1 h1.2 db ru (by rw [in1_units]; omega) h1.1.2 dl r
 have l1:=dl.length
 have l2:=r.length
 have hj':j < its.length:=by omega
 obtain⟨oc,od,odt,osl⟩:=o
 cases hc
 cases hd'
 cases hdd
 refine Rf Qe ⟨_,ho,rfl⟩ PySem.F.entry_list_index (PySem.F.args_list_index_2 _ _)
  (list_indexAt a its.toArray n none osl u e j (by simpa using hj') (by rw [PySem.sizeLine_eq] at hz; omega) ?_ ?_) ⟨ho,he,?_⟩
 ·have:=hv j ys[j] its[j] (by simp [hj]) (by simp [hj'])
  rw [hit] at this
  simpa using this
 ·intro m hm hlt
  have hm':m < its.length:=by simpa using hm
  have:=hv m (ys[m]'‹0›) its[m] (by simp [show m < ys.length by omega]) (by simp [hm'])
  rw [hno m ‹0› hlt] at this
  simpa using this
 ·exact⟨.int j,H,I.tok _,⟨_,rfl⟩,q _ (eU.mpr rfl)⟩
theorem IR {a e:Qy} {fa:FX} {fs:av->R (List D)} {apos cpos:Pos} (hu:X.A.units+64 < QW) (ha:FE X a fa) (hs:FA X [e] fs) (hbase:QS a "index" X.env (eval a X.env)=eval a X.env:=by rfl)
  (hfew:((backTo cpos (Qz [e] X.env)).all (fun x=>!x.1) && (backToKw cpos (QU [] X.env)).all (fun x=>x.1.isSome)
   && decide (([e]:List Qy).length+([]:List Q2).length+(if ([]:List Q2).isEmpty then 0 else 1) < 30))=true:=by rfl)
  (hline:(apos.endLine==cpos.line)=true:=by rfl) (hst:Qz [e] X.env=(false,eval e X.env)::Qz [] X.env:=by rfl) (hplain:(backTo cpos (Qz [] X.env)).any (·.1)=false:=by rfl) :
  FE X (.Call (.Attribute a "index" apos) [e] [] cpos) (xR fa fs) :=
 PE.weak (CO Qf Qe PySem.F.type_list_index (BU hu) ha hs hbase hfew hline hst hplain) fun σ H Q ⟨O,ρ,E,hF⟩=>⟨O,ρ,E,(hV.bind hF).imp fun x hF v H1 s1 d1=>by
  cases x with
  | lst ys =>
   obtain⟨p,vs,rfl,g1,g2⟩:=cq.mp d1
   have g1':=(aO H1 O).seq g1
   refine⟨.inl ⟨rfl,vs,g1'⟩,O,ρ,E.same s1,((hV.bind hF).mono s1).imp fun ds hF ws H2 s2 d2=>?_⟩
   match ds,hF,d2 with
   | [b],hF,d2 =>
    obtain⟨w,rfl,db⟩:=d2.one
    obtain⟨d,e,q⟩:=hV.rO hF
    refine⟨H1,p,ys,vs,b,w,d,s2,rfl,rfl,g1',(g2.mono (aO H1 O)).mono s2,db.mono (aO H2 O),e,fun w' dw=>q w' H2 (s1.trans s2) ?_⟩
    have hg':(if (pl b && iY ys) && cO 8 b then (v9 b ys).map (fun (j:Nat)=>D.int (j:Int)) else none)=some d:=e
    split at hg'
    ·obtain⟨j,_,ed⟩:=Option.map_eq_some_iff.mp hg'
     subst ed
     exact eU.mpr (eU.mp dw)
    ·cases hg'
   | [],hF,_=>exact hF.elim
   | _::_::_,hF,_=>exact hF.elim
  | _=>exact hF.elim⟩
end
end TG
namespace TG
open PySem PySem.Spec L2
variable [bc]
def tV (a b:D):Option D:=match a,b with
 | .lst xs,.lst ys=>if small (xs.length+ys.length) then some (.lst (xs++ys)) else none
 | _,_=>none
section
variable {X:Cx}
theorem LV {a b:Qy} {fa fb:FX} {pos:Pos} (ha:FE X a fa) (hb:FE X b fb):FN X (.BinOp a .Add b pos) (f2 tV fa fb) :=
 PE.weak (Fc zt ha hb) fun σ H Q ⟨O,ρ,E,hF⟩ =>
 ⟨O,ρ,E,(hV.bind hF).imp fun a hF x H1 s1 d1=>⟨O,ρ,E.same s1,((hV.bind hF).mono s1).imp fun b hF y H2 s2 d2=>by
  obtain⟨d,e,q⟩:=hV.rO hF
  cases a with
  | lst xs =>
   cases b with
   | lst ys =>
    obtain⟨h1,h2⟩:=bP e
    subst h2
    have d3:=d1.mono (cE s2)
    rw [cq] at d3 d2
    obtain⟨p,vs,ex,g1,g2⟩:=d3
    obtain⟨p',vs',ey,g1',g2'⟩:=d2
    refine⟨p,p',vs,vs',ex,ey,(aO H2 O).seq g1,(aO H2 O).seq g1',?_,fun r hr=>?_⟩
    ·rw [<- g2.length,<- g2'.length]; exact dh h1
    ·exact q r _ ((s1.trans s2).trans (cv hr _)) ((s1.trans s2).free hr) ⟨_,bJ,trivial⟩ (jc hr (g2.append g2'))
   | _=>cases e
  | _=>cases e⟩⟩
end
end TG
namespace TG
open PySem PySem.Spec PySem.Calls L2
open PySem.SeqAt (EqAt list_countAt)
variable [bc]
def w6:=Hf (fun _ j=>decide (0<=j)) fun i j=>i / 2 ^ j.toNat
theorem xE {K:O2}:dH K (rI (fun _ j=>0<=j) fun i j=>.int (i / 2 ^ j.toNat)) w6:=jE fun _ _ h=>of_decide_eq_true h
def pV:=EQ fun i j=>.int (Builtin.bitAnd i j)
theorem ye {K:O2}:dH K (AX fun i j=>.int (Builtin.bitAnd i j)) pV:=qE
def pT:List D->List D->Option (List (Key×D))
 | [],[]=>some []
 | k::ks,d::ds=>(keyOf k).bind fun k=>(pT ks ds).map ((k,d)::·)
 | _,_=>none
abbrev gU (al:List (Key×D)):List D:=al.map fun p=>dY p.1
abbrev w4 (al:List (Key×D)):D:=.dct (gU al) (al.map (·.2))
theorem kc (k:Key):keyOf (dY k)=some k:=by cases k <;> rfl
theorem Cb {a b:Key} (h:dY a=dY b):a=b:=by
 have e:=congrArg keyOf h
 rw [kc,kc] at e
 exact Option.some.inj e
theorem wB:∀ {ks ds:List D} {al:List (Key×D)},pT ks ds=some al->ks=gU al/\ds=al.map (·.2)
 | [],[],_,h=>by cases h; exact⟨rfl,rfl⟩
 | k::ks,d::ds,al,h=>by
  unfold pT at h
  cases e1:keyOf k with
  | none=>rw [e1] at h; cases h
  | some k' =>
   rw [e1] at h
   cases e2:pT ks ds with
   | none=>rw [e2] at h; cases h
   | some al' =>
    rw [e2] at h; cases h
    obtain⟨h1,h2⟩:=wB e2
    rw [rL e1,h1,h2]; exact⟨rfl,rfl⟩
 | [],_::_,_,h=>by cases h
 | _::_,[],_,h=>by cases h
theorem sY:∀ al:List (Key×D),pT (gU al) (al.map (·.2))=some al
 | []=>rfl
 | p::r=>by
  show (keyOf (dY p.1)).bind _=_
  rw [kc]
  show (pT (gU r) (r.map (·.2))).map ((p.1,p.2)::·)=_
  rw [sY r]; rfl
theorem sJ:∀ {al:List (Key×D)} {ks:List Key},gU al=ks.map dY->al.map (·.1)=ks
 | [],[],_=>rfl
 | p::r,k::ks,h=>by
  have h:dY p.1::gU r=dY k::ks.map dY:=h
  injection h with h1 h2
  rw [MU,Cb h1,sJ h2]
 | [],_::_,h=>by cases h
 | _::_,[],h=>by cases h
theorem J6 {K:O2} {H:Hp} {O:List Qo} {a:Qo} {al:List (Key×D)} (h:jX K H O a (w4 al)) :
  (∃ kvs:List (Key×V),H a=some (.dK kvs)/\kvs.map (·.1)=al.map (·.1)/\bp K (hid H O) (al.map (·.2)) (kvs.map (·.2)))\/(H a=some (.dT [])/\al=[]):=by
 obtain⟨o,vs,h1,h2,h3⟩:=h
 rcases h3 with ⟨kvs,e,e1,e2⟩ | ⟨kvs,e,e1,e2⟩
 ·subst e
  refine .inl ⟨kvs,h1,?_,by rw [<- e2]; exact h2⟩
  exact(sJ (ks:=kvs.map (·.1)) (by rw [Oy]; exact e1)).symm
 ·subst e
  cases kvs with
  | nil =>
   refine .inr ⟨h1,?_⟩
   simpa using e1
  | cons p r =>
   cases al with
   | nil=>cases e1
   | cons q r' =>
    have e1:dY q.1::gU r'=D.tup (p.1.map dY)::r.map (fun p=>D.tup (p.1.map dY)):=e1
    injection e1 with e1 _
    rcases q with ⟨k,v⟩
    cases k <;> cases e1
section
variable {κ:Type} [DecidableEq κ]
def p5 (al:List (κ×D)) (k:κ) (v:D):List (κ×D):=if (al.any fun p=>decide (p.1=k))=true then al.map (fun p=>if p.1=k then (p.1,v) else p) else al++[(k,v)]
theorem An {kvs:List (κ×V)} {al:List (κ×D)} (e:kvs.map (·.1)=al.map (·.1)) (k:κ) (w:V) (d:D):(putK kvs k w).map (·.1)=(p5 al k d).map (·.1):=by
 have e2:(kvs.any fun p=>decide (p.1=k))=(al.any fun p=>decide (p.1=k)):=by
  have:=congrArg (fun l=>l.any fun q=>decide (q=k)) e
  simpa [Oz,Function.comp_def] using this
 unfold putK p5
 rw [e2]
 split
 ·have e3:∀ (l:List (κ×V)),(l.map fun kv=>if kv.1=k then (kv.1,w) else kv).map (·.1)=l.map (·.1):=fun l=>by
   rw [Oy]; refine NR fun p _=>?_
   show (if p.1=k then (p.1,w) else p).1=p.1
   split <;> rfl
  have e4:∀ (l:List (κ×D)),(l.map fun kv=>if kv.1=k then (kv.1,d) else kv).map (·.1)=l.map (·.1):=fun l=>by
   rw [Oy]; refine NR fun p _=>?_
   show (if p.1=k then (p.1,d) else p).1=p.1
   split <;> rfl
  rw [e3,e4,e]
 ·rw [NS,NS,e]; rfl
theorem uk {K:O2} {H:Hp} {k:κ} {w:V} {d:D} (hw:cA K H d w):∀ {kvs:List (κ×V)} {al:List (κ×D)},kvs.map (·.1)=al.map (·.1)->bp K H (al.map (·.2)) (kvs.map (·.2)) ->
  bp K H ((al.map fun p=>if p.1=k then (p.1,d) else p).map (·.2)) ((kvs.map fun p=>if p.1=k then (p.1,w) else p).map (·.2))
 | [],[],_,h=>h
 | p::r,q::r',e,h=>by
  rw [MU,MU] at e
  injection e with e1 e2
  rw [MU,MU,bL] at h
  obtain⟨v,ws,h0,h1,h2⟩:=h
  injection h0 with h0 h0'
  subst h0 h0'
  have ih:=uk (k:=k) hw e2 h2
  rw [MU,MU,MU,MU,bL]
  refine⟨_,_,rfl,?_,ih⟩
  rw [e1]
  split
  ·exact hw
  ·exact h1
 | [],_::_,e,_=>by cases e
 | _::_,[],e,_=>by cases e
theorem B9 {K:O2} {H:Hp} {k:κ} {w:V} {d:D} (hw:cA K H d w) {kvs:List (κ×V)} {al:List (κ×D)} (e:kvs.map (·.1)=al.map (·.1)) (h:bp K H (al.map (·.2)) (kvs.map (·.2))) :
  bp K H ((p5 al k d).map (·.2)) ((putK kvs k w).map (·.2)):=by
 have e2:(kvs.any fun p=>decide (p.1=k))=(al.any fun p=>decide (p.1=k)):=by
  have:=congrArg (fun l=>l.any fun q=>decide (q=k)) e
  simpa [Oz,Function.comp_def] using this
 unfold putK p5
 rw [e2]
 split
 ·exact uk hw e h
 ·rw [NS,NS]
  exact h.append (bL.mpr ⟨w,[],rfl,hw,cF.mpr rfl⟩)
end
def ud (ks ds:List D) (k v:D):Option (List (Key×D)):=(pT ks ds).bind fun al=>(keyOf k).bind fun k=>if small al.length then some (p5 al k v) else none
def ky (i:Nat) (fk fv:FX):ca:=fun k ρ=>match ρ[i]? with
 | some (some (.own (.dct ks ds)))=>p9 ((fv ρ).bind fun v=>(fk ρ).bind fun q=>rO (ud ks ds q v)) k ρ fun al=>k.nx (ρ.set i (some (.own (w4 al))))
 | _=>un
theorem yr {ks ds:List D} {k v:D} {al':List (Key×D)} (h:ud ks ds k v=some al'):∃ al q,ks=gU al/\ds=al.map (·.2)/\k=dY q/\small al.length=true/\al'=p5 al q v:=by
 unfold ud at h
 cases e1:pT ks ds with
 | none=>rw [e1] at h; cases h
 | some al =>
  rw [e1] at h
  cases e2:keyOf k with
  | none=>rw [e2] at h; cases h
  | some q =>
   rw [e2] at h
   obtain⟨h3,h4⟩:=bP (show (if small al.length then some (p5 al q v) else none)=some al' from h)
   obtain⟨h1,h2⟩:=wB e1
   exact⟨al,q,h1,h2,rL e2,h3,h4.symm⟩
theorem DQ {kvs:List (Key×V)} {al:List (Key×D)} (e:kvs.map (·.1)=al.map (·.1)):gU al=kvs.map fun p=>dY p.1:=by
 have:=congrArg (List.map dY) e
 rw [Oy,Oy] at this
 exact this.symm
def GC (td ty tv:TE):TS:=fun D σ H=>tv σ H fun v H1=>td σ H1 fun x H2=>ty σ H2 fun y H3=>∃ a k kvs,x=.ref a/\y=kV k/\(H3 a=some (.dK kvs)\/(H3 a=some (.dT [])/\kvs=[]))/\kvs.length < Qq/\D.nx σ (upd H3 a (.dK (putK kvs k v)))
section
variable {X:Cx} {o idx value:Qy} {pos pos':Pos} {td ty tv:TE}
theorem Be (hu:X.A.units+1 < QW) (ho:PE X o td) (hi:PE X idx ty) (hv:PE X value tv) (hs:swapsWith value (some (.Subscript o idx pos')) pos.line X.env=pure false):PS X (.Assign [.Subscript o idx pos'] value pos) (GC td ty tv):=by
 intro pins s σ H D I h
 refine wpAny_Assign_Subscript (dB (hv pins s σ H _ I h) fun r s1 ⟨v,H1,I1,rv,q1⟩=>dB (ho pins s1 σ H1 _ I1 q1) fun u s2 ⟨x,H2,I2,rx,q2⟩=>dB (hi pins s2 σ H2 _ I2 q2) fun iv s3 ⟨y,H3,I3,ry,a,k,kvs,ex,ey,ha,hl,q3⟩=>?_) hs
 subst ex ey
 obtain rfl:u=Value.ref a:=rx
 rcases ha with ha | ⟨ha,rfl⟩
 ·exact t6 hu I3 (Ht.k ha hl) ry rv fun s4 I4=>⟨σ,_,I4,q3⟩
 ·refine t6 hu (Ln I3 ha) (Ht.k bJ hl) ry rv fun s4 I4=>⟨σ,_,I4,?_⟩
  rw [CI]; exact q3
end
theorem Ji {X:Cx} {i:Nat} {x:Str} {idx value:Qy} {fk fv:FX} {npos tpos pos:Pos} (hu:X.A.units+64 < QW) (hx:PE X (.Name x npos) (qd i)) (hi:FE X idx fk) (hv:FE X value fv)
  (hs:swapsWith value (some (.Subscript (.Name x npos) idx tpos)) pos.line X.env=pure false:=by rfl) :
  FS X (.Assign [.Subscript (.Name x npos) idx tpos] value pos) (ky i fk fv):=fun Hb Ob pins s σ H E I ⟨O,ρ,k,rr,S,hF,hk⟩=>by
 unfold ky at hF
 split at hF
 ·rename_i ks ds hxs
  obtain⟨a,ha,haO,hat⟩:=S.env.own i _ hxs
  have hP:=hV.on hF hk S (Q:=fun al=>k.nx (ρ.set i (some (.own (w4 al))))=rr) fun p e=>e
  refine Be ‹0› hx hi hv hs pins s σ H E I ⟨O,ρ,S.env,(hV.bind hP).imp fun y hP v H1 s1 d1=>?_⟩
  have S1:=S.same s1
  refine⟨.ref a,ha,O,ρ,S1.env,((hV.bind hP).mono s1).imp fun j hP w H2 s2 d2=>?_⟩
  have S2:=S1.same s2
  obtain⟨al',hg,e⟩:=hV.rO hP
  obtain⟨al,q,f1,f2,f3,f4,f5⟩:=yr hg
  subst f1 f2 f3 f5
  have s12:=s1.trans s2
  have hat2:jX X.K H2 O a (w4 al):=hat.mono (let ⟨_,z⟩:=hat.some; uA s12 z) (cE s12)
  have dv:cA X.K (hid H2 O) y v:=d1.mono (cE s2)
  have fin:∀ kvs:List (Key×V),kvs.map (·.1)=al.map (·.1)->bp X.K (hid H2 O) (al.map (·.2)) (kvs.map (·.2))->jX X.K (upd H2 a (.dK (putK kvs q v))) O a (w4 (p5 al q y)):=fun kvs k2 k3 =>
   ⟨_,_,bJ,(B9 dv k2 k3).mono (oa haO),.inl ⟨putK kvs q v,rfl,DQ (An k2 q v y),rfl⟩⟩
  rcases J6 hat2 with ⟨kvs,k1,k2,k3⟩ | ⟨k1,rfl⟩
  ·have hl:kvs.length=al.length:=by have:=congrArg List.length k2; simpa using this
   exact⟨a,q,kvs,rfl,v5 d2,.inl k1,by rw [hl]; exact NY (of_decide_eq_true f4) (by decide),hk.nx O _ σ _ (S2.setO hxs ha trivial (fin kvs k2 k3)) e⟩
  ·exact⟨a,q,[],rfl,v5 d2,.inr ⟨k1,rfl⟩,by decide,hk.nx O _ σ _ (S2.setO hxs ha trivial (fin [] rfl (cF.mpr rfl))) e⟩
 ·exact absurd hF.symm hk.ne
section
variable {X:Cx}
theorem IZ {pins:List (Qo×Obj)} {σ:St} {H:Hp} {s:Qu} {O:List Qo} {ks ds:List D} {v:V} {qs:List Key} (I:Inv X pins σ H s) (h:cA X.K (hid H O) (.dct ks ds) v) (hk:keysOf ks=some qs) :
  ∃ a vs,v=.ref a/\qs.length<=Qq/\(a==sysModules)=false/\s.heap.DictOf (de X.prog X.w) a vs/\vs.map (·.1)=qs:=by
 obtain⟨a,vs,e,_,h2⟩:=JR.mp h
 have ek:=oX hk
 rcases h2 with ⟨kvs,h3,h4,_⟩ | ⟨kvs,h3,h4,_⟩
 ·obtain⟨z,hd,us,rel,dd⟩:=EE I.hok ((aO H O) _ _ h3)
  have e1:kvs.map (·.1)=qs:=by
   have:(kvs.map (·.1)).map dY=qs.map dY:=by rw [Oy,<- ek,h4]; rfl
   have e2:=congrArg keysOf this
   rw [je,je] at e2
   exact Option.some.inj e2
  refine⟨a,us,e,?_,hd,dd,?_⟩
  ·have:=congrArg List.length e1
   rw [MV] at this
   omega
  ·rw [<- rel.keys,e1]
 ·cases kvs with
  | nil =>
   rw [h4] at hk
   cases hk
   obtain⟨z,hd,us,rel,dd⟩:=(show dg X.prog X.w H s.heap a (.dK []) from wH (I.hok a _ ((aO H O) _ _ h3)))
   refine⟨a,us,e,MY _,hd,dd,?_⟩
   rw [<- rel.keys]; rfl
  | cons p r =>
   rw [h4] at hk
   cases hk
def pO:List D->Option D
 | [.dct ks _]=>(keysOf ks).bind fun qs=>some (.int qs.length)
 | _=>none
theorem zU:eG X (.builtin "len") (zT X.K pO):=by
 intro pins s σ H xs us Q I r ⟨O,ds,d,hO,hd,hg,q⟩
 unfold pO at hg
 split at hg
 ·rename_i ks vs0
  cases hk:keysOf ks with
  | none=>rw [hk] at hg; cases hg
  | some qs =>
   rw [hk] at hg
   cases hg
   obtain⟨v,ev,h1⟩:=hd.one
   obtain⟨a,vs,e,z,hs,dd,e1⟩:=IZ I h1 hk
   subst ev e
   obtain⟨u,rfl,ru⟩:=vals1 r
   cases ru
   have hl:vs.length=qs.length:=by have:=congrArg List.length e1; simpa using this
   refine call_len_dict hs dd (by rw [QP] at z; omega) ?_
   rw [hl]
   exact⟨.int qs.length,H,I.tok _,⟨_,rfl⟩,q _ H (bH.refl H) (eU.mpr rfl)⟩
 ·cases hg
theorem Am {k:Key} {v:Ql} (h:pQ k v=true):RelV (kV k) v:=by
 rcases cL h with ⟨i,t,rfl,rfl⟩ | ⟨x,t,rfl,rfl⟩
 ·exact⟨_,rfl⟩
 ·exact⟨_,rfl⟩
theorem tP {P:Qn} {w:Qm}:∀ {vs:List (Key×Ql)} {its:List Ql},its.length=vs.length->(∀ (j:Nat) (v:Ql),its[j]?=some v->∃ (k:Key) (x:Ql),vs[j]?=some (k,x)/\(de P w).is k v=true)->Vals (vs.map fun p=>kV p.1) its
 | [],[],_,_=>.nil
 | p::r,u::us,hl,h=>by
  obtain⟨k,x,e,hk⟩:=h 0 u rfl
  cases e
  exact .cons (Am (by rw [xx] at hk; exact hk)) (tP (by simpa using hl) fun j v e=>h (j+1) v (by simpa using e))
 | [],_::_,hl,_=>by cases hl
 | _::_,[],hl,_=>by cases hl
theorem tW {K:O2} {H:Hp}:∀ qs:List Key,bp K H (qs.map dY) (qs.map kV)
 | []=>cF.mpr rfl
 | k::r=>bL.mpr ⟨kV k,_,rfl,by cases k with
  | inl i=>exact eU.mpr rfl
  | inr x=>exact eV.mpr rfl,tW r⟩
def jq:List D->Option D
 | [.dct ks _]=>(keysOf ks).bind fun _=>some (.lst ks)
 | _=>none
theorem rP (hc:X.calm=true):eG X (.type "list") (zT X.K jq):=by
 intro pins s σ H xs us Q I r ⟨O,ds,d,hO,hd,hg,q⟩
 unfold jq at hg
 split at hg
 ·rename_i ks vs0
  cases hk:keysOf ks with
  | none=>rw [hk] at hg; cases hg
  | some qs =>
   rw [hk] at hg
   cases hg
   obtain⟨v,ev,h1⟩:=hd.one
   obtain⟨a,vs,e,z,hs,dd,e1⟩:=IZ I h1 hk
   subst ev e
   obtain⟨u,rfl,ru⟩:=vals1 r
   cases ru
   have hl:vs.length=qs.length:=by have:=congrArg List.length e1; simpa using this
   obtain⟨ep,da⟩:=dd.dictAt
   refine PySem.W.kdl_call (PySem.W.kdl_dict hs) (I.ok.hd hc) da ‹0› fun h' tk acc' c' kp e2 it=>?_
   have rv:Vals (qs.map kV) acc'.toList:=by
    have:=tP (P:=X.prog) (w:=X.w) (vs:=vs) (its:=acc'.toList) (by rw [Array.length_toList]; exact it.1) fun j v e=>it.2 j v (by rw [<- Array.getElem?_toList]; exact e)
    rw [<- e1,Oy]; exact this
   refine⟨.ref s.heap.objs.size,_,I.laid (t':=tk) kp (MO _) (show dg X.prog X.w _ h' _ (.lst (qs.map kV)) from ⟨by rw [MV]; exact z,acc'.toList,c',rv,by simpa using e2⟩),rfl,?_⟩
   have hf:=I.hok.fresh (MO s.heap.objs.size)
   refine q _ _ (cv hf _) ?_
   rw [oX hk]
   exact gP hO hf (tW qs)
 ·cases hg
end
section
variable {X:Cx}
def Bh (a b:D):Option D:=match a with
 | .lst ys=>if (pl b && iY ys) && cO 8 b then some (.int (ys.countP fun y=>pyEq y b:Nat)) else none
 | _=>none
def ya (f:FX) (g:av->R (List D)):FX:=fun ρ=>(f ρ).bind fun a=>match a with
 | .lst ys=>(g ρ).bind fun ds=>match ds with
  | [b]=>rO (Bh (.lst ys) b)
  | _=>un
 | _=>un
def Ha (K:O2):V->List V->Hp->VK->Prop:=fun x xs H Q=>∃ Hd a ys vs b v d,bH Hd H/\x=.ref a/\xs=[v]/\mG K Hd a vs/\bp K H ys vs/\cA K H b v/\Bh (.lst ys) b=some d/\∀ w,cA K H d w->Q w H
theorem rJ {α β:Type} {p:α->Bool} {q:β->Bool}:∀ {xs:List α} {ys:List β},xs.length=ys.length->(∀ (j:Nat) (x:α) (y:β),xs[j]?=some x->ys[j]?=some y->p x=q y)->xs.countP p=ys.countP q
 | [],[],_,_=>rfl
 | x::xs,y::ys,hl,h=>by
  rw [List.countP_cons,List.countP_cons,rJ (by simpa using hl) fun j a b e1 e2=>h (j+1) a b (by simpa using e1) (by simpa using e2),h 0 x y rfl rfl]
 | [],_::_,hl,_=>by cases hl
 | _::_,[],hl,_=>by cases hl
theorem Cq (hu:X.A.units+64 < QW):JP X "list.count" (Ha X.K):=by
 intro pins s σ H x xs v us Q I rx rs ⟨Hd,a,ys,vs,b,y,d,sm,ex,exs,hl,dl,db,hg,q⟩
 subst ex exs
 cases rx
 obtain⟨u,rfl,ru⟩:=vals1 rs
 obtain⟨its,r,⟨o,n,ho,hc,hd',hdd⟩,hz⟩:=I.list (sm.seq hl)
 obtain⟨h1,h2⟩:=bP (show (if (pl b && iY ys) && cO 8 b then some (D.int (ys.countP fun y=>pyEq y b:Nat)) else none)=some d from hg)
 rw [Nc,Nc] at h1
 subst h2
 obtain⟨e,he,hv⟩:=B4 (A:=X.A.in1) I h1.1.1 h1.2 db ru (by rw [in1_units]; omega) h1.1.2 dl r
 have l1:=dl.length
 have l2:=r.length
 obtain⟨oc,od,odt,osl⟩:=o
 cases hc
 cases hd'
 cases hdd
 refine Rf Qg ⟨_,ho,rfl⟩ PySem.F.entry_list_count (PySem.F.args_list_count_2 _ _) (list_countAt a its.toArray n none osl u e) ⟨ho,he,?_⟩
 have ec:its.toArray.toList.countP e=ys.countP fun y=>pyEq y b:=by
  rw [show its.toArray.toList=its from rfl]
  exact rJ ‹0› fun j x d e1 e2=>hv j d x e2 e1
 rw [ec]
 exact⟨.int _,H,I.tok _,⟨_,rfl⟩,q _ (eU.mpr rfl)⟩
theorem Ig {a e:Qy} {fa:FX} {fs:av->R (List D)} {apos cpos:Pos} (hu:X.A.units+64 < QW) (ha:FE X a fa) (hs:FA X [e] fs) (hbase:QS a "count" X.env (eval a X.env)=eval a X.env:=by rfl)
  (hfew:((backTo cpos (Qz [e] X.env)).all (fun x=>!x.1) && (backToKw cpos (QU [] X.env)).all (fun x=>x.1.isSome)
   && decide (([e]:List Qy).length+([]:List Q2).length+(if ([]:List Q2).isEmpty then 0 else 1) < 30))=true:=by rfl)
  (hline:(apos.endLine==cpos.line)=true:=by rfl) (hst:Qz [e] X.env=(false,eval e X.env)::Qz [] X.env:=by rfl) (hplain:(backTo cpos (Qz [] X.env)).any (·.1)=false:=by rfl) :
  FE X (.Call (.Attribute a "count" apos) [e] [] cpos) (ya fa fs) :=
 PE.weak (CO Qf Qg PySem.F.type_list_count (Cq hu) ha hs hbase hfew hline hst hplain) fun σ H Q ⟨O,ρ,E,hF⟩=>⟨O,ρ,E,(hV.bind hF).imp fun x hF v H1 s1 d1=>by
  cases x with
  | lst ys =>
   obtain⟨p,vs,rfl,g1,g2⟩:=cq.mp d1
   have g1':=(aO H1 O).seq g1
   refine⟨.inl ⟨rfl,vs,g1'⟩,O,ρ,E.same s1,((hV.bind hF).mono s1).imp fun ds hF ws H2 s2 d2=>?_⟩
   match ds,hF,d2 with
   | [b],hF,d2 =>
    obtain⟨w,rfl,db⟩:=d2.one
    obtain⟨d,e,q⟩:=hV.rO hF
    refine⟨H1,p,ys,vs,b,w,d,s2,rfl,rfl,g1',(g2.mono (aO H1 O)).mono s2,db.mono (aO H2 O),e,fun w' dw=>q w' H2 (s1.trans s2) ?_⟩
    obtain⟨_,ed⟩:=bP (show (if (pl b && iY ys) && cO 8 b then some (D.int (ys.countP fun y=>pyEq y b:Nat)) else none)=some d from e)
    subst ed
    exact eU.mpr (eU.mp dw)
   | [],hF,_=>exact hF.elim
   | _::_::_,hF,_=>exact hF.elim
  | _=>exact hF.elim⟩
end
end TG
namespace TG
open PySem PySem.Spec L2
variable [bc]
structure iL (k:Nat) (A:Qt):Prop where
 dp:A.depth+3*k+5 < QV
 un:A.units+16*k+200 < QW
theorem iL.mono {j k:Nat} {A:Qt} (r:iL k A) (h:j<=k):iL j A:=⟨by have:=r.dp; omega,by have:=r.un; omega⟩
theorem iL.deeper {k:Nat} {A:Qt} (r:iL (k+1) A) (env:Env):iL k (A.deeper env) :=
 ⟨by have:=r.dp; show A.depth+1+3*k+5 < _; omega,by have:=r.un; show A.units+3+16*k+200 < _; omega⟩
theorem iL.depth {k:Nat} {A:Qt} (r:iL k A):A.depth < QV:=by have:=r.dp; omega
theorem iL.units {k:Nat} {A:Qt} (r:iL k A):A.units+64 < QW:=by have:=r.un; omega
theorem iL.at {k:Nat} {A A':Qt} (r:fX k A) (h1:A'.depth=A.depth) (h2:A'.units=A.units):iL k A':=⟨by rw [h1]; exact r.dp,by rw [h2]; exact r.un⟩
abbrev ER (P:Qn) (w:Qm) (K:O2) (mg:Str->Option Ql) (base:Qp) (N:List Str) (qual:Str) (scope:Qv) (f:Qo) (cd:Ql) (A:Qt) (outer:List Env) (s:Qu) (H:Hp) (E:XK):Cx :=
 { kB (nc P w) P w K mg base N qual scope f cd A outer s H E with calm:=false }
structure wR (P:Qn) (w:Qm) (K:O2) (mg:Str->Option Ql) (base:Qp) (k:Nat) (f:Qo) (fd:QX) (ps:List Str) (sp:Sp):Prop where
 len:∀ vs H Q E,sp vs H Q E->vs.length=ps.length
 run:∀ (A:Qt) (outer:List Env) (s:Qu) (H:Hp) (args:Args) (us:List Ql) (vs:List V) (Q:VK) (E:XK),iL k A->uN P w K mg base A outer s H->QY s fd args (ps.zip us)->Vals vs us->sp vs H Q E ->
  QR (model P w) A (.call (.ref f) args) (CR (nc P w) outer P w H s Q E) s
section
variable {P:Qn} {w:Qm} {K:O2} {mg:Str->Option Ql} {base:Qp} {N ps:List Str} {qual:Str} {f:Qo}
theorem xJ {scope:Qv} {cd:Ql} {A:Qt} {outer:List Env} {s s1:Qu} {H:Hp} {E:XK} {us:List Ql} {vs:List V}
  (S:bh N ps scope) (e0:uN P w K mg base A outer s H) (hl:vs.length=ps.length) (r:Vals vs us)
  (x:InCallC s s.heap.objs.size (bindL (P0 qual scope s.heap.objs.size f cd).kindOf (ps.zip us) fun _=>none) (cellsFrom (s.heap.objs.size+1) scope.names []) (bindC (P0 qual scope s.heap.objs.size f cd).kindOf (ps.zip us) fun _=>none) s1) :
  L2.Inv (ER P w K mg base N qual scope f cd A outer s H E) [] (L2.start N vs) H s1:=by
 have e0':uN P w K mg base { A with handled:=none } outer s H:=⟨e0.frames,e0.mod,e0.bs,e0.bsz,e0.funs,e0.frf,e0.hok,e0.bare⟩
 have I:=sU (CX:=nc P w) (A:={ A with handled:=none }) (E:=E) S rfl e0' hl r x
 exact⟨⟨I.ok.mod,I.ok.kind,I.ok.glob,I.ok.blt,I.ok.above,I.ok.inj,I.ok.has,I.ok.cab,(fun z=>nomatch z),I.ok.frames,I.ok.stk,I.ok.exf,I.ok.bs,I.ok.bsz,I.ok.noex,I.ok.exfs,I.ok.funs,I.ok.frf⟩,
  I.os,I.bare,I.base,I.loc,I.cell,I.free,I.freeC,I.pin,I.hok,I.len⟩
theorem Gm {k:Nat} {name:Str} {params:Arguments} {body:List QA} {scope:Qv} {dV kV doc pm cdv ct oc:Ql} {an od:Option Qo}
  {osl:Array (Option Ql)} {sp:Sp} (lk:K.lookup f=some ⟨oc,od,.func (Pp name qual params body scope dV kV doc pm an cdv ct),osl⟩) (hcd:Pq K cdv qual=true) (S:bh N ps scope)
  (len:∀ vs H Q E,sp vs H Q E->vs.length=ps.length)
  (hbody:∀ (A:Qt) (outer:List Env) (s:Qu) (H:Hp) (vs:List V) (Q:VK) (E:XK),iL k (A.deeper (P0 qual scope s.heap.objs.size f cdv))->sp vs H Q E ->
   ∃ t,vC (ER P w K mg base N qual scope f cdv A outer s H E) body t/\t { nx:=fun _ H'=>Q .non H',rt:=Q } (L2.start N vs) H) :
  wR P w K mg base (k+1) f (Pp name qual params body scope dV kV doc pm an cdv ct) ps sp:=by
 refine⟨len,fun A outer s H args us vs Q E hr e0 hb r hsp=>?_⟩
 have hl:=len _ _ _ _ hsp
 have KX:K.In s.heap:=e0.mod.kin.keeps fun b o e=>(e0.bs b o e).1
 have lim:s.heap.NoLimit:=e0.mod.nolimit.keeps fun b o e=>(e0.bs b o e).1
 have hkind:∀ y∈ps.zip us,scope.names.lookup y.1=some .local\/(scope.names.lookup y.1=some .cell/\((cellsFrom (s.heap.objs.size+1) scope.names []).lookup y.1).isSome=true):=fun ⟨n,v⟩ hy=>by
  rcases S.par n (M1 hy).1 with q | q
  ·exact .inl q
  ·exact .inr ⟨q,Pn _ _ _ (.inl q)⟩
 refine codeAny_call_function hr.depth (KX _ _ lk) rfl S.co S.gen rfl (Pr KX hcd) (hb _ _ _ _ ?_)
 refine Q4 S.kind hkind fun env he s1 x=>?_
 subst he
 refine⟨lim.keeps x.toInCall.keep,codeAny_func ?_⟩
 obtain⟨t,ht,hq⟩:=hbody A outer s H vs Q E (hr.deeper _) hsp
 have I:L2.Inv (ER P w K mg base N qual scope f cdv A outer s H E) [] (L2.start N vs) H s1:=xJ S e0 hl r x
 refine QB (ht [] s1 (L2.start N vs) H _ I hq) (fun fl s' hs=>?_) fun e s' hs=>hs
 have fin:∀ {σ':St} {H':Hp} {v:V} {u:Ql},L2.Inv (ER P w K mg base N qual scope f cdv A outer s H E) [] σ' H' s'->RelV v u->Q v H'->CE outer P w H s Q u s' :=
  fun {σ' H' v u} J rv q=>⟨v,H',J.os,J.bare,J.base,J.hok,rv,q⟩
 cases fl with
 | ret u =>
  obtain⟨v,σ',H',J,rv,q⟩:=hs
  exact fin J rv q
 | next =>
  obtain⟨σ',H',J,q⟩:=hs
  exact fin (v:=V.non) (u:=Value.none) J rfl q
 | brk =>
  obtain⟨_,_,_,q⟩:=hs
  exact False.elim q
 | cont =>
  obtain⟨_,_,_,q⟩:=hs
  exact False.elim q
structure uW (P:Qn) (w:Qm) (K:O2) (mg:Str->Option Ql) (base:Qp) (k:Nat) (N:List Str) (qual:Str) (st:QA) (f:Qo) (B:ca):Prop where
 h:∀ (cdv:Ql) (A:Qt) (outer:List Env) (s:Qu) (H:Hp) (E:XK),iL k (A.deeper (P0 qual (aB st) s.heap.objs.size f cdv))->QI (model P w) (A.deeper (P0 qual (aB st) s.heap.objs.size f cdv)) (P0 qual (aB st) s.heap.objs.size f cdv) (ER P w K mg base N qual (aB st) f cdv A outer s H E).xe ->
  xf (ER P w K mg base N qual (aB st) f cdv A outer s H E) (eF st) B
def Dr (g:List D->R D):List D->R D:=fun ds=>xc (g ds)
theorem Fz {n:Nat} {g:List D->R D} (h:Ar n g):Ar n (Dr g):=fun ds q=>h ds fun z=>q (by unfold Dr; rw [z]; rfl)
theorem C1 {x:Str} {st:QA} {fd:QX} {k:Nat} {B:ca} (F:w8 K x qual st f fd) (SC:bh N ps (aB st)) (hb:uW P w K mg base k N qual st f B) :
  wR P w K mg base (k+1) f fd ps (Ab K ps.length (Dr (bv B ps.length N.length))):=by
 obtain⟨oc,od,kV,doc,pm,an,cdv,ct,osl,rfl,lk,hcd⟩:=F.ex
 refine Gm lk hcd SC (fun vs H Q E h=>?_) fun A outer s H vs Q E hr h=>?_
 ·obtain⟨O,ds,h1,_⟩:=h
  exact h1
 ·obtain⟨O,ds,h1,h2,h3,h4⟩:=h
  have hl:ds.length=ps.length:=h3.length.trans h1
  have e4:Dr (bv B ps.length N.length) ds=xc (B K0 (env0 N.length ds)):=by unfold Dr bv; rw [if_pos hl]
  rw [e4] at h4
  refine⟨_,hb.h cdv A outer s H E hr PassesOwn.leaving H O,O,env0 N.length ds,K0,_,⟨rh h2 h3,⟨bH.refl H,fun _ z=>z,fun a z=>.inl z⟩,fun i xs a e=>?_⟩,rfl,?_⟩
  ·obtain⟨d',_,e2⟩:=kE i _ e
   cases e2
  ·generalize B K0 (env0 N.length ds)=r at h4
   refine⟨fun z=>by rw [z] at h4; exact h4,fun O' ρ' σ' H' S e=>?_,fun O' ρ' σ' H' S e=>?_,fun O' ρ' σ' H' S e=>?_,fun d O' v H' e b dv=>?_,fun O' ρ' σ' H' x S e=>?_⟩
   ·have e:(.ok .non:R D)=r:=e
    subst e
    exact h4 .non H' S.base.same (kq.mpr rfl)
   ·have e:(un:R D)=r:=e
    subst e
    exact h4.elim
   ·have e:(un:R D)=r:=e
    subst e
    exact h4.elim
   ·subst e
    exact h4 v H' b.same (dv.mono (kZ b.sub))
   ·have e:(.error (some x):R D)=r:=e
    subst e
    exact h4.elim
def qk (P:Qn) (w:Qm) (K:O2) (mg:Str->Option Ql) (base:Qp) (k:Nat) (x:Str) (ps:List Str) (g:List D->R D):Prop :=
 ∃ f fd,wR P w K mg base k f fd ps (Ab K ps.length g)/\Binds K fd ps []/\Pl K (.ref f)=true/\mg x=some (.ref f)
theorem xD {x:Str} {st:QA} {fd:QX} {k:Nat} {B:ca} (F:w8 K x qual st f fd) (b:Binds K fd ps []) (m:mg x=some (.ref f)) (SC:bh N ps (aB st)) (hb:uW P w K mg base k N qual st f B) :
  qk P w K mg base (k+1) x ps (Dr (bv B ps.length N.length)):=⟨f,fd,C1 F SC hb,b,F.kp,m⟩
end
section
variable {X:Cx} {k:Nat} {f:Qo} {fd:QX} {ps:List Str} {sp:Sp} {x:Str} {p pos:Pos} {e:Qy} {es:List Qy} {t:TA}
theorem DR {pins:List (Qo×Obj)} {σ:St} {H:Hp} {s:Qu} {Q:VK} {E:XK} {us:List Ql} {vs:List V} (F:wR X.prog X.w X.K X.mg X.base k f fd ps sp) (hr:iL k X.A) (hb:Binds X.K fd ps []) (hx:jB (nc X.prog X.w) X σ E)
  (I:L2.Inv X pins σ H s) (r:Vals vs us) (h:sp vs H Q E):Qx (model X.prog X.w) X.A (call (.ref f) us) (EP X pins σ Q) X.xe s:=by
 have hl:(us++[]).length=ps.length:=by rw [MZ,<- r.length]; exact F.len _ _ _ _ h
 have hb':=hb s us I.kIn hl
 rw [MZ] at hb'
 refine QZ (Q0 (F.run X.A X.stack s H ⟨us,[]⟩ us vs Q E hr I.env0 hb' r h) fun r s' hq=>?_)
 cases r with
 | error e=>exact hx pins H s e s' I hq
 | ok fl =>
  cases fl with
  | ret u=>exact I.after hq
  | next=>exact False.elim hq
  | brk=>exact False.elim hq
  | cont=>exact False.elim hq
theorem BR (F:wR X.prog X.w X.K X.mg X.base k f fd ps sp) (hr:iL k X.A) (hg:Gl X x) (hm:X.mg x=some (.ref f)) (hk:Pl X.K (.ref f)=true) (hb:Binds X.K fd ps [])
  (ha:PA X (e::es) t) (hdb:(x==("__debug__":Str))=false:=by decide) (he:Qz (e::es) X.env=(false,eval e X.env)::Qz es X.env:=by rfl) (hpl:(backTo pos (Qz es X.env)).any (·.1)=false:=by rfl) :
  PE X (.Call (.Name x p) (e::es) [] pos) (yu X sp t):=by
 intro pins s σ H Q I h
 refine Q1 (md I hg hm ?_ hdb)
 refine Pm (h₀:=X.base) I.ok.mod.kin hk (dB (ha pos pins s σ H _ I h) fun us s1 ⟨vs,H1,I1,r,E,hx,q⟩=>⟨I1.kIn,?_⟩) he hpl
 exact DR F hr hb hx I1 r q
end
theorem G6 {X:Cx} {k k':Nat} {ps:List Str} {g:List D->R D} {h:av->R (List D)} {x:Str} {p pos:Pos} {e:Qy} {es:List Qy}
  (C:qk X.prog X.w X.K X.mg X.base k x ps g) (hn:Ar ps.length g) (hr:iL k' X.A) (hk:k<=k') (ha:FA X (e::es) h) (hg:Gl X x:=by rfl)
  (hdb:(x==("__debug__":Str))=false:=by decide) (hns:(e::es).all noStar=true:=by rfl) :
  FE X (.Call (.Name x p) (e::es) [] pos) (fR g h):=by
 obtain⟨f,fd,F,b,kp,m⟩:=C
 exact PE.weak (BR F (hr.mono hk) hg m kp b ha hdb (cS (Nc _ _ ▸ hns).1) (dE (Nc _ _ ▸ hns).2)) (tx hn)
end TG
namespace TG
open PySem PySem.Spec PySem.Calls L2
variable [bc]
end TG
namespace TG
open PySem PySem.Spec L2
variable [bc]
def j6 (i:Nat) (fk:FX):FX:=fun ρ=>match ρ[i]? with
 | some (some (.own (.lst xs)))=>(fk ρ).bind fun k=>rO (aw (.lst xs) k)
 | _=>un
theorem Ke {X:Cx} {x:Str} {b:Qy} {i:Nat} {fk:FX} {npos pos:Pos} (hx:PE X (.Name x npos) (qd i)) (hb:FE X b fk) (hs:nK b):FE X (.Subscript (.Name x npos) b pos) (j6 i fk) :=
 PE.weak (E5 yF hx hb hs) fun σ H Q ⟨O,ρ,E,hF⟩=>by
  unfold j6 at hF
  split at hF
  ·rename_i xs hr
   obtain⟨a,ha,haO,hat⟩:=E.own i _ hr
   refine⟨.ref a,ha,O,ρ,E,(hV.bind hF).imp fun k hF y H1 s1 d1=>?_⟩
   obtain⟨d,hg,q⟩:=hV.rO hF
   obtain⟨o,vs,h1,h2,h3⟩:=hat
   subst h2
   cases k with
   | int j =>
    obtain⟨w,e1,e2⟩:=uR h3 hg
    exact⟨a,vs,j,w,rfl,eU.mp d1,mG.of (s1 _ _ h1),e1,q w H1 s1 (e2.mono (cE s1))⟩
   | _=>cases hg
  ·exact hF.elim
end TG
namespace TG
open PySem PySem.Spec L2
variable [bc]
def pC (xs:List D) (ds:List D):Option (List D):=match ds with
 | [.int i]=>if decide (0<=i/\i < xs.length) && small xs.length then some (xs.eraseIdx i.toNat) else none
 | _=>none
theorem wL {K:O2}:qH K CD pC:=fun H O a xs ys as ws vs Q hO haO ha dx da hu q=>by
 unfold pC at hu
 split at hu
 ·rename_i i
  obtain⟨h1,h2⟩:=bP hu
  subst h2
  rw [Nc] at h1
  obtain⟨i0,i1⟩:=of_decide_eq_true h1.1
  have hz:xs.length<=100000:=of_decide_eq_true h1.2
  obtain⟨v,rfl,dv⟩:=da.one
  have hl:=dx.length
  have hk:i.toNat < ws.length:=by omega
  refine⟨a,ws,i,i.toNat,ws[i.toNat],rfl,by rw [eU.mp dv],ha,by omega,by omega,?_,NF hk,q _ _ ?_⟩
  ·unfold seqIndex?
   have e:(if i < 0 then i+(ws.length:Int) else i)=i:=if_neg ‹0›
   simp only [e]
   rw [decide_eq_true i0,decide_eq_true (show i < (ws.length:Int) by omega)]; rfl
  ·rw [OA,OA]
   exact(dx.take _).append (dx.drop _)
 ·cases hu
end TG
namespace TG
open PySem PySem.Spec L2
variable [bc]
def zA:D->R D
 | .lst ds=>if sj ds then .ok (.lst ds) else un
 | _=>un
def oN (is:List Nat) (f:FX):FX:=fun ρ=>(xc (f (frzs is ρ))).bind zA
theorem HU {X:Cx} {e:Qy} {f:FX} (is:List Nat) (h:FN X e f):FN X e (oN is f):=PE.weak h fun σ H Q ⟨O,ρ,E,hF⟩=>by
 obtain⟨O',E'⟩:=E.frzs is
 refine⟨O',TG.frzs is ρ,E',?_⟩
 unfold oN at hF
 cases hf:f (TG.frzs is ρ) with
 | error z=>rw [hf] at hF; exact hF.elim
 | ok d =>
  rw [hf] at hF
  have hF':hV X σ O H (zA d) _:=hF
  cases d with
  | lst ds =>
   have hF':hV X σ O H (if sj ds then (.ok (D.lst ds):R D) else un) _:=hF'
   cases hl:sj ds with
   | false=>rw [hl] at hF'; exact hF'.elim
   | true =>
    rw [hl] at hF'
    refine fun p H' s' hp m o=>hF' p H' s' hp m ?_
    obtain⟨o',vs,q1,q2,q3⟩:=o
    obtain⟨o2,m1,m2⟩:=m
    exact⟨o',vs,q1,q2,qt ((E.all.same s').cons m1 m2) hl q3⟩
  | _=>exact hF'.elim
end TG
namespace TX
open PySem PySem.Spec L2 TG
variable [bc]
structure XE (X:Cx) (e:Qy) (F:FX):Prop where h:FE X e F
structure XT (X:Cx) (e:Qy) (F:av->R Bool):Prop where h:FT X e F
structure XW (X:Cx) (e:Qy) (F:av->R Bool):Prop where h:FW X e F
structure XA (X:Cx) (e:List Qy) (F:av->R (List D)):Prop where h:FA X e F
structure XS (X:Cx) (e:QA) (F:ca):Prop where h:FS X e F
structure xk (X:Cx) (e:List QA) (F:ca):Prop where h:xf X e F
structure XI (X:Cx) (t e:Qy) (F:av->R (List D)):Prop where h:FI X t e F
structure XG (X:Cx) (e:Qy) (F:GF):Prop where h:FG X e F
structure Jv (X:Cx) (e:List Qy) (F:Bb):Prop where h:IV X e F
structure XO (X:Cx) (e:Option Qy) (F:av->R (Option Int)):Prop where h:FO X e F
structure XN (X:Cx) (e:Qy) (F:FX):Prop where h:FN X e F
structure LU (X:Cx) (e:List Qy) (F:av->R Bool):Prop where h:Jh X e F
structure XV (X:Cx) (e:Qy) (i:Nat):Prop where h:PE X e (qd i)
structure XB (X:Cx) (scope:Qv) (N:List Str) (tg elt:Qy) (ifs:List Qy) (g:GF) (C:av->R Bool) (Fe:FX) (cl:List (Str×Qo)) (C':Qo) (fp:List Qo) (s:Qu) (H:Hp) (E:Ql->Qu->Prop):Prop where
 a:XG (cB X scope N cl C' fp s H E) tg g
 b:LU (cB X scope N cl C' fp s H E) ifs C
 c:XE (cB X scope N cl C' fp s H E) elt Fe
structure G8 (X:Cx) (scope:Qv) (N:List Str) (tg elt:Qy) (ifs:List Qy) (g:GF) (C:av->R Bool) (Fe:FX):Prop where
 q:∀ cl C' fp s H E,XB X scope N tg elt ifs g C Fe cl C' fp s H E
theorem G8.h {X:Cx} {scope:Qv} {N:List Str} {tg elt:Qy} {ifs:List Qy} {g:GF} {C:av->R Bool} {Fe:FX} (x:G8 X scope N tg elt ifs g C Fe):JN X scope N tg elt ifs g C Fe:=fun cl C' fp s H E=>⟨(x.q cl C' fp s H E).a.h,(x.q cl C' fp s H E).b.h,(x.q cl C' fp s H E).c.h⟩
theorem xv {X:Cx} (i:Nat) {x:Str} {pos:Pos} (hN:X.N[i]?=some x:=by rfl) (hv:Hj X.env.scope x:=by first | exact Or.inl rfl | exact Or.inr (Or.inl rfl) | exact Or.inr (Or.inr rfl)) (hd:(x==("__debug__":Str))=false:=by decide)
  (hcd:(x==("__classdict__":Str))=false:=by decide):XV X (.Name x pos) i:=⟨pv i hN hv hd hcd⟩
theorem zg {X:Cx} {e:Qy} {f:av->R Bool} (h:XW X e f):XT X e f:=⟨FW.ft h.h⟩
theorem kR {X:Cx} {i:Nat} {x:Str} {idx value:Qy} {fi fv:FX} {npos tpos pos:Pos} (hx:XV X (.Name x npos) i) (hi:XE X idx fi) (hv:XE X value fv)
  (hs:swapsWithSole [.Subscript (.Name x npos) idx tpos] value pos.line X.env=pure false:=by rfl) (hw:swappedStores [.Subscript (.Name x npos) idx tpos] value X.env=pure none:=by rfl)
  (h1:(assignEach [.Subscript (.Name x npos) idx tpos] X.env).map (·.2)=[assign (.Subscript (.Name x npos) idx tpos) X.env]:=by rfl)
  (ha:∀ v,assign (.Subscript (.Name x npos) idx tpos) X.env v=(do
   let ov <- holding [v] (eval (.Name x npos) X.env)
   let iv <- holding [v,ov] (eval idx X.env)
   standAt tpos
   holding [v,ov,iv] (setItem ov iv v)
   release [v,ov,iv] []):=by intro _; rfl):XS X (.Assign [.Subscript (.Name x npos) idx tpos] value pos) (iN i fi fv):=⟨DL hx.h hi.h hv.h hs hw h1 (GU hx.h hi.h set_list ha)⟩
section
variable [bc] {X:Cx}
theorem ae {i:Nat} {x:Str} {pos:Pos} (h:XV X (.Name x pos) i):XE X (.Name x pos) (ai i):=⟨TG.KS h.h⟩
end
section
variable [bc] {X:Cx}
theorem ah {i j pos}:XE X (.Constant (.int i) j pos) (fC (.int i)):=⟨TG.JV ⟩
end
section
variable [bc] {X:Cx}
theorem jm {b j pos}:XE X (.Constant (.bool b) j pos) (fC (.bl b)):=⟨TG.Mb ⟩
end
section
variable [bc] {X:Cx}
theorem n5 {j pos}:XE X (.Constant .none j pos) (fC .non):=⟨TG.LJ ⟩
end
section
variable [bc] {X:Cx}
theorem aC {x j pos}:XE X (.Constant (.str x) j pos) (fC (.str x)):=⟨TG.Kw ⟩
end
section
variable [bc] {X:Cx}
theorem aj :XA X [] au:=⟨TG.Lw ⟩
end
section
variable [bc] {X:Cx}
theorem aa {e:Qy} {es:List Qy} {f:FX} {g:av->R (List D)} (he:XE X e f) (hs:XA X es g) (hns:noStar e=true:=by rfl):XA X (e::es) (af f g):=⟨TG.JF he.h hs.h hns⟩
end
section
variable [bc] {X:Cx}
theorem aM {es:List Qy} {g:av->R (List D)} {k pos} (h:XA X es g):XE X (.Tuple es k pos) (bb g):=⟨TG.LQ h.h⟩
end
section
variable [bc] {X:Cx}
theorem bV {es:List Qy} {g:av->R (List D)} {pos} (h:XA X es g):XE X (.List es pos) (dN g):=⟨TG.Lh h.h⟩
end
section
variable [bc] {X:Cx}
theorem ao {a b:Qy} {op:Operator} {r:R2} {g:D->D->Option D} {fa fb:FX} {pos:Pos} (ho:kD X (QL op) r) (s:dH X.K r g) (ha:XE X a fa) (hb:XE X b fb):XE X (.BinOp a op b pos) (f2 g fa fb):=⟨TG.J5 ho s ha.h hb.h⟩
end
section
variable [bc] {X:Cx}
theorem qv {a b:Qy} {op:CmpOp} {r:R2} {g:D->D->Option D} {fa fb:FX} {pos:Pos} (ho:kD X (QM op) r) (s:dH X.K r g) (ha:XE X a fa) (hb:XE X b fb) (hm:QN op b=false):XE X (.Compare a [op] [b] pos) (f2 g fa fb):=⟨TG.Lc ho s ha.h hb.h hm⟩
end
section
variable [bc] {X:Cx}
theorem aG {a b:Qy} {op:CmpOp} {r:R2} {g:D->D->Option D} {fa fb:FX} {pos:Pos} (ho:kD X (QM op) r) (s:dH X.K r g) (ha:XE X a fa) (hb:XE X b fb) (hm:QN op b=false):XT X (.Compare a [op] [b] pos) (fB (f2 g fa fb)):=⟨TG.JW ho s ha.h hb.h hm⟩
end
section
variable [bc] {X:Cx} {a b c:Qy} {rest:List Qy} {pos:Pos} {f g:av->R Bool}
theorem zK (h:XT X a f):XT X (.UnaryOp .Not a pos) (Ee f):=⟨TG.Li h.h⟩
end
section
variable [bc] {X:Cx} {a b c:Qy} {rest:List Qy} {pos:Pos} {f g:av->R Bool}
theorem kP (h:XT X a f):XW X (.BoolOp .And [a] pos) f:=⟨TG.JL h.h⟩
end
section
variable [bc] {X:Cx} {a b c:Qy} {rest:List Qy} {pos:Pos} {f g:av->R Bool}
theorem ie (h:XT X a f):XW X (.BoolOp .Or [a] pos) f:=⟨TG.Lj h.h⟩
end
section
variable [bc] {X:Cx} {a b c:Qy} {rest:List Qy} {pos:Pos} {f g:av->R Bool}
theorem lH (ha:XT X a f) (hb:XW X (.BoolOp .And (b::rest) pos) g):XW X (.BoolOp .And (a::b::rest) pos) (nB f g):=⟨TG.KG ha.h hb.h⟩
end
section
variable [bc] {X:Cx} {a b c:Qy} {rest:List Qy} {pos:Pos} {f g:av->R Bool}
theorem jo (ha:XT X a f) (hb:XW X (.BoolOp .Or (b::rest) pos) g):XW X (.BoolOp .Or (a::b::rest) pos) (xW f g):=⟨TG.Ma ha.h hb.h⟩
end
section
variable [bc] {X:Cx} {a b c:Qy} {rest:List Qy} {pos:Pos} {f g:av->R Bool} {fa fb:FX}
theorem B6 (hc:XT X c f) (ha:XE X a fa) (hb:XE X b fb):XE X (.IfExp c a b pos) (Hm f fa fb):=⟨TG.Mh hc.h ha.h hb.h⟩
end
section
variable [bc] {X:Cx}
theorem ax {a b:Qy} {fa fb:FX} {pos:Pos} (ha:XE X a fa) (hb:XE X b fb) (hs:nK b):XE X (.Subscript a b pos) (f2 aw fa fb):=⟨TG.LZ ha.h hb.h hs⟩
end
section
variable [bc] {X:Cx}
theorem jH :XO X none fT:=⟨TG.JO ⟩
end
section
variable [bc] {X:Cx}
theorem jv {e:Qy} {f:FX} (h:XE X e f):XO X (some e) (kM f):=⟨TG.Jy h.h⟩
end
section
variable [bc] {X:Cx}
theorem iy {e:Qy} {f:FX} {l h:av->R (Option Int)} {lo hi:Option Qy} {p2 pos:Pos} (he:XE X e f) (hl:XO X lo l) (hh:XO X hi h):XE X (.Subscript e (.Slice lo hi none p2) pos) (iI f l h):=⟨TG.Iw he.h hl.h hh.h⟩
end
section
variable [bc] {X:Cx} {x:Str} {p pos:Pos} {e:Qy} {es:List Qy} {id T:String} {g:List D->Option D} {f:av->R (List D)}
theorem bA (hc:eG X (.builtin id) (zT X.K g)) (hg:Gl X x) (hm:X.mg x=none) (hv:Qs x=some (.builtin id)) (ha:XA X (e::es) f) (hn:x ≠ "__name__":=by decide) (hdb:(x==("__debug__":Str))=false:=by decide) (hns:(e::es).all noStar=true:=by rfl):XE X (.Call (.Name x p) (e::es) [] pos) (fL g f):=⟨TG.IY hc hg hm hv ha.h hn hdb hns⟩
end
section
variable [bc] {X:Cx} {x:Str} {p pos:Pos} {e:Qy} {es:List Qy} {id T:String} {g:List D->Option D} {f:av->R (List D)}
theorem bQ (hc:eG X (.type T) (zT X.K g)) (hg:Gl X x) (hm:X.mg x=none) (hv:Qs x=some (.type T)) (ha:XA X (e::es) f) (hn:x ≠ "__name__":=by decide) (hdb:(x==("__debug__":Str))=false:=by decide) (hns:(e::es).all noStar=true:=by rfl):XE X (.Call (.Name x p) (e::es) [] pos) (fL g f):=⟨TG.Hg hc hg hm hv ha.h hn hdb hns⟩
end
section
variable [bc] {X:Cx} {a:Qy} {f:FX} {pos:Pos}
theorem oG (h:XE X a f) (he:∀ whole,isTrue a X.env whole=(do let v <- whole; standAt a.pos; holding [v] (truthy v)):=by intro _; rfl):XT X a (rG f):=⟨TG.IM h.h he⟩
end
section
variable [bc] {X:Cx} {tg:Qy}
theorem cm {e:Qy} {f:FX} (h:XE X e f):XI X tg e (bC f):=⟨TG.Kh h.h⟩
end
section
variable [bc] {X:Cx} {tg:Qy}
theorem dU {a:Qy} {f:av->R (List D)} {p pos:Pos} (hg:Gl X "range") (hm:X.mg "range"=none) (ha:XA X [a] f) (hs:Qz [a] X.env=[(false,eval a X.env)]:=by rfl):XI X tg (.Call (.Name "range" p) [a] [] pos) (dz f):=⟨TG.Hi hg hm ha.h hs⟩
end
section
variable [bc] {X:Cx} {pos:Pos}
theorem aF {i:Nat} {x:Str} (hN:X.N.Nodup) (hi:X.N[i]?=some x) (hx:Loc X.env.scope x) (hf:X.fn x=true\/X.env.scope.names.lookup x=some .local:=by first | exact .inl rfl | exact .inr rfl | assumption):XG X (.Name x pos) (gN i):=⟨TG.JM hN hi hx hf⟩
end
section
variable [bc] {X:Cx} {pos:Pos}
theorem cH :Jv X [] Ck:=⟨TG.Jc ⟩
end
section
variable [bc] {X:Cx} {pos:Pos}
theorem aS {e:Qy} {es:List Qy} {g:GF} {h:Bb} (h1:XG X e g) (h2:Jv X es h) (hs:(assignEach (e::es) X.env).map (·.2)=assign e X.env::(assignEach es X.env).map (·.2):=by rfl):Jv X (e::es) (yt g h):=⟨TG.IB h1.h h2.h hs⟩
end
section
variable [bc] {X:Cx} {pos:Pos}
theorem cY {es:List Qy} {k:Nat} {g:Bb} {n:Nat} (hc:X.calm=true) (h:Jv X es g) (hn:(assignEach es X.env).length=n:=by rfl) (hst:(assignEach es X.env).findIdx? (·.1)=none:=by rfl):XG X (.Tuple es k pos) (gT n g):=⟨TG.J4 hc h.h hn hst⟩
end
section
variable [bc]
theorem cD {X:Cx}:LU X [] cW:=⟨TG.Jw ⟩
end
section
variable [bc]
theorem fE {X:Cx} {c:Qy} {F:av->R Bool} (h:XT X c F):LU X [c] F:=⟨TG.Jj h.h⟩
end
section
variable [bc] {X:Cx} {elt tg iter:Qy} {ifs:List Qy} {scope:Qv} {pos:Pos} {N:List Str} {ix:List (Option Nat)} {G:av->R (List D)} {g:GF} {C:av->R Bool} {Fe:FX}
theorem df (hc:X.calm=true) (ok:nO X scope N ix) (tk:wK ix g) (hi:XI X tg iter G) (hb:G8 X scope N tg elt ifs g C Fe) (hs:∀ x,QJ iter X.env x=pure x:=by intro _; rfl):XE X (.ListComp elt [⟨tg,iter,ifs,0⟩] scope pos) (iW ix G g C Fe):=⟨TG.LW hc ok tk hi.h hb.h hs⟩
end
section
variable [bc] {X:Cx} {st:QA} {rest body:List QA} {pos:Pos}
theorem aI :xk X [] bI:=⟨TG.Jq ⟩
end
section
variable [bc] {X:Cx} {st:QA} {rest body:List QA} {pos:Pos}
theorem ak {F1 F2:ca} (h1:XS X st F1) (h2:xk X rest F2):xk X (st::rest) (aE F1 F2):=⟨TG.Hu h1.h h2.h⟩
end
section
variable [bc] {X:Cx} {st:QA} {rest body:List QA} {pos:Pos}
theorem az {F1:ca} (h1:XS X st F1):xk X [st] F1:=⟨TG.Jr h1.h⟩
end
section
variable [bc] {X:Cx} {st:QA} {rest body:List QA} {pos:Pos}
theorem aT {e:Qy} {f:FX} (h:XE X e f):XS X (.Return (some e) pos) (bT f):=⟨TG.KJ h.h⟩
end
section
variable [bc] {X:Cx} {st:QA} {rest body:List QA} {pos:Pos}
theorem Bs {e:Qy} {f:FX} (h:XE X e f) (hs:swapsWith e none pos.line X.env=pure false:=by rfl):XS X (.Expr e pos) (yy f):=⟨TG.Ju h.h hs⟩
end
section
variable [bc] {X:Cx} {st:QA} {rest body:List QA} {pos:Pos}
theorem bE {c:Qy} {a b:List QA} {tc:av->R Bool} {A B:ca} (hc:XT X c tc) (ha:xk X a A) (hb:xk X b B):XS X (.If c a b pos) (eY tc A B):=⟨TG.Mf hc.h ha.h hb.h⟩
end
section
variable [bc] {X:Cx} {st:QA} {rest body:List QA} {pos:Pos}
theorem aA {i:Nat} {x:Str} {e:Qy} {f:FX} {pos':Pos} (hN:X.N.Nodup) (hi:X.N[i]?=some x) (hx:Loc X.env.scope x) (he:XE X e f) (hs:swapsWith e (some (.Name x pos')) pos.line X.env=pure false:=by rfl) (hf:X.fn x=true\/X.env.scope.names.lookup x=some .local:=by first | exact .inl rfl | exact .inr rfl | assumption):XS X (.Assign [.Name x pos'] e pos) (bi i f):=⟨TG.KY hN hi hx he.h hs hf⟩
end
section
variable [bc] {X:Cx} {st:QA} {rest body:List QA} {pos:Pos}
theorem qO {elt tg iter:Qy} {ifs:List Qy} {scope:Qv} {N:List Str} {ix:List (Option Nat)} {G:av->R (List D)} {g:GF} {C:av->R Bool} {Fe:FX} {i:Nat} {y:Str} {lpos py spos:Pos} (hN:X.N.Nodup) (hi':X.N[i]?=some y) (hx:Loc X.env.scope y) (hc:X.calm=true) (ok:nO X scope N ix) (tk:wK ix g) (hi:XI X tg iter G) (hb:G8 X scope N tg elt ifs g C Fe) (hsw:swapsWith (.ListComp elt [⟨tg,iter,ifs,0⟩] scope lpos) (some (.Name y py)) spos.line X.env=pure true:=by rfl) (hs:∀ x,QJ iter X.env x=pure x:=by intro _; rfl) (hf:X.fn y=true\/X.env.scope.names.lookup y=some .local:=by first | exact .inl rfl | exact .inr rfl | assumption):XS X (.Assign [.Name y py] (.ListComp elt [⟨tg,iter,ifs,0⟩] scope lpos) spos) (bi i (iW ix G g C Fe)):=⟨TG.Mi hN hi' hx hc ok tk hi.h hb.h hsw hs hf⟩
end
section
variable [bc] {X:Cx} {st:QA} {rest body:List QA} {pos:Pos}
theorem DF {tg e:Qy} {f:FX} {g:GF} (he:XE X e f) (hg:XG X tg g) (hs:swapsWithSole [tg] e pos.line X.env=pure false:=by rfl) (hw:swappedStores [tg] e X.env=pure none:=by rfl) (h1:(assignEach [tg] X.env).map (·.2)=[assign tg X.env]:=by rfl):XS X (.Assign [tg] e pos) (D8 f g):=⟨TG.KH he.h hg.h hs hw h1⟩
end
section
variable [bc] {X:Cx} {st:QA} {rest body:List QA} {pos:Pos}
theorem bS {st:List QA} {F:ca} (is:List Nat) (h:xk X st F):xk X st (cI is F):=⟨TG.Io is h.h⟩
end
section
variable [bc] {X:Cx} {st:QA} {rest body:List QA} {pos:Pos}
theorem eX {tg iter:Qy} {G:av->R (List D)} {g:GF} {B:ca} (hp:QI (model X.prog X.w) X.A X.env X.xe) (hc:X.calm=true) (hi:XI X tg iter G) (hg:XG X tg g) (hb:xk X body B) (hs:∀ x,QJ iter X.env x=pure x:=by intro _; rfl):XS X (.For tg iter body [] pos) (jj G g B):=⟨TG.KU hp hc hi.h hg.h hb.h hs⟩
end
section
variable [bc] {X:Cx} {pos:Pos}
theorem qe {es:List Qy} {g:av->R (List D)} (h:XA X es g):XN X (.List es pos) (dN g):=⟨TG.KR h.h⟩
end
section
variable [bc] {X:Cx} {pos:Pos}
theorem wj {x:Str} {p:Pos} {e:Qy} {f:av->R (List D)} (hg:Gl X x) (hm:X.mg x=none) (hv:Qs x=some (.type "list")) (ha:XA X [e] f) (hn:x ≠ "__name__":=by decide) (hdb:(x==("__debug__":Str))=false:=by decide) (hns:noStar e=true:=by rfl):XN X (.Call (.Name x p) [e] [] pos) (fL pH f):=⟨TG.Jb hg hm hv ha.h hn hdb hns⟩
end
section
variable [bc] {X:Cx} {pos:Pos}
theorem t9 :XN X (.Dict [] [] pos) wy:=⟨TG.Ho ⟩
end
section
variable [bc] {X:Cx} {pos:Pos}
theorem fJ {i:Nat} {x:Str} {e:Qy} {f:FX} {pos':Pos} (hN:X.N.Nodup) (hi:X.N[i]?=some x) (hx:Loc X.env.scope x) (he:XN X e f) (hs:swapsWith e (some (.Name x pos')) pos.line X.env=pure false:=by rfl) (hf:X.fn x=true\/X.env.scope.names.lookup x=some .local:=by first | exact .inl rfl | exact .inr rfl | assumption):XS X (.Assign [.Name x pos'] e pos) (lm i f):=⟨TG.Kc hN hi hx he.h hs hf⟩
end
section
variable [bc]
theorem kU {X : Cx} {i : Nat} {x m : Str} {id : String} {r : V -> List V -> Hp -> VK -> Prop} {u : List D -> List D -> Option (List D)} {e : Qy} {es : List Qy} {f : av -> R (List D)} {npos apos cpos pos : Pos} (slot : Slot "list" m id) (hty : typeOf (.builtin id) = pure (.type "method_descriptor")) (hm : GL X id r) (ok : qH X.K r u) (hx : XV X (.Name x npos) i) (he : XA X (e :: es) f) (hbase : QS (.Name x npos) m X.env (eval (.Name x npos) X.env) = eval (.Name x npos) X.env := by rfl) (hfew : ((backTo cpos (Qz (e :: es) X.env)).all (fun x => !x.1) && (backToKw cpos (QU [] X.env)).all (fun x => x.1.isSome)
      && decide ((e::es:List Qy).length+([]:List Q2).length+(if ([]:List Q2).isEmpty then 0 else 1) < 30))=true:=by rfl) (hline:(apos.endLine==cpos.line)=true:=by rfl) (hs:Qz (e::es) X.env=(false,eval e X.env)::Qz es X.env:=by rfl) (hplain:(backTo cpos (Qz es X.env)).any (·.1)=false:=by rfl) (hsw:swapsWith (.Call (.Attribute (.Name x npos) m apos) (e::es) [] cpos) none pos.line X.env=pure false:=by rfl):XS X (.Expr (.Call (.Attribute (.Name x npos) m apos) (e::es) [] cpos) pos) (uz i u f):=⟨TG.LX slot hty hm ok hx.h he.h hbase hfew hline hs hplain hsw⟩
end
section
variable [bc]
theorem eJ {X:Cx} {st:List QA} {F:ca} (i:Nat) (h:xk X st F):xk X st (iS i F):=⟨TG.Jl i h.h⟩
end
section
variable [bc]
theorem Ca {X:Cx} {e:Qy} {f:FX} (is:List Nat) (h:XE X e f):XE X e (sL is f):=⟨TG.JI is h.h⟩
end
section
variable [bc]
theorem kJ {X:Cx} {e:Qy} {f:av->R Bool} (is:List Nat) (h:XT X e f):XT X e (dQ is f):=⟨TG.Je is h.h⟩
end
section
variable [bc]
theorem ay {X:Cx} {k k':Nat} {ps:List Str} {g:List D->R D} {h:av->R (List D)} {x:Str} {p pos:Pos} {e:Qy} {es:List Qy} (C:Callee X.prog X.w X.K X.mg X.base k x ps g) (hn:Ar ps.length g) (hr:fX k' X.A) (hk:k<=k') (ha:XA X (e::es) h) (hg:Gl X x:=by rfl) (hdb:(x==("__debug__":Str))=false:=by decide) (hns:(e::es).all noStar=true:=by rfl):XE X (.Call (.Name x p) (e::es) [] pos) (fR g h):=⟨TG.Hc C hn hr hk ha.h hg hdb hns⟩
end
section
variable [bc] {X:Cx} {a b c:Qy} {fa fb fc:FX} {pos:Pos}
theorem qj (ha:XE X a fa):XE X (.UnaryOp .USub a pos) (pZ fa):=⟨TG.KC ha.h⟩
end
section
variable [bc] {X:Cx} {a b c:Qy} {fa fb fc:FX} {pos:Pos}
theorem ww {x:Str} {i:Int} (hg:Gl X x) (hm:∃ t,X.mg x=some (.int i t)) (hd:(x==("__debug__":Str))=false:=by decide):XE X (.Name x pos) (fC (.int i)):=⟨TG.Jg hg hm hd⟩
end
section
variable [bc] {X:Cx}
theorem nY {a b:Qy} {es:List Qy} {k:Nat} {tpos:Pos} {f:av->R (List D)} {p pos:Pos} (hg:Gl X "zip") (hm:X.mg "zip"=none) (ha:XA X [a,b] f) (hs:Qz [a,b] X.env=(false,eval a X.env)::Qz [b] X.env:=by rfl) (hpl:(backTo pos (Qz [b] X.env)).any (·.1)=false:=by rfl):XI X (.Tuple es k tpos) (.Call (.Name "zip" p) [a,b] [] pos) (vB f):=⟨TG.Kf hg hm ha.h hs hpl⟩
end
section
variable [bc] {X:Cx}
theorem mI {a:Qy} {es:List Qy} {k:Nat} {tpos:Pos} {f:av->R (List D)} {p pos:Pos} (hg:Gl X "enumerate") (hm:X.mg "enumerate"=none) (ha:XA X [a] f) (hs:Qz [a] X.env=(false,eval a X.env)::Qz [] X.env:=by rfl) (hpl:(backTo pos (Qz [] X.env)).any (·.1)=false:=by rfl):XI X (.Tuple es k tpos) (.Call (.Name "enumerate" p) [a] [] pos) (gz f):=⟨TG.DU hg hm ha.h hs hpl⟩
end
section
variable [bc] {X:Cx} {a o e:Qy} {es:List Qy} {fa fo:FX} {fas:av->R (List D)} {f m x:Str} {cs:List Str} {pos apos p:Pos} {k k':Nat} {ps:List Str}
theorem y8 (ok:zf X.K f cs) (h:XE X a fa) (hb:QS a f X.env (eval a X.env)=eval a X.env:=by rfl):XE X (.Attribute a f pos) (f1 (BM f cs) fa):=⟨TG.Lp ok h.h hb⟩
end
section
variable [bc] {X:Cx} {a o e:Qy} {es:List Qy} {fa fo:FX} {fas:av->R (List D)} {f m x:Str} {cs:List Str} {pos apos p:Pos} {k k':Nat} {ps:List Str}
theorem Bi {tbl : List (Str × (List D -> R D))} {pl : Sem Bool} (tb : pR X.prog X.w X.K X.mg X.base k m ps tbl) (hr : fX k' X.A) (hk : k <= k') (ho : XE X o fo) (ha : XA X (e :: es) fas) (hns : (e :: es).all noStar = true := by rfl) (ht : eval (.Call (.Attribute o m apos) (e :: es) [] pos) X.env = (do
      let ov <- eval o X.env
      standAt apos.atName
      let (f,first) <- holding [ov] (getMethod ov m pl)
      QT pos f first (backTo pos (Qz (e::es) X.env)) (backToKw pos (QU [] X.env))):=by rfl):XE X (.Call (.Attribute o m apos) (e::es) [] pos) (uf m tbl fo fas):=⟨TG.JC tb hr hk ho.h ha.h hns ht⟩
end
section
variable [bc] {X:Cx} {a o e:Qy} {es:List Qy} {fa fo:FX} {fas:av->R (List D)} {f m x:Str} {cs:List Str} {pos apos p:Pos} {k k':Nat} {ps:List Str}
theorem Ec {c:Str} {fs:List Str} (IA:rF X.prog X.w X.K X.mg X.base k c ps fs) (hr:fX k' X.A) (hk:k+1<=k') (hg:Gl X c) (ha:XA X (e::es) fas) (hdb:(c==("__debug__":Str))=false:=by decide) (hns:(e::es).all noStar=true:=by rfl):XE X (.Call (.Name c p) (e::es) [] pos) (fNew c fs fas):=⟨TG.Ka IA hr hk hg ha.h hdb hns⟩
end
section
variable [bc]
theorem Dm {X:Cx} {i:Nat} {x m:Str} {id:String} {r:V->List V->Hp->VK->Prop} {u:List D->List D->Option (List D)} {npos apos cpos pos:Pos} (slot:Slot "list" m id) (hty:typeOf (.builtin id)=pure (.type "method_descriptor")) (hm:GL X id r) (ok:qH X.K r u) (hx:XV X (.Name x npos) i) (hbase:QS (.Name x npos) m X.env (eval (.Name x npos) X.env)=eval (.Name x npos) X.env:=by rfl) (hline:(apos.endLine==cpos.line)=true:=by rfl) (hsw:swapsWith (.Call (.Attribute (.Name x npos) m apos) [] [] cpos) none pos.line X.env=pure false:=by rfl):XS X (.Expr (.Call (.Attribute (.Name x npos) m apos) [] [] cpos) pos) (uz i u au):=⟨TG.K8 slot hty hm ok hx.h hbase hline hsw⟩
end
section
variable [bc] {X:Cx} {pos:Pos}
theorem iF {x:Str} {e:Qy} {es:List Qy} {f:av->R (List D)} {np cpos:Pos} (hc:X.calm=true) (hx:ExcAt X.K X.mg x) (hg:Gl X x) (ha:XA X (e::es) f) (hdb:(x==("__debug__":Str))=false:=by decide) (hns:(e::es).all noStar=true:=by rfl):XS X (.Raise (some (.Call (.Name x np) (e::es) [] cpos)) none pos) (ke x f):=⟨TG.HE hc hx hg ha.h hdb hns⟩
end
section
variable [bc] {X:Cx} {p pos:Pos} {e:Qy}
theorem bK {f:FX} {x:Str} {p2:Pos} {tbl:List (Str×Bool)} (h:bZ X.K X.mg x tbl) (hg:Gl X "isinstance") (hm:X.mg "isinstance"=none) (hgx:Gl X x) (he:XE X e f) (hd2:(x==("__debug__":Str))=false:=by decide) (hns:noStar e=true:=by rfl):XE X (.Call (.Name "isinstance" p) [e,.Name x p2] [] pos) (f1 (eQ tbl) f):=⟨TG.Js h hg hm hgx he.h hd2 hns⟩
end
section
variable [bc] {X:Cx} {p pos:Pos} {e:Qy}
theorem tK {f:FX} {x:Str} {T:String} {p2:Pos} {tbl:List (Str×Bool)} (h:rV X.K (.type T) tbl) (hg:Gl X "isinstance") (hm:X.mg "isinstance"=none) (hgx:Gl X x) (hmx:X.mg x=none) (hv:Qs x=some (.type T)) (he:XE X e f) (hn2:x ≠ "__name__":=by decide) (hd2:(x==("__debug__":Str))=false:=by decide) (hns:noStar e=true:=by rfl):XE X (.Call (.Name "isinstance" p) [e,.Name x p2] [] pos) (f1 (eQ tbl) f):=⟨TG.Ie h hg hm hgx hmx hv he.h hn2 hd2 hns⟩
end
section
variable [bc] {X:Cx} {p pos kp:Pos} {e:Qy}
theorem C6 {f:FX} {i:Int} {j:Nat} {cp:Pos} (hc:X.calm=true) (hg:Gl X "max") (hm:X.mg "max"=none) (he:XE X e f) (hns:noStar e=true:=by rfl):XE X (.Call (.Name "max" p) [e] [⟨some "default",.Constant (.int i) j cp,kp⟩] pos) (f1 (rq i) f):=⟨TG.Jz hc hg hm he.h hns⟩
end
section
variable [bc] {X:Cx} {p pos:Pos} {e:Qy}
theorem sZ {a e : Qy} {fa : FX} {fs : av -> R (List D)} {apos cpos : Pos} (hu : X.A.units + 64 < QW) (ha : XE X a fa) (hs : XA X [e] fs) (hbase : QS a "index" X.env (eval a X.env) = eval a X.env := by rfl) (hfew : ((backTo cpos (Qz [e] X.env)).all (fun x => !x.1) && (backToKw cpos (QU [] X.env)).all (fun x => x.1.isSome)
      && decide (([e]:List Qy).length+([]:List Q2).length+(if ([]:List Q2).isEmpty then 0 else 1) < 30))=true:=by rfl) (hline:(apos.endLine==cpos.line)=true:=by rfl) (hst:Qz [e] X.env=(false,eval e X.env)::Qz [] X.env:=by rfl) (hplain:(backTo cpos (Qz [] X.env)).any (·.1)=false:=by rfl):XE X (.Call (.Attribute a "index" apos) [e] [] cpos) (xR fa fs):=⟨TG.IR hu ha.h hs.h hbase hfew hline hst hplain⟩
end
section
variable [bc] {X:Cx}
theorem vk {a b:Qy} {fa fb:FX} {pos:Pos} (ha:XE X a fa) (hb:XE X b fb):XN X (.BinOp a .Add b pos) (f2 tV fa fb):=⟨TG.LV ha.h hb.h⟩
end
section
variable [bc]
theorem rE {X:Cx} {i:Nat} {x:Str} {idx value:Qy} {fk fv:FX} {npos tpos pos:Pos} (hu:X.A.units+64 < QW) (hx:XV X (.Name x npos) i) (hi:XE X idx fk) (hv:XE X value fv) (hs:swapsWith value (some (.Subscript (.Name x npos) idx tpos)) pos.line X.env=pure false:=by rfl):XS X (.Assign [.Subscript (.Name x npos) idx tpos] value pos) (ky i fk fv):=⟨TG.Ji hu hx.h hi.h hv.h hs⟩
end
section
variable [bc] {X:Cx}
theorem tm {a e : Qy} {fa : FX} {fs : av -> R (List D)} {apos cpos : Pos} (hu : X.A.units + 64 < QW) (ha : XE X a fa) (hs : XA X [e] fs) (hbase : QS a "count" X.env (eval a X.env) = eval a X.env := by rfl) (hfew : ((backTo cpos (Qz [e] X.env)).all (fun x => !x.1) && (backToKw cpos (QU [] X.env)).all (fun x => x.1.isSome)
      && decide (([e]:List Qy).length+([]:List Q2).length+(if ([]:List Q2).isEmpty then 0 else 1) < 30))=true:=by rfl) (hline:(apos.endLine==cpos.line)=true:=by rfl) (hst:Qz [e] X.env=(false,eval e X.env)::Qz [] X.env:=by rfl) (hplain:(backTo cpos (Qz [] X.env)).any (·.1)=false:=by rfl):XE X (.Call (.Attribute a "count" apos) [e] [] cpos) (ya fa fs):=⟨TG.Ig hu ha.h hs.h hbase hfew hline hst hplain⟩
end
section
variable [bc]
theorem v7 {X:Cx} {k k':Nat} {ps:List Str} {g:List D->R D} {h:av->R (List D)} {x:Str} {p pos:Pos} {e:Qy} {es:List Qy} (C:qk X.prog X.w X.K X.mg X.base k x ps g) (hn:Ar ps.length g) (hr:iL k' X.A) (hk:k<=k') (ha:XA X (e::es) h) (hg:Gl X x:=by rfl) (hdb:(x==("__debug__":Str))=false:=by decide) (hns:(e::es).all noStar=true:=by rfl):XE X (.Call (.Name x p) (e::es) [] pos) (fR g h):=⟨TG.G6 C hn hr hk ha.h hg hdb hns⟩
end
section
variable [bc]
theorem n6 {X:Cx} {x:Str} {b:Qy} {i:Nat} {fk:FX} {npos pos:Pos} (hx:XV X (.Name x npos) i) (hb:XE X b fk) (hs:nK b):XE X (.Subscript (.Name x npos) b pos) (j6 i fk):=⟨TG.Ke hx.h hb.h hs⟩
end
section
variable [bc]
theorem Au {X:Cx} {e:Qy} {f:FX} (is:List Nat) (h:XN X e f):XN X e (oN is f):=⟨TG.HU is h.h⟩
end
theorem DY {X:Cx} {pos:Pos} {body suite:List QA} {b₀:QA} {g n:Str} {gp hpos:Pos} {F Fh:ca} {cs:List Str} {i:Nat} (hx:X.ex=[]) (hst:X.stack=X.env::X.outer) (hf:X.env.frame=some X.env.locals) (hfn:∀ x,X.fn x=true)
  (hT:wl X.K X.mg g cs) (hg:Gl X g) (hN:X.N.Nodup) (hi:X.N[i]?=some n) (hl:X.env.scope.names.lookup n=some .local)
  (hb:∀ E pn,QI (model X.prog X.w) X.A X.env E->xk (wf X E pn) body F) (hs:∀ A pn,A.depth=X.A.depth->A.units=X.A.units->xk (rB X A pn) (b₀::suite) Fh) (hdb:(g==("__debug__":Str))=false:=by decide) :
  XS X (.Try body [.ExceptHandler (some (.Name g gp)) (some n) (b₀::suite) hpos] [] [] pos) (Dt cs i F Fh):=⟨TG.Lr hx hst hf hfn hT hg hN hi hl (fun E pn hp=>(hb E pn hp).h) (fun A pn h1 h2=>(hs A pn h1 h2).h) hdb⟩
abbrev Lk (K:O2) (f:Qo) (nm qual:Str) (st:QA) (oc:Ql) (od:Option Qo) (kV dc pm:Ql) (an:Option Qo) (cd ct:Ql) (sl:Array (Option Ql)):Prop:=K.lookup f=some ⟨oc,od,.func (Pp nm qual (lG st) (eF st) (aB st) .none kV dc pm an cd ct),sl⟩
structure cV (P:Qn) (w:Qm) (K:O2) (mg:Str->Option Ql) (base:Qp) (k:Nat) (N:List Str) (qual:Str) (st:QA) (f:Qo) (B:ca):Prop where
 h:∀ (cdv:Ql) (A:Qt) (outer:List Env) (s:Qu) (H:Hp) (E:XK),fX k (A.deeper (P0 qual (aB st) s.heap.objs.size f cdv))->QI (model P w) (A.deeper (P0 qual (aB st) s.heap.objs.size f cdv)) (P0 qual (aB st) s.heap.objs.size f cdv) (kB (nc P w) P w K mg base N qual (aB st) f cdv A outer s H E).xe ->
  xk (kB (nc P w) P w K mg base N qual (aB st) f cdv A outer s H E) (eF st) B
structure BC (P:Qn) (w:Qm) (K:O2) (mg:Str->Option Ql) (base:Qp) (k:Nat) (N:List Str) (qual:Str) (st:QA) (f:Qo) (B:ca):Prop where
 h:∀ (cdv:Ql) (A:Qt) (outer:List Env) (s:Qu) (H:Hp) (E:XK),iL k (A.deeper (P0 qual (aB st) s.heap.objs.size f cdv))->QI (model P w) (A.deeper (P0 qual (aB st) s.heap.objs.size f cdv)) (P0 qual (aB st) s.heap.objs.size f cdv) (ER P w K mg base N qual (aB st) f cdv A outer s H E).xe ->
  xk (ER P w K mg base N qual (aB st) f cdv A outer s H E) (eF st) B
theorem BC.ok {P:Qn} {w:Qm} {K:O2} {mg:Str->Option Ql} {base:Qp} {k:Nat} {N:List Str} {qual:Str} {st:QA} {f:Qo} {B:ca} (h:BC P w K mg base k N qual st f B):uW P w K mg base k N qual st f B:=⟨fun cdv A outer s H E hr hp=>(h.h cdv A outer s H E hr hp).h⟩
theorem cV.ok {P:Qn} {w:Qm} {K:O2} {mg:Str->Option Ql} {base:Qp} {k:Nat} {N:List Str} {qual:Str} {st:QA} {f:Qo} {B:ca} (h:cV P w K mg base k N qual st f B):BodyOk P w K mg base k N qual st f B:=⟨fun cdv A outer s H E hr hp=>(h.h cdv A outer s H E hr hp).h⟩
end TX
namespace TG
open L2
instance (priority:=low) noTabs:bc:=⟨fun _=>True,fun _ _=>trivial,fun _ _ _=>trivial⟩
end TG
namespace TG
open PySem PySem.Spec L2
theorem nr {α:Sort _} {a b:α} (h:a=b):a=b:=h
theorem eM {α β:Type} (a:α) (f:α->R β):Except.bind (Except.ok a:R α) f=f a:=nr rfl
theorem tY {α β:Type} (x:Option Ex) (f:α->R β):Except.bind (Except.error x:R α) f=.error x:=nr rfl
theorem nQ {α:Type} (a:α) (k:Ks) (ρ:av) (f:α->R D):p9 (.ok a) k ρ f=f a:=nr rfl
theorem sO {α:Type} (x:Ex) (k:Ks) (ρ:av) (f:α->R D):p9 (.error (some x)) k ρ f=k.ex x ρ:=nr rfl
theorem mJ {α:Type} (a:α):xc (.ok a:R α)=.ok a:=nr rfl
theorem eT {α:Type} (a:α):rO (some a)=.ok a:=nr rfl
theorem ge_0 (d:D) (ρ:av):qQ (some (.val d)::ρ) 0=.ok d:=nr rfl
theorem A4 (x:Option S) (ρ:av) (i:Nat):qQ (x::ρ) (i+1)=qQ ρ i:=by
 unfold qQ; rw [N4]
theorem o6 (i:Nat) (ρ:av):ai i ρ=qQ ρ i:=nr rfl
theorem Aa (d:D) (ρ:av):fC d ρ=.ok d:=nr rfl
theorem oV (ρ:av):au ρ=.ok []:=nr rfl
theorem lL (f:FX) (g:av->R (List D)) (ρ:av):af f g ρ=(f ρ).bind fun x=>(g ρ).bind fun xs=>.ok (x::xs):=nr rfl
theorem ph (g:av->R (List D)) (ρ:av):bb g ρ=(g ρ).bind fun xs=>rO (tO xs):=nr rfl
theorem oZ (g:av->R (List D)) (ρ:av):dN g ρ=(g ρ).bind fun xs=>rO (ia xs):=nr rfl
theorem zR (g:D->Option D) (f:FX) (ρ:av):f1 g f ρ=(f ρ).bind fun a=>rO (g a):=nr rfl
theorem zY (g:D->D->Option D) (f h:FX) (ρ:av):f2 g f h ρ=(f ρ).bind fun a=>(h ρ).bind fun b=>rO (g a b):=nr rfl
theorem AO (f:FX) (ρ:av):fB f ρ=(f ρ).bind fun d=>rO (Ko d):=nr rfl
theorem zP (g:List D->Option D) (f:av->R (List D)) (ρ:av):fL g f ρ=(f ρ).bind fun ds=>rO (g ds):=nr rfl
theorem zV (g:List D->R D) (f:av->R (List D)) (ρ:av):fR g f ρ=(f ρ).bind g:=nr rfl
theorem pc (f:av->R Bool) (ρ:av):Ee f ρ=(f ρ).bind fun b=>.ok (!b):=nr rfl
theorem pA (f g:av->R Bool) (ρ:av):nB f g ρ=(f ρ).bind fun b=>if b then g ρ else .ok false:=nr rfl
theorem sX (f g:av->R Bool) (ρ:av):xW f g ρ=(f ρ).bind fun b=>if b then .ok true else g ρ:=nr rfl
theorem jU (f:FX) (ρ:av):rG f ρ=(f ρ).bind fun d=>rO (truth d):=nr rfl
theorem lV (f g:FX) (ρ:av):Hl f g ρ=(f ρ).bind fun d=>yd d (g ρ):=nr rfl
theorem oQ (f g:FX) (ρ:av):LN f g ρ=(f ρ).bind fun d=>Ij d (g ρ):=nr rfl
theorem lx (f:FX) (ρ:av):HS f ρ=(f ρ).bind fun a=>rO (FZ a):=nr rfl
theorem tX (t:av->R Bool) (f g:FX) (ρ:av):Hm t f g ρ=(t ρ).bind fun c=>if c then f ρ else g ρ:=nr rfl
theorem oS (T:String) (f:FX) (ρ:av):J3 T f ρ=(f ρ).bind fun a=>rO (IK T a):=nr rfl
theorem oF (f:FX) (ρ:av):Lx f ρ=(f ρ).bind fun a=>.ok (.bl (isNon a)):=nr rfl
theorem ly (f:FX) (ρ:av):Ih f ρ=(f ρ).bind fun a=>.ok (.bl (!isNon a)):=nr rfl
theorem oK (f:FX) (ρ:av):pZ f ρ=(f ρ).bind fun a=>rO (GW a):=nr rfl
theorem jC (f:FX) (ρ:av):GH f ρ=(f ρ).bind fun a=>rO (BD a):=nr rfl
theorem o8 (f:FX) (ρ:av):K6 f ρ=(f ρ).bind fun a=>rO (GK a):=nr rfl
theorem ju (g g':D->D->Option D) (fa fb fc:FX) (ρ:av):G3 g g' fa fb fc ρ=(fa ρ).bind fun x=>(fb ρ).bind fun y=>(rO (g x y)).bind fun z=>yd z ((fc ρ).bind fun w=>rO (g' y w)):=nr rfl
theorem jF (f:FX) (ρ:av):bC f ρ=(f ρ).bind fun d=>rO (rQ d):=nr rfl
theorem iC (f:av->R (List D)) (ρ:av):dz f ρ=(f ρ).bind fun ds=>rO (jf ds):=nr rfl
theorem iw (f:av->R (List D)) (ρ:av):D9 f ρ=(f ρ).bind fun ds=>rO (yC ds):=nr rfl
theorem pD (f:av->R (List D)) (ρ:av):vB f ρ=(f ρ).bind fun ds=>rO (yv ds):=nr rfl
theorem lQ (f:av->R (List D)) (ρ:av):gz f ρ=(f ρ).bind fun ds=>rO (ug ds):=nr rfl
theorem pf (z:Str):MB (.str z)=some z:=nr rfl
theorem iA (ρ:av):fT ρ=.ok none:=nr rfl
theorem mh (f:FX) (ρ:av):kM f ρ=(f ρ).bind fun d=>rO (yf d):=nr rfl
theorem jx (f:FX) (l h:av->R (Option Int)) (ρ:av):iI f l h ρ=(f ρ).bind fun a=>(l ρ).bind fun lo=>(h ρ).bind fun hi=>rO (qN a lo hi):=nr rfl
theorem mr (ρ:av):cW ρ=.ok true:=nr rfl
theorem lJ (k:Ks) (ρ:av):bI k ρ=k.nx ρ:=nr rfl
theorem fD (A B:ca) (k:Ks) (ρ:av):aE A B k ρ=A { k with nx:=B k } ρ:=nr rfl
theorem lX (f:FX) (k:Ks) (ρ:av):bT f k ρ=p9 (f ρ) k ρ .ok:=nr rfl
theorem jL (k:Ks) (ρ:av):Hv k ρ=.ok .non:=nr rfl
theorem kO (c:av->R Bool) (A B:ca) (k:Ks) (ρ:av):eY c A B k ρ=p9 (c ρ) k ρ fun b=>if b then A k ρ else B k ρ:=nr rfl
theorem lP (i:Nat) (f:FX) (k:Ks) (ρ:av):bi i f k ρ=p9 (f ρ) k ρ fun d=>k.nx (setV i d ρ):=nr rfl
theorem jt (is:List Nat) (F:ca) (k:Ks) (ρ:av):cI is F k ρ=F k (kill is ρ):=nr rfl
theorem iq (G:av->R (List D)) (g:GF) (B:ca) (k:Ks) (ρ:av):jj G g B k ρ=p9 (G ρ) k ρ fun ds=>eZ g B k ds ρ:=nr rfl
theorem zW (d:D) (x:Option S) (ρ:av):setV 0 d (x::ρ)=some (.val d)::ρ:=nr rfl
theorem AC (i:Nat) (d:D) (x:Option S) (ρ:av):setV (i+1) d (x::ρ)=x::setV i d ρ:=nr rfl
theorem oy (ρ:av):kill [] ρ=ρ:=nr rfl
theorem lF (i:Nat) (is:List Nat) (ρ:av):kill (i::is) ρ=kill is (ρ.set i none):=nr rfl
theorem iU (B:ca) (n:Nat) (a:D):bv B 1 n [a]=B K0 (env0 n [a]):=nr rfl
theorem mV (B:ca) (n:Nat) (a b:D):bv B 2 n [a,b]=B K0 (env0 n [a,b]):=nr rfl
theorem gD (B:ca) (n:Nat) (a b c:D):bv B 3 n [a,b,c]=B K0 (env0 n [a,b,c]):=nr rfl
theorem Cj (B:ca) (n:Nat) (a b c d:D):bv B 4 n [a,b,c,d]=B K0 (env0 n [a,b,c,d]):=nr rfl
theorem o5 (ρ:av):inB [] ρ=[]:=nr rfl
theorem ml (ix:List (Option Nat)) (ρ:av):inB (none::ix) ρ=none::inB ix ρ:=nr rfl
def pick (ρ:av) (i:Nat):Option S:=match ρ[i]? with
 | some (some (.val d))=>some (.val d)
 | _=>none
theorem lW (i:Nat) (ix:List (Option Nat)) (ρ:av):inB (some i::ix) ρ=pick ρ i::inB ix ρ:=nr rfl
theorem A0 (d:D) (ρ:av):pick (some (.val d)::ρ) 0=some (.val d):=rfl
theorem Ay (x:Option S) (ρ:av) (i:Nat):pick (x::ρ) (i+1)=pick ρ i:=by
 unfold pick; rw [N4]
theorem lR (i:Nat) (f:FX) (k:Ks) (ρ:av):lm i f k ρ=p9 (f ρ) k ρ fun d=>k.nx (ρ.set i (some (.own d))):=nr rfl
theorem lD (i:Nat) (F:ca) (k:Ks) (ρ:av):iS i F k ρ=F k (frz i ρ):=nr rfl
theorem Ai (d:D) (ρ:av):frz 0 (some (.own d)::ρ)=some (.val d)::ρ:=nr rfl
theorem tH (d:D) (ρ:av):frz 0 (some (.val d)::ρ)=some (.val d)::ρ:=nr rfl
theorem Ae (i:Nat) (x:Option S) (ρ:av):frz (i+1) (x::ρ)=x::frz i ρ:=by
 unfold frz
 rw [N4]
 split <;> rename_i h
 ·rw [h]; rfl
 ·rfl
theorem mY (i:Nat) (u:List D->List D->Option (List D)) (f:av->R (List D)) (k:Ks) (ρ:av) {xs:List D} (h:ρ[i]?=some (some (.own (.lst xs)))):uz i u f k ρ=p9 (f ρ) k ρ fun ds=>(rO (u xs ds)).bind fun ys=>k.nx (ρ.set i (some (.own (.lst ys)))):=by
 unfold uz; rw [h]
theorem qx {xs:List D} {y:D} (h:xs.length < 100000):jV xs [y]=some (xs++[y]):=by
 show (if small (xs.length+1) then some (xs++[y]) else none)=_
 rw [dW ‹0›]; rfl
theorem pB (i j:Int):bD (.int i) (.int j)=some (.int (i+j)):=nr rfl
theorem oI (i j:Int):TG.wQ (.int i) (.int j)=some (.int (i - j)):=nr rfl
theorem sM (i j:Int):Mr (.int i) (.int j)=some (.bl (decide (i < j))):=nr rfl
theorem oE (i j:Int):sr (.int i) (.int j)=some (.bl (decide (i < j))):=nr rfl
theorem oW (x y:Str):sr (.str x) (.str y)=some (.bl (decide (x.cps.toList < y.cps.toList))):=nr rfl
theorem oC (c d:Bool):LD (.bl c) (.bl d)=some (.bl (c==d)):=nr rfl
theorem ir (c d:Bool):DH (.bl c) (.bl d)=some (.bl (!(c==d))):=nr rfl
theorem tJ (i j:Int):JK (.int i) (.int j)=some (.bl (decide (i<=j))):=nr rfl
theorem tG (i j:Int):Ba (.int i) (.int j)=some (.bl (decide (j < i))):=nr rfl
theorem ua (i j:Int):J9 (.int i) (.int j)=some (.bl (decide (j<=i))):=nr rfl
theorem oA (i:Int):GW (.int i)=some (.int (-i)):=nr rfl
theorem bz {i j:Int} (h:0 < j):bN (.int i) (.int j)=some (.int (i%j)):=by
 show (if decide (0 < j) then some (D.int (i%j)) else none)=_
 rw [decide_eq_true h]; rfl
theorem bO {i j:Int} (h:0 < j) (h':j < 10 ^ 200):cx (.int i) (.int j)=some (.int (i / j)):=by
 show (if decide (0 < j/\j < 10 ^ 200) then some (D.int (i / j)) else none)=_
 rw [decide_eq_true ⟨h,h'⟩]; rfl
theorem qm {i j:Int} (h:-(2 ^ 64) < i) (h':i < 2 ^ 64):mC (.int i) (.int j)=some (.int (i*j)):=by
 show (if decide ((-(2 ^ 64) < i/\i < 2 ^ 64)\/(-(2 ^ 64) < j/\j < 2 ^ 64)) then some (D.int (i*j)) else none)=_
 rw [decide_eq_true (.inl ⟨h,h'⟩)]; rfl
theorem lA {i j:Int} (h:-(2 ^ 64) < j) (h':j < 2 ^ 64):mC (.int i) (.int j)=some (.int (i*j)):=by
 show (if decide ((-(2 ^ 64) < i/\i < 2 ^ 64)\/(-(2 ^ 64) < j/\j < 2 ^ 64)) then some (D.int (i*j)) else none)=_
 rw [decide_eq_true (.inr ⟨h,h'⟩)]; rfl
theorem ut (i:Int) (n:Nat) (h:n<=1000000) (h':i.natAbs < 2 ^ 64):j5 (.int i) (.int n)=some (.int (i ^ n)):=by
 show (if decide (0<=(n:Int)/\(n:Int)<=1000000/\i.natAbs < 2 ^ 64) then some (D.int (i ^ (n:Int).toNat)) else none)=_
 rw [decide_eq_true ⟨by omega,by omega,h'⟩]; rfl
theorem CC:j5 (.int 10) (.int 59)=some (.int (10 ^ 59)):=ut 10 59 (by decide) (by decide)
def xh:Int:=10 ^ 59
def Mu:Int:=10 ^ 60
theorem B7:1000000 < xh/\xh*10=Mu:=by decide +kernel
theorem vg:j5 (.int 10) (.int 59)=some (.int xh):=CC
theorem jI (i j:Int):dL (.int i) (.int j)=some (.bl (i==j)):=by unfold dL pyEq; rfl
theorem jT (i j:Str):dL (.str i) (.str j)=some (.bl (i==j)):=by unfold dL pyEq; rfl
theorem jO (i j:Bool):dL (.bl i) (.bl j)=some (.bl (i==j)):=by unfold dL pyEq; rfl
theorem jM (i j:Int):uh (.int i) (.int j)=some (.bl (!(i==j))):=by unfold uh pyEq; rfl
theorem jy (i j:Str):uh (.str i) (.str j)=some (.bl (!(i==j))):=by unfold uh pyEq; rfl
theorem jR (i j:Bool):uh (.bl i) (.bl j)=some (.bl (!(i==j))):=by unfold uh pyEq; rfl
theorem GQ {α:Type} (xs:List α) (n:Nat):nF xs (n:Int)=xs[n]?:=by
 unfold nF uy
 rw [if_pos ‹0›]
 by_cases h:n < xs.length
 ·rw [if_pos ‹0›]; rfl
 ·rw [if_neg ‹0›,OB ‹0›]; rfl
theorem AB {α:Type} (a:α) (xs:List α):nF (a::xs) 0=some a:=GQ (a::xs) 0
theorem zO {α:Type} (a:α) (xs:List α) (n:Nat):nF (a::xs) ((n+1:Nat):Int)=nF xs (n:Int):=by
 rw [GQ,GQ,N4]
theorem Kj (xs:List D) (i:Int):aw (.tup xs) (.int i)=nF xs i:=nr rfl
theorem xS (xs:List D) (i:Int):aw (.lst xs) (.int i)=nF xs i:=nr rfl
theorem kQ (a:D) (xs:List D):aw (.tup (a::xs)) (.int 0)=some a:=AB a xs
theorem rH (a b:D) (xs:List D):aw (.tup (a::b::xs)) (.int 1)=some b:=(zO a _ 0).trans (AB b xs)
theorem sV (a b c:D) (xs:List D):aw (.tup (a::b::c::xs)) (.int 2)=some c:=(zO a _ 1).trans ((zO b _ 0).trans (AB c xs))
theorem ui (a:D) (xs:List D):aw (.lst (a::xs)) (.int 0)=some a:=AB a xs
theorem tM (a b:D) (xs:List D):aw (.lst (a::b::xs)) (.int 1)=some b:=(zO a _ 0).trans (AB b xs)
theorem ue (a b c:D) (xs:List D):aw (.lst (a::b::c::xs)) (.int 2)=some c:=(zO a _ 1).trans ((zO b _ 0).trans (AB c xs))
theorem jS (xs:List D):fW [.lst xs]=some (.int xs.length):=nr rfl
theorem jN (xs:List D):fW [.tup xs]=some (.int xs.length):=nr rfl
theorem gK (xs:List D):cg [.lst xs]=some (.tup xs):=nr rfl
theorem gr (xs:List D):cg [.tup xs]=some (.tup xs):=nr rfl
theorem o9 (b:Bool):Ko (.bl b)=some b:=nr rfl
theorem iE (i:Int):yf (.int i)=some (some i):=nr rfl
theorem gI (b:Bool):truth (.bl b)=some b:=nr rfl
theorem gC (xs:List D):truth (.tup xs)=some (!xs.isEmpty):=nr rfl
theorem gE (xs:List D):truth (.lst xs)=some (!xs.isEmpty):=nr rfl
theorem o4 (i j:Int):rT [.int i,.int j]=some (.int (if j > i then j else i)):=nr rfl
theorem mX (i j:Int):pJ [.int i,.int j]=some (.int (if j < i then j else i)):=nr rfl
theorem gh (xs:List D):rQ (.lst xs)=some xs:=nr rfl
theorem gd (xs:List D):rQ (.tup xs)=some xs:=nr rfl
theorem jA (k:R D):yd (.bl true) k=k:=nr rfl
theorem jr (k:R D):yd (.bl false) k=.ok (.bl false):=nr rfl
theorem my (k:R D):Ij (.bl true) k=.ok (.bl true):=nr rfl
theorem me (k:R D):Ij (.bl false) k=k:=nr rfl
theorem jw (a b:Bool):yd (.bl a) (.ok (.bl b))=.ok (.bl (a && b)):=by cases a <;> rfl
theorem lE (a b:Bool):Ij (.bl a) (.ok (.bl b))=.ok (.bl (a || b)):=by cases a <;> rfl
theorem oz (b:Bool):FZ (.bl b)=some (.bl (!b)):=nr rfl
theorem pF (xs:List D):GK (.lst xs)=some (.lst xs.reverse):=nr rfl
theorem fe (n:Nat) (h:n < 2 ^ 62):jf [.int n]=some (eI 0 n):=by
 show (if okR (n:Int) then some (eI 0 ((n:Int).toNat)) else none)=_
 have:okR (n:Int)=true:=decide_eq_true ⟨by omega,by omega⟩
 rw [this]; rfl
theorem ym {xs:List D} (h:xs.length<=100000):ia xs=some (.lst xs):=by unfold ia; rw [dW h]; rfl
theorem lS {α:Type} (f:α->D) (h:∀ a,pl (f a)=true):∀ xs:List α,iY (xs.map f)=true
 | []=>rfl
 | x::xs=>by
  show (pl (f x) && iY (xs.map f))=true
  rw [h,lS f h xs]; rfl
theorem D7 (f:Str->D) (hf:f=D.str) (w:Str) (ws:List Str):inD (.str w) (ws.map f)=ws.any fun y=>y==w:=by
 subst hf
 unfold inD
 rw [Oz]
 congr 1
theorem uL (w:Str) (ws:List Str):Cr (.str w) (.tup (ws.map .str))=some (.bl (ws.contains w)):=by
 show (if (pl (.str w) && iY (ws.map .str)) && cO 8 (.str w) then some (D.bl (inD (.str w) (ws.map .str))) else none)=_
 rw [D7 _ rfl,lS _ fun _=>rfl]
 show some (D.bl _)=_
 congr 2
 induction ws with
 | nil=>rfl
 | cons x xs ih=>rw [Nn,Oa,ih,Bool.beq_comm]
theorem yB (w:Str) (ws:List Str):Cr (.str w) (.lst (ws.map .str))=some (.bl (ws.contains w)):=uL w ws
theorem vS (xs ys:List D) (h:xs.length+ys.length<=100000):bD (.lst xs) (.lst ys)=some (.lst (xs++ys)):=by
 show (if small (xs.length+ys.length) then some (D.lst (xs++ys)) else none)=_
 rw [dW h]; rfl
theorem eK (xs ys:List D) (h:xs.length+ys.length<=100000):bD (.tup xs) (.tup ys)=some (.tup (xs++ys)):=by
 show (if small (xs.length+ys.length) then some (D.tup (xs++ys)) else none)=_
 rw [dW h]; rfl
theorem lM (xs:List D) (lo hi:Option Int):qN (.lst xs) lo hi=some (.lst (cutD xs lo hi)):=nr rfl
theorem mw (xs:List D) (lo hi:Option Int):qN (.tup xs) lo hi=some (.tup (cutD xs lo hi)):=nr rfl
theorem eS {ix:List (Option Nat)} {G:av->R (List D)} {g:GF} {C:av->R Bool} {Fe:FX} {ρ:av} {ds r:List D} (h1:G ρ=.ok ds) (h2:ds.length<=100000) (h3:Bc (inB ix ρ) g C Fe ds=.ok r):iW ix G g C Fe ρ=.ok (.lst r):=by
 unfold iW
 rw [h1,eM,dW h2,h3]; rfl
theorem gB {α:Type} {ρ:av} {g:GF} {C:av->R Bool} {Fe:FX} (mk:α->D) (p:α->Bool) (v:α->D):∀ xs:List α,(∀ a∈xs,∃ ρ1,g (mk a) ρ=some ρ1/\C ρ1=.ok (p a)/\Fe ρ1=.ok (v a)) ->
  Bc ρ g C Fe (xs.map mk)=.ok ((xs.filter p).map v)
 | [],_=>rfl
 | a::xs,h=>by
  obtain⟨ρ1,h1,h2,h3⟩:=h a MI
  rw [MU,rN,h1,eT,eM,h2,mJ,eM,h3,mJ,eM,gB mk p v xs fun b hb=>h b (MJ _ hb)]
  cases e:p a with
  | true=>rw [if_pos rfl,Oq e]; rfl
  | false=>rw [if_neg MS,Ot (by simp [e])]
theorem kr {α:Type} {ρ:av} {g:GF} {C:av->R Bool} {Fe:FX} (mk:α->D) (v:α->D) (xs:List α) (h:∀ a∈xs,∃ ρ1,g (mk a) ρ=some ρ1/\C ρ1=.ok true/\Fe ρ1=.ok (v a)):Bc ρ g C Fe (xs.map mk)=.ok (xs.map v):=by
 rw [gB mk (fun _=>true) v xs h,List.filter_eq_self.mpr fun _ _=>rfl]
theorem zj {g:GF} {B:ca} {k:Ks} (Iv:Nat->av->Prop):∀ (ds:List D) (i:Nat) (ρ:av),(∀ j d ρ (k':Ks),i<=j->ds[j - i]?=some d->Iv j ρ->∃ ρ1 ρ2,g d ρ=some ρ1/\Iv (j+1) ρ2/\B k' ρ1=k'.nx ρ2)->Iv i ρ->∃ ρ',Iv (i+ds.length) ρ'/\eZ g B k ds ρ=k.nx ρ'
 | [],i,ρ,_,h=>⟨ρ,h,rfl⟩
 | d::ds,i,ρ,st,h=>by
  obtain⟨ρ1,ρ2,e1,h2,e2⟩:=st i d ρ ⟨eZ g B k ds,k.nx,eZ g B k ds,k.ex⟩ (MO _) (by rw [Od]; rfl) h
  obtain⟨ρ',h3,e3⟩:=zj (g:=g) (B:=B) (k:=k) Iv ds (i+1) ρ2 (fun j d' ρ k' hj hd=>st j d' ρ k' ‹0› (by rw [show j - i=(j - (i+1))+1 by omega,N4]; exact hd)) h2
  refine⟨ρ',?_,?_⟩
  ·rw [MT]
   have:i+(ds.length+1)=i+1+ds.length:=by omega
   rw [this]; exact h3
  ·show ((rO (g d ρ)).bind fun ρ1=>B ⟨eZ g B k ds,k.nx,eZ g B k ds,k.ex⟩ ρ1)=_
   rw [e1,eT,eM,e2]
   exact e3
theorem ig {g:GF} {B:ca} {k:Ks} {ds:List D} {ρ:av} {Q:R D->Prop} (Iv:Nat->av->Prop) (st:∀ i d ρ (k':Ks),ds[i]?=some d->Iv i ρ->∃ ρ1 ρ2,g d ρ=some ρ1/\Iv (i+1) ρ2/\B k' ρ1=k'.nx ρ2) (h:Iv 0 ρ) (q:∀ ρ',Iv ds.length ρ'->Q (k.nx ρ')):Q (eZ g B k ds ρ):=by
 obtain⟨ρ',h1,e⟩:=zj (k:=k) Iv ds 0 ρ (fun j d ρ k' _ hd=>st j d ρ k' hd) h
 rw [e]; rw [N8] at h1; exact q ρ' h1
theorem fj {α:Type} {xs:List α} {i:Nat} {a:α} (h:xs[i]?=some a):i < xs.length:=by
 rcases Nat.lt_or_ge i xs.length with z | z
 ·exact z
 ·rw [OB z] at h; cases h
theorem lO {α β:Type} (f:α->β) (xs:List α) (i:Int):nF (xs.map f) i=(nF xs i).map f:=by
 unfold nF
 rw [MV]
 cases uy xs.length i with
 | none=>rfl
 | some j=>simp
theorem jK {α:Type} {xs:List α} {k:Nat} (h:k < xs.length):nF xs (k:Int)=some xs[k]:=by
 unfold nF uy
 rw [if_pos ‹0›,if_pos ‹0›]
 simp [h]
theorem nX {α:Type} {xs:List α} {i:Int} (h0:0<=i) (h:i < xs.length):nF xs i=some (xs[i.toNat]'‹0›):=by
 have e:i=((i.toNat:Nat):Int):=by omega
 conv=>lhs; rw [e]
 exact jK ‹0›
def EI:ca:=aE (eY (fB (f2 sr (ai 1) (fL fW (af (ai 0) (au))))) (bT (f2 aw (ai 0) (ai 1))) (bI)) (bT (fC (.int 0)))
theorem qf (ns:List Int) (k:Nat):bv EI 2 2 [.lst (ns.map .int),.int k]=.ok (.int (ns.getD k 0)):=by
 show (if decide ((k:Int) < ((ns.map D.int).length:Int)) then p9 (rO (nF (ns.map D.int) (k:Int))) _ _ .ok else .ok (.int 0))=_
 rw [MV]
 by_cases h:k < ns.length
 ·rw [if_pos (by simpa using h),lO,jK h,OC,Ow,NF h]; rfl
 ·rw [if_neg (by simpa using h),Ow,OB ‹0›]; rfl
theorem CW (ns:List Int) (i:Int) (h:0<=i):∃ c:Int,bv EI 2 2 [.lst (ns.map .int),.int i]=.ok (.int c):=by
 have e:i=((i.toNat:Nat):Int):=by omega
 exact⟨ns.getD i.toNat 0,by rw [e]; exact qf ns i.toNat⟩
theorem yV (x y:Str):(x++y).length=x.length+y.length:=by
 show (x.cps++y.cps).size=_
 rw [Array.size_append]; rfl
theorem dR (x y:Str) (h:x.length<=1000) (h':y.length<=1000):bD (.str x) (.str y)=some (.str (x++y)):=by
 show (if small (x.length+y.length) then some (D.str (x++y)) else none)=_
 rw [dW ‹0›]; rfl
theorem lU (x:Str) (h:x.length<=1000) (i:Int) (h0:0<=i) (h1:i < x.length):∃ y:Str,y.length=1/\aw (.str x) (.int i)=some (.str y):=by
 have hl:x.cps.toList.length=x.length:=by simp [Str.length]
 have hi:i < x.cps.toList.length:=by omega
 refine⟨⟨#[x.cps.toList[i.toNat]'‹0›]⟩,rfl,?_⟩
 show (if small x.length then (nF x.cps.toList i).bind fun c=>some (D.str ⟨#[c]⟩) else none)=_
 rw [dW ‹0›,if_pos rfl,nX h0 hi]; rfl
theorem fu (lo:Int) (n:Nat):eI lo n=(List.range n).map fun (k:Nat)=>D.int (lo+(k:Int)):=nr rfl
theorem cj (lo:Int) (n:Nat):(eI lo n).length=n:=by unfold eI; rw [MV,NU]
theorem C8 {α:Type} (xs:List α) (m:Nat):cutD xs none (some (m:Int))=xs.take m:=by
 unfold cutD
 rw [HT.Hz,HT.JB,NB,NV]
 rcases Nat.le_total m xs.length with h | h
 ·rw [OD h]
 ·rw [Nat.min_eq_right h,OG h,OG (MO _)]
theorem qF {α:Type} (xs:List α) (m:Nat):cutD xs (some (m:Int)) none=xs.drop m:=by
 unfold cutD
 rw [HT.Hz,HT.JB]
 rcases Nat.le_total m xs.length with h | h
 ·rw [OD h]
  exact OG (by rw [Nb]; exact MO _)
 ·rw [Nat.min_eq_right h,Od,Nz,OH h]
theorem uY (ρ:av):wy ρ=.ok (.dct [] []):=nr rfl
theorem Il (g:GF) (B:ca) (k:Ks) (d:D) (ds:List D) (ρ:av):eZ g B k (d::ds) ρ=(rO (g d ρ)).bind fun ρ1=>B ⟨eZ g B k ds,k.nx,eZ g B k ds,k.ex⟩ ρ1:=nr rfl
theorem H0 (g:GF) (B:ca) (k:Ks) (ρ:av):eZ g B k [] ρ=k.nx ρ:=nr rfl
theorem Eo {α:Type} (xs:List α) (a:α):nF (xs++[a]) (-1)=some a:=by
 unfold nF uy
 rw [if_neg (by decide),M8,Nh]
 simp
 rw [if_pos ‹0›]
 show (xs++[a])[(-1+((xs.length:Int)+1)).toNat]?=some a
 rw [show (-1+((xs.length:Int)+1)).toNat=xs.length by omega]
 simp
end TG
namespace TG
open PySem PySem.Spec L2
local macro_rules
 | `(tactic| simp! only [$xs,*])=>`(tactic| simp only [eM,tY,nQ,sO,mJ,eT,ge_0,A4,o6,Aa,oV,lL,ph,oZ,zR,zY,AO,zP,zV,pc,pA,sX,jU,lV,oQ,lx,tX,oS,oF,ly,oK,jC,o8,ju,jF,iC,iw,pD,lQ,iA,mh,jx,mr,lJ,fD,lX,jL,kO,lP,jt,iq,lR,lD,Ai,tH,Ae,zW,AC,oy,lF,o5,ml,lW,A0,Ay,OI,OJ,MU,Nk,Ny,NQ,K0,env0,List.replicate,Oe,MZ,N8,Nat.reduceAdd,Nat.reduceSub,MT,Nr,pB,oI,sM,oE,oW,oC,ir,pf,tJ,tG,ua,oA,jI,jT,jO,jM,jy,jR,kQ,rH,sV,ui,tM,ue,jS,jN,gK,gr,o9,iE,gI,gC,gE,o4,mX,gh,gd,jA,jr,my,me,jw,lE,oz,pF,lM,mw,gN,if_true,if_false,OL,OM,Nw,$xs,*])
theorem AI (a b c:D):tO [a,b,c]=some (.tup [a,b,c]):=nr rfl
theorem mR (a b:D):tO [a,b]=some (.tup [a,b]):=nr rfl
theorem Lz (a:D):tO [a]=some (.tup [a]):=nr rfl
theorem L9:tO []=some (.tup []):=nr rfl
theorem Ml:ia []=some (.lst []):=nr rfl
def CL:ca:=bT (fL cg (af (iW [none] (bC (f2 bD (f2 aw (ai 0) (fC (.int 0))) (f2 aw (ai 0) (fC (.int 1))))) (gN 0) (cW) (f2 aw (ai 0) (fC (.int 1)))) (au)))
theorem kinds_ok (kf rf:List D) (ps:List (Str×D)) (hl:kf.length+rf.length<=100) (e:kf++rf=ps.map (fun p=>.tup [.str p.1,p.2])):bv CL 1 1 [.tup [.tup kf,.tup rf]]=.ok (.tup (ps.map (·.2))):=by
 have hl':ps.length<=100:=by have:=congrArg List.length e; rw [M8,MV] at this; omega
 have f0:iW [none] (bC (f2 bD (f2 aw (ai 0) (fC (.int 0))) (f2 aw (ai 0) (fC (.int 1))))) (gN 0) (cW) (f2 aw (ai 0) (fC (.int 1))) [some (.val (.tup [.tup kf,.tup rf]))]=.ok (.lst (ps.map (·.2))):=by
  refine eS (ds:=ps.map (fun p=>.tup [.str p.1,p.2])) ?_ (by rw [MV]; omega) ?_
  ·simp! only []
   rw [eK _ _ ‹0›,e]
   simp! only []
  ·refine kr _ _ ps fun p _=>⟨_,rfl,rfl,?_⟩
   simp! only []
 rw [iU]; unfold CL
 simp! only [f0]
end TG
namespace TG
open PySem PySem.Spec L2
inductive F2 {α β:Type} (R:α->β->Prop):List α->List β->Prop where
 | nil:F2 R [] []
 | cons {a:α} {b:β} {as:List α} {bs:List β} (h:R a b) (t:F2 R as bs):F2 R (a::as) (b::bs)
end TG
namespace TD
open PySem PySem.Spec L2 TG TX
def bB:ca:=aE (eY (fB (f2 sr (ai 1) (fL fW (af (ai 0) (au))))) (bT (f2 aw (ai 0) (ai 1))) (bI)) (bT (fC (.int 0)))
def iV:ca:=bT (fL cg (af (iW [none] (bC (f2 bD (f2 aw (ai 0) (fC (.int 0))) (f2 aw (ai 0) (fC (.int 1))))) (gN 0) (cW) (f2 aw (ai 0) (fC (.int 0)))) (au)))
def gq:ca:=bT (fL cg (af (iW [none] (bC (f2 bD (f2 aw (ai 0) (fC (.int 0))) (f2 aw (ai 0) (fC (.int 1))))) (gN 0) (cW) (f2 aw (ai 0) (fC (.int 1)))) (au)))
def bm:ca:=bT (f2 bN (f2 bD (f2 bD (f2 mC (ai 0) (ai 0)) (f2 mC (fC (.int 48271)) (ai 0))) (fC (.int 11))) (fC (.int 2147483647)))
def bR:ca:=aE (bi 2 (f2 bN (f2 bD (f2 bD (f2 bN (fR (bv bB 2 2) (af (ai 0) (af (ai 1) (au)))) (fC (.int 2147483647))) (f2 mC (f2 mC (fC (.int 69621)) (ai 1)) (ai 1))) (fC (.int 5))) (fC (.int 2147483647)))) (bT (fR (bv bm 1 1) (af (fR (bv bm 1 1) (af (ai 2) (au))) (au))))
def aK:ca:=aE (bi 2 (fC (.str "abcdefghijklmnopqrstuvwxyz"))) (aE (bi 1 (f2 bN (f2 bD (f2 mC (ai 1) (f2 aw (dN (af (fC (.int 1)) (af (fC (.int 5)) (af (fC (.int 7)) (af (fC (.int 11)) (af (fC (.int 13)) (af (fC (.int 23)) (au)))))))) (f2 bN (ai 0) (fC (.int 6))))) (f2 cx (ai 0) (fC (.int 6)))) (fC (.int 24)))) (aE (bi 0 (f2 cx (ai 0) (fC (.int 144)))) (aE (eY (fB (f2 dL (f2 bN (ai 0) (fC (.int 3))) (fC (.int 0)))) (bT (f2 rM (f2 aw (ai 2) (f2 bN (f2 bD (f2 cx (ai 0) (fC (.int 3))) (f2 cx (ai 1) (fC (.int 8)))) (fC (.int 26)))) (f2 bD (fC (.int 1)) (f2 bN (ai 1) (fC (.int 8)))))) (bI)) (aE (bi 3 (f2 bD (fC (.int 1)) (f2 bN (f2 cx (ai 0) (fC (.int 3))) (fC (.int 8))))) (aE (bi 4 (fC (.str ""))) (aE (jj (dz (af (ai 3) (au))) (gN 5) (aE (bi 6 (f2 cx (ai 0) (f2 bD (fC (.int 24)) (f2 mC (f2 mC (fC (.int 11)) (ai 5)) (ai 5))))) (aE (eY (fB (f2 dL (ai 5) (f2 bN (f2 cx (ai 0) (fC (.int 24))) (ai 3)))) (bi 6 (f2 bD (ai 6) (ai 1))) (bI)) (aE (bi 4 (f2 bD (ai 4) (f2 aw (ai 2) (f2 bN (ai 6) (fC (.int 26)))))) (cI [5,6] bI))))) (bT (ai 4))))))))
noncomputable def cf:ca:=aE (eY (fB (f2 sr (f2 bN (ai 0) (fC (.int 3))) (fC (.int 2)))) (aE (bi 1 (f2 aw (dN (af (fC (.int 0)) (af (pZ (fC (.int 3))) (af (f2 wQ (fC (.int 0)) (f2 bN (f2 j5 (ai 0) (fC (.int 7))) (f2 j5 (fC (.int 10)) (fC (.int 59))))) (af (f2 bN (f2 j5 (ai 0) (fC (.int 7))) (f2 j5 (fC (.int 10)) (fC (.int 59)))) (au)))))) (f2 bN (f2 cx (ai 0) (fC (.int 3))) (fC (.int 4))))) (bT (bb (af (fC (.str "number")) (af (ai 1) (af (f2 bD (ai 1) (f2 aw (dN (af (fC (.int 0)) (af (fC (.int 1)) (af (fC (.int 6)) (af (f2 j5 (fC (.int 10)) (fC (.int 59))) (au)))))) (f2 bN (f2 cx (ai 0) (fC (.int 12))) (fC (.int 4))))) (au))))))) (bI)) (aE (bi 2 (fC (.str "abcdefghijklmnopqrstuvwxyz"))) (aE (bi 3 (f2 aw (ai 2) (f2 bN (f2 cx (ai 0) (fC (.int 3))) (fC (.int 26))))) (aE (bi 4 (f2 aw (ai 2) (f2 bN (f2 cx (ai 0) (fC (.int 78))) (fC (.int 26))))) (aE (bi 5 (dN (af (fC (.str "")) (af (ai 3) (af (ai 4) (af (f2 bD (ai 3) (ai 4)) (af (f2 bD (ai 4) (ai 3)) (af (f2 rM (ai 3) (fC (.int 8))) (af (f2 bD (ai 3) (ai 3)) (af (f2 rM (ai 4) (fC (.int 3))) (au))))))))))) (aE (lm 6 wy) (cI [1,2,4] (aE (jj (dz (af (fC (.int 8)) (au))) (gN 7) (aE (eY (fB (f2 dL (f2 pV (f2 w6 (f2 cx (ai 0) (fC (.int 2028))) (ai 7)) (fC (.int 1))) (fC (.int 1)))) (ky 6 (f2 aw (ai 5) (ai 7)) (fC (.bl true))) (bI)) (cI [7] bI))) (aE (eY (dQ [6] (fB (f2 dL (fL pO (af (ai 6) (au))) (fC (.int 0))))) (ky 6 (ai 3) (fC (.bl true))) (bI)) (iS 6 (bT (bb (af (fC (.str "word")) (af (fL cg (af (fL fV (af (fL jq (af (ai 6) (au))) (au))) (au))) (au))))))))))))))
end TD
namespace TD
open PySem PySem.Spec L2 TG
local macro_rules
 | `(tactic| simp! only [$xs,*])=>`(tactic| simp only [eM,tY,nQ,sO,mJ,eT,ge_0,A4,o6,Aa,oV,lL,ph,oZ,zR,zY,AO,zP,zV,pc,pA,sX,jU,lV,oQ,lx,tX,oS,oF,ly,oK,jC,o8,ju,jF,iC,iw,pD,lQ,iA,mh,jx,mr,lJ,fD,lX,jL,kO,lP,jt,iq,lR,lD,Ai,tH,Ae,zW,AC,oy,lF,o5,ml,lW,A0,Ay,OI,OJ,MU,Nk,Ny,NQ,K0,env0,List.replicate,Oe,MZ,N8,Nat.reduceAdd,Nat.reduceSub,MT,Nr,pB,oI,sM,oE,oW,oC,ir,pf,tJ,tG,ua,oA,jI,jT,jO,jM,jy,jR,kQ,rH,sV,ui,tM,ue,jS,jN,gK,gr,o9,iE,gI,gC,gE,o4,mX,gh,gd,jA,jr,my,me,jw,lE,oz,pF,lM,mw,gN,if_true,if_false,OL,OM,Nw,$xs,*])
theorem Jn (ns:List Int) (i:Int) (h:0<=i):∃ c:Int,bv bB 2 2 [.lst (ns.map .int),.int i]=.ok (.int c):=CW ns i h
end TD
namespace TD
open PySem PySem.Spec L2 TG
local macro_rules
 | `(tactic| simp! only [$xs,*])=>`(tactic| simp only [eM,tY,nQ,sO,mJ,eT,ge_0,A4,o6,Aa,oV,lL,ph,oZ,zR,zY,AO,zP,zV,pc,pA,sX,jU,lV,oQ,lx,tX,oS,oF,ly,oK,jC,o8,ju,jF,iC,iw,pD,lQ,iA,mh,jx,mr,lJ,fD,lX,jL,kO,lP,jt,iq,lR,lD,Ai,tH,Ae,zW,AC,oy,lF,o5,ml,lW,A0,Ay,OI,OJ,MU,Nk,Ny,NQ,K0,env0,List.replicate,Oe,MZ,N8,Nat.reduceAdd,Nat.reduceSub,MT,Nr,pB,oI,sM,oE,oW,oC,ir,pf,tJ,tG,ua,oA,jI,jT,jO,jM,jy,jR,kQ,rH,sV,ui,tM,ue,jS,jN,gK,gr,o9,iE,gI,gC,gE,o4,mX,gh,gd,jA,jr,my,me,jw,lE,oz,pF,lM,mw,gN,if_true,if_false,OL,OM,Nw,$xs,*])
abbrev fld (p:Str×D):D:=.tup [.str p.1,p.2]
theorem xM (kf rf:List D) (ps:List (Str×D)) (hl:ps.length<=100) (e:kf++rf=ps.map fld):bv iV 1 1 [.tup [.tup kf,.tup rf]]=.ok (.tup (ps.map fun p=>.str p.1)):=by
 have hl':kf.length+rf.length<=100:=by have:=congrArg List.length e; rw [M8,MV] at this; omega
 have f0:iW [none] (bC (f2 bD (f2 aw (ai 0) (fC (.int 0))) (f2 aw (ai 0) (fC (.int 1))))) (gN 0) (cW) (f2 aw (ai 0) (fC (.int 0))) [some (.val (.tup [.tup kf,.tup rf]))]=.ok (.lst (ps.map fun p=>.str p.1)):=by
  refine eS (ds:=ps.map fld) ?_ (by rw [MV]; omega) ?_
  ·simp! only []
   rw [eK _ _ ‹0›,e]
   simp! only []
  ·refine kr _ _ ps fun p _=>⟨_,rfl,rfl,?_⟩
   simp! only []
 rw [iU]; unfold iV
 simp! only [f0]
end TD
namespace T4
open PySem PySem.Spec L2 TG TD
local macro_rules
 | `(tactic| simp! only [$xs,*])=>`(tactic| simp only [eM,tY,nQ,sO,mJ,eT,ge_0,A4,o6,Aa,oV,lL,ph,oZ,zR,zY,AO,zP,zV,pc,pA,sX,jU,lV,oQ,lx,tX,oS,oF,ly,oK,jC,o8,ju,jF,iC,iw,pD,lQ,iA,mh,jx,mr,lJ,fD,lX,jL,kO,lP,jt,iq,lR,lD,Ai,tH,Ae,zW,AC,oy,lF,o5,ml,lW,A0,Ay,OI,OJ,MU,Nk,Ny,NQ,K0,env0,List.replicate,Oe,MZ,N8,Nat.reduceAdd,Nat.reduceSub,MT,Nr,pB,oI,sM,oE,oW,oC,ir,pf,tJ,tG,ua,oA,jI,jT,jO,jM,jy,jR,kQ,rH,sV,ui,tM,ue,jS,jN,gK,gr,o9,iE,gI,gC,gE,o4,mX,gh,gd,jA,jr,my,me,jw,lE,oz,pF,lM,mw,gN,if_true,if_false,OL,OM,Nw,$xs,*])
theorem yn {x:Str} {n:Int} (h:1<=n) (h':n<=1000) (hx:x.length<=1000):rM (.str x) (.int n)=some (.str (iX x n)):=by
 show (if decide (1<=n/\n<=1000/\x.length<=1000) then some (D.str (iX x n)) else none)=_
 rw [decide_eq_true ⟨h,h',hx⟩]; rfl
theorem j8 (x:Int) (h0:0<=x) (h1:x < 2147483700):∃ y:Int,0<=y/\y < 2147483647/\bv bm 1 1 [.int x]=.ok (.int y):=by
 have m1:=qm (i:=x) (j:=x) ‹0› ‹0›
 have m2:=qm (i:=48271) (j:=x) (by decide) (by decide)
 have g:=fun i=>bz (i:=i) (show (0:Int) < 2147483647 by decide)
 refine⟨(x*x+48271*x+11)%2147483647,OO _ (by decide),OQ _ (by decide),?_⟩
 rw [iU]; unfold bm
 simp! only [m1,m2,g]
theorem qi (ns:List Int) (k:Nat) (hk:k<=100):∃ y:Int,0<=y/\y < 2147483647/\bv bR 2 3 [.lst (ns.map .int),.int k]=.ok (.int y):=by
 obtain⟨c,ec⟩:=TD.Jn ns k ‹0›
 have m1:=qm (i:=69621) (j:=(k:Int)) (by decide) (by decide)
 have m2:=lA (i:=69621*(k:Int)) (j:=(k:Int)) ‹0› ‹0›
 have g:=fun i=>bz (i:=i) (show (0:Int) < 2147483647 by decide)
 obtain⟨y1,a1,b1,e1⟩:=j8 ((c%2147483647+69621*(k:Int)*(k:Int)+5)%2147483647) (OO _ (by decide)) (by have:=OQ (c%2147483647+69621*(k:Int)*(k:Int)+5) (show (0:Int) < 2147483647 by decide); omega)
 obtain⟨y2,a2,b2,e2⟩:=j8 y1 a1 ‹0›
 refine⟨y2,a2,b2,?_⟩
 rw [mV]; unfold bR
 simp! only [ec,g,m1,m2,e1,e2]
def Flat (k:D):Prop:=∃ (x:Str) (r:List D),k=.tup (.str x::r)/\(x==("rows":Str))=false/\iY r=true
theorem nH {i:Nat} {fk fv:FX} {k:Ks} {ρ:av} {al:List (Key×D)} {q:Key} {d v:D} (h:ρ[i]?=some (some (.own (w4 al)))) (ek:fk ρ=.ok d) (hd:d=dY q) (ev:fv ρ=.ok v) (hl:al.length<=1000) :
  ky i fk fv k ρ=k.nx (ρ.set i (some (.own (w4 (p5 al q v))))):=by
 subst hd
 have e:ud (gU al) (al.map (·.2)) (dY q) v=some (p5 al q v):=by
  unfold ud
  rw [sY]
  show (keyOf (dY q)).bind _=_
  rw [kc]
  show (if small al.length then _ else _)=_
  rw [dW ‹0›]; rfl
 unfold ky
 rw [h]
 show p9 ((fv ρ).bind fun v=>(fk ρ).bind fun q=>rO (ud (gU al) (al.map (·.2)) q v)) k ρ _=_
 rw [ev,eM,ek,eM,e]; rfl
abbrev xi (ws:List Str):List (Key×D):=ws.map fun w=>((.inr w:Key),D.bl true)
abbrev wd (ws:List Str):D:=w4 (xi ws)
def oU (ws:List Str) (w:Str):List Str:=if w∈ws then ws else ws++[w]
theorem qY (ws:List Str) (w:Str):p5 (xi ws) (.inr w) (.bl true)=xi (oU ws w):=by
 have e:((xi ws).any fun p=>decide (p.1=(.inr w:Key)))=decide (w∈ws):=by
  induction ws with
  | nil=>simp
  | cons a ws ih =>
   show (decide ((.inr a:Key)=.inr w) || (xi ws).any fun p=>decide (p.1=(.inr w:Key)))=_
   rw [ih]
   by_cases z:a=w
   ·subst z; simp
   ·have z':¬ (.inr a:Key)=.inr w:=fun q=>z (Sum.inr.inj q)
    have z2:¬ w=a:=fun q=>z q.symm
    simp [z',z2]
 unfold p5 oU
 rw [e]
 by_cases h:w∈ws
 ·rw [if_pos (by simpa using h),if_pos h]
  show (ws.map _).map _=_
  rw [Oy]
  refine NR fun a _=>?_
  show (if (.inr a:Key)=.inr w then ((.inr a:Key),D.bl true) else ((.inr a:Key),D.bl true))=_
  split <;> rfl
 ·rw [if_neg (by simpa using h),if_neg h]
  show _=(ws++[w]).map _
  rw [NS]; rfl
theorem ow {ws:List Str} (w:Str) (h:ws.Nodup):(oU ws w).Nodup:=by
 unfold oU
 split
 ·exact h
 ·rename_i z
  exact List.nodup_append.mpr ⟨h,List.nodup_cons.mpr ⟨by simp,Nt⟩,fun a ha b hb e=>by
   rw [OS] at hb
   subst hb e
   exact z ha⟩
theorem kX (ws:List Str) (w:Str):(oU ws w).length<=ws.length+1:=by
 unfold oU
 split
 ·omega
 ·simp
theorem Fp (ws:List Str):gU (xi ws)=ws.map D.str:=by
 show (ws.map _).map _=_
 rw [Oy]; rfl
theorem Bv (ws:List Str):keysOf (gU (xi ws))=some (ws.map .inr):=by
 rw [show gU (xi ws)=(ws.map (.inr:Str->Key)).map dY from by rw [Fp,Oy]; rfl]
 exact je _
theorem yO (ws:List Str):pO [wd ws]=some (.int ws.length):=by
 show (keysOf (gU (xi ws))).bind _=_
 rw [Bv]
 show some (D.int ((ws.map _).length:Int))=_
 rw [MV]
theorem qD (ws:List Str):jq [wd ws]=some (.lst (ws.map .str)):=by
 show (keysOf (gU (xi ws))).bind _=_
 rw [Bv]
 show some (D.lst (gU (xi ws)))=_
 rw [Fp]
theorem HG (ws:List Str) (h:ws.Nodup) (hl:ws.length < 64):∃ zs:List D,fV [.lst (ws.map .str)]=some (.lst zs)/\iY zs=true:=by
 have pz:∀ zs:List D,zs.Perm (ws.map D.str)->iY zs=true:=fun zs p=>xF fun z hz=>by
  obtain⟨w,_,rfl⟩:=List.mem_map.mp (p.mem_iff.mp hz)
  rfl
 show ∃ zs,pN (ws.map .str)=_/\_
 unfold pN
 by_cases a:Gx (ws.map .str)
 ·rw [if_pos a]; exact⟨_,rfl,pz _ (e8 _ _)⟩
 ·have b:Gr (ws.map .str):=by
   refine⟨by rw [MV]; exact hl,false,fun x hx=>?_,?_⟩
   ·obtain⟨w,_,rfl⟩:=List.mem_map.mp hx
    exact .str w .nil
   ·rw [Ov]
    refine h.imp fun hne e=>hne ?_
    have e:[D.str _]=[D.str _]:=e
    injection e with e _
    injection e
  rw [if_neg a,if_pos b]; exact⟨_,rfl,pz _ (e8 _ _)⟩
theorem cQ (is:List Nat) (f:av->R Bool) (ρ:av):dQ is f ρ=xc (f (frzs is ρ)):=nr rfl
theorem kF (i:Nat) (ρ:av):frzs [i] ρ=frz i ρ:=nr rfl
theorem xB (i:Int) (k:Nat):w6 (.int i) (.int k)=some (.int (i / 2 ^ k)):=by
 show (if decide (0<=(k:Int)) then some (D.int (i / 2 ^ (k:Int).toNat)) else none)=_
 rw [decide_eq_true ‹0›]; rfl
theorem nG (i j:Int):pV (.int i) (.int j)=some (.int (Builtin.bitAnd i j)):=nr rfl
theorem He (a b c d:D):ia [a,b,c,d]=some (.lst [a,b,c,d]):=nr rfl
theorem L8 (a b c d e f g h:D):ia [a,b,c,d,e,f,g,h]=some (.lst [a,b,c,d,e,f,g,h]):=nr rfl
theorem JQ (a b c d:D) (i:Int) (h0:0<=i) (h1:i < 4):∃ x∈[a,b,c,d],aw (.lst [a,b,c,d]) (.int i)=some x:=by
 rcases(show i=0\/i=1\/i=2\/i=3 by omega) with z | z | z | z <;> subst z
 ·exact⟨a,by simp,rfl⟩
 ·exact⟨b,by simp,rfl⟩
 ·exact⟨c,by simp,rfl⟩
 ·exact⟨d,by simp,rfl⟩
theorem BQ:(("number":Str)==("rows":Str))=false:=by decide +kernel
theorem yK:(("word":Str)==("rows":Str))=false:=by decide +kernel
theorem wN (x:Int) (h0:0<=x) (h1:x < 2147483700):∃ d:D,bv cf 1 8 [.int x]=.ok d/\Flat d:=by
 have g3:=fun i=>bz (i:=i) (show (0:Int) < 3 by decide)
 have g4:=fun i=>bz (i:=i) (show (0:Int) < 4 by decide)
 have g26:=fun i=>bz (i:=i) (show (0:Int) < 26 by decide)
 have d3:=fun i=>bO (i:=i) (show (0:Int) < 3 by decide) (show (3:Int) < 10 ^ 200 by decide)
 have d12:=fun i=>bO (i:=i) (show (0:Int) < 12 by decide) (show (12:Int) < 10 ^ 200 by decide)
 have d78:=fun i=>bO (i:=i) (show (0:Int) < 78 by decide) (show (78:Int) < 10 ^ 200 by decide)
 have d2028:=fun i=>bO (i:=i) (show (0:Int) < 2028 by decide) (show (2028:Int) < 10 ^ 200 by decide)
 have p7:j5 (.int x) (.int 7)=some (.int (x ^ 7)):=ut x 7 (by decide) ‹0›
 have pb:=B7
 have gp:=fun i=>bz (i:=i) (show (0:Int) < xh by omega)
 rw [iU]; unfold cf
 by_cases h:x%3 < 2
 ·have h':decide (x%3 < 2)=true:=decide_eq_true h
  obtain⟨v,hv,e1⟩:=JQ (.int 0) (.int (-3)) (.int (0 - x ^ 7%xh)) (.int (x ^ 7%xh)) (x / 3%4) ‹0› ‹0›
  obtain⟨lo,rfl⟩:∃ lo:Int,v=.int lo:=by
   simp only [N1,Ox,or_false] at hv
   rcases hv with rfl | rfl | rfl | rfl <;> exact⟨_,rfl⟩
  obtain⟨v,hv,e2⟩:=JQ (.int 0) (.int 1) (.int 6) (.int xh) (x / 12%4) ‹0› ‹0›
  obtain⟨w,rfl⟩:∃ lo:Int,v=.int lo:=by
   simp only [N1,Ox,or_false] at hv
   rcases hv with rfl | rfl | rfl | rfl <;> exact⟨_,rfl⟩
  refine⟨.tup [.str "number",.int lo,.int (lo+w)],?_,"number",[.int lo,.int (lo+w)],rfl,BQ,rfl⟩
  simp! only [g3,h',p7,vg,gp,He,d3,g4,e1,d12,e2,AI]
 ·have h':decide (x%3 < 2)=false:=decide_eq_false h
  have LL:(("abcdefghijklmnopqrstuvwxyz":Str)).length=26:=by decide +kernel
  have L0:(("":Str)).length<=1000:=by decide +kernel
  generalize hL:("abcdefghijklmnopqrstuvwxyz":Str)=L at LL
  obtain⟨one,ho,e1⟩:=lU L ‹0› (x / 3%26) ‹0› ‹0›
  obtain⟨oth,hq,e2⟩:=lU L ‹0› (x / 78%26) ‹0› ‹0›
  have a1:=dR one oth ‹0› ‹0›
  have a2:=dR oth one ‹0› ‹0›
  have a3:=dR one one ‹0› ‹0›
  have m1:=yn (x:=one) (n:=8) (by decide) (by decide) ‹0›
  have m2:=yn (x:=oth) (n:=3) (by decide) (by decide) ‹0›
  have r8:jf [.int 8]=some (eI 0 8):=fe 8 (by decide)
  generalize hW:[D.str "",.str one,.str oth,.str (one++oth),.str (oth++one),.str (iX one 8),.str (one++one),.str (iX oth 3)]=W
  have W8:W.length=8:=by rw [<- hW]; rfl
  have Ws:∀ d∈W,∃ w:Str,d=.str w:=by
   rw [<- hW]
   intro d hd
   simp only [N1,Ox,or_false] at hd
   rcases hd with rfl | rfl | rfl | rfl | rfl | rfl | rfl | rfl <;> exact⟨_,rfl⟩
  obtain⟨T,hT⟩:∃ T:ca,T=(aE (jj (dz (af (fC (.int 8)) (au))) (gN 7) (aE (eY (fB (f2 dL (f2 pV (f2 w6 (f2 cx (ai 0) (fC (.int 2028))) (ai 7)) (fC (.int 1))) (fC (.int 1)))) (ky 6 (f2 aw (ai 5) (ai 7)) (fC (.bl true))) (bI)) (cI [7] bI))) (aE (eY (dQ [6] (fB (f2 dL (fL pO (af (ai 6) (au))) (fC (.int 0))))) (ky 6 (ai 3) (fC (.bl true))) (bI)) (iS 6 (bT (bb (af (fC (.str "word")) (af (fL cg (af (fL fV (af (fL jq (af (ai 6) (au))) (au))) (au))) (au)))))))):=⟨_,rfl⟩
  have fin:∀ ws:List Str,ws.Nodup->ws.length<=10->∃ d,iS 6 (bT (bb (af (fC (.str "word")) (af (fL cg (af (fL fV (af (fL jq (af (ai 6) (au))) (au))) (au))) (au))))) K0 [some (.val (.int x)),none,none,some (.val (.str one)),none,some (.val (.lst W)),some (.own (wd ws)),none]=.ok d/\Flat d:=fun ws nd hl=>by
   obtain⟨zs,ez,pz⟩:=HG ws nd ‹0›
   refine⟨.tup [.str "word",.tup zs],?_,"word",[.tup zs],rfl,yK,by show (pl (.tup zs) && iY [])=true; rw [dj,pz]; rfl⟩
   simp! only [qD,ez,mR]
  have key:∃ d,T K0 [some (.val (.int x)),none,none,some (.val (.str one)),none,some (.val (.lst W)),some (.own (.dct [] [])),none]=.ok d/\Flat d:=by
   rw [hT,fD,iq]
   simp! only [r8]
   refine ig (Q:=fun z=>∃ d,z=.ok d/\Flat d) (fun i ρ=>∃ ws:List Str,ws.Nodup/\ws.length<=i/\ρ=[some (.val (.int x)),none,none,some (.val (.str one)),none,some (.val (.lst W)),some (.own (wd ws)),none]) ?_ ⟨[],Nt,MO _,rfl⟩ ?_
   ·rintro i d ρ kk hd ⟨ws,nd,hl,rfl⟩
    have hi:=fj hd
    rw [cj] at hi
    have hdi:d=.int (i:Int):=by
     rw [fu,M6,NW hi] at hd
     cases hd; simp
    subst hdi
    obtain⟨w,ew⟩:=Ws (W[i]'‹0›) (Ou _)
    have ix:aw (.lst W) (.int (i:Int))=some (.str w):=by
     rw [xS,jK ‹0›,ew]
    have sh:=xB (x / 2028) i
    cases hb:(Builtin.bitAnd (x / 2028 / 2 ^ i) 1==1) with
    | false =>
     refine⟨_,_,rfl,⟨ws,nd,by omega,rfl⟩,?_⟩
     simp! only [d2028,sh,nG,hb]
    | true =>
     refine⟨_,_,rfl,⟨oU ws w,ow w nd,by have:=kX ws w; omega,rfl⟩,?_⟩
     have pk:=fun k:Ks=>nH (i:=6) (fk:=f2 aw (ai 5) (ai 7)) (fv:=fC (.bl true)) (k:=k) (ρ:=[some (.val (.int x)),none,none,some (.val (.str one)),none,some (.val (.lst W)),some (.own (wd ws)),some (.val (.int (i:Int)))]) (al:=xi ws) (q:=.inr w) (d:=.str w) (v:=.bl true) rfl (by simp! only [ix]) rfl rfl (by simp; omega)
     simp! only [d2028,sh,nG,hb,pk,qY]
   ·rintro ρ' ⟨ws,nd,hl,rfl⟩
    rw [cj] at hl
    have pt:dQ [6] (fB (f2 dL (fL pO (af (ai 6) (au))) (fC (.int 0)))) [some (.val (.int x)),none,none,some (.val (.str one)),none,some (.val (.lst W)),some (.own (wd ws)),none]=.ok (((ws.length:Int))==0):=by
     simp! only [cQ,kF,yO]
    dsimp only
    rw [fD,kO,pt,nQ]
    cases hb:((ws.length:Int)==0) with
    | false=>exact fin ws nd ‹0›
    | true =>
     have pk:=fun k:Ks=>nH (i:=6) (fk:=ai 3) (fv:=fC (.bl true)) (k:=k) (ρ:=[some (.val (.int x)),none,none,some (.val (.str one)),none,some (.val (.lst W)),some (.own (wd ws)),none]) (al:=xi ws) (q:=.inr one) (d:=.str one) (v:=.bl true) rfl rfl rfl rfl (by simp; omega)
     rw [if_pos rfl,pk,qY]
     exact fin (oU ws one) (ow one nd) (by have:=kX ws one; omega)
  obtain⟨d,ed,fd⟩:=key
  have mW:ia W=some (.lst W):=ym ‹0›
  refine⟨d,?_,fd⟩
  rw [<- hT]
  simp only [K0] at ed
  simp! only [hL,g3,h',d3,g26,e1,d78,e2,a1,a2,a3,m1,m2,hW,mW,uY,ed]
theorem FK (B:ca) (n:Nat) (a b c d e f:D):bv B 6 n [a,b,c,d,e,f]=B K0 (env0 n [a,b,c,d,e,f]):=nr rfl
abbrev fm (ps qs:List (Str×D)):D:=.tup [.tup (ps.map fld),.tup (qs.map fld)]
def Fj (Kd:D->Prop) (ps qs:List (Str×D)):Prop:=ps.length<=8/\qs.length<=8/\(∀ p∈ps,Flat p.2)/\∀ p∈qs,Kd p.2
def K3:Nat->D->Prop
 | 0,d=>Flat d
 | n+1,d=>Flat d\/∃ (ps qs:List (Str×D)) (b:Bool),d=.tup [.str "rows",fm ps qs,.bl b]/\Fj (K3 n) ps qs
def yp:D->Bool
 | .tup (.str x::_)=>x == "rows"
 | _=>false
theorem iu {k:D} (h:Flat k):yp k=false/\∃ x,aw k (.int 0)=some (.str x)/\(x==("rows":Str))=false:=by
 obtain⟨x,r,rfl,e,_⟩:=h
 exact⟨e,x,kQ _ _,e⟩
theorem zq {α:Type} {ρ:av} {g:GF} {C:av->R Bool} {Fe:FX} (mk:α->D) (p:α->Bool) (v:α->D):∀ xs:List α,(∀ a∈xs,∃ ρ1,g (mk a) ρ=some ρ1/\C ρ1=.ok (p a)/\(p a=true->Fe ρ1=.ok (v a))) ->
  Bc ρ g C Fe (xs.map mk)=.ok ((xs.filter p).map v)
 | [],_=>rfl
 | a::xs,h=>by
  obtain⟨ρ1,h1,h2,h3⟩:=h a MI
  rw [MU,rN,h1,eT,eM,h2,mJ,eM,zq mk p v xs fun b hb=>h b (MJ _ hb)]
  cases e:p a with
  | true=>rw [if_pos rfl,h3 e,mJ,eM,Oq e]; rfl
  | false=>rw [if_neg MS,Ot (by simp [e])]
def mx (a b:Int):Int:=if b > a then b else a
theorem vK (vs:List Int) (hp:∀ v∈vs,0 < v):∀ j,j+1<=vs.length->sI (fun k=>vs.getD k 0) (j+1)=(vs.take (j+1)).foldl mx 0
 | 0,h=>by
  cases vs with
  | nil=>simp at h
  | cons v vs =>
   have:=hp v MI
   show v=mx 0 v
   unfold mx
   rw [if_pos this]
 | j+1,h=>by
  have ih:=vK vs hp j ‹0›
  have e:vs.take (j+2)=vs.take (j+1)++[vs.getD (j+1) 0]:=by
   rw [NT,NF ‹0›,Ow,NF ‹0›]; rfl
  rw [e,List.foldl_append,<- ih]
  show (if _ then _ else _)=mx _ _
  rfl
theorem Bj (vs:List Int) (hp:∀ v∈vs,0 < v):(if vs.length=0 then 0 else sI (fun k=>vs.getD k 0) vs.length)=vs.foldl mx 0:=by
 cases vs with
 | nil=>rfl
 | cons v vs =>
  rw [if_neg (by simp)]
  have:=vK (v::vs) hp vs.length (by simp)
  rw [show (v::vs).length=vs.length+1 from rfl,this,OG (by simp)]
theorem GY (ps qs:List (Str×D)) (h1:ps.length<=8) (h2:qs.length<=8):bv gq 1 1 [fm ps qs]=.ok (.tup ((ps++qs).map (·.2))) :=
 kinds_ok _ _ (ps++qs) (by simp; omega) (by rw [NS])
end T4
namespace T4
open PySem PySem.Spec L2 TG TD
local macro_rules
 | `(tactic| simp! only [$xs,*])=>`(tactic| simp only [eM,tY,nQ,sO,mJ,eT,ge_0,A4,o6,Aa,oV,lL,ph,oZ,zR,zY,AO,zP,zV,pc,pA,sX,jU,lV,oQ,lx,tX,oS,oF,ly,oK,jC,o8,ju,jF,iC,iw,pD,lQ,iA,mh,jx,mr,lJ,fD,lX,jL,kO,lP,jt,iq,lR,lD,Ai,tH,Ae,zW,AC,oy,lF,o5,ml,lW,A0,Ay,OI,OJ,MU,Nk,Ny,NQ,K0,env0,List.replicate,Oe,MZ,N8,Nat.reduceAdd,Nat.reduceSub,MT,Nr,pB,oI,sM,oE,oW,oC,ir,pf,tJ,tG,ua,oA,jI,jT,jO,jM,jy,jR,kQ,rH,sV,ui,tM,ue,jS,jN,gK,gr,o9,iE,gI,gC,gE,o4,mX,gh,gd,jA,jr,my,me,jw,lE,oz,pF,lM,mw,gN,if_true,if_false,OL,OM,Nw,$xs,*])
def LT:List Nat:=("abcdefghijklmnopqrstuvwxyz":Str).cps.toList
theorem CF:∀ a < 26,∀ b < 26,LT[a]?=LT[b]?->a=b:=by decide +kernel
def stp (b:Int):Int:=([1,5,7,11,13,23]:List Int).getD (b%6).toNat 0
def kk (b k:Int):Int:=(k*stp b+b / 6)%24
def jz (b:Int):Int:=b / 144 / 24%(1+b / 144 / 3%8)
def zc (b k:Int) (w:Str):Prop :=
 (b / 144%3=0->w.length=(1+kk b k%8).toNat/\w.cps.toList[0]?=LT[((b / 144 / 3+kk b k / 8)%26).toNat]?) /\
 (b / 144%3≠0->w.cps.toList[(jz b).toNat]?=LT[((b / 144 / (24+11*jz b*jz b)+kk b k)%26).toNat]?)
theorem HR (b k:Int):0<=kk b k/\kk b k < 24:=⟨OO _ (by decide),OQ _ (by decide)⟩
theorem Fx {b k1 k2:Int} (a1:0<=k1) (a2:k1 < 24) (b1:0<=k2) (b2:k2 < 24) (h:kk b k1=kk b k2):k1=k2:=by
 unfold kk stp at h
 rcases(show b%6=0\/b%6=1\/b%6=2\/b%6=3\/b%6=4\/b%6=5 by omega) with z | z | z | z | z | z <;> rw [z] at h <;> simp at h <;> omega
theorem yY {b k1 k2:Int} {w:Str} (a1:0<=k1) (a2:k1 < 24) (b1:0<=k2) (b2:k2 < 24) (h1:zc b k1 w) (h2:zc b k2 w):k1=k2:=by
 refine Fx (b:=b) a1 a2 b1 b2 ?_
 have q1:=HR b k1
 have q2:=HR b k2
 by_cases z:b / 144%3=0
 ·obtain⟨l1,e1⟩:=h1.1 z
  obtain⟨l2,e2⟩:=h2.1 z
  have:=CF _ ‹0› _ ‹0› (e1.symm.trans e2)
  omega
 ·have:=CF _ ‹0› _ ‹0› ((h1.2 z).symm.trans (h2.2 z))
  omega
theorem yq (x:Str) (h:x.length<=1000) (i:Int) (h0:0<=i) (h1:i < x.length):∃ y:Str,y.length=1/\y.cps.toList[0]?=x.cps.toList[i.toNat]?/\aw (.str x) (.int i)=some (.str y):=by
 have hl:x.cps.toList.length=x.length:=by simp [Str.length]
 have hi:i < x.cps.toList.length:=by omega
 have hn:i.toNat < x.cps.toList.length:=by omega
 refine⟨⟨#[x.cps.toList[i.toNat]'hn]⟩,rfl,?_,?_⟩
 ·rw [NF hn]; rfl
 ·show (if small x.length then (nF x.cps.toList i).bind fun c=>some (D.str ⟨#[c]⟩) else none)=_
  rw [dW ‹0›,if_pos rfl,nX h0 hi]; rfl
theorem ub (c:Array Nat) (hc:0 < c.size):∀ (n:Nat) (a:Array Nat),((List.replicate n c).foldl (·++·) a).toList[0]?=if a.size=0 then (if n=0 then none else c.toList[0]?) else a.toList[0]?
 | 0,a=>by
  rw [Oe,List.foldl_nil]
  split
  ·rename_i h; simp [h]
  ·rfl
 | n+1,a=>by
  rw [Oh,Oi,ub c hc n (a++c)]
  have:¬ (a++c).size=0:=by rw [Array.size_append]; omega
  rw [if_neg this,Array.toList_append]
  by_cases h:a.size=0
  ·rw [if_pos h,if_neg ‹0›,M3 (by simp [h])]
   simp [h]
  ·rw [if_neg h,M5 (by simp; omega)]
theorem Bn {y:Str} {n:Int} (h:1<=n) (hy:y.length=1):(iX y n).cps.toList[0]?=y.cps.toList[0]?:=by
 unfold iX
 split
 ·rfl
 ·have hc:0 < y.cps.size:=by have:y.cps.size=1:=hy; omega
  rw [ub y.cps hc n.toNat #[]]
  split
  ·rw [if_neg ‹0›]
  ·rename_i z; exact absurd rfl z
theorem zr (x y:Str):(x++y).cps.toList=x.cps.toList++y.cps.toList:=by
 show (x.cps++y.cps).toList=_
 rw [Array.toList_append]
theorem uQ (x:Str):x.cps.toList.length=x.length:=by simp [Str.length]
theorem j9 (b k:Int) (hb:0<=b) (hk:0<=k):∃ w:Str,bv aK 2 7 [.int b,.int k]=.ok (.str w)/\zc b k w:=by
 have LL:(("abcdefghijklmnopqrstuvwxyz":Str)).length=26:=by decide +kernel
 have hLT:LT=("abcdefghijklmnopqrstuvwxyz":Str).cps.toList:=rfl
 generalize hL:("abcdefghijklmnopqrstuvwxyz":Str)=L at LL hLT
 have g3:=fun i=>bz (i:=i) (show (0:Int) < 3 by decide)
 have g6:=fun i=>bz (i:=i) (show (0:Int) < 6 by decide)
 have g8:=fun i=>bz (i:=i) (show (0:Int) < 8 by decide)
 have g24:=fun i=>bz (i:=i) (show (0:Int) < 24 by decide)
 have g26:=fun i=>bz (i:=i) (show (0:Int) < 26 by decide)
 have d3:=fun i=>bO (i:=i) (show (0:Int) < 3 by decide) (show (3:Int) < 10 ^ 200 by decide)
 have d6:=fun i=>bO (i:=i) (show (0:Int) < 6 by decide) (show (6:Int) < 10 ^ 200 by decide)
 have d8:=fun i=>bO (i:=i) (show (0:Int) < 8 by decide) (show (8:Int) < 10 ^ 200 by decide)
 have d24:=fun i=>bO (i:=i) (show (0:Int) < 24 by decide) (show (24:Int) < 10 ^ 200 by decide)
 have d144:=fun i=>bO (i:=i) (show (0:Int) < 144 by decide) (show (144:Int) < 10 ^ 200 by decide)
 obtain⟨st,hst,hstp,est⟩:∃ st:Int,(0<=st/\st<=25)/\stp b=st/\aw (.lst [.int 1,.int 5,.int 7,.int 11,.int 13,.int 23]) (.int (b%6))=some (.int st):=by
  rcases(show b%6=0\/b%6=1\/b%6=2\/b%6=3\/b%6=4\/b%6=5 by omega) with z | z | z | z | z | z <;> rw [z]
  ·exact⟨1,by decide,by unfold stp; rw [z]; rfl,rfl⟩
  ·exact⟨5,by decide,by unfold stp; rw [z]; rfl,rfl⟩
  ·exact⟨7,by decide,by unfold stp; rw [z]; rfl,rfl⟩
  ·exact⟨11,by decide,by unfold stp; rw [z]; rfl,rfl⟩
  ·exact⟨13,by decide,by unfold stp; rw [z]; rfl,rfl⟩
  ·exact⟨23,by decide,by unfold stp; rw [z]; rfl,rfl⟩
 have l6:∀ a b c d e f:D,ia [a,b,c,d,e,f]=some (.lst [a,b,c,d,e,f]):=fun _ _ _ _ _ _=>rfl
 have ms:=lA (i:=k) (j:=st) ‹0› ‹0›
 have hkk:kk b k=(k*st+b / 6)%24:=by unfold kk; rw [hstp]
 generalize hk':(k*st+b / 6)%24=k' at hkk
 have k1:0<=k'/\k' < 24:=by omega
 have hP:∀ w,zc b k w=((b / 144%3=0->w.length=(1+kk b k%8).toNat/\w.cps.toList[0]?=LT[((b / 144 / 3+kk b k / 8)%26).toNat]?)/\(b / 144%3≠0->w.cps.toList[(jz b).toNat]?=LT[((b / 144 / (24+11*jz b*jz b)+kk b k)%26).toNat]?)):=fun _=>rfl
 have hj:jz b=b / 144 / 24%(1+b / 144 / 3%8):=rfl
 generalize hb':b / 144=b' at hP hj
 generalize jz b=j0 at hP hj
 rw [hkk] at hP
 simp only [hP]
 have b0:0<=b':=by omega
 rw [mV]; unfold aK
 by_cases h:b'%3=0
 ·have h':(b'%3==0)=true:=by simp [h]
  obtain⟨y,hy,hy0,e1⟩:=yq L ‹0› ((b' / 3+k' / 8)%26) ‹0› ‹0›
  have mu:=yn (x:=y) (n:=1+k'%8) ‹0› ‹0› ‹0›
  refine⟨iX y (1+k'%8),?_,fun _=>⟨by rw [vN ‹0›,hy,Nat.mul_one],by rw [Bn ‹0› hy,hy0,hLT]⟩,fun z=>absurd h z⟩
  simp! only [hL,g6,l6,est,ms,d6,g24,hk',d144,hb',g3,h',d3,d8,g26,e1,g8,mu]
 ·have h':(b'%3==0)=false:=by simp [h]
  obtain⟨n,hn,hn1,hn2⟩:∃ n:Nat,1+b' / 3%8=(n:Int)/\1<=n/\n<=8:=⟨(1+b' / 3%8).toNat,by omega,by omega,by omega⟩
  rw [hn] at hj
  have hj1:0<=j0/\j0 < (n:Int):=by rw [hj]; exact⟨OO _ ‹0›,OQ _ ‹0›⟩
  have rn:=fe n ‹0›
  obtain⟨T,hT⟩:∃ T:ca,T=(aE (jj (dz (af (ai 3) (au))) (gN 5) (aE (bi 6 (f2 cx (ai 0) (f2 bD (fC (.int 24)) (f2 mC (f2 mC (fC (.int 11)) (ai 5)) (ai 5))))) (aE (eY (fB (f2 dL (ai 5) (f2 bN (f2 cx (ai 0) (fC (.int 24))) (ai 3)))) (bi 6 (f2 bD (ai 6) (ai 1))) (bI)) (aE (bi 4 (f2 bD (ai 4) (f2 aw (ai 2) (f2 bN (ai 6) (fC (.int 26)))))) (cI [5,6] bI))))) (bT (ai 4))):=⟨_,rfl⟩
  have key:∃ w:Str,(w.cps.toList[j0.toNat]?=LT[((b' / (24+11*j0*j0)+k')%26).toNat]?)/\T K0 [some (.val (.int b')),some (.val (.int k')),some (.val (.str L)),some (.val (.int n)),some (.val (.str "")),none,none]=.ok (.str w):=by
   rw [hT,fD,iq]
   simp! only [rn]
   refine ig (Q:=fun z=>∃ w:Str,(w.cps.toList[j0.toNat]?=LT[((b' / (24+11*j0*j0)+k')%26).toNat]?)/\z=.ok (.str w)) (fun i ρ=>∃ w:Str,w.length=i/\(j0 < (i:Int)->w.cps.toList[j0.toNat]?=LT[((b' / (24+11*j0*j0)+k')%26).toNat]?)/\ρ=[some (.val (.int b')),some (.val (.int k')),some (.val (.str L)),some (.val (.int n)),some (.val (.str w)),none,none]) ?_ ?_ ?_
   ·rintro i d ρ kx hd ⟨w,hw,hw2,rfl⟩
    have hi:=fj hd
    rw [cj] at hi
    have hdi:d=.int (i:Int):=by
     rw [fu,M6,NW hi] at hd
     cases hd; simp
    subst hdi
    have m1:=qm (i:=11) (j:=(i:Int)) (by decide) (by decide)
    have m2:=lA (i:=11*(i:Int)) (j:=(i:Int)) ‹0› ‹0›
    have ii:0<=11*(i:Int)*(i:Int):=Int.mul_nonneg ‹0› ‹0›
    have ii2:11*(i:Int)*(i:Int)<=11*8*8:=Int.mul_le_mul ‹0› ‹0› ‹0› (by decide)
    have dd:=fun z=>bO (i:=z) (show (0:Int) < 24+11*(i:Int)*(i:Int) by omega) (show 24+11*(i:Int)*(i:Int) < 10 ^ 200 by
     have:(10:Int) ^ 200 > 10000:=by decide +kernel
     omega)
    have gn:=fun z=>bz (i:=z) (show (0:Int) < (n:Int) by omega)
    generalize hs:b' / (24+11*(i:Int)*(i:Int))=s
    by_cases hq:((i:Int)==b' / 24%(n:Int))=true
    ·obtain⟨y,hy,hy0,e1⟩:=yq L ‹0› ((s+k')%26) ‹0› ‹0›
     have ad:=dR w y ‹0› ‹0›
     refine⟨_,_,rfl,⟨w++y,by rw [yV]; omega,fun _=>?_,rfl⟩,?_⟩
     ·have eq:(i:Int)=b' / 24%(n:Int):=by simpa using hq
      rw [<- hj] at eq
      subst eq
      rw [zr,M3 (by rw [uQ]; omega),uQ,hw,M9,Od,hy0,hLT,<- hs]
     simp! only [m1,m2,dd,hs,d24,gn,hq,g26,e1,ad]
    ·have hq':((i:Int)==b' / 24%(n:Int))=false:=by simpa using hq
     obtain⟨y,hy,hy0,e1⟩:=yq L ‹0› (s%26) ‹0› ‹0›
     have ad:=dR w y ‹0› ‹0›
     refine⟨_,_,rfl,⟨w++y,by rw [yV]; omega,fun z=>?_,rfl⟩,?_⟩
     ·have ne:j0≠(i:Int):=fun q=>hq (by rw [<- q,<- hj]; simp)
      rw [zr,M5 (by rw [uQ]; omega)]
      exact hw2 ‹0›
     simp! only [m1,m2,dd,hs,d24,gn,hq',g26,e1,ad]
   ·exact⟨"",by decide +kernel,fun z=>by omega,rfl⟩
   ·rintro ρ' ⟨w,hw,hw2,rfl⟩
    rw [cj] at hw2
    exact⟨w,hw2 ‹0›,by simp! only []⟩
  obtain⟨w,hw,ew⟩:=key
  refine⟨w,?_,fun z=>absurd z h,fun _=>hw⟩
  rw [<- hT]
  simp only [K0] at ew
  simp! only [hL,g6,l6,est,ms,d6,g24,hk',d144,hb',g3,h',d3,g8,hn,ew]
end T4
namespace Tk55
open PySem PySem.Spec L2 TG TX TD
def top (i:Nat):QA:=PySem.Challenge.pw_twoglass_k55_gathers_refused.main.body.getD i (.Pass ⟨0,0,0,0⟩)
abbrev dI:QA:=inClass (top 30) 0
theorem nE:bh ["self","name"] ["self","name"] (aB dI):=‹2›
abbrev fS:QA:=top 45
theorem mK:bh ["_law_error","_law_marks","_law_some"] ["_law_error"] (aB fS):=‹2›
def cJ:ca:=aE (bi 1 (dN (af (f1 (eQ [("Twice",false),("NoKind",false),("Nothing",false),("TooMany",false)]) (ai 0)) (af (f1 (eQ [("Twice",false),("NoKind",false),("Nothing",false),("TooMany",false)]) (ai 0)) (af (f1 (eQ [("Twice",false),("NoKind",false),("Nothing",false),("TooMany",false)]) (ai 0)) (au)))))) (aE (bi 1 (f2 bD (ai 1) (dN (af (f1 (eQ [("Twice",true),("NoKind",false),("Nothing",false),("TooMany",false)]) (ai 0)) (af (f1 (eQ [("Twice",false),("NoKind",true),("Nothing",false),("TooMany",false)]) (ai 0)) (af (f1 (eQ [("Twice",false),("NoKind",false),("Nothing",true),("TooMany",false)]) (ai 0)) (au))))))) (aE (bi 1 (f2 bD (ai 1) (dN (af (f1 (eQ [("Twice",false),("NoKind",false),("Nothing",false),("TooMany",false)]) (ai 0)) (af (f1 (eQ [("Twice",false),("NoKind",false),("Nothing",false),("TooMany",true)]) (ai 0)) (af (f1 (eQ [("Twice",false),("NoKind",false),("Nothing",false),("TooMany",false)]) (ai 0)) (au))))))) (aE (lm 1 (f2 tV (ai 1) (dN (af (f1 (eQ [("Twice",false),("NoKind",false),("Nothing",false),("TooMany",false)]) (ai 0)) (af (f1 (eQ [("Twice",false),("NoKind",false),("Nothing",false),("TooMany",false)]) (ai 0)) (af (f1 (eQ [("Twice",false),("NoKind",false),("Nothing",false),("TooMany",false)]) (ai 0)) (au))))))) (aE (uz 1 jV (af (f1 (eQ [("Twice",false),("NoKind",false),("Nothing",false),("TooMany",false)]) (ai 0)) (au))) (iS 1 (aE (eY (xW (fB (f2 uh (ya (ai 1) (af (fC (.bl true)) (au))) (fC (.int 1)))) (Ee (rG (f1 (eQ [("Twice",true),("NoKind",true),("Nothing",true),("TooMany",true)]) (ai 0))))) (bT (fC (.str "odd"))) (bI)) (aE (bi 2 (dN (af (fC (.str "form")) (af (fC (.str "table")) (af (fC (.str "field")) (af (fC (.str "twice")) (af (fC (.str "kind")) (af (fC (.str "nothing")) (af (fC (.str "key")) (af (fC (.str "many")) (af (fC (.str "blind")) (af (fC (.str "torn")) (af (fC (.str "stale")) (af (fC (.str "pane")) (au))))))))))))))) (bT (f2 aw (f2 bD (ai 2) (dN (af (fC (.str "text")) (au)))) (xR (ai 1) (af (fC (.bl true)) (au))))))))))))
abbrev eE:QA:=inClass (top 27) 1
theorem nI:bh ["self","one","other"] ["self","one","other"] (aB eE):=‹2›
def cN:ca:=bT (ai 1)
abbrev jY:QA:=top 17
theorem vF:bh ["form"] ["form"] (aB jY):=‹2›
abbrev iQ:QA:=top 25
theorem v4:bh ["form"] ["form"] (aB iQ):=‹2›
def kt (bu:List D->R D):ca:=bT (f1 (rq 0) (iW [none] (bC (fR (bv gq 1 1) (af (ai 0) (au)))) (gN 0) (fB (f2 dL (f2 aw (ai 0) (fC (.int 0))) (fC (.str "rows")))) (f2 bD (fC (.int 1)) (fR bu (af (f2 aw (ai 0) (fC (.int 1))) (au))))))
def bu:Nat->List D->R D
 | 0=>fun _=>un
 | n+1=>bv (kt (bu n)) 1 1
theorem gY (n:Nat):bu (n+1)=bv (kt (bu n)) 1 1:=by rw [bu]
theorem mH:∀ n:Nat,Ar 1 (bu n)
 | 0=>fun _ h=>absurd (by rw [bu]) h
 | n+1=>by rw [gY]; exact aZ
abbrev km:QA:=top 24
theorem wI:bh ["form"] ["form"] (aB km):=‹2›
abbrev ic:QA:=top 20
theorem sE:bh ["one","other","words"] ["one","other"] (aB ic):=‹2›
def fP:ca:=aE (bi 2 (fL cg (af (iW [none,some 1] (bC (f2 aw (ai 0) (fC (.int 1)))) (gN 0) (fB (f2 Cr (ai 0) (f2 aw (ai 1) (fC (.int 1))))) (ai 0)) (au)))) (bT (Hm (rG (ai 2)) (bb (af (fC (.str "word")) (af (ai 2) (au)))) (fC .non)))
abbrev fI:QA:=top 19
theorem pW:bh ["one","other","low","high"] ["one","other"] (aB fI):=‹2›
def dX:ca:=aE (bi 2 (fL rT (af (f2 aw (ai 0) (fC (.int 1))) (af (f2 aw (ai 1) (fC (.int 1))) (au))))) (aE (bi 3 (fL pJ (af (f2 aw (ai 0) (fC (.int 2))) (af (f2 aw (ai 1) (fC (.int 2))) (au))))) (bT (Hm (fB (f2 JK (ai 2) (ai 3))) (bb (af (fC (.str "number")) (af (ai 2) (af (ai 3) (au))))) (fC .non))))
abbrev vi:QA:=top 18
theorem DB:bh ["one","other"] ["one","other"] (aB vi):=‹2›
def oH:ca:=aE (eY (fB (f2 uh (f2 aw (ai 0) (fC (.int 0))) (f2 aw (ai 1) (fC (.int 0))))) (bT (fC .non)) (bI)) (aE (eY (fB (f2 dL (f2 aw (ai 0) (fC (.int 0))) (fC (.str "number")))) (bT (fR (bv dX 2 4) (af (ai 0) (af (ai 1) (au))))) (bI)) (aE (eY (fB (f2 dL (f2 aw (ai 0) (fC (.int 0))) (fC (.str "word")))) (bT (fR (bv fP 2 3) (af (ai 0) (af (ai 1) (au))))) (bI)) (bT (fC .non))))
abbrev ip:QA:=top 28
theorem sv:bh ["one","other","kinds"] ["one","other"] (aB ip):=‹2›
def eD:ca:=aE (eY (fB (f2 uh (iW [none] (bC (ai 0)) (gN 0) (cW) (f2 aw (ai 0) (fC (.int 0)))) (iW [none] (bC (ai 1)) (gN 0) (cW) (f2 aw (ai 0) (fC (.int 0)))))) (ke "NoKind" (af (fC (.str "the keys have not the same names in the same order")) (au))) (bI)) (aE (eY (fB (f2 uh (iW [none] (bC (ai 0)) (gN 0) (cW) (f2 aw (f2 aw (ai 0) (fC (.int 1))) (fC (.int 0)))) (iW [none] (bC (ai 1)) (gN 0) (cW) (f2 aw (f2 aw (ai 0) (fC (.int 1))) (fC (.int 0)))))) (ke "NoKind" (af (fC (.str "two kinds of one name are not of the same sort")) (au))) (bI)) (aE (bi 2 (iW [none,none] (vB (af (ai 0) (af (ai 1) (au)))) (gT 2 (e7 [0,1])) (cW) (fR (bv oH 2 2) (af (f2 aw (ai 0) (fC (.int 1))) (af (f2 aw (ai 1) (fC (.int 1))) (au)))))) (aE (eY (fB (f2 Cr (fC .non) (ai 2))) (ke "Nothing" (af (fC (.str "of some field no value is in both")) (au))) (bI)) (bT (fL cg (af (iW [none,none] (vB (af (ai 0) (af (ai 2) (au)))) (gT 2 (e7 [0,1])) (cW) (bb (af (f2 aw (ai 0) (fC (.int 0))) (af (ai 1) (au))))) (au)))))))
abbrev dA:QA:=inClass (top 30) 2
theorem mD:bh ["self","one","other","many","key","inner"] ["self","one","other"] (aB dA):=‹2›
def aP:ca:=aE (bi 3 (fL fW (af (f2 aw (ai 1) (fC (.int 0))) (au)))) (aE (eY (fB (f2 JK (fL fW (af (f2 aw (ai 2) (fC (.int 0))) (au))) (ai 3))) (ke "NoKind" (af (fC (.str "the other key has no more fields than the first")) (au))) (bI)) (aE (bi 4 (fR (bv eD 2 3) (af (f2 aw (ai 1) (fC (.int 0))) (af (iI (f2 aw (ai 2) (fC (.int 0))) (fT) (kM (ai 3))) (au))))) (aE (eY (fB (f2 Cr (f1 (BM "name" ["Gather"]) (ai 0)) (fR (bv iV 1 1) (af (ai 1) (au))))) (ke "Twice" (af (fC (.str "a field of the first form has the name")) (au))) (bI)) (aE (bi 5 (bb (af (iI (f2 aw (ai 2) (fC (.int 0))) (kM (ai 3)) (fT)) (af (f2 aw (ai 2) (fC (.int 1))) (au))))) (aE (eY (xW (fB (f2 J9 (fL fW (af (f2 aw (ai 1) (fC (.int 1))) (au))) (fC (.int 8)))) (fB (f2 J9 (fR (bu 12) (af (ai 5) (au))) (fC (.int 3))))) (ke "TooMany" (af (fC (.str "more than 8 fields in the rest, or more than three kinds rows within one another")) (au))) (bI)) (bT (bb (af (ai 4) (af (f2 bD (f2 aw (ai 1) (fC (.int 1))) (bb (af (bb (af (f1 (BM "name" ["Gather"]) (ai 0)) (af (bb (af (fC (.str "rows")) (af (ai 5) (af (fC (.bl false)) (au))))) (au)))) (au)))) (au))))))))))
abbrev il:QA:=top 48
theorem rW:bh ["_law_one","_law_other","_law_name_here","_law_found_here","e"] ["_law_one","_law_other","_law_name_here"] (aB il):=‹2›
def bX:ca:=aE (bi 3 (fC (.str "none"))) (aE (Dt ["Twice","NoKind","Nothing","TooMany"] 4 (yy (uf "view_form" [("Pair",(bv cN 3 3)),("Gather",(bv aP 3 6))] (fNew "Gather" ["name"] (af (ai 2) (au))) (af (ai 0) (af (ai 1) (au))))) (bi 3 (fR (Dr (bv cJ 1 3)) (af (ai 4) (au))))) (bT (ai 3)))
abbrev gQ:QA:=top 46
theorem uH:bh ["_law_form_here","_law_found_here","_law_name_here","_law_kind_here"] ["_law_form_here"] (aB gQ):=‹2›
def ja (aV:List D->R D):ca:=aE (bi 1 (fC (.int 0))) (aE (jj (bC (f2 aw (ai 0) (fC (.int 1)))) (gT 2 (e7 [2,3])) (aE (eY (fB (f2 dL (f2 aw (ai 3) (fC (.int 0))) (fC (.str "rows")))) (bi 1 (fL rT (af (ai 1) (af (f2 bD (fC (.int 1)) (fR aV (af (f2 aw (ai 3) (fC (.int 1))) (au)))) (au))))) (bI)) (cI [2,3] bI))) (bT (ai 1)))
def aV:Nat->List D->R D
 | 0=>fun _=>un
 | n+1=>bv (ja (aV n)) 1 4
theorem gF (n:Nat):aV (n+1)=bv (ja (aV n)) 1 4:=by rw [aV]
theorem iH:∀ n:Nat,Ar 1 (aV n)
 | 0=>fun _ h=>absurd (by rw [aV]) h
 | n+1=>by rw [gF]; exact aZ
abbrev fO:QA:=top 41
theorem qb:bh ["_law_one","_law_other"] ["_law_one","_law_other"] (aB fO):=‹2›
def du:ca:=aE (eY (fB (f2 dL (f2 aw (ai 0) (fC (.int 0))) (fC (.str "number")))) (bT (bb (af (fC (.str "number")) (af (fL rT (af (f2 aw (ai 0) (fC (.int 1))) (af (f2 aw (ai 1) (fC (.int 1))) (au)))) (af (fL pJ (af (f2 aw (ai 0) (fC (.int 2))) (af (f2 aw (ai 1) (fC (.int 2))) (au)))) (au)))))) (bI)) (bT (bb (af (fC (.str "word")) (af (fL cg (af (iW [none,some 1] (bC (f2 aw (ai 0) (fC (.int 1)))) (gN 0) (fB (f2 Cr (ai 0) (f2 aw (ai 1) (fC (.int 1))))) (ai 0)) (au))) (au)))))
abbrev kg:QA:=top 47
theorem vJ:bh ["_law_one","_law_other","_law_name_here","_law_many","_law_first","_law_last","_law_meet"] ["_law_one","_law_other","_law_name_here"] (aB kg):=‹2›
def gb:ca:=aE (bi 3 (fL fW (af (f2 aw (ai 0) (fC (.int 0))) (au)))) (aE (eY (fB (f2 JK (fL fW (af (f2 aw (ai 1) (fC (.int 0))) (au))) (ai 3))) (bT (fC (.str "kind"))) (bI)) (cI [3] (aE (jj (vB (af (f2 aw (ai 0) (fC (.int 0))) (af (f2 aw (ai 1) (fC (.int 0))) (au)))) (gT 2 (e7 [4,5])) (aE (eY (xW (fB (f2 uh (f2 aw (ai 4) (fC (.int 0))) (f2 aw (ai 5) (fC (.int 0))))) (fB (f2 uh (f2 aw (f2 aw (ai 4) (fC (.int 1))) (fC (.int 0))) (f2 aw (f2 aw (ai 5) (fC (.int 1))) (fC (.int 0)))))) (bT (fC (.str "kind"))) (bI)) (cI [4,5] bI))) (cI [3,4,5] (aE (jj (vB (af (f2 aw (ai 0) (fC (.int 0))) (af (f2 aw (ai 1) (fC (.int 0))) (au)))) (gT 2 (e7 [4,5])) (aE (bi 6 (fR (bv du 2 2) (af (f2 aw (ai 4) (fC (.int 1))) (af (f2 aw (ai 5) (fC (.int 1))) (au))))) (aE (eY (xW (nB (fB (f2 dL (f2 aw (ai 6) (fC (.int 0))) (fC (.str "number")))) (fB (f2 Ba (f2 aw (ai 6) (fC (.int 1))) (f2 aw (ai 6) (fC (.int 2)))))) (fB (f2 dL (ai 6) (bb (af (fC (.str "word")) (af (bb (au)) (au))))))) (bT (fC (.str "nothing"))) (bI)) (cI [4,5,6] bI)))) (aE (eY (fB (f2 Cr (ai 2) (iW [none,none] (bC (f2 bD (f2 aw (ai 0) (fC (.int 0))) (f2 aw (ai 0) (fC (.int 1))))) (gT 2 (e7 [0,1])) (cW) (ai 0)))) (bT (fC (.str "twice"))) (bI)) (aE (eY (xW (fB (f2 Ba (fL fW (af (f2 aw (ai 0) (fC (.int 1))) (au))) (fC (.int 7)))) (xW (fB (f2 Ba (fR (aV 12) (af (ai 0) (au))) (fC (.int 3)))) (fB (f2 Ba (fR (aV 12) (af (ai 1) (au))) (fC (.int 2)))))) (bT (fC (.str "many"))) (bI)) (bT (fC (.str "none"))))))))))
abbrev i5:QA:=top 33
theorem uF:bh ["_law_x"] ["_law_x"] (aB i5):=‹2›
abbrev fH:QA:=top 32
theorem p4:bh ["_law_script","_law_k"] ["_law_script","_law_k"] (aB fH):=‹2›
abbrev iZ:QA:=top 34
theorem uE:bh ["_law_script","_law_k","_law_x"] ["_law_script","_law_k"] (aB iZ):=‹2›
abbrev jh:QA:=top 35
theorem vx:bh ["_law_base","_law_k","_law_letters","_law_size","_law_name_here","_law_j","_law_step"] ["_law_base","_law_k"] (aB jh):=‹2›
abbrev jd:QA:=top 50
theorem uU:bh ["_law_rest","_law_names","_law_base","_law_x","_law_name_here","_law_kind_here","_law_k","_law_form_here"] ["_law_rest","_law_names","_law_base","_law_x"] (aB jd):=‹2›
def fg:ca:=aE (lm 0 (fL pH (af (ai 0) (au)))) (aE (jj (bC (ai 1)) (gN 4) (aE (eY (dQ [0] (nB (fB (f2 sr (fL fW (af (ai 0) (au))) (fC (.int 8)))) (nB (fB (f2 dL (f2 bN (f2 cx (ai 3) (fC (.int 9))) (fC (.int 2))) (fC (.int 0)))) (fB (f2 jl (ai 4) (iW [none,none] (bC (ai 0)) (gT 2 (e7 [0,1])) (cW) (ai 0))))))) (uz 0 jV (af (bb (af (ai 4) (af (bb (af (fC (.str "number")) (af (fC (.int 0)) (af (f2 bN (ai 3) (fC (.int 9))) (au))))) (au)))) (au))) (bI)) (cI [4,5] bI))) (aE (bi 5 (bb (af (fC (.str "word")) (af (bb (af (fC (.str "a")) (af (fC (.str "b")) (au)))) (au))))) (cI [1,4] (aE (jj (dz (af (f2 bN (f2 cx (ai 3) (fC (.int 18))) (fC (.int 4))) (au))) (gN 6) (aE (bi 7 (bb (af (bb (af (bb (af (fR (bv aK 2 7) (af (ai 2) (af (ai 6) (au)))) (af (bb (af (fC (.str "number")) (af (fC (.int 0)) (af (fC (.int 3)) (au))))) (au)))) (au))) (af (bb (af (bb (af (fR (bv aK 2 7) (af (ai 2) (af (fC (.int 9)) (au)))) (af (ai 5) (au)))) (au))) (au))))) (aE (bi 5 (bb (af (fC (.str "rows")) (af (ai 7) (af (f2 dL (f2 bN (ai 6) (fC (.int 2))) (fC (.int 0))) (au)))))) (cI [6,7] bI)))) (aE (eY (dQ [0] (nB (fB (f2 Ba (fL fW (af (ai 0) (au))) (fC (.int 0)))) (fB (f2 dL (f2 bN (f2 cx (ai 3) (fC (.int 72))) (fC (.int 2))) (fC (.int 1)))))) (iN 0 (pZ (fC (.int 1))) (bb (af (f2 aw (j6 0 (pZ (fC (.int 1)))) (fC (.int 0))) (af (ai 5) (au))))) (bI)) (iS 0 (bT (fL cg (af (ai 0) (au))))))))))
abbrev fF:QA:=top 49
theorem pY:bh ["_law_key","_law_first","_law_x","_law_spare","_law_at","_law_kind_here","_law_way","_law_near"] ["_law_key","_law_first","_law_x","_law_spare"] (aB fF):=‹2›
def dS:ca:=aE (lm 0 (fL pH (af (ai 0) (au)))) (aE (bi 4 (sL [0] (f2 bN (f2 cx (ai 2) (fC (.int 8))) (fL fW (af (ai 0) (au)))))) (aE (bi 5 (f2 aw (j6 0 (ai 4)) (fC (.int 1)))) (aE (bi 6 (f2 bN (ai 2) (fC (.int 8)))) (aE (eY (dQ [0] (nB (fB (f2 dL (ai 6) (fC (.int 0)))) (fB (f2 Ba (fL fW (af (ai 0) (au))) (fC (.int 1)))))) (uz 0 AH au) (bI)) (aE (eY (dQ [0] (nB (fB (f2 dL (ai 6) (fC (.int 1)))) (fB (f2 Ba (fL fW (af (ai 0) (au))) (fC (.int 1)))))) (uz 0 pC (af (ai 4) (au))) (bI)) (aE (eY (fB (f2 dL (ai 6) (fC (.int 2)))) (lm 0 (oN [0] (f2 tV (iI (ai 0) (kM (fC (.int 1))) (fT)) (iI (ai 0) (fT) (kM (fC (.int 1))))))) (bI)) (aE (eY (fB (f2 dL (ai 6) (fC (.int 3)))) (iN 0 (ai 4) (bb (af (ai 3) (af (ai 5) (au))))) (bI)) (aE (eY (fB (f2 dL (ai 6) (fC (.int 4)))) (iN 0 (ai 4) (bb (af (f2 aw (j6 0 (ai 4)) (fC (.int 0))) (af (f2 aw (dN (af (bb (af (fC (.str "number")) (af (fC (.int 0)) (af (fC (.int 9)) (au))))) (af (bb (af (fC (.str "word")) (af (bb (af (fC (.str "")) (af (fC (.str "a")) (au)))) (au)))) (au)))) (fL pI (af (f2 dL (f2 aw (ai 5) (fC (.int 0))) (fC (.str "number"))) (au)))) (au))))) (bI)) (aE (eY (fB (f2 dL (ai 6) (fC (.int 5)))) (aE (bi 7 (f2 aw (f2 aw (ai 1) (f2 bN (ai 4) (fL fW (af (ai 1) (au))))) (fC (.int 1)))) (aE (iN 0 (ai 4) (bb (af (f2 aw (j6 0 (ai 4)) (fC (.int 0))) (af (bb (af (fC (.str "word")) (af (bb (af (fC (.str "zzzzzzz")) (au))) (au)))) (au))))) (eY (fB (f2 dL (f2 aw (ai 7) (fC (.int 0))) (fC (.str "number")))) (iN 0 (ai 4) (bb (af (f2 aw (j6 0 (ai 4)) (fC (.int 0))) (af (bb (af (fC (.str "number")) (af (f2 bD (f2 aw (ai 7) (fC (.int 2))) (fC (.int 1))) (af (f2 bD (f2 aw (ai 7) (fC (.int 2))) (fC (.int 3))) (au))))) (au))))) (bI)))) (bI)) (iS 0 (bT (fL cg (af (ai 0) (au))))))))))))))
abbrev cX:QA:=top 44
theorem kA:bh ["_law_one","_law_other","_law_script","_law_x","_law_base","_law_taken","_law_some"] ["_law_one","_law_other","_law_script"] (aB cX):=‹2›
def cG:ca:=aE (bi 3 (fR (bv bm 1 1) (af (fR (bv bR 2 3) (af (ai 2) (af (fC (.int 1)) (au)))) (au)))) (aE (bi 4 (f2 bN (f2 mC (fR (bv bB 2 2) (af (ai 2) (af (fC (.int 1)) (au)))) (fC (.int 48271))) (fC (.int 2147483647)))) (aE (bi 5 (iW [none,none] (bC (f2 bD (f2 aw (ai 0) (fC (.int 0))) (f2 aw (ai 0) (fC (.int 1))))) (gT 2 (e7 [0,1])) (cW) (ai 0))) (aE (bi 6 (f2 bD (iW [none,none] (bC (f2 bD (f2 aw (ai 1) (fC (.int 0))) (f2 aw (ai 1) (fC (.int 1))))) (gT 2 (e7 [0,1])) (cW) (ai 0)) (dN (af (fR (bv aK 2 7) (af (ai 4) (af (fC (.int 22)) (au)))) (af (fR (bv aK 2 7) (af (ai 4) (af (fC (.int 23)) (au)))) (au)))))) (aE (bi 6 (iW [none,some 5] (bC (ai 6)) (gN 0) (fB (f2 jl (ai 0) (ai 1))) (ai 0))) (bT (f2 aw (ai 6) (f2 bN (ai 3) (fL fW (af (ai 6) (au))))))))))
abbrev ik:QA:=top 36
theorem rX:bh ["_law_x","_law_low","_law_letters","_law_one","_law_other","_law_some","_law_kept","_law_k"] ["_law_x"] (aB ik):=‹2›
abbrev gO:QA:=top 37
theorem vw:bh ["_law_x","_law_base","_law_deep_here","_law_inner"] ["_law_x","_law_base","_law_deep_here"] (aB gO):=‹2›
abbrev gR:QA:=top 38
theorem uV:bh ["_law_x","_law_base","_law_start","_law_many","_law_more_here","_law_deep_here","_law_key","_law_rest","_law_k"] ["_law_x","_law_base","_law_start","_law_many","_law_more_here","_law_deep_here"] (aB gR):=‹2›
noncomputable def gW (bf aL:List D->R D):ca:=aE (eY (xW (fB (f2 dL (ai 2) (fC (.int 0)))) (fB (f2 sr (f2 bN (ai 0) (fC (.int 3))) (fC (.int 2))))) (bT (fR (bv cf 1 8) (af (f2 cx (ai 0) (fC (.int 3))) (au)))) (bI)) (aE (bi 3 (fR aL (af (f2 cx (ai 0) (fC (.int 3))) (af (ai 1) (af (f2 bN (f2 cx (ai 0) (fC (.int 36))) (fC (.int 12))) (af (f2 bD (fC (.int 1)) (f2 bN (f2 cx (ai 0) (fC (.int 3))) (fC (.int 2)))) (af (f2 bN (f2 cx (ai 0) (fC (.int 6))) (fC (.int 3))) (af (f2 wQ (ai 2) (fC (.int 1))) (au))))))))) (bT (bb (af (fC (.str "rows")) (af (ai 3) (af (f2 dL (f2 bN (f2 cx (ai 0) (fC (.int 18))) (fC (.int 2))) (fC (.int 1))) (au)))))))
noncomputable def ji (bf aL:List D->R D):ca:=aE (lm 6 (dN (au))) (aE (lm 7 (dN (au))) (aE (jj (dz (af (f2 bD (ai 3) (ai 4)) (au))) (gN 8) (aE (bi 0 (fR (bv bm 1 1) (af (ai 0) (au)))) (aE (eY (fB (f2 sr (ai 8) (ai 3))) (uz 6 jV (af (bb (af (fR (bv aK 2 7) (af (ai 1) (af (f2 bD (ai 2) (ai 8)) (au)))) (af (fR (bv cf 1 8) (af (ai 0) (au))) (au)))) (au))) (uz 7 jV (af (bb (af (fR (bv aK 2 7) (af (ai 1) (af (f2 bD (ai 2) (ai 8)) (au)))) (af (fR bf (af (ai 0) (af (ai 1) (af (ai 5) (au))))) (au)))) (au)))) (cI [8] bI)))) (iS 7 (iS 6 (bT (bb (af (fL cg (af (ai 6) (au))) (af (fL cg (af (ai 7) (au))) (au)))))))))
mutual
noncomputable def bf:Nat->List D->R D
 | 0=>fun _=>un
 | n+1=>bv (gW (bf n) (aL n)) 3 4
noncomputable def aL:Nat->List D->R D
 | 0=>fun _=>un
 | n+1=>bv (ji (bf n) (aL n)) 6 9
end
theorem et (n:Nat):bf (n+1)=bv (gW (bf n) (aL n)) 3 4:=by rw [bf]
theorem lh:∀ n:Nat,Ar 3 (bf n)
 | 0=>fun _ h=>absurd (by rw [bf]) h
 | n+1=>by rw [et]; exact aZ
theorem gg (n:Nat):aL (n+1)=bv (ji (bf n) (aL n)) 6 9:=by rw [aL]
theorem fM:∀ n:Nat,Ar 6 (aL n)
 | 0=>fun _ h=>absurd (by rw [aL]) h
 | n+1=>by rw [gg]; exact aZ
abbrev dJ:QA:=top 39
theorem ny:bh ["_law_x","_law_letters","_law_one","_law_other","_law_kept","_law_word"] ["_law_x"] (aB dJ):=‹2›
noncomputable def cU:ca:=aE (bi 1 (fC (.str "abcdefghijklmnopqrstuvwxyz"))) (aE (bi 2 (f2 aw (ai 1) (f2 bN (ai 0) (fC (.int 26))))) (aE (bi 3 (f2 aw (ai 1) (f2 bN (f2 cx (ai 0) (fC (.int 26))) (fC (.int 26))))) (aE (lm 4 wy) (cI [0,1] (aE (jj (bC (dN (af (fC (.str "")) (af (ai 2) (af (ai 3) (af (f2 bD (ai 2) (ai 3)) (af (f2 bD (ai 3) (ai 2)) (af (f2 rM (ai 2) (fC (.int 8))) (af (f2 bD (ai 2) (ai 2)) (af (f2 rM (ai 3) (fC (.int 3))) (au))))))))))) (gN 5) (aE (ky 4 (ai 5) (fC (.bl true))) (cI [5] bI))) (iS 4 (bT (fL fV (af (fL jq (af (ai 4) (au))) (au))))))))))
abbrev eA:QA:=top 40
theorem ou:bh ["_law_x","_law_y","_law_low","_law_wide","_law_far","_law_one","_law_other","_law_some","_law_spare"] ["_law_x"] (aB eA):=‹2›
noncomputable def dt:ca:=aE (bi 1 (fR (bv bm 1 1) (af (ai 0) (au)))) (aE (bi 2 (f2 aw (dN (af (fC (.int 0)) (af (pZ (fC (.int 3))) (af (f2 wQ (fC (.int 0)) (f2 bN (f2 j5 (ai 1) (fC (.int 7))) (f2 j5 (fC (.int 10)) (fC (.int 59))))) (af (f2 bN (f2 j5 (ai 1) (fC (.int 7))) (f2 j5 (fC (.int 10)) (fC (.int 59)))) (au)))))) (f2 bN (f2 cx (ai 0) (fC (.int 3))) (fC (.int 4))))) (aE (bi 3 (f2 aw (dN (af (fC (.int 0)) (af (fC (.int 1)) (af (fC (.int 6)) (af (f2 j5 (fC (.int 10)) (fC (.int 59))) (au)))))) (f2 bN (f2 cx (ai 0) (fC (.int 12))) (fC (.int 4))))) (aE (bi 4 (f2 bN (f2 j5 (ai 1) (fC (.int 7))) (f2 bD (ai 3) (fC (.int 1))))) (aE (bi 5 (bb (af (fC (.str "number")) (af (ai 2) (af (f2 bD (ai 2) (ai 3)) (au)))))) (aE (bi 6 (bb (af (fC (.str "number")) (af (f2 bD (ai 2) (ai 4)) (af (f2 bD (f2 bD (ai 2) (ai 4)) (f2 aw (dN (af (fC (.int 0)) (af (fC (.int 2)) (af (fC (.int 9)) (af (f2 j5 (fC (.int 10)) (fC (.int 59))) (au)))))) (f2 bN (f2 cx (ai 0) (fC (.int 48))) (fC (.int 4))))) (au)))))) (aE (eY (fB (f2 dL (f2 bN (ai 0) (fC (.int 3))) (fC (.int 2)))) (aE (bi 7 (fR (bv cU 1 6) (af (f2 cx (ai 0) (fC (.int 3))) (au)))) (aE (bi 8 (f2 aw (ai 7) (f2 bN (ai 1) (fL fW (af (ai 7) (au)))))) (aE (bi 5 (bb (af (fC (.str "word")) (af (fL cg (af (iW [none,none,some 8,some 1] (gz (af (ai 7) (au))) (gT 2 (e7 [0,1])) (xW (fB (f2 dL (ai 1) (ai 2))) (fB (f2 dL (f2 pV (f2 w6 (f2 cx (ai 3) (fC (.int 9))) (ai 0)) (fC (.int 1))) (fC (.int 1))))) (ai 1)) (au))) (au))))) (bi 6 (bb (af (fC (.str "word")) (af (fL cg (af (iW [none,none,some 8,some 1] (gz (af (ai 7) (au))) (gT 2 (e7 [0,1])) (xW (fB (f2 dL (ai 1) (ai 2))) (fB (f2 dL (f2 pV (f2 w6 (f2 cx (ai 3) (fC (.int 3000))) (ai 0)) (fC (.int 1))) (fC (.int 1))))) (ai 1)) (au))) (au)))))))) (bI)) (aE (eY (fB (f2 dL (f2 bN (f2 cx (ai 0) (fC (.int 200))) (fC (.int 2))) (fC (.int 1)))) (bT (bb (af (ai 6) (af (ai 5) (au))))) (bI)) (bT (bb (af (ai 5) (af (ai 6) (au))))))))))))
abbrev eW:QA:=top 42
theorem oM:bh ["_law_x","_law_base","_law_many","_law_one","_law_other","_law_k","_law_kinds"] ["_law_x","_law_base","_law_many"] (aB eW):=‹2›
noncomputable def dC:ca:=aE (lm 3 (dN (au))) (aE (lm 4 (dN (au))) (aE (jj (dz (af (ai 2) (au))) (gN 5) (aE (bi 0 (fR (bv bm 1 1) (af (ai 0) (au)))) (aE (bi 6 (fR (bv dt 1 9) (af (ai 0) (au)))) (aE (uz 3 jV (af (bb (af (fR (bv aK 2 7) (af (ai 1) (af (ai 5) (au)))) (af (f2 aw (ai 6) (fC (.int 0))) (au)))) (au))) (aE (uz 4 jV (af (bb (af (fR (bv aK 2 7) (af (ai 1) (af (ai 5) (au)))) (af (f2 aw (ai 6) (fC (.int 1))) (au)))) (au))) (cI [5,6] bI)))))) (iS 4 (iS 3 (bT (bb (af (fL cg (af (ai 3) (au))) (af (fL cg (af (ai 4) (au))) (au)))))))))
abbrev cR:QA:=top 43
theorem jZ:bh ["_law_script","_law_x","_law_base","_law_many","_law_keys","_law_deep_here","_law_more_here","_law_first","_law_wide","_law_inner"] ["_law_script"] (aB cR):=‹2›
noncomputable def cy:ca:=aE (bi 1 (fR (bv bR 2 3) (af (ai 0) (af (fC (.int 0)) (au))))) (aE (bi 2 (f2 bN (f2 mC (fR (bv bB 2 2) (af (ai 0) (af (fC (.int 1)) (au)))) (fC (.int 48271))) (fC (.int 2147483647)))) (aE (bi 3 (f2 aw (dN (af (fC (.int 1)) (af (fC (.int 2)) (af (fC (.int 1)) (af (fC (.int 3)) (af (fC (.int 2)) (af (fC (.int 1)) (af (fC (.int 2)) (af (f2 bD (fC (.int 1)) (f2 bN (f2 cx (ai 1) (fC (.int 64))) (fC (.int 7)))) (au)))))))))) (f2 bN (ai 1) (fC (.int 8))))) (aE (bi 4 (fR (bv dC 3 7) (af (fR (bv bm 1 1) (af (ai 1) (au))) (af (ai 2) (af (ai 3) (au)))))) (aE (bi 5 (f2 aw (dN (af (fC (.int 0)) (af (fC (.int 0)) (af (fC (.int 1)) (af (fC (.int 2)) (au)))))) (f2 bN (f2 cx (ai 1) (fC (.int 8))) (fC (.int 4))))) (aE (bi 6 (f2 bN (f2 cx (ai 1) (fC (.int 512))) (fC (.int 4)))) (aE (eY (fB (f2 dL (f2 bN (f2 cx (ai 1) (fC (.int 32))) (fC (.int 8))) (fC (.int 3)))) (aE (bi 6 (f2 bN (f2 cx (ai 1) (fC (.int 512))) (fC (.int 8)))) (bi 5 (fC (.int 0)))) (bI)) (aE (bi 7 (f2 aw (fR (aL 12) (af (f2 bD (fR (bv bm 1 1) (af (ai 1) (au))) (fC (.int 1))) (af (ai 2) (af (fC (.int 8)) (af (fC (.int 0)) (af (ai 6) (af (ai 5) (au)))))))) (fC (.int 1)))) (aE (bi 8 (f2 bD (fC (.int 1)) (f2 bN (f2 cx (ai 1) (fC (.int 4096))) (fL pJ (af (fC (.int 3)) (af (f2 wQ (fC (.int 8)) (ai 3)) (au))))))) (aE (bi 9 (fR (aL 12) (af (f2 bD (fR (bv bm 1 1) (af (ai 1) (au))) (fC (.int 2))) (af (ai 2) (af (f2 aw (dN (af (fC (.int 8)) (af (fC (.int 15)) (au)))) (f2 bN (f2 cx (ai 1) (fC (.int 2048))) (fC (.int 2)))) (af (ai 8) (af (f2 bN (f2 cx (ai 1) (fC (.int 16384))) (fC (.int 4))) (af (ai 5) (au))))))))) (bT (bb (af (bb (af (f2 aw (ai 4) (fC (.int 0))) (af (ai 7) (au)))) (af (bb (af (f2 bD (f2 aw (ai 4) (fC (.int 1))) (f2 aw (ai 9) (fC (.int 0)))) (af (f2 aw (ai 9) (fC (.int 1))) (au)))) (au))))))))))))))
abbrev rK:QA:=top 51
theorem Gg:bh ["_law_script","_law_one","_law_other","_law_name_here","_law_base","_law_taken","_law_spare","_law_first","_law_last","_law_k","_law_x","_law_y","_law_names","_law_odd"] ["_law_script"] (aB rK):=‹2›
noncomputable def qK:ca:=aE (D8 (fR (bv cy 1 10) (af (ai 0) (au))) (gT 2 (e7 [1,2]))) (aE (bi 3 (fR (bv cG 3 7) (af (ai 1) (af (ai 2) (af (ai 0) (au)))))) (aE (eY (fB (f2 uh (fR (bv bX 3 5) (af (ai 1) (af (ai 2) (af (ai 3) (au))))) (fC (.str "none")))) (bT (fC (.bl false))) (bI)) (aE (bi 4 (f2 bN (f2 mC (fR (bv bB 2 2) (af (ai 0) (af (fC (.int 1)) (au)))) (fC (.int 48271))) (fC (.int 2147483647)))) (aE (bi 5 (iW [none,none] (bC (f2 bD (f2 bD (f2 bD (f2 aw (ai 1) (fC (.int 0))) (f2 aw (ai 1) (fC (.int 1)))) (f2 aw (ai 2) (fC (.int 0)))) (f2 aw (ai 2) (fC (.int 1))))) (gT 2 (e7 [0,1])) (cW) (ai 0))) (aE (bi 6 (iW [none,some 4,some 5] (dz (af (fC (.int 24)) (au))) (gN 0) (fB (f2 jl (fR (bv aK 2 7) (af (ai 1) (af (ai 0) (au)))) (ai 2))) (fR (bv aK 2 7) (af (ai 1) (af (ai 0) (au)))))) (aE (bi 7 (ai 1)) (aE (bi 8 (ai 2)) (cI [5] (aE (jj (dz (af (f2 bN (fR (bv bB 2 2) (af (ai 0) (af (fC (.int 2)) (au)))) (fC (.int 3))) (au))) (gN 9) (aE (bi 10 (fR (bv bR 2 3) (af (ai 0) (af (f2 bD (fC (.int 3)) (ai 9)) (au))))) (aE (eY (fB (f2 dL (f2 bN (ai 10) (fC (.int 3))) (fC (.int 0)))) (bi 8 (bb (af (fR (bv dS 4 8) (af (f2 aw (ai 8) (fC (.int 0))) (af (f2 aw (ai 1) (fC (.int 0))) (af (f2 cx (ai 10) (fC (.int 3))) (af (f2 aw (ai 6) (ai 9)) (au)))))) (af (f2 aw (ai 8) (fC (.int 1))) (au))))) (eY (fB (f2 dL (f2 bN (ai 10) (fC (.int 3))) (fC (.int 1)))) (bi 7 (bb (af (f2 aw (ai 7) (fC (.int 0))) (af (fR (bv fg 4 8) (af (f2 aw (ai 7) (fC (.int 1))) (af (iI (ai 6) (kM (fC (.int 2))) (fT)) (af (ai 4) (af (f2 cx (ai 10) (fC (.int 3))) (au)))))) (au))))) (bi 8 (bb (af (f2 aw (ai 8) (fC (.int 0))) (af (fR (bv fg 4 8) (af (f2 aw (ai 8) (fC (.int 1))) (af (iI (ai 6) (kM (fC (.int 2))) (fT)) (af (ai 4) (af (f2 cx (ai 10) (fC (.int 3))) (au)))))) (au))))))) (cI [9,10] bI)))) (aE (bi 11 (fR (bv bR 2 3) (af (ai 0) (af (fC (.int 5)) (au))))) (aE (bi 12 (f2 bD (iW [none,none] (bC (f2 bD (f2 aw (ai 1) (fC (.int 0))) (f2 aw (ai 1) (fC (.int 1))))) (gT 2 (e7 [0,1])) (cW) (ai 0)) (dN (af (ai 3) (au))))) (cI [0,4,5,6,9,10] (aE (jj (bC (dN (af (ai 3) (af (f2 aw (ai 12) (f2 bN (ai 11) (fL fW (af (ai 12) (au))))) (au))))) (gN 13) (aE (eY (fB (f2 uh (fR (bv bX 3 5) (af (ai 7) (af (ai 8) (af (ai 13) (au))))) (fR (bv gb 3 7) (af (ai 7) (af (ai 8) (af (ai 13) (au))))))) (bT (fC (.bl false))) (bI)) (cI [13] bI))) (bT (f2 dL (fR (bv bX 3 5) (af (ai 1) (af (ai 2) (af (ai 3) (au))))) (fC (.str "none")))))))))))))))))
theorem KA:(["field"]:List Str).Nodup:=by decide +kernel
theorem LR:(["kind"]:List Str).Nodup:=by decide +kernel
theorem Kx:(["field"]:List Str).Nodup:=by decide +kernel
theorem Kq:(["word","other"]:List Str).Nodup:=by decide +kernel
theorem JX:(["field"]:List Str).Nodup:=by decide +kernel
theorem KW:(["field"]:List Str).Nodup:=by decide +kernel
theorem Lq:(["field"]:List Str).Nodup:=by decide +kernel
theorem Ld:(["field"]:List Str).Nodup:=by decide +kernel
theorem DK:(["field","twin"]:List Str).Nodup:=by decide +kernel
theorem Iy:(["field","kind"]:List Str).Nodup:=by decide +kernel
theorem HX:(["_law_word","_law_other"]:List Str).Nodup:=by decide +kernel
theorem EB:(["_law_own","_law_kind_here"]:List Str).Nodup:=by decide +kernel
theorem EG:(["_law_own","_law_kind_here"]:List Str).Nodup:=by decide +kernel
theorem yL:(["_law_name_here","_law_kind_here"]:List Str).Nodup:=by decide +kernel
theorem EW:(["_law_name_here","_law_kind_here"]:List Str).Nodup:=by decide +kernel
theorem Fg:(["_law_name_here","_law_taken"]:List Str).Nodup:=by decide +kernel
theorem EJ:(["_law_k","_law_word","_law_spare","_law_y"]:List Str).Nodup:=by decide +kernel
theorem Fa:(["_law_k","_law_word","_law_spare","_law_y"]:List Str).Nodup:=by decide +kernel
theorem yX:(["_law_own","_law_kind_here"]:List Str).Nodup:=by decide +kernel
theorem EH:(["_law_k","_law_base","_law_taken"]:List Str).Nodup:=by decide +kernel
theorem EY:(["_law_own","_law_kind_here"]:List Str).Nodup:=by decide +kernel
section
variable {P:Qn} {w:Qm} {K:O2} {mg:Str->Option Ql} {base:Qp}
theorem rZ {f:Qo} (iD:bZ K mg "NoField" [("Twice",false),("NoKind",false),("Nothing",false),("TooMany",false)]) (iz:bZ K mg "NoTable" [("Twice",false),("NoKind",false),("Nothing",false),("TooMany",false)]) (jJ:bZ K mg "NoForm" [("Twice",false),("NoKind",false),("Nothing",false),("TooMany",false)]) (iG:bZ K mg "Nothing" [("Twice",false),("NoKind",false),("Nothing",true),("TooMany",false)]) (jG:bZ K mg "NoKind" [("Twice",false),("NoKind",true),("Nothing",false),("TooMany",false)]) (mj:bZ K mg "Twice" [("Twice",true),("NoKind",false),("Nothing",false),("TooMany",false)]) (lK:bZ K mg "Blind" [("Twice",false),("NoKind",false),("Nothing",false),("TooMany",false)]) (iB:bZ K mg "TooMany" [("Twice",false),("NoKind",false),("Nothing",false),("TooMany",true)]) (lN:bZ K mg "NoKey" [("Twice",false),("NoKind",false),("Nothing",false),("TooMany",false)]) (js:bZ K mg "NoPane" [("Twice",false),("NoKind",false),("Nothing",false),("TooMany",false)]) (lC:bZ K mg "Stale" [("Twice",false),("NoKind",false),("Nothing",false),("TooMany",false)]) (pp:bZ K mg "Torn" [("Twice",false),("NoKind",false),("Nothing",false),("TooMany",false)]) (jW:bZ K mg "NoText" [("Twice",false),("NoKind",false),("Nothing",false),("TooMany",false)]) (V_ValueError:rV K (.type "ValueError") [("Twice",true),("NoKind",true),("Nothing",true),("TooMany",true)]) (aH:mg "isinstance"=none) (eB:mg "ValueError"=none):cV P w K mg base 0 ["_law_error","_law_marks","_law_some"] "_law_which" fS f cJ :=
 ⟨fun cdv A outer s H E hr hp=>(ak (aA (i:=1) mK.nd rfl ‹1› (bV (aa (bK jJ rfl aH rfl (ae (xv 0))) (aa (bK iz rfl aH rfl (ae (xv 0))) (aa (bK iD rfl aH rfl (ae (xv 0))) (aj)))))) (ak (aA (i:=1) mK.nd rfl ‹1› (ao aJ aq (ae (xv 1)) (bV (aa (bK mj rfl aH rfl (ae (xv 0))) (aa (bK jG rfl aH rfl (ae (xv 0))) (aa (bK iG rfl aH rfl (ae (xv 0))) (aj))))))) (ak (aA (i:=1) mK.nd rfl ‹1› (ao aJ aq (ae (xv 1)) (bV (aa (bK lN rfl aH rfl (ae (xv 0))) (aa (bK iB rfl aH rfl (ae (xv 0))) (aa (bK lK rfl aH rfl (ae (xv 0))) (aj))))))) (ak (fJ (i:=1) mK.nd rfl ‹1› (vk (ae (xv 1)) (bV (aa (bK pp rfl aH rfl (ae (xv 0))) (aa (bK lC rfl aH rfl (ae (xv 0))) (aa (bK js rfl aH rfl (ae (xv 0))) (aj))))))) (ak (kU Qh Qi fz fZ (xv 1) (aa (bK jW rfl aH rfl (ae (xv 0))) (aj))) (eJ 1 (ak (bE (zg (jo (aG (ka hr.units) aq (tm hr.units (ae (xv 1)) (aa (jm) (aj))) (ah) (aU _)) (ie (zK (oG (tK V_ValueError rfl aH rfl eB PyProof.Rows.Boot.«ValueError» (ae (xv 0)))))))) (az (aT (aC))) (aI)) (ak (aA (i:=2) mK.nd rfl ‹1› (bV (aa (aC) (aa (aC) (aa (aC) (aa (aC) (aa (aC) (aa (aC) (aa (aC) (aa (aC) (aa (aC) (aa (aC) (aa (aC) (aa (aC) (aj))))))))))))))) (az (aT (ax (ao aJ aq (ae (xv 2)) (bV (aa (aC) (aj)))) (sZ hr.units (ae (xv 1)) (aa (jm) (aj))) (fun _ _=>rfl))))))))))))⟩
theorem qw {f:Qo} (iD:bZ K mg "NoField" [("Twice",false),("NoKind",false),("Nothing",false),("TooMany",false)]) (iz:bZ K mg "NoTable" [("Twice",false),("NoKind",false),("Nothing",false),("TooMany",false)]) (jJ:bZ K mg "NoForm" [("Twice",false),("NoKind",false),("Nothing",false),("TooMany",false)]) (iG:bZ K mg "Nothing" [("Twice",false),("NoKind",false),("Nothing",true),("TooMany",false)]) (jG:bZ K mg "NoKind" [("Twice",false),("NoKind",true),("Nothing",false),("TooMany",false)]) (mj:bZ K mg "Twice" [("Twice",true),("NoKind",false),("Nothing",false),("TooMany",false)]) (lK:bZ K mg "Blind" [("Twice",false),("NoKind",false),("Nothing",false),("TooMany",false)]) (iB:bZ K mg "TooMany" [("Twice",false),("NoKind",false),("Nothing",false),("TooMany",true)]) (lN:bZ K mg "NoKey" [("Twice",false),("NoKind",false),("Nothing",false),("TooMany",false)]) (js:bZ K mg "NoPane" [("Twice",false),("NoKind",false),("Nothing",false),("TooMany",false)]) (lC:bZ K mg "Stale" [("Twice",false),("NoKind",false),("Nothing",false),("TooMany",false)]) (pp:bZ K mg "Torn" [("Twice",false),("NoKind",false),("Nothing",false),("TooMany",false)]) (jW:bZ K mg "NoText" [("Twice",false),("NoKind",false),("Nothing",false),("TooMany",false)]) (V_ValueError:rV K (.type "ValueError") [("Twice",true),("NoKind",true),("Nothing",true),("TooMany",true)]) (aH:mg "isinstance"=none) (eB:mg "ValueError"=none):BC P w K mg base 0 ["_law_error","_law_marks","_law_some"] "_law_which" fS f cJ :=
 ⟨fun cdv A outer s H E hr hp=>(ak (aA (i:=1) mK.nd rfl ‹1› (bV (aa (bK jJ rfl aH rfl (ae (xv 0))) (aa (bK iz rfl aH rfl (ae (xv 0))) (aa (bK iD rfl aH rfl (ae (xv 0))) (aj)))))) (ak (aA (i:=1) mK.nd rfl ‹1› (ao aJ aq (ae (xv 1)) (bV (aa (bK mj rfl aH rfl (ae (xv 0))) (aa (bK jG rfl aH rfl (ae (xv 0))) (aa (bK iG rfl aH rfl (ae (xv 0))) (aj))))))) (ak (aA (i:=1) mK.nd rfl ‹1› (ao aJ aq (ae (xv 1)) (bV (aa (bK lN rfl aH rfl (ae (xv 0))) (aa (bK iB rfl aH rfl (ae (xv 0))) (aa (bK lK rfl aH rfl (ae (xv 0))) (aj))))))) (ak (fJ (i:=1) mK.nd rfl ‹1› (vk (ae (xv 1)) (bV (aa (bK pp rfl aH rfl (ae (xv 0))) (aa (bK lC rfl aH rfl (ae (xv 0))) (aa (bK js rfl aH rfl (ae (xv 0))) (aj))))))) (ak (kU Qh Qi fz fZ (xv 1) (aa (bK jW rfl aH rfl (ae (xv 0))) (aj))) (eJ 1 (ak (bE (zg (jo (aG (ka hr.units) aq (tm hr.units (ae (xv 1)) (aa (jm) (aj))) (ah) (aU _)) (ie (zK (oG (tK V_ValueError rfl aH rfl eB PyProof.Rows.Boot.«ValueError» (ae (xv 0)))))))) (az (aT (aC))) (aI)) (ak (aA (i:=2) mK.nd rfl ‹1› (bV (aa (aC) (aa (aC) (aa (aC) (aa (aC) (aa (aC) (aa (aC) (aa (aC) (aa (aC) (aa (aC) (aa (aC) (aa (aC) (aa (aC) (aj))))))))))))))) (az (aT (ax (ao aJ aq (ae (xv 2)) (bV (aa (aC) (aj)))) (sZ hr.units (ae (xv 1)) (aa (jm) (aj))) (fun _ _=>rfl))))))))))))⟩
theorem oj {f:Qo} :cV P w K mg base 0 ["self","one","other"] "Pair.view_form" eE f cN :=
 ⟨fun cdv A outer s H E hr hp=>(az (aT (ae (xv 1))))⟩
theorem vU {f:Qo} (bj:mg "tuple"=none):cV P w K mg base 0 ["form"] "kinds_of" jY f gq :=
 ⟨fun cdv A outer s H E hr hp=>(az (aT (bQ bW rfl bj P7 (aa (df (N:=["field"]) (ix:=[none]) rfl (.of rfl) (cP rfl) (cm (ao aJ aq (ax (ae (xv 0)) (ah) (fun _ _=>rfl)) (ax (ae (xv 0)) (ah) (fun _ _=>rfl)))) ⟨fun _ _ _ _ _ _=>⟨aF (i:=0) KA rfl (Or.inl rfl),cD,ax (ae (xv 0)) (ah) (fun _ _=>rfl)⟩⟩) (aj)))))⟩
theorem vZ {n:Nat} {f:Qo} (gf:Callee P w K mg base 1 "kinds_of" ["form"] (bv gq 1 1)) (fY:mg "max"=none) {bu:List D->R D} (iM:Callee P w K mg base (1+n) "depth_of" ["form"] bu) (L_depth_of:Ar 1 bu):cV P w K mg base (1+n) ["form"] "depth_of" iQ f (kt bu) :=
 ⟨fun cdv A outer s H E hr hp=>(az (aT (C6 rfl rfl fY (df (N:=["kind"]) (ix:=[none]) rfl (.of rfl) (cP rfl) (cm (ay gf aZ hr ‹0› (aa (ae (xv 0)) (aj)))) ⟨fun _ _ _ _ _ _=>⟨aF (i:=0) LR rfl (Or.inl rfl),fE (aG (bU hr.units) aq (ax (ae (xv 0)) (ah) (fun _ _=>rfl)) (aC) (aU _)),ao aJ aq (ah) (ay iM L_depth_of hr ‹0› (aa (ax (ae (xv 0)) (ah) (fun _ _=>rfl)) (aj)))⟩⟩))))⟩
theorem oo {f_depth_of:Qo} {fd_depth_of:QX} (F_depth_of:w8 K "depth_of" "depth_of" iQ f_depth_of fd_depth_of) (mZ:Binds K fd_depth_of ["form"] []) (m_depth_of:mg "depth_of"=some (.ref f_depth_of)) (gf:Callee P w K mg base 1 "kinds_of" ["form"] (bv gq 1 1)) (fY:mg "max"=none):∀ n:Nat,Callee P w K mg base (1+n) "depth_of" ["form"] (bu n)
 | 0=>by
  rw [bu]
  exact jb 1 F_depth_of mZ m_depth_of
 | n+1=>by
  have ih:=oo F_depth_of mZ m_depth_of gf fY n
  rw [gY]
  exact bx F_depth_of mZ m_depth_of v4 (cV.ok (vZ gf fY ih (mH n)))
theorem v8 {f:Qo} (bj:mg "tuple"=none):cV P w K mg base 0 ["form"] "names_of" km f iV :=
 ⟨fun cdv A outer s H E hr hp=>(az (aT (bQ bW rfl bj P7 (aa (df (N:=["field"]) (ix:=[none]) rfl (.of rfl) (cP rfl) (cm (ao aJ aq (ax (ae (xv 0)) (ah) (fun _ _=>rfl)) (ax (ae (xv 0)) (ah) (fun _ _=>rfl)))) ⟨fun _ _ _ _ _ _=>⟨aF (i:=0) Kx rfl (Or.inl rfl),cD,ax (ae (xv 0)) (ah) (fun _ _=>rfl)⟩⟩) (aj)))))⟩
theorem so {f:Qo} (bj:mg "tuple"=none):cV P w K mg base 0 ["one","other","words"] "both_words" ic f fP :=
 ⟨fun cdv A outer s H E hr hp=>(ak (aA (i:=2) sE.nd rfl ‹1› (bQ bW rfl bj P7 (aa (df (N:=["word","other"]) (ix:=[none,some 1]) rfl (.of rfl) (cP rfl) (cm (ax (ae (xv 0)) (ah) (fun _ _=>rfl))) ⟨fun _ _ _ _ _ _=>⟨aF (i:=0) Kq rfl (Or.inl rfl),fE (aG (qW hr.units) aq (ae (xv 0)) (ax (ae (xv 1)) (ah) (fun _ _=>rfl)) rfl),ae (xv 0)⟩⟩) (aj)))) (az (aT (B6 (oG (ae (xv 2))) (aM (aa (aC) (aa (ae (xv 2)) (aj)))) (n5)))))⟩
theorem p6 {f:Qo} (fY:mg "max"=none) (oh:mg "min"=none):cV P w K mg base 0 ["one","other","low","high"] "both_numbers" fI f dX :=
 ⟨fun cdv A outer s H E hr hp=>(ak (aA (i:=2) pW.nd rfl ‹1› (bA (nA rfl) rfl fY P8 (aa (ax (ae (xv 0)) (ah) (fun _ _=>rfl)) (aa (ax (ae (xv 1)) (ah) (fun _ _=>rfl)) (aj))))) (ak (aA (i:=3) pW.nd rfl ‹1› (bA (nu rfl) rfl oh P9 (aa (ax (ae (xv 0)) (ah) (fun _ _=>rfl)) (aa (ax (ae (xv 1)) (ah) (fun _ _=>rfl)) (aj))))) (az (aT (B6 (aG Bl cT (ae (xv 2)) (ae (xv 3)) (aU _)) (aM (aa (aC) (aa (ae (xv 2)) (aa (ae (xv 3)) (aj))))) (n5))))))⟩
theorem Ej {f:Qo} (iP:Callee P w K mg base 1 "both_numbers" ["one","other"] (bv dX 2 4)) (kh:Callee P w K mg base 1 "both_words" ["one","other"] (bv fP 2 3)):cV P w K mg base 1 ["one","other"] "both" vi f oH :=
 ⟨fun cdv A outer s H E hr hp=>(ak (bE (aG (ka hr.units) aq (ax (ae (xv 0)) (ah) (fun _ _=>rfl)) (ax (ae (xv 1)) (ah) (fun _ _=>rfl)) (aU _)) (az (aT (n5))) (aI)) (ak (bE (aG (bU hr.units) aq (ax (ae (xv 0)) (ah) (fun _ _=>rfl)) (aC) (aU _)) (az (aT (ay iP aZ hr ‹0› (aa (ae (xv 0)) (aa (ae (xv 1)) (aj)))))) (aI)) (ak (bE (aG (bU hr.units) aq (ax (ae (xv 0)) (ah) (fun _ _=>rfl)) (aC) (aU _)) (az (aT (ay kh aZ hr ‹0› (aa (ae (xv 0)) (aa (ae (xv 1)) (aj)))))) (aI)) (az (aT (n5))))))⟩
theorem sd {f:Qo} (uS:Callee P w K mg base 2 "both" ["one","other"] (bv oH 2 2)) (E_NoKind:ExcAt K mg "NoKind") (E_Nothing:ExcAt K mg "Nothing") (nW:mg "zip"=none) (bj:mg "tuple"=none):cV P w K mg base 2 ["one","other","kinds"] "shared_key" ip f eD :=
 ⟨fun cdv A outer s H E hr hp=>(ak (bE (aG (ka hr.units) aq (df (N:=["field"]) (ix:=[none]) rfl (.of rfl) (cP rfl) (cm (ae (xv 0))) ⟨fun _ _ _ _ _ _=>⟨aF (i:=0) JX rfl (Or.inl rfl),cD,ax (ae (xv 0)) (ah) (fun _ _=>rfl)⟩⟩) (df (N:=["field"]) (ix:=[none]) rfl (.of rfl) (cP rfl) (cm (ae (xv 1))) ⟨fun _ _ _ _ _ _=>⟨aF (i:=0) KW rfl (Or.inl rfl),cD,ax (ae (xv 0)) (ah) (fun _ _=>rfl)⟩⟩) (aU _)) (az (iF rfl E_NoKind rfl (aa (aC) (aj)))) (aI)) (ak (bE (aG (ka hr.units) aq (df (N:=["field"]) (ix:=[none]) rfl (.of rfl) (cP rfl) (cm (ae (xv 0))) ⟨fun _ _ _ _ _ _=>⟨aF (i:=0) Lq rfl (Or.inl rfl),cD,ax (ax (ae (xv 0)) (ah) (fun _ _=>rfl)) (ah) (fun _ _=>rfl)⟩⟩) (df (N:=["field"]) (ix:=[none]) rfl (.of rfl) (cP rfl) (cm (ae (xv 1))) ⟨fun _ _ _ _ _ _=>⟨aF (i:=0) Ld rfl (Or.inl rfl),cD,ax (ax (ae (xv 0)) (ah) (fun _ _=>rfl)) (ah) (fun _ _=>rfl)⟩⟩) (aU _)) (az (iF rfl E_NoKind rfl (aa (aC) (aj)))) (aI)) (ak (by first | exact qO (i:=2) sv.nd rfl ‹1› (N:=["field","twin"]) (ix:=[none,none]) rfl (.of rfl) (cz rfl) (nY rfl nW (aa (ae (xv 0)) (aa (ae (xv 1)) (aj)))) ⟨fun _ _ _ _ _ _=>⟨cY (g:=e7 [0,1]) rfl (aS (aF (i:=0) DK rfl (Or.inl rfl)) (aS (aF (i:=1) DK rfl (Or.inl rfl)) (cH))),cD,ay uS aZ hr ‹0› (aa (ax (ae (xv 0)) (ah) (fun _ _=>rfl)) (aa (ax (ae (xv 1)) (ah) (fun _ _=>rfl)) (aj)))⟩⟩ | exact aA (i:=2) sv.nd rfl ‹1› (df (N:=["field","twin"]) (ix:=[none,none]) rfl (.of rfl) (cz rfl) (nY rfl nW (aa (ae (xv 0)) (aa (ae (xv 1)) (aj)))) ⟨fun _ _ _ _ _ _=>⟨cY (g:=e7 [0,1]) rfl (aS (aF (i:=0) DK rfl (Or.inl rfl)) (aS (aF (i:=1) DK rfl (Or.inl rfl)) (cH))),cD,ay uS aZ hr ‹0› (aa (ax (ae (xv 0)) (ah) (fun _ _=>rfl)) (aa (ax (ae (xv 1)) (ah) (fun _ _=>rfl)) (aj)))⟩⟩)) (ak (bE (aG (qW hr.units) aq (n5) (ae (xv 2)) rfl) (az (iF rfl E_Nothing rfl (aa (aC) (aj)))) (aI)) (az (aT (bQ bW rfl bj P7 (aa (df (N:=["field","kind"]) (ix:=[none,none]) rfl (.of rfl) (cz rfl) (nY rfl nW (aa (ae (xv 0)) (aa (ae (xv 2)) (aj)))) ⟨fun _ _ _ _ _ _=>⟨cY (g:=e7 [0,1]) rfl (aS (aF (i:=0) Iy rfl (Or.inl rfl)) (aS (aF (i:=1) Iy rfl (Or.inl rfl)) (cH))),cD,aM (aa (ax (ae (xv 0)) (ah) (fun _ _=>rfl)) (aa (ae (xv 1)) (aj)))⟩⟩) (aj)))))))))⟩
theorem mF {f:Qo} (j7:Callee P w K mg base 3 "shared_key" ["one","other"] (bv eD 2 3)) (nD:Callee P w K mg base 1 "names_of" ["form"] (bv iV 1 1)) (iM:Callee P w K mg base 13 "depth_of" ["form"] (bu 12)) (fU:zf K "name" ["Gather"]) (E_NoKind:ExcAt K mg "NoKind") (E_Twice:ExcAt K mg "Twice") (E_TooMany:ExcAt K mg "TooMany") (cC:mg "len"=none) (c_MOST_FIELDS:∃ t,mg "MOST_FIELDS"=some (.int 8 t)) (c_MOST_WITHIN:∃ t,mg "MOST_WITHIN"=some (.int 3 t)):cV P w K mg base 13 ["self","one","other","many","key","inner"] "Gather.view_form" dA f aP :=
 ⟨fun cdv A outer s H E hr hp=>(ak (aA (i:=3) mD.nd rfl ‹1› (bA cn rfl cC PySem.boot_len (aa (ax (ae (xv 1)) (ah) (fun _ _=>rfl)) (aj)))) (ak (bE (aG Bl cT (bA cn rfl cC PySem.boot_len (aa (ax (ae (xv 2)) (ah) (fun _ _=>rfl)) (aj))) (ae (xv 3)) (aU _)) (az (iF rfl E_NoKind rfl (aa (aC) (aj)))) (aI)) (ak (aA (i:=4) mD.nd rfl ‹1› (ay j7 aZ hr ‹0› (aa (ax (ae (xv 1)) (ah) (fun _ _=>rfl)) (aa (iy (ax (ae (xv 2)) (ah) (fun _ _=>rfl)) (jH) (jv (ae (xv 3)))) (aj))))) (ak (bE (aG (qW hr.units) aq (y8 fU (ae (xv 0))) (ay nD aZ hr ‹0› (aa (ae (xv 1)) (aj))) rfl) (az (iF rfl E_Twice rfl (aa (aC) (aj)))) (aI)) (ak (aA (i:=5) mD.nd rfl ‹1› (aM (aa (iy (ax (ae (xv 2)) (ah) (fun _ _=>rfl)) (jv (ae (xv 3))) (jH)) (aa (ax (ae (xv 2)) (ah) (fun _ _=>rfl)) (aj))))) (ak (bE (zg (jo (aG EK cT (bA cn rfl cC PySem.boot_len (aa (ax (ae (xv 1)) (ah) (fun _ _=>rfl)) (aj))) (ww rfl c_MOST_FIELDS) (aU _)) (ie (aG EK cT (ay iM (mH 12) hr ‹0› (aa (ae (xv 5)) (aj))) (ww rfl c_MOST_WITHIN) (aU _))))) (az (iF rfl E_TooMany rfl (aa (aC) (aj)))) (aI)) (az (aT (aM (aa (ae (xv 4)) (aa (ao aJ aq (ax (ae (xv 1)) (ah) (fun _ _=>rfl)) (aM (aa (aM (aa (y8 fU (ae (xv 0))) (aa (aM (aa (aC) (aa (ae (xv 5)) (aa (jm) (aj))))) (aj)))) (aj)))) (aj))))))))))))⟩
theorem sB {f:Qo} (jk:qk P w K mg base 1 "_law_which" ["_law_error"] (Dr (bv cJ 1 3))) (jp:pR P w K mg base 14 "view_form" ["self","one","other"] [("Pair",(bv cN 3 3)),("Gather",(bv aP 3 6))]) (rS:rF P w K mg base 1 "Gather" ["self","name"] ["name"]) (T_GlassError:wl K mg "GlassError" ["Twice","NoKind","Nothing","TooMany"]):cV P w K mg base 14 ["_law_one","_law_other","_law_name_here","_law_found_here","e"] "_law_found" il f bX :=
 ⟨fun cdv A outer s H E hr hp=>(ak (aA (i:=3) rW.nd rfl ‹1› (aC)) (ak (DY rfl rfl rfl (fun _=>rfl) T_GlassError rfl rW.nd rfl rfl (fun E' pn hp=>az (Bs (Bi jp hr ‹0› (Ec rS hr ‹0› rfl (aa (ae (xv 2)) (aj))) (aa (ae (xv 0)) (aa (ae (xv 1)) (aj)))))) (fun A' pn hA hU=>az (aA (i:=3) rW.nd rfl ‹1› (v7 jk (Fz aZ) (iL.at hr hA hU) ‹0› (aa (ae (xv 4)) (aj)))))) (az (aT (ae (xv 3))))))⟩
theorem uZ {n:Nat} {f:Qo} (fY:mg "max"=none) {aV:List D->R D} (fw:Callee P w K mg base (0+n) "_law_deep" ["_law_form_here"] aV) (L__law_deep:Ar 1 aV):cV P w K mg base (0+n) ["_law_form_here","_law_found_here","_law_name_here","_law_kind_here"] "_law_deep" gQ f (ja aV) :=
 ⟨fun cdv A outer s H E hr hp=>(ak (aA (i:=1) uH.nd rfl ‹1› (ah)) (ak (eX hp rfl (cm (ax (ae (xv 0)) (ah) (fun _ _=>rfl))) (cY (g:=e7 [2,3]) rfl (aS (aF (i:=2) uH.nd rfl ‹1›) (aS (aF (i:=3) uH.nd rfl ‹1›) (cH)))) (ak (bE (aG (bU hr.units) aq (ax (ae (xv 3)) (ah) (fun _ _=>rfl)) (aC) (aU _)) (az (aA (i:=1) uH.nd rfl ‹1› (bA (nA rfl) rfl fY P8 (aa (ae (xv 1)) (aa (ao aJ aq (ah) (ay fw L__law_deep hr ‹0› (aa (ax (ae (xv 3)) (ah) (fun _ _=>rfl)) (aj)))) (aj)))))) (aI)) (bS [2,3] aI))) (az (aT (ae (xv 1))))))⟩
theorem mO {f__law_deep:Qo} {fd__law_deep:QX} (F__law_deep:w8 K "_law_deep" "_law_deep" gQ f__law_deep fd__law_deep) (kS:Binds K fd__law_deep ["_law_form_here"] []) (m__law_deep:mg "_law_deep"=some (.ref f__law_deep)) (fY:mg "max"=none):∀ n:Nat,Callee P w K mg base (0+n) "_law_deep" ["_law_form_here"] (aV n)
 | 0=>by
  rw [aV]
  exact jb 0 F__law_deep kS m__law_deep
 | n+1=>by
  have ih:=mO F__law_deep kS m__law_deep fY n
  rw [gF]
  exact bx F__law_deep kS m__law_deep uH (cV.ok (uZ fY ih (iH n)))
theorem qa {f:Qo} (oh:mg "min"=none) (fY:mg "max"=none) (bj:mg "tuple"=none):cV P w K mg base 0 ["_law_one","_law_other"] "_law_in_both" fO f du :=
 ⟨fun cdv A outer s H E hr hp=>(ak (bE (aG (bU hr.units) aq (ax (ae (xv 0)) (ah) (fun _ _=>rfl)) (aC) (aU _)) (az (aT (aM (aa (aC) (aa (bA (nA rfl) rfl fY P8 (aa (ax (ae (xv 0)) (ah) (fun _ _=>rfl)) (aa (ax (ae (xv 1)) (ah) (fun _ _=>rfl)) (aj)))) (aa (bA (nu rfl) rfl oh P9 (aa (ax (ae (xv 0)) (ah) (fun _ _=>rfl)) (aa (ax (ae (xv 1)) (ah) (fun _ _=>rfl)) (aj)))) (aj))))))) (aI)) (az (aT (aM (aa (aC) (aa (bQ bW rfl bj P7 (aa (df (N:=["_law_word","_law_other"]) (ix:=[none,some 1]) rfl (.of rfl) (cP rfl) (cm (ax (ae (xv 0)) (ah) (fun _ _=>rfl))) ⟨fun _ _ _ _ _ _=>⟨aF (i:=0) HX rfl (Or.inl rfl),fE (aG (qW hr.units) aq (ae (xv 0)) (ax (ae (xv 1)) (ah) (fun _ _=>rfl)) rfl),ae (xv 0)⟩⟩) (aj))) (aj)))))))⟩
theorem wC {f:Qo} (iJ:Callee P w K mg base 1 "_law_in_both" ["_law_one","_law_other"] (bv du 2 2)) (fw:Callee P w K mg base 12 "_law_deep" ["_law_form_here"] (aV 12)) (cC:mg "len"=none) (nW:mg "zip"=none):cV P w K mg base 12 ["_law_one","_law_other","_law_name_here","_law_many","_law_first","_law_last","_law_meet"] "_law_due" kg f gb :=
 ⟨fun cdv A outer s H E hr hp=>(ak (aA (i:=3) vJ.nd rfl ‹1› (bA cn rfl cC PySem.boot_len (aa (ax (ae (xv 0)) (ah) (fun _ _=>rfl)) (aj)))) (ak (bE (aG Bl cT (bA cn rfl cC PySem.boot_len (aa (ax (ae (xv 1)) (ah) (fun _ _=>rfl)) (aj))) (ae (xv 3)) (aU _)) (az (aT (aC))) (aI)) (bS [3] (ak (eX hp rfl (nY rfl nW (aa (ax (ae (xv 0)) (ah) (fun _ _=>rfl)) (aa (ax (ae (xv 1)) (ah) (fun _ _=>rfl)) (aj)))) (cY (g:=e7 [4,5]) rfl (aS (aF (i:=4) vJ.nd rfl ‹1›) (aS (aF (i:=5) vJ.nd rfl ‹1›) (cH)))) (ak (bE (zg (jo (aG (ka hr.units) aq (ax (ae (xv 4)) (ah) (fun _ _=>rfl)) (ax (ae (xv 5)) (ah) (fun _ _=>rfl)) (aU _)) (ie (aG (ka hr.units) aq (ax (ax (ae (xv 4)) (ah) (fun _ _=>rfl)) (ah) (fun _ _=>rfl)) (ax (ax (ae (xv 5)) (ah) (fun _ _=>rfl)) (ah) (fun _ _=>rfl)) (aU _))))) (az (aT (aC))) (aI)) (bS [4,5] aI))) (bS [3,4,5] (ak (eX hp rfl (nY rfl nW (aa (ax (ae (xv 0)) (ah) (fun _ _=>rfl)) (aa (ax (ae (xv 1)) (ah) (fun _ _=>rfl)) (aj)))) (cY (g:=e7 [4,5]) rfl (aS (aF (i:=4) vJ.nd rfl ‹1›) (aS (aF (i:=5) vJ.nd rfl ‹1›) (cH)))) (ak (aA (i:=6) vJ.nd rfl ‹1› (ay iJ aZ hr ‹0› (aa (ax (ae (xv 4)) (ah) (fun _ _=>rfl)) (aa (ax (ae (xv 5)) (ah) (fun _ _=>rfl)) (aj))))) (ak (bE (zg (jo (zg (lH (aG (bU hr.units) aq (ax (ae (xv 6)) (ah) (fun _ _=>rfl)) (aC) (aU _)) (kP (aG rm cT (ax (ae (xv 6)) (ah) (fun _ _=>rfl)) (ax (ae (xv 6)) (ah) (fun _ _=>rfl)) (aU _))))) (ie (aG (bU hr.units) aq (ae (xv 6)) (aM (aa (aC) (aa (aM (aj)) (aj)))) (aU _))))) (az (aT (aC))) (aI)) (bS [4,5,6] aI)))) (ak (bE (aG (qW hr.units) aq (ae (xv 2)) (df (N:=["_law_own","_law_kind_here"]) (ix:=[none,none]) rfl (.of rfl) (cz rfl) (cm (ao aJ aq (ax (ae (xv 0)) (ah) (fun _ _=>rfl)) (ax (ae (xv 0)) (ah) (fun _ _=>rfl)))) ⟨fun _ _ _ _ _ _=>⟨cY (g:=e7 [0,1]) rfl (aS (aF (i:=0) EB rfl (Or.inl rfl)) (aS (aF (i:=1) EB rfl (Or.inl rfl)) (cH))),cD,ae (xv 0)⟩⟩) rfl) (az (aT (aC))) (aI)) (ak (bE (zg (jo (aG rm cT (bA cn rfl cC PySem.boot_len (aa (ax (ae (xv 0)) (ah) (fun _ _=>rfl)) (aj))) (ah) (aU _)) (jo (aG rm cT (ay fw (iH 12) hr ‹0› (aa (ae (xv 0)) (aj))) (ah) (aU _)) (ie (aG rm cT (ay fw (iH 12) hr ‹0› (aa (ae (xv 1)) (aj))) (ah) (aU _)))))) (az (aT (aC))) (aI)) (az (aT (aC)))))))))))⟩
theorem vh {f:Qo} :cV P w K mg base 0 ["_law_x"] "_law_next" i5 f bm :=
 ⟨fun cdv A outer s H E hr hp=>(az (aT (ao aY aX (ao aJ aq (ao aJ aq (ao iO iR (ae (xv 0)) (ae (xv 0))) (ao iO iR (ah) (ae (xv 0)))) (ah)) (ah))))⟩
theorem pX {f:Qo} (cC:mg "len"=none):cV P w K mg base 0 ["_law_script","_law_k"] "_law_cell_at" fH f bB :=
 ⟨fun cdv A outer s H E hr hp=>(ak (bE (aG (rA hr.units) aq (ae (xv 1)) (bA cn rfl cC PySem.boot_len (aa (ae (xv 0)) (aj))) (aU _)) (az (aT (ax (ae (xv 0)) (ae (xv 1)) (fun _ _=>rfl)))) (aI)) (az (aT (ah))))⟩
theorem vm {f:Qo} (bG:Callee P w K mg base 1 "_law_cell_at" ["_law_script","_law_k"] (bv bB 2 2)) (aW:Callee P w K mg base 1 "_law_next" ["_law_x"] (bv bm 1 1)):cV P w K mg base 1 ["_law_script","_law_k","_law_x"] "_law_seed" iZ f bR :=
 ⟨fun cdv A outer s H E hr hp=>(ak (aA (i:=2) uE.nd rfl ‹1› (ao aY aX (ao aJ aq (ao aJ aq (ao aY aX (ay bG aZ hr ‹0› (aa (ae (xv 0)) (aa (ae (xv 1)) (aj)))) (ah)) (ao iO iR (ao iO iR (ah) (ae (xv 1))) (ae (xv 1)))) (ah)) (ah))) (az (aT (ay aW aZ hr ‹0› (aa (ay aW aZ hr ‹0› (aa (ae (xv 2)) (aj))) (aj))))))⟩
theorem ur {f:Qo} (bY:mg "range"=none):cV P w K mg base 0 ["_law_base","_law_k","_law_letters","_law_size","_law_name_here","_law_j","_law_step"] "_law_name" jh f aK :=
 ⟨fun cdv A outer s H E hr hp=>(ak (aA (i:=2) vx.nd rfl ‹1› (aC)) (ak (aA (i:=1) vx.nd rfl ‹1› (ao aY aX (ao aJ aq (ao iO iR (ae (xv 1)) (ax (bV (aa (ah) (aa (ah) (aa (ah) (aa (ah) (aa (ah) (aa (ah) (aj)))))))) (ao aY aX (ae (xv 0)) (ah)) (fun _ _=>rfl))) (ao aQ bF (ae (xv 0)) (ah))) (ah))) (ak (aA (i:=0) vx.nd rfl ‹1› (ao aQ bF (ae (xv 0)) (ah))) (ak (bE (aG (bU hr.units) aq (ao aY aX (ae (xv 0)) (ah)) (ah) (aU _)) (az (aT (ao nN aq (ax (ae (xv 2)) (ao aY aX (ao aJ aq (ao aQ bF (ae (xv 0)) (ah)) (ao aQ bF (ae (xv 1)) (ah))) (ah)) (fun _ _=>rfl)) (ao aJ aq (ah) (ao aY aX (ae (xv 1)) (ah)))))) (aI)) (ak (aA (i:=3) vx.nd rfl ‹1› (ao aJ aq (ah) (ao aY aX (ao aQ bF (ae (xv 0)) (ah)) (ah)))) (ak (aA (i:=4) vx.nd rfl ‹1› (aC)) (ak (eX hp rfl (dU rfl bY (aa (ae (xv 3)) (aj))) (aF (i:=5) vx.nd rfl ‹1›) (ak (aA (i:=6) vx.nd rfl ‹1› (ao aQ bF (ae (xv 0)) (ao aJ aq (ah) (ao iO iR (ao iO iR (ah) (ae (xv 5))) (ae (xv 5)))))) (ak (bE (aG (bU hr.units) aq (ae (xv 5)) (ao aY aX (ao aQ bF (ae (xv 0)) (ah)) (ae (xv 3))) (aU _)) (az (aA (i:=6) vx.nd rfl ‹1› (ao aJ aq (ae (xv 6)) (ae (xv 1))))) (aI)) (ak (aA (i:=4) vx.nd rfl ‹1› (ao aJ aq (ae (xv 4)) (ax (ae (xv 2)) (ao aY aX (ae (xv 6)) (ah)) (fun _ _=>rfl)))) (bS [5,6] aI))))) (az (aT (ae (xv 4)))))))))))⟩
theorem uv {f:Qo} (aR:Callee P w K mg base 1 "_law_name" ["_law_base","_law_k"] (bv aK 2 7)) (gX:mg "list"=none) (cC:mg "len"=none) (bY:mg "range"=none) (bj:mg "tuple"=none):cV P w K mg base 1 ["_law_rest","_law_names","_law_base","_law_x","_law_name_here","_law_kind_here","_law_k","_law_form_here"] "_law_more" jd f fg :=
 ⟨fun cdv A outer s H E hr hp=>(ak (fJ (i:=0) uU.nd rfl ‹1› (wj rfl gX Qa (aa (ae (xv 0)) (aj)))) (ak (eX hp rfl (cm (ae (xv 1))) (aF (i:=4) uU.nd rfl ‹1›) (ak (bE (kJ [0] (zg (lH (aG (rA hr.units) aq (bA cn rfl cC PySem.boot_len (aa (ae (xv 0)) (aj))) (ah) (aU _)) (lH (aG (bU hr.units) aq (ao aY aX (ao aQ bF (ae (xv 3)) (ah)) (ah)) (ah) (aU _)) (kP (aG (jP hr.units) aq (ae (xv 4)) (df (N:=["_law_own","_law_kind_here"]) (ix:=[none,none]) rfl (.of rfl) (cz rfl) (cm (ae (xv 0))) ⟨fun _ _ _ _ _ _=>⟨cY (g:=e7 [0,1]) rfl (aS (aF (i:=0) EG rfl (Or.inl rfl)) (aS (aF (i:=1) EG rfl (Or.inl rfl)) (cH))),cD,ae (xv 0)⟩⟩) rfl)))))) (az (kU Qh Qi fz fZ (xv 0) (aa (aM (aa (ae (xv 4)) (aa (aM (aa (aC) (aa (ah) (aa (ao aY aX (ae (xv 3)) (ah)) (aj))))) (aj)))) (aj)))) (aI)) (bS [4,5] aI))) (ak (aA (i:=5) uU.nd rfl ‹1› (aM (aa (aC) (aa (aM (aa (aC) (aa (aC) (aj)))) (aj))))) (bS [1,4] (ak (eX hp rfl (dU rfl bY (aa (ao aY aX (ao aQ bF (ae (xv 3)) (ah)) (ah)) (aj))) (aF (i:=6) uU.nd rfl ‹1›) (ak (aA (i:=7) uU.nd rfl ‹1› (aM (aa (aM (aa (aM (aa (ay aR aZ hr ‹0› (aa (ae (xv 2)) (aa (ae (xv 6)) (aj)))) (aa (aM (aa (aC) (aa (ah) (aa (ah) (aj))))) (aj)))) (aj))) (aa (aM (aa (aM (aa (ay aR aZ hr ‹0› (aa (ae (xv 2)) (aa (ah) (aj)))) (aa (ae (xv 5)) (aj)))) (aj))) (aj))))) (ak (aA (i:=5) uU.nd rfl ‹1› (aM (aa (aC) (aa (ae (xv 7)) (aa (qv (bU hr.units) aq (ao aY aX (ae (xv 6)) (ah)) (ah) (aU _)) (aj)))))) (bS [6,7] aI)))) (ak (bE (kJ [0] (zg (lH (aG rm cT (bA cn rfl cC PySem.boot_len (aa (ae (xv 0)) (aj))) (ah) (aU _)) (kP (aG (bU hr.units) aq (ao aY aX (ao aQ bF (ae (xv 3)) (ah)) (ah)) (ah) (aU _)))))) (az (kR (xv 0) (qj (ah)) (aM (aa (ax (n6 (xv 0) (qj (ah)) (fun _ _=>rfl)) (ah) (fun _ _=>rfl)) (aa (ae (xv 5)) (aj)))))) (aI)) (eJ 0 (az (aT (bQ bW rfl bj P7 (aa (ae (xv 0)) (aj))))))))))))⟩
theorem p3 {f:Qo} (gX:mg "list"=none) (cC:mg "len"=none) (B5:mg "int"=none) (bj:mg "tuple"=none):cV P w K mg base 0 ["_law_key","_law_first","_law_x","_law_spare","_law_at","_law_kind_here","_law_way","_law_near"] "_law_odd_key" fF f dS :=
 ⟨fun cdv A outer s H E hr hp=>(ak (fJ (i:=0) pY.nd rfl ‹1› (wj rfl gX Qa (aa (ae (xv 0)) (aj)))) (ak (aA (i:=4) pY.nd rfl ‹1› (Ca [0] (ao aY aX (ao aQ bF (ae (xv 2)) (ah)) (bA cn rfl cC PySem.boot_len (aa (ae (xv 0)) (aj)))))) (ak (aA (i:=5) pY.nd rfl ‹1› (ax (n6 (xv 0) (ae (xv 4)) (fun _ _=>rfl)) (ah) (fun _ _=>rfl))) (ak (aA (i:=6) pY.nd rfl ‹1› (ao aY aX (ae (xv 2)) (ah))) (ak (bE (kJ [0] (zg (lH (aG (bU hr.units) aq (ae (xv 6)) (ah) (aU _)) (kP (aG rm cT (bA cn rfl cC PySem.boot_len (aa (ae (xv 0)) (aj))) (ah) (aU _)))))) (az (Dm Qj Qk FH zS (xv 0))) (aI)) (ak (bE (kJ [0] (zg (lH (aG (bU hr.units) aq (ae (xv 6)) (ah) (aU _)) (kP (aG rm cT (bA cn rfl cC PySem.boot_len (aa (ae (xv 0)) (aj))) (ah) (aU _)))))) (az (kU Qj Qk CY wL (xv 0) (aa (ae (xv 4)) (aj)))) (aI)) (ak (bE (aG (bU hr.units) aq (ae (xv 6)) (ah) (aU _)) (az (fJ (i:=0) pY.nd rfl ‹1› (Au [0] (vk (iy (ae (xv 0)) (jv (ah)) (jH)) (iy (ae (xv 0)) (jH) (jv (ah))))))) (aI)) (ak (bE (aG (bU hr.units) aq (ae (xv 6)) (ah) (aU _)) (az (kR (xv 0) (ae (xv 4)) (aM (aa (ae (xv 3)) (aa (ae (xv 5)) (aj)))))) (aI)) (ak (bE (aG (bU hr.units) aq (ae (xv 6)) (ah) (aU _)) (az (kR (xv 0) (ae (xv 4)) (aM (aa (ax (n6 (xv 0) (ae (xv 4)) (fun _ _=>rfl)) (ah) (fun _ _=>rfl)) (aa (ax (bV (aa (aM (aa (aC) (aa (ah) (aa (ah) (aj))))) (aa (aM (aa (aC) (aa (aM (aa (aC) (aa (aC) (aj)))) (aj)))) (aj)))) (bQ xt rfl B5 PyProof.Rows.boot_int (aa (qv (bU hr.units) aq (ax (ae (xv 5)) (ah) (fun _ _=>rfl)) (aC) (aU _)) (aj))) (fun _ _=>rfl)) (aj)))))) (aI)) (ak (bE (aG (bU hr.units) aq (ae (xv 6)) (ah) (aU _)) (ak (aA (i:=7) pY.nd rfl ‹1› (ax (ax (ae (xv 1)) (ao aY aX (ae (xv 4)) (bA cn rfl cC PySem.boot_len (aa (ae (xv 1)) (aj)))) (fun _ _=>rfl)) (ah) (fun _ _=>rfl))) (ak (kR (xv 0) (ae (xv 4)) (aM (aa (ax (n6 (xv 0) (ae (xv 4)) (fun _ _=>rfl)) (ah) (fun _ _=>rfl)) (aa (aM (aa (aC) (aa (aM (aa (aC) (aj))) (aj)))) (aj))))) (az (bE (aG (bU hr.units) aq (ax (ae (xv 7)) (ah) (fun _ _=>rfl)) (aC) (aU _)) (az (kR (xv 0) (ae (xv 4)) (aM (aa (ax (n6 (xv 0) (ae (xv 4)) (fun _ _=>rfl)) (ah) (fun _ _=>rfl)) (aa (aM (aa (aC) (aa (ao aJ aq (ax (ae (xv 7)) (ah) (fun _ _=>rfl)) (ah)) (aa (ao aJ aq (ax (ae (xv 7)) (ah) (fun _ _=>rfl)) (ah)) (aj))))) (aj)))))) (aI))))) (aI)) (eJ 0 (az (aT (bQ bW rfl bj P7 (aa (ae (xv 0)) (aj))))))))))))))))⟩
theorem kC {f:Qo} (aW:Callee P w K mg base 1 "_law_next" ["_law_x"] (bv bm 1 1)) (cM:Callee P w K mg base 2 "_law_seed" ["_law_script","_law_k"] (bv bR 2 3)) (bG:Callee P w K mg base 1 "_law_cell_at" ["_law_script","_law_k"] (bv bB 2 2)) (aR:Callee P w K mg base 1 "_law_name" ["_law_base","_law_k"] (bv aK 2 7)) (cC:mg "len"=none):cV P w K mg base 2 ["_law_one","_law_other","_law_script","_law_x","_law_base","_law_taken","_law_some"] "_law_gathered_name" cX f cG :=
 ⟨fun cdv A outer s H E hr hp=>(ak (aA (i:=3) kA.nd rfl ‹1› (ay aW aZ hr ‹0› (aa (ay cM aZ hr ‹0› (aa (ae (xv 2)) (aa (ah) (aj)))) (aj)))) (ak (aA (i:=4) kA.nd rfl ‹1› (ao aY aX (ao iO iR (ay bG aZ hr ‹0› (aa (ae (xv 2)) (aa (ah) (aj)))) (ah)) (ah))) (ak (by first | exact qO (i:=5) kA.nd rfl ‹1› (N:=["_law_name_here","_law_kind_here"]) (ix:=[none,none]) rfl (.of rfl) (cz rfl) (cm (ao aJ aq (ax (ae (xv 0)) (ah) (fun _ _=>rfl)) (ax (ae (xv 0)) (ah) (fun _ _=>rfl)))) ⟨fun _ _ _ _ _ _=>⟨cY (g:=e7 [0,1]) rfl (aS (aF (i:=0) yL rfl (Or.inl rfl)) (aS (aF (i:=1) yL rfl (Or.inl rfl)) (cH))),cD,ae (xv 0)⟩⟩ | exact aA (i:=5) kA.nd rfl ‹1› (df (N:=["_law_name_here","_law_kind_here"]) (ix:=[none,none]) rfl (.of rfl) (cz rfl) (cm (ao aJ aq (ax (ae (xv 0)) (ah) (fun _ _=>rfl)) (ax (ae (xv 0)) (ah) (fun _ _=>rfl)))) ⟨fun _ _ _ _ _ _=>⟨cY (g:=e7 [0,1]) rfl (aS (aF (i:=0) yL rfl (Or.inl rfl)) (aS (aF (i:=1) yL rfl (Or.inl rfl)) (cH))),cD,ae (xv 0)⟩⟩)) (ak (aA (i:=6) kA.nd rfl ‹1› (ao aJ aq (df (N:=["_law_name_here","_law_kind_here"]) (ix:=[none,none]) rfl (.of rfl) (cz rfl) (cm (ao aJ aq (ax (ae (xv 1)) (ah) (fun _ _=>rfl)) (ax (ae (xv 1)) (ah) (fun _ _=>rfl)))) ⟨fun _ _ _ _ _ _=>⟨cY (g:=e7 [0,1]) rfl (aS (aF (i:=0) EW rfl (Or.inl rfl)) (aS (aF (i:=1) EW rfl (Or.inl rfl)) (cH))),cD,ae (xv 0)⟩⟩) (bV (aa (ay aR aZ hr ‹0› (aa (ae (xv 4)) (aa (ah) (aj)))) (aa (ay aR aZ hr ‹0› (aa (ae (xv 4)) (aa (ah) (aj)))) (aj)))))) (ak (by first | exact qO (i:=6) kA.nd rfl ‹1› (N:=["_law_name_here","_law_taken"]) (ix:=[none,some 5]) rfl (.of rfl) (cP rfl) (cm (ae (xv 6))) ⟨fun _ _ _ _ _ _=>⟨aF (i:=0) Fg rfl (Or.inl rfl),fE (aG (jP hr.units) aq (ae (xv 0)) (ae (xv 1)) rfl),ae (xv 0)⟩⟩ | exact aA (i:=6) kA.nd rfl ‹1› (df (N:=["_law_name_here","_law_taken"]) (ix:=[none,some 5]) rfl (.of rfl) (cP rfl) (cm (ae (xv 6))) ⟨fun _ _ _ _ _ _=>⟨aF (i:=0) Fg rfl (Or.inl rfl),fE (aG (jP hr.units) aq (ae (xv 0)) (ae (xv 1)) rfl),ae (xv 0)⟩⟩)) (az (aT (ax (ae (xv 6)) (ao aY aX (ae (xv 3)) (bA cn rfl cC PySem.boot_len (aa (ae (xv 6)) (aj)))) (fun _ _=>rfl)))))))))⟩
theorem sC {f:Qo} (bY:mg "range"=none) (cC:mg "len"=none) (bj:mg "tuple"=none) (jD:mg "sorted"=none) (gX:mg "list"=none):cV P w K mg base 0 ["_law_x","_law_low","_law_letters","_law_one","_law_other","_law_some","_law_kept","_law_k"] "_law_plain" ik f cf :=
 ⟨fun cdv A outer s H E hr hp=>(ak (bE (aG (rA hr.units) aq (ao aY aX (ae (xv 0)) (ah)) (ah) (aU _)) (ak (aA (i:=1) rX.nd rfl ‹1› (ax (bV (aa (ah) (aa (qj (ah)) (aa (ao uJ ux (ah) (ao aY aX (ao hX hJ (ae (xv 0)) (ah)) (ao hX hJ (ah) (ah)))) (aa (ao aY aX (ao hX hJ (ae (xv 0)) (ah)) (ao hX hJ (ah) (ah))) (aj)))))) (ao aY aX (ao aQ bF (ae (xv 0)) (ah)) (ah)) (fun _ _=>rfl))) (az (aT (aM (aa (aC) (aa (ae (xv 1)) (aa (ao aJ aq (ae (xv 1)) (ax (bV (aa (ah) (aa (ah) (aa (ah) (aa (ao hX hJ (ah) (ah)) (aj)))))) (ao aY aX (ao aQ bF (ae (xv 0)) (ah)) (ah)) (fun _ _=>rfl))) (aj)))))))) (aI)) (ak (aA (i:=2) rX.nd rfl ‹1› (aC)) (ak (aA (i:=3) rX.nd rfl ‹1› (ax (ae (xv 2)) (ao aY aX (ao aQ bF (ae (xv 0)) (ah)) (ah)) (fun _ _=>rfl))) (ak (aA (i:=4) rX.nd rfl ‹1› (ax (ae (xv 2)) (ao aY aX (ao aQ bF (ae (xv 0)) (ah)) (ah)) (fun _ _=>rfl))) (ak (aA (i:=5) rX.nd rfl ‹1› (bV (aa (aC) (aa (ae (xv 3)) (aa (ae (xv 4)) (aa (ao aJ aq (ae (xv 3)) (ae (xv 4))) (aa (ao aJ aq (ae (xv 4)) (ae (xv 3))) (aa (ao nN aq (ae (xv 3)) (ah)) (aa (ao aJ aq (ae (xv 3)) (ae (xv 3))) (aa (ao nN aq (ae (xv 4)) (ah)) (aj))))))))))) (ak (fJ (i:=6) rX.nd rfl ‹1› (t9)) (bS [1,2,4] (ak (eX hp rfl (dU rfl bY (aa (ah) (aj))) (aF (i:=7) rX.nd rfl ‹1›) (ak (bE (aG (bU hr.units) aq (ao xP ye (ao yg xE (ao aQ bF (ae (xv 0)) (ah)) (ae (xv 7))) (ah)) (ah) (aU _)) (az (rE (hr.units) (xv 6) (ax (ae (xv 5)) (ae (xv 7)) (fun _ _=>rfl)) (jm))) (aI)) (bS [7] aI))) (ak (bE (kJ [6] (aG (bU hr.units) aq (bA zU rfl cC PySem.boot_len (aa (ae (xv 6)) (aj))) (ah) (aU _))) (az (rE (hr.units) (xv 6) (ae (xv 3)) (jm))) (aI)) (eJ 6 (az (aT (aM (aa (aC) (aa (bQ bW rfl bj P7 (aa (bA om rfl jD nM (aa (bQ (rP rfl) rfl gX Qa (aa (ae (xv 6)) (aj))) (aj))) (aj))) (aj))))))))))))))))⟩
theorem uI {n:Nat} {f:Qo} (cK:Callee P w K mg base 1 "_law_plain" ["_law_x"] (bv cf 1 8)) (aW:Callee P w K mg base 1 "_law_next" ["_law_x"] (bv bm 1 1)) (aR:Callee P w K mg base 1 "_law_name" ["_law_base","_law_k"] (bv aK 2 7)) (bY:mg "range"=none) (bj:mg "tuple"=none) {bf:List D->R D} (kW:Callee P w K mg base (1+n) "_law_kind" ["_law_x","_law_base","_law_deep_here"] bf) (L__law_kind:Ar 3 bf) {aL:List D->R D} (dP:Callee P w K mg base (1+n) "_law_form" ["_law_x","_law_base","_law_start","_law_many","_law_more_here","_law_deep_here"] aL) (L__law_form:Ar 6 aL):cV P w K mg base (1+n) ["_law_x","_law_base","_law_deep_here","_law_inner"] "_law_kind" gO f (gW bf aL) :=
 ⟨fun cdv A outer s H E hr hp=>(ak (bE (zg (jo (aG (bU hr.units) aq (ae (xv 2)) (ah) (aU _)) (ie (aG (rA hr.units) aq (ao aY aX (ae (xv 0)) (ah)) (ah) (aU _))))) (az (aT (ay cK aZ hr ‹0› (aa (ao aQ bF (ae (xv 0)) (ah)) (aj))))) (aI)) (ak (aA (i:=3) vw.nd rfl ‹1› (ay dP L__law_form hr ‹0› (aa (ao aQ bF (ae (xv 0)) (ah)) (aa (ae (xv 1)) (aa (ao aY aX (ao aQ bF (ae (xv 0)) (ah)) (ah)) (aa (ao aJ aq (ah) (ao aY aX (ao aQ bF (ae (xv 0)) (ah)) (ah))) (aa (ao aY aX (ao aQ bF (ae (xv 0)) (ah)) (ah)) (aa (ao uJ ux (ae (xv 2)) (ah)) (aj))))))))) (az (aT (aM (aa (aC) (aa (ae (xv 3)) (aa (qv (bU hr.units) aq (ao aY aX (ao aQ bF (ae (xv 0)) (ah)) (ah)) (ah) (aU _)) (aj)))))))))⟩
theorem vA {n:Nat} {f:Qo} (cK:Callee P w K mg base 1 "_law_plain" ["_law_x"] (bv cf 1 8)) (aW:Callee P w K mg base 1 "_law_next" ["_law_x"] (bv bm 1 1)) (aR:Callee P w K mg base 1 "_law_name" ["_law_base","_law_k"] (bv aK 2 7)) (bY:mg "range"=none) (bj:mg "tuple"=none) {bf:List D->R D} (kW:Callee P w K mg base (1+n) "_law_kind" ["_law_x","_law_base","_law_deep_here"] bf) (L__law_kind:Ar 3 bf) {aL:List D->R D} (dP:Callee P w K mg base (1+n) "_law_form" ["_law_x","_law_base","_law_start","_law_many","_law_more_here","_law_deep_here"] aL) (L__law_form:Ar 6 aL):cV P w K mg base (1+n) ["_law_x","_law_base","_law_start","_law_many","_law_more_here","_law_deep_here","_law_key","_law_rest","_law_k"] "_law_form" gR f (ji bf aL) :=
 ⟨fun cdv A outer s H E hr hp=>(ak (fJ (i:=6) uV.nd rfl ‹1› (qe (aj))) (ak (fJ (i:=7) uV.nd rfl ‹1› (qe (aj))) (ak (eX hp rfl (dU rfl bY (aa (ao aJ aq (ae (xv 3)) (ae (xv 4))) (aj))) (aF (i:=8) uV.nd rfl ‹1›) (ak (aA (i:=0) uV.nd rfl ‹1› (ay aW aZ hr ‹0› (aa (ae (xv 0)) (aj)))) (ak (bE (aG (rA hr.units) aq (ae (xv 8)) (ae (xv 3)) (aU _)) (az (kU Qh Qi fz fZ (xv 6) (aa (aM (aa (ay aR aZ hr ‹0› (aa (ae (xv 1)) (aa (ao aJ aq (ae (xv 2)) (ae (xv 8))) (aj)))) (aa (ay cK aZ hr ‹0› (aa (ae (xv 0)) (aj))) (aj)))) (aj)))) (az (kU Qh Qi fz fZ (xv 7) (aa (aM (aa (ay aR aZ hr ‹0› (aa (ae (xv 1)) (aa (ao aJ aq (ae (xv 2)) (ae (xv 8))) (aj)))) (aa (ay kW L__law_kind hr ‹0› (aa (ae (xv 0)) (aa (ae (xv 1)) (aa (ae (xv 5)) (aj))))) (aj)))) (aj))))) (bS [8] aI)))) (eJ 7 (eJ 6 (az (aT (aM (aa (bQ bW rfl bj P7 (aa (ae (xv 6)) (aj))) (aa (bQ bW rfl bj P7 (aa (ae (xv 7)) (aj))) (aj)))))))))))⟩
theorem mM {f__law_kind:Qo} {fd__law_kind:QX} (F__law_kind:w8 K "_law_kind" "_law_kind" gO f__law_kind fd__law_kind) (lr:Binds K fd__law_kind ["_law_x","_law_base","_law_deep_here"] []) (m__law_kind:mg "_law_kind"=some (.ref f__law_kind)) {f__law_form:Qo} {fd__law_form:QX} (F__law_form:w8 K "_law_form" "_law_form" gR f__law_form fd__law_form) (kL:Binds K fd__law_form ["_law_x","_law_base","_law_start","_law_many","_law_more_here","_law_deep_here"] []) (m__law_form:mg "_law_form"=some (.ref f__law_form)) (cK:Callee P w K mg base 1 "_law_plain" ["_law_x"] (bv cf 1 8)) (aW:Callee P w K mg base 1 "_law_next" ["_law_x"] (bv bm 1 1)) (aR:Callee P w K mg base 1 "_law_name" ["_law_base","_law_k"] (bv aK 2 7)) (bY:mg "range"=none) (bj:mg "tuple"=none):∀ n:Nat,Callee P w K mg base (1+n) "_law_kind" ["_law_x","_law_base","_law_deep_here"] (bf n)/\Callee P w K mg base (1+n) "_law_form" ["_law_x","_law_base","_law_start","_law_many","_law_more_here","_law_deep_here"] (aL n)
 | 0=>by
  rw [bf]; rw [aL]
  exact⟨jb 1 F__law_kind lr m__law_kind,jb 1 F__law_form kL m__law_form⟩
 | n+1=>by
  have ih:=mM F__law_kind lr m__law_kind F__law_form kL m__law_form cK aW aR bY bj n
  rw [et]; rw [gg]
  exact⟨bx F__law_kind lr m__law_kind vw (cV.ok (uI cK aW aR bY bj ih.1 (lh n) ih.2 (fM n))),bx F__law_form kL m__law_form uV (cV.ok (vA cK aW aR bY bj ih.1 (lh n) ih.2 (fM n)))⟩
theorem nh {f:Qo} (jD:mg "sorted"=none) (gX:mg "list"=none):cV P w K mg base 0 ["_law_x","_law_letters","_law_one","_law_other","_law_kept","_law_word"] "_law_some_words" dJ f cU :=
 ⟨fun cdv A outer s H E hr hp=>(ak (aA (i:=1) ny.nd rfl ‹1› (aC)) (ak (aA (i:=2) ny.nd rfl ‹1› (ax (ae (xv 1)) (ao aY aX (ae (xv 0)) (ah)) (fun _ _=>rfl))) (ak (aA (i:=3) ny.nd rfl ‹1› (ax (ae (xv 1)) (ao aY aX (ao aQ bF (ae (xv 0)) (ah)) (ah)) (fun _ _=>rfl))) (ak (fJ (i:=4) ny.nd rfl ‹1› (t9)) (bS [0,1] (ak (eX hp rfl (cm (bV (aa (aC) (aa (ae (xv 2)) (aa (ae (xv 3)) (aa (ao aJ aq (ae (xv 2)) (ae (xv 3))) (aa (ao aJ aq (ae (xv 3)) (ae (xv 2))) (aa (ao nN aq (ae (xv 2)) (ah)) (aa (ao aJ aq (ae (xv 2)) (ae (xv 2))) (aa (ao nN aq (ae (xv 3)) (ah)) (aj))))))))))) (aF (i:=5) ny.nd rfl ‹1›) (ak (rE (hr.units) (xv 4) (ae (xv 5)) (jm)) (bS [5] aI))) (eJ 4 (az (aT (bA om rfl jD nM (aa (bQ (rP rfl) rfl gX Qa (aa (ae (xv 4)) (aj))) (aj))))))))))))⟩
theorem nS {f:Qo} (aW:Callee P w K mg base 1 "_law_next" ["_law_x"] (bv bm 1 1)) (fK:Callee P w K mg base 1 "_law_some_words" ["_law_x"] (bv cU 1 6)) (cC:mg "len"=none) (bj:mg "tuple"=none) (i7:mg "enumerate"=none):cV P w K mg base 1 ["_law_x","_law_y","_law_low","_law_wide","_law_far","_law_one","_law_other","_law_some","_law_spare"] "_law_two_kinds" eA f dt :=
 ⟨fun cdv A outer s H E hr hp=>(ak (aA (i:=1) ou.nd rfl ‹1› (ay aW aZ hr ‹0› (aa (ae (xv 0)) (aj)))) (ak (aA (i:=2) ou.nd rfl ‹1› (ax (bV (aa (ah) (aa (qj (ah)) (aa (ao uJ ux (ah) (ao aY aX (ao hX hJ (ae (xv 1)) (ah)) (ao hX hJ (ah) (ah)))) (aa (ao aY aX (ao hX hJ (ae (xv 1)) (ah)) (ao hX hJ (ah) (ah))) (aj)))))) (ao aY aX (ao aQ bF (ae (xv 0)) (ah)) (ah)) (fun _ _=>rfl))) (ak (aA (i:=3) ou.nd rfl ‹1› (ax (bV (aa (ah) (aa (ah) (aa (ah) (aa (ao hX hJ (ah) (ah)) (aj)))))) (ao aY aX (ao aQ bF (ae (xv 0)) (ah)) (ah)) (fun _ _=>rfl))) (ak (aA (i:=4) ou.nd rfl ‹1› (ao aY aX (ao hX hJ (ae (xv 1)) (ah)) (ao aJ aq (ae (xv 3)) (ah)))) (ak (aA (i:=5) ou.nd rfl ‹1› (aM (aa (aC) (aa (ae (xv 2)) (aa (ao aJ aq (ae (xv 2)) (ae (xv 3))) (aj)))))) (ak (aA (i:=6) ou.nd rfl ‹1› (aM (aa (aC) (aa (ao aJ aq (ae (xv 2)) (ae (xv 4))) (aa (ao aJ aq (ao aJ aq (ae (xv 2)) (ae (xv 4))) (ax (bV (aa (ah) (aa (ah) (aa (ah) (aa (ao hX hJ (ah) (ah)) (aj)))))) (ao aY aX (ao aQ bF (ae (xv 0)) (ah)) (ah)) (fun _ _=>rfl))) (aj)))))) (ak (bE (aG (bU hr.units) aq (ao aY aX (ae (xv 0)) (ah)) (ah) (aU _)) (ak (aA (i:=7) ou.nd rfl ‹1› (ay fK aZ hr ‹0› (aa (ao aQ bF (ae (xv 0)) (ah)) (aj)))) (ak (aA (i:=8) ou.nd rfl ‹1› (ax (ae (xv 7)) (ao aY aX (ae (xv 1)) (bA cn rfl cC PySem.boot_len (aa (ae (xv 7)) (aj)))) (fun _ _=>rfl))) (ak (aA (i:=5) ou.nd rfl ‹1› (aM (aa (aC) (aa (bQ bW rfl bj P7 (aa (df (N:=["_law_k","_law_word","_law_spare","_law_y"]) (ix:=[none,none,some 8,some 1]) rfl (.of rfl) (cz rfl) (mI rfl i7 (aa (ae (xv 7)) (aj))) ⟨fun _ _ _ _ _ _=>⟨cY (g:=e7 [0,1]) rfl (aS (aF (i:=0) EJ rfl (Or.inl rfl)) (aS (aF (i:=1) EJ rfl (Or.inl rfl)) (cH))),fE (zg (jo (aG (bU hr.units) aq (ae (xv 1)) (ae (xv 2)) (aU _)) (ie (aG (bU hr.units) aq (ao xP ye (ao yg xE (ao aQ bF (ae (xv 3)) (ah)) (ae (xv 0))) (ah)) (ah) (aU _))))),ae (xv 1)⟩⟩) (aj))) (aj))))) (az (aA (i:=6) ou.nd rfl ‹1› (aM (aa (aC) (aa (bQ bW rfl bj P7 (aa (df (N:=["_law_k","_law_word","_law_spare","_law_y"]) (ix:=[none,none,some 8,some 1]) rfl (.of rfl) (cz rfl) (mI rfl i7 (aa (ae (xv 7)) (aj))) ⟨fun _ _ _ _ _ _=>⟨cY (g:=e7 [0,1]) rfl (aS (aF (i:=0) Fa rfl (Or.inl rfl)) (aS (aF (i:=1) Fa rfl (Or.inl rfl)) (cH))),fE (zg (jo (aG (bU hr.units) aq (ae (xv 1)) (ae (xv 2)) (aU _)) (ie (aG (bU hr.units) aq (ao xP ye (ao yg xE (ao aQ bF (ae (xv 3)) (ah)) (ae (xv 0))) (ah)) (ah) (aU _))))),ae (xv 1)⟩⟩) (aj))) (aj))))))))) (aI)) (ak (bE (aG (bU hr.units) aq (ao aY aX (ao aQ bF (ae (xv 0)) (ah)) (ah)) (ah) (aU _)) (az (aT (aM (aa (ae (xv 6)) (aa (ae (xv 5)) (aj)))))) (aI)) (az (aT (aM (aa (ae (xv 5)) (aa (ae (xv 6)) (aj))))))))))))))⟩
theorem oO {f:Qo} (aW:Callee P w K mg base 1 "_law_next" ["_law_x"] (bv bm 1 1)) (gA:Callee P w K mg base 2 "_law_two_kinds" ["_law_x"] (bv dt 1 9)) (aR:Callee P w K mg base 1 "_law_name" ["_law_base","_law_k"] (bv aK 2 7)) (bY:mg "range"=none) (bj:mg "tuple"=none):cV P w K mg base 2 ["_law_x","_law_base","_law_many","_law_one","_law_other","_law_k","_law_kinds"] "_law_two_keys" eW f dC :=
 ⟨fun cdv A outer s H E hr hp=>(ak (fJ (i:=3) oM.nd rfl ‹1› (qe (aj))) (ak (fJ (i:=4) oM.nd rfl ‹1› (qe (aj))) (ak (eX hp rfl (dU rfl bY (aa (ae (xv 2)) (aj))) (aF (i:=5) oM.nd rfl ‹1›) (ak (aA (i:=0) oM.nd rfl ‹1› (ay aW aZ hr ‹0› (aa (ae (xv 0)) (aj)))) (ak (aA (i:=6) oM.nd rfl ‹1› (ay gA aZ hr ‹0› (aa (ae (xv 0)) (aj)))) (ak (kU Qh Qi fz fZ (xv 3) (aa (aM (aa (ay aR aZ hr ‹0› (aa (ae (xv 1)) (aa (ae (xv 5)) (aj)))) (aa (ax (ae (xv 6)) (ah) (fun _ _=>rfl)) (aj)))) (aj))) (ak (kU Qh Qi fz fZ (xv 4) (aa (aM (aa (ay aR aZ hr ‹0› (aa (ae (xv 1)) (aa (ae (xv 5)) (aj)))) (aa (ax (ae (xv 6)) (ah) (fun _ _=>rfl)) (aj)))) (aj))) (bS [5,6] aI)))))) (eJ 4 (eJ 3 (az (aT (aM (aa (bQ bW rfl bj P7 (aa (ae (xv 3)) (aj))) (aa (bQ bW rfl bj P7 (aa (ae (xv 4)) (aj))) (aj)))))))))))⟩
theorem kj {f:Qo} (cM:Callee P w K mg base 2 "_law_seed" ["_law_script","_law_k"] (bv bR 2 3)) (bG:Callee P w K mg base 1 "_law_cell_at" ["_law_script","_law_k"] (bv bB 2 2)) (gZ:Callee P w K mg base 3 "_law_two_keys" ["_law_x","_law_base","_law_many"] (bv dC 3 7)) (aW:Callee P w K mg base 1 "_law_next" ["_law_x"] (bv bm 1 1)) (dP:Callee P w K mg base 13 "_law_form" ["_law_x","_law_base","_law_start","_law_many","_law_more_here","_law_deep_here"] (aL 12)) (oh:mg "min"=none):cV P w K mg base 13 ["_law_script","_law_x","_law_base","_law_many","_law_keys","_law_deep_here","_law_more_here","_law_first","_law_wide","_law_inner"] "_law_gathered_forms" cR f cy :=
 ⟨fun cdv A outer s H E hr hp=>(ak (aA (i:=1) jZ.nd rfl ‹1› (ay cM aZ hr ‹0› (aa (ae (xv 0)) (aa (ah) (aj))))) (ak (aA (i:=2) jZ.nd rfl ‹1› (ao aY aX (ao iO iR (ay bG aZ hr ‹0› (aa (ae (xv 0)) (aa (ah) (aj)))) (ah)) (ah))) (ak (aA (i:=3) jZ.nd rfl ‹1› (ax (bV (aa (ah) (aa (ah) (aa (ah) (aa (ah) (aa (ah) (aa (ah) (aa (ah) (aa (ao aJ aq (ah) (ao aY aX (ao aQ bF (ae (xv 1)) (ah)) (ah))) (aj)))))))))) (ao aY aX (ae (xv 1)) (ah)) (fun _ _=>rfl))) (ak (aA (i:=4) jZ.nd rfl ‹1› (ay gZ aZ hr ‹0› (aa (ay aW aZ hr ‹0› (aa (ae (xv 1)) (aj))) (aa (ae (xv 2)) (aa (ae (xv 3)) (aj)))))) (ak (aA (i:=5) jZ.nd rfl ‹1› (ax (bV (aa (ah) (aa (ah) (aa (ah) (aa (ah) (aj)))))) (ao aY aX (ao aQ bF (ae (xv 1)) (ah)) (ah)) (fun _ _=>rfl))) (ak (aA (i:=6) jZ.nd rfl ‹1› (ao aY aX (ao aQ bF (ae (xv 1)) (ah)) (ah))) (ak (bE (aG (bU hr.units) aq (ao aY aX (ao aQ bF (ae (xv 1)) (ah)) (ah)) (ah) (aU _)) (ak (aA (i:=6) jZ.nd rfl ‹1› (ao aY aX (ao aQ bF (ae (xv 1)) (ah)) (ah))) (az (aA (i:=5) jZ.nd rfl ‹1› (ah)))) (aI)) (ak (aA (i:=7) jZ.nd rfl ‹1› (ax (ay dP (fM 12) hr ‹0› (aa (ao aJ aq (ay aW aZ hr ‹0› (aa (ae (xv 1)) (aj))) (ah)) (aa (ae (xv 2)) (aa (ah) (aa (ah) (aa (ae (xv 6)) (aa (ae (xv 5)) (aj)))))))) (ah) (fun _ _=>rfl))) (ak (aA (i:=8) jZ.nd rfl ‹1› (ao aJ aq (ah) (ao aY aX (ao aQ bF (ae (xv 1)) (ah)) (bA (nu rfl) rfl oh P9 (aa (ah) (aa (ao uJ ux (ah) (ae (xv 3))) (aj))))))) (ak (aA (i:=9) jZ.nd rfl ‹1› (ay dP (fM 12) hr ‹0› (aa (ao aJ aq (ay aW aZ hr ‹0› (aa (ae (xv 1)) (aj))) (ah)) (aa (ae (xv 2)) (aa (ax (bV (aa (ah) (aa (ah) (aj)))) (ao aY aX (ao aQ bF (ae (xv 1)) (ah)) (ah)) (fun _ _=>rfl)) (aa (ae (xv 8)) (aa (ao aY aX (ao aQ bF (ae (xv 1)) (ah)) (ah)) (aa (ae (xv 5)) (aj))))))))) (az (aT (aM (aa (aM (aa (ax (ae (xv 4)) (ah) (fun _ _=>rfl)) (aa (ae (xv 7)) (aj)))) (aa (aM (aa (ao aJ aq (ax (ae (xv 4)) (ah) (fun _ _=>rfl)) (ax (ae (xv 9)) (ah) (fun _ _=>rfl))) (aa (ax (ae (xv 9)) (ah) (fun _ _=>rfl)) (aj)))) (aj))))))))))))))))⟩
theorem FL {f:Qo} {fd:QX} (F:w8 K "law" "law" rK f fd) (dG:Callee P w K mg base 14 "_law_gathered_forms" ["_law_script"] (bv cy 1 10)) (dZ:Callee P w K mg base 3 "_law_gathered_name" ["_law_one","_law_other","_law_script"] (bv cG 3 7)) (fG:Callee P w K mg base 15 "_law_found" ["_law_one","_law_other","_law_name_here"] (bv bX 3 5)) (bG:Callee P w K mg base 1 "_law_cell_at" ["_law_script","_law_k"] (bv bB 2 2)) (aR:Callee P w K mg base 1 "_law_name" ["_law_base","_law_k"] (bv aK 2 7)) (cM:Callee P w K mg base 2 "_law_seed" ["_law_script","_law_k"] (bv bR 2 3)) (iT:Callee P w K mg base 1 "_law_odd_key" ["_law_key","_law_first","_law_x","_law_spare"] (bv dS 4 8)) (jg:Callee P w K mg base 2 "_law_more" ["_law_rest","_law_names","_law_base","_law_x"] (bv fg 4 8)) (m9:Callee P w K mg base 13 "_law_due" ["_law_one","_law_other","_law_name_here"] (bv gb 3 7)) (bY:mg "range"=none) (cC:mg "len"=none):jn P w K mg base (nc P w) 16 f fd ["_law_script"] (Ab K 1 (bv qK 1 14)) :=
 uw (k:=15) F Gg (cV.ok ⟨fun cdv A outer s H E hr hp=>(ak (DF (ay dG aZ hr ‹0› (aa (ae (xv 0)) (aj))) (cY (g:=e7 [1,2]) rfl (aS (aF (i:=1) Gg.nd rfl ‹1›) (aS (aF (i:=2) Gg.nd rfl ‹1›) (cH))))) (ak (aA (i:=3) Gg.nd rfl ‹1› (ay dZ aZ hr ‹0› (aa (ae (xv 1)) (aa (ae (xv 2)) (aa (ae (xv 0)) (aj)))))) (ak (bE (aG (ka hr.units) aq (ay fG aZ hr ‹0› (aa (ae (xv 1)) (aa (ae (xv 2)) (aa (ae (xv 3)) (aj))))) (aC) (aU _)) (az (aT (jm))) (aI)) (ak (aA (i:=4) Gg.nd rfl ‹1› (ao aY aX (ao iO iR (ay bG aZ hr ‹0› (aa (ae (xv 0)) (aa (ah) (aj)))) (ah)) (ah))) (ak (by first | exact qO (i:=5) Gg.nd rfl ‹1› (N:=["_law_own","_law_kind_here"]) (ix:=[none,none]) rfl (.of rfl) (cz rfl) (cm (ao aJ aq (ao aJ aq (ao aJ aq (ax (ae (xv 1)) (ah) (fun _ _=>rfl)) (ax (ae (xv 1)) (ah) (fun _ _=>rfl))) (ax (ae (xv 2)) (ah) (fun _ _=>rfl))) (ax (ae (xv 2)) (ah) (fun _ _=>rfl)))) ⟨fun _ _ _ _ _ _=>⟨cY (g:=e7 [0,1]) rfl (aS (aF (i:=0) yX rfl (Or.inl rfl)) (aS (aF (i:=1) yX rfl (Or.inl rfl)) (cH))),cD,ae (xv 0)⟩⟩ | exact aA (i:=5) Gg.nd rfl ‹1› (df (N:=["_law_own","_law_kind_here"]) (ix:=[none,none]) rfl (.of rfl) (cz rfl) (cm (ao aJ aq (ao aJ aq (ao aJ aq (ax (ae (xv 1)) (ah) (fun _ _=>rfl)) (ax (ae (xv 1)) (ah) (fun _ _=>rfl))) (ax (ae (xv 2)) (ah) (fun _ _=>rfl))) (ax (ae (xv 2)) (ah) (fun _ _=>rfl)))) ⟨fun _ _ _ _ _ _=>⟨cY (g:=e7 [0,1]) rfl (aS (aF (i:=0) yX rfl (Or.inl rfl)) (aS (aF (i:=1) yX rfl (Or.inl rfl)) (cH))),cD,ae (xv 0)⟩⟩)) (ak (by first | exact qO (i:=6) Gg.nd rfl ‹1› (N:=["_law_k","_law_base","_law_taken"]) (ix:=[none,some 4,some 5]) rfl (.of rfl) (cP rfl) (dU rfl bY (aa (ah) (aj))) ⟨fun _ _ _ _ _ _=>⟨aF (i:=0) EH rfl (Or.inl rfl),fE (aG (jP hr.units) aq (ay aR aZ hr ‹0› (aa (ae (xv 1)) (aa (ae (xv 0)) (aj)))) (ae (xv 2)) rfl),ay aR aZ hr ‹0› (aa (ae (xv 1)) (aa (ae (xv 0)) (aj)))⟩⟩ | exact aA (i:=6) Gg.nd rfl ‹1› (df (N:=["_law_k","_law_base","_law_taken"]) (ix:=[none,some 4,some 5]) rfl (.of rfl) (cP rfl) (dU rfl bY (aa (ah) (aj))) ⟨fun _ _ _ _ _ _=>⟨aF (i:=0) EH rfl (Or.inl rfl),fE (aG (jP hr.units) aq (ay aR aZ hr ‹0› (aa (ae (xv 1)) (aa (ae (xv 0)) (aj)))) (ae (xv 2)) rfl),ay aR aZ hr ‹0› (aa (ae (xv 1)) (aa (ae (xv 0)) (aj)))⟩⟩)) (ak (aA (i:=7) Gg.nd rfl ‹1› (ae (xv 1))) (ak (aA (i:=8) Gg.nd rfl ‹1› (ae (xv 2))) (bS [5] (ak (eX hp rfl (dU rfl bY (aa (ao aY aX (ay bG aZ hr ‹0› (aa (ae (xv 0)) (aa (ah) (aj)))) (ah)) (aj))) (aF (i:=9) Gg.nd rfl ‹1›) (ak (aA (i:=10) Gg.nd rfl ‹1› (ay cM aZ hr ‹0› (aa (ae (xv 0)) (aa (ao aJ aq (ah) (ae (xv 9))) (aj))))) (ak (bE (aG (bU hr.units) aq (ao aY aX (ae (xv 10)) (ah)) (ah) (aU _)) (az (aA (i:=8) Gg.nd rfl ‹1› (aM (aa (ay iT aZ hr ‹0› (aa (ax (ae (xv 8)) (ah) (fun _ _=>rfl)) (aa (ax (ae (xv 1)) (ah) (fun _ _=>rfl)) (aa (ao aQ bF (ae (xv 10)) (ah)) (aa (ax (ae (xv 6)) (ae (xv 9)) (fun _ _=>rfl)) (aj)))))) (aa (ax (ae (xv 8)) (ah) (fun _ _=>rfl)) (aj)))))) (az (bE (aG (bU hr.units) aq (ao aY aX (ae (xv 10)) (ah)) (ah) (aU _)) (az (aA (i:=7) Gg.nd rfl ‹1› (aM (aa (ax (ae (xv 7)) (ah) (fun _ _=>rfl)) (aa (ay jg aZ hr ‹0› (aa (ax (ae (xv 7)) (ah) (fun _ _=>rfl)) (aa (iy (ae (xv 6)) (jv (ah)) (jH)) (aa (ae (xv 4)) (aa (ao aQ bF (ae (xv 10)) (ah)) (aj)))))) (aj)))))) (az (aA (i:=8) Gg.nd rfl ‹1› (aM (aa (ax (ae (xv 8)) (ah) (fun _ _=>rfl)) (aa (ay jg aZ hr ‹0› (aa (ax (ae (xv 8)) (ah) (fun _ _=>rfl)) (aa (iy (ae (xv 6)) (jv (ah)) (jH)) (aa (ae (xv 4)) (aa (ao aQ bF (ae (xv 10)) (ah)) (aj)))))) (aj))))))))) (bS [9,10] aI)))) (ak (aA (i:=11) Gg.nd rfl ‹1› (ay cM aZ hr ‹0› (aa (ae (xv 0)) (aa (ah) (aj))))) (ak (aA (i:=12) Gg.nd rfl ‹1› (ao aJ aq (df (N:=["_law_own","_law_kind_here"]) (ix:=[none,none]) rfl (.of rfl) (cz rfl) (cm (ao aJ aq (ax (ae (xv 1)) (ah) (fun _ _=>rfl)) (ax (ae (xv 1)) (ah) (fun _ _=>rfl)))) ⟨fun _ _ _ _ _ _=>⟨cY (g:=e7 [0,1]) rfl (aS (aF (i:=0) EY rfl (Or.inl rfl)) (aS (aF (i:=1) EY rfl (Or.inl rfl)) (cH))),cD,ae (xv 0)⟩⟩) (bV (aa (ae (xv 3)) (aj))))) (bS [0,4,5,6,9,10] (ak (eX hp rfl (cm (bV (aa (ae (xv 3)) (aa (ax (ae (xv 12)) (ao aY aX (ae (xv 11)) (bA cn rfl cC PySem.boot_len (aa (ae (xv 12)) (aj)))) (fun _ _=>rfl)) (aj))))) (aF (i:=13) Gg.nd rfl ‹1›) (ak (bE (aG (ka hr.units) aq (ay fG aZ hr ‹0› (aa (ae (xv 7)) (aa (ae (xv 8)) (aa (ae (xv 13)) (aj))))) (ay m9 aZ hr ‹0› (aa (ae (xv 7)) (aa (ae (xv 8)) (aa (ae (xv 13)) (aj))))) (aU _)) (az (aT (jm))) (aI)) (bS [13] aI))) (az (aT (qv (bU hr.units) aq (ay fG aZ hr ‹0› (aa (ae (xv 1)) (aa (ae (xv 2)) (aa (ae (xv 3)) (aj))))) (aC) (aU _))))))))))))))))))⟩)
theorem wt {C f:Qo} {fd:QX} (h1:clsAt K "Gather" C) (hM:Mk K C f) (cl:yi K C) (na:∀ g∈(["name"]:List Str),kn K C g) (F:w8 K "__init__" "Gather.__init__" dI f fd) (b:Binds K fd ["self","name"] []) (hmg:mg "Gather"=some (.ref C)):rF P w K mg base 1 "Gather" ["self","name"] ["name"] :=
 Af (k:=0) h1 hM cl na F b hmg nE rfl (by decide +kernel) (by decide) fun cdv A outer s H E=>(Ag rfl (pv 0) (pv 1) rfl)
end
theorem sk {us:List Ql} (h:us.length=1):∃ u0,us=[u0]:=match us,h with | [u0],_=>⟨u0,rfl⟩
theorem vc {us:List Ql} (h:us.length=2):∃ u0 u1,us=[u0,u1]:=match us,h with | [u0,u1],_=>⟨u0,u1,rfl⟩
theorem xj {us:List Ql} (h:us.length=3):∃ u0 u1 u2,us=[u0,u1,u2]:=match us,h with | [u0,u1,u2],_=>⟨u0,u1,u2,rfl⟩
theorem I0 {us:List Ql} (h:us.length=4):∃ u0 u1 u2 u3,us=[u0,u1,u2,u3]:=match us,h with | [u0,u1,u2,u3],_=>⟨u0,u1,u2,u3,rfl⟩
theorem KN {us:List Ql} (h:us.length=6):∃ u0 u1 u2 u3 u4 u5,us=[u0,u1,u2,u3,u4,u5]:=match us,h with | [u0,u1,u2,u3,u4,u5],_=>⟨u0,u1,u2,u3,u4,u5,rfl⟩
theorem all_mk {l:Pt} {w:Qm} {K:O2} {h:Qp} {mg:Str->Option Ql} {fa:Qo} (X:K.In h) (G:h.Ns Qr mg) (hfa:mg "law"=some (.ref fa)) {f0 f1 f2 f3 f4 f5 f6 f7 f8 f9 f10 f11 f12 f13 f14 f15 f16 f17 f18 f19 f20 f21 f22 f23 f24 f25 f26 f27 f28 f29 Cl0 Cl1 Xl0 Xl1 Xl2 Xl3 Xl4 Xl5 Xl6 Xl7 Xl8 Xl9 Xl10 Xl11 Xl12 Xl13:Qo} {od0 an0 od1 an1 od2 an2 od3 an3 od4 an4 od5 an5 od6 an6 od7 an7 od8 an8 od9 an9 od10 an10 od11 an11 od12 an12 od13 an13 od14 an14 od15 an15 od16 an16 od17 an17 od18 an18 od19 an19 od20 an20 od21 an21 od22 an22 od23 an23 od24 an24 od25 an25 od26 an26 od27 an27 od28 an28 od29 an29:Option Qo} {sl0 sl1 sl2 sl3 sl4 sl5 sl6 sl7 sl8 sl9 sl10 sl11 sl12 sl13 sl14 sl15 sl16 sl17 sl18 sl19 sl20 sl21 sl22 sl23 sl24 sl25 sl26 sl27 sl28 sl29:Array (Option Ql)} {oc0 kV0 dc0 pm0 cd0 ct0 oc1 kV1 dc1 pm1 cd1 ct1 oc2 kV2 dc2 pm2 cd2 ct2 oc3 kV3 dc3 pm3 cd3 ct3 oc4 kV4 dc4 pm4 cd4 ct4 oc5 kV5 dc5 pm5 cd5 ct5 oc6 kV6 dc6 pm6 cd6 ct6 oc7 kV7 dc7 pm7 cd7 ct7 oc8 kV8 dc8 pm8 cd8 ct8 oc9 kV9 dc9 pm9 cd9 ct9 oc10 kV10 dc10 pm10 cd10 ct10 oc11 kV11 dc11 pm11 cd11 ct11 oc12 kV12 dc12 pm12 cd12 ct12 oc13 kV13 dc13 pm13 cd13 ct13 oc14 kV14 dc14 pm14 cd14 ct14 oc15 kV15 dc15 pm15 cd15 ct15 oc16 kV16 dc16 pm16 cd16 ct16 oc17 kV17 dc17 pm17 cd17 ct17 oc18 kV18 dc18 pm18 cd18 ct18 oc19 kV19 dc19 pm19 cd19 ct19 oc20 kV20 dc20 pm20 cd20 ct20 oc21 kV21 dc21 pm21 cd21 ct21 oc22 kV22 dc22 pm22 cd22 ct22 oc23 kV23 dc23 pm23 cd23 ct23 oc24 kV24 dc24 pm24 cd24 ct24 oc25 kV25 dc25 pm25 cd25 ct25 oc26 kV26 dc26 pm26 cd26 ct26 oc27 kV27 dc27 pm27 cd27 ct27 oc28 kV28 dc28 pm28 cd28 ct28 oc29 kV29 dc29 pm29 cd29 ct29:Ql} {tk0:Tok} {tk1:Tok}
  (ac0:Pu K Qr "Gather"=some (some (.ref Cl0)))
  (ac1:Pu K Qr "Pair"=some (some (.ref Cl1)))
  (a0:Pu K Qr "_law_which"=some (some (.ref f0)))
  (l0:Lk K f0 "_law_which" "_law_which" fS oc0 od0 kV0 dc0 pm0 an0 cd0 ct0 sl0)
  (c0:Pq K cd0 "_law_which"=true)
  (k0:Pl K (.ref f0)=true)
  (a1:O7 K (.ref Cl1) "view_form"=some (some (.ref f1)))
  (i1:Pa K (.ref f1)=true)
  (l1:Lk K f1 "view_form" "Pair.view_form" eE oc1 od1 kV1 dc1 pm1 an1 cd1 ct1 sl1)
  (c1:Pq K cd1 "Pair.view_form"=true)
  (k1:Pl K (.ref f1)=true)
  (a2:Pu K Qr "kinds_of"=some (some (.ref f2)))
  (l2:Lk K f2 "kinds_of" "kinds_of" jY oc2 od2 kV2 dc2 pm2 an2 cd2 ct2 sl2)
  (c2:Pq K cd2 "kinds_of"=true)
  (k2:Pl K (.ref f2)=true)
  (a3:Pu K Qr "depth_of"=some (some (.ref f3)))
  (l3:Lk K f3 "depth_of" "depth_of" iQ oc3 od3 kV3 dc3 pm3 an3 cd3 ct3 sl3)
  (c3:Pq K cd3 "depth_of"=true)
  (k3:Pl K (.ref f3)=true)
  (a4:Pu K Qr "names_of"=some (some (.ref f4)))
  (l4:Lk K f4 "names_of" "names_of" km oc4 od4 kV4 dc4 pm4 an4 cd4 ct4 sl4)
  (c4:Pq K cd4 "names_of"=true)
  (k4:Pl K (.ref f4)=true)
  (a5:Pu K Qr "both_words"=some (some (.ref f5)))
  (l5:Lk K f5 "both_words" "both_words" ic oc5 od5 kV5 dc5 pm5 an5 cd5 ct5 sl5)
  (c5:Pq K cd5 "both_words"=true)
  (k5:Pl K (.ref f5)=true)
  (a6:Pu K Qr "both_numbers"=some (some (.ref f6)))
  (l6:Lk K f6 "both_numbers" "both_numbers" fI oc6 od6 kV6 dc6 pm6 an6 cd6 ct6 sl6)
  (c6:Pq K cd6 "both_numbers"=true)
  (k6:Pl K (.ref f6)=true)
  (a7:Pu K Qr "both"=some (some (.ref f7)))
  (l7:Lk K f7 "both" "both" vi oc7 od7 kV7 dc7 pm7 an7 cd7 ct7 sl7)
  (c7:Pq K cd7 "both"=true)
  (k7:Pl K (.ref f7)=true)
  (a8:Pu K Qr "shared_key"=some (some (.ref f8)))
  (l8:Lk K f8 "shared_key" "shared_key" ip oc8 od8 kV8 dc8 pm8 an8 cd8 ct8 sl8)
  (c8:Pq K cd8 "shared_key"=true)
  (k8:Pl K (.ref f8)=true)
  (a9:O7 K (.ref Cl0) "view_form"=some (some (.ref f9)))
  (i9:Pa K (.ref f9)=true)
  (l9:Lk K f9 "view_form" "Gather.view_form" dA oc9 od9 kV9 dc9 pm9 an9 cd9 ct9 sl9)
  (c9:Pq K cd9 "Gather.view_form"=true)
  (k9:Pl K (.ref f9)=true)
  (a10:Pu K Qr "_law_found"=some (some (.ref f10)))
  (l10:Lk K f10 "_law_found" "_law_found" il oc10 od10 kV10 dc10 pm10 an10 cd10 ct10 sl10)
  (c10:Pq K cd10 "_law_found"=true)
  (k10:Pl K (.ref f10)=true)
  (a11:Pu K Qr "_law_deep"=some (some (.ref f11)))
  (l11:Lk K f11 "_law_deep" "_law_deep" gQ oc11 od11 kV11 dc11 pm11 an11 cd11 ct11 sl11)
  (c11:Pq K cd11 "_law_deep"=true)
  (k11:Pl K (.ref f11)=true)
  (a12:Pu K Qr "_law_in_both"=some (some (.ref f12)))
  (l12:Lk K f12 "_law_in_both" "_law_in_both" fO oc12 od12 kV12 dc12 pm12 an12 cd12 ct12 sl12)
  (c12:Pq K cd12 "_law_in_both"=true)
  (k12:Pl K (.ref f12)=true)
  (a13:Pu K Qr "_law_due"=some (some (.ref f13)))
  (l13:Lk K f13 "_law_due" "_law_due" kg oc13 od13 kV13 dc13 pm13 an13 cd13 ct13 sl13)
  (c13:Pq K cd13 "_law_due"=true)
  (k13:Pl K (.ref f13)=true)
  (a14:Pu K Qr "_law_next"=some (some (.ref f14)))
  (l14:Lk K f14 "_law_next" "_law_next" i5 oc14 od14 kV14 dc14 pm14 an14 cd14 ct14 sl14)
  (c14:Pq K cd14 "_law_next"=true)
  (k14:Pl K (.ref f14)=true)
  (a15:Pu K Qr "_law_cell_at"=some (some (.ref f15)))
  (l15:Lk K f15 "_law_cell_at" "_law_cell_at" fH oc15 od15 kV15 dc15 pm15 an15 cd15 ct15 sl15)
  (c15:Pq K cd15 "_law_cell_at"=true)
  (k15:Pl K (.ref f15)=true)
  (a16:Pu K Qr "_law_seed"=some (some (.ref f16)))
  (l16:Lk K f16 "_law_seed" "_law_seed" iZ oc16 od16 kV16 dc16 pm16 an16 cd16 ct16 sl16)
  (c16:Pq K cd16 "_law_seed"=true)
  (k16:Pl K (.ref f16)=true)
  (a17:Pu K Qr "_law_name"=some (some (.ref f17)))
  (l17:Lk K f17 "_law_name" "_law_name" jh oc17 od17 kV17 dc17 pm17 an17 cd17 ct17 sl17)
  (c17:Pq K cd17 "_law_name"=true)
  (k17:Pl K (.ref f17)=true)
  (a18:Pu K Qr "_law_more"=some (some (.ref f18)))
  (l18:Lk K f18 "_law_more" "_law_more" jd oc18 od18 kV18 dc18 pm18 an18 cd18 ct18 sl18)
  (c18:Pq K cd18 "_law_more"=true)
  (k18:Pl K (.ref f18)=true)
  (a19:Pu K Qr "_law_odd_key"=some (some (.ref f19)))
  (l19:Lk K f19 "_law_odd_key" "_law_odd_key" fF oc19 od19 kV19 dc19 pm19 an19 cd19 ct19 sl19)
  (c19:Pq K cd19 "_law_odd_key"=true)
  (k19:Pl K (.ref f19)=true)
  (a20:Pu K Qr "_law_gathered_name"=some (some (.ref f20)))
  (l20:Lk K f20 "_law_gathered_name" "_law_gathered_name" cX oc20 od20 kV20 dc20 pm20 an20 cd20 ct20 sl20)
  (c20:Pq K cd20 "_law_gathered_name"=true)
  (k20:Pl K (.ref f20)=true)
  (a21:Pu K Qr "_law_plain"=some (some (.ref f21)))
  (l21:Lk K f21 "_law_plain" "_law_plain" ik oc21 od21 kV21 dc21 pm21 an21 cd21 ct21 sl21)
  (c21:Pq K cd21 "_law_plain"=true)
  (k21:Pl K (.ref f21)=true)
  (a22:Pu K Qr "_law_kind"=some (some (.ref f22)))
  (l22:Lk K f22 "_law_kind" "_law_kind" gO oc22 od22 kV22 dc22 pm22 an22 cd22 ct22 sl22)
  (c22:Pq K cd22 "_law_kind"=true)
  (k22:Pl K (.ref f22)=true)
  (a23:Pu K Qr "_law_form"=some (some (.ref f23)))
  (l23:Lk K f23 "_law_form" "_law_form" gR oc23 od23 kV23 dc23 pm23 an23 cd23 ct23 sl23)
  (c23:Pq K cd23 "_law_form"=true)
  (k23:Pl K (.ref f23)=true)
  (a24:Pu K Qr "_law_some_words"=some (some (.ref f24)))
  (l24:Lk K f24 "_law_some_words" "_law_some_words" dJ oc24 od24 kV24 dc24 pm24 an24 cd24 ct24 sl24)
  (c24:Pq K cd24 "_law_some_words"=true)
  (k24:Pl K (.ref f24)=true)
  (a25:Pu K Qr "_law_two_kinds"=some (some (.ref f25)))
  (l25:Lk K f25 "_law_two_kinds" "_law_two_kinds" eA oc25 od25 kV25 dc25 pm25 an25 cd25 ct25 sl25)
  (c25:Pq K cd25 "_law_two_kinds"=true)
  (k25:Pl K (.ref f25)=true)
  (a26:Pu K Qr "_law_two_keys"=some (some (.ref f26)))
  (l26:Lk K f26 "_law_two_keys" "_law_two_keys" eW oc26 od26 kV26 dc26 pm26 an26 cd26 ct26 sl26)
  (c26:Pq K cd26 "_law_two_keys"=true)
  (k26:Pl K (.ref f26)=true)
  (a27:Pu K Qr "_law_gathered_forms"=some (some (.ref f27)))
  (l27:Lk K f27 "_law_gathered_forms" "_law_gathered_forms" cR oc27 od27 kV27 dc27 pm27 an27 cd27 ct27 sl27)
  (c27:Pq K cd27 "_law_gathered_forms"=true)
  (k27:Pl K (.ref f27)=true)
  (a28:Pu K Qr "law"=some (some (.ref f28)))
  (l28:Lk K f28 "law" "law" rK oc28 od28 kV28 dc28 pm28 an28 cd28 ct28 sl28)
  (c28:Pq K cd28 "law"=true)
  (k28:Pl K (.ref f28)=true)
  (a29:O7 K (.ref Cl0) "__init__"=some (some (.ref f29)))
  (i29:Pa K (.ref f29)=true)
  (l29:Lk K f29 "__init__" "Gather.__init__" dI oc29 od29 kV29 dc29 pm29 an29 cd29 ct29 sl29)
  (c29:Pq K cd29 "Gather.__init__"=true)
  (k29:Pl K (.ref f29)=true)
  (p0:O5 K Cl0 Str.empty=true)
  (q0:O6 K Cl0=true)
  (r0:Pb K Cl0=true)
  (s0:O7 K (.ref Cl0) "__setattr__"=some (some (.builtin "object.__setattr__")))
  (n0_0:O7 K (.ref Cl0) "name"=some none)
  (m0:Ph K Cl0=true)
  (kp0:Pl K (.ref Cl0)=true)
  (p1:O5 K Cl1 Str.empty=true)
  (q1:O6 K Cl1=true)
  (r1:Pb K Cl1=true)
  (s1:O7 K (.ref Cl1) "__setattr__"=some (some (.builtin "object.__setattr__")))
  (xa0:Pu K Qr "NoField"=some (some (.ref Xl0)))
  (xa1:Pu K Qr "NoTable"=some (some (.ref Xl1)))
  (xa2:Pu K Qr "NoForm"=some (some (.ref Xl2)))
  (xa3:Pu K Qr "Nothing"=some (some (.ref Xl3)))
  (xa4:Pu K Qr "NoKind"=some (some (.ref Xl4)))
  (xa5:Pu K Qr "Twice"=some (some (.ref Xl5)))
  (xa6:Pu K Qr "Blind"=some (some (.ref Xl6)))
  (xa7:Pu K Qr "TooMany"=some (some (.ref Xl7)))
  (xa8:Pu K Qr "NoKey"=some (some (.ref Xl8)))
  (xa9:Pu K Qr "NoPane"=some (some (.ref Xl9)))
  (xa10:Pu K Qr "Stale"=some (some (.ref Xl10)))
  (xa11:Pu K Qr "Torn"=some (some (.ref Xl11)))
  (xa12:Pu K Qr "NoText"=some (some (.ref Xl12)))
  (xa13:Pu K Qr "GlassError"=some (some (.ref Xl13)))
  (xe4:Px K Xl4 Ii "ValueError.__new__"=true)
  (xe3:Px K Xl3 Ii "ValueError.__new__"=true)
  (xe5:Px K Xl5 Ii "ValueError.__new__"=true)
  (xe7:Px K Xl7 Ii "ValueError.__new__"=true)
  (xsg:PySem.W.specialIn K (.builtin "object.__class__") "__get__"=some (some (.builtin "getset_descriptor.__get__")))
  (xtk:PySem.W.takesIn K (.builtin "object.__class__")=some true)
  (xg5:O7 K (.ref Xl5) "__getattribute__"=some (some (.builtin "BaseException.__getattribute__")))
  (xn5:O7 K (.ref Xl5) "__getattr__"=some none)
  (xf5:O7 K (.ref Xl5) "__class__"=some (some (.builtin "object.__class__")))
  (xb5:PB K Xl5 (.type "BaseException")=some true)
  (xg4:O7 K (.ref Xl4) "__getattribute__"=some (some (.builtin "BaseException.__getattribute__")))
  (xn4:O7 K (.ref Xl4) "__getattr__"=some none)
  (xf4:O7 K (.ref Xl4) "__class__"=some (some (.builtin "object.__class__")))
  (xb4:PB K Xl4 (.type "BaseException")=some true)
  (xg3:O7 K (.ref Xl3) "__getattribute__"=some (some (.builtin "BaseException.__getattribute__")))
  (xn3:O7 K (.ref Xl3) "__getattr__"=some none)
  (xf3:O7 K (.ref Xl3) "__class__"=some (some (.builtin "object.__class__")))
  (xb3:PB K Xl3 (.type "BaseException")=some true)
  (xg7:O7 K (.ref Xl7) "__getattribute__"=some (some (.builtin "BaseException.__getattribute__")))
  (xn7:O7 K (.ref Xl7) "__getattr__"=some none)
  (xf7:O7 K (.ref Xl7) "__class__"=some (some (.builtin "object.__class__")))
  (xb7:PB K Xl7 (.type "BaseException")=some true)
  (xo0:PB K Xl0 (.type "object")=some true)
  (xt0:Pj K (.ref Xl0)=some (.type "type"))
  (xo1:PB K Xl1 (.type "object")=some true)
  (xt1:Pj K (.ref Xl1)=some (.type "type"))
  (xo2:PB K Xl2 (.type "object")=some true)
  (xt2:Pj K (.ref Xl2)=some (.type "type"))
  (xo3:PB K Xl3 (.type "object")=some true)
  (xt3:Pj K (.ref Xl3)=some (.type "type"))
  (xo4:PB K Xl4 (.type "object")=some true)
  (xt4:Pj K (.ref Xl4)=some (.type "type"))
  (xo5:PB K Xl5 (.type "object")=some true)
  (xt5:Pj K (.ref Xl5)=some (.type "type"))
  (xo6:PB K Xl6 (.type "object")=some true)
  (xt6:Pj K (.ref Xl6)=some (.type "type"))
  (xo7:PB K Xl7 (.type "object")=some true)
  (xt7:Pj K (.ref Xl7)=some (.type "type"))
  (xo8:PB K Xl8 (.type "object")=some true)
  (xt8:Pj K (.ref Xl8)=some (.type "type"))
  (xo9:PB K Xl9 (.type "object")=some true)
  (xt9:Pj K (.ref Xl9)=some (.type "type"))
  (xo10:PB K Xl10 (.type "object")=some true)
  (xt10:Pj K (.ref Xl10)=some (.type "type"))
  (xo11:PB K Xl11 (.type "object")=some true)
  (xt11:Pj K (.ref Xl11)=some (.type "type"))
  (xo12:PB K Xl12 (.type "object")=some true)
  (xt12:Pj K (.ref Xl12)=some (.type "type"))
  (xo13:PB K Xl13 (.type "object")=some true)
  (xt13:Pj K (.ref Xl13)=some (.type "type"))
  (xw13:PC K (.ref Xl13) (.type "BaseException")=some true)
  (xm13_5:PC K (.ref Xl5) (.ref Xl13)=some true)
  (xm13_4:PC K (.ref Xl4) (.ref Xl13)=some true)
  (xm13_3:PC K (.ref Xl3) (.ref Xl13)=some true)
  (xm13_7:PC K (.ref Xl7) (.ref Xl13)=some true)
  (xk0_5:PC K (.ref Xl5) (.ref Xl0)=some false)
  (vnx0_5:Xl5≠Xl0)
  (xk0_4:PC K (.ref Xl4) (.ref Xl0)=some false)
  (vnx0_4:Xl4≠Xl0)
  (xk0_3:PC K (.ref Xl3) (.ref Xl0)=some false)
  (vnx0_3:Xl3≠Xl0)
  (xk0_7:PC K (.ref Xl7) (.ref Xl0)=some false)
  (vnx0_7:Xl7≠Xl0)
  (xk1_5:PC K (.ref Xl5) (.ref Xl1)=some false)
  (vnx1_5:Xl5≠Xl1)
  (xk1_4:PC K (.ref Xl4) (.ref Xl1)=some false)
  (vnx1_4:Xl4≠Xl1)
  (xk1_3:PC K (.ref Xl3) (.ref Xl1)=some false)
  (vnx1_3:Xl3≠Xl1)
  (xk1_7:PC K (.ref Xl7) (.ref Xl1)=some false)
  (vnx1_7:Xl7≠Xl1)
  (xk2_5:PC K (.ref Xl5) (.ref Xl2)=some false)
  (vnx2_5:Xl5≠Xl2)
  (xk2_4:PC K (.ref Xl4) (.ref Xl2)=some false)
  (vnx2_4:Xl4≠Xl2)
  (xk2_3:PC K (.ref Xl3) (.ref Xl2)=some false)
  (vnx2_3:Xl3≠Xl2)
  (xk2_7:PC K (.ref Xl7) (.ref Xl2)=some false)
  (vnx2_7:Xl7≠Xl2)
  (xk3_5:PC K (.ref Xl5) (.ref Xl3)=some false)
  (vnx3_5:Xl5≠Xl3)
  (xk3_4:PC K (.ref Xl4) (.ref Xl3)=some false)
  (vnx3_4:Xl4≠Xl3)
  (xk3_3:PC K (.ref Xl3) (.ref Xl3)=some true)
  (xk3_7:PC K (.ref Xl7) (.ref Xl3)=some false)
  (vnx3_7:Xl7≠Xl3)
  (xk4_5:PC K (.ref Xl5) (.ref Xl4)=some false)
  (vnx4_5:Xl5≠Xl4)
  (xk4_4:PC K (.ref Xl4) (.ref Xl4)=some true)
  (xk4_3:PC K (.ref Xl3) (.ref Xl4)=some false)
  (vnx4_3:Xl3≠Xl4)
  (xk4_7:PC K (.ref Xl7) (.ref Xl4)=some false)
  (vnx4_7:Xl7≠Xl4)
  (xk5_5:PC K (.ref Xl5) (.ref Xl5)=some true)
  (xk5_4:PC K (.ref Xl4) (.ref Xl5)=some false)
  (vnx5_4:Xl4≠Xl5)
  (xk5_3:PC K (.ref Xl3) (.ref Xl5)=some false)
  (vnx5_3:Xl3≠Xl5)
  (xk5_7:PC K (.ref Xl7) (.ref Xl5)=some false)
  (vnx5_7:Xl7≠Xl5)
  (xk6_5:PC K (.ref Xl5) (.ref Xl6)=some false)
  (vnx6_5:Xl5≠Xl6)
  (xk6_4:PC K (.ref Xl4) (.ref Xl6)=some false)
  (vnx6_4:Xl4≠Xl6)
  (xk6_3:PC K (.ref Xl3) (.ref Xl6)=some false)
  (vnx6_3:Xl3≠Xl6)
  (xk6_7:PC K (.ref Xl7) (.ref Xl6)=some false)
  (vnx6_7:Xl7≠Xl6)
  (xk7_5:PC K (.ref Xl5) (.ref Xl7)=some false)
  (vnx7_5:Xl5≠Xl7)
  (xk7_4:PC K (.ref Xl4) (.ref Xl7)=some false)
  (vnx7_4:Xl4≠Xl7)
  (xk7_3:PC K (.ref Xl3) (.ref Xl7)=some false)
  (vnx7_3:Xl3≠Xl7)
  (xk7_7:PC K (.ref Xl7) (.ref Xl7)=some true)
  (xk8_5:PC K (.ref Xl5) (.ref Xl8)=some false)
  (vnx8_5:Xl5≠Xl8)
  (xk8_4:PC K (.ref Xl4) (.ref Xl8)=some false)
  (vnx8_4:Xl4≠Xl8)
  (xk8_3:PC K (.ref Xl3) (.ref Xl8)=some false)
  (vnx8_3:Xl3≠Xl8)
  (xk8_7:PC K (.ref Xl7) (.ref Xl8)=some false)
  (vnx8_7:Xl7≠Xl8)
  (xk9_5:PC K (.ref Xl5) (.ref Xl9)=some false)
  (vnx9_5:Xl5≠Xl9)
  (xk9_4:PC K (.ref Xl4) (.ref Xl9)=some false)
  (vnx9_4:Xl4≠Xl9)
  (xk9_3:PC K (.ref Xl3) (.ref Xl9)=some false)
  (vnx9_3:Xl3≠Xl9)
  (xk9_7:PC K (.ref Xl7) (.ref Xl9)=some false)
  (vnx9_7:Xl7≠Xl9)
  (xk10_5:PC K (.ref Xl5) (.ref Xl10)=some false)
  (vnx10_5:Xl5≠Xl10)
  (xk10_4:PC K (.ref Xl4) (.ref Xl10)=some false)
  (vnx10_4:Xl4≠Xl10)
  (xk10_3:PC K (.ref Xl3) (.ref Xl10)=some false)
  (vnx10_3:Xl3≠Xl10)
  (xk10_7:PC K (.ref Xl7) (.ref Xl10)=some false)
  (vnx10_7:Xl7≠Xl10)
  (xk11_5:PC K (.ref Xl5) (.ref Xl11)=some false)
  (vnx11_5:Xl5≠Xl11)
  (xk11_4:PC K (.ref Xl4) (.ref Xl11)=some false)
  (vnx11_4:Xl4≠Xl11)
  (xk11_3:PC K (.ref Xl3) (.ref Xl11)=some false)
  (vnx11_3:Xl3≠Xl11)
  (xk11_7:PC K (.ref Xl7) (.ref Xl11)=some false)
  (vnx11_7:Xl7≠Xl11)
  (xk12_5:PC K (.ref Xl5) (.ref Xl12)=some false)
  (vnx12_5:Xl5≠Xl12)
  (xk12_4:PC K (.ref Xl4) (.ref Xl12)=some false)
  (vnx12_4:Xl4≠Xl12)
  (xk12_3:PC K (.ref Xl3) (.ref Xl12)=some false)
  (vnx12_3:Xl3≠Xl12)
  (xk12_7:PC K (.ref Xl7) (.ref Xl12)=some false)
  (vnx12_7:Xl7≠Xl12)
  (xv_ValueError_5:PC K (.ref Xl5) (.type "ValueError")=some true)
  (xv_ValueError_4:PC K (.ref Xl4) (.type "ValueError")=some true)
  (xv_ValueError_3:PC K (.ref Xl3) (.type "ValueError")=some true)
  (xv_ValueError_7:PC K (.ref Xl7) (.type "ValueError")=some true)
  (z0:Pu K Qr "isinstance"=some none)
  (z1:Pu K Qr "ValueError"=some none)
  (z2:Pu K Qr "tuple"=some none)
  (z3:Pu K Qr "max"=some none)
  (z4:Pu K Qr "min"=some none)
  (z5:Pu K Qr "zip"=some none)
  (z6:Pu K Qr "len"=some none)
  (z7:Pu K Qr "range"=some none)
  (z8:Pu K Qr "list"=some none)
  (z9:Pu K Qr "int"=some none)
  (z10:Pu K Qr "sorted"=some none)
  (z11:Pu K Qr "enumerate"=some none)
  (e0:Pu K Qr "MOST_FIELDS"=some (some (.int 8 tk0)))
  (e1:Pu K Qr "MOST_WITHIN"=some (some (.int 3 tk1))) :
  ∃ fd:QX,(∀ (s:Qu) (v:Ql),QY s fd ⟨[v],[]⟩ [("_law_script",v)])/\∀ base:Qp,K.In base->base.Ns Qr mg->jn l.prog w K mg base (nc l.prog w) 16 fa fd ["_law_script"] (Ab K 1 (bv qK 1 14)):=by
 have e:=hfa.symm.trans (PF X G a28)
 cases e
 have aH:=PH X G z0
 have eB:=PH X G z1
 have bj:=PH X G z2
 have fY:=PH X G z3
 have oh:=PH X G z4
 have nW:=PH X G z5
 have cC:=PH X G z6
 have bY:=PH X G z7
 have gX:=PH X G z8
 have B5:=PH X G z9
 have jD:=PH X G z10
 have i7:=PH X G z11
 have c_MOST_FIELDS:∃ t,mg "MOST_FIELDS"=some (.int 8 t):=⟨_,PF X G e0⟩
 have c_MOST_WITHIN:∃ t,mg "MOST_WITHIN"=some (.int 3 t):=⟨_,PF X G e1⟩
 have F0:=ce (st:=fS) l0 c0 k0
 have b0:=F0.binds (ps:=["_law_error"]) fun _ _ _ _ _ _ us hl=>by obtain⟨u0,rfl⟩:=sk hl; rfl
 have F1:=ce (st:=eE) l1 c1 k1
 have b1:=F1.binds (ps:=["self","one","other"]) fun _ _ _ _ _ _ us hl=>by obtain⟨u0,u1,u2,rfl⟩:=xj hl; rfl
 have F2:=ce (st:=jY) l2 c2 k2
 have b2:=F2.binds (ps:=["form"]) fun _ _ _ _ _ _ us hl=>by obtain⟨u0,rfl⟩:=sk hl; rfl
 have F3:=ce (st:=iQ) l3 c3 k3
 have b3:=F3.binds (ps:=["form"]) fun _ _ _ _ _ _ us hl=>by obtain⟨u0,rfl⟩:=sk hl; rfl
 have F4:=ce (st:=km) l4 c4 k4
 have b4:=F4.binds (ps:=["form"]) fun _ _ _ _ _ _ us hl=>by obtain⟨u0,rfl⟩:=sk hl; rfl
 have F5:=ce (st:=ic) l5 c5 k5
 have b5:=F5.binds (ps:=["one","other"]) fun _ _ _ _ _ _ us hl=>by obtain⟨u0,u1,rfl⟩:=vc hl; rfl
 have F6:=ce (st:=fI) l6 c6 k6
 have b6:=F6.binds (ps:=["one","other"]) fun _ _ _ _ _ _ us hl=>by obtain⟨u0,u1,rfl⟩:=vc hl; rfl
 have F7:=ce (st:=vi) l7 c7 k7
 have b7:=F7.binds (ps:=["one","other"]) fun _ _ _ _ _ _ us hl=>by obtain⟨u0,u1,rfl⟩:=vc hl; rfl
 have F8:=ce (st:=ip) l8 c8 k8
 have b8:=F8.binds (ps:=["one","other"]) fun _ _ _ _ _ _ us hl=>by obtain⟨u0,u1,rfl⟩:=vc hl; rfl
 have F9:=ce (st:=dA) l9 c9 k9
 have b9:=F9.binds (ps:=["self","one","other"]) fun _ _ _ _ _ _ us hl=>by obtain⟨u0,u1,u2,rfl⟩:=xj hl; rfl
 have F10:=ce (st:=il) l10 c10 k10
 have b10:=F10.binds (ps:=["_law_one","_law_other","_law_name_here"]) fun _ _ _ _ _ _ us hl=>by obtain⟨u0,u1,u2,rfl⟩:=xj hl; rfl
 have F11:=ce (st:=gQ) l11 c11 k11
 have b11:=F11.binds (ps:=["_law_form_here"]) fun _ _ _ _ _ _ us hl=>by obtain⟨u0,rfl⟩:=sk hl; rfl
 have F12:=ce (st:=fO) l12 c12 k12
 have b12:=F12.binds (ps:=["_law_one","_law_other"]) fun _ _ _ _ _ _ us hl=>by obtain⟨u0,u1,rfl⟩:=vc hl; rfl
 have F13:=ce (st:=kg) l13 c13 k13
 have b13:=F13.binds (ps:=["_law_one","_law_other","_law_name_here"]) fun _ _ _ _ _ _ us hl=>by obtain⟨u0,u1,u2,rfl⟩:=xj hl; rfl
 have F14:=ce (st:=i5) l14 c14 k14
 have b14:=F14.binds (ps:=["_law_x"]) fun _ _ _ _ _ _ us hl=>by obtain⟨u0,rfl⟩:=sk hl; rfl
 have F15:=ce (st:=fH) l15 c15 k15
 have b15:=F15.binds (ps:=["_law_script","_law_k"]) fun _ _ _ _ _ _ us hl=>by obtain⟨u0,u1,rfl⟩:=vc hl; rfl
 have F16:=ce (st:=iZ) l16 c16 k16
 have b16:=F16.binds (ps:=["_law_script","_law_k"]) fun _ _ _ _ _ _ us hl=>by obtain⟨u0,u1,rfl⟩:=vc hl; rfl
 have F17:=ce (st:=jh) l17 c17 k17
 have b17:=F17.binds (ps:=["_law_base","_law_k"]) fun _ _ _ _ _ _ us hl=>by obtain⟨u0,u1,rfl⟩:=vc hl; rfl
 have F18:=ce (st:=jd) l18 c18 k18
 have b18:=F18.binds (ps:=["_law_rest","_law_names","_law_base","_law_x"]) fun _ _ _ _ _ _ us hl=>by obtain⟨u0,u1,u2,u3,rfl⟩:=I0 hl; rfl
 have F19:=ce (st:=fF) l19 c19 k19
 have b19:=F19.binds (ps:=["_law_key","_law_first","_law_x","_law_spare"]) fun _ _ _ _ _ _ us hl=>by obtain⟨u0,u1,u2,u3,rfl⟩:=I0 hl; rfl
 have F20:=ce (st:=cX) l20 c20 k20
 have b20:=F20.binds (ps:=["_law_one","_law_other","_law_script"]) fun _ _ _ _ _ _ us hl=>by obtain⟨u0,u1,u2,rfl⟩:=xj hl; rfl
 have F21:=ce (st:=ik) l21 c21 k21
 have b21:=F21.binds (ps:=["_law_x"]) fun _ _ _ _ _ _ us hl=>by obtain⟨u0,rfl⟩:=sk hl; rfl
 have F22:=ce (st:=gO) l22 c22 k22
 have b22:=F22.binds (ps:=["_law_x","_law_base","_law_deep_here"]) fun _ _ _ _ _ _ us hl=>by obtain⟨u0,u1,u2,rfl⟩:=xj hl; rfl
 have F23:=ce (st:=gR) l23 c23 k23
 have b23:=F23.binds (ps:=["_law_x","_law_base","_law_start","_law_many","_law_more_here","_law_deep_here"]) fun _ _ _ _ _ _ us hl=>by obtain⟨u0,u1,u2,u3,u4,u5,rfl⟩:=KN hl; rfl
 have F24:=ce (st:=dJ) l24 c24 k24
 have b24:=F24.binds (ps:=["_law_x"]) fun _ _ _ _ _ _ us hl=>by obtain⟨u0,rfl⟩:=sk hl; rfl
 have F25:=ce (st:=eA) l25 c25 k25
 have b25:=F25.binds (ps:=["_law_x"]) fun _ _ _ _ _ _ us hl=>by obtain⟨u0,rfl⟩:=sk hl; rfl
 have F26:=ce (st:=eW) l26 c26 k26
 have b26:=F26.binds (ps:=["_law_x","_law_base","_law_many"]) fun _ _ _ _ _ _ us hl=>by obtain⟨u0,u1,u2,rfl⟩:=xj hl; rfl
 have F27:=ce (st:=cR) l27 c27 k27
 have b27:=F27.binds (ps:=["_law_script"]) fun _ _ _ _ _ _ us hl=>by obtain⟨u0,rfl⟩:=sk hl; rfl
 have F28:=ce (st:=rK) l28 c28 k28
 have F29:=ce (st:=dI) l29 c29 k29
 have b29:=F29.binds (ps:=["self","name"]) fun _ _ _ _ _ _ us hl=>by obtain⟨u0,u1,rfl⟩:=vc hl; rfl
 have cl0:yi K Cl0:=⟨p0,q0,r0,s0⟩
 have cl1:yi K Cl1:=⟨p1,q1,r1,s1⟩
 have fU:zf K "name" ["Gather"]:=by
  intro c hc C hC
  simp only [N1,Ox,or_false] at hc
  rcases hc with rfl
  ·cases lw hC ac0; exact⟨cl0,n0_0⟩
 refine⟨Pp "law" "law" (lG rK) (eF rK) (aB rK) .none kV28 dc28 pm28 an28 cd28 ct28,fun s v=>.of_eq rfl,fun base _ _=>?_⟩
 have E_NoKind:ExcAt K mg "NoKind":=⟨_,xa4,PF X G xa4,xe4⟩
 have E_Nothing:ExcAt K mg "Nothing":=⟨_,xa3,PF X G xa3,xe3⟩
 have E_Twice:ExcAt K mg "Twice":=⟨_,xa5,PF X G xa5,xe5⟩
 have E_TooMany:ExcAt K mg "TooMany":=⟨_,xa7,PF X G xa7,xe7⟩
 have xK5:uT K Xl5:=⟨xg5,xn5,xf5,xsg,xtk,xo5,xb5⟩
 have xK4:uT K Xl4:=⟨xg4,xn4,xf4,xsg,xtk,xo4,xb4⟩
 have xK3:uT K Xl3:=⟨xg3,xn3,xf3,xsg,xtk,xo3,xb3⟩
 have xK7:uT K Xl7:=⟨xg7,xn7,xf7,xsg,xtk,xo7,xb7⟩
 have T_GlassError:wl K mg "GlassError" ["Twice","NoKind","Nothing","TooMany"]:=BW (PF X G xa13) (by
  intro c hc
  simp only [N1,Ox,or_false] at hc
  rcases hc with rfl | rfl | rfl | rfl
  ·exact⟨_,xa5,qp xw13 xm13_5 xo13 xt13⟩
  ·exact⟨_,xa4,qp xw13 xm13_4 xo13 xt13⟩
  ·exact⟨_,xa3,qp xw13 xm13_3 xo13 xt13⟩
  ·exact⟨_,xa7,qp xw13 xm13_7 xo13 xt13⟩)
 have iD:bZ K mg "NoField" [("Twice",false),("NoKind",false),("Nothing",false),("TooMany",false)]:=⟨_,PF X G xa0,aD xa5 xK5 (aN xk0_5 xo0 xt0 (.inr vnx0_5)) (aD xa4 xK4 (aN xk0_4 xo0 xt0 (.inr vnx0_4)) (aD xa3 xK3 (aN xk0_3 xo0 xt0 (.inr vnx0_3)) (aD xa7 xK7 (aN xk0_7 xo0 xt0 (.inr vnx0_7)) (cZ))))⟩
 have iz:bZ K mg "NoTable" [("Twice",false),("NoKind",false),("Nothing",false),("TooMany",false)]:=⟨_,PF X G xa1,aD xa5 xK5 (aN xk1_5 xo1 xt1 (.inr vnx1_5)) (aD xa4 xK4 (aN xk1_4 xo1 xt1 (.inr vnx1_4)) (aD xa3 xK3 (aN xk1_3 xo1 xt1 (.inr vnx1_3)) (aD xa7 xK7 (aN xk1_7 xo1 xt1 (.inr vnx1_7)) (cZ))))⟩
 have jJ:bZ K mg "NoForm" [("Twice",false),("NoKind",false),("Nothing",false),("TooMany",false)]:=⟨_,PF X G xa2,aD xa5 xK5 (aN xk2_5 xo2 xt2 (.inr vnx2_5)) (aD xa4 xK4 (aN xk2_4 xo2 xt2 (.inr vnx2_4)) (aD xa3 xK3 (aN xk2_3 xo2 xt2 (.inr vnx2_3)) (aD xa7 xK7 (aN xk2_7 xo2 xt2 (.inr vnx2_7)) (cZ))))⟩
 have iG:bZ K mg "Nothing" [("Twice",false),("NoKind",false),("Nothing",true),("TooMany",false)]:=⟨_,PF X G xa3,aD xa5 xK5 (aN xk3_5 xo3 xt3 (.inr vnx3_5)) (aD xa4 xK4 (aN xk3_4 xo3 xt3 (.inr vnx3_4)) (aD xa3 xK3 (aN xk3_3 xo3 xt3 (.inl rfl)) (aD xa7 xK7 (aN xk3_7 xo3 xt3 (.inr vnx3_7)) (cZ))))⟩
 have jG:bZ K mg "NoKind" [("Twice",false),("NoKind",true),("Nothing",false),("TooMany",false)]:=⟨_,PF X G xa4,aD xa5 xK5 (aN xk4_5 xo4 xt4 (.inr vnx4_5)) (aD xa4 xK4 (aN xk4_4 xo4 xt4 (.inl rfl)) (aD xa3 xK3 (aN xk4_3 xo4 xt4 (.inr vnx4_3)) (aD xa7 xK7 (aN xk4_7 xo4 xt4 (.inr vnx4_7)) (cZ))))⟩
 have mj:bZ K mg "Twice" [("Twice",true),("NoKind",false),("Nothing",false),("TooMany",false)]:=⟨_,PF X G xa5,aD xa5 xK5 (aN xk5_5 xo5 xt5 (.inl rfl)) (aD xa4 xK4 (aN xk5_4 xo5 xt5 (.inr vnx5_4)) (aD xa3 xK3 (aN xk5_3 xo5 xt5 (.inr vnx5_3)) (aD xa7 xK7 (aN xk5_7 xo5 xt5 (.inr vnx5_7)) (cZ))))⟩
 have lK:bZ K mg "Blind" [("Twice",false),("NoKind",false),("Nothing",false),("TooMany",false)]:=⟨_,PF X G xa6,aD xa5 xK5 (aN xk6_5 xo6 xt6 (.inr vnx6_5)) (aD xa4 xK4 (aN xk6_4 xo6 xt6 (.inr vnx6_4)) (aD xa3 xK3 (aN xk6_3 xo6 xt6 (.inr vnx6_3)) (aD xa7 xK7 (aN xk6_7 xo6 xt6 (.inr vnx6_7)) (cZ))))⟩
 have iB:bZ K mg "TooMany" [("Twice",false),("NoKind",false),("Nothing",false),("TooMany",true)]:=⟨_,PF X G xa7,aD xa5 xK5 (aN xk7_5 xo7 xt7 (.inr vnx7_5)) (aD xa4 xK4 (aN xk7_4 xo7 xt7 (.inr vnx7_4)) (aD xa3 xK3 (aN xk7_3 xo7 xt7 (.inr vnx7_3)) (aD xa7 xK7 (aN xk7_7 xo7 xt7 (.inl rfl)) (cZ))))⟩
 have lN:bZ K mg "NoKey" [("Twice",false),("NoKind",false),("Nothing",false),("TooMany",false)]:=⟨_,PF X G xa8,aD xa5 xK5 (aN xk8_5 xo8 xt8 (.inr vnx8_5)) (aD xa4 xK4 (aN xk8_4 xo8 xt8 (.inr vnx8_4)) (aD xa3 xK3 (aN xk8_3 xo8 xt8 (.inr vnx8_3)) (aD xa7 xK7 (aN xk8_7 xo8 xt8 (.inr vnx8_7)) (cZ))))⟩
 have js:bZ K mg "NoPane" [("Twice",false),("NoKind",false),("Nothing",false),("TooMany",false)]:=⟨_,PF X G xa9,aD xa5 xK5 (aN xk9_5 xo9 xt9 (.inr vnx9_5)) (aD xa4 xK4 (aN xk9_4 xo9 xt9 (.inr vnx9_4)) (aD xa3 xK3 (aN xk9_3 xo9 xt9 (.inr vnx9_3)) (aD xa7 xK7 (aN xk9_7 xo9 xt9 (.inr vnx9_7)) (cZ))))⟩
 have lC:bZ K mg "Stale" [("Twice",false),("NoKind",false),("Nothing",false),("TooMany",false)]:=⟨_,PF X G xa10,aD xa5 xK5 (aN xk10_5 xo10 xt10 (.inr vnx10_5)) (aD xa4 xK4 (aN xk10_4 xo10 xt10 (.inr vnx10_4)) (aD xa3 xK3 (aN xk10_3 xo10 xt10 (.inr vnx10_3)) (aD xa7 xK7 (aN xk10_7 xo10 xt10 (.inr vnx10_7)) (cZ))))⟩
 have pp:bZ K mg "Torn" [("Twice",false),("NoKind",false),("Nothing",false),("TooMany",false)]:=⟨_,PF X G xa11,aD xa5 xK5 (aN xk11_5 xo11 xt11 (.inr vnx11_5)) (aD xa4 xK4 (aN xk11_4 xo11 xt11 (.inr vnx11_4)) (aD xa3 xK3 (aN xk11_3 xo11 xt11 (.inr vnx11_3)) (aD xa7 xK7 (aN xk11_7 xo11 xt11 (.inr vnx11_7)) (cZ))))⟩
 have jW:bZ K mg "NoText" [("Twice",false),("NoKind",false),("Nothing",false),("TooMany",false)]:=⟨_,PF X G xa12,aD xa5 xK5 (aN xk12_5 xo12 xt12 (.inr vnx12_5)) (aD xa4 xK4 (aN xk12_4 xo12 xt12 (.inr vnx12_4)) (aD xa3 xK3 (aN xk12_3 xo12 xt12 (.inr vnx12_3)) (aD xa7 xK7 (aN xk12_7 xo12 xt12 (.inr vnx12_7)) (cZ))))⟩
 have V_ValueError:rV K (.type "ValueError") [("Twice",true),("NoKind",true),("Nothing",true),("TooMany",true)]:=aD xa5 xK5 (uo xv_ValueError_5) (aD xa4 xK4 (uo xv_ValueError_4) (aD xa3 xK3 (uo xv_ValueError_3) (aD xa7 xK7 (uo xv_ValueError_7) (cZ))))
 have rS:=wt (P:=l.prog) (w:=w) (base:=base) ac0 ⟨m0,a29,i29,kp0⟩ cl0 (by intro g hg; simp only [N1,Ox,or_false] at hg; rcases hg with rfl; exact n0_0) F29 b29 (PF X G ac0)
 have Ds:=bx F0 b0 (PF X G a0) mK (cV.ok (rZ (P:=l.prog) (w:=w) (base:=base) (f:=f0) iD iz jJ iG jG mj lK iB lN js lC pp jW V_ValueError aH eB))
 have jk:=xD F0 b0 (PF X G a0) mK (BC.ok (qw (P:=l.prog) (w:=w) (base:=base) (f:=f0) iD iz jJ iG jG mj lK iB lN js lC pp jW V_ValueError aH eB))
 have okb_Pair_view_form:=oj (P:=l.prog) (w:=w) (base:=base) (K:=K) (mg:=mg) (f:=f1)
 have gf:=bx F2 b2 (PF X G a2) vF (cV.ok (vU (P:=l.prog) (w:=w) (base:=base) (f:=f2) bj))
 have fam:=oo (P:=l.prog) (w:=w) (base:=base) F3 b3 (PF X G a3) gf fY 12
 have iM:=fam
 have nD:=bx F4 b4 (PF X G a4) wI (cV.ok (v8 (P:=l.prog) (w:=w) (base:=base) (f:=f4) bj))
 have kh:=bx F5 b5 (PF X G a5) sE (cV.ok (so (P:=l.prog) (w:=w) (base:=base) (f:=f5) bj))
 have iP:=bx F6 b6 (PF X G a6) pW (cV.ok (p6 (P:=l.prog) (w:=w) (base:=base) (f:=f6) fY oh))
 have uS:=bx F7 b7 (PF X G a7) DB (cV.ok (Ej (P:=l.prog) (w:=w) (base:=base) (f:=f7) iP kh))
 have j7:=bx F8 b8 (PF X G a8) sv (cV.ok (sd (P:=l.prog) (w:=w) (base:=base) (f:=f8) uS E_NoKind E_Nothing nW bj))
 have okb_Gather_view_form:=mF (P:=l.prog) (w:=w) (base:=base) (K:=K) (mg:=mg) (f:=f9) j7 nD iM fU E_NoKind E_Twice E_TooMany cC c_MOST_FIELDS c_MOST_WITHIN
 have eN:pR l.prog w K mg base 14 "view_form" ["self","one","other"] [("Pair",(bv cN 3 3)),("Gather",(bv aP 3 6))]:=vO (MethAt.mono (sR (c := "Pair") (m := "view_form") ac1 cl1 ⟨a1,i1,k1⟩ F1 b1 nI (cV.ok okb_Pair_view_form)) (by decide)) aZ (vO (MethAt.mono (sR (c := "Gather") (m := "view_form") ac0 cl0 ⟨a9,i9,k9⟩ F9 b9 mD (cV.ok okb_Gather_view_form)) (by decide)) aZ (Du))
 have fG:=bx F10 b10 (PF X G a10) rW (cV.ok (sB (P:=l.prog) (w:=w) (base:=base) (f:=f10) jk eN rS T_GlassError))
 have fam:=mO (P:=l.prog) (w:=w) (base:=base) F11 b11 (PF X G a11) fY 12
 have fw:=fam
 have iJ:=bx F12 b12 (PF X G a12) qb (cV.ok (qa (P:=l.prog) (w:=w) (base:=base) (f:=f12) oh fY bj))
 have m9:=bx F13 b13 (PF X G a13) vJ (cV.ok (wC (P:=l.prog) (w:=w) (base:=base) (f:=f13) iJ fw cC nW))
 have aW:=bx F14 b14 (PF X G a14) uF (cV.ok (vh (P:=l.prog) (w:=w) (base:=base) (f:=f14) ))
 have bG:=bx F15 b15 (PF X G a15) p4 (cV.ok (pX (P:=l.prog) (w:=w) (base:=base) (f:=f15) cC))
 have cM:=bx F16 b16 (PF X G a16) uE (cV.ok (vm (P:=l.prog) (w:=w) (base:=base) (f:=f16) bG aW))
 have aR:=bx F17 b17 (PF X G a17) vx (cV.ok (ur (P:=l.prog) (w:=w) (base:=base) (f:=f17) bY))
 have jg:=bx F18 b18 (PF X G a18) uU (cV.ok (uv (P:=l.prog) (w:=w) (base:=base) (f:=f18) aR gX cC bY bj))
 have iT:=bx F19 b19 (PF X G a19) pY (cV.ok (p3 (P:=l.prog) (w:=w) (base:=base) (f:=f19) gX cC B5 bj))
 have dZ:=bx F20 b20 (PF X G a20) kA (cV.ok (kC (P:=l.prog) (w:=w) (base:=base) (f:=f20) aW cM bG aR cC))
 have cK:=bx F21 b21 (PF X G a21) rX (cV.ok (sC (P:=l.prog) (w:=w) (base:=base) (f:=f21) bY cC bj jD gX))
 have fam:=mM (P:=l.prog) (w:=w) (base:=base) F22 b22 (PF X G a22) F23 b23 (PF X G a23) cK aW aR bY bj 12
 have kW:=fam.1
 have dP:=fam.2
 have fK:=bx F24 b24 (PF X G a24) ny (cV.ok (nh (P:=l.prog) (w:=w) (base:=base) (f:=f24) jD gX))
 have gA:=bx F25 b25 (PF X G a25) ou (cV.ok (nS (P:=l.prog) (w:=w) (base:=base) (f:=f25) aW fK cC bj i7))
 have gZ:=bx F26 b26 (PF X G a26) oM (cV.ok (oO (P:=l.prog) (w:=w) (base:=base) (f:=f26) aW gA aR bY bj))
 have dG:=bx F27 b27 (PF X G a27) jZ (cV.ok (kj (P:=l.prog) (w:=w) (base:=base) (f:=f27) cM bG gZ aW dP oh))
 exact FL (P:=l.prog) (w:=w) (base:=base) F28 dG dZ fG bG aR cM iT jg m9 bY cC
theorem walk {l:Pt} {q:Qn} {loose:List Str} {XP:(Str->Option Ql)->Qp->Prop} {YP:Qm->Qp->Prop} {d:DefRec} {K:Params->O2} (hn:l.most=some 63) (hdf:d.params.defaults=[])
  (hY:∀ (w:Qm) (h:Qp),YP w h->(K w.params).In h)
  (F:∀ (w:Qm) (mg:Str->Option Ql) (fa:Qo) (h:Qp),(K w.params).In h->h.Ns Qr mg->mg d.name=some (.ref fa) ->
   ∃ fd:QX,(∀ (s:Qu) (u:Ql),QY s fd ⟨[u],[]⟩ [("_law_script",u)])/\∀ base:Qp,(K w.params).In base->base.Ns Qr mg->jn l.prog w (K w.params) mg base (nc l.prog w) 16 fa fd ["_law_script"] (Ab (K w.params) 1 (bv qK 1 14)))
  (math:∀ ns:List Int,ns.length<=63->bv qK 1 14 [.lst (ns.map .int)]=.ok (.bl true)):PySem.W.WalkO q loose XP YP l.row.toRowW d [] (fun f vs=>PySem.call f vs) :=
 L2.Jx (n:=63) (k:=16) (x := "_law_script") (CX:=fun w=>nc l.prog w) (sp:=fun w=>Ab (K w.params) 1 (bv qK 1 14)) hn (by decide) hdf ⟨rfl,by decide,by decide⟩ hY F
  (fun w H a ns hl _ hS=>⟨[],[.lst (ns.map .int)],rfl,⟨trivial,fun a h=>nomatch h⟩,by rw [Dy]; exact bL.mpr ⟨.ref a,[],rfl,cq.mpr ⟨a,_,rfl,hS,sQ ns⟩,cF.mpr rfl⟩,by rw [math ns hl]; exact fun v H' _ d=>kK.mp d⟩) fun _ _ _ _ _ z=>by obtain⟨_,_,_,_,_,_,_,_,_,_,_,_,_,z⟩:=z; exact z
end Tk55
namespace Tk55
open PySem PySem.Spec L2 TG TD T4
local macro_rules
 | `(tactic| simp! only [$xs,*])=>`(tactic| simp only [eM,tY,nQ,sO,mJ,eT,ge_0,A4,o6,Aa,oV,lL,ph,oZ,zR,zY,AO,zP,zV,pc,pA,sX,jU,lV,oQ,lx,tX,oS,oF,ly,oK,jC,o8,ju,jF,iC,iw,pD,lQ,iA,mh,jx,mr,lJ,fD,lX,jL,kO,lP,jt,iq,lR,lD,Ai,tH,Ae,zW,AC,oy,lF,o5,ml,lW,A0,Ay,OI,OJ,MU,Nk,Ny,NQ,K0,env0,List.replicate,Oe,MZ,N8,Nat.reduceAdd,Nat.reduceSub,MT,Nr,pB,oI,sM,oE,oW,oC,ir,pf,tJ,tG,ua,oA,jI,jT,jO,jM,jy,jR,kQ,rH,sV,ui,tM,ue,jS,jN,gK,gr,o9,iE,gI,gC,gE,o4,mX,gh,gd,jA,jr,my,me,jw,lE,oz,pF,lM,mw,gN,if_true,if_false,OL,OM,Nw,$xs,*])
inductive Kd where
 | num (lo hi:Int) | wrd (ws:List Str)
def Kd.d:Kd->D
 | .num lo hi=>.tup [.str "number",.int lo,.int hi]
 | .wrd ws=>.tup [.str "word",.tup (ws.map .str)]
def mn (i j:Int):Int:=if j < i then j else i
theorem yc {a b:Kd} (ha:pl a.d=true) (hb:pl b.d=true):dL a.d b.d=some (.bl (pyEq a.d b.d)):=by
 have e:dL a.d b.d=if (pl a.d && pl b.d) && (cO 8 a.d || cO 8 b.d) then some (.bl (pyEq a.d b.d)) else none:=rfl
 have d:cO 8 a.d=true:=by
  cases a with
  | num _ _=>rfl
  | wrd ws =>
   show [D.str "word",.tup (ws.map .str)].all (cO 7)=true
   show (cO 7 (.str "word") && (cO 7 (.tup (ws.map .str)) && true))=true
   have:cO 7 (.tup (ws.map .str))=true:=by
    show (ws.map D.str).all (cO 6)=true
    rw [NE]
    exact List.all_eq_true.mpr fun _ _=>rfl
   rw [this]; rfl
 rw [e,ha,hb,d]; rfl
theorem Dl (a:Kd):pl a.d=true:=by
 cases a with
 | num _ _=>rfl
 | wrd ws =>
  show pl (.tup [.str "word",.tup (ws.map .str)])=true
  rw [dj]
  show (pl (.str "word") && (pl (.tup (ws.map .str)) && iY []))=true
  rw [dj,lS D.str fun _=>rfl]; rfl
def Kd.srt:Kd->Str
 | .num _ _ => "number"
 | .wrd _ => "word"
def Kd.ok:Kd->Prop
 | .num _ _=>True
 | .wrd ws=>ws.length<=100
def Kd.bad:Kd->Bool
 | .num a b=>decide (b < a)
 | .wrd ws=>ws.isEmpty
def vt:Kd->Kd->Kd
 | .num a b,.num x y=>.num (mx a x) (mn b y)
 | .wrd ws,.wrd us=>.wrd (ws.filter fun w=>us.contains w)
 | k,_=>k
def bo (k s:Kd):D:=if (vt k s).bad then .non else (vt k s).d
theorem uP:(("number":Str)==("number":Str))=true:=by decide +kernel
theorem vd:(("word":Str)==("word":Str))=true:=by decide +kernel
theorem vy:(("word":Str)==("number":Str))=false:=by decide +kernel
theorem zD:(("number":Str)==("word":Str))=false:=by decide +kernel
theorem Cm (k:Kd):aw k.d (.int 0)=some (.str k.srt):=by
 cases k with
 | num a b=>exact kQ _ _
 | wrd ws=>exact kQ _ _
theorem za {k s:Kd} (h:k.srt=s.srt) (hk:k.ok):bv oH 2 2 [k.d,s.d]=.ok (bo k s)/\bv du 2 2 [k.d,s.d]=.ok (vt k s).d:=by
 rw [mV,mV]; unfold oH du
 cases k with
 | num a b =>
  cases s with
  | num x y =>
   have bn:bv dX 2 4 [.tup [.str "number",.int a,.int b],.tup [.str "number",.int x,.int y]]=.ok (bo (.num a b) (.num x y)):=by
    rw [mV]; unfold dX
    cases hd:decide (mx a x<=mn b y) with
    | true =>
     have e:bo (.num a b) (.num x y)=.tup [.str "number",.int (mx a x),.int (mn b y)]:=by
      unfold bo
      rw [if_neg]
      ·rfl
      ·show ¬ decide (mn b y < mx a x)=true
       have:=of_decide_eq_true hd
       rw [decide_eq_false ‹0›]; simp
     have l1:decide ((if x > a then x else a)<=(if y < b then y else b))=true:=hd
     rw [e]
     simp! only [l1,AI]
     rfl
    | false =>
     have e:bo (.num a b) (.num x y)=.non:=by
      unfold bo
      rw [if_pos]
      show decide (mn b y < mx a x)=true
      have:=of_decide_eq_false hd
      exact decide_eq_true ‹0›
     have l1:decide ((if x > a then x else a)<=(if y < b then y else b))=false:=hd
     rw [e]
     simp! only [l1]
   constructor
   ·simp! only [Kd.d,uP,bn]
   ·simp! only [Kd.d,uP,AI]
    rfl
  | wrd us=>exact absurd (show (("number":Str)) = "word" from h) (by decide +kernel)
 | wrd ws =>
  cases s with
  | num x y=>exact absurd (show (("word":Str)) = "number" from h) (by decide +kernel)
  | wrd us =>
   have hk:ws.length<=100:=hk
   have f0:∀ tl:av,iW [none,some 1] (bC (f2 aw (ai 0) (fC (.int 1)))) (gN 0) (fB (f2 Cr (ai 0) (f2 aw (ai 1) (fC (.int 1))))) (ai 0) (some (.val (.tup [.str "word",.tup (ws.map .str)]))::some (.val (.tup [.str "word",.tup (us.map .str)]))::tl)=.ok (.lst ((ws.filter fun w=>us.contains w).map .str)):=fun tl=>by
    refine eS (ds:=ws.map .str) (by simp! only []) (by rw [MV]; omega) ?_
    refine gB D.str (fun w=>us.contains w) D.str ws fun w _=>⟨_,rfl,?_,rfl⟩
    simp! only [uL]
   have bw:bv fP 2 3 [.tup [.str "word",.tup (ws.map .str)],.tup [.str "word",.tup (us.map .str)]]=.ok (bo (.wrd ws) (.wrd us)):=by
    have f0:=f0 [none]
    rw [mV]; unfold fP
    cases q:(ws.filter fun w=>us.contains w) with
    | nil =>
     rw [q] at f0
     have e:bo (.wrd ws) (.wrd us)=.non:=by
      unfold bo
      rw [if_pos]
      show (ws.filter fun w=>us.contains w).isEmpty=true
      rw [q]; rfl
     rw [e]
     have n0:(([]:List Str).map D.str)=[]:=rfl
     rw [n0] at f0
     simp! only [f0]
     rfl
    | cons a r =>
     rw [q] at f0
     have e:bo (.wrd ws) (.wrd us)=.tup [.str "word",.tup ((a::r).map .str)]:=by
      unfold bo
      rw [if_neg]
      ·show D.tup [.str "word",.tup ((ws.filter fun w=>us.contains w).map .str)]=_
       rw [q]
      ·show ¬ (ws.filter fun w=>us.contains w).isEmpty=true
       rw [q]; simp
     have ne:((a::r).map D.str).isEmpty=false:=rfl
     rw [e]
     generalize (a::r).map D.str=Z at f0 ne
     simp! only [f0,ne,mR]
   constructor
   ·simp! only [Kd.d,vy,vd,bw]
   ·have f0:=f0 []
    simp! only [Kd.d,vy,f0,mR]
    rfl
theorem Fb (k s:Kd):pyEq (bo k s) .non=(vt k s).bad/\pl (bo k s)=true:=by
 unfold bo
 cases h:(vt k s).bad with
 | true=>exact⟨by rw [if_pos rfl]; unfold pyEq; rfl,rfl⟩
 | false =>
  rw [if_neg MS]
  refine⟨?_,Dl _⟩
  cases vt k s with
  | num _ _=>unfold Kd.d pyEq; rfl
  | wrd _=>unfold Kd.d pyEq; rfl
theorem Eu (c:Kd):dL c.d (.tup [.str "word",.tup []])=some (.bl (pyEq c.d (Kd.wrd []).d)):=yc (b:=.wrd []) (Dl c) (Dl (.wrd []))
theorem yS:∀ a b:List Str,eR (a.map .str) (b.map .str)=decide (a=b)
 | [],[]=>by unfold eR; simp
 | [],_::_=>by rw [Nk,MU]; unfold eR; simp
 | _::_,[]=>by rw [Nk,MU]; unfold eR; simp
 | x::a,y::b=>by
  rw [MU,MU]
  unfold eR
  rw [yS a b]
  have:pyEq (.str x) (.str y)=(x==y):=by unfold pyEq; rfl
  rw [this,OT]
  simp
theorem yJ (a b:List Str):uh (.lst (a.map .str)) (.lst (b.map .str))=some (.bl (!decide (a=b))):=by
 have e:uh (.lst (a.map .str)) (.lst (b.map .str))=if (pl (.lst (a.map .str)) && pl (.lst (b.map .str))) && (cO 8 (.lst (a.map .str)) || cO 8 (.lst (b.map .str))) then some (.bl (!pyEq (.lst (a.map .str)) (.lst (b.map .str)))) else none:=rfl
 have d:cO 8 (.lst (a.map .str))=true:=by
  show (a.map D.str).all (cO 7)=true
  rw [NE]
  exact List.all_eq_true.mpr fun _ _=>rfl
 rw [e,dF,dF,lS D.str (fun _=>rfl) a,lS D.str (fun _=>rfl) b,d]
 show some (D.bl (!pyEq (.lst (a.map .str)) (.lst (b.map .str))))=_
 rw [pyEq,yS]
abbrev KL:=List (Str×Kd)
def kf (p:Str×Kd):D:=.tup [.str p.1,p.2.d]
abbrev fr (k:KL) (r:List (Str×D)):D:=.tup [.tup (k.map kf),.tup (r.map fld)]
structure KO (k:KL):Prop where
 k1:1<=k.length
 k8:k.length<=8
 ok:∀ p∈k,p.2.ok
structure RO (r:List (Str×D)):Prop where
 r8:r.length<=8
 rk:∀ p∈r,K3 3 p.2
theorem qB {α β:Type} (f:α->D) (g:β->D):∀ (as:List α) (bs:List β),m8 (as.map f) (bs.map g)=(as.zip bs).map fun q=>.tup [f q.1,g q.2]
 | [],_=>by cases ‹List β› <;> rfl
 | _::_,[]=>rfl
 | a::as,b::bs=>by
  rw [MU,MU,N9,MU,<- qB f g as bs]; rfl
theorem gx (c:Str) (f:av->R (List D)) (k:Ks) (ρ:av):ke c f k ρ=p9 (f ρ) k ρ fun ds=>if small ds.length then k.ex ⟨c,[],[]⟩ ρ else un:=nr rfl
theorem wJ (f:FX) (k:Ks) (ρ:av):yy f k ρ=p9 (f ρ) k ρ fun _=>k.nx ρ:=nr rfl
theorem zy (cs:List Str) (i:Nat) (F Fh:ca) (k:Ks) (ρ:av):Dt cs i F Fh k ρ=F { k with ex:=fun x ρ1=>if (cs.contains x.c && x.fs.isEmpty)=true then Fh (Hk i k) (setV i (.exc x.c [] []) ρ1) else un } ρ:=nr rfl
theorem IC (g:List D->R D) (ds:List D):Dr g ds=xc (g ds):=nr rfl
theorem q5 (ρ:av) (G:av->R (List D)) (L:List (Str×D)) (hG:G ρ=.ok (L.map fld)) (hl:L.length<=100):iW [none,none] G (gT 2 (e7 [0,1])) (cW) (ai 0) ρ=.ok (.lst ((L.map (·.1)).map .str)):=by
 refine eS (ds:=L.map fld) hG (by rw [MV]; omega) ?_
 rw [Oy]
 refine kr _ _ _ fun p _=>⟨_,rfl,rfl,?_⟩
 simp! only []; rfl
theorem Ey:small (0+1)=true:=by rfl
theorem u6:bv cJ 1 3 [.exc "NoKind" [] []]=.ok (.str "kind"):=by kernel_rfl
theorem B3:bv cJ 1 3 [.exc "Twice" [] []]=.ok (.str "twice"):=by kernel_rfl
theorem zL:bv cJ 1 3 [.exc "TooMany" [] []]=.ok (.str "many"):=by kernel_rfl
theorem DN:bv cJ 1 3 [.exc "Nothing" [] []]=.ok (.str "nothing"):=by kernel_rfl
abbrev CS:List Str:=["Twice","NoKind","Nothing","TooMany"]
theorem xZ:(CS.contains "NoKind" && ([]:List Str).isEmpty)=true:=by decide +kernel
theorem El:(CS.contains "Twice" && ([]:List Str).isEmpty)=true:=by decide +kernel
theorem BE:(CS.contains "TooMany" && ([]:List Str).isEmpty)=true:=by decide +kernel
theorem G0:(CS.contains "Nothing" && ([]:List Str).isEmpty)=true:=by decide +kernel
abbrev Hh (nm:Str):D:=.obj "Gather" ["name"] [.str nm]
theorem Kt (nm:Str):BM "name" ["Gather"] (Hh nm)=some (.str nm):=by rfl
theorem E7 (nm m:Str) (g1 g2:List D->R D) (fo:FX) (fas:av->R (List D)) (ρ:av) (h:fo ρ=.ok (Hh nm)) (hm:(["name"]:List Str).contains m=false):uf m [("Pair",g1),("Gather",g2)] fo fas ρ=(fas ρ).bind fun as=>g2 (Hh nm::as):=by
 unfold uf
 rw [h,eM]
 have h1:(("Gather":Str)==("Pair":Str))=false:=by decide +kernel
 have:List.lookup ("Gather":Str) [(("Pair":Str),g1),(("Gather":Str),g2)]=some g2:=by
  rw [Nu,h1,Nu,BEq.rfl]
 simp only [this,hm]
 rfl
theorem wY:(["name"]:List Str).contains "view_form"=false:=by decide +kernel
theorem iK (f g:D) (nm:Str) (c:Str) (s:Str) (hv:bv aP 3 6 [Hh nm,f,g]=.error (some ⟨c,[],[]⟩)) (hc:((["Twice","NoKind","Nothing","TooMany"]:List Str).contains c && ([]:List Str).isEmpty)=true) (hw:bv cJ 1 3 [.exc c [] []]=.ok (.str s)) :
  bv bX 3 5 [f,g,.str nm]=.ok (.str s):=by
 have m2:=E7 nm "view_form" (bv cN 3 3) (bv aP 3 6) (fNew "Gather" ["name"] (af (ai 2) (au))) (af (ai 0) (af (ai 1) (au))) [some (.val f),some (.val g),some (.val (.str nm)),some (.val (.str "none")),none] rfl wY
 rw [gD]; unfold bX
 simp! only [zy,wJ,m2,hv,hc,Hk,IC,hw]
theorem CJ (f g:D) (nm:Str) (d:D) (hv:bv aP 3 6 [Hh nm,f,g]=.ok d):bv bX 3 5 [f,g,.str nm]=.ok (.str "none"):=by
 have m2:=E7 nm "view_form" (bv cN 3 3) (bv aP 3 6) (fNew "Gather" ["name"] (af (ai 2) (au))) (af (ai 0) (af (ai 1) (au))) [some (.val f),some (.val g),some (.val (.str nm)),some (.val (.str "none")),none] rfl wY
 rw [gD]; unfold bX
 simp! only [zy,wJ,m2,hv]
abbrev ZP:=(Str×Kd)×(Str×Kd)
def zp (q:ZP):D:=.tup [kf q.1,kf q.2]
def w1:ca:=aE (eY (xW (fB (f2 uh (f2 aw (ai 4) (fC (.int 0))) (f2 aw (ai 5) (fC (.int 0))))) (fB (f2 uh (f2 aw (f2 aw (ai 4) (fC (.int 1))) (fC (.int 0))) (f2 aw (f2 aw (ai 5) (fC (.int 1))) (fC (.int 0)))))) (bT (fC (.str "kind"))) (bI)) (cI [4,5] bI)
theorem walk1 (v0 v1 v2:Option S) (k:Ks):∀ L:List ZP,eZ (gT 2 (e7 [4,5])) w1 k (L.map zp) [v0,v1,v2,none,none,none,none]=if (L.any fun q=>!(q.1.1==q.2.1) || !(q.1.2.srt==q.2.2.srt))=true then .ok (.str "kind") else k.nx [v0,v1,v2,none,none,none,none]
 | []=>rfl
 | p::L=>by
  have ih:=walk1 v0 v1 v2 k L
  show ((rO (gT 2 (e7 [4,5]) (zp p) [v0,v1,v2,none,none,none,none])).bind fun ρ1=>w1 ⟨eZ (gT 2 (e7 [4,5])) w1 k (L.map zp),k.nx,eZ (gT 2 (e7 [4,5])) w1 k (L.map zp),k.ex⟩ ρ1)=_
  have e:gT 2 (e7 [4,5]) (zp p) [v0,v1,v2,none,none,none,none]=some [v0,v1,v2,none,some (.val (kf p.1)),some (.val (kf p.2)),none]:=rfl
  have k1:aw (kf p.1) (.int 1)=some p.1.2.d:=rfl
  have k2:aw (kf p.2) (.int 1)=some p.2.2.d:=rfl
  have n1:aw (kf p.1) (.int 0)=some (.str p.1.1):=rfl
  have n2:aw (kf p.2) (.int 0)=some (.str p.2.1):=rfl
  have s1:=Cm p.1.2
  have s2:=Cm p.2.2
  rw [e,eT,eM,Nn]
  cases hn:(p.1.1==p.2.1) with
  | false =>
   rw [OM,Np,Np,if_pos rfl]
   unfold w1
   simp! only [n1,n2,hn]
  | true =>
   cases hc:(p.1.2.srt==p.2.2.srt) with
   | false =>
    rw [OL,OM,Bool.or_true,Np,if_pos rfl]
    unfold w1
    simp! only [n1,n2,hn,k1,k2,s1,s2,hc]
   | true =>
    rw [OL,Bool.or_self,Nq,<- ih]
    conv=>lhs; unfold w1
    simp! only [n1,n2,hn,k1,k2,s1,s2,hc]
    rfl
theorem Em (c:Kd):pyEq c.d (Kd.wrd []).d=(c.bad && (c.srt==("word":Str))):=by
 cases c with
 | num u v =>
  unfold Kd.d
  rw [pyEq]
  unfold eR
  have:pyEq (.str "number") (.str "word")=false:=by unfold pyEq; decide +kernel
  rw [this]
  show false=(_ && (("number":Str)==("word":Str)))
  rw [zD,NM]
 | wrd us =>
  unfold Kd.d
  rw [pyEq]
  unfold eR
  have:pyEq (.str "word") (.str "word")=true:=by unfold pyEq; decide +kernel
  rw [this]
  unfold eR
  rw [pyEq]
  show _=(us.isEmpty && (("word":Str)==("word":Str)))
  rw [vd,NK]
  cases us with
  | nil=>rfl
  | cons a r =>
   have z:eR (.str a::r.map .str) []=false:=by unfold eR; rfl
   rw [MU,Nk,z]; rfl
def JU:av->R Bool:=(xW (nB (fB (f2 dL (f2 aw (ai 6) (fC (.int 0))) (fC (.str "number")))) (fB (f2 Ba (f2 aw (ai 6) (fC (.int 1))) (f2 aw (ai 6) (fC (.int 2)))))) (fB (f2 dL (ai 6) (bb (af (fC (.str "word")) (af (bb (au)) (au)))))))
theorem GR (c:Kd) (x0 x1 x2 x3 x4 x5:Option S):JU [x0,x1,x2,x3,x4,x5,some (.val c.d)]=.ok c.bad:=by
 have en:=Eu c
 rw [Em] at en
 unfold JU
 cases c with
 | num u v =>
  have pe:((Kd.num u v).bad && ((Kd.num u v).srt==("word":Str)))=false:=by
   show (_ && (("number":Str)==("word":Str)))=false
   rw [zD,NM]
  rw [pe] at en
  unfold Kd.d at en ⊢
  unfold Kd.bad
  cases hd:decide (v < u) <;> simp! only [uP,hd,L9,mR,en]
 | wrd us =>
  have pe:((Kd.wrd us).bad && ((Kd.wrd us).srt==("word":Str)))=us.isEmpty:=by
   show (us.isEmpty && (("word":Str)==("word":Str)))=_
   rw [vd,NK]
  rw [pe] at en
  unfold Kd.d at en ⊢
  unfold Kd.bad
  simp! only [vy,L9,mR,en]
def w2:ca:=(aE (bi 6 (fR (bv du 2 2) (af (f2 aw (ai 4) (fC (.int 1))) (af (f2 aw (ai 5) (fC (.int 1))) (au))))) (aE (eY JU (bT (fC (.str "nothing"))) (bI)) (cI [4,5,6] bI)))
theorem walk2 (v0 v1 v2:Option S) (k:Ks):∀ L:List ZP,(∀ q∈L,q.1.2.srt=q.2.2.srt/\q.1.2.ok)->eZ (gT 2 (e7 [4,5])) w2 k (L.map zp) [v0,v1,v2,none,none,none,none]=if (L.any fun q=>(vt q.1.2 q.2.2).bad)=true then .ok (.str "nothing") else k.nx [v0,v1,v2,none,none,none,none]
 | [],_=>rfl
 | p::L,h=>by
  have ih:=walk2 v0 v1 v2 k L fun q hq=>h q (MJ _ hq)
  obtain⟨hs,ho⟩:=h p MI
  show ((rO (gT 2 (e7 [4,5]) (zp p) [v0,v1,v2,none,none,none,none])).bind fun ρ1=>w2 ⟨eZ (gT 2 (e7 [4,5])) w2 k (L.map zp),k.nx,eZ (gT 2 (e7 [4,5])) w2 k (L.map zp),k.ex⟩ ρ1)=_
  have e:gT 2 (e7 [4,5]) (zp p) [v0,v1,v2,none,none,none,none]=some [v0,v1,v2,none,some (.val (kf p.1)),some (.val (kf p.2)),none]:=rfl
  have k1:aw (kf p.1) (.int 1)=some p.1.2.d:=rfl
  have k2:aw (kf p.2) (.int 1)=some p.2.2.d:=rfl
  have ib:=(za hs ho).2
  have wc:=GR (vt p.1.2 p.2.2)
  rw [e,eT,eM,Nn]
  cases hc:(vt p.1.2 p.2.2).bad with
  | true =>
   rw [hc] at wc
   rw [Np,if_pos rfl]
   unfold w2
   simp! only [k1,k2,ib,wc]
  | false =>
   rw [hc] at wc
   rw [Nq,<- ih]
   conv=>lhs; unfold w2
   simp! only [k1,k2,ib,wc]
   rfl
theorem Hs (ρ:av) (G:av->R (List D)) (L:KL) (hG:G ρ=.ok (L.map kf)) (hl:L.length<=100):iW [none] G (gN 0) (cW) (f2 aw (ai 0) (fC (.int 0))) ρ=.ok (.lst ((L.map (·.1)).map .str)):=by
 refine eS (ds:=L.map kf) hG (by rw [MV]; omega) ?_
 rw [Oy]
 refine kr _ _ _ fun p _=>⟨_,rfl,rfl,?_⟩
 simp! only [kf]; rfl
theorem Ia (ρ:av) (G:av->R (List D)) (L:KL) (hG:G ρ=.ok (L.map kf)) (hl:L.length<=100):iW [none] G (gN 0) (cW) (f2 aw (f2 aw (ai 0) (fC (.int 1))) (fC (.int 0))) ρ=.ok (.lst ((L.map (·.2.srt)).map .str)):=by
 refine eS (ds:=L.map kf) hG (by rw [MV]; omega) ?_
 rw [Oy]
 refine kr _ _ _ fun p _=>⟨_,rfl,rfl,?_⟩
 have s:=Cm p.2
 simp! only [kf,s]; rfl
theorem zM:∀ (k p:KL),k.length=p.length->((k.zip p).any fun q=>!(q.1.2.srt==q.2.2.srt))=!decide (k.map (·.2.srt)=p.map (·.2.srt))
 | [],[],_=>rfl
 | a::k,b::p,h=>by
  rw [N9,Nn,zM k p (by simpa using h),MU,MU,OT]
  simp
 | [],_::_,h=>by simp at h
 | _::_,[],h=>by simp at h
theorem BV (k p:KL):yv [.tup (k.map kf),.tup (p.map kf)]=some ((k.zip p).map zp):=by
 show some (m8 (k.map kf) (p.map kf))=_
 rw [qB]; rfl
section
variable {k p:KL}
theorem key_is (hok:∀ z∈k,z.2.ok) (k8:k.length<=8) (p8:p.length<=8):bv eD 2 3 [.tup (k.map kf),.tup (p.map kf)]=if decide (k.map (·.1)=p.map (·.1))=false then .error (some ⟨"NoKind",[],[]⟩) else if ((k.zip p).any fun q=>!(q.1.2.srt==q.2.2.srt))=true then .error (some ⟨"NoKind",[],[]⟩) else if ((k.zip p).any fun q=>(vt q.1.2 q.2.2).bad)=true then .error (some ⟨"Nothing",[],[]⟩) else .ok (.tup ((k.zip (k.zip p)).map fun z=>.tup [.str z.1.1,bo z.2.1.2 z.2.2.2])):=by
 have n1:=Hs [some (.val (.tup (k.map kf))),some (.val (.tup (p.map kf))),none] (bC (ai 0)) k (by simp! only []) ‹0›
 have n2:=Hs [some (.val (.tup (k.map kf))),some (.val (.tup (p.map kf))),none] (bC (ai 1)) p (by simp! only []) ‹0›
 have s1:=Ia [some (.val (.tup (k.map kf))),some (.val (.tup (p.map kf))),none] (bC (ai 0)) k (by simp! only []) ‹0›
 have s2:=Ia [some (.val (.tup (k.map kf))),some (.val (.tup (p.map kf))),none] (bC (ai 1)) p (by simp! only []) ‹0›
 have ne:=yJ (k.map (·.1)) (p.map (·.1))
 have se:=yJ (k.map (·.2.srt)) (p.map (·.2.srt))
 have ze:=BV k p
 rw [mV]; unfold eD
 cases h1:decide (k.map (·.1)=p.map (·.1)) with
 | false =>
  rw [h1] at ne
  rw [if_pos rfl]
  simp! only [n1,n2,ne,gx,Ey]
 | true =>
  rw [h1] at ne
  have nme:=of_decide_eq_true h1
  have kp:k.length=p.length:=by have:=congrArg List.length nme; rwa [MV,MV] at this
  rw [if_neg (by simp)]
  have sz:=zM k p kp
  rw [<- sz] at se
  cases h2:((k.zip p).any fun q=>!(q.1.2.srt==q.2.2.srt)) with
  | true =>
   rw [h2] at se
   rw [if_pos rfl]
   simp! only [n1,n2,ne,s1,s2,se,gx,Ey]
  | false =>
   rw [h2] at se
   rw [if_neg MS]
   have hs:∀ q∈k.zip p,q.1.2.srt=q.2.2.srt/\q.1.2.ok:=fun z hz=>by
    have:=List.any_eq_false.mp h2 z hz
    refine⟨by simpa using this,hok z.1 (M1 hz).1⟩
   have zl:(k.zip p).length<=8:=by rw [Og]; omega
   have kk:iW [none,none] (vB (af (ai 0) (af (ai 1) (au)))) (gT 2 (e7 [0,1])) (cW) (fR (bv oH 2 2) (af (f2 aw (ai 0) (fC (.int 1))) (af (f2 aw (ai 1) (fC (.int 1))) (au)))) [some (.val (.tup (k.map kf))),some (.val (.tup (p.map kf))),none]=.ok (.lst ((k.zip p).map fun z=>bo z.1.2 z.2.2)):=by
    refine eS (ds:=(k.zip p).map zp) (by simp! only [ze]) (by rw [MV]; omega) ?_
    refine kr zp (fun z=>bo z.1.2 z.2.2) (k.zip p) fun z hz=>⟨[some (.val (kf z.1)),some (.val (kf z.2))],rfl,rfl,?_⟩
    obtain⟨a1,a2⟩:=hs z hz
    have ib:=(za a1 a2).1
    have k1:aw (kf z.1) (.int 1)=some z.1.2.d:=rfl
    have k2:aw (kf z.2) (.int 1)=some z.2.2.d:=rfl
    simp! only [k1,k2,ib]
   have inn:Cr .non (.lst ((k.zip p).map fun z=>bo z.1.2 z.2.2))=some (.bl ((k.zip p).any fun q=>(vt q.1.2 q.2.2).bad)):=by
    show (if (pl .non && iY ((k.zip p).map fun z=>bo z.1.2 z.2.2)) && cO 8 .non then some (D.bl (inD .non ((k.zip p).map fun z=>bo z.1.2 z.2.2))) else none)=_
    have hp:iY ((k.zip p).map fun z=>bo z.1.2 z.2.2)=true:=xF fun x hx=>by
     obtain⟨z,_,rfl⟩:=List.mem_map.mp hx
     exact(Fb _ _).2
    rw [hp]
    show some (D.bl (inD .non ((k.zip p).map fun z=>bo z.1.2 z.2.2)))=_
    have e:inD .non ((k.zip p).map fun z=>bo z.1.2 z.2.2)=(k.zip p).any fun q=>(vt q.1.2 q.2.2).bad:=by
     unfold inD
     rw [Oz]
     congr 1
     funext z
     exact(Fb _ _).1
    rw [e]
   cases h3:((k.zip p).any fun q=>(vt q.1.2 q.2.2).bad) with
   | true =>
    rw [h3] at inn
    rw [if_pos rfl]
    simp! only [n1,n2,ne,s1,s2,se,kk,inn,gx,Ey]
   | false =>
    rw [h3] at inn
    rw [if_neg MS]
    have ze2:yv [.tup (k.map kf),.lst ((k.zip p).map fun z=>bo z.1.2 z.2.2)]=some ((k.zip (k.zip p)).map fun z=>.tup [kf z.1,bo z.2.1.2 z.2.2.2]):=by
     show some (m8 (k.map kf) ((k.zip p).map fun z=>bo z.1.2 z.2.2))=_
     rw [qB]
    have fi:iW [none,none] (vB (af (ai 0) (af (ai 2) (au)))) (gT 2 (e7 [0,1])) (cW) (bb (af (f2 aw (ai 0) (fC (.int 0))) (af (ai 1) (au)))) [some (.val (.tup (k.map kf))),some (.val (.tup (p.map kf))),some (.val (.lst ((k.zip p).map fun z=>bo z.1.2 z.2.2)))]=.ok (.lst ((k.zip (k.zip p)).map fun z=>.tup [.str z.1.1,bo z.2.1.2 z.2.2.2])):=by
     refine eS (ds:=(k.zip (k.zip p)).map fun z=>.tup [kf z.1,bo z.2.1.2 z.2.2.2]) (by simp! only [ze2]) (by rw [MV,Og]; omega) ?_
     refine kr (ρ:=[none,none]) (g:=gT 2 (e7 [0,1])) (C:=cW) (fun z=>D.tup [kf z.1,bo z.2.1.2 z.2.2.2]) (fun z=>.tup [.str z.1.1,bo z.2.1.2 z.2.2.2]) (k.zip (k.zip p)) fun z hz=>⟨[some (.val (kf z.1)),some (.val (bo z.2.1.2 z.2.2.2))],rfl,rfl,?_⟩
     have k0:aw (kf z.1) (.int 0)=some (.str z.1.1):=rfl
     simp! only [k0,mR]
    simp! only [n1,n2,ne,s1,s2,se,kk,inn,fi]
end
def toD (p:Str×Kd):Str×D:=(p.1,p.2.d)
theorem oP (k:KL):k.map kf=(k.map toD).map fld:=by rw [Oy]; rfl
theorem oi (c:Kd):Flat c.d:=by
 cases c with
 | num a b=>exact⟨"number",[.int a,.int b],rfl,BQ,rfl⟩
 | wrd ws=>exact⟨"word",[.tup (ws.map .str)],rfl,yK,by
   show (pl (.tup (ws.map .str)) && iY [])=true
   rw [dj,lS D.str fun _=>rfl]; rfl⟩
theorem Fk:∀ {n:Nat} {d:D},K3 n d->K3 (n+1) d
 | 0,_,h=>.inl h
 | n+1,_,h=>by
  rcases h with h | ⟨ps,qs,b,e,F⟩
  ·exact .inl h
  ·exact .inr ⟨ps,qs,b,e,F.1,F.2.1,F.2.2.1,fun p hp=>Fk (F.2.2.2 p hp)⟩
theorem yW {n m:Nat} (h:n<=m) {d:D} (hd:K3 n d):K3 m d:=by
  induction m with
  | zero => have : n = 0 := by omega
            subst this; exact hd
  | succ m ih =>
    by_cases e:n=m+1
    · subst e; exact hd
    · exact Fk (ih ‹0›)
def Gh (g:Nat):ca:=aE (eY (fB (f2 dL (f2 aw (ai 3) (fC (.int 0))) (fC (.str "rows")))) (bi 1 (fL rT (af (ai 1) (af (f2 bD (fC (.int 1)) (fR (aV g) (af (f2 aw (ai 3) (fC (.int 1))) (au)))) (au))))) (bI)) (cI [2,3] bI)
def Kn (g:Nat) (dp:D->Int) (k:D):Prop:=(yp k=false/\∃ x,aw k (.int 0)=some (.str x)/\(x == "rows")=false)\/(yp k=true/\aw k (.int 0)=some (.str "rows")/\0<=dp k/\∃ f,aw k (.int 1)=some f/\aV g [f]=.ok (.int (dp k))/\bu g [f]=.ok (.int (dp k)))
theorem pq (g:Nat) (dp:D->Int) (v0:Option S) (k:Ks):∀ (L:List (Str×D)) (a:Int),(∀ p∈L,Kn g dp p.2) ->
  eZ (gT 2 (e7 [2,3])) (Gh g) k (L.map fld) [v0,some (.val (.int a)),none,none]=k.nx [v0,some (.val (.int ((((L.map (·.2)).filter yp).map fun k=>1+dp k).foldl mx a))),none,none]
 | [],a,_=>rfl
 | p::L,a,h=>by
  show ((rO (gT 2 (e7 [2,3]) (fld p) [v0,some (.val (.int a)),none,none])).bind fun ρ1=>Gh g ⟨eZ (gT 2 (e7 [2,3])) (Gh g) k (L.map fld),k.nx,eZ (gT 2 (e7 [2,3])) (Gh g) k (L.map fld),k.ex⟩ ρ1)=_
  have e:gT 2 (e7 [2,3]) (fld p) [v0,some (.val (.int a)),none,none]=some [v0,some (.val (.int a)),some (.val (.str p.1)),some (.val p.2)]:=rfl
  rw [e,eT,eM]
  rcases h p MI with ⟨r0,x,i1,i2⟩ | ⟨r1,i1,d0,f,i2,i3,_⟩
  ·have ih:=pq g dp v0 k L a fun q hq=>h q (MJ _ hq)
   rw [MU,Ot (by simp [r0]),<- ih]
   unfold Gh
   simp! only [i1,i2]
  ·have ih:=pq g dp v0 k L (mx a (1+dp p.2)) fun q hq=>h q (MJ _ hq)
   rw [MU,Oq r1,MU,Oi,<- ih]
   unfold Gh
   simp! only [i1,BEq.rfl,i2,i3]
   rfl
theorem qU (g:Nat) {Kp:D->Prop} {qs:List (Str×D)} (dp:D->Int) (hq:qs.length<=8) (hk:∀ p∈qs,Kn g dp p.2) (m:Int) (m0:0<=m) (hb:∀ p∈qs,yp p.2=true->1+dp p.2<=m):∃ d:Int,0<=d/\d<=m/\∀ ps,Fj Kp ps qs->aV (g+1) [fm ps qs]=.ok (.int d)/\bu (g+1) [fm ps qs]=.ok (.int d):=by
 have pos:∀ v∈((qs.map (·.2)).filter yp).map (fun k=>1+dp k),0 < v:=fun v hv=>by
  obtain⟨k,hk',rfl⟩:=List.mem_map.mp hv
  obtain⟨h1,h2⟩:=List.mem_filter.mp hk'
  obtain⟨p,hp,rfl⟩:=List.mem_map.mp h1
  rcases hk p hp with ⟨r0,_⟩ | ⟨_,_,d0,_⟩
  ·rw [r0] at h2; cases h2
  ·show (0:Int) < 1+dp p.2; omega
 have nn:∀ (vs:List Int) (a:Int),0<=a->(∀ v∈vs,0 < v)->0<=vs.foldl mx a:=fun vs=>by
  induction vs with
  | nil=>exact fun a h _=>h
  | cons v vs ih =>
   intro a h hv
   rw [Oi]
   refine ih _ ?_ fun w hw=>hv w (MJ _ hw)
   have:=hv v MI
   unfold mx; split <;> omega
 have nb:∀ (vs:List Int) (a:Int),a<=m->(∀ v∈vs,v<=m)->vs.foldl mx a<=m:=fun vs=>by
  induction vs with
  | nil=>exact fun a h _=>h
  | cons v vs ih =>
   intro a h hv
   rw [Oi]
   refine ih _ ?_ fun w hw=>hv w (MJ _ hw)
   have:=hv v MI
   unfold mx; split <;> omega
 have bd:∀ v∈((qs.map (·.2)).filter yp).map (fun k=>1+dp k),v<=m:=fun v hv=>by
  obtain⟨k,hk',rfl⟩:=List.mem_map.mp hv
  obtain⟨h1,h2⟩:=List.mem_filter.mp hk'
  obtain⟨p,hp,rfl⟩:=List.mem_map.mp h1
  exact hb p hp h2
 refine⟨(((qs.map (·.2)).filter yp).map fun k=>1+dp k).foldl mx 0,nn _ 0 ‹0› pos,nb _ 0 m0 bd,fun ps F=>?_⟩
 obtain⟨a2,a3,a6,a7⟩:=F
 have hk2:∀ k∈(ps++qs).map (·.2),Kn g dp k:=fun k hk'=>by
  obtain⟨p,hp,rfl⟩:=List.mem_map.mp hk'
  rcases List.mem_append.mp hp with z | z
  ·exact .inl (iu (a6 p z))
  ·exact hk p z
 have ef:((ps++qs).map (·.2)).filter yp=(qs.map (·.2)).filter yp:=by
  rw [NS,OU,List.filter_eq_nil_iff.mpr,NQ]
  intro k hk'
  obtain⟨p,hp,rfl⟩:=List.mem_map.mp hk'
  rw [(iu (a6 p hp)).1]; simp
 refine⟨?_,?_⟩
 ·rw [gF,iU]
  have lp:=fun k=>pq g dp (some (.val (fm ps qs))) k qs 0 hk
  unfold Gh at lp
  unfold ja
  simp! only [lp]
 ·rw [gY,iU]
  unfold kt
  have ko:=GY ps qs a2 a3
  have f0:iW [none] (bC (fR (bv gq 1 1) (af (ai 0) (au)))) (gN 0) (fB (f2 dL (f2 aw (ai 0) (fC (.int 0))) (fC (.str "rows")))) (f2 bD (fC (.int 1)) (fR (bu g) (af (f2 aw (ai 0) (fC (.int 1))) (au)))) [some (.val (fm ps qs))]=.ok (.lst ((((qs.map (·.2)).filter yp).map fun k=>1+dp k).map .int)):=by
   refine eS (ds:=(ps++qs).map (·.2)) (by simp! only [ko]) (by simp; omega) ?_
   rw [Oy,<- ef]
   have:=zq (ρ:=inB [none] [some (.val (fm ps qs))]) (g:=gN 0) (C:=fB (f2 dL (f2 aw (ai 0) (fC (.int 0))) (fC (.str "rows")))) (Fe:=f2 bD (fC (.int 1)) (fR (bu g) (af (f2 aw (ai 0) (fC (.int 1))) (au)))) (fun d:D=>d) yp (fun k=>.int (1+dp k)) ((ps++qs).map (·.2)) fun k hk'=>by
    rcases hk2 k hk' with ⟨r0,x,i1,i2⟩ | ⟨r1,i1,d0,f,i2,i3,i4⟩
    ·exact⟨[some (.val k)],rfl,by simp! only [i1,i2,r0],fun z=>by rw [r0] at z; cases z⟩
    ·exact⟨[some (.val k)],rfl,by simp! only [i1,BEq.rfl,r1],fun _=>by simp! only [i2,i4]⟩
   rw [List.map_id'] at this
   exact this
  have gm:rq 0 (.lst ((((qs.map (·.2)).filter yp).map fun k=>1+dp k).map .int))=some (.int ((((qs.map (·.2)).filter yp).map fun k=>1+dp k).foldl mx 0)):=by
   unfold rq
   simp only [we]
   show some (D.int _)=_
   rw [Bj _ pos]
  have e1:∀ (g:D->Option D) (f:FX) (ρ:av),f1 g f ρ=(f ρ).bind fun a=>rO (g a):=fun _ _ _=>rfl
  simp! only [f0,gm]
theorem Cy (n:Nat):∀ (ps qs:List (Str×D)) (g:Nat),Fj (K3 n) ps qs->n+1<=g->∃ d:Int,0<=d/\d<=(n:Int)/\∀ ps',Fj (K3 n) ps' qs->aV g [fm ps' qs]=.ok (.int d)/\bu g [fm ps' qs]=.ok (.int d):=by
 induction n with
 | zero =>
  intro ps qs g F hg
  obtain⟨g,rfl⟩:∃ g',g=g'+1:=⟨g - 1,by omega⟩
  exact qU g (fun _=>0) F.2.1 (fun p hp=>.inl (iu (F.2.2.2 p hp))) _ ‹0› fun p hp z=>by rw [(iu (F.2.2.2 p hp)).1] at z; cases z
 | succ n ih =>
  intro ps qs g F hg
  obtain⟨g,rfl⟩:∃ g',g=g'+1:=⟨g - 1,by omega⟩
  classical
  have hx:∀ p∈qs,Flat p.2\/(yp p.2=true/\aw p.2 (.int 0)=some (.str "rows")/\∃ d:Int,0<=d/\d<=(n:Int)/\∃ f,aw p.2 (.int 1)=some f/\aV g [f]=.ok (.int d)/\bu g [f]=.ok (.int d)):=fun p hp=>by
   rcases F.2.2.2 p hp with h | ⟨ps',qs',b,e,F'⟩
   ·exact .inl h
   ·refine .inr ⟨by rw [e]; show (("rows":Str) == "rows")=true; simp,by rw [e]; exact kQ _ _,?_⟩
    obtain⟨d,d0,dn,d1⟩:=ih ps' qs' g F' ‹0›
    exact⟨d,d0,dn,fm ps' qs',by rw [e]; exact rH _ _ _,(d1 ps' F').1,(d1 ps' F').2⟩
  refine qU g (fun k=>if h:∃ d:Int,0<=d/\d<=(n:Int)/\∃ f,aw k (.int 1)=some f/\aV g [f]=.ok (.int d)/\bu g [f]=.ok (.int d) then h.choose else 0) F.2.1 (fun p hp=>?_) _ ‹0› fun p hp z=>?_
  ·rcases hx p hp with h | ⟨h1,h2,ex⟩
   ·exact .inl (iu h)
   ·refine .inr ⟨h1,h2,?_⟩
    dsimp only
    rw [dif_pos ex]
    exact⟨ex.choose_spec.1,ex.choose_spec.2.2⟩
  ·rcases hx p hp with h | ⟨h1,h2,ex⟩
   ·rw [(iu h).1] at z; cases z
   ·rw [dif_pos ex]
    have:=ex.choose_spec.2.1
    omega
noncomputable def dq (q:List (Str×D)):Int:=match aV 12 [fr [] q] with
 | .ok (.int d)=>d
 | _=>0
theorem qI {q:List (Str×D)} (n:Nat) (hn:n<=3) (q8:q.length<=8) (h:∀ p∈q,K3 n p.2):dq q<=(n:Int)/\∀ k:KL,k.length<=8->aV 12 [fr k q]=.ok (.int (dq q))/\bu 12 [fr k q]=.ok (.int (dq q)):=by
 have F0:Fj (K3 n) [] q:=⟨by simp,q8,(fun _ z=>nomatch z),h⟩
 obtain⟨d,_,dn,hd⟩:=Cy n [] q 12 F0 ‹0›
 have e0:aV 12 [fr [] q]=.ok (.int d):=(hd [] F0).1
 have e:dq q=d:=by unfold dq; rw [e0]
 rw [e]
 refine⟨dn,fun k k8=>?_⟩
 have:=hd (k.map toD) ⟨by rw [MV]; exact k8,q8,fun p hp=>by
  obtain⟨z,_,rfl⟩:=List.mem_map.mp hp
  exact oi z.2,h⟩
 unfold fm at this
 rw [<- oP] at this
 exact this
def nms (k:KL) (r:List (Str×D)):List Str:=k.map (·.1)++r.map (·.1)
theorem vq {k:KL} {r:List (Str×D)} (k8:k.length<=8) (r8:r.length<=8) (ρ:av) (G:av->R (List D)) (hG:G ρ=.ok (k.map kf++r.map fld)):iW [none,none] G (gT 2 (e7 [0,1])) (cW) (ai 0) ρ=.ok (.lst ((nms k r).map .str)):=by
 have em:k.map kf++r.map fld=(k.map toD++r).map fld:=by rw [NS,oP]
 rw [em] at hG
 have lc:=q5 ρ G (k.map toD++r) hG (by rw [M8,MV]; omega)
 have en:(k.map toD++r).map (·.1)=nms k r:=by
  unfold nms
  rw [NS,Oy]; rfl
 rw [en] at lc
 exact lc
theorem qP:∀ (k p:KL),k.zip (p.take k.length)=k.zip p
 | [],_=>rfl
 | _::_,[]=>rfl
 | a::k,b::p=>by rw [MT,NA,N9,N9,qP k p]
theorem C7:∀ (k p:KL),k.length=p.length->((k.zip p).any fun q=>!(q.1.1==q.2.1))=!decide (k.map (·.1)=p.map (·.1))
 | [],[],_=>rfl
 | a::k,b::p,h=>by
  rw [N9,Nn,C7 k p (by simpa using h),MU,MU,OT]
  simp
 | [],_::_,h=>by simp at h
 | _::_,[],h=>by simp at h
theorem zm {α:Type} (f g:α->Bool):∀ L:List α,(L.any fun q=>f q || g q)=(L.any f || L.any g)
 | []=>rfl
 | a::L=>by
  rw [Nn,Nn,Nn,zm f g L]
  cases f a <;> cases g a <;> cases L.any f <;> rfl
noncomputable def res (k p:KL) (r q:List (Str×D)) (nm:Str):Str:=if decide ((p.length:Int)<=(k.length:Int))=true then "kind" else if decide (k.map (·.1)=(p.take k.length).map (·.1))=false then "kind" else if ((k.zip p).any fun q=>!(q.1.2.srt==q.2.2.srt))=true then "kind" else if ((k.zip p).any fun q=>(vt q.1.2 q.2.2).bad)=true then "nothing" else if (nms k r).contains nm=true then "twice" else if decide ((8:Int)<=(r.length:Int))=true then "many" else if decide ((3:Int)<=dq q)=true then "many" else "none"
section
variable {k p:KL} {r q:List (Str×D)}
theorem Di (F:KO k) (G:KO p) (A:RO r) (B:RO q) (nm:Str):bv gb 3 7 [fr k r,fr p q,.str nm]=.ok (.str (res k p r q nm)):=by
 have k8:=F.k8
 have p8:=G.k8
 have r8:=A.r8
 have q8:=B.r8
 have ze:=BV k p
 obtain⟨b1,d1⟩:=qI 3 (by decide) r8 A.rk
 obtain⟨b2,d2⟩:=qI 3 (by decide) q8 B.rk
 have d1:=(d1 k k8).1
 have d2:=(d2 p p8).1
 have ad:=eK (k.map kf) (r.map fld) (by rw [MV,MV]; omega)
 have n3:=vq k8 r8 [some (.val (fr k r)),some (.val (fr p q)),some (.val (.str nm)),none,none,none,none] (bC (f2 bD (f2 aw (ai 0) (fC (.int 0))) (f2 aw (ai 0) (fC (.int 1))))) (by simp! only [ad])
 have n4:=yB nm (nms k r)
 rw [gD]; unfold gb res
 cases h0:decide ((p.length:Int)<=(k.length:Int)) with
 | true =>
  rw [if_pos rfl]
  simp! only [MV,h0]
 | false =>
  rw [if_neg MS]
  have lt:=of_decide_eq_false h0
  have a1:=fun K:Ks=>walk1 (some (.val (fr k r))) (some (.val (fr p q))) (some (.val (.str nm))) K (k.zip p)
  have a2:=fun (K:Ks) h=>walk2 (some (.val (fr k r))) (some (.val (fr p q))) (some (.val (.str nm))) K (k.zip p) h
  have tl:k.length=(p.take k.length).length:=by rw [M2]; omega
  have nz:=C7 k (p.take k.length) tl
  rw [qP] at nz
  rw [zm,nz] at a1
  unfold w1 at a1
  unfold w2 JU at a2
  generalize hz:(k.zip p).map zp=Z at ze a1 a2
  cases h1:decide (k.map (·.1)=(p.take k.length).map (·.1)) with
  | false =>
   rw [if_pos rfl]
   simp only [h1,OM,Np,if_pos] at a1
   simp! only [MV,h0,ze,a1]
  | true =>
   rw [if_neg (by simp)]
   simp only [h1,OL,Nq] at a1
   cases h2:((k.zip p).any fun q=>!(q.1.2.srt==q.2.2.srt)) with
   | true =>
    rw [if_pos rfl]
    simp only [h2,if_pos] at a1
    simp! only [MV,h0,ze,a1]
   | false =>
    rw [if_neg MS]
    have hs:∀ q∈k.zip p,q.1.2.srt=q.2.2.srt/\q.1.2.ok:=fun z hz=>by
     have:=List.any_eq_false.mp h2 z hz
     refine⟨by simpa using this,F.ok z.1 (M1 hz).1⟩
    have a2:=fun K=>a2 K hs
    simp only [h2,if_neg MS] at a1
    cases h3:((k.zip p).any fun q=>(vt q.1.2 q.2.2).bad) with
    | true =>
     rw [if_pos rfl]
     simp only [h3,if_pos] at a2
     simp! only [MV,h0,ze,a1,a2]
    | false =>
     rw [if_neg MS]
     simp only [h3,if_neg MS] at a2
     cases h4:(nms k r).contains nm with
     | true =>
      rw [h4] at n4
      rw [if_pos rfl]
      simp! only [MV,h0,ze,a1,a2,n3,n4]
     | false =>
      rw [h4] at n4
      rw [if_neg MS]
      cases h5:decide ((8:Int)<=(r.length:Int)) with
      | true =>
       have h5':decide ((7:Int) < (r.length:Int))=true:=decide_eq_true (by have:=of_decide_eq_true h5; omega)
       rw [if_pos rfl]
       simp! only [MV,h0,ze,a1,a2,n3,n4,h5']
      | false =>
       have h5':decide ((7:Int) < (r.length:Int))=false:=decide_eq_false (by have:=of_decide_eq_false h5; omega)
       rw [if_neg MS]
       have h6:decide ((3:Int) < dq r)=false:=decide_eq_false ‹0›
       cases h7:decide ((3:Int)<=dq q) with
       | true =>
        have h7':decide ((2:Int) < dq q)=true:=decide_eq_true (by have:=of_decide_eq_true h7; omega)
        rw [if_pos rfl]
        simp! only [MV,h0,ze,a1,a2,n3,n4,h5',d1,d2,h6,h7']
       | false =>
        have h7':decide ((2:Int) < dq q)=false:=decide_eq_false (by have:=of_decide_eq_false h7; omega)
        rw [if_neg MS]
        simp! only [MV,h0,ze,a1,a2,n3,n4,h5',d1,d2,h6,h7']
theorem qL (F:KO k) (G:KO p) (A:RO r) (B:RO q) (nm:Str):bv bX 3 5 [fr k r,fr p q,.str nm]=.ok (.str (res k p r q nm)):=by
 have k8:=F.k8
 have p8:=G.k8
 have r8:=A.r8
 have q8:=B.r8
 have ki:=key_is (p:=p.take k.length) F.ok k8 (by rw [M2]; omega)
 rw [qP] at ki
 have fn:=Kt nm
 have c1:cutD (p.map kf) none (some (k.length:Int))=(p.take k.length).map kf:=by rw [C8,OV]
 have c2:cutD (p.map kf) (some (k.length:Int)) none=(p.drop k.length).map kf:=by rw [qF,OW]
 have kx:decide ((p.length:Int)<=(k.length:Int))=false->∀ c:Str,bv eD 2 3 [.tup (k.map kf),.tup ((p.take k.length).map kf)]=.error (some ⟨c,[],[]⟩)->bv aP 3 6 [Hh nm,fr k r,fr p q]=.error (some ⟨c,[],[]⟩):=fun h0 c e=>by
  rw [gD]; unfold aP
  simp! only [MV,h0,c1,e]
 unfold res
 cases h0:decide ((p.length:Int)<=(k.length:Int)) with
 | true =>
  rw [if_pos rfl]
  refine iK _ _ _ "NoKind" _ ?_ xZ u6
  rw [gD]; unfold aP
  simp! only [MV,h0,gx,Ey]
 | false =>
  rw [if_neg MS]
  have kx:=kx h0
  cases h1:decide (k.map (·.1)=(p.take k.length).map (·.1)) with
  | false =>
   rw [h1,if_pos rfl] at ki
   rw [if_pos rfl]
   exact iK _ _ _ _ _ (kx _ ki) xZ u6
  | true =>
   rw [h1,if_neg (by simp)] at ki
   rw [if_neg (by simp)]
   cases h2:((k.zip p).any fun q=>!(q.1.2.srt==q.2.2.srt)) with
   | true =>
    rw [h2,if_pos rfl] at ki
    rw [if_pos rfl]
    exact iK _ _ _ _ _ (kx _ ki) xZ u6
   | false =>
    rw [h2,if_neg MS] at ki
    rw [if_neg MS]
    cases h3:((k.zip p).any fun q=>(vt q.1.2 q.2.2).bad) with
    | true =>
     rw [h3,if_pos rfl] at ki
     rw [if_pos rfl]
     exact iK _ _ _ _ _ (kx _ ki) G0 DN
    | false =>
     rw [h3,if_neg MS] at ki
     rw [if_neg MS]
     generalize (D.tup ((k.zip (k.zip p)).map fun z=>.tup [.str z.1.1,bo z.2.1.2 z.2.2.2]))=KD at ki
     have np:=xM (k.map kf) (r.map fld) (k.map toD++r) (by rw [M8,MV]; omega) (by rw [NS,oP])
     have en:((k.map toD++r).map fun p=>D.str p.1)=(nms k r).map .str:=by
      unfold nms
      rw [NS,NS,Oy,Oy,Oy]; rfl
     rw [en] at np
     have n4:=uL nm (nms k r)
     obtain⟨_,d2⟩:=qI 3 (by decide) q8 B.rk
     have d2:=(d2 (p.drop k.length) (by rw [Nb]; omega)).2
     cases h4:(nms k r).contains nm with
     | true =>
      rw [h4] at n4
      rw [if_pos rfl]
      refine iK _ _ _ "Twice" _ ?_ El B3
      rw [gD]; unfold aP
      simp! only [MV,h0,c1,ki,fn,np,n4,gx,Ey]
     | false =>
      rw [h4] at n4
      rw [if_neg MS]
      cases h5:decide ((8:Int)<=(r.length:Int)) with
      | true =>
       rw [if_pos rfl]
       refine iK _ _ _ "TooMany" _ ?_ BE zL
       rw [gD]; unfold aP
       simp! only [MV,h0,c1,ki,fn,np,n4,c2,mR,h5,gx,Ey]
      | false =>
       rw [if_neg MS]
       cases h7:decide ((3:Int)<=dq q) with
       | true =>
        rw [if_pos rfl]
        refine iK _ _ _ "TooMany" _ ?_ BE zL
        rw [gD]; unfold aP
        simp! only [MV,h0,c1,ki,fn,np,n4,c2,mR,h5,d2,h7,gx,Ey]
       | false =>
        rw [if_neg MS]
        have a8:=of_decide_eq_false h5
        have ad:=eK (r.map fld) [.tup [.str nm,.tup [.str "rows",fr (p.drop k.length) q,.bl false]]] (by rw [MV]; simp; omega)
        refine CJ _ _ _ (.tup [KD,.tup (r.map fld++[.tup [.str nm,.tup [.str "rows",fr (p.drop k.length) q,.bl false]]])]) ?_
        rw [gD]; unfold aP
        simp! only [MV,h0,c1,ki,fn,np,n4,c2,Lz,mR,AI,h5,d2,h7,ad]
end
theorem uD (w:Str) (ws:List Str):jl (.str w) (.lst (ws.map .str))=some (.bl (!ws.contains w)):=by
 have e:=yB w ws
 have e1:Cr (.str w) (.lst (ws.map .str))=if (pl (.str w) && iY (ws.map .str)) && cO 8 (.str w) then some (.bl (inD (.str w) (ws.map .str))) else none:=rfl
 have e2:jl (.str w) (.lst (ws.map .str))=if (pl (.str w) && iY (ws.map .str)) && cO 8 (.str w) then some (.bl (!inD (.str w) (ws.map .str))) else none:=rfl
 rw [e1] at e
 rw [e2]
 split at e
 ·rename_i z
  rw [if_pos z]
  injection e with e
  injection e with e
  rw [e]
 ·cases e
theorem Ik (is:List Nat) (f:FX) (ρ:av):sL is f ρ=(xc (f (frzs is ρ))).bind fun d=>if lf d then .ok d else un:=nr rfl
theorem BK (xs:List D):pH [.tup xs]=some (.lst xs):=nr rfl
theorem yH:∀ ws:List Str,sj (ws.map .str)=true
 | []=>rfl
 | w::ws=>by
  rw [MU]
  unfold sj
  rw [yH ws]; rfl
theorem vP {i:Nat} {fi fv:FX} {k:Ks} {ρ:av} {xs:List D} {j:Int} {n:Nat} {v:D} (h:ρ[i]?=some (some (.own (.lst xs)))) (hv:fv ρ=.ok v) (hi:fi ρ=.ok (.int j)) (hn:uy xs.length j=some n):iN i fi fv k ρ=k.nx (ρ.set i (some (.own (.lst (xs.set n v))))):=by
 unfold iN
 rw [h]
 simp only [hv,hi,nQ,eM,hn]
theorem qq {n i:Nat} (h:i < n):uy n (i:Int)=some i:=by
 unfold uy
 rw [if_pos ‹0›,if_pos ‹0›]; rfl
theorem HW {xs:List D} {ρ:av} {fk:FX} {j:Int} {i:Nat} {d:D} (h:ρ[i]?=some (some (.own (.lst xs)))) (hk:fk ρ=.ok (.int j)) (hd:aw (.lst xs) (.int j)=some d):j6 i fk ρ=.ok d:=by
 unfold j6
 rw [h]
 show (fk ρ).bind _=_
 rw [hk]
 show rO (aw (.lst xs) (.int j))=_
 rw [hd]; rfl
theorem Fy (is:List Nat) (f:FX) (ρ:av):oN is f ρ=(xc (f (frzs is ρ))).bind zA:=nr rfl
theorem HM {ds:List D} (h:sj ds=true):zA (.lst ds)=.ok (.lst ds):=by
 show (if sj ds then (.ok (.lst ds):R D) else un)=_
 rw [h]; rfl
theorem Ef (xs ys:List D) (h:xs.length+ys.length<=100000):tV (.lst xs) (.lst ys)=some (.lst (xs++ys)):=by
 show (if small (xs.length+ys.length) then some (D.lst (xs++ys)) else none)=_
 rw [dW h]; rfl
theorem HC (c:Kd):lf c.d=true:=by
 cases c with
 | num a b=>rfl
 | wrd ws =>
  unfold Kd.d lf
  unfold sj
  have h1:lf (.str "word")=true:=by unfold lf; rfl
  rw [h1]
  unfold sj
  have h2:lf (.tup (ws.map .str))=true:=by unfold lf; exact yH ws
  rw [h2]
  unfold sj; rfl
theorem Hy (p:Str×Kd):lf (kf p)=true:=by
 unfold kf lf sj
 have h1:lf (.str p.1)=true:=by unfold lf; rfl
 rw [h1]
 unfold sj
 rw [HC]
 unfold sj; rfl
theorem CA:∀ k:KL,sj (k.map kf)=true
 | []=>by unfold List.map sj; rfl
 | p::k=>by
  rw [MU]
  unfold sj
  rw [CA k,Hy]; rfl
theorem uC (k:KL) (a:Nat) (p:Str×Kd):(k.map kf).set a (kf p)=(k.set a p).map kf:=by rw [List.map_set]
theorem DW {k:KL} {a:Nat} (h:a < k.length):aw (.lst (k.map kf)) (.int (a:Int))=some (kf k[a]):=by rw [xS,lO,jK h]; rfl
theorem KO.set {k:KL} (F:KO k) {a:Nat} {p:Str×Kd} (hp:p.2.ok):KO (k.set a p):=⟨by rw [Nf]; exact F.k1,by rw [Nf]; exact F.k8,fun q hq=>by
 rcases List.mem_or_eq_of_mem_set hq with z | z
 ·exact F.ok q z
 ·rw [z]; exact hp⟩
def zE:ca:=(iS 0 (bT (fL cg (af (ai 0) (au)))))
def z5:ca:=(aE (eY (fB (f2 dL (ai 6) (fC (.int 5)))) (aE (bi 7 (f2 aw (f2 aw (ai 1) (f2 bN (ai 4) (fL fW (af (ai 1) (au))))) (fC (.int 1)))) (aE (iN 0 (ai 4) (bb (af (f2 aw (j6 0 (ai 4)) (fC (.int 0))) (af (bb (af (fC (.str "word")) (af (bb (af (fC (.str "zzzzzzz")) (au))) (au)))) (au))))) (eY (fB (f2 dL (f2 aw (ai 7) (fC (.int 0))) (fC (.str "number")))) (iN 0 (ai 4) (bb (af (f2 aw (j6 0 (ai 4)) (fC (.int 0))) (af (bb (af (fC (.str "number")) (af (f2 bD (f2 aw (ai 7) (fC (.int 2))) (fC (.int 1))) (af (f2 bD (f2 aw (ai 7) (fC (.int 2))) (fC (.int 3))) (au))))) (au))))) (bI)))) (bI)) zE)
def z4:ca:=(aE (eY (fB (f2 dL (ai 6) (fC (.int 4)))) (iN 0 (ai 4) (bb (af (f2 aw (j6 0 (ai 4)) (fC (.int 0))) (af (f2 aw (dN (af (bb (af (fC (.str "number")) (af (fC (.int 0)) (af (fC (.int 9)) (au))))) (af (bb (af (fC (.str "word")) (af (bb (af (fC (.str "")) (af (fC (.str "a")) (au)))) (au)))) (au)))) (fL pI (af (f2 dL (f2 aw (ai 5) (fC (.int 0))) (fC (.str "number"))) (au)))) (au))))) (bI)) z5)
def z3:ca:=(aE (eY (fB (f2 dL (ai 6) (fC (.int 3)))) (iN 0 (ai 4) (bb (af (ai 3) (af (ai 5) (au))))) (bI)) z4)
def z2:ca:=(aE (eY (fB (f2 dL (ai 6) (fC (.int 2)))) (lm 0 (oN [0] (f2 tV (iI (ai 0) (kM (fC (.int 1))) (fT)) (iI (ai 0) (fT) (kM (fC (.int 1))))))) (bI)) z3)
def z1:ca:=(aE (eY (dQ [0] (nB (fB (f2 dL (ai 6) (fC (.int 1)))) (fB (f2 Ba (fL fW (af (ai 0) (au))) (fC (.int 1)))))) (uz 0 pC (af (ai 4) (au))) (bI)) z2)
def z0:ca:=(aE (eY (dQ [0] (nB (fB (f2 dL (ai 6) (fC (.int 0)))) (fB (f2 Ba (fL fW (af (ai 0) (au))) (fC (.int 1)))))) (uz 0 AH au) (bI)) z1)
theorem hB:dS=aE (lm 0 (fL pH (af (ai 0) (au)))) (aE (bi 4 (sL [0] (f2 bN (f2 cx (ai 2) (fC (.int 8))) (fL fW (af (ai 0) (au)))))) (aE (bi 5 (f2 aw (j6 0 (ai 4)) (fC (.int 1)))) (aE (bi 6 (f2 bN (ai 2) (fC (.int 8)))) z0))):=rfl
section
variable {k:KL}
theorem qG (x1 x2 x3 x4 x5 x6 x7:Option S) (k:KL):zE K0 [some (.own (.lst (k.map kf))),x1,x2,x3,x4,x5,x6,x7]=.ok (.tup (k.map kf)):=by
 unfold zE
 simp! only []
theorem wX (x1 x2 x3 x4 x5 x7:Option S) (w:Int) (hw:(w==5)=false) (k:KL):z5 K0 [some (.own (.lst (k.map kf))),x1,x2,x3,x4,x5,some (.val (.int w)),x7]=zE K0 [some (.own (.lst (k.map kf))),x1,x2,x3,x4,x5,some (.val (.int w)),x7]:=by
 unfold z5
 simp! only [hw]
theorem wx (x1 x2 x3 x4 x5 x7:Option S) (w:Int) (hw:(w==4)=false) (k:KL):z4 K0 [some (.own (.lst (k.map kf))),x1,x2,x3,x4,x5,some (.val (.int w)),x7]=z5 K0 [some (.own (.lst (k.map kf))),x1,x2,x3,x4,x5,some (.val (.int w)),x7]:=by
 unfold z4
 simp! only [hw]
theorem vY (x1 x2 x3 x4 x5 x7:Option S) (w:Int) (hw:(w==3)=false) (k:KL):z3 K0 [some (.own (.lst (k.map kf))),x1,x2,x3,x4,x5,some (.val (.int w)),x7]=z4 K0 [some (.own (.lst (k.map kf))),x1,x2,x3,x4,x5,some (.val (.int w)),x7]:=by
 unfold z3
 simp! only [hw]
theorem vT (x1 x2 x3 x4 x5 x7:Option S) (w:Int) (hw:(w==2)=false) (k:KL):z2 K0 [some (.own (.lst (k.map kf))),x1,x2,x3,x4,x5,some (.val (.int w)),x7]=z3 K0 [some (.own (.lst (k.map kf))),x1,x2,x3,x4,x5,some (.val (.int w)),x7]:=by
 unfold z2
 simp! only [hw]
theorem wD (x1 x2 x3 x4 x5 x7:Option S) (w:Int) (hw:(w==1)=false) (k:KL):z1 K0 [some (.own (.lst (k.map kf))),x1,x2,x3,x4,x5,some (.val (.int w)),x7]=z2 K0 [some (.own (.lst (k.map kf))),x1,x2,x3,x4,x5,some (.val (.int w)),x7]:=by
 unfold z1
 simp! only [cQ,kF,hw]
theorem rj (x1 x2 x3 x4 x5 x7:Option S) (w:Int) (hw:(w==0)=false) (k:KL):z0 K0 [some (.own (.lst (k.map kf))),x1,x2,x3,x4,x5,some (.val (.int w)),x7]=z1 K0 [some (.own (.lst (k.map kf))),x1,x2,x3,x4,x5,some (.val (.int w)),x7]:=by
 unfold z0
 simp! only [cQ,kF,hw]
theorem e5 (x1 x2 x3 x4 x5 x7:Option S) (w:Int) (h5:(w==5)=false) (k:KL):z5 K0 [some (.own (.lst (k.map kf))),x1,x2,x3,x4,x5,some (.val (.int w)),x7]=.ok (.tup (k.map kf)):=by
 rw [wX _ _ _ _ _ _ _ h5]
 exact qG _ _ _ _ _ _ _ _
theorem e4 (x1 x2 x3 x4 x5 x7:Option S) (w:Int) (h4:(w==4)=false) (h5:(w==5)=false) (k:KL):z4 K0 [some (.own (.lst (k.map kf))),x1,x2,x3,x4,x5,some (.val (.int w)),x7]=.ok (.tup (k.map kf)):=by
 rw [wx _ _ _ _ _ _ _ h4,wX _ _ _ _ _ _ _ h5]
 exact qG _ _ _ _ _ _ _ _
theorem e3 (x1 x2 x3 x4 x5 x7:Option S) (w:Int) (h3:(w==3)=false) (h4:(w==4)=false) (h5:(w==5)=false) (k:KL):z3 K0 [some (.own (.lst (k.map kf))),x1,x2,x3,x4,x5,some (.val (.int w)),x7]=.ok (.tup (k.map kf)):=by
 rw [vY _ _ _ _ _ _ _ h3,wx _ _ _ _ _ _ _ h4,wX _ _ _ _ _ _ _ h5]
 exact qG _ _ _ _ _ _ _ _
theorem e2 (x1 x2 x3 x4 x5 x7:Option S) (w:Int) (h2:(w==2)=false) (h3:(w==3)=false) (h4:(w==4)=false) (h5:(w==5)=false) (k:KL):z2 K0 [some (.own (.lst (k.map kf))),x1,x2,x3,x4,x5,some (.val (.int w)),x7]=.ok (.tup (k.map kf)):=by
 rw [vT _ _ _ _ _ _ _ h2,vY _ _ _ _ _ _ _ h3,wx _ _ _ _ _ _ _ h4,wX _ _ _ _ _ _ _ h5]
 exact qG _ _ _ _ _ _ _ _
theorem e1 (x1 x2 x3 x4 x5 x7:Option S) (w:Int) (h1:(w==1)=false) (h2:(w==2)=false) (h3:(w==3)=false) (h4:(w==4)=false) (h5:(w==5)=false) (k:KL):z1 K0 [some (.own (.lst (k.map kf))),x1,x2,x3,x4,x5,some (.val (.int w)),x7]=.ok (.tup (k.map kf)):=by
 rw [wD _ _ _ _ _ _ _ h1,vT _ _ _ _ _ _ _ h2,vY _ _ _ _ _ _ _ h3,wx _ _ _ _ _ _ _ h4,wX _ _ _ _ _ _ _ h5]
 exact qG _ _ _ _ _ _ _ _
theorem y5 {k0:KL} (F0:KO k0) (F:KO k) (x2 x3 x5 x7:Option S) (a:Nat) (ha:a < k.length):∃ k',KO k'/\z5 K0 [some (.own (.lst (k.map kf))),some (.val (.tup (k0.map kf))),x2,x3,some (.val (.int a)),x5,some (.val (.int 5)),x7]=.ok (.tup (k'.map kf)):=by
 have k1:=F0.k1
 have s5:((5:Int)==5)=true:=rfl
 have gl:=fun i=>bz (i:=i) (show (0:Int) < (k0.length:Int) by omega)
 have y1:=OO (a:Int) (show (k0.length:Int)≠0 by omega)
 have y2:=OQ (a:Int) (show (0:Int) < (k0.length:Int) by omega)
 obtain⟨p,hp,ep⟩:∃ p∈k0,aw (.tup (k0.map kf)) (.int ((a:Int)%(k0.length:Int)))=some (kf p):=by
  refine⟨k0[((a:Int)%(k0.length:Int)).toNat]'‹0›,Ou _,?_⟩
  rw [Kj,lO,nX y1 y2]; rfl
 have p1:aw (kf p) (.int 1)=some p.2.d:=rfl
 have at1:=DW ha
 have a0:aw (kf k[a]) (.int 0)=some (.str k[a].1):=rfl
 have sa:a < (k.set a (k[a].1,Kd.wrd ["zzzzzzz"])).length:=by rw [Nf]; exact ha
 have at2:=DW sa
 rw [List.getElem_set_self] at at2
 have b0:aw (kf (k[a].1,Kd.wrd ["zzzzzzz"])) (.int 0)=some (.str k[a].1):=rfl
 have F2:KO (k.set a (k[a].1,Kd.wrd ["zzzzzzz"])):=F.set (by show (["zzzzzzz"]:List Str).length<=100; simp)
 have io:=HW (i:=0) (fk:=ai 4) (ρ:=[some (.own (.lst (k.map kf))),some (.val (.tup (k0.map kf))),x2,x3,some (.val (.int a)),x5,some (.val (.int 5)),some (.val p.2.d)]) rfl rfl at1
 have pu:=fun K:Ks=>vP (i:=0) (fi:=ai 4) (k:=K) (fv:=(bb (af (f2 aw (j6 0 (ai 4)) (fC (.int 0))) (af (bb (af (fC (.str "word")) (af (bb (af (fC (.str "zzzzzzz")) (au))) (au)))) (au))))) (ρ:=[some (.own (.lst (k.map kf))),some (.val (.tup (k0.map kf))),x2,x3,some (.val (.int a)),x5,some (.val (.int 5)),some (.val p.2.d)]) (xs:=k.map kf) (v:=kf (k[a].1,Kd.wrd ["zzzzzzz"])) rfl (by simp! only [io,a0,Lz,mR]; rfl) rfl (qq (by rw [MV]; exact ha))
 rw [uC] at pu
 have s0:=Cm p.2
 cases hp2:p.2 with
 | wrd ws =>
  refine⟨_,F2,?_⟩
  rw [hp2] at p1 s0 pu
  have s1:((Kd.wrd ws).srt==("number":Str))=false:=vy
  have fin:=qG (some (.val (.tup (k0.map kf)))) x2 x3 (some (.val (.int a))) x5 (some (.val (.int 5))) (some (.val (Kd.wrd ws).d)) (k.set a (k[a].1,Kd.wrd ["zzzzzzz"]))
  unfold z5
  generalize (k.set a (k[a].1,Kd.wrd ["zzzzzzz"])).map kf=Y at pu fin
  generalize (Kd.wrd ws).d=W at p1 s0 pu fin
  simp! only [s5,MV,gl,ep,p1,pu,s0,s1]
  exact fin
 | num lo hi =>
  rw [hp2] at p1 s0 pu
  have s1:((Kd.num lo hi).srt==("number":Str))=true:=uP
  have io2:=HW (i:=0) (fk:=ai 4) (ρ:=[some (.own (.lst ((k.set a (k[a].1,Kd.wrd ["zzzzzzz"])).map kf))),some (.val (.tup (k0.map kf))),x2,x3,some (.val (.int a)),x5,some (.val (.int 5)),some (.val (Kd.num lo hi).d)]) rfl rfl at2
  have p2:aw (Kd.num lo hi).d (.int 2)=some (.int hi):=rfl
  have pu2:=fun K:Ks=>vP (i:=0) (fi:=ai 4) (k:=K) (fv:=(bb (af (f2 aw (j6 0 (ai 4)) (fC (.int 0))) (af (bb (af (fC (.str "number")) (af (f2 bD (f2 aw (ai 7) (fC (.int 2))) (fC (.int 1))) (af (f2 bD (f2 aw (ai 7) (fC (.int 2))) (fC (.int 3))) (au))))) (au))))) (ρ:=[some (.own (.lst ((k.set a (k[a].1,Kd.wrd ["zzzzzzz"])).map kf))),some (.val (.tup (k0.map kf))),x2,x3,some (.val (.int a)),x5,some (.val (.int 5)),some (.val (Kd.num lo hi).d)]) (xs:=(k.set a (k[a].1,Kd.wrd ["zzzzzzz"])).map kf) (v:=kf (k[a].1,Kd.num (hi+1) (hi+3))) rfl (by
   generalize (Kd.num lo hi).d=W at io2 p2
   simp! only [io2,b0,p2,AI,mR]; rfl) rfl (qq (by rw [MV]; exact sa))
  rw [uC] at pu2
  refine⟨_,F2.set (a:=a) (p:=(k[a].1,Kd.num (hi+1) (hi+3))) trivial,?_⟩
  have fin:=qG (some (.val (.tup (k0.map kf)))) x2 x3 (some (.val (.int a))) x5 (some (.val (.int 5))) (some (.val (Kd.num lo hi).d)) ((k.set a (k[a].1,Kd.wrd ["zzzzzzz"])).set a (k[a].1,Kd.num (hi+1) (hi+3)))
  unfold z5
  generalize ((k.set a (k[a].1,Kd.wrd ["zzzzzzz"])).set a (k[a].1,Kd.num (hi+1) (hi+3))).map kf=Y2 at pu2 fin
  generalize (k.set a (k[a].1,Kd.wrd ["zzzzzzz"])).map kf=Y at pu pu2
  generalize (Kd.num lo hi).d=W at p1 s0 pu pu2 fin
  simp! only [s5,MV,gl,ep,p1,pu,s0,s1,pu2]
  exact fin
theorem y4 (F:KO k) (x1 x2 x3 x7:Option S) (c:Kd) (a:Nat) (ha:a < k.length):∃ k',KO k'/\z4 K0 [some (.own (.lst (k.map kf))),x1,x2,x3,some (.val (.int a)),some (.val c.d),some (.val (.int 4)),x7]=.ok (.tup (k'.map kf)):=by
 have s4:((4:Int)==4)=true:=rfl
 have at1:=DW ha
 have a0:aw (kf k[a]) (.int 0)=some (.str k[a].1):=rfl
 have a2:=Cm c
 have io:=HW (i:=0) (fk:=ai 4) (ρ:=[some (.own (.lst (k.map kf))),x1,x2,x3,some (.val (.int a)),some (.val c.d),some (.val (.int 4)),x7]) rfl rfl at1
 have l2:∀ a b:D,ia [a,b]=some (.lst [a,b]):=fun _ _=>nr rfl
 obtain⟨c',ok,ec⟩:∃ c':Kd,c'.ok/\f2 aw (dN (af (bb (af (fC (.str "number")) (af (fC (.int 0)) (af (fC (.int 9)) (au))))) (af (bb (af (fC (.str "word")) (af (bb (af (fC (.str "")) (af (fC (.str "a")) (au)))) (au)))) (au)))) (fL pI (af (f2 dL (f2 aw (ai 5) (fC (.int 0))) (fC (.str "number"))) (au))) [some (.own (.lst (k.map kf))),x1,x2,x3,some (.val (.int a)),some (.val c.d),some (.val (.int 4)),x7]=.ok c'.d:=by
  cases hs:(c.srt==("number":Str)) with
  | true =>
   refine⟨.wrd ["","a"],by show (["","a"]:List Str).length<=100; simp,?_⟩
   have i1:pI [.bl true]=some (.int 1):=rfl
   have ix:aw (.lst [.tup [.str "number",.int 0,.int 9],.tup [.str "word",.tup [.str "",.str "a"]]]) (.int 1)=some (Kd.wrd ["","a"]).d:=rfl
   simp! only [a2,hs,AI,mR,l2,i1,ix]
  | false =>
   refine⟨.num 0 9,trivial,?_⟩
   have i1:pI [.bl false]=some (.int 0):=rfl
   have ix:aw (.lst [.tup [.str "number",.int 0,.int 9],.tup [.str "word",.tup [.str "",.str "a"]]]) (.int 0)=some (Kd.num 0 9).d:=rfl
   simp! only [a2,hs,AI,mR,l2,i1,ix]
 refine⟨k.set a (k[a].1,c'),F.set ok,?_⟩
 generalize hG:f2 aw (dN (af (bb (af (fC (.str "number")) (af (fC (.int 0)) (af (fC (.int 9)) (au))))) (af (bb (af (fC (.str "word")) (af (bb (af (fC (.str "")) (af (fC (.str "a")) (au)))) (au)))) (au)))) (fL pI (af (f2 dL (f2 aw (ai 5) (fC (.int 0))) (fC (.str "number"))) (au)))=G at ec
 have pu:=fun K:Ks=>vP (i:=0) (fi:=ai 4) (k:=K) (fv:=(bb (af (f2 aw (j6 0 (ai 4)) (fC (.int 0))) (af G (au))))) (ρ:=[some (.own (.lst (k.map kf))),x1,x2,x3,some (.val (.int a)),some (.val c.d),some (.val (.int 4)),x7]) (xs:=k.map kf) (v:=kf (k[a].1,c')) rfl (by simp! only [io,a0,ec,mR]; rfl) rfl (qq (by rw [MV]; exact ha))
 unfold z4
 rw [hG]
 simp! only [s4,pu,uC]
 exact e5 _ _ _ _ _ _ 4 rfl _
theorem y3 (F:KO k) (x1 x2 x7:Option S) (sp:Str) (c:Kd) (hc:c.ok) (a:Nat) (ha:a < k.length):∃ k',KO k'/\z3 K0 [some (.own (.lst (k.map kf))),x1,x2,some (.val (.str sp)),some (.val (.int a)),some (.val c.d),some (.val (.int 3)),x7]=.ok (.tup (k'.map kf)):=by
 have s3:((3:Int)==3)=true:=rfl
 refine⟨k.set a (sp,c),F.set hc,?_⟩
 have pu:=fun K:Ks=>vP (i:=0) (fi:=ai 4) (k:=K) (fv:=(bb (af (ai 3) (af (ai 5) (au))))) (ρ:=[some (.own (.lst (k.map kf))),x1,x2,some (.val (.str sp)),some (.val (.int a)),some (.val c.d),some (.val (.int 3)),x7]) (xs:=k.map kf) (v:=kf (sp,c)) rfl (by simp! only [mR]; rfl) rfl (qq (by rw [MV]; exact ha))
 unfold z3
 simp! only [s3,pu,uC]
 exact e4 _ _ _ _ _ _ 3 rfl rfl _
theorem y2 (F:KO k) (x1 x2 x3 x4 x5 x7:Option S):∃ k',KO k'/\z2 K0 [some (.own (.lst (k.map kf))),x1,x2,x3,x4,x5,some (.val (.int 2)),x7]=.ok (.tup (k'.map kf)):=by
 have s2:((2:Int)==2)=true:=rfl
 have k1:=F.k1
 have k8:=F.k8
 have c1:cutD (k.map kf) (some (1:Int)) none=(k.drop 1).map kf:=by
  have:=qF (k.map kf) 1
  rw [OW]; exact this
 have c2:cutD (k.map kf) none (some (1:Int))=(k.take 1).map kf:=by
  have:=C8 (k.map kf) 1
  rw [OV]; exact this
 have ad:=Ef ((k.drop 1).map kf) ((k.take 1).map kf) (by rw [MV,MV,Nb,M2]; omega)
 rw [<- NS] at ad
 have pk:=HM (CA (k.drop 1++k.take 1))
 refine⟨k.drop 1++k.take 1,⟨by rw [M8,Nb,M2]; omega,by rw [M8,Nb,M2]; omega,fun p hp=>?_⟩,?_⟩
 ·rcases List.mem_append.mp hp with z | z
  ·exact F.ok p (List.mem_of_mem_drop z)
  ·exact F.ok p (List.mem_of_mem_take z)
 ·have fin:=e3 x1 x2 x3 x4 x5 x7 2 rfl rfl rfl (k.drop 1++k.take 1)
  unfold z2
  generalize (k.drop 1++k.take 1).map kf=Y at ad pk fin
  simp! only [s2,Fy,kF,c1,c2,ad,pk]
  exact fin
theorem y1 (F:KO k) (x1 x2 x3 x5 x7:Option S) (a:Nat) (ha:a < k.length):∃ k',KO k'/\z1 K0 [some (.own (.lst (k.map kf))),x1,x2,x3,some (.val (.int a)),x5,some (.val (.int 1)),x7]=.ok (.tup (k'.map kf)):=by
 have s1:((1:Int)==1)=true:=rfl
 have k8:=F.k8
 cases hl:decide ((1:Int) < (k.length:Int)) with
 | false =>
  refine⟨k,F,?_⟩
  unfold z1
  simp! only [cQ,kF,s1,MV,hl]
  exact e2 _ _ _ _ _ _ 1 rfl rfl rfl rfl _
 | true =>
  have lt:=of_decide_eq_true hl
  have le:=List.length_eraseIdx_of_lt ha
  refine⟨k.eraseIdx a,⟨by omega,by omega,fun p hp=>F.ok p (List.mem_of_mem_eraseIdx hp)⟩,?_⟩
  have ap:pC (k.map kf) [.int a]=some ((k.eraseIdx a).map kf):=by
   show (if decide ((0:Int)<=(a:Int)/\(a:Int) < ((k.map kf).length:Int)) && small (k.map kf).length then some ((k.map kf).eraseIdx (a:Int).toNat) else none)=_
   rw [MV,decide_eq_true ‹0›,dW ‹0›,M9,OA,OA,NS,OV,OW]; rfl
  have sm:=fun K:Ks=>mY 0 pC (af (ai 4) (au)) K [some (.own (.lst (k.map kf))),x1,x2,x3,some (.val (.int a)),x5,some (.val (.int 1)),x7] (xs:=k.map kf) rfl
  unfold z1
  simp! only [cQ,kF,s1,MV,hl,sm,ap]
  exact e2 _ _ _ _ _ _ 1 rfl rfl rfl rfl _
theorem y0 (F:KO k) (x1 x2 x3 x4 x5 x7:Option S):∃ k',KO k'/\z0 K0 [some (.own (.lst (k.map kf))),x1,x2,x3,x4,x5,some (.val (.int 0)),x7]=.ok (.tup (k'.map kf)):=by
 have s0:((0:Int)==0)=true:=rfl
 have k8:=F.k8
 cases hl:decide ((1:Int) < (k.length:Int)) with
 | false =>
  refine⟨k,F,?_⟩
  unfold z0
  simp! only [cQ,kF,s0,MV,hl]
  exact e1 _ _ _ _ _ _ 0 rfl rfl rfl rfl rfl _
 | true =>
  have lt:=of_decide_eq_true hl
  refine⟨k.dropLast,⟨by rw [Nj]; omega,by rw [Nj]; omega,fun p hp=>F.ok p (List.dropLast_sublist k |>.subset hp)⟩,?_⟩
  have ap:AH (k.map kf) []=some (k.dropLast.map kf):=by
   show (if (k.map kf).isEmpty then none else some (k.map kf).dropLast)=_
   rw [if_neg,List.map_dropLast]
   cases k with
   | nil=>simp at lt
   | cons _ _=>simp
  have sm:=fun K:Ks=>mY 0 AH au K [some (.own (.lst (k.map kf))),x1,x2,x3,x4,x5,some (.val (.int 0)),x7] (xs:=k.map kf) rfl
  unfold z0
  simp! only [cQ,kF,s0,MV,hl,sm,ap]
  exact e1 _ _ _ _ _ _ 0 rfl rfl rfl rfl rfl _
end
theorem xq {k0 k:KL} (F0:KO k0) (F:KO k) (x:Int) (sp:Str):∃ k',KO k'/\bv dS 4 8 [.tup (k.map kf),.tup (k0.map kf),.int x,.str sp]=.ok (.tup (k'.map kf)):=by
 have k1:=F.k1
 have k8:=F.k8
 have g8:=fun i=>bz (i:=i) (show (0:Int) < 8 by decide)
 have gl:=fun i=>bz (i:=i) (show (0:Int) < (k.length:Int) by omega)
 have d8:=fun i=>bO (i:=i) (show (0:Int) < 8 by decide) (show (8:Int) < 10 ^ 200 by decide)
 have lfi:∀ i:Int,lf (.int i)=true:=fun _=>rfl
 have q1:=OO (x / 8) (show (k.length:Int)≠0 by omega)
 have q2:=OQ (x / 8) (show (0:Int) < (k.length:Int) by omega)
 obtain⟨a,ha,ea⟩:∃ a:Nat,a < k.length/\x / 8%(k.length:Int)=(a:Int):=⟨(x / 8%(k.length:Int)).toNat,by omega,by omega⟩
 have at1:=DW ha
 have a1:aw (kf k[a]) (.int 1)=some k[a].2.d:=rfl
 have hc:=F.ok _ (Ou ha)
 generalize k[a].2=c at a1 hc
 have io:=HW (i:=0) (fk:=ai 4) (ρ:=[some (.own (.lst (k.map kf))),some (.val (.tup (k0.map kf))),some (.val (.int x)),some (.val (.str sp)),some (.val (.int a)),none,none,none]) rfl rfl at1
 have key:∃ k',KO k'/\z0 K0 [some (.own (.lst (k.map kf))),some (.val (.tup (k0.map kf))),some (.val (.int x)),some (.val (.str sp)),some (.val (.int a)),some (.val c.d),some (.val (.int (x%8))),none]=.ok (.tup (k'.map kf)):=by
  rcases(show x%8=0\/x%8=1\/x%8=2\/x%8=3\/x%8=4\/x%8=5\/x%8=6\/x%8=7 by omega) with h | h | h | h | h | h | h | h <;> rw [h]
  ·exact y0 F _ _ _ _ _ _
  ·obtain⟨k',f,e⟩:=y1 F (some (.val (.tup (k0.map kf)))) (some (.val (.int x))) (some (.val (.str sp))) (some (.val c.d)) none a ha
   exact⟨k',f,by rw [rj _ _ _ _ _ _ _ rfl]; exact e⟩
  ·obtain⟨k',f,e⟩:=y2 F (some (.val (.tup (k0.map kf)))) (some (.val (.int x))) (some (.val (.str sp))) (some (.val (.int a))) (some (.val c.d)) none
   exact⟨k',f,by rw [rj _ _ _ _ _ _ _ rfl,wD _ _ _ _ _ _ _ rfl]; exact e⟩
  ·obtain⟨k',f,e⟩:=y3 F (some (.val (.tup (k0.map kf)))) (some (.val (.int x))) none sp c hc a ha
   exact⟨k',f,by rw [rj _ _ _ _ _ _ _ rfl,wD _ _ _ _ _ _ _ rfl,vT _ _ _ _ _ _ _ rfl]; exact e⟩
  ·obtain⟨k',f,e⟩:=y4 F (some (.val (.tup (k0.map kf)))) (some (.val (.int x))) (some (.val (.str sp))) none c a ha
   exact⟨k',f,by rw [rj _ _ _ _ _ _ _ rfl,wD _ _ _ _ _ _ _ rfl,vT _ _ _ _ _ _ _ rfl,vY _ _ _ _ _ _ _ rfl]; exact e⟩
  ·obtain⟨k',f,e⟩:=y5 F0 F (some (.val (.int x))) (some (.val (.str sp))) (some (.val c.d)) none a ha
   exact⟨k',f,by rw [rj _ _ _ _ _ _ _ rfl,wD _ _ _ _ _ _ _ rfl,vT _ _ _ _ _ _ _ rfl,vY _ _ _ _ _ _ _ rfl,wx _ _ _ _ _ _ _ rfl]; exact e⟩
  ·exact⟨k,F,by rw [rj _ _ _ _ _ _ _ rfl]; exact e1 _ _ _ _ _ _ 6 rfl rfl rfl rfl rfl _⟩
  ·exact⟨k,F,by rw [rj _ _ _ _ _ _ _ rfl]; exact e1 _ _ _ _ _ _ 7 rfl rfl rfl rfl rfl _⟩
 obtain⟨k',f,e⟩:=key
 refine⟨k',f,?_⟩
 simp only [K0] at e
 rw [Cj,hB]
 simp! only [BK,Ik,kF,d8,MV,gl,ea,lfi,io,a1,g8,e]
def mE:ca:=(iS 0 (bT (fL cg (af (ai 0) (au)))))
def mP:ca:=(aE (eY (dQ [0] (nB (fB (f2 Ba (fL fW (af (ai 0) (au))) (fC (.int 0)))) (fB (f2 dL (f2 bN (f2 cx (ai 3) (fC (.int 72))) (fC (.int 2))) (fC (.int 1)))))) (iN 0 (pZ (fC (.int 1))) (bb (af (f2 aw (j6 0 (pZ (fC (.int 1)))) (fC (.int 0))) (af (ai 5) (au))))) (bI)) mE)
def mL:ca:=(aE (jj (dz (af (f2 bN (f2 cx (ai 3) (fC (.int 18))) (fC (.int 4))) (au))) (gN 6) (aE (bi 7 (bb (af (bb (af (bb (af (fR (bv aK 2 7) (af (ai 2) (af (ai 6) (au)))) (af (bb (af (fC (.str "number")) (af (fC (.int 0)) (af (fC (.int 3)) (au))))) (au)))) (au))) (af (bb (af (bb (af (fR (bv aK 2 7) (af (ai 2) (af (fC (.int 9)) (au)))) (af (ai 5) (au)))) (au))) (au))))) (aE (bi 5 (bb (af (fC (.str "rows")) (af (ai 7) (af (f2 dL (f2 bN (ai 6) (fC (.int 2))) (fC (.int 0))) (au)))))) (cI [6,7] bI)))) mP)
def mT:ca:=(aE (bi 5 (bb (af (fC (.str "word")) (af (bb (af (fC (.str "a")) (af (fC (.str "b")) (au)))) (au))))) (cI [1,4] mL))
theorem hM:fg=aE (lm 0 (fL pH (af (ai 0) (au)))) (aE (jj (bC (ai 1)) (gN 4) (aE (eY (dQ [0] (nB (fB (f2 sr (fL fW (af (ai 0) (au))) (fC (.int 8)))) (nB (fB (f2 dL (f2 bN (f2 cx (ai 3) (fC (.int 9))) (fC (.int 2))) (fC (.int 0)))) (fB (f2 jl (ai 4) (iW [none,none] (bC (ai 0)) (gT 2 (e7 [0,1])) (cW) (ai 0))))))) (uz 0 jV (af (bb (af (ai 4) (af (bb (af (fC (.str "number")) (af (fC (.int 0)) (af (f2 bN (ai 3) (fC (.int 9))) (au))))) (au)))) (au))) (bI)) (cI [4,5] bI))) mT):=rfl
theorem RO.snoc {r:List (Str×D)} (F:RO r) (h:r.length < 8) {p:Str×D} (hp:K3 3 p.2):RO (r++[p]):=⟨by rw [M8,Nh]; omega,fun z hz=>by
 rcases List.mem_append.mp hz with y | y
 ·exact F.rk z y
 ·rw [List.mem_singleton.mp y]; exact hp⟩
theorem IW {r:List (Str×D)} (F:RO r) (x1 x2 x4 x6 x7:Option S) (x:Int) (d:D) (hd:K3 3 d):∃ r',RO r'/\mP K0 [some (.own (.lst (r.map fld))),x1,x2,some (.val (.int x)),x4,some (.val d),x6,x7]=.ok (.tup (r'.map fld)):=by
 have g2:=fun i=>bz (i:=i) (show (0:Int) < 2 by decide)
 have d72:=fun i=>bO (i:=i) (show (0:Int) < 72 by decide) (show (72:Int) < 10 ^ 200 by decide)
 have fin:∀ r:List (Str×D),mE K0 [some (.own (.lst (r.map fld))),x1,x2,some (.val (.int x)),x4,some (.val d),x6,x7]=.ok (.tup (r.map fld)):=fun r=>by
  unfold mE
  simp! only []
 cases h1:decide ((0:Int) < (r.length:Int)) with
 | false =>
  refine⟨r,F,?_⟩
  unfold mP
  simp! only [cQ,kF,MV,h1]
  exact fin r
 | true =>
  cases h2:(x / 72%2==1) with
  | false =>
   refine⟨r,F,?_⟩
   unfold mP
   simp! only [cQ,kF,MV,h1,d72,g2,h2]
   exact fin r
  | true =>
   obtain⟨s,p,rfl⟩:∃ s p,r=s++[p]:=by
    have lt:=of_decide_eq_true h1
    refine⟨r.dropLast,r.getLast (fun z=>by rw [z] at lt; simp at lt),?_⟩
    exact(List.dropLast_concat_getLast _).symm
   have F8:=F.r8
   rw [M8,Nh] at F8
   have at1:aw (.lst ((s++[p]).map fld)) (.int (-1))=some (fld p):=by
    rw [xS,NS]; exact Eo _ _
   have p0:aw (fld p) (.int 0)=some (.str p.1):=rfl
   have io:=HW (i:=0) (fk:=pZ (fC (.int 1))) (ρ:=[some (.own (.lst ((s++[p]).map fld))),x1,x2,some (.val (.int x)),x4,some (.val d),x6,x7]) (j:=-1) rfl rfl at1
   have ixl:uy ((s++[p]).map fld).length (-1)=some s.length:=by
    unfold uy
    rw [if_neg (by decide),MV,M8,Nh,if_pos ‹0›]
    congr 1; omega
   have pu:=fun K:Ks=>vP (i:=0) (fi:=pZ (fC (.int 1))) (k:=K) (fv:=(bb (af (f2 aw (j6 0 (pZ (fC (.int 1)))) (fC (.int 0))) (af (ai 5) (au))))) (ρ:=[some (.own (.lst ((s++[p]).map fld))),x1,x2,some (.val (.int x)),x4,some (.val d),x6,x7]) (xs:=(s++[p]).map fld) (v:=fld (p.1,d)) rfl (by simp! only [io,p0,mR]) rfl ixl
   have es:((s++[p]).map fld).set s.length (fld (p.1,d))=(s++[(p.1,d)]).map fld:=by
    rw [NS,NS,List.set_append_right _ _ (by rw [MV]; exact MO _),MV,Od]; rfl
   rw [es] at pu
   refine⟨s++[(p.1,d)],⟨by rw [M8,Nh]; omega,fun z hz=>?_⟩,?_⟩
   ·rcases List.mem_append.mp hz with y | y
    ·exact F.rk z (MK _ y)
    ·rw [List.mem_singleton.mp y]; exact hd
   ·have fin:=fin (s++[(p.1,d)])
    unfold mP
    generalize (s++[(p.1,d)]).map fld=Y at pu fin
    simp! only [cQ,kF,MV,h1,d72,g2,h2,pu]
    exact fin
theorem HA {r:List (Str×D)} (F:RO r) (x1 x4:Option S) (b:Int) (hb:0<=b) (x:Int):∃ r',RO r'/\mL K0 [some (.own (.lst (r.map fld))),x1,some (.val (.int b)),some (.val (.int x)),x4,some (.val (.tup [.str "word",.tup [.str "a",.str "b"]])),none,none]=.ok (.tup (r'.map fld)):=by
 have g2:=fun i=>bz (i:=i) (show (0:Int) < 2 by decide)
 have g4:=fun i=>bz (i:=i) (show (0:Int) < 4 by decide)
 have d18:=fun i=>bO (i:=i) (show (0:Int) < 18 by decide) (show (18:Int) < 10 ^ 200 by decide)
 obtain⟨n,hn,en⟩:∃ n:Nat,n<=3/\x / 18%4=(n:Int):=⟨(x / 18%4).toNat,by omega,by omega⟩
 have rn:=fe n ‹0›
 obtain⟨n9,e9,_⟩:=j9 b 9 hb (by decide)
 unfold mL
 simp! only [d18,g4,en,rn]
 refine ig (Q:=fun z=>∃ r',RO r'/\z=.ok (.tup (r'.map fld))) (fun j ρ=>∃ d:D,K3 j d/\ρ=[some (.own (.lst (r.map fld))),x1,some (.val (.int b)),some (.val (.int x)),x4,some (.val d),none,none]) ?_ ⟨_,oi (.wrd ["a","b"]),rfl⟩ ?_
 ·rintro j d ρ K hd ⟨kd,hk,rfl⟩
  have hj:=fj hd
  rw [cj] at hj
  have hdi:d=.int (j:Int):=by
   rw [fu,M6,NW hj] at hd
   cases hd; simp
  subst hdi
  obtain⟨nj,ej,_⟩:=j9 b (j:Int) hb ‹0›
  refine⟨_,_,rfl,⟨.tup [.str "rows",fm [(nj,.tup [.str "number",.int 0,.int 3])] [(n9,kd)],.bl ((j:Int)%2==0)],.inr ⟨_,_,_,rfl,by simp,by simp,fun p hp=>?_,fun p hp=>?_⟩,rfl⟩,?_⟩
  ·rw [List.mem_singleton.mp hp]; exact oi (.num 0 3)
  ·rw [List.mem_singleton.mp hp]; exact hk
  ·simp! only [ej,e9,Lz,mR,AI,g2]
   rfl
 ·rintro ρ' ⟨d,hk,rfl⟩
  rw [cj] at hk
  exact IW F x1 (some (.val (.int b))) x4 none none x d (yW hn hk)
theorem zk {r:List (Str×D)} (F:RO r) (b:Int) (hb:0<=b) (x:Int) (ws:List Str):∃ r',RO r'/\bv fg 4 8 [.tup (r.map fld),.lst (ws.map .str),.int b,.int x]=.ok (.tup (r'.map fld)):=by
 have g2:=fun i=>bz (i:=i) (show (0:Int) < 2 by decide)
 have g9:=fun i=>bz (i:=i) (show (0:Int) < 9 by decide)
 have d9:=fun i=>bO (i:=i) (show (0:Int) < 9 by decide) (show (9:Int) < 10 ^ 200 by decide)
 rw [Cj,hM]
 simp! only [BK]
 refine ig (Q:=fun z=>∃ r',RO r'/\z=.ok (.tup (r'.map fld))) (fun j ρ=>∃ r':List (Str×D),RO r'/\ρ=[some (.own (.lst (r'.map fld))),some (.val (.lst (ws.map .str))),some (.val (.int b)),some (.val (.int x)),none,none,none,none]) ?_ ⟨r,F,rfl⟩ ?_
 ·rintro j d ρ K hd ⟨r',F',rfl⟩
  obtain⟨w,hw⟩:∃ w:Str,d=.str w:=by
   rw [M6] at hd
   cases h:ws[j]? with
   | none=>rw [h] at hd; cases hd
   | some w=>rw [h] at hd; cases hd; exact⟨w,rfl⟩
  subst hw
  have r8:=F'.r8
  have nl:=q5 [some (.val (.lst (r'.map fld))),some (.val (.lst (ws.map .str))),some (.val (.int b)),some (.val (.int x)),some (.val (.str w)),none,none,none] (bC (ai 0)) r' (by simp! only []) ‹0›
  have ni:=uD w (r'.map (·.1))
  cases h1:decide ((r'.length:Int) < 8) with
  | false =>
   refine⟨_,_,rfl,⟨r',F',rfl⟩,?_⟩
   simp! only [cQ,kF,MV,h1]
  | true =>
   cases h2:(x / 9%2==0) with
   | false =>
    refine⟨_,_,rfl,⟨r',F',rfl⟩,?_⟩
    simp! only [cQ,kF,MV,h1,d9,g2,h2]
   | true =>
    cases h3:(!(r'.map (·.1)).contains w) with
    | false =>
     rw [h3] at ni
     refine⟨_,_,rfl,⟨r',F',rfl⟩,?_⟩
     simp! only [cQ,kF,MV,h1,d9,g2,h2,nl,ni]
    | true =>
     rw [h3] at ni
     have lt:=of_decide_eq_true h1
     refine⟨_,_,rfl,⟨r'++[(w,.tup [.str "number",.int 0,.int (x%9)])],F'.snoc ‹0› (yW (MY 3) (oi (.num 0 (x%9)))),rfl⟩,?_⟩
     have ap:jV (r'.map fld) [.tup [.str w,.tup [.str "number",.int 0,.int (x%9)]]]=some ((r'++[(w,D.tup [.str "number",.int 0,.int (x%9)])]).map fld):=by
      rw [qx (by rw [MV]; omega),NS]; rfl
     have sm:=fun K:Ks=>mY 0 jV (af (bb (af (ai 4) (af (bb (af (fC (.str "number")) (af (fC (.int 0)) (af (f2 bN (ai 3) (fC (.int 9))) (au))))) (au)))) (au)) K [some (.own (.lst (r'.map fld))),some (.val (.lst (ws.map .str))),some (.val (.int b)),some (.val (.int x)),some (.val (.str w)),none,none,none] (xs:=r'.map fld) rfl
     generalize (r'++[(w,D.tup [.str "number",.int 0,.int (x%9)])]).map fld=Y at ap ⊢
     simp! only [cQ,kF,MV,h1,d9,g2,h2,nl,ni,sm,g9,mR,AI,ap]
 ·rintro ρ' ⟨r',F',rfl⟩
  obtain⟨r2,F2,e⟩:=HA F' none none b hb x
  refine⟨r2,F2,?_⟩
  simp only [K0] at e
  unfold mT
  simp! only [mR,e]
theorem EC (ws:List Str) (h:ws.Nodup) (hl:ws.length < 64):∃ us:List Str,fV [.lst (ws.map .str)]=some (.lst (us.map .str))/\us.Perm ws:=by
 have pz:∀ zs:List D,zs.Perm (ws.map D.str)->∃ us:List Str,zs=us.map .str/\us.Perm ws:=fun zs p=>by
  have e:zs=(zs.map fun z=>match z with | .str w=>w | _ => "").map .str:=by
   rw [Oy]
   conv=>lhs; rw [<- List.map_id zs]
   refine NR fun z hz=>?_
   obtain⟨w,_,rfl⟩:=List.mem_map.mp (p.mem_iff.mp hz)
   rfl
  refine⟨_,e,?_⟩
  have q:=p.map fun z:D=>match z with | .str w=>w | _=>("":Str)
  rw [Oy] at q
  have e2:ws.map ((fun z:D=>match z with | .str w=>w | _=>("":Str)) ∘ D.str)=ws:=by
   conv=>rhs; rw [<- List.map_id ws]
   exact NR fun _ _=>rfl
  rw [e2] at q
  exact q
 have fin:∀ key:D->List D,∃ us:List Str,some (D.lst (nZ key (ws.map .str)))=some (.lst (us.map .str))/\us.Perm ws:=fun key=>by
  obtain⟨us,e,q⟩:=pz _ (e8 key (ws.map .str))
  exact⟨us,by rw [e],q⟩
 show ∃ us,pN (ws.map .str)=_/\_
 unfold pN
 by_cases a:Gx (ws.map .str)
 ·rw [if_pos a]; exact fin _
 ·have b:Gr (ws.map .str):=by
   refine⟨by rw [MV]; exact hl,false,fun x hx=>?_,?_⟩
   ·obtain⟨w,_,rfl⟩:=List.mem_map.mp hx
    exact .str w .nil
   ·rw [Ov]
    refine h.imp fun hne e=>hne ?_
    have e:[D.str _]=[D.str _]:=e
    injection e with e _
    injection e
  rw [if_neg a,if_pos b]; exact fin _
def ra (b st:Int) (l:List (Str×D)):Prop:=∀ (j:Nat) (p:Str×D),l[j]?=some p->zc b (st+(j:Int)) p.1
theorem vL {b st:Int} {l:List (Str×D)} (h:ra b st l) {w:Str} {k:D} (hw:zc b (st+(l.length:Int)) w):ra b st (l++[(w,k)]):=fun j p e=>by
 rcases Nat.lt_trichotomy j l.length with z | z | z
 ·rw [M5 z] at e; exact h j p e
 ·subst z
  rw [M3 (MO _),Od] at e
  cases e; exact hw
 ·rw [OB (by simp; omega)] at e; cases e
theorem BX (x:Int) (h0:0<=x) (h1:x < 2147483700):∃ c:Kd,bv cf 1 8 [.int x]=.ok c.d/\c.ok:=by
 have g3:=fun i=>bz (i:=i) (show (0:Int) < 3 by decide)
 have g4:=fun i=>bz (i:=i) (show (0:Int) < 4 by decide)
 have g26:=fun i=>bz (i:=i) (show (0:Int) < 26 by decide)
 have d3:=fun i=>bO (i:=i) (show (0:Int) < 3 by decide) (show (3:Int) < 10 ^ 200 by decide)
 have d12:=fun i=>bO (i:=i) (show (0:Int) < 12 by decide) (show (12:Int) < 10 ^ 200 by decide)
 have d78:=fun i=>bO (i:=i) (show (0:Int) < 78 by decide) (show (78:Int) < 10 ^ 200 by decide)
 have d2028:=fun i=>bO (i:=i) (show (0:Int) < 2028 by decide) (show (2028:Int) < 10 ^ 200 by decide)
 have p7:j5 (.int x) (.int 7)=some (.int (x ^ 7)):=ut x 7 (by decide) ‹0›
 have pb:=B7
 have gp:=fun i=>bz (i:=i) (show (0:Int) < xh by omega)
 rw [iU]; unfold cf
 by_cases h:x%3 < 2
 ·have h':decide (x%3 < 2)=true:=decide_eq_true h
  obtain⟨v,hv,e1⟩:=JQ (.int 0) (.int (-3)) (.int (0 - x ^ 7%xh)) (.int (x ^ 7%xh)) (x / 3%4) ‹0› ‹0›
  obtain⟨lo,rfl⟩:∃ lo:Int,v=.int lo:=by
   simp only [N1,Ox,or_false] at hv
   rcases hv with rfl | rfl | rfl | rfl <;> exact⟨_,rfl⟩
  obtain⟨v,hv,e2⟩:=JQ (.int 0) (.int 1) (.int 6) (.int xh) (x / 12%4) ‹0› ‹0›
  obtain⟨w,rfl⟩:∃ lo:Int,v=.int lo:=by
   simp only [N1,Ox,or_false] at hv
   rcases hv with rfl | rfl | rfl | rfl <;> exact⟨_,rfl⟩
  refine⟨.num lo (lo+w),?_,trivial⟩
  unfold Kd.d
  simp! only [g3,h',p7,vg,gp,He,d3,g4,e1,d12,e2,AI]
 ·have h':decide (x%3 < 2)=false:=decide_eq_false h
  have LL:(("abcdefghijklmnopqrstuvwxyz":Str)).length=26:=by decide +kernel
  have L0:(("":Str)).length<=1000:=by decide +kernel
  generalize hL:("abcdefghijklmnopqrstuvwxyz":Str)=L at LL
  obtain⟨one,ho,e1⟩:=lU L ‹0› (x / 3%26) ‹0› ‹0›
  obtain⟨oth,hq,e2⟩:=lU L ‹0› (x / 78%26) ‹0› ‹0›
  have a1:=dR one oth ‹0› ‹0›
  have a2:=dR oth one ‹0› ‹0›
  have a3:=dR one one ‹0› ‹0›
  have m1:=yn (x:=one) (n:=8) (by decide) (by decide) ‹0›
  have m2:=yn (x:=oth) (n:=3) (by decide) (by decide) ‹0›
  have r8:jf [.int 8]=some (eI 0 8):=fe 8 (by decide)
  generalize hW:[D.str "",.str one,.str oth,.str (one++oth),.str (oth++one),.str (iX one 8),.str (one++one),.str (iX oth 3)]=W
  have W8:W.length=8:=by rw [<- hW]; rfl
  have Ws:∀ d∈W,∃ w:Str,d=.str w:=by
   rw [<- hW]
   intro d hd
   simp only [N1,Ox,or_false] at hd
   rcases hd with rfl | rfl | rfl | rfl | rfl | rfl | rfl | rfl <;> exact⟨_,rfl⟩
  obtain⟨T,hT⟩:∃ T:ca,T=(aE (jj (dz (af (fC (.int 8)) (au))) (gN 7) (aE (eY (fB (f2 dL (f2 pV (f2 w6 (f2 cx (ai 0) (fC (.int 2028))) (ai 7)) (fC (.int 1))) (fC (.int 1)))) (ky 6 (f2 aw (ai 5) (ai 7)) (fC (.bl true))) (bI)) (cI [7] bI))) (aE (eY (dQ [6] (fB (f2 dL (fL pO (af (ai 6) (au))) (fC (.int 0))))) (ky 6 (ai 3) (fC (.bl true))) (bI)) (iS 6 (bT (bb (af (fC (.str "word")) (af (fL cg (af (fL fV (af (fL jq (af (ai 6) (au))) (au))) (au))) (au)))))))):=⟨_,rfl⟩
  have fin:∀ ws:List Str,ws.Nodup->ws.length<=10->∃ c:Kd,iS 6 (bT (bb (af (fC (.str "word")) (af (fL cg (af (fL fV (af (fL jq (af (ai 6) (au))) (au))) (au))) (au))))) K0 [some (.val (.int x)),none,none,some (.val (.str one)),none,some (.val (.lst W)),some (.own (wd ws)),none]=.ok c.d/\c.ok:=fun ws nd hl=>by
   obtain⟨us,ez,pz⟩:=EC ws nd ‹0›
   refine⟨.wrd us,?_,by show us.length<=100; rw [pz.length_eq]; omega⟩
   unfold Kd.d
   simp! only [qD,ez,mR]
  have key:∃ c:Kd,T K0 [some (.val (.int x)),none,none,some (.val (.str one)),none,some (.val (.lst W)),some (.own (.dct [] [])),none]=.ok c.d/\c.ok:=by
   rw [hT,fD,iq]
   simp! only [r8]
   refine ig (Q:=fun z=>∃ c:Kd,z=.ok c.d/\c.ok) (fun i ρ=>∃ ws:List Str,ws.Nodup/\ws.length<=i/\ρ=[some (.val (.int x)),none,none,some (.val (.str one)),none,some (.val (.lst W)),some (.own (wd ws)),none]) ?_ ⟨[],Nt,MO _,rfl⟩ ?_
   ·rintro i d ρ kk hd ⟨ws,nd,hl,rfl⟩
    have hi:=fj hd
    rw [cj] at hi
    have hdi:d=.int (i:Int):=by
     rw [fu,M6,NW hi] at hd
     cases hd; simp
    subst hdi
    obtain⟨w,ew⟩:=Ws (W[i]'‹0›) (Ou _)
    have ix:aw (.lst W) (.int (i:Int))=some (.str w):=by
     rw [xS,jK ‹0›,ew]
    have sh:=xB (x / 2028) i
    cases hb:(Builtin.bitAnd (x / 2028 / 2 ^ i) 1==1) with
    | false =>
     refine⟨_,_,rfl,⟨ws,nd,by omega,rfl⟩,?_⟩
     simp! only [d2028,sh,nG,hb]
    | true =>
     refine⟨_,_,rfl,⟨oU ws w,ow w nd,by have:=kX ws w; omega,rfl⟩,?_⟩
     have pk:=fun k:Ks=>nH (i:=6) (fk:=f2 aw (ai 5) (ai 7)) (fv:=fC (.bl true)) (k:=k) (ρ:=[some (.val (.int x)),none,none,some (.val (.str one)),none,some (.val (.lst W)),some (.own (wd ws)),some (.val (.int (i:Int)))]) (al:=xi ws) (q:=.inr w) (d:=.str w) (v:=.bl true) rfl (by simp! only [ix]) rfl rfl (by simp; omega)
     simp! only [d2028,sh,nG,hb,pk,qY]
   ·rintro ρ' ⟨ws,nd,hl,rfl⟩
    rw [cj] at hl
    have pt:dQ [6] (fB (f2 dL (fL pO (af (ai 6) (au))) (fC (.int 0)))) [some (.val (.int x)),none,none,some (.val (.str one)),none,some (.val (.lst W)),some (.own (wd ws)),none]=.ok (((ws.length:Int))==0):=by
     simp! only [cQ,kF,yO]
    dsimp only
    rw [fD,kO,pt,nQ]
    cases hb:((ws.length:Int)==0) with
    | false=>exact fin ws nd ‹0›
    | true =>
     have pk:=fun k:Ks=>nH (i:=6) (fk:=ai 3) (fv:=fC (.bl true)) (k:=k) (ρ:=[some (.val (.int x)),none,none,some (.val (.str one)),none,some (.val (.lst W)),some (.own (wd ws)),none]) (al:=xi ws) (q:=.inr one) (d:=.str one) (v:=.bl true) rfl rfl rfl rfl (by simp; omega)
     rw [if_pos rfl,pk,qY]
     exact fin (oU ws one) (ow one nd) (by have:=kX ws one; omega)
  obtain⟨d,ed,fd⟩:=key
  have mW:ia W=some (.lst W):=ym ‹0›
  refine⟨d,?_,fd⟩
  rw [<- hT]
  simp only [K0] at ed
  simp! only [hL,g3,h',d3,g26,e1,d78,e2,a1,a2,a3,m1,m2,hW,mW,uY,ed]
theorem yU (dp g:Nat) (hk:∀ x b:Int,0<=x->x < 2147483700->0<=b->∃ d,bf g [.int x,.int b,.int dp]=.ok d/\K3 dp d) (x b st:Int) (m r:Nat) (h0:0<=x) (h1:x < 2147483700) (hb:0<=b) (hs:0<=st) (hm:m<=8) (hr:r<=8) :
  ∃ ps qs,aL (g+1) [.int x,.int b,.int st,.int m,.int r,.int dp]=.ok (fm ps qs)/\ps.length=m/\qs.length=r/\Fj (K3 dp) ps qs/\ra b st (ps++qs)/\∃ ks:KL,ps=ks.map toD/\∀ p∈ks,p.2.ok:=by
 rw [gg,FK]; unfold ji
 have rn:jf [.int ((m:Int)+(r:Int))]=some (eI 0 (m+r)):=by
  rw [show ((m:Int)+(r:Int))=((m+r:Nat):Int) by omega]
  exact fe (m+r) ‹0›
 obtain⟨T,hT⟩:∃ T:ca,T=iS 7 (iS 6 (bT (bb (af (fL cg (af (ai 6) (au))) (af (fL cg (af (ai 7) (au))) (au)))))):=⟨_,rfl⟩
 rw [<- hT]
 simp! only [Ml,rn]
 refine ig (Q:=fun z=>∃ ps qs,z=.ok (fm ps qs)/\ps.length=m/\qs.length=r/\Fj (K3 dp) ps qs/\ra b st (ps++qs)/\∃ ks:KL,ps=ks.map toD/\∀ p∈ks,p.2.ok)
  (fun i ρ=>∃ (y:Int) (ps qs:List (Str×D)),0<=y/\y < 2147483700/\ps.length=min i m/\qs.length=i - m/\(∀ p∈ps,Flat p.2)/\(∀ p∈qs,K3 dp p.2)/\ra b st (ps++qs)/\(∃ ks:KL,ps=ks.map toD/\∀ p∈ks,p.2.ok) /\
   ρ=[some (.val (.int y)),some (.val (.int b)),some (.val (.int st)),some (.val (.int m)),some (.val (.int r)),some (.val (.int dp)),some (.own (.lst (ps.map fld))),some (.own (.lst (qs.map fld))),none]) ?_ ⟨x,[],[],h0,h1,by simp,by simp,(fun _ h=>nomatch h),(fun _ h=>nomatch h),(fun _ _ h=>by simp at h),⟨[],rfl,fun _ h=>nomatch h⟩,rfl⟩ ?_
 ·rintro i d ρ kk hd ⟨y,ps,qs,y0,y1,lp,lq,fp,fq,fn,fk0,rfl⟩
  have hi:=fj hd
  rw [cj] at hi
  have hdi:d=.int (i:Int):=by
   rw [fu,M6,NW hi] at hd
   cases hd; simp
  subst hdi
  obtain⟨y',y0',y1',ey⟩:=j8 y y0 y1
  obtain⟨nm,en,hnm⟩:=j9 b (st+(i:Int)) hb ‹0›
  by_cases h:i < m
  ·have h':decide ((i:Int) < (m:Int))=true:=decide_eq_true ‹0›
   obtain⟨c,ek,ck⟩:=BX y' y0' ‹0›
   have fk:=oi c
   obtain⟨ks,hks,hok⟩:=fk0
   refine⟨_,_,rfl,⟨y',ps++[(nm,c.d)],qs,y0',by omega,by rw [M8,Nh]; omega,by omega,fun p hp=>?_,fq,?_,⟨ks++[(nm,c)],by rw [NS,hks]; rfl,fun p hp=>?_⟩,rfl⟩,?_⟩
   ·rcases List.mem_append.mp hp with z | z
    ·exact fp p z
    ·rw [OS] at z; subst z; exact fk
   ·have q0:qs=[]:=List.length_eq_zero_iff.mp ‹0›
    subst q0
    rw [MZ] at fn ⊢
    exact vL fn (by rw [lp,OD ‹0›]; exact hnm)
   ·rcases List.mem_append.mp hp with z | z
    ·exact hok p z
    ·rw [List.mem_singleton.mp z]; exact ck
   ·have ap:jV (ps.map fld) [.tup [.str nm,c.d]]=some ((ps++[(nm,c.d)]).map fld):=by
     rw [qx (by rw [MV]; omega),NS]; rfl
    have sm:=fun K:Ks=>mY 6 jV (af (bb (af (fR (bv aK 2 7) (af (ai 1) (af (f2 bD (ai 2) (ai 8)) (au)))) (af (fR (bv cf 1 8) (af (ai 0) (au))) (au)))) (au)) K [some (.val (.int y')),some (.val (.int b)),some (.val (.int st)),some (.val (.int m)),some (.val (.int r)),some (.val (.int dp)),some (.own (.lst (ps.map fld))),some (.own (.lst (qs.map fld))),some (.val (.int i))] (xs:=ps.map fld) rfl
    simp! only [ey,h',sm,en,ek,mR,ap]
  ·have h':decide ((i:Int) < (m:Int))=false:=decide_eq_false ‹0›
   obtain⟨k,ek,fk⟩:=hk y' b y0' ‹0› hb
   refine⟨_,_,rfl,⟨y',ps,qs++[(nm,k)],y0',by omega,by omega,by rw [M8,Nh]; omega,fp,fun p hp=>?_,?_,fk0,rfl⟩,?_⟩
   ·rcases List.mem_append.mp hp with z | z
    ·exact fq p z
    ·rw [OS] at z; subst z; exact fk
   ·rw [<- NZ]
    exact vL fn (by rw [M8,lp,lq,show min i m+(i - m)=i by omega]; exact hnm)
   ·have ap:jV (qs.map fld) [.tup [.str nm,k]]=some ((qs++[(nm,k)]).map fld):=by
     rw [qx (by rw [MV]; omega),NS]; rfl
    have sm:=fun K:Ks=>mY 7 jV (af (bb (af (fR (bv aK 2 7) (af (ai 1) (af (f2 bD (ai 2) (ai 8)) (au)))) (af (fR (bf g) (af (ai 0) (af (ai 1) (af (ai 5) (au))))) (au)))) (au)) K [some (.val (.int y')),some (.val (.int b)),some (.val (.int st)),some (.val (.int m)),some (.val (.int r)),some (.val (.int dp)),some (.own (.lst (ps.map fld))),some (.own (.lst (qs.map fld))),some (.val (.int i))] (xs:=qs.map fld) rfl
    simp! only [ey,h',sm,en,ek,mR,ap]
 ·rintro ρ' ⟨y,ps,qs,y0,y1,lp,lq,fp,fq,fn,fk0,rfl⟩
  rw [cj] at lp lq
  refine⟨ps,qs,?_,by omega,by omega,⟨by omega,by omega,fp,fq⟩,fn,fk0⟩
  rw [hT]
  simp! only [mR]
theorem Dq:∀ (dp g:Nat),2*dp+1<=g->∀ x b:Int,0<=x->x < 2147483700->0<=b->∃ d,bf g [.int x,.int b,.int dp]=.ok d/\K3 dp d:=by
 intro dp
 induction dp with
 | zero =>
  intro g hg x b h0 h1 hb
  obtain⟨g,rfl⟩:∃ g',g=g'+1:=⟨g - 1,by omega⟩
  have d3:=fun i=>bO (i:=i) (show (0:Int) < 3 by decide) (show (3:Int) < 10 ^ 200 by decide)
  obtain⟨d,e,f⟩:=wN (x / 3) ‹0› ‹0›
  refine⟨d,?_,f⟩
  rw [et,gD]; unfold gW
  have z:(((0:Nat):Int)==0)=true:=rfl
  simp! only [z,d3,e]
 | succ dp ih =>
  intro g hg x b h0 h1 hb
  obtain⟨g,rfl⟩:∃ g',g=g'+1+1:=⟨g - 2,by omega⟩
  have g2:=fun i=>bz (i:=i) (show (0:Int) < 2 by decide)
  have g3:=fun i=>bz (i:=i) (show (0:Int) < 3 by decide)
  have g12:=fun i=>bz (i:=i) (show (0:Int) < 12 by decide)
  have d3:=fun i=>bO (i:=i) (show (0:Int) < 3 by decide) (show (3:Int) < 10 ^ 200 by decide)
  have d6:=fun i=>bO (i:=i) (show (0:Int) < 6 by decide) (show (6:Int) < 10 ^ 200 by decide)
  have d18:=fun i=>bO (i:=i) (show (0:Int) < 18 by decide) (show (18:Int) < 10 ^ 200 by decide)
  have d36:=fun i=>bO (i:=i) (show (0:Int) < 36 by decide) (show (36:Int) < 10 ^ 200 by decide)
  have z:(((dp+1:Nat):Int)==0)=false:=by simp; omega
  rw [et,gD]; unfold gW
  by_cases h:x%3 < 2
  ·have h':decide (x%3 < 2)=true:=decide_eq_true h
   obtain⟨d,e,f⟩:=wN (x / 3) ‹0› ‹0›
   refine⟨d,?_,.inl f⟩
   simp! only [z,g3,h',d3,e]
  ·have h':decide (x%3 < 2)=false:=decide_eq_false h
   obtain⟨m,hm,hm8⟩:∃ m:Nat,1+x / 3%2=(m:Int)/\m<=8:=⟨(1+x / 3%2).toNat,by omega,by omega⟩
   obtain⟨r,hr,hr8⟩:∃ m:Nat,x / 6%3=(m:Int)/\m<=8:=⟨(x / 6%3).toNat,by omega,by omega⟩
   have hd:((dp+1:Nat):Int) - 1=(dp:Int):=by omega
   obtain⟨ps,qs,e,_,_,F,_,_⟩:=yU dp g (ih g ‹0›) (x / 3) b (x / 36%12) m r ‹0› ‹0› hb ‹0› hm8 hr8
   refine⟨.tup [.str "rows",fm ps qs,.bl (x / 18%2==1)],?_,.inr ⟨ps,qs,_,rfl,F⟩⟩
   simp! only [z,g3,h',d3,d36,g12,g2,d6,hm,hr,hd,e,d18,AI]
theorem yI (dp:Nat) (hd:dp<=3) (x b st:Int) (m r:Nat) (h0:0<=x) (h1:x < 2147483700) (hb:0<=b) (hs:0<=st) (hm:m<=8) (hr:r<=8) :
  ∃ ps qs,aL 12 [.int x,.int b,.int st,.int m,.int r,.int dp]=.ok (fm ps qs)/\ps.length=m/\qs.length=r/\Fj (K3 dp) ps qs/\ra b st (ps++qs)/\∃ ks:KL,ps=ks.map toD/\∀ p∈ks,p.2.ok :=
 yU dp 11 (Dq dp 11 ‹0›) x b st m r h0 h1 hb hs hm hr

theorem xo (x:Int):∃ us:List Str,us≠[]/\us.length<=8/\bv cU 1 6 [.int x]=.ok (.lst (us.map .str)):=by
 have g26:=fun i=>bz (i:=i) (show (0:Int) < 26 by decide)
 have d26:=fun i=>bO (i:=i) (show (0:Int) < 26 by decide) (show (26:Int) < 10 ^ 200 by decide)
 have LL:(("abcdefghijklmnopqrstuvwxyz":Str)).length=26:=by decide +kernel
 generalize hL:("abcdefghijklmnopqrstuvwxyz":Str)=L at LL
 obtain⟨one,ho,e1⟩:=lU L ‹0› (x%26) ‹0› ‹0›
 obtain⟨oth,hq,e2⟩:=lU L ‹0› (x / 26%26) ‹0› ‹0›
 have a1:=dR one oth ‹0› ‹0›
 have a2:=dR oth one ‹0› ‹0›
 have a3:=dR one one ‹0› ‹0›
 have m1:=yn (x:=one) (n:=8) (by decide) (by decide) ‹0›
 have m2:=yn (x:=oth) (n:=3) (by decide) (by decide) ‹0›
 generalize hW:[D.str "",.str one,.str oth,.str (one++oth),.str (oth++one),.str (iX one 8),.str (one++one),.str (iX oth 3)]=W
 have W8:W.length=8:=by rw [<- hW]; rfl
 have Ws:∀ d∈W,∃ w:Str,d=.str w:=by
  rw [<- hW]
  intro d hd
  simp only [N1,Ox,or_false] at hd
  rcases hd with rfl | rfl | rfl | rfl | rfl | rfl | rfl | rfl <;> exact⟨_,rfl⟩
 have mW:ia W=some (.lst W):=ym ‹0›
 obtain⟨T,hT⟩:∃ T:ca,T=(iS 4 (bT (fL fV (af (fL jq (af (ai 4) (au))) (au))))):=⟨_,rfl⟩
 rw [iU]; unfold cU
 rw [<- hT]
 simp! only [hL,g26,e1,d26,e2,uY,a1,a2,a3,m1,m2,hW,mW]
 refine ig (Q:=fun z=>∃ us:List Str,us≠[]/\us.length<=8/\z=.ok (.lst (us.map .str))) (fun i ρ=>∃ ws:List Str,ws.Nodup/\ws.length<=i/\(0 < i->ws≠[])/\ρ=[none,none,some (.val (.str one)),some (.val (.str oth)),some (.own (wd ws)),none]) ?_ ⟨[],Nt,MO _,fun h=>by omega,rfl⟩ ?_
 ·rintro i d ρ kk hd ⟨ws,nd,hl,hn,rfl⟩
  have hi:=fj hd
  obtain⟨w,rfl⟩:=Ws d (M7 hd)
  have pn:oU ws w≠[]:=by
   unfold oU
   split
   ·rename_i h
    intro z
    rw [z] at h
    simp at h
   ·simp
  refine⟨_,_,rfl,⟨oU ws w,ow w nd,by have:=kX ws w; omega,fun _=>pn,rfl⟩,?_⟩
  have pk:=fun k:Ks=>nH (i:=4) (fk:=ai 5) (fv:=fC (.bl true)) (k:=k) (ρ:=[none,none,some (.val (.str one)),some (.val (.str oth)),some (.own (wd ws)),some (.val (.str w))]) (al:=xi ws) (q:=.inr w) (d:=.str w) (v:=.bl true) rfl rfl rfl rfl (by simp; omega)
  simp! only [pk,qY]
 ·rintro ρ' ⟨ws,nd,hl,hn,rfl⟩
  rw [W8] at hl hn
  obtain⟨us,eu,pu⟩:=EC ws nd ‹0›
  refine⟨us,fun z=>hn (by decide) (by rw [z] at pu; exact pu.symm.eq_nil),by rw [pu.length_eq]; exact hl,?_⟩
  rw [hT]
  simp! only [qD,eu]
theorem wo:∀ (us:List Str) (i:Nat),ku i (us.map .str)=(us.zipIdx i).map fun p=>.tup [.int (p.2:Int),.str p.1]
 | [],_=>rfl
 | u::us,i=>by
  rw [MU,ku,wo us (i+1),N0,MU]
structure Mt (c e:Kd):Prop where
 o1:c.ok
 o2:e.ok
 s:c.srt=e.srt
 b:(vt c e).bad=false
 b':(vt e c).bad=false
theorem Mt.swap {c e:Kd} (h:Mt c e):Mt e c:=⟨h.o2,h.o1,h.s.symm,h.b',h.b⟩
theorem GP {lo w f g:Int} (h1:0<=f) (h2:f<=w) (h3:0<=g):Mt (.num lo (lo+w)) (.num (lo+f) (lo+f+g)):=by
 refine⟨trivial,trivial,rfl,?_,?_⟩
 ·show decide (mn (lo+w) (lo+f+g) < mx lo (lo+f))=false
  refine decide_eq_false ?_
  unfold mn mx
  split <;> split <;> omega
 ·show decide (mn (lo+f+g) (lo+w) < mx (lo+f) lo)=false
  refine decide_eq_false ?_
  unfold mn mx
  split <;> split <;> omega
theorem Ft {a b:List Str} {w:Str} (h1:w∈a) (h2:w∈b) (l1:a.length<=100) (l2:b.length<=100):Mt (.wrd a) (.wrd b):=by
 refine⟨l1,l2,rfl,?_,?_⟩
 ·show (a.filter fun w=>b.contains w).isEmpty=false
  have:w∈a.filter fun w=>b.contains w:=List.mem_filter.mpr ⟨h1,by simpa using h2⟩
  cases h:a.filter fun w=>b.contains w with
  | nil=>rw [h] at this; cases this
  | cons _ _=>rfl
 ·show (b.filter fun w=>a.contains w).isEmpty=false
  have:w∈b.filter fun w=>a.contains w:=List.mem_filter.mpr ⟨h2,by simpa using h1⟩
  cases h:b.filter fun w=>a.contains w with
  | nil=>rw [h] at this; cases this
  | cons _ _=>rfl
theorem Do (a b c d i:Int) (h0:0<=i) (h1:i < 4):∃ x:Int,(x=a\/x=b\/x=c\/x=d)/\aw (.lst [.int a,.int b,.int c,.int d]) (.int i)=some (.int x):=by
 rcases(show i=0\/i=1\/i=2\/i=3 by omega) with z | z | z | z <;> subst z
 ·exact⟨a,by simp,rfl⟩
 ·exact⟨b,by simp,rfl⟩
 ·exact⟨c,by simp,rfl⟩
 ·exact⟨d,by simp,rfl⟩
def bit (y m:Int) (j:Nat):Bool:=Builtin.bitAnd (y / m / 2 ^ j) 1==1
theorem zH (us:List Str) (hl:us.length<=8) (sp:Str) (hs:sp∈us) (y m:Int) (h0:0 < m) (h1:m < 10 ^ 200) (x0 x2 x3 x4 x5 x6:Option S):∃ ws:List Str,ws.length<=8/\sp∈ws/\iW [none,none,some 8,some 1] (gz (af (ai 7) (au))) (gT 2 (e7 [0,1])) (xW (fB (f2 dL (ai 1) (ai 2))) (fB (f2 dL (f2 pV (f2 w6 (f2 cx (ai 3) (fC (.int m))) (ai 0)) (fC (.int 1))) (fC (.int 1))))) (ai 1) [x0,some (.val (.int y)),x2,x3,x4,x5,x6,some (.val (.lst (us.map .str))),some (.val (.str sp))]=.ok (.lst (ws.map .str)):=by
 have dm:=fun i=>bO (i:=i) h0 h1
 have en:ug [.lst (us.map .str)]=some ((us.zipIdx 0).map fun p=>.tup [.int (p.2:Int),.str p.1]):=by
  show some (ku 0 (us.map .str))=_
  rw [wo]
 refine⟨((us.zipIdx 0).filter fun p=>(p.1==sp) || bit y m p.2).map (·.1),?_,?_,?_⟩
 ·rw [MV]
  refine MF (List.length_filter_le _ _) ?_
  rw [OX]; exact hl
 ·obtain⟨j,hj,e⟩:=NP hs
  refine List.mem_map.mpr ⟨(sp,j),List.mem_filter.mpr ⟨?_,by simp⟩,rfl⟩
  rw [List.mem_iff_getElem?]
  refine⟨j,?_⟩
  rw [List.getElem?_zipIdx,NF hj,e]
  simp
 ·refine eS (ds:=(us.zipIdx 0).map fun p=>.tup [.int (p.2:Int),.str p.1]) (by simp! only [en]) (by rw [MV,OX]; omega) ?_
  refine Eq.trans (gB (ρ:=[none,none,some (.val (.str sp)),some (.val (.int y))]) (g:=gT 2 (e7 [0,1])) (fun p:Str×Nat=>D.tup [.int (p.2:Int),.str p.1]) (fun p=>(p.1==sp) || bit y m p.2) (D.str ∘ fun p:Str×Nat=>p.1) (us.zipIdx 0) fun p _=>⟨[some (.val (.int (p.2:Int))),some (.val (.str p.1)),some (.val (.str sp)),some (.val (.int y))],rfl,?_,?_⟩) (by rw [Oy])
  ·have sh:=xB (y / m) p.2
   unfold bit
   cases h:(p.1==sp) <;> simp! only [h,dm,sh,nG,Np,Nq]
  ·simp! only []; rfl
theorem vj (x:Int) (h0:0<=x) (h1:x < 2147483700):∃ c e:Kd,Mt c e/\bv dt 1 9 [.int x]=.ok (.tup [c.d,e.d]):=by
 obtain⟨y,y0,y1,ey⟩:=j8 x h0 h1
 have g2:=fun i=>bz (i:=i) (show (0:Int) < 2 by decide)
 have g3:=fun i=>bz (i:=i) (show (0:Int) < 3 by decide)
 have g4:=fun i=>bz (i:=i) (show (0:Int) < 4 by decide)
 have d3:=fun i=>bO (i:=i) (show (0:Int) < 3 by decide) (show (3:Int) < 10 ^ 200 by decide)
 have d12:=fun i=>bO (i:=i) (show (0:Int) < 12 by decide) (show (12:Int) < 10 ^ 200 by decide)
 have d48:=fun i=>bO (i:=i) (show (0:Int) < 48 by decide) (show (48:Int) < 10 ^ 200 by decide)
 have d200:=fun i=>bO (i:=i) (show (0:Int) < 200 by decide) (show (200:Int) < 10 ^ 200 by decide)
 have p7:j5 (.int y) (.int 7)=some (.int (y ^ 7)):=ut y 7 (by decide) ‹0›
 have pb:=B7
 have gp:=fun i=>bz (i:=i) (show (0:Int) < xh by omega)
 obtain⟨lo,_,e1⟩:=Do 0 (-3) (0 - y ^ 7%xh) (y ^ 7%xh) (x / 3%4) ‹0› ‹0›
 obtain⟨wd',hw,e2⟩:=Do 0 1 6 xh (x / 12%4) ‹0› ‹0›
 obtain⟨ex,hx,e3⟩:=Do 0 2 9 xh (x / 48%4) ‹0› ‹0›
 have w0:0<=wd':=by omega
 have x0:0<=ex:=by omega
 have gw:=fun i=>bz (i:=i) (show (0:Int) < wd'+1 by omega)
 have f0:=OO (y ^ 7) (show wd'+1≠0 by omega)
 have f1:=OQ (y ^ 7) (show 0 < wd'+1 by omega)
 obtain⟨T,hT⟩:∃ T:ca,T=(aE (eY (fB (f2 dL (f2 bN (f2 cx (ai 0) (fC (.int 200))) (fC (.int 2))) (fC (.int 1)))) (bT (bb (af (ai 6) (af (ai 5) (au))))) (bI)) (bT (bb (af (ai 5) (af (ai 6) (au)))))):=⟨_,rfl⟩
 have fin:∀ (c e:Kd) (x1 x2 x3 x4 x7 x8:Option S),Mt c e->∃ c' e':Kd,Mt c' e'/\T K0 [some (.val (.int x)),x1,x2,x3,x4,some (.val c.d),some (.val e.d),x7,x8]=.ok (.tup [c'.d,e'.d]):=fun c e x1 x2 x3 x4 x7 x8 m=>by
  rw [hT]
  cases hb:(x / 200%2==1) with
  | true=>exact⟨e,c,m.swap,by simp! only [d200,g2,hb,mR]⟩
  | false=>exact⟨c,e,m,by simp! only [d200,g2,hb,mR]⟩
 rw [iU]; unfold dt
 rw [<- hT]
 simp only [K0] at fin
 cases h3:(x%3==2) with
 | false =>
  obtain⟨c',e',m,e⟩:=fin (.num lo (lo+wd')) (.num (lo+y ^ 7%(wd'+1)) (lo+y ^ 7%(wd'+1)+ex)) (some (.val (.int y))) (some (.val (.int lo))) (some (.val (.int wd'))) (some (.val (.int (y ^ 7%(wd'+1))))) none none (GP f0 ‹0› x0)
  unfold Kd.d at e
  refine⟨c',e',m,?_⟩
  refine Eq.trans ?_ e
  simp! only [ey,p7,vg,gp,He,d3,g4,e1,d12,e2,gw,AI,d48,e3,g3,h3]
 | true =>
  obtain⟨us,u1,u2,eu⟩:=xo (x / 3)
  have ul:0 < us.length:=by
   cases us with
   | nil=>exact absurd rfl u1
   | cons _ _=>simp
  have gu:=fun i=>bz (i:=i) (show (0:Int) < (us.length:Int) by omega)
  have q1:=OO y (show (us.length:Int)≠0 by omega)
  have q2:=OQ y (show (0:Int) < (us.length:Int) by omega)
  obtain⟨sp,hs,es⟩:∃ sp∈us,aw (.lst (us.map .str)) (.int (y%(us.length:Int)))=some (.str sp):=by
   refine⟨us[(y%(us.length:Int)).toNat]'‹0›,Ou _,?_⟩
   rw [xS,lO,nX q1 q2]; rfl
  obtain⟨A,a1,a2,ea⟩:=zH us u2 sp hs y 9 (by decide) (by decide) (some (.val (.int x))) (some (.val (.int lo))) (some (.val (.int wd'))) (some (.val (.int (y ^ 7%(wd'+1))))) (some (.val (.tup [.str "number",.int lo,.int (lo+wd')]))) (some (.val (.tup [.str "number",.int (lo+y ^ 7%(wd'+1)),.int (lo+y ^ 7%(wd'+1)+ex)])))
  obtain⟨B,b1,b2,eb⟩:=zH us u2 sp hs y 3000 (by decide) (by decide) (some (.val (.int x))) (some (.val (.int lo))) (some (.val (.int wd'))) (some (.val (.int (y ^ 7%(wd'+1))))) (some (.val (.tup [.str "word",.tup (A.map .str)]))) (some (.val (.tup [.str "number",.int (lo+y ^ 7%(wd'+1)),.int (lo+y ^ 7%(wd'+1)+ex)])))
  obtain⟨c',e',m,e⟩:=fin (.wrd A) (.wrd B) (some (.val (.int y))) (some (.val (.int lo))) (some (.val (.int wd'))) (some (.val (.int (y ^ 7%(wd'+1))))) (some (.val (.lst (us.map .str)))) (some (.val (.str sp))) (Ft a2 b2 ‹0› ‹0›)
  unfold Kd.d at e
  refine⟨c',e',m,?_⟩
  refine Eq.trans ?_ e
  simp! only [ey,p7,vg,gp,He,d3,g4,e1,d12,e2,gw,AI,d48,e3,g3,h3,eu,MV,gu,es,ea,eb,mR]
theorem wg (x b:Int) (m:Nat) (h0:0<=x) (h1:x < 2147483700) (hb:0<=b) (hm:m<=8):∃ L:List ZP,L.length=m/\(∀ q∈L,q.1.1=q.2.1/\Mt q.1.2 q.2.2/\∃ j:Nat,j < m/\zc b j q.1.1)/\bv dC 3 7 [.int x,.int b,.int m]=.ok (.tup [.tup ((L.map (·.1)).map kf),.tup ((L.map (·.2)).map kf)]):=by
 have rn:=fe m ‹0›
 obtain⟨T,hT⟩:∃ T:ca,T=(iS 4 (iS 3 (bT (bb (af (fL cg (af (ai 3) (au))) (af (fL cg (af (ai 4) (au))) (au))))))):=⟨_,rfl⟩
 rw [gD]; unfold dC
 rw [<- hT]
 simp! only [Ml,rn]
 refine ig (Q:=fun z=>∃ L:List ZP,L.length=m/\(∀ q∈L,q.1.1=q.2.1/\Mt q.1.2 q.2.2/\∃ j:Nat,j < m/\zc b j q.1.1)/\z=.ok (.tup [.tup ((L.map (·.1)).map kf),.tup ((L.map (·.2)).map kf)]))
  (fun i ρ=>∃ (y:Int) (L:List ZP),0<=y/\y < 2147483700/\L.length=i/\(∀ q∈L,q.1.1=q.2.1/\Mt q.1.2 q.2.2/\∃ j:Nat,j < m/\zc b j q.1.1)/\ρ=[some (.val (.int y)),some (.val (.int b)),some (.val (.int m)),some (.own (.lst ((L.map (·.1)).map kf))),some (.own (.lst ((L.map (·.2)).map kf))),none,none]) ?_ ⟨x,[],h0,h1,rfl,(fun _ h=>nomatch h),rfl⟩ ?_
 ·rintro i d ρ kk hd ⟨y,L,y0,y1,ll,hq,rfl⟩
  have hi:=fj hd
  rw [cj] at hi
  have hdi:d=.int (i:Int):=by
   rw [fu,M6,NW hi] at hd
   cases hd; simp
  subst hdi
  obtain⟨y',y0',y1',ey⟩:=j8 y y0 y1
  obtain⟨c,e,mt,ek⟩:=vj y' y0' ‹0›
  obtain⟨nm,en,hnm⟩:=j9 b (i:Int) hb ‹0›
  have i0:aw (.tup [c.d,e.d]) (.int 0)=some c.d:=kQ _ _
  have i1:aw (.tup [c.d,e.d]) (.int 1)=some e.d:=rfl
  have ap1:jV ((L.map (·.1)).map kf) [.tup [.str nm,c.d]]=some (((L++[((nm,c),(nm,e))]).map (·.1)).map kf):=by
   rw [qx (by rw [MV,MV]; omega),NS,NS]; rfl
  have ap2:jV ((L.map (·.2)).map kf) [.tup [.str nm,e.d]]=some (((L++[((nm,c),(nm,e))]).map (·.2)).map kf):=by
   rw [qx (by rw [MV,MV]; omega),NS,NS]; rfl
  refine⟨_,_,rfl,⟨y',L++[((nm,c),(nm,e))],y0',by omega,by rw [M8,Nh]; omega,fun q hm=>?_,rfl⟩,?_⟩
  ·rcases List.mem_append.mp hm with z | z
   ·exact hq q z
   ·rw [List.mem_singleton.mp z]; exact⟨rfl,mt,i,hi,hnm⟩
  ·generalize ((L++[((nm,c),(nm,e))]).map (·.1)).map kf=Y1 at ap1 ⊢
   generalize ((L++[((nm,c),(nm,e))]).map (·.2)).map kf=Y2 at ap2 ⊢
   generalize (L.map (·.1)).map kf=Z1 at ap1 ⊢
   generalize (L.map (·.2)).map kf=Z2 at ap2 ⊢
   have Ey:=fun K:Ks=>mY 3 jV (af (bb (af (fR (bv aK 2 7) (af (ai 1) (af (ai 5) (au)))) (af (f2 aw (ai 6) (fC (.int 0))) (au)))) (au)) K [some (.val (.int y')),some (.val (.int b)),some (.val (.int m)),some (.own (.lst Z1)),some (.own (.lst Z2)),some (.val (.int i)),some (.val (.tup [c.d,e.d]))] (xs:=Z1) rfl
   have sm2:=fun K:Ks=>mY 4 jV (af (bb (af (fR (bv aK 2 7) (af (ai 1) (af (ai 5) (au)))) (af (f2 aw (ai 6) (fC (.int 1))) (au)))) (au)) K [some (.val (.int y')),some (.val (.int b)),some (.val (.int m)),some (.own (.lst Y1)),some (.own (.lst Z2)),some (.val (.int i)),some (.val (.tup [c.d,e.d]))] (xs:=Z2) rfl
   simp! only [ey,ek,Ey,en,i0,mR,ap1,sm2,i1,ap2]
 ·rintro ρ' ⟨y,L,y0,y1,ll,hq,rfl⟩
  rw [cj] at ll
  refine⟨L,ll,hq,?_⟩
  rw [hT]
  simp! only [mR]
theorem Mx (a b c d e f g h:D) (i:Int) (h0:0<=i) (h1:i < 8):∃ x∈[a,b,c,d,e,f,g,h],aw (.lst [a,b,c,d,e,f,g,h]) (.int i)=some x:=by
 rcases(show i=0\/i=1\/i=2\/i=3\/i=4\/i=5\/i=6\/i=7 by omega) with z | z | z | z | z | z | z | z <;> subst z
 ·exact⟨a,by simp,rfl⟩
 ·exact⟨b,by simp,rfl⟩
 ·exact⟨c,by simp,rfl⟩
 ·exact⟨d,by simp,rfl⟩
 ·exact⟨e,by simp,rfl⟩
 ·exact⟨f,by simp,rfl⟩
 ·exact⟨g,by simp,rfl⟩
 ·exact⟨h,by simp,rfl⟩
def Bd (b:Int) (ws:List Str):Prop:=∀ w∈ws,∃ j:Nat,j < 22/\zc b j w
theorem zx {b:Int} {ws:List Str} (h:Bd b ws) {w:Str} {i:Nat} (h1:22<=i) (h2:i < 24) (hw:zc b i w):w∉ws:=fun z=>by
 obtain⟨j,hj,q⟩:=h w z
 have:=yY ‹0› ‹0› ‹0› ‹0› hw q
 omega
theorem yQ {b st:Int} {l:List (Str×D)} (h:ra b st l) (h0:0<=st) (h1:st+(l.length:Int)<=22):Bd b (l.map (·.1)):=fun w hw=>by
 obtain⟨p,hp,rfl⟩:=List.mem_map.mp hw
 obtain⟨j,hj,ej⟩:=NP hp
 have:=h j p (by rw [NF hj,ej])
 refine⟨st.toNat+j,by omega,?_⟩
 rw [show ((st.toNat+j:Nat):Int)=st+(j:Int) by omega]
 exact this
theorem uM {b:Int} {a c:List Str} (h1:Bd b a) (h2:Bd b c):Bd b (a++c):=fun w hw=>by
 rcases List.mem_append.mp hw with z | z
 ·exact h1 w z
 ·exact h2 w z
theorem res_none {k p:KL} {r q:List (Str×D)} {nm:Str} (h0:k.length < p.length) (h1:k.map (·.1)=(p.take k.length).map (·.1)) (hm:∀ z∈k.zip p,Mt z.1.2 z.2.2) (hn:nm∉nms k r) (r8:r.length < 8) (hd:dq q<=2):res k p r q nm = "none":=by
 unfold res
 have e2:((k.zip p).any fun q=>!(q.1.2.srt==q.2.2.srt))=false:=List.any_eq_false.mpr fun z hz=>by
  rw [(hm z hz).s]; simp
 have e3:((k.zip p).any fun q=>(vt q.1.2 q.2.2).bad)=false:=List.any_eq_false.mpr fun z hz=>by
  rw [(hm z hz).b]; simp
 have e4:(nms k r).contains nm=false:=by
  cases h:(nms k r).contains nm with
  | false=>rfl
  | true=>exact absurd (by simpa using h) hn
 rw [decide_eq_false ‹0›,if_neg MS,decide_eq_true h1,if_neg (by simp),e2,if_neg MS,e3,if_neg MS,e4,if_neg MS,decide_eq_false ‹0›,if_neg MS,decide_eq_false ‹0›,if_neg MS]
structure Gd (b:Int) (k p:KL) (r q:List (Str×D)):Prop where
 F:KO k
 G:KO p
 A:RO r
 B:RO q
 n1:Bd b (nms k r)
 n2:Bd b (nms p q)
 none:∀ nm,nm∉nms k r->res k p r q nm = "none"
theorem zv:∀ (L:List ZP) (t:KL),(L.map (·.1)).zip (L.map (·.2)++t)=L
 | [],_=>rfl
 | a::L,t=>by rw [MU,MU,Ny,N9,zv L t]
theorem wz (ns:List Int):∃ (b:Int) (k p:KL) (r q:List (Str×D)),0<=b/\ns.getD 1 0*48271%2147483647=b/\Gd b k p r q/\bv cy 1 10 [.lst (ns.map .int)]=.ok (.tup [fr k r,fr p q]):=by
 obtain⟨x,x0,x1,ex⟩:=qi ns 0 ‹0›
 have e1:bv bB 2 2 [.lst (ns.map .int),.int 1]=.ok (.int (ns.getD 1 0)):=qf ns 1
 have ex:bv bR 2 3 [.lst (ns.map .int),.int 0]=.ok (.int x):=ex
 have mm:=fun i=>lA (i:=i) (j:=48271) (by decide) (by decide)
 have gM:=fun i=>bz (i:=i) (show (0:Int) < 2147483647 by decide)
 have g2:=fun i=>bz (i:=i) (show (0:Int) < 2 by decide)
 have g4:=fun i=>bz (i:=i) (show (0:Int) < 4 by decide)
 have g7:=fun i=>bz (i:=i) (show (0:Int) < 7 by decide)
 have g8:=fun i=>bz (i:=i) (show (0:Int) < 8 by decide)
 have d8:=fun i=>bO (i:=i) (show (0:Int) < 8 by decide) (show (8:Int) < 10 ^ 200 by decide)
 have d32:=fun i=>bO (i:=i) (show (0:Int) < 32 by decide) (show (32:Int) < 10 ^ 200 by decide)
 have d64:=fun i=>bO (i:=i) (show (0:Int) < 64 by decide) (show (64:Int) < 10 ^ 200 by decide)
 have d512:=fun i=>bO (i:=i) (show (0:Int) < 512 by decide) (show (512:Int) < 10 ^ 200 by decide)
 have d2048:=fun i=>bO (i:=i) (show (0:Int) < 2048 by decide) (show (2048:Int) < 10 ^ 200 by decide)
 have d4096:=fun i=>bO (i:=i) (show (0:Int) < 4096 by decide) (show (4096:Int) < 10 ^ 200 by decide)
 have d16384:=fun i=>bO (i:=i) (show (0:Int) < 16384 by decide) (show (16384:Int) < 10 ^ 200 by decide)
 obtain⟨b,hb,b0⟩:∃ b:Int,ns.getD 1 0*48271%2147483647=b/\0<=b:=⟨_,rfl,OO _ (by decide)⟩
 generalize ns.getD 1 0=c1 at e1 hb
 obtain⟨y,y0,y1,ey⟩:=j8 x x0 ‹0›
 obtain⟨m,m1,m7,em⟩:∃ m:Nat,1<=m/\m<=7/\aw (.lst [.int 1,.int 2,.int 1,.int 3,.int 2,.int 1,.int 2,.int (1+x / 64%7)]) (.int (x%8))=some (.int (m:Int)):=by
  obtain⟨d,hd,ed⟩:=Mx (.int 1) (.int 2) (.int 1) (.int 3) (.int 2) (.int 1) (.int 2) (.int (1+x / 64%7)) (x%8) ‹0› ‹0›
  simp only [N1,Ox,or_false] at hd
  rcases hd with rfl | rfl | rfl | rfl | rfl | rfl | rfl | rfl
  ·exact⟨1,by decide,by decide,ed⟩
  ·exact⟨2,by decide,by decide,ed⟩
  ·exact⟨1,by decide,by decide,ed⟩
  ·exact⟨3,by decide,by decide,ed⟩
  ·exact⟨2,by decide,by decide,ed⟩
  ·exact⟨1,by decide,by decide,ed⟩
  ·exact⟨2,by decide,by decide,ed⟩
  ·exact⟨(1+x / 64%7).toNat,by omega,by omega,by rw [ed]; congr 2; omega⟩
 obtain⟨L,ll,hq,ek⟩:=wg y b m y0 ‹0› b0 ‹0›
 obtain⟨dp,dp2,ed⟩:∃ dp:Nat,dp<=2/\aw (.lst [.int 0,.int 0,.int 1,.int 2]) (.int (x / 8%4))=some (.int (dp:Int)):=by
  obtain⟨z,hz,ez⟩:=Do 0 0 1 2 (x / 8%4) ‹0› ‹0›
  rcases hz with rfl | rfl | rfl | rfl
  ·exact⟨0,by decide,ez⟩
  ·exact⟨0,by decide,ez⟩
  ·exact⟨1,by decide,ez⟩
  ·exact⟨2,by decide,ez⟩
 obtain⟨st,s8,s15,es⟩:∃ st:Nat,8<=st/\st<=15/\aw (.lst [.int 8,.int 15]) (.int (x / 2048%2))=some (.int (st:Int)):=by
  rcases(show x / 2048%2=0\/x / 2048%2=1 by omega) with z | z <;> rw [z]
  ·exact⟨8,by decide,by decide,rfl⟩
  ·exact⟨15,by decide,by decide,rfl⟩
 have mi:pJ [.int 3,.int (8 - (m:Int))]=some (.int (if 8 - (m:Int) < 3 then 8 - (m:Int) else 3)):=mX _ _
 generalize hmn:(if 8 - (m:Int) < 3 then 8 - (m:Int) else 3)=mv at mi
 have mv1:1<=mv/\mv<=3/\(m:Int)+mv<=8:=by rw [<- hmn]; split <;> omega
 have gv:=fun i=>bz (i:=i) (show (0:Int) < mv by omega)
 have w1:=OO (x / 4096) (show mv≠0 by omega)
 have w2:=OQ (x / 4096) (show 0 < mv by omega)
 obtain⟨wi,hw1,hw2,ew⟩:∃ wi:Nat,1<=wi/\m+wi<=8/\1+x / 4096%mv=(wi:Int):=⟨(1+x / 4096%mv).toNat,by omega,by omega,by omega⟩
 have wi3:wi<=3:=by omega
 obtain⟨v,v3,ev⟩:∃ v:Nat,v<=3/\x / 16384%4=(v:Int):=⟨(x / 16384%4).toNat,by omega,by omega⟩
 have l2:∀ a b:D,ia [a,b]=some (.lst [a,b]):=fun _ _=>nr rfl
 have t0:∀ a b:D,aw (.tup [a,b]) (.int 0)=some a:=fun _ _=>rfl
 have t1:∀ a b:D,aw (.tup [a,b]) (.int 1)=some b:=fun _ _=>rfl
 have key:∀ (u dp:Nat),u<=7->dp<=2->∃ (t:KL) (r q:List (Str×D)),Gd b (L.map (·.1)) (L.map (·.2)++t) r q/\aL 12 [.int (y+1),.int b,.int 8,.int 0,.int u,.int dp]=.ok (.tup [.tup [],.tup (r.map fld)])/\aL 12 [.int (y+2),.int b,.int st,.int wi,.int v,.int dp]=.ok (.tup [.tup (t.map kf),.tup (q.map fld)]):=fun u dp hu hd=>by
  obtain⟨ps,r,er,p0,rl,Fr,nr',_⟩:=yI dp ‹0› (y+1) b 8 0 u ‹0› ‹0› b0 ‹0› ‹0› ‹0›
  obtain⟨ps',q,eq,p0',ql,Fq,nq,t,ht,tok⟩:=yI dp ‹0› (y+2) b st wi v ‹0› ‹0› b0 ‹0› ‹0› ‹0›
  have z1:=List.length_eq_zero_iff.mp p0
  subst z1 ht
  rw [MV] at p0'
  have eq2:aL 12 [.int (y+2),.int b,.int st,.int wi,.int v,.int dp]=.ok (.tup [.tup (t.map kf),.tup (q.map fld)]):=by
   rw [eq]; unfold fm; rw [<- oP]
  have dr:=(qI dp ‹0› Fr.2.1 Fr.2.2.2).1
  have dd:=(qI dp ‹0› Fq.2.1 Fq.2.2.2).1
  have nL:Bd b ((L.map (·.1)).map (·.1)):=fun w hw=>by
   rw [Oy] at hw
   obtain⟨z,hz,rfl⟩:=List.mem_map.mp hw
   obtain⟨_,_,j,hj,e⟩:=hq z hz
   exact⟨j,by omega,e⟩
  have nL2:Bd b ((L.map (·.2)).map (·.1)):=fun w hw=>by
   rw [Oy] at hw
   obtain⟨z,hz,rfl⟩:=List.mem_map.mp hw
   obtain⟨e0,_,j,hj,e⟩:=hq z hz
   exact⟨j,by omega,by show zc b j z.2.1; rw [<- e0]; exact e⟩
  have nR:Bd b (r.map (·.1)):=yQ (st:=8) (by simpa using nr') ‹0› ‹0›
  have nT:Bd b ((t.map toD++q).map (·.1)):=yQ nq ‹0› (by rw [M8,MV]; omega)
  refine⟨t,r,q,⟨⟨by rw [MV]; omega,by rw [MV]; omega,fun p hp=>?_⟩,⟨by rw [M8,MV]; omega,by rw [M8,MV]; omega,fun p hp=>?_⟩,⟨by omega,fun p hp=>yW ‹0› (Fr.2.2.2 p hp)⟩,⟨by omega,fun p hp=>yW ‹0› (Fq.2.2.2 p hp)⟩,uM nL nR,?_,fun nm hn=>?_⟩,er,eq2⟩
  ·obtain⟨z,hz,rfl⟩:=List.mem_map.mp hp
   exact(hq z hz).2.1.o1
  ·rcases List.mem_append.mp hp with y | y
   ·obtain⟨z,hz,rfl⟩:=List.mem_map.mp y
    exact(hq z hz).2.1.o2
   ·exact tok p y
  ·have e:nms (L.map (·.2)++t) q=(L.map (·.2)).map (·.1)++(t.map toD++q).map (·.1):=by
    unfold nms
    rw [NS,NS,Oy (l:=t),NZ]; rfl
   rw [e]
   exact uM nL2 nT
  ·refine res_none (by rw [M8,MV,MV]; omega) ?_ (fun z hz=>?_) hn ‹0› ‹0›
   ·have tk:(L.map (·.2)++t).take (L.map (·.1)).length=L.map (·.2):=by
     rw [MV,<- MV (as:=L) (·.2),List.take_left]
    rw [tk,Oy,Oy]
    exact NR fun z hz=>(hq z hz).1
   ·rw [zv] at hz
    exact(hq z hz).2.1
 obtain⟨T,hT⟩:∃ T:ca,T=(aE (bi 7 (f2 aw (fR (aL 12) (af (f2 bD (fR (bv bm 1 1) (af (ai 1) (au))) (fC (.int 1))) (af (ai 2) (af (fC (.int 8)) (af (fC (.int 0)) (af (ai 6) (af (ai 5) (au)))))))) (fC (.int 1)))) (aE (bi 8 (f2 bD (fC (.int 1)) (f2 bN (f2 cx (ai 1) (fC (.int 4096))) (fL pJ (af (fC (.int 3)) (af (f2 wQ (fC (.int 8)) (ai 3)) (au))))))) (aE (bi 9 (fR (aL 12) (af (f2 bD (fR (bv bm 1 1) (af (ai 1) (au))) (fC (.int 2))) (af (ai 2) (af (f2 aw (dN (af (fC (.int 8)) (af (fC (.int 15)) (au)))) (f2 bN (f2 cx (ai 1) (fC (.int 2048))) (fC (.int 2)))) (af (ai 8) (af (f2 bN (f2 cx (ai 1) (fC (.int 16384))) (fC (.int 4))) (af (ai 5) (au))))))))) (bT (bb (af (bb (af (f2 aw (ai 4) (fC (.int 0))) (af (ai 7) (au)))) (af (bb (af (f2 bD (f2 aw (ai 4) (fC (.int 1))) (f2 aw (ai 9) (fC (.int 0)))) (af (f2 aw (ai 9) (fC (.int 1))) (au)))) (au)))))))):=⟨_,rfl⟩
 have fin:∀ (u dp:Nat) (k6 k5:D),u<=7->dp<=2->k6=.int u->k5=.int dp->∃ (k p:KL) (r q:List (Str×D)),Gd b k p r q/\T K0 [some (.val (.lst (ns.map .int))),some (.val (.int x)),some (.val (.int b)),some (.val (.int m)),some (.val (.tup [.tup ((L.map (·.1)).map kf),.tup ((L.map (·.2)).map kf)])),some (.val k5),some (.val k6),none,none,none]=.ok (.tup [fr k r,fr p q]):=fun u dp k6 k5 h1 h2 e6 e5=>by
  subst e6 e5
  obtain⟨t,r,q,F,er,eq⟩:=key u dp h1 h2
  refine⟨_,_,r,q,F,?_⟩
  have tl:=F.G.k8
  rw [M8,MV] at tl
  have ad:=eK ((L.map (·.2)).map kf) (t.map kf) (by rw [MV,MV,MV]; omega)
  rw [<- NS] at ad
  rw [hT]
  simp! only [ey,er,t0,t1,d4096,mi,gv,ew,d2048,g2,l2,es,d16384,g4,ev,eq,ad,mR]
 rw [iU]; unfold cy
 rw [<- hT]
 simp only [K0] at fin
 cases h3:(x / 32%8==3) with
 | true =>
  obtain⟨k,p,r,q,F,e⟩:=fin (x / 512%8).toNat 0 (.int (x / 512%8)) (.int 0) ‹0› (by decide) (by rw [OY ‹0›]) rfl
  refine⟨b,k,p,r,q,b0,hb,F,Eq.trans ?_ e⟩
  simp! only [ex,e1,mm,gM,hb,ey,d64,g7,g8,L8,em,ek,d8,g4,He,ed,d512,d32,h3]
 | false =>
  obtain⟨k,p,r,q,F,e⟩:=fin (x / 512%4).toNat dp (.int (x / 512%4)) (.int dp) ‹0› dp2 (by rw [OY ‹0›]) rfl
  refine⟨b,k,p,r,q,b0,hb,F,Eq.trans ?_ e⟩
  simp! only [ex,e1,mm,gM,hb,ey,d64,g7,g8,L8,em,ek,d8,g4,He,ed,d512,d32,h3]
theorem C5 (ws:List Str) (h:ws≠[]) (x:Int):∃ w∈ws,aw (.lst (ws.map .str)) (.int (x%(ws.length:Int)))=some (.str w):=by
 have ul:0 < ws.length:=List.length_pos_iff.mpr h
 have q1:=OO x (show (ws.length:Int)≠0 by omega)
 have q2:=OQ x (show (0:Int) < (ws.length:Int) by omega)
 refine⟨ws[(x%(ws.length:Int)).toNat]'‹0›,Ou _,?_⟩
 rw [xS,lO,nX q1 q2]; rfl
theorem uX (ns:List Int) {b:Int} (b0:0<=b) (hb:ns.getD 1 0*48271%2147483647=b) {k p:KL} {r q:List (Str×D)} (g:Gd b k p r q):∃ nm:Str,nm∉nms k r/\bv cG 3 7 [fr k r,fr p q,.lst (ns.map .int)]=.ok (.str nm):=by
 obtain⟨s,s0,s1,es⟩:=qi ns 1 ‹0›
 have es:bv bR 2 3 [.lst (ns.map .int),.int 1]=.ok (.int s):=es
 obtain⟨y,y0,y1,ey⟩:=j8 s s0 ‹0›
 have e1:bv bB 2 2 [.lst (ns.map .int),.int 1]=.ok (.int (ns.getD 1 0)):=qf ns 1
 have mm:=fun i=>lA (i:=i) (j:=48271) (by decide) (by decide)
 have gM:=fun i=>bz (i:=i) (show (0:Int) < 2147483647 by decide)
 obtain⟨n22,e22,h22⟩:=j9 b 22 b0 (by decide)
 obtain⟨n23,e23,_⟩:=j9 b 23 b0 (by decide)
 have k8:=g.F.k8
 have p8:=g.G.k8
 have r8:=g.A.r8
 have q8:=g.B.r8
 have l2:∀ a b:D,ia [a,b]=some (.lst [a,b]):=fun _ _=>nr rfl
 have ad1:=eK (k.map kf) (r.map fld) (by rw [MV,MV]; omega)
 have ad2:=eK (p.map kf) (q.map fld) (by rw [MV,MV]; omega)
 have c1:=vq k8 r8 [some (.val (fr k r)),some (.val (fr p q)),some (.val (.lst (ns.map .int))),some (.val (.int y)),some (.val (.int b)),none,none] (bC (f2 bD (f2 aw (ai 0) (fC (.int 0))) (f2 aw (ai 0) (fC (.int 1))))) (by simp! only [ad1])
 have c2:=vq p8 q8 [some (.val (fr k r)),some (.val (fr p q)),some (.val (.lst (ns.map .int))),some (.val (.int y)),some (.val (.int b)),some (.val (.lst ((nms k r).map .str))),none] (bC (f2 bD (f2 aw (ai 1) (fC (.int 0))) (f2 aw (ai 1) (fC (.int 1))))) (by simp! only [ad2])
 have nl:(nms p q).length<=16:=by unfold nms; rw [M8,MV,MV]; omega
 have ad3:=vS ((nms p q).map .str) [.str n22,.str n23] (by rw [MV]; simp; omega)
 have ea:(nms p q).map D.str++[.str n22,.str n23]=(nms p q++[n22,n23]).map .str:=by rw [NS]; rfl
 rw [ea] at ad3
 have c3:iW [none,some 5] (bC (ai 6)) (gN 0) (fB (f2 jl (ai 0) (ai 1))) (ai 0) [some (.val (fr k r)),some (.val (fr p q)),some (.val (.lst (ns.map .int))),some (.val (.int y)),some (.val (.int b)),some (.val (.lst ((nms k r).map .str))),some (.val (.lst ((nms p q++[n22,n23]).map .str)))]=.ok (.lst (((nms p q++[n22,n23]).filter fun w=>!(nms k r).contains w).map .str)):=by
  refine eS (ds:=(nms p q++[n22,n23]).map .str) (by simp! only []) (by rw [MV,M8]; simp; omega) ?_
  refine gB D.str (fun w=>!(nms k r).contains w) D.str _ fun w _=>⟨_,rfl,?_,rfl⟩
  have ni:=uD w (nms k r)
  simp! only [ni]
 have ne:((nms p q++[n22,n23]).filter fun w=>!(nms k r).contains w)≠[]:=fun z=>by
  have m:n22∈(nms p q++[n22,n23]).filter fun w=>!(nms k r).contains w:=List.mem_filter.mpr ⟨MP _ MI,by
   have:=zx g.n1 (w:=n22) (i:=22) (by decide) (by decide) h22
   simpa using this⟩
  rw [z] at m; cases m
 obtain⟨nm,hm,em⟩:=C5 _ ne y
 refine⟨nm,by have:=(List.mem_filter.mp hm).2; simpa using this,?_⟩
 have gl:=fun i=>bz (i:=i) (show (0:Int) < (((nms p q++[n22,n23]).filter fun w=>!(nms k r).contains w).length:Int) by have:=List.length_pos_iff.mpr ne; omega)
 generalize ((nms p q++[n22,n23]).filter fun w=>!(nms k r).contains w)=W at c3 em gl
 generalize (nms p q++[n22,n23]).map D.str=W0 at ad3 c3
 rw [gD]; unfold cG
 simp! only [es,ey,e1,mm,gM,hb,c1,c2,e22,e23,l2,ad3,c3,MV,gl,em]
theorem names24 (b:Int) (hb:0<=b):∃ L:List Str,L.length=24/\L.Nodup/\∀ j:Nat,j < 24->bv aK 2 7 [.int b,.int j]=.ok (.str (L.getD j ""))/\zc b j (L.getD j ""):=by
 have h:=fun j:Nat=>j9 b j hb ‹0›
 obtain⟨f,hf⟩:∃ f:Nat->Str,∀ j:Nat,bv aK 2 7 [.int b,.int j]=.ok (.str (f j))/\zc b j (f j):=⟨fun j=>(h j).choose,fun j=>(h j).choose_spec⟩
 refine⟨(List.range 24).map f,by simp,?_,fun j hj=>?_⟩
 ·refine List.pairwise_map.mpr (List.nodup_range.imp_of_mem fun {i j} hi hj hne e=>hne ?_)
  have hi:=List.mem_range.mp hi
  have hj:=List.mem_range.mp hj
  have h1:=(hf i).2
  have h2:=(hf j).2
  rw [e] at h1
  have:=yY ‹0› ‹0› ‹0› ‹0› h1 h2
  omega
 ·have e:((List.range 24).map f).getD j ""=f j:=by
   rw [Ow,M6,NW hj]; rfl
  rw [e]
  exact hf j
theorem BZ (b:Int) (hb:0<=b) (M:List Str) (hM:Bd b M):∃ sp:List Str,2<=sp.length/\∀ x0 x1 x2 x3 x6 x7 x8 x9 x10 x11 x12 x13:Option S,iW [none,some 4,some 5] (dz (af (fC (.int 24)) (au))) (gN 0) (fB (f2 jl (fR (bv aK 2 7) (af (ai 1) (af (ai 0) (au)))) (ai 2))) (fR (bv aK 2 7) (af (ai 1) (af (ai 0) (au)))) [x0,x1,x2,x3,some (.val (.int b)),some (.val (.lst (M.map .str))),x6,x7,x8,x9,x10,x11,x12,x13]=.ok (.lst (sp.map .str)):=by
 obtain⟨L,l1,l2,l3⟩:=names24 b hb
 have lo:2<=(L.filter fun w=>!M.contains w).length:=by
  have out:∀ j:Nat,22<=j->j < 24->(!M.contains (L.getD j ""))=true:=fun j h1 h2=>by
   have:=zx hM h1 h2 (l3 j h2).2
   simpa using this
  have e:L=L.take 22++[L.getD 22 "",L.getD 23 ""]:=by
   conv=>lhs; rw [<- List.take_append_drop 22 L]
   congr 1
   rw [NX ‹0›,NX ‹0›,OH ‹0›,Ow,Ow,NF ‹0›,NF ‹0›]; rfl
  have f2:([L.getD 22 "",L.getD 23 ""].filter fun w=>!M.contains w)=[L.getD 22 "",L.getD 23 ""]:=by
   refine List.filter_eq_self.mpr fun w hw=>?_
   rcases List.mem_cons.mp hw with z | z
   ·rw [z]; exact out 22 (by decide) (by decide)
   ·rw [List.mem_singleton.mp z]; exact out 23 (by decide) (by decide)
  rw [e,OU,M8,f2]
  simp
 have r24:jf [.int 24]=some (eI 0 24):=fe 24 (by decide)
 refine⟨L.filter fun w=>!M.contains w,lo,fun x0 x1 x2 x3 x6 x7 x8 x9 x10 x11 x12 x13=>?_⟩
 refine eS (ds:=eI 0 24) (by simp! only [r24]) (by rw [cj]; decide) ?_
 have eL:L=(List.range 24).map fun j=>L.getD j "":=by
  apply List.ext_getElem?
  intro j
  rw [M6]
  by_cases hj:j < 24
  ·rw [NW hj,OC,Ow,NF ‹0›]; rfl
  ·rw [OB ‹0›,OB (by rw [NU]; omega)]; rfl
 have key:=gB (ρ:=inB [none,some 4,some 5] [x0,x1,x2,x3,some (.val (.int b)),some (.val (.lst (M.map .str))),x6,x7,x8,x9,x10,x11,x12,x13]) (g:=gN 0) (C:=fB (f2 jl (fR (bv aK 2 7) (af (ai 1) (af (ai 0) (au)))) (ai 2))) (Fe:=fR (bv aK 2 7) (af (ai 1) (af (ai 0) (au)))) (fun j:Nat=>D.int (0+(j:Int))) (fun j=>!M.contains (L.getD j "")) (fun j=>.str (L.getD j "")) (List.range 24) fun j hj=>by
  obtain⟨e,_⟩:=l3 j (List.mem_range.mp hj)
  have ni:=uD (L.getD j "") M
  refine⟨[some (.val (.int (0+(j:Int)))),some (.val (.int b)),some (.val (.lst (M.map .str)))],rfl,?_,?_⟩
  ·rw [Int.zero_add]
   simp! only [e,ni]
  ·rw [Int.zero_add]
   simp! only [e]
 rw [fu]
 refine Eq.trans key ?_
 have e2:(L.filter fun w=>!M.contains w)=((List.range 24).filter fun j=>!M.contains (L.getD j "")).map fun j=>L.getD j "":=by
  conv=>lhs; rw [eL]
  rw [List.filter_map]; rfl
 rw [e2,Oy]; rfl
theorem math (ns:List Int) (hl:ns.length<=63):bv qK 1 14 [.lst (ns.map .int)]=.ok (.bl true):=by
 obtain⟨b,k,p,r,q,b0,hb,g,ej⟩:=wz ns
 obtain⟨nm,hn,en⟩:=uX ns b0 hb g
 have e1:bv bB 2 2 [.lst (ns.map .int),.int 1]=.ok (.int (ns.getD 1 0)):=qf ns 1
 obtain⟨c2,e2⟩:=TD.Jn ns 2 (by decide)
 generalize ns.getD 1 0=c1 at e1 hb
 have mm:=fun i=>lA (i:=i) (j:=48271) (by decide) (by decide)
 have gM:=fun i=>bz (i:=i) (show (0:Int) < 2147483647 by decide)
 have g3:=fun i=>bz (i:=i) (show (0:Int) < 3 by decide)
 have d3:=fun i=>bO (i:=i) (show (0:Int) < 3 by decide) (show (3:Int) < 10 ^ 200 by decide)
 have k8:=g.F.k8
 have p8:=g.G.k8
 have r8:=g.A.r8
 have q8:=g.B.r8
 have f0:=qL g.F g.G g.A g.B nm
 rw [g.none nm hn] at f0
 have bq:((("none":Str))==(("none":Str)))=true:=by decide +kernel
 obtain⟨n,hn3,en3⟩:∃ n:Nat,n < 3/\c2%3=(n:Int):=⟨(c2%3).toNat,by omega,by omega⟩
 have rn:=fe n ‹0›
 have un2:∀ (a b:D) (ρ:av),gT 2 (e7 [1,2]) (.tup [a,b]) ρ=some (setV 2 b (setV 1 a ρ)):=fun _ _ _=>rfl
 have evU:∀ (f:FX) (g:GF) (k:Ks) (ρ:av),D8 f g k ρ=p9 (f ρ) k ρ fun d=>(rO (g d ρ)).bind k.nx:=fun _ _ _ _=>rfl
 have em:k.map kf++r.map fld++p.map kf++q.map fld=(k.map toD++r++p.map toD++q).map fld:=by
  rw [NS,NS,NS,oP,oP]
 have ad1:=eK (k.map kf) (r.map fld) (by rw [MV,MV]; omega)
 have ad2:=eK (k.map kf++r.map fld) (p.map kf) (by rw [M8,MV,MV,MV]; omega)
 have ad3:=eK (k.map kf++r.map fld++p.map kf) (q.map fld) (by rw [M8,M8,MV,MV,MV,MV]; omega)
 have c5:=q5 [some (.val (.lst (ns.map .int))),some (.val (fr k r)),some (.val (fr p q)),some (.val (.str nm)),some (.val (.int b)),none,none,none,none,none,none,none,none,none] (bC (f2 bD (f2 bD (f2 bD (f2 aw (ai 1) (fC (.int 0))) (f2 aw (ai 1) (fC (.int 1)))) (f2 aw (ai 2) (fC (.int 0)))) (f2 aw (ai 2) (fC (.int 1))))) (k.map toD++r++p.map toD++q) (by rw [<- em]; simp! only [ad1,ad2,ad3]) (by rw [M8,M8,M8,MV,MV]; omega)
 have e5:(k.map toD++r++p.map toD++q).map (·.1)=nms k r++nms p q:=by
  unfold nms
  rw [NS,NS,NS,Oy,Oy,NZ]; rfl
 rw [e5] at c5
 obtain⟨sp,s2,es⟩:=BZ b b0 _ (uM g.n1 g.n2)
 obtain⟨T,hT⟩:∃ T:ca,T=(aE (bi 11 (fR (bv bR 2 3) (af (ai 0) (af (fC (.int 5)) (au))))) (aE (bi 12 (f2 bD (iW [none,none] (bC (f2 bD (f2 aw (ai 1) (fC (.int 0))) (f2 aw (ai 1) (fC (.int 1))))) (gT 2 (e7 [0,1])) (cW) (ai 0)) (dN (af (ai 3) (au))))) (cI [0,4,5,6,9,10] (aE (jj (bC (dN (af (ai 3) (af (f2 aw (ai 12) (f2 bN (ai 11) (fL fW (af (ai 12) (au))))) (au))))) (gN 13) (aE (eY (fB (f2 uh (fR (bv bX 3 5) (af (ai 7) (af (ai 8) (af (ai 13) (au))))) (fR (bv gb 3 7) (af (ai 7) (af (ai 8) (af (ai 13) (au))))))) (bT (fC (.bl false))) (bI)) (cI [13] bI))) (bT (f2 dL (fR (bv bX 3 5) (af (ai 1) (af (ai 2) (af (ai 3) (au))))) (fC (.str "none")))))))):=⟨_,rfl⟩
 rw [iU]; unfold qK
 rw [<- hT]
 simp! only [evU,ej,un2,en,f0,bq,e1,mm,gM,hb,c5,es,e2,g3,en3,rn]
 refine ig (Q:=fun z=>z=.ok (.bl true)) (fun j ρ=>∃ (p':KL) (r' q':List (Str×D)),KO p'/\RO r'/\RO q'/\ρ=[some (.val (.lst (ns.map .int))),some (.val (fr k r)),some (.val (fr p q)),some (.val (.str nm)),some (.val (.int b)),none,some (.val (.lst (sp.map .str))),some (.val (fr k r')),some (.val (fr p' q')),none,none,none,none,none]) ?_ ⟨p,r,q,g.G,g.A,g.B,rfl⟩ ?_
 ·rintro j d ρ kk hd ⟨p',r',q',G',A',B',rfl⟩
  have hj:=fj hd
  rw [cj] at hj
  have hdi:d=.int (j:Int):=by
   rw [fu,M6,NW hj] at hd
   cases hd; simp
  subst hdi
  obtain⟨s,s0,s1,ese⟩:=qi ns (3+j) ‹0›
  have ese:bv bR 2 3 [.lst (ns.map .int),.int (3+(j:Int))]=.ok (.int s):=by
   have c:((3+j:Nat):Int)=3+(j:Int):=by omega
   rw [<- c]; exact ese
  have ct:cutD (sp.map D.str) (some (2:Int)) none=(sp.drop 2).map .str:=by
   have:=qF (sp.map D.str) 2
   rw [OW]; exact this
  cases h0:(s%3==0) with
  | true =>
   have si:j < sp.length:=by omega
   have ei:aw (.lst (sp.map .str)) (.int (j:Int))=some (.str sp[j]):=by
    rw [xS,lO,jK si]; rfl
   obtain⟨p2,G2,e⟩:=xq g.F G' (s / 3) sp[j]
   refine⟨_,_,rfl,⟨p2,r',q',G2,A',B',rfl⟩,?_⟩
   simp! only [ese,g3,h0,d3,ei,e,mR]
  | false =>
   cases h1:(s%3==1) with
   | true =>
    obtain⟨r2,A2,e⟩:=zk A' b b0 (s / 3) (sp.drop 2)
    refine⟨_,_,rfl,⟨p',r2,q',G',A2,B',rfl⟩,?_⟩
    simp! only [ese,g3,h0,h1,d3,ct,e,mR]
   | false =>
    obtain⟨q2,B2,e⟩:=zk B' b b0 (s / 3) (sp.drop 2)
    refine⟨_,_,rfl,⟨p',r',q2,G',A',B2,rfl⟩,?_⟩
    simp! only [ese,g3,h0,h1,d3,ct,e,mR]
 ·rintro ρ' ⟨p',r',q',G',A',B',rfl⟩
  obtain⟨y,y0,y1,ey⟩:=qi ns 5 ‹0›
  have ey:bv bR 2 3 [.lst (ns.map .int),.int 5]=.ok (.int y):=ey
  have c6:=vq k8 r8 [some (.val (.lst (ns.map .int))),some (.val (fr k r)),some (.val (fr p q)),some (.val (.str nm)),some (.val (.int b)),none,some (.val (.lst (sp.map .str))),some (.val (fr k r')),some (.val (fr p' q')),none,none,some (.val (.int y)),none,none] (bC (f2 bD (f2 aw (ai 1) (fC (.int 0))) (f2 aw (ai 1) (fC (.int 1))))) (by simp! only [ad1])
  have nl:(nms k r).length<=16:=by unfold nms; rw [M8,MV,MV]; omega
  have ad4:=vS ((nms k r).map .str) [.str nm] (by rw [MV]; simp; omega)
  have ea:(nms k r).map D.str++[.str nm]=(nms k r++[nm]).map .str:=by rw [NS]; rfl
  rw [ea] at ad4
  obtain⟨w,_,ew⟩:=C5 (nms k r++[nm]) (by simp) y
  have gl:=fun i=>bz (i:=i) (show (0:Int) < ((nms k r++[nm]).length:Int) by rw [M8,Nh]; omega)
  have l1:∀ a:D,ia [a]=some (.lst [a]):=fun _=>nr rfl
  have l2:∀ a b:D,ia [a,b]=some (.lst [a,b]):=fun _ _=>nr rfl
  generalize nms k r++[nm]=W at ad4 ew gl
  have a1:=qL g.F G' A' B' nm
  have a2:=Di g.F G' A' B' nm
  have a3:=qL g.F G' A' B' w
  have a4:=Di g.F G' A' B' w
  rw [hT]
  simp! only [ey,c6,l1,ad4,MV,gl,ew,l2,Il,H0,a1,a2,a3,a4,BEq.rfl,f0,bq]
end Tk55
open PySem PySem.W PyProof.Rows
theorem PySem.W.Fast.tw15353203430101097242 : True := trivial
theorem PySem.W.Fast.tw7662357597179959402 : True := trivial
theorem PySem.W.Fast.tw12937016949781107226 : True := trivial
theorem PySem.W.Fast.tw13747185905506632174 : True := trivial
theorem PySem.W.Fast.tw7908496057402700937 : True := trivial
theorem PySem.W.Fast.tw6493784312179486243 : True := trivial
theorem PySem.W.Fast.tw2255487732723462115 : True := trivial
theorem PySem.W.Fast.tw14937277050282037195 : True := trivial
theorem PySem.W.Fast.tw12319875464054444669 : True := trivial
theorem PySem.W.Fast.tw7247937652741389483 : True := trivial
theorem PySem.W.Fast.tw5377606677855133936 : True := trivial
theorem PySem.W.Fast.tw1487313327405350866 : True := trivial
theorem PySem.W.Fast.tw11973304176965422774 : True := trivial
theorem PySem.W.Fast.tw13140356639651568019 : True := trivial
theorem PySem.W.Fast.tw7276011306916804778 : True := trivial
theorem PySem.W.Fast.tw8760588964653428711 : True := trivial
theorem PySem.W.Fast.tw17428935905675380016 : True := trivial
theorem PySem.W.Fast.tw3703702222357819211 : True := trivial
theorem PySem.W.Fast.tw701728605339065318 : True := trivial
theorem PySem.W.Fast.tw16416331310808204078 : True := trivial
theorem PySem.W.Fast.tw5503040006288186436 : True := trivial
theorem PySem.W.Fast.tw13398340227803368142 : True := trivial
theorem PySem.W.Fast.tw6632027394769227518 : True := trivial
theorem PySem.W.Fast.tw6319267904900012885 : True := trivial
theorem PySem.W.Fast.tw3632354904597339470 : True := trivial
theorem PySem.W.Fast.tw8003904219786628323 : True := trivial
theorem PySem.W.Fast.tw10898447042686403338 : True := trivial
theorem PySem.W.Fast.tw15461642760888409072 : True := trivial
theorem PySem.W.Fast.tw1973245979274709864 : True := trivial
theorem PySem.W.Fast.tw1166650423836970815 : True := trivial
theorem PySem.W.Fast.tw13401802574048912832 : True := trivial
theorem PySem.W.Fast.tw1775136816723235461 : True := trivial
theorem PySem.W.Fast.tw2500345138544608879 : True := trivial
theorem PySem.W.Fast.tw18075624158626694214 : True := trivial
theorem PySem.W.Fast.tw771734062666843191 : True := trivial
theorem PySem.W.Fast.tw17434572135588516519 : True := trivial
theorem PySem.W.Fast.tw7193331690157484899 : True := trivial
theorem PySem.W.Fast.tw991328103405288660 : True := trivial
theorem PySem.W.Fast.tw3106409274227129141 : True := trivial
theorem PySem.W.Fast.tw4711103573014142052 : True := trivial
theorem PySem.W.Fast.tw7473288534582305344 : True := trivial
theorem PySem.W.Fast.tw15501892287064097394 : True := trivial
theorem PySem.W.Fast.tw1898743040877366314 : True := trivial
theorem PySem.W.Fast.tw13246579890519373754 : True := trivial
theorem PySem.W.Fast.tw10926227865217555886 : True := trivial
theorem PySem.W.Fast.tw7566062756487402110 : True := trivial
theorem PySem.W.Fast.tw11724228398481718402 : True := trivial
theorem PySem.W.Fast.tw15275343351502057871 : True := trivial
theorem PySem.W.Fast.tw9210753894272562047 : True := trivial
theorem PySem.W.Fast.tw16545439413433051860 : True := trivial
theorem PySem.W.Fast.tw4249504290050229091 : True := trivial
theorem PySem.W.Fast.tw17435336167272073744 : True := trivial
theorem PySem.W.Fast.tw13185787777422874270 : True := trivial
theorem PySem.W.Fast.tw11234459526038553960 : True := trivial
theorem PySem.W.Fast.tw3832757282356100657 : True := trivial
theorem PySem.W.Fast.tw2732970678292219593 : True := trivial
theorem PySem.W.Fast.tw7548383759731542526 : True := trivial
theorem PySem.W.Fast.tw5366071371814327091 : True := trivial
theorem PySem.W.Fast.tw11279245458055764868 : True := trivial
theorem PySem.W.Fast.tw8454078474455721955 : True := trivial
theorem PySem.W.Fast.tw5905391453565780563 : True := trivial
theorem PySem.W.Fast.tw14969080676590542301 : True := trivial
theorem PySem.W.Fast.tw15044640872795115666 : True := trivial
theorem PySem.W.Fast.tw924818956612964209 : True := trivial
theorem PySem.W.Fast.tw15732921495243509881 : True := trivial
theorem PySem.W.Fast.tw1173171319527393613 : True := trivial
theorem PySem.W.Fast.tw9500149459298842489 : True := trivial
theorem PySem.W.Fast.tw1426840140765950996 : True := trivial
theorem PySem.W.Fast.tw6787740444680654776 : True := trivial
theorem PySem.W.Fast.tw1705253234014937495 : True := trivial
theorem PySem.W.Fast.tw12569184685200066583 : True := trivial
theorem PySem.W.Fast.tw15526988891407864807 : True := trivial
theorem PySem.W.Fast.tw4536257151260648408 : True := trivial
theorem PySem.W.Fast.tw4603969838818881345 : True := trivial
theorem PySem.W.Fast.tw13990440120648944446 : True := trivial
theorem PySem.W.Fast.tw493458879696481956 : True := trivial
theorem PySem.W.Fast.tw9552523736039718030 : True := trivial
theorem PySem.W.Fast.tw16129974187697125362 : True := trivial
theorem PySem.W.Fast.tw9066014611435906511 : True := trivial
theorem PySem.W.Fast.tw6757322364457728150 : True := trivial
theorem PySem.W.Fast.tw8457609590851339011 : True := trivial
theorem PySem.W.Fast.tw1134518419930447069 : True := trivial
theorem PySem.W.Fast.tw15456201632830324453 : True := trivial
theorem PySem.W.Fast.tw12097841763907136239 : True := trivial
theorem PySem.W.Fast.tw13783085680663700205 : True := trivial
theorem PySem.W.Fast.tw11552557793814791365 : True := trivial
theorem PySem.W.Fast.tw13356471657737588943 : True := trivial
theorem PySem.W.Fast.tw4389558224087235527 : True := trivial
theorem PySem.W.Fast.tw16356833237505643163 : True := trivial
theorem PySem.W.Fast.tw6642525003149332302 : True := trivial
theorem PySem.W.Fast.tw8804866148149361771 : True := trivial
theorem PySem.W.Fast.tw7868316032819096131 : True := trivial
theorem PySem.W.Fast.tw10293521306342096421 : True := trivial
theorem PySem.W.Fast.tw382922528432748038 : True := trivial
theorem PySem.W.Fast.tw17898666195386871722 : True := trivial
theorem PySem.W.Fast.tw12410046960756985949 : True := trivial
theorem PySem.W.Fast.tw18440619328179393456 : True := trivial
theorem PySem.W.Fast.tw9448227863163964058 : True := trivial
theorem PySem.W.Fast.tw16533390621271199114 : True := trivial
theorem PySem.W.Fast.tw379509880824635992 : True := trivial
theorem PySem.W.Fast.tw7591834010434542675 : True := trivial
theorem PySem.W.Fast.tw2774771972580034622 : True := trivial
theorem PySem.W.Fast.tw12097126363449469059 : True := trivial
theorem PySem.W.Fast.tw7325701410035903349 : True := trivial
theorem PySem.W.Fast.tw9825388384597542922 : True := trivial
theorem PySem.W.Fast.tw7568426534314106194 : True := trivial
theorem PySem.W.Fast.tw7823413423855633764 : True := trivial
theorem PySem.W.Fast.tw13484693612852592129 : True := trivial
theorem PySem.W.Fast.tw9345835380057624418 : True := trivial
theorem PySem.W.Fast.tw6518318006583451207 : True := trivial
theorem PySem.W.Fast.tw12015886027901001179 : True := trivial
theorem PySem.W.Fast.tw11241113019108803119 : True := trivial
theorem PySem.W.Fast.tw14518239509930797223 : True := trivial
set_option maxRecDepth 100000 in
set_option maxHeartbeats 0 in
theorem PySem.Challenge.cw_twoglass_k55_gathers_refused_holds : PySem.Challenge.rw_twoglass_k55_gathers_refused.Holds := by
  w_on; o_law; k_head; (case hw => w_witness2)
  k_fill
  refine Tk55.walk (l := PySem.Challenge.rw_twoglass_k55_gathers_refused) rfl rfl (fun w h Y => PySem.W.kIn_of Y) ?F Tk55.math
  case F =>
    intro w mg fa h KX G hmg
    refine' Tk55.all_mk KX G hmg ?ac0 ?ac1 ?a0 ?l0 ?c0 ?k0 ?a1 ?i1 ?l1 ?c1 ?k1 ?a2 ?l2 ?c2 ?k2 ?a3 ?l3 ?c3 ?k3 ?a4 ?l4 ?c4 ?k4 ?a5 ?l5 ?c5 ?k5 ?a6 ?l6 ?c6 ?k6 ?a7 ?l7 ?c7 ?k7 ?a8 ?l8 ?c8 ?k8 ?a9 ?i9 ?l9 ?c9 ?k9 ?a10 ?l10 ?c10 ?k10 ?a11 ?l11 ?c11 ?k11 ?a12 ?l12 ?c12 ?k12 ?a13 ?l13 ?c13 ?k13 ?a14 ?l14 ?c14 ?k14 ?a15 ?l15 ?c15 ?k15 ?a16 ?l16 ?c16 ?k16 ?a17 ?l17 ?c17 ?k17 ?a18 ?l18 ?c18 ?k18 ?a19 ?l19 ?c19 ?k19 ?a20 ?l20 ?c20 ?k20 ?a21 ?l21 ?c21 ?k21 ?a22 ?l22 ?c22 ?k22 ?a23 ?l23 ?c23 ?k23 ?a24 ?l24 ?c24 ?k24 ?a25 ?l25 ?c25 ?k25 ?a26 ?l26 ?c26 ?k26 ?a27 ?l27 ?c27 ?k27 ?a28 ?l28 ?c28 ?k28 ?a29 ?i29 ?l29 ?c29 ?k29 ?p0 ?q0 ?r0 ?s0 ?n0_0 ?m0 ?kp0 ?p1 ?q1 ?r1 ?s1 ?xa0 ?xa1 ?xa2 ?xa3 ?xa4 ?xa5 ?xa6 ?xa7 ?xa8 ?xa9 ?xa10 ?xa11 ?xa12 ?xa13 ?xe4 ?xe3 ?xe5 ?xe7 ?xsg ?xtk ?xg5 ?xn5 ?xf5 ?xb5 ?xg4 ?xn4 ?xf4 ?xb4 ?xg3 ?xn3 ?xf3 ?xb3 ?xg7 ?xn7 ?xf7 ?xb7 ?xo0 ?xt0 ?xo1 ?xt1 ?xo2 ?xt2 ?xo3 ?xt3 ?xo4 ?xt4 ?xo5 ?xt5 ?xo6 ?xt6 ?xo7 ?xt7 ?xo8 ?xt8 ?xo9 ?xt9 ?xo10 ?xt10 ?xo11 ?xt11 ?xo12 ?xt12 ?xo13 ?xt13 ?xw13 ?xm13_5 ?xm13_4 ?xm13_3 ?xm13_7 ?xk0_5 ?vnx0_5 ?xk0_4 ?vnx0_4 ?xk0_3 ?vnx0_3 ?xk0_7 ?vnx0_7 ?xk1_5 ?vnx1_5 ?xk1_4 ?vnx1_4 ?xk1_3 ?vnx1_3 ?xk1_7 ?vnx1_7 ?xk2_5 ?vnx2_5 ?xk2_4 ?vnx2_4 ?xk2_3 ?vnx2_3 ?xk2_7 ?vnx2_7 ?xk3_5 ?vnx3_5 ?xk3_4 ?vnx3_4 ?xk3_3 ?xk3_7 ?vnx3_7 ?xk4_5 ?vnx4_5 ?xk4_4 ?xk4_3 ?vnx4_3 ?xk4_7 ?vnx4_7 ?xk5_5 ?xk5_4 ?vnx5_4 ?xk5_3 ?vnx5_3 ?xk5_7 ?vnx5_7 ?xk6_5 ?vnx6_5 ?xk6_4 ?vnx6_4 ?xk6_3 ?vnx6_3 ?xk6_7 ?vnx6_7 ?xk7_5 ?vnx7_5 ?xk7_4 ?vnx7_4 ?xk7_3 ?vnx7_3 ?xk7_7 ?xk8_5 ?vnx8_5 ?xk8_4 ?vnx8_4 ?xk8_3 ?vnx8_3 ?xk8_7 ?vnx8_7 ?xk9_5 ?vnx9_5 ?xk9_4 ?vnx9_4 ?xk9_3 ?vnx9_3 ?xk9_7 ?vnx9_7 ?xk10_5 ?vnx10_5 ?xk10_4 ?vnx10_4 ?xk10_3 ?vnx10_3 ?xk10_7 ?vnx10_7 ?xk11_5 ?vnx11_5 ?xk11_4 ?vnx11_4 ?xk11_3 ?vnx11_3 ?xk11_7 ?vnx11_7 ?xk12_5 ?vnx12_5 ?xk12_4 ?vnx12_4 ?xk12_3 ?vnx12_3 ?xk12_7 ?vnx12_7 ?xv_ValueError_5 ?xv_ValueError_4 ?xv_ValueError_3 ?xv_ValueError_7 ?z0 ?z1 ?z2 ?z3 ?z4 ?z5 ?z6 ?z7 ?z8 ?z9 ?z10 ?z11 ?e0 ?e1
    (case ac0 => k_is)
    (case ac1 => k_is)
    (case a0 => k_is)
    (case l0 => delta TX.Lk; k_is)
    (case c0 => k_is)
    (case k0 => k_is)
    (case a1 => k_is)
    (case i1 => k_is)
    (case l1 => delta TX.Lk; k_is)
    (case c1 => k_is)
    (case k1 => k_is)
    (case a2 => k_is)
    (case l2 => delta TX.Lk; k_is)
    (case c2 => k_is)
    (case k2 => k_is)
    (case a3 => k_is)
    (case l3 => delta TX.Lk; k_is)
    (case c3 => k_is)
    (case k3 => k_is)
    (case a4 => k_is)
    (case l4 => delta TX.Lk; k_is)
    (case c4 => k_is)
    (case k4 => k_is)
    (case a5 => k_is)
    (case l5 => delta TX.Lk; k_is)
    (case c5 => k_is)
    (case k5 => k_is)
    (case a6 => k_is)
    (case l6 => delta TX.Lk; k_is)
    (case c6 => k_is)
    (case k6 => k_is)
    (case a7 => k_is)
    (case l7 => delta TX.Lk; k_is)
    (case c7 => k_is)
    (case k7 => k_is)
    (case a8 => k_is)
    (case l8 => delta TX.Lk; k_is)
    (case c8 => k_is)
    (case k8 => k_is)
    (case a9 => k_is)
    (case i9 => k_is)
    (case l9 => delta TX.Lk; k_is)
    (case c9 => k_is)
    (case k9 => k_is)
    (case a10 => k_is)
    (case l10 => delta TX.Lk; k_is)
    (case c10 => k_is)
    (case k10 => k_is)
    (case a11 => k_is)
    (case l11 => delta TX.Lk; k_is)
    (case c11 => k_is)
    (case k11 => k_is)
    (case a12 => k_is)
    (case l12 => delta TX.Lk; k_is)
    (case c12 => k_is)
    (case k12 => k_is)
    (case a13 => k_is)
    (case l13 => delta TX.Lk; k_is)
    (case c13 => k_is)
    (case k13 => k_is)
    (case a14 => k_is)
    (case l14 => delta TX.Lk; k_is)
    (case c14 => k_is)
    (case k14 => k_is)
    (case a15 => k_is)
    (case l15 => delta TX.Lk; k_is)
    (case c15 => k_is)
    (case k15 => k_is)
    (case a16 => k_is)
    (case l16 => delta TX.Lk; k_is)
    (case c16 => k_is)
    (case k16 => k_is)
    (case a17 => k_is)
    (case l17 => delta TX.Lk; k_is)
    (case c17 => k_is)
    (case k17 => k_is)
    (case a18 => k_is)
    (case l18 => delta TX.Lk; k_is)
    (case c18 => k_is)
    (case k18 => k_is)
    (case a19 => k_is)
    (case l19 => delta TX.Lk; k_is)
    (case c19 => k_is)
    (case k19 => k_is)
    (case a20 => k_is)
    (case l20 => delta TX.Lk; k_is)
    (case c20 => k_is)
    (case k20 => k_is)
    (case a21 => k_is)
    (case l21 => delta TX.Lk; k_is)
    (case c21 => k_is)
    (case k21 => k_is)
    (case a22 => k_is)
    (case l22 => delta TX.Lk; k_is)
    (case c22 => k_is)
    (case k22 => k_is)
    (case a23 => k_is)
    (case l23 => delta TX.Lk; k_is)
    (case c23 => k_is)
    (case k23 => k_is)
    (case a24 => k_is)
    (case l24 => delta TX.Lk; k_is)
    (case c24 => k_is)
    (case k24 => k_is)
    (case a25 => k_is)
    (case l25 => delta TX.Lk; k_is)
    (case c25 => k_is)
    (case k25 => k_is)
    (case a26 => k_is)
    (case l26 => delta TX.Lk; k_is)
    (case c26 => k_is)
    (case k26 => k_is)
    (case a27 => k_is)
    (case l27 => delta TX.Lk; k_is)
    (case c27 => k_is)
    (case k27 => k_is)
    (case a28 => k_is)
    (case l28 => delta TX.Lk; k_is)
    (case c28 => k_is)
    (case k28 => k_is)
    (case a29 => k_is)
    (case i29 => k_is)
    (case l29 => delta TX.Lk; k_is)
    (case c29 => k_is)
    (case k29 => k_is)
    (case p0 => k_is)
    (case q0 => k_is)
    (case r0 => k_is)
    (case s0 => k_is)
    (case n0_0 => k_is)
    (case m0 => k_is)
    (case kp0 => k_is)
    (case p1 => k_is)
    (case q1 => k_is)
    (case r1 => k_is)
    (case s1 => k_is)
    (case xa0 => k_is)
    (case xa1 => k_is)
    (case xa2 => k_is)
    (case xa3 => k_is)
    (case xa4 => k_is)
    (case xa5 => k_is)
    (case xa6 => k_is)
    (case xa7 => k_is)
    (case xa8 => k_is)
    (case xa9 => k_is)
    (case xa10 => k_is)
    (case xa11 => k_is)
    (case xa12 => k_is)
    (case xa13 => k_is)
    (case xe4 => k_exc)
    (case xe3 => k_exc)
    (case xe5 => k_exc)
    (case xe7 => k_exc)
    (case xsg => k_is)
    (case xtk => k_is)
    (case xg5 => k_is)
    (case xn5 => k_is)
    (case xf5 => k_is)
    (case xb5 => k_is)
    (case xg4 => k_is)
    (case xn4 => k_is)
    (case xf4 => k_is)
    (case xb4 => k_is)
    (case xg3 => k_is)
    (case xn3 => k_is)
    (case xf3 => k_is)
    (case xb3 => k_is)
    (case xg7 => k_is)
    (case xn7 => k_is)
    (case xf7 => k_is)
    (case xb7 => k_is)
    (case xo0 => k_is)
    (case xt0 => k_is)
    (case xo1 => k_is)
    (case xt1 => k_is)
    (case xo2 => k_is)
    (case xt2 => k_is)
    (case xo3 => k_is)
    (case xt3 => k_is)
    (case xo4 => k_is)
    (case xt4 => k_is)
    (case xo5 => k_is)
    (case xt5 => k_is)
    (case xo6 => k_is)
    (case xt6 => k_is)
    (case xo7 => k_is)
    (case xt7 => k_is)
    (case xo8 => k_is)
    (case xt8 => k_is)
    (case xo9 => k_is)
    (case xt9 => k_is)
    (case xo10 => k_is)
    (case xt10 => k_is)
    (case xo11 => k_is)
    (case xt11 => k_is)
    (case xo12 => k_is)
    (case xt12 => k_is)
    (case xo13 => k_is)
    (case xt13 => k_is)
    (case xw13 => k_is)
    (case xm13_5 => k_is)
    (case xm13_4 => k_is)
    (case xm13_3 => k_is)
    (case xm13_7 => k_is)
    (case xk0_5 => k_is)
    (case vnx0_5 => decide)
    (case xk0_4 => k_is)
    (case vnx0_4 => decide)
    (case xk0_3 => k_is)
    (case vnx0_3 => decide)
    (case xk0_7 => k_is)
    (case vnx0_7 => decide)
    (case xk1_5 => k_is)
    (case vnx1_5 => decide)
    (case xk1_4 => k_is)
    (case vnx1_4 => decide)
    (case xk1_3 => k_is)
    (case vnx1_3 => decide)
    (case xk1_7 => k_is)
    (case vnx1_7 => decide)
    (case xk2_5 => k_is)
    (case vnx2_5 => decide)
    (case xk2_4 => k_is)
    (case vnx2_4 => decide)
    (case xk2_3 => k_is)
    (case vnx2_3 => decide)
    (case xk2_7 => k_is)
    (case vnx2_7 => decide)
    (case xk3_5 => k_is)
    (case vnx3_5 => decide)
    (case xk3_4 => k_is)
    (case vnx3_4 => decide)
    (case xk3_3 => k_is)
    (case xk3_7 => k_is)
    (case vnx3_7 => decide)
    (case xk4_5 => k_is)
    (case vnx4_5 => decide)
    (case xk4_4 => k_is)
    (case xk4_3 => k_is)
    (case vnx4_3 => decide)
    (case xk4_7 => k_is)
    (case vnx4_7 => decide)
    (case xk5_5 => k_is)
    (case xk5_4 => k_is)
    (case vnx5_4 => decide)
    (case xk5_3 => k_is)
    (case vnx5_3 => decide)
    (case xk5_7 => k_is)
    (case vnx5_7 => decide)
    (case xk6_5 => k_is)
    (case vnx6_5 => decide)
    (case xk6_4 => k_is)
    (case vnx6_4 => decide)
    (case xk6_3 => k_is)
    (case vnx6_3 => decide)
    (case xk6_7 => k_is)
    (case vnx6_7 => decide)
    (case xk7_5 => k_is)
    (case vnx7_5 => decide)
    (case xk7_4 => k_is)
    (case vnx7_4 => decide)
    (case xk7_3 => k_is)
    (case vnx7_3 => decide)
    (case xk7_7 => k_is)
    (case xk8_5 => k_is)
    (case vnx8_5 => decide)
    (case xk8_4 => k_is)
    (case vnx8_4 => decide)
    (case xk8_3 => k_is)
    (case vnx8_3 => decide)
    (case xk8_7 => k_is)
    (case vnx8_7 => decide)
    (case xk9_5 => k_is)
    (case vnx9_5 => decide)
    (case xk9_4 => k_is)
    (case vnx9_4 => decide)
    (case xk9_3 => k_is)
    (case vnx9_3 => decide)
    (case xk9_7 => k_is)
    (case vnx9_7 => decide)
    (case xk10_5 => k_is)
    (case vnx10_5 => decide)
    (case xk10_4 => k_is)
    (case vnx10_4 => decide)
    (case xk10_3 => k_is)
    (case vnx10_3 => decide)
    (case xk10_7 => k_is)
    (case vnx10_7 => decide)
    (case xk11_5 => k_is)
    (case vnx11_5 => decide)
    (case xk11_4 => k_is)
    (case vnx11_4 => decide)
    (case xk11_3 => k_is)
    (case vnx11_3 => decide)
    (case xk11_7 => k_is)
    (case vnx11_7 => decide)
    (case xk12_5 => k_is)
    (case vnx12_5 => decide)
    (case xk12_4 => k_is)
    (case vnx12_4 => decide)
    (case xk12_3 => k_is)
    (case vnx12_3 => decide)
    (case xk12_7 => k_is)
    (case vnx12_7 => decide)
    (case xv_ValueError_5 => k_is)
    (case xv_ValueError_4 => k_is)
    (case xv_ValueError_3 => k_is)
    (case xv_ValueError_7 => k_is)
    (case z0 => k_is)
    (case z1 => k_is)
    (case z2 => k_is)
    (case z3 => k_is)
    (case z4 => k_is)
    (case z5 => k_is)
    (case z6 => k_is)
    (case z7 => k_is)
    (case z8 => k_is)
    (case z9 => k_is)
    (case z10 => k_is)
    (case z11 => k_is)
    (case e0 => k_is)
    (case e1 => k_is)
