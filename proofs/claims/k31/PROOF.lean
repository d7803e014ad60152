import PyProof.Rows.All
import Wide.All
import OpenK.AllK
import Wide.FinOn
import Lean
import PyProof.EqAt
import PyProof.EqKinds
import PyProof.TupleCall
import PyProof.NeKinds
import PyProof.ZipIter
import PyProof.Draws
import PyProof.FactsAll.zip
import KE.KSortTup
import KE.KDictSum
import PyProof.TupleOfSeq
import PyProof.StrWalks
import PyProof.Rows.SetFrom
import KE.KRevIter
import PyProof.Rows.Range3
import KE.KTryMore
import KE.KIsNot
import PyProof.ExcArgsOwn
import PyProof.ExcAttrAll.ValueError
import PyProof.ExcBaseAll.ValueError
import PyProof.NsDelKeeps
import PyProof.Rows.CallKwBuiltin
import PyProof.WalkInts
import PyProof.Rows.Catch
import KE.KLam
import KE.KNestM
import PyProof.FactsAll.list_3
import KE.KDictList
import PyProof.Rows.CountFlat
import KE.KDictOf
import PyProof.AttrMissHeap
import PyProof.DictFindH
import PyProof.ExcInit
import PyProof.ExcClass3
import PyProof.InstStoreFacts
import PySem.Challenge.RW_twoglass_k31_drops_refused
set_option Elab.async false
set_option linter.all false
set_option maxRecDepth 100000
local macro_rules|`(tactic|omega)=>`(tactic|first|lia|omega (config:={}))
open List renaming filterMap_cons→Ik,mem_cons_self→Il,mem_cons_of_mem→Im,mem_append_left→Io,getElem_inj→Ip,getElem?_set_self→Iq,getElem?_set_ne→Ir,mem_append_right→Iz,size_toArray→IB,any_eq_false→IC,length_cons→IE,map_cons→IG,length_map→IH,append_nil→IL,of_mem_zip→IP,length_take→IQ,getElem?_append_right→IR,getElem?_replicate→IT,getElem?_append_left→IU,getElem?_map→IV,getElem?_take_of_lt→IW,take_sublist→IX,mem_of_getElem?→IY,length_append→IZ,length_drop→Ja,length_singleton→Jd,map_nil→Je,lookup_cons→Jf,forIn_cons→Jg,cons_append→Ji,take_zero→Jj,take_nil→Jk,take_succ_cons→Jl,drop_zero→Jm,drop_nil→Jn,drop_succ_cons→Jo,all_cons→Jp,range_succ_eq_map→Jq,getElem?_eq_getElem→Jr,getElem_of_mem→Jw,any_cons→Jx,nil_append→Jy,map_append→Jz,length_range→JA,getElem?_range→JC,drop_eq_getElem_cons→JD,append_assoc→JE,take_of_length_le→JF,mem_cons→JH,not_mem_nil→JI,getElem?_cons_zero→JK,getElem?_cons_succ→JL,zip_cons_cons→JQ,contains_cons→JR,nodup_append→JT,replicate_zero→JV,zip_nil_right→JX,length_nil→JY,not_lt_nil→JZ,nil_lt_cons→J0,cons_lt_cons_iff→J1,getElem?_eq_none→J4,filter_cons_of_pos→J5,filter_cons_of_neg→J6,getD_eq_getElem?_getD→J8,mem_of_mem_drop→J9,mem_of_mem_take→Ka,map_take→Kb,sum_cons→Kc,set_cons_zero→Ke,set_cons_succ→Kf,map_map→Kj,mem_nil_iff→Km,pairwise_lt_range→Kn,getElem_map→Ko,mem_map_of_mem→Kp,contains_iff_mem→Kq,take_append_drop→Kr,getElem_take→Kt,filter_nil→Ku
open Int renaming toNat_natCast→I0,emod_nonneg→Ki,emod_lt_of_pos→Kk,eq_ofNat_of_zero_le→Kv
open Nat renaming lt_of_lt_of_le→Ie,lt_irrefl→Ig,ne_of_lt→Ih,le_trans→Ii,le_of_lt→Ij,ne_of_gt→Iw,le_refl→Iy,le_of_eq→II,lt_succ_self→IJ,zero_le→IK,le_succ→IM,min_self→Js,sub_zero→JB,le_add_right→JM,add_lt_add_left→JN,lt_add_of_pos_right→JO,zero_add→JP,sub_self→JU,add_comm→JW,lt_or_ge→J7,min_eq_left→Kd
open Bool renaming false_ne_true→Iu,and_eq_true→Jb,false_eq_true→Jh,and_true→Jt,and_false→Ju,or_eq_true→Jv,or_eq_false_iff→JS,or_true→J2,not_eq_true'→J3,not_true→Kg,not_false→Kh,true_and→Kl
open Option renaming getD_none→Jc,getD_some→JG
open PySem renaming Value→LU,NameKind→LV,Addr→LW,Expr→LX,Stmt→LY,Shared→LZ,World→L6,Program→L7,Heap→L8,sizeLine→L9,mainGlobals→Mb,bootBuiltins→Md,Around→Mf,Scope→Mg,Model→Mh,wpAny→Mi,starEach→Mj,wpAny_mono→Ml,CmpOp→Mo,compareOp→Mp,behindInMarks→Mq,wpAny_truthy_bool→Mr,wpAny_execs_nil→Ms,PassesOwn→Mt,wpAny_passesOwn→Mu,wpAny_pure→Mv,wpAny_bind→Mw,wpAny_pyIter_list→Mx,foldedSetIterable→My,binaryOp→Mz,sizeLine_eq→MA,wpAny_loadPart→MB,wpAny_lookBehind→MC,pastItsLine_dict→MD,Result→ME,codeAny→MF,attributeBase→MG,plainObj_wpAny_Assign_Attribute→MH,callWith→MI,keywordEach→MJ,cLine→MK,FuncData→ML,BindsTo→MM,wpAny_call→MN,codeAny_mono→MO,wpAny_Call_Name_kw→MP,concat_meets→MQ,noFill_tuple_add→MR,seq_tuple_add→MS,IsPart→MT,wpAny_field→MU,wpAny_holding→MV,wpAny_callSpecial?_slot→MX,wpAny_call_entry→MY,wpAny_typeOf→MZ,wpAny_newObj_type→M0,Keyword→M1,wpAny_standAt→M2,wpAny_comprehension_free→M3,wpAny_rule→M4,wpAny_getItem_str_slice→M5,post_val_or_str→M6,wpAny_seqItems→M7,IsZip→M8,IsPair→M9,wpAny_setField_rec→Nb,wpAny_onRaise→Nc,wpAny_updateSeq_pair→Nf,wpAny_attempt→Ng,codeAny_call_builtin→Nj,ExcBaseFacts→Nm,wpAny_loadPart_at→Nn
open PySem.W renaming instObj→Kw,methodObj→Kx,Frag→Ky,lookIn→Kz,plainGet→KA,hasDictIn→KC,findIn→KG,handedIn→KH,plainGet_of→KI,findObj_own→KJ,isFn→KL,plainOver→KN,takerIn→KO,makesIn→KP,typeIn→KQ,emptyDict→KR,keepIn→KS,callWith_K→KU,cellsFrom_some→KW,fnOf→KY,codeIn→KZ,OpenLaw→K1,nsIn→K2,notCls→K3,kitOne→K4,kia_one→K5,excIn→K6,isNs_of_in→K7,tail_of_in→K8,exmOne→K9,mroIn→La,subIn→Lb,kitCls→Lc,kitAny→Ld,mg_of→Le,Looks→Nh,looks_findIn→Ni,looks_mroIn→Nk
open PySem.Heap renaming lt_size→Lf,get?_none_of_le→Lg,SameBut→Lh,get?_push_of_some→Li,get?_push_size→Lj,size_push→Ln,FlyingW→Lp,get?_update_self→Lq,get?_update_ne→Lr,get?_push_at→Ls,MadeExcOf→Lv
open PyProof.Rows renaming callWith_type1→Lw,slot_tuple_getitem→Lx,envOfC→Ly,IsTup→Lz,Call_→LA,boot_list→LC,boot_tuple→LD,Constant_none→Mm
open PySem.F renaming slot_tuple_add→LJ,entry_tuple_add→LK,args_tuple_add_2→LO,slot_list_index→LQ,excBase_ValueError→LR
set_option maxHeartbeats 1000000
local macro_rules | `(‹0›)=>`(by omega)
namespace L2
open PySem PySem.Spec PyProof.Rows
noncomputable abbrev dL:=List (Option Nat)
noncomputable abbrev bK:=Str->Option LU
noncomputable abbrev lP:=List (Str×LV)
noncomputable abbrev aV:=List (LW×Obj)
noncomputable abbrev jA:=List (Str×LW)
noncomputable abbrev aZ:=List LX
noncomputable abbrev cH:=List LY
noncomputable abbrev aQ:=List LU
noncomputable abbrev aA:=List LW
noncomputable abbrev ia:=List (Str×Bool)
noncomputable abbrev cf:=Option Int
noncomputable abbrev bx:=LU->LZ->Prop
noncomputable abbrev gb:=LZ->Prop
noncomputable abbrev al:=List Str
noncomputable abbrev Key:=Sum Int Str
noncomputable def A9:Key->LU->Bool
 |.inl k,v=>Value.isInt k v
 |.inr x,v=>Value.isStrOf x v
noncomputable def G2(w:L6):Key->Int
 |.inl k=>hashInt k
 |.inr x=>hashStr w x
theorem bY:∀{k:Key}{v:LU},A9 k v=true->(∃i t,k=Sum.inl i/\v=Value.int i t)\/(∃x t,k=Sum.inr x/\v=Value.str x t)
 |.inl i,v,h=>by
  obtain⟨t,e⟩:=Value.isInt_shape (k:=i) (v:=v) h;exact .inl ⟨i,t,rfl,e⟩
 |.inr x,v,h=>by
  obtain⟨t,e⟩:=Value.isStrOf_shape (x:=x) (v:=v) h;exact .inr ⟨x,t,rfl,e⟩
theorem Cu(a b:Int):decide ((Sum.inl a:Key)=Sum.inl b)=(a==b):=by
 by_cases e:a=b
 ·subst e;simp
 ·have h:¬(Sum.inl a:Key)=Sum.inl b:=λq=>e (Sum.inl.inj q);rw[decide_eq_false h];exact(beq_eq_false_iff_ne.mpr e).symm
theorem BD(a b:Str):decide ((Sum.inr a:Key)=Sum.inr b)=decide (a=b):=by
 by_cases e:a=b
 ·subst e;simp
 ·have h:¬(Sum.inr a:Key)=Sum.inr b:=λq=>e (Sum.inr.inj q);rw[decide_eq_false h,decide_eq_false e]
theorem Ce(a:Int)(b:Str):decide ((Sum.inl a:Key)=Sum.inr b)=false:=decide_eq_false (λq=>nomatch q)
theorem BZ(a:Str)(b:Int):decide ((Sum.inr a:Key)=Sum.inl b)=false:=decide_eq_false (λq=>nomatch q)
noncomputable def nW(prog:L7)(w:L6):PySem.KeyKind prog w Key where
 is:=A9
 hash:=G2 w
 inj:=λv a b ha hb=>by
  rcases bY ha with⟨i,t,rfl,rfl⟩|⟨x,t,rfl,rfl⟩
  ·rcases bY hb with⟨j,u,rfl,e⟩|⟨y,u,rfl,e⟩
   ·injection e with e1 _;rw[e1]
   ·exact nomatch e
  ·rcases bY hb with⟨j,u,rfl,e⟩|⟨y,u,rfl,e⟩
   ·exact nomatch e
   ·injection e with e1 _;rw[e1]
 byValue:=λk v h=>by
  rcases bY h with⟨i,t,rfl,rfl⟩|⟨x,t,rfl,rfl⟩<;>rfl
 pyHash:=λhv h=>by
  rcases bY hv with⟨i,t,rfl,rfl⟩|⟨x,t,rfl,rfl⟩
  ·exact wpAny_pyHash_int h
  ·exact wpAny_pyHash_str h
 eqBool:=λhu hv h=>by
  rcases bY hu with⟨i,t,rfl,rfl⟩|⟨x,t,rfl,rfl⟩
  ·rcases bY hv with⟨j,u,rfl,rfl⟩|⟨y,u,rfl,rfl⟩
   ·rw[Cu]at h;exact wpAny_eqBool_int h
   ·rw[Ce]at h;exact SeqAt.EqAt.int_str i t y u _ _ _ _ h
  ·rcases bY hv with⟨j,u,rfl,rfl⟩|⟨y,u,rfl,rfl⟩
   ·rw[BZ]at h;exact SeqAt.EqAt.str_int x t j u _ _ _ _ h
   ·rw[BD]at h;exact wpAny_eqBool_str h
 «strs»:=λk x t v h=>by
  rcases bY h with⟨i,u,rfl,e⟩|⟨y,u,rfl,e⟩
  ·exact nomatch e
  ·injection e with e1 _;subst e1;cases v<;>rfl
inductive V where
 |non|bl (b:Bool)|int (i:Int)|str (x:Str)|byt (b:Array UInt8)|flt (b:UInt64)|ref (a:LW)|ty (n:String)
 deriving DecidableEq
noncomputable abbrev aE:=List V
noncomputable def RelV:V->LU->Prop
 |.non,u=>u=Value.none
 |.bl b,u=>u=Value.bool b
 |.int i,u=>∃t,u=Value.int i t
 |.str x,u=>∃t,u=Value.str x t
 |.byt b,u=>∃t,u=Value.bytes b t
 |.flt b,u=>∃t,u=Value.float b t
 |.ref a,u=>u=Value.ref a
 |.ty n,u=>u=Value.type n
noncomputable abbrev Vals:aE->aQ->Prop:=Paired RelV
theorem Vals.length{xs:aE}{us:aQ}(r:Vals xs us):xs.length=us.length:=Paired.length r
theorem Vals.get:∀{xs:aE}{us:aQ}{i:Nat}{x:V},Vals xs us->xs[i]?=some x->∃u,us[i]?=some u/\RelV x u
 |_,_,_,_,.nil,e=>by simp at e
 |_,_,0,_,.cons r _,e=>by simp at e;subst e;exact⟨_,rfl,r⟩
 |_,_,i+1,x,.cons _ t,e=>by
  obtain⟨u,h1,h2⟩:=Vals.get (i:=i) (x:=x) t (by simpa using e);exact⟨u,by simpa using h1,h2⟩
theorem Vals.append:∀{xs ys:aE}{us ws:aQ},Vals xs us->Vals ys ws->Vals (xs++ys) (us++ws)
 |_,_,_,_,.nil,s=>s
 |_,_,_,_,.cons r t,s=>.cons r (Vals.append t s)
theorem Vals.take:∀{xs:aE}{us:aQ}(n:Nat),Vals xs us->Vals (xs.take n) (us.take n)
 |_,_,0,_=>.nil
 |_,_,_+1,.nil=>.nil
 |_,_,n+1,.cons r t=>.cons r (Vals.take n t)
theorem Vals.drop:∀{xs:aE}{us:aQ}(n:Nat),Vals xs us->Vals (xs.drop n) (us.drop n)
 |_,_,0,r=>r
 |_,_,_+1,.nil=>.nil
 |_,_,n+1,.cons _ t=>Vals.drop n t
noncomputable def qu:Option V->Option LU->Prop
 |some v,some u=>RelV v u
 |none,none=>True
 |_,_=>False
noncomputable def KV{κ:Type}:List (κ×V)->List (κ×LU)->Prop:=Paired λ(p:κ×V)(q:κ×LU)=>p.1=q.1/\RelV p.2 q.2
noncomputable def kV:Key->V
 |.inl i=>.int i
 |.inr x=>.str x
inductive HO where
  |lst (xs:aE)
  |tup (xs:aE)
  |dK (kvs:List (Key×V))|dT (kvs:List (List Key×V))
  |set (S:Int->Bool) (n:Nat)
  |ins (C dx:LW) (fs:List (Str×V))
  |own (x:LW)
  |xd (fs:List (Str×V))
  |met (f x:LW)
  |rng (lo hi:Int)
  |frz (o:Obj) (u:HO)
  |tbl (ps:Array LU)
  |ext (φ:(LW->Prop)->L8->Prop)
noncomputable abbrev Hp:=LW->Option HO
noncomputable def upd(H:Hp)(a:LW)(o:HO):Hp:=λb=>if b=a then some o else H b
theorem az{H:Hp}{a:LW}{o:HO}:upd H a o a=some o:=by unfold upd;rw[if_pos rfl]
theorem au{H:Hp}{a b:LW}{o:HO}(h:b≠a):upd H a o b=H b:=by unfold upd;rw[if_neg h]
theorem kM{H:Hp}{a:LW}{o u:HO}:upd (upd H a o) a u=upd H a u:=by
 funext b;unfold upd;split<;>rfl
theorem aM{H:Hp}{a b:LW}{o:HO}(h:H a=some o)(h':H b=none):a≠b:=by
 intro e;subst e;rw[h]at h';cases h'
section
variable(P:L7)(w:L6)
noncomputable def cv(H:Hp)(h:L8)(a:LW):HO->Prop
 |.lst xs=>xs.length<=L9/\∃(its:aQ)(n:Nat),Vals xs its/\h.get? a=some {cls:=.type "list",data:=.seq its.toArray n}
 |.tup xs=>xs.length<=L9/\∃its:aQ,Vals xs its/\IsTup h a its.toArray
 |.dK kvs=>kvs.length<=L9/\(a==sysModules)=false/\∃vs,KV kvs vs/\h.DictOf (nW P w) a vs
 |.dT kvs=>kvs.length<=L9/\(a==sysModules)=false/\∃xs:List (List Key×LW×LU),
   Paired (λ(p:List Key×V)(q:List Key×LW×LU)=>p.1=q.1/\H q.2.1=some (.tup (p.1.map kV))/\RelV p.2 q.2.2) kvs xs/\
   ∃o es ep,h.get? a=some o/\o.ExactDict/\o.data=.dict es ep/\es.toList=xs.map (entryOfKey (tupleKind (nW P w)))/\(xs.map (·.1)).Nodup
 |.set S n=>h.SetOf (intKind P w) a S n
 |.ins C dx fs=>H dx=some (.own a)/\fs.length<=1000/\dx≠a/\h.get? a=some (Kw C dx)/\
   ∃mA,h.Ns1 dx mA/\(∀f,qu (fs.lookup f) (mA f))/\PySem.Within mA (fs.map (·.1))
 |.own _=>∃o,h.get? a=some o
 |.xd fs=>∃mA,h.Ns1 a mA/\∀f,qu (fs.lookup f) (mA f)
 |.rng lo hi=>∃t u v,h.get? a=some {cls:=.type "range",data:=.fields #[.int lo t,.int hi u,.int 1 v]}
 |.frz o u=>h.get? a=some o/\cv H h a u
 |.tbl ps=>h.get? a=some {cls:=.none,data:=.fields ps}
 |.met f x=>h.get? a=some (Kx (.ref f) (.ref x))
 |.ext φ=>φ (λb=>H b=some (.own a)) h/\(∃o,h.get? a=some o)/\∀(S1 S2:LW->Prop)(h1 h2:L8),φ S1 h1->(∀b,S1 b->S2 b)->(∀b o,(b=a\/S1 b)->h1.get? b=some o->h2.get? b=some o)->φ S2 h2
noncomputable def mz(H:Hp)(h:L8):Prop:=∀a o,H a=some o->cv P w H h a o
end
section
variable{P:L7}{w:L6}{H H':Hp}{h h':L8}{a:LW}{o:HO}
theorem cv.lt(x:cv P w H h a o):a<h.objs.size:=by
 cases o with
 |lst xs=>obtain⟨_,_,_,_,e⟩:=x;exact Lf e
 |tup xs=>obtain⟨_,_,_,p⟩:=x;exact p.lt
 |dK kvs=>obtain⟨_,_,_,_,o,_,_,e,_⟩:=x;exact Lf e
 |dT kvs=>obtain⟨_,_,_,_,o,_,_,e,_⟩:=x;exact Lf e
 |set S n=>obtain⟨o,_,_,_,e,_⟩:=x;exact Lf e
 |ins C dx fs=>obtain⟨_,_,_,e,_⟩:=x;exact Lf e
 |own y=>obtain⟨_,e⟩:=x;exact Lf e
 |xd fs=>obtain⟨_,⟨_,_,_,e,_⟩,_⟩:=x;exact Lf e
 |rng lo hi=>obtain⟨_,_,_,e⟩:=x;exact Lf e
 |frz ob u=>obtain⟨e,_⟩:=x;exact Lf e
 |tbl ps=>exact Lf (show h.get? a=some _ from x)
 |met f y=>exact Lf (show h.get? a=some _ from x)
 |ext φ=>obtain⟨_,⟨_,e⟩,_⟩:=x;exact Lf e
theorem Paired.mapP{α β:Type}{F G:α->β->Prop}:∀{l₁:List α}{l₂:List β},Paired F l₁ l₂->(∀a b,F a b->G a b)->Paired G l₁ l₂
 |_,_,.nil,_=>.nil
 |_,_,.cons r t,f=>.cons (f _ _ r) (Paired.mapP t f)
theorem cv.stay(x:cv P w H h a o)(k:∀b u,(b=a\/H b=some (.own a))->h.get? b=some u->h'.get? b=some u)
  (ho:∀b,H b=some (.own a)->H' b=some (.own a)) (ht:∀b xs,H b=some (.tup xs)->H' b=some (.tup xs)):cv P w H' h' a o:=by
 induction o with
 |lst xs=>obtain⟨z,its,n,r,e⟩:=x;exact⟨z,its,n,r,k _ _ (.inl rfl) e⟩
 |tup xs=>obtain⟨z,its,r,ob,e,c⟩:=x;exact⟨z,its,r,ob,k _ _ (.inl rfl) e,c⟩
 |dK kvs=>obtain⟨z,y,vs,r,ob,es,ep,e,c⟩:=x;exact⟨z,y,vs,r,ob,es,ep,k _ _ (.inl rfl) e,c⟩
 |dT kvs=>
  obtain⟨z,y,xs,r,ob,es,ep,e,c⟩:=x;exact⟨z,y,xs,Paired.mapP r λp q z=>⟨z.1,ht _ _ z.2.1,z.2.2⟩,ob,es,ep,k _ _ (.inl rfl) e,c⟩
 |set S n=>obtain⟨ob,es,ep,t,e,c⟩:=x;exact⟨ob,es,ep,t,k _ _ (.inl rfl) e,c⟩
 |ins C dx fs=>
  obtain⟨d,z,ne,e,mA,⟨od,es,ep,e2,c⟩,r⟩:=x;exact⟨ho _ d,z,ne,k _ _ (.inl rfl) e,mA,⟨od,es,ep,k _ _ (.inr d) e2,c⟩,r⟩
 |own y=>obtain⟨ob,e⟩:=x;exact⟨ob,k _ _ (.inl rfl) e⟩
 |xd fs=>obtain⟨mA,⟨od,es,ep,e,c⟩,r⟩:=x;exact⟨mA,⟨od,es,ep,k _ _ (.inl rfl) e,c⟩,r⟩
 |rng lo hi=>obtain⟨t,u,v,e⟩:=x;exact⟨t,u,v,k _ _ (.inl rfl) e⟩
 |frz ob u ih=>obtain⟨e,q⟩:=x;exact⟨k _ _ (.inl rfl) e,ih q⟩
 |tbl ps=>
  have e:h.get? a=some {cls:=.none,data:=.fields ps}:=x;show h'.get? a=some {cls:=.none,data:=.fields ps};exact k a _ (.inl rfl) e
 |met f y=>
  have e:h.get? a=some (Kx (.ref f) (.ref y)):=x;show h'.get? a=some (Kx (.ref f) (.ref y));exact k a _ (.inl rfl) e
 |ext φ=>obtain⟨p,⟨o,e⟩,st⟩:=x;exact⟨st _ _ _ _ p ho k,⟨o,k _ _ (.inl rfl) e⟩,st⟩
theorem mz.lt(x:mz P w H h)(e:H a=some o):a<h.objs.size:=(x a o e).lt
theorem mz.fresh(x:mz P w H h)(e:h.objs.size<=a):H a=none:=by
 cases q:H a with
 |none=>rfl
 |some u=>exact absurd (Ie (x.lt q) e) (Ig _)
theorem mz.kept(x:mz P w H h)(k:∀b u,h.get? b=some u->h'.get? b=some u):mz P w H h':=λa o e=>
 (x a o e).stay (λb u _ q=>k b u q) (λ_ q=>q) λ_ _ q=>q
theorem mz.laid(x:mz P w H h)(k:∀b u,h.get? b=some u->h'.get? b=some u)(hp:h.objs.size<=a)(new:cv P w (upd H a o) h' a o):mz P w (upd H a o) h':=λb u e=>by
 have hn:=x.fresh hp;by_cases hb:b=a
 ·subst hb;rw[az]at e;cases e;exact new
 ·rw[au hb]at e;exact(x b u e).stay (λc v _ q=>k c v q) (λc q=>by rw[au (aM q hn)];exact q) λc xs q=>by rw[au (aM q hn)];exact q
end
noncomputable def Rd(H:Hp)(a:LW)(u:HO):Prop:=H a=some u\/∃o,H a=some (.frz o u)
theorem Rd.ok{P:L7}{w:L6}{H:Hp}{h:L8}{a:LW}{u:HO}(r:Rd H a u)(x:mz P w H h):cv P w H h a u:=by
 rcases r with r|⟨o,r⟩
 ·exact x a u r
 ·obtain⟨_,q⟩:=x a _ r;exact q
noncomputable def ER:Option HO->Prop
 |some (.lst _)=>True
 |some (.dK _)=>True
 |some (.dT _)=>True
 |some (.set _ _)=>True
 |some (.ins _ _ _)=>True
 |some (.ext _)=>True
 |_=>False
section
variable{P:L7}{w:L6}{H:Hp}{h h':L8}{x e:LW}{o':HO}
theorem mz.write(ok:mz P w H h)(mu:ER (H x))(he:e=x\/H e=some (.own x))(k:∀b u,b≠e->h.get? b=some u->h'.get? b=some u)(heo:∃u,h'.get? e=some u)
  (new:cv P w (upd H x o') h' x o'):mz P w (upd H x o') h':=λb u q=>by
 have nown:∀c y,H c=some (.own y)->c≠x:=λc y r z=>by subst z;rw[r]at mu;exact mu
 have ntup:∀c xs,H c=some (.tup xs)->c≠x:=λc xs r z=>by subst z;rw[r]at mu;exact mu
 by_cases hb:b=x
 ·subst hb;rw[az]at q;cases q;exact new
 ·rw[au hb]at q;by_cases hbe:b=e
  ·have q':H b=some (.own x):=by
    rcases he with z|z
    ·exact absurd (hbe.trans z) hb
    ·rw[hbe];exact z
   rw[q]at q';cases q';obtain⟨v,hv⟩:=heo;exact⟨v,by rw[hbe];exact hv⟩
  ·refine(ok b u q).stay (λc v hc r=>k c v ?_ r) (λc r=>by rw[au (nown c b r)];exact r) λc xs r=>by rw[au (ntup c xs r)];exact r
   rcases hc with rfl|hc
   ·exact hbe
   ·rintro rfl;rcases he with z|z
    ·exact nown c b hc z
    ·rw[hc]at z;cases z;exact hb rfl
end
structure Un(fs ex:aA)(H H':Hp)(h h':L8):Prop where
 keep:∀b o,h.get? b=some o->H b=none->b∉fs->b∉ex->h'.get? b=some o
 slot:∀b o,h.get? b=some o->H b=none->b∈fs->b∉ex->∃sl,h'.get? b=some {o with slots:=sl}
 free:∀b o,h.get? b=some o->H b=none->b∉ex->H' b=none
 there:∀b o,h.get? b=some o->b∉ex->∃o',h'.get? b=some o'
 tups:∀b xs,H b=some (.tup xs)->H' b=some (.tup xs)
 frzs:∀b o u,H b=some (.frz o u)->H' b=some (.frz o u)
 tbls:∀b ps,H b=some (.tbl ps)->∃more,H' b=some (.tbl (ps++more))
section
variable{fs fs' ex ex':aA}{H H1 H2:Hp}{h h1 h2 h':L8}{a x e:LW}{o:HO}
theorem Un.any(u:Un fs ex H H1 h h1){b:LW}{ob:Obj}(q:h.get? b=some ob)(n:H b=none)(hx:b∉ex):∃sl,h1.get? b=some {ob with slots:=sl}:=by
 by_cases hb:b∈fs
 ·exact u.slot b ob q n hb hx
 ·exact⟨ob.slots,u.keep b ob q n hb hx⟩
theorem Un.kept(k:∀b u,h.get? b=some u->h'.get? b=some u):Un fs ex H H h h':=
 ⟨λb ob q _ _ _=>k b ob q,λb ob q _ _ _=>⟨ob.slots,k b ob q⟩,λ_ _ _ n _=>n,λb ob q _=>⟨ob,k b ob q⟩,λ_ _ q=>q,λ_ _ _ q=>q,λ_ ps q=>⟨#[],by rw[q];simp⟩⟩
theorem Un.refl:Un fs ex H H h h:=Un.kept λ_ _ q=>q
theorem Un.laid(k:∀b u,h.get? b=some u->h'.get? b=some u)(hp:h.objs.size<=a)(hn:H a=none):Un fs ex H (upd H a o) h h' where
 keep:=λb u q _ _ _=>k b u q
 slot:=λb u q _ _ _=>⟨u.slots,k b u q⟩
 free:=λb u q n _=>by rw[au (Ih (Ie (Lf q) hp))];exact n
 there:=λb u q _=>⟨u,k b u q⟩
 tups:=λb xs q=>by rw[au (aM q hn)];exact q
 frzs:=λb u xs q=>by rw[au (aM q hn)];exact q
 tbls:=λb ps q=>⟨#[],by rw[au (aM q hn),q];simp⟩
theorem Un.write(mu:ER (H x))(he:e=x\/H e=some (.own x))(k:∀b u,b≠e->h.get? b=some u->h'.get? b=some u)(heo:∃u,h'.get? e=some u):Un fs ex H (upd H x o) h h':=by
 have hx:∀b,H b=none->b≠x:=λb n z=>by subst z;rw[n]at mu;exact mu
 have hb:∀b,H b=none->b≠e:=λb n z=>by
  subst z;rcases he with r|r
  ·exact hx b n r
  ·rw[n]at r;cases r
 have hm:∀b u,H b=some u->¬ER (some u)->b≠x:=λb u q nm z=>by subst z;rw[q]at mu;exact nm mu
 refine⟨λb u q n _ _=>k b u (hb b n) q,λb u q n _ _=>⟨u.slots,k b u (hb b n) q⟩,λb u q n _=>by rw[au (hx b n)];exact n,λb u q _=>?_,
  λb xs q=>by rw[au (hm b _ q λz=>z)];exact q,λb u xs q=>by rw[au (hm b _ q λz=>z)];exact q,λb ps q=>⟨#[],by rw[au (hm b _ q λz=>z),q];simp⟩⟩
 by_cases hbe:b=e
 ·subst hbe;exact heo
 ·exact⟨u,k b u hbe q⟩
end
noncomputable def EX(h:L8)(H:Hp):aA:=(List.range h.objs.size).filter λa=>(H a).isSome
noncomputable def hZ(h:L8)(H:Hp):L8:=PySem.W.hideAll h (EX h H)
theorem uQ(h:L8)(H:Hp):(hZ h H).objs.size=h.objs.size:=PySem.W.hideAll_size _ _
theorem lw{h:L8}{H:Hp}{b:LW}{o:Obj}(e:h.get? b=some o)(n:H b=none):(hZ h H).get? b=some o:=
 PySem.W.hideAll_get _ e λhm=>by
  have q:(H b).isSome=true:=(List.mem_filter.mp hm).2;rw[n]at q;simp at q
theorem i7{h:L8}{H:Hp}{b:LW}{o:Obj}(e:(hZ h H).get? b=some o):h.get? b=some o/\H b=none:=by
 have e':h.get? b=some o:=PySem.W.of_hideAll (EX h H) e;refine⟨e',?_⟩;cases q:H b with
 |none=>rfl
 |some x=>
  have hm:b∈EX h H:=List.mem_filter.mpr ⟨List.mem_range.mpr (Lf e'),by simp[q]⟩;have z:(hZ h H).get? b=none:=PySem.W.hideAll_none (EX h H) hm;rw[z]at e;cases e
noncomputable def zo(g h:L8)(L:LW):aV:=(List.range h.objs.size).filterMap λa=>if a=L\/(g.get? a).isSome=true then none else(h.get? a).map λo=>(a,o)
noncomputable def rest(g h:L8)(L d:LW):aV:=(zo g h L).filter λp=>decide (p.1≠d)
structure Mod(K:Ky)(mg:bK)(base:L8):Prop where
 kin:K.In base
 glob:base.Ns Mb mg
 blt:∃mb,base.Ns builtinsNs mb/\∀x:Str,x≠"__name__"->mb x=Md x
 nolimit:base.NoLimit
structure Cx where
 prog:L7
 w:L6
 K:Ky
 mg:bK
 base:L8
 A:Mf
 N:al
 s₀:LZ
 H₀:Hp
 env:Env
 outer:List Env
 stack:List Env
 ex:aA
 fn:Str->Bool
 calm:Bool
 pn:aV
 xe:bx
noncomputable def frs(l:List Env):aA:=l.filterMap (·.frame)
noncomputable abbrev Cx.fs(X:Cx):aA:=frs X.outer
noncomputable def Bp(sc:Mg)(x:Str):Prop:=sc.names.lookup x=some .local\/sc.names.lookup x=some .cell\/sc.names.lookup x=some .free
noncomputable def Loc(sc:Mg)(x:Str):Prop:=sc.names.lookup x=some .local\/sc.names.lookup x=some .cell
noncomputable def Look(env:Env)(h:L8)(m:bK)(x:Str)(u:LU):Prop:=
 (env.kindOf x=some .local/\m x=some u)\/((env.kindOf x=some .cell\/env.kindOf x=some .free)/\∃c,env.cells.lookup x=some c/\h.IsCell c (some u))
structure Cx.Ok(X:Cx):Prop where
 mod:Mod X.K X.mg X.base
 kind:X.env.scope.kind=.function
 glob:X.env.globals=Mb
 blt:X.env.builtins=builtinsNs
 above:X.s₀.heap.objs.size<=X.env.locals
 inj:∀x y c,X.env.cells.lookup x=some c->X.env.cells.lookup y=some c->x=y
 has:∀x,(X.env.kindOf x=some .cell\/X.env.kindOf x=some .free)->∃c,X.env.cells.lookup x=some c
 cab:∀x c,X.fn x=true->X.env.cells.lookup x=some c->X.s₀.heap.objs.size<=c
 hd:X.calm=true->X.A.handled=none
 frames:X.A.frames=some X.stack
 stk:X.stack=X.outer\/(X.stack=X.env::X.outer/\X.env.frame=some X.env.locals)
 exf:∀b∈X.ex,b≠X.env.locals/\∀x c,X.env.cells.lookup x=some c->c≠b
 bs:∀b o,X.base.get? b=some o->X.s₀.heap.get? b=some o/\X.H₀ b=none
 bsz:X.base.objs.size<=X.s₀.heap.objs.size
 noex:∀b o,X.base.get? b=some o->b∉X.ex
 exfs:∀b∈X.ex,b∉X.fs
 funs:X.s₀.heap.FunFrames X.base X.outer
 frf:∀b∈X.fs,X.H₀ b=none
structure Inv(X:Cx)(pins:aV)(σ:List (Option V))(H:Hp)(s:LZ):Prop where
 ok:X.Ok
 os:s.os=X.s₀.os
 bare:AllBare s.gens
 base:Un X.fs X.ex X.H₀ H X.s₀.heap s.heap
 loc:∃m,s.heap.Ns X.env.locals m/\∀(i:Nat)(x:Str)(v:V),X.N[i]?=some x->σ[i]?=some (some v)->Bp X.env.scope x->∃u,RelV v u/\Look X.env s.heap m x u
 cell:∀x c,X.env.cells.lookup x=some c->∃v,s.heap.IsCell c v
 free:H X.env.locals=none
 freeC:∀x c,X.env.cells.lookup x=some c->H c=none
 pin:∀p∈X.pn++pins,s.heap.get? p.1=some p.2/\H p.1=none/\p.1≠X.env.locals/\p.1∉X.fs/\∀v,p.2.data≠.cell v
 hok:mz X.prog X.w H s.heap
 len:σ.length=X.N.length
section
variable{X:Cx}{pins:aV}{σ:List (Option V)}{H H':Hp}{s:LZ}{h':L8}
theorem Cx.Ok.nofr(ok:X.Ok){b:LW}{o:Obj}(e:X.base.get? b=some o):b∉X.fs:=λhb=>by
 have:=(ok.funs.mem hb).1
 rw[e]at this;cases this
theorem Inv.bs(I:Inv X pins σ H s):∀b o,X.base.get? b=some o->s.heap.get? b=some o/\H b=none:=λb o e=>
 ⟨I.base.keep b o (I.ok.bs b o e).1 (I.ok.bs b o e).2 (I.ok.nofr e) (I.ok.noex b o e),I.base.free b o (I.ok.bs b o e).1 (I.ok.bs b o e).2 (I.ok.noex b o e)⟩
theorem Inv.bk(I:Inv X pins σ H s):∀b o,X.base.get? b=some o->s.heap.get? b=some o:=λb o e=>(I.bs b o e).1
theorem Inv.mod(I:Inv X pins σ H s):Mod X.K X.mg X.base:=I.ok.mod
theorem Inv.kIn(I:Inv X pins σ H s):X.K.In s.heap:=I.ok.mod.kin.keeps I.bk
theorem Inv.lt(I:Inv X pins σ H s):X.env.locals<s.heap.objs.size:=let ⟨_,hn,_⟩:=I.loc;hn.lt
theorem Inv.sz(I:Inv X pins σ H s):X.s₀.heap.objs.size<=s.heap.objs.size:=Ii I.ok.above (Ij I.lt)
theorem Inv.nofs(I:Inv X pins σ H s){a:LW}(h:s.heap.objs.size<=a):a∉X.fs:=λhb=>by
 obtain⟨_,o,ho,_⟩:=I.ok.funs.mem hb;exact absurd (Ie (Lf ho) (Ii I.sz h)) (Ig _)
theorem Inv.cne(I:Inv X pins σ H s):∀x c,X.env.cells.lookup x=some c->c≠X.env.locals:=λx c e z=>by
 obtain⟨v,o,ho,hd⟩:=I.cell x c e;obtain⟨m,⟨o',es,ep,ho',hd',_⟩,_⟩:=I.loc;rw[z,ho']at ho;cases ho;rw[hd']at hd;cases hd
theorem Inv.funs(I:Inv X pins σ H s):s.heap.FunFrames X.base X.outer:=by
 have all:∀(l:List Env),(∀b∈frs l,b∈X.fs)->X.s₀.heap.FunFrames X.base l->s.heap.FunFrames X.base l:=by
  intro l
  induction l with
  |nil=>intro _ _;trivial
  |cons env r ih=>
   intro hs hl;obtain⟨hk,⟨L,o,hf,hn,ho,hd⟩,hr⟩:=hl;have hL:L∈X.fs:=hs L (by unfold frs;rw[Ik,hf];exact Il);obtain⟨sl,e⟩:=I.base.slot L o ho (I.ok.frf L hL) hL λz=>I.ok.exfs L z hL;exact⟨hk,⟨L,_,hf,hn,e,hd⟩,ih (λb hb=>hs b (by unfold frs;rw[Ik,hf];exact Im _ hb)) hr⟩
 exact all X.outer (λ_ hb=>hb) I.ok.funs
theorem Inv.stack(I:Inv X pins σ H s):s.heap.FunFrames X.base X.stack:=by
 rcases I.ok.stk with e|⟨e,hf⟩
 ·rw[e];exact I.funs
 ·rw[e];obtain⟨m,hn,_⟩:=I.loc;refine .cons (by rw[I.ok.kind];decide) hf hn ?_ I.funs;exact Lg (Ii I.ok.bsz I.ok.above)
theorem Inv.stkSub(I:Inv X pins σ H s):∀b∈frs X.stack,b∈X.env.locals::X.fs:=λb hb=>by
 rcases I.ok.stk with e|⟨e,hf⟩
 ·rw[e]at hb;exact Im _ hb
 ·rw[e]at hb;unfold frs at hb;rw[Ik,hf]at hb;exact hb
theorem Inv.stkFree(I:Inv X pins σ H s):∀b∈frs X.stack,H b=none:=λb hb=>by
 rcases List.mem_cons.mp (I.stkSub b hb)with e|hb
 ·rw[e];exact I.free
 ·obtain⟨_,o,ho,_⟩:=I.ok.funs.mem hb;exact I.base.free b o ho (I.ok.frf b hb) λz=>I.ok.exfs b z hb
theorem Inv.step{g':Array GenState}{t':Nat}{d':Drawn}{ch:aA}(I:Inv X pins σ H s)
  (hch:∀b∈ch,(b∈X.ex\/X.s₀.heap.objs.size<=b)/\b≠X.env.locals/\(∀x c,X.env.cells.lookup x=some c->c≠b)/\∀p∈X.pn++pins,p.1≠b)
  (keep:∀b o,b≠X.env.locals->b∉X.fs->b∉ch->s.heap.get? b=some o->H b=none->h'.get? b=some o)
  (slot:∀b o,b≠X.env.locals->b∈X.fs->b∉ch->s.heap.get? b=some o->H b=none->∃sl,h'.get? b=some {o with slots:=sl}) (free:∀b o,b∉ch->s.heap.get? b=some o->H b=none->H' b=none)
  (there:∀b o,b∉ch->s.heap.get? b=some o->∃o',h'.get? b=some o')
  (tups:∀b xs,H b=some (.tup xs)->H' b=some (.tup xs)) (frzs:∀b o u,H b=some (.frz o u)->H' b=some (.frz o u)) (tbls:∀b ps,H b=some (.tbl ps)->∃more,H' b=some (.tbl (ps++more)))
  (ns:∀m,s.heap.Ns X.env.locals m->h'.Ns X.env.locals m) (hok:mz X.prog X.w H' h') (hg:AllBare g'):
  Inv X pins σ H' {s with heap:=h',gens:=g',drawn:=d',toks:=t'}:=by
 have neL:∀b o,X.s₀.heap.get? b=some o->b≠X.env.locals:=λb o e=>Ih (Ie (Lf e) I.ok.above);have neC:∀b o,X.s₀.heap.get? b=some o->b∉X.ex->b∉ch:=λb o e hx hb=>by
  rcases(hch b hb).1 with z|z
  ·exact hx z
  ·exact absurd (Ie (Lf e) z) (Ig _)
 have cellK:∀x c,X.env.cells.lookup x=some c->∀v,s.heap.IsCell c v->h'.IsCell c v:=λx c e v ⟨o,ho,hd⟩=>by
  have nch:c∉ch:=λz=>(hch c z).2.2.1 x c e rfl;by_cases hc:c∈X.fs
  ·obtain⟨sl,q⟩:=slot c o (I.cne x c e) hc nch ho (I.freeC x c e);exact⟨_,q,hd⟩
  ·exact⟨o,keep c o (I.cne x c e) hc nch ho (I.freeC x c e),hd⟩
 refine⟨I.ok,I.os,hg,⟨λb o e n hb hx=>?_,λb o e n hb hx=>?_,λb o e n hx=>?_,λb o e hx=>?_,λb xs e=>tups b xs (I.base.tups b xs e),λb o xs e=>frzs b o xs (I.base.frzs b o xs e),λb ps e=>?_⟩,?_,λx c e=>?_,?_,λx c e=>?_,λp hp=>?_,hok,I.len⟩
 ·exact keep b o (neL b o e) hb (neC b o e hx) (I.base.keep b o e n hb hx) (I.base.free b o e n hx)
 ·obtain⟨sl,e1⟩:=I.base.slot b o e n hb hx;obtain⟨sl',e2⟩:=slot b _ (neL b o e) hb (neC b o e hx) e1 (I.base.free b o e n hx);exact⟨sl',e2⟩
 ·obtain⟨o',e1⟩:=I.base.there b o e hx;exact free b o' (neC b o e hx) e1 (I.base.free b o e n hx)
 ·obtain⟨o',e1⟩:=I.base.there b o e hx;exact there b o' (neC b o e hx) e1
 ·obtain⟨m1,e1⟩:=I.base.tbls b ps e;obtain⟨m2,e2⟩:=tbls b _ e1;exact⟨m1++m2,by rw[e2,Array.append_assoc]⟩
 ·obtain⟨m,hn,hl⟩:=I.loc;refine⟨m,ns m hn,λi x v e1 e2 e3=>?_⟩;obtain⟨u,r,l⟩:=hl i x v e1 e2 e3;refine⟨u,r,?_⟩;rcases l with l|⟨k,c,e,z⟩
  ·exact .inl l
  ·exact .inr ⟨k,c,e,cellK x c e _ z⟩
 ·obtain⟨v,z⟩:=I.cell x c e;exact⟨v,cellK x c e v z⟩
 ·obtain⟨m,⟨o,_,_,ho,_⟩,_⟩:=I.loc;exact free _ o (λz=>(hch _ z).2.1 rfl) ho I.free
 ·obtain⟨v,o,ho,hd⟩:=I.cell x c e;exact free c o (λz=>(hch c z).2.2.1 x c e rfl) ho (I.freeC x c e)
 ·obtain⟨e,n,ne,nf,d⟩:=I.pin p hp;have nch:p.1∉ch:=λz=>(hch p.1 z).2.2.2 p hp rfl;exact⟨keep p.1 p.2 ne nf nch e n,free p.1 p.2 nch e n,ne,nf,d⟩
theorem Inv.un{t':Nat}(I:Inv X pins σ H s)(u:Un X.fs [] H H' s.heap h')(hok:mz X.prog X.w H' h'):Inv X pins σ H' {s with heap:=h',toks:=t'}:=by
 obtain⟨m,⟨o,es,ep,ho,r⟩,_⟩:=id I.loc;obtain⟨sl,hL⟩:=u.any ho I.free (by simp);exact I.step (g':=s.gens) (d':=s.drawn) (ch:=[]) (λ_ z=>nomatch z) (λb o _ hb _ e n=>u.keep b o e n hb (by simp)) (λb o _ hb _ e n=>u.slot b o e n hb (by simp)) (λb o _ e n=>u.free b o e n (by simp)) (λb o _ e=>u.there b o e (by simp)) u.tups u.frzs u.tbls (λm' hm=>by
  obtain⟨o',es',ep',ho',r'⟩:=hm;rw[ho]at ho';cases ho';exact⟨_,es',ep',hL,r'⟩) hok I.bare
theorem Inv.call{g':Array GenState}{t':Nat}{d':Drawn}{ch:aA}(I:Inv X pins σ H s)(u:Un (frs X.stack) ch H H' s.heap h')(hok:mz X.prog X.w H' h')(hg:AllBare g')
  (hch:∀b∈ch,(b∈X.ex\/X.s₀.heap.objs.size<=b)/\b≠X.env.locals/\(∀x c,X.env.cells.lookup x=some c->c≠b)/\∀p∈X.pn++pins,p.1≠b):
  Inv X pins σ H' {s with heap:=h',gens:=g',drawn:=d',toks:=t'}:=by
 obtain⟨m,⟨o,es,ep,ho,r⟩,_⟩:=id I.loc;obtain⟨sl,hL⟩:=u.any ho I.free λz=>(hch _ z).2.1 rfl;exact I.step (ch:=ch) hch (λb o hL hb hc e n=>u.keep b o e n (λz=>(List.mem_cons.mp (I.stkSub b z)).elim hL hb) hc) (λb o _ _ hc e n=>u.any e n hc) (λb o hc e n=>u.free b o e n hc) (λb o hc e=>u.there b o e hc) u.tups u.frzs u.tbls (λm' hm=>by
  obtain⟨o',es',ep',ho',r'⟩:=hm;rw[ho]at ho';cases ho';exact⟨_,es',ep',hL,r'⟩) hok hg
theorem Inv.turned{t':Nat}{it:LW}(I:Inv X pins σ H s)(k:∀b o,b≠it->s.heap.get? b=some o->h'.get? b=some o)(hn:H it=none)(hL:it≠X.env.locals)
  (h1:it∈X.ex\/X.s₀.heap.objs.size<=it) (h2:∀x c,X.env.cells.lookup x=some c->c≠it) (h3:∀p∈X.pn++pins,p.1≠it):Inv X pins σ H {s with heap:=h',toks:=t'}:=by
 have nit:∀b u,H b=some u->b≠it:=λb u e z=>by rw[z,hn]at e;cases e
 refine I.step (g':=s.gens) (d':=s.drawn) (ch:=[it]) (λb hb=>?_) (λb o _ _ hc e _=>k b o (λz=>hc (by simp[z])) e) (λb o _ _ hc e _=>⟨o.slots,k b o (λz=>hc (by simp[z])) e⟩) (λ_ _ _ _ n=>n)
  (λb o hc e=>⟨o,k b o (λz=>hc (by simp[z])) e⟩) (λ_ _ e=>e) (λ_ _ _ e=>e) (λb ps e=>⟨#[],by rw[e];simp⟩) (λm hm=>?_) (λb u e=>?_) I.bare
 ·have e:b=it:=by simpa using hb
  subst e;exact⟨h1,hL,h2,h3⟩
 ·obtain⟨o,es,ep,ho,r⟩:=hm;exact⟨o,es,ep,k _ o (Ne.symm hL) ho,r⟩
 ·refine(I.hok b u e).stay (λc v hc q=>k c v ?_ q) (λ_ q=>q) λ_ _ q=>q;rcases hc with z|z
  ·rw[z];exact nit b u e
  ·exact nit c _ z
theorem Inv.tok(I:Inv X pins σ H s)(t:Nat):Inv X pins σ H {s with toks:=t}:=I.un (h':=s.heap) (t':=t) Un.refl I.hok
theorem Inv.kept{t':Nat}(I:Inv X pins σ H s)(k:∀b u,s.heap.get? b=some u->h'.get? b=some u):Inv X pins σ H {s with heap:=h',toks:=t'}:=I.un (Un.kept k) (I.hok.kept k)
theorem Inv.laid{a:LW}{o:HO}{t':Nat}(I:Inv X pins σ H s)(k:∀b u,s.heap.get? b=some u->h'.get? b=some u)(hp:s.heap.objs.size<=a)(new:cv X.prog X.w (upd H a o) h' a o):
  Inv X pins σ (upd H a o) {s with heap:=h',toks:=t'}:=I.un (Un.laid k hp (I.hok.fresh hp)) (I.hok.laid k hp new)
theorem Inv.write{x e:LW}{o:HO}{t':Nat}(I:Inv X pins σ H s)(mu:ER (H x))(he:e=x\/H e=some (.own x))(k:∀b u,b≠e->s.heap.get? b=some u->h'.get? b=some u)(heo:∃u,h'.get? e=some u)
  (new:cv X.prog X.w (upd H x o) h' x o):Inv X pins σ (upd H x o) {s with heap:=h',toks:=t'}:=I.un (Un.write mu he k heo) (I.hok.write mu he k heo new)
theorem Inv.pins_of{pins':aV}(I:Inv X pins σ H s)(h:∀p∈pins',s.heap.get? p.1=some p.2/\H p.1=none/\p.1≠X.env.locals/\p.1∉X.fs/\∀v,p.2.data≠.cell v):Inv X pins' σ H s:=
 ⟨I.ok,I.os,I.bare,I.base,I.loc,I.cell,I.free,I.freeC,λp hp=>(List.mem_append.mp hp).elim (λz=>I.pin p (Io _ z)) (h p),I.hok,I.len⟩
theorem ql{N:al}(hN:N.Nodup){i j:Nat}{x:Str}(a:N[i]?=some x)(b:N[j]?=some x):i=j:=by
 obtain⟨h1,e1⟩:=List.getElem?_eq_some_iff.mp a;obtain⟨h2,e2⟩:=List.getElem?_eq_some_iff.mp b;exact(Ip hN).mp (e1.trans e2.symm)
theorem nT{M:Mh}{A:Mf}{E:bx}{i:Nat}{x:Str}{v:V}{u:LU}{Q:Unit->gb}(I:Inv X pins σ H s)(hN:X.N.Nodup)(hi:X.N[i]?=some x)(hx:Loc X.env.scope x)(r:RelV v u)
  (h:∀s',Inv X pins (σ.set i (some v)) H s'->(∃a,Lh a s.heap s'.heap/\(a=X.env.locals\/X.env.cells.lookup x=some a))->Q () s') (hf:X.fn x=true\/X.env.scope.names.lookup x=some .local:=by first|exact .inl rfl|exact .inr rfl|assumption):Mi M A (storeName X.env x u) Q E s:=by
 obtain⟨m,hn,hl⟩:=id I.loc;have hcls:(X.env.scope.kind==.class||(X.env.scope.kind==.module&&X.env.locals !=X.env.globals))=false:=by rw[I.ok.kind];rfl
 have hiσ:i<σ.length:=by rw[I.len];exact(List.getElem?_eq_some_iff.mp hi).1
 have cne:=I.cne;have tracked:∀{a:LW}{h':L8},(∃o,s.heap.get? a=some o/\H a=none)->Lh a s.heap h'->mz X.prog X.w H h':=λ{a h'} ha hs b ob e=>by
  obtain⟨_,_,hfree⟩:=ha;refine(I.hok b ob e).stay (λc w' hc q=>(hs.2 c ?_).trans q) (λ_ q=>q) λ_ _ q=>q;rintro rfl;rcases hc with rfl|hc
  ·rw[hfree]at e;cases e
  ·rw[hfree]at hc;cases hc
 rcases hx with hk|hk
 ·refine wpAny_storeName_local hk hn (λh' hn' hs=>?_) hcls;obtain⟨oL,_,_,hoL,_⟩:=id hn;refine h _ ⟨I.ok,I.os,I.bare,⟨λb o e n hb hx=>?_,λb o e n hb hx=>?_,I.base.free,λb o e hx=>?_,I.base.tups,I.base.frzs,I.base.tbls⟩,⟨_,hn',λj y v' e1 e2 e3=>?_⟩,λy c e=>?_,I.free,I.freeC,λp hp=>?_,tracked ⟨oL,hoL,I.free⟩ hs,by simpa using I.len⟩ ⟨_,hs,.inl rfl⟩
  ·exact(hs.2 b (Ih (Ie (Lf e) I.ok.above))).trans (I.base.keep b o e n hb hx)
  ·obtain⟨sl,e1⟩:=I.base.slot b o e n hb hx;exact⟨sl,(hs.2 b (Ih (Ie (Lf e) I.ok.above))).trans e1⟩
  ·obtain⟨o',e1⟩:=I.base.there b o e hx;exact⟨o',(hs.2 b (Ih (Ie (Lf e) I.ok.above))).trans e1⟩
  ·by_cases hj:j=i
   ·subst hj;rw[hi]at e1;cases e1;rw[Iq hiσ]at e2;cases e2;exact⟨u,r,.inl ⟨hk,by simp⟩⟩
   ·rw[Ir (Ne.symm hj)]at e2;obtain⟨u',r',q⟩:=hl j y v' e1 e2 e3;refine⟨u',r',?_⟩;rcases q with⟨k,e⟩|⟨k,c,e,z⟩
    ·refine .inl ⟨k,?_⟩
     have:y≠x:=λe=>hj (ql hN e1 (e ▸ hi))
     simp[this,e]
    ·exact .inr ⟨k,c,e,z.sameBut hs (cne y c e)⟩
  ·obtain⟨w',z⟩:=I.cell y c e;exact⟨w',z.sameBut hs (cne y c e)⟩
  ·obtain⟨e,n,ne,nf,d⟩:=I.pin p hp;exact⟨(hs.2 p.1 ne).trans e,n,ne,nf,d⟩
 ·have hfn:X.fn x=true:=by
   rcases hf with z|z
   ·exact z
   ·rw[z]at hk;cases hk
  obtain⟨c,hc⟩:=I.ok.has x (.inl hk);obtain⟨w',z⟩:=I.cell x c hc;refine wpAny_storeName_cell I.ok.kind hk hc z (λh' hc' hs=>?_);obtain⟨oc,hoc,hocd⟩:=id z;refine h {s with heap:=h'} ⟨I.ok,I.os,I.bare,⟨λb o e n hb hx=>?_,λb o e n hb hx=>?_,I.base.free,λb o e hx=>?_,I.base.tups,I.base.frzs,I.base.tbls⟩,⟨m,hn.sameBut hs (Ne.symm (cne x c hc)),λj y v' e1 e2 e3=>?_⟩,λy c' e=>?_,I.free,I.freeC,λp hp=>?_,tracked ⟨oc,hoc,I.freeC x c hc⟩ hs,by simpa using I.len⟩ ⟨c,hs,.inr hc⟩
  ·exact(hs.2 b (Ih (Ie (Lf e) (I.ok.cab x c hfn hc)))).trans (I.base.keep b o e n hb hx)
  ·obtain⟨sl,e1⟩:=I.base.slot b o e n hb hx;exact⟨sl,(hs.2 b (Ih (Ie (Lf e) (I.ok.cab x c hfn hc)))).trans e1⟩
  ·obtain⟨o',e1⟩:=I.base.there b o e hx;exact⟨o',(hs.2 b (Ih (Ie (Lf e) (I.ok.cab x c hfn hc)))).trans e1⟩
  ·by_cases hj:j=i
   ·subst hj;rw[hi]at e1;cases e1;rw[Iq hiσ]at e2;cases e2;exact⟨u,r,.inr ⟨.inl hk,c,hc,hc'⟩⟩
   ·rw[Ir (Ne.symm hj)]at e2;obtain⟨u',r',q⟩:=hl j y v' e1 e2 e3;refine⟨u',r',?_⟩;rcases q with q|⟨k,c',e,z'⟩
    ·exact .inl q
    ·refine .inr ⟨k,c',e,z'.sameBut hs ?_⟩;rintro rfl;exact hj (ql hN e1 (I.ok.inj _ _ _ e hc ▸ hi))
  ·by_cases hcc:c'=c
   ·subst hcc;exact⟨_,hc'⟩
   ·obtain⟨w2,z2⟩:=I.cell y c' e;exact⟨w2,z2.sameBut hs hcc⟩
  ·obtain⟨e,n,ne,nf,d⟩:=I.pin p hp;refine⟨(hs.2 p.1 ?_).trans e,n,ne,nf,d⟩;intro q;rw[q,hoc]at e;have q':oc=p.2:=Option.some.inj e;exact d w' (by rw[<-q'];exact hocd)
theorem k6{M:Mh}{A:Mf}{E:bx}{i:Nat}{x:Str}{v:V}{u:LU}{Q:Unit->gb}(I:Inv X pins σ H s)(hN:X.N.Nodup)(hi:X.N[i]?=some x)(hx:Loc X.env.scope x)(r:RelV v u)
  (h:∀s',Inv X pins (σ.set i (some v)) H s'->Q () s') (hf:X.fn x=true\/X.env.scope.names.lookup x=some .local:=by first|exact .inl rfl|exact .inr rfl|assumption):Mi M A (storeName X.env x u) Q E s:=
 nT I hN hi hx r (λs' I' _=>h s' I') hf
theorem Inv.call'{s':LZ}{ch:aA}(I:Inv X pins σ H s)(ho:s'.os=s.os)(u:Un (frs X.stack) ch H H' s.heap s'.heap)(hok:mz X.prog X.w H' s'.heap)(hg:AllBare s'.gens)
  (hch:∀b∈ch,(b∈X.ex\/X.s₀.heap.objs.size<=b)/\b≠X.env.locals/\(∀x c,X.env.cells.lookup x=some c->c≠b)/\∀p∈X.pn++pins,p.1≠b):Inv X pins σ H' s':=by
 obtain⟨h',g',d',t',o'⟩:=s';have e:o'=s.os:=ho;subst e;exact I.call (g':=g') (t':=t') (d':=d') u hok hg hch
end
noncomputable abbrev XK:=LU->Option LW->Hp->Prop
noncomputable abbrev St:=List (Option V)
noncomputable abbrev VK:=V->Hp->Prop
noncomputable abbrev TE:=St->Hp->VK->Prop
noncomputable abbrev TT:=St->Hp->(Bool->Hp->Prop)->Prop
noncomputable abbrev TA:=St->Hp->(aE->Hp->Prop)->Prop
structure Ends where
 nx:St->Hp->Prop
 rt:VK
 bk:St->Hp->Prop:=λ_ _=>False
 ct:St->Hp->Prop:=λ_ _=>False
noncomputable abbrev TS:=Ends->St->Hp->Prop
noncomputable def EP(X:Cx)(pins:aV)(σ:St)(Q:VK)(u:LU)(s':LZ):Prop:=∃v H',Inv X pins σ H' s'/\RelV v u/\Q v H'
noncomputable def TP(X:Cx)(pins:aV)(σ:St)(Q:Bool->Hp->Prop)(b:Bool)(s':LZ):Prop:=∃H',Inv X pins σ H' s'/\Q b H'
noncomputable def AP(X:Cx)(pins:aV)(σ:St)(Q:aE->Hp->Prop)(us:aQ)(s':LZ):Prop:=∃vs H',Inv X pins σ H' s'/\Vals vs us/\Q vs H'
noncomputable def SP(X:Cx)(pins:aV)(D:Ends)(f:Flow)(s':LZ):Prop:=
 match f with
 |.next=>∃σ' H',Inv X pins σ' H' s'/\D.nx σ' H'
 |.brk=>∃σ' H',Inv X pins σ' H' s'/\D.bk σ' H'
 |.cont=>∃σ' H',Inv X pins σ' H' s'/\D.ct σ' H'
 |.ret u=>∃v σ' H',Inv X pins σ' H' s'/\RelV v u/\D.rt v H'
noncomputable def PE(X:Cx)(e:LX)(t:TE):Prop:=
 ∀(pins:aV)(s:LZ)(σ:St)(H:Hp)(Q:VK),Inv X pins σ H s->t σ H Q->Mi (model X.prog X.w) X.A (eval e X.env) (EP X pins σ Q) X.xe s
noncomputable def PT(X:Cx)(e:LX)(t:TT):Prop:=
 ∀(pins:aV)(s:LZ)(σ:St)(H:Hp)(Q:Bool->Hp->Prop),Inv X pins σ H s->t σ H Q->Mi (model X.prog X.w) X.A (isTrue e X.env (eval e X.env)) (TP X pins σ Q) X.xe s
noncomputable def PW(X:Cx)(e:LX)(t:TT):Prop:=
 ∀(whole:Sem LU)(pins:aV)(s:LZ)(σ:St)(H:Hp)(Q:Bool->Hp->Prop),Inv X pins σ H s->t σ H Q->Mi (model X.prog X.w) X.A (isTrue e X.env whole) (TP X pins σ Q) X.xe s
theorem PW.pt{X:Cx}{e:LX}{t:TT}(h:PW X e t):PT X e t:=h _
noncomputable def PA(X:Cx)(es:aZ)(t:TA):Prop:=
 ∀(pos:Pos)(pins:aV)(s:LZ)(σ:St)(H:Hp)(Q:aE->Hp->Prop),Inv X pins σ H s->t σ H Q->Mi (model X.prog X.w) X.A (spliced (backTo pos (Mj es X.env))) (AP X pins σ Q) X.xe s
noncomputable def PS(X:Cx)(st:LY)(t:TS):Prop:=
 ∀(pins:aV)(s:LZ)(σ:St)(H:Hp)(D:Ends),Inv X pins σ H s->t D σ H->Mi (model X.prog X.w) X.A (exec st X.env) (SP X pins D) X.xe s
noncomputable def mR(X:Cx)(st:cH)(t:TS):Prop:=
 ∀(pins:aV)(s:LZ)(σ:St)(H:Hp)(D:Ends),Inv X pins σ H s->t D σ H->Mi (model X.prog X.w) X.A (execs st X.env) (SP X pins D) X.xe s
theorem ca{α:Type}{t:Sem α}{Q Q':α->gb}{M:Mh}{A:Mf}{E:bx}{s:LZ}(h:Mi M A t Q E s)(hQ:∀a s,Q a s->Q' a s):Mi M A t Q' E s:=Ml h hQ λ_ _ x=>x
section
variable{X:Cx}
noncomputable def lV(i:Nat):TE:=λσ H Q=>∃v,σ[i]?=some (some v)/\Q v H
noncomputable def tC(v:V):TE:=λ_ H Q=>Q v H
theorem Ci{i:Nat}{x:Str}{pos:Pos}(hN:X.N[i]?=some x)(hv:Bp X.env.scope x)(hd:(x==("__debug__":Str))=false:=by decide)(hcd:(x==("__classdict__":Str))=false:=by decide):PE X (.Name x pos) (lV i):=by
 intro pins s σ H Q I h;obtain⟨v,e,h⟩:=h;obtain⟨m,hn,hl⟩:=I.loc;obtain⟨u,r,l⟩:=hl i x v hN e hv;have fin:EP X pins σ Q u s:=⟨v,H,I,r,h⟩
 rcases l with⟨hk,hm⟩|⟨hk,c,hc,hcell⟩
 ·exact wpAny_Name (wpAny_loadName_local I.ok.kind hk hn hm fin) hd
 ·rcases hk with hk|hk
  ·exact wpAny_Name (wpAny_loadName_cell I.ok.kind hk hc hcell fin) hd
  ·exact wpAny_Name (wpAny_loadName_free I.ok.kind hk hc hcell fin hcd) hd
theorem BR{i j pos}:PE X (.Constant (.int i) j pos) (tC (.int i)):=λ_ _ _ H _ I h=>wpAny_Constant_int ⟨.int i,H,I.tok _,⟨_,rfl⟩,h⟩
theorem Du{b j pos}:PE X (.Constant (.bool b) j pos) (tC (.bl b)):=λ_ _ _ H _ I h=>Constant_bool ⟨.bl b,H,I,rfl,h⟩
theorem BW{j pos}:PE X (.Constant .none j pos) (tC .non):=λ_ _ _ H _ I h=>Mm ⟨.non,H,I,rfl,h⟩
theorem BG{x j pos}:PE X (.Constant (.str x) j pos) (tC (.str x)):=λ_ _ _ H _ I h=>Calls.Constant_str ⟨.str x,H,I.tok _,⟨_,rfl⟩,h⟩
noncomputable def Gl(X:Cx)(x:Str):Prop:=X.env.kindOf x=some .globalImplicit
theorem hW{E:bx}{pins:aV}{s:LZ}{σ:St}{H:Hp}{x:Str}{u:LU}{pos:Pos}{Q:bx}(I:Inv X pins σ H s)(hg:Gl X x)(hm:X.mg x=some u)(h:Q u s)
  (hd:(x==("__debug__":Str))=false:=by decide):Mi (model X.prog X.w) X.A (eval (.Name x pos) X.env) Q E s:=
 Calls.Name_function_global I.ok.kind hg (Calls.loadGlobal_global (by rw[I.ok.glob];exact I.mod.glob.keeps I.bk) hm h) hd
theorem jx{E:bx}{pins:aV}{s:LZ}{σ:St}{H:Hp}{x:Str}{u:LU}{pos:Pos}{Q:bx}(I:Inv X pins σ H s)(hg:Gl X x)(hm:X.mg x=none)(hv:Md x=some u)(h:Q u s)
  (hn:x≠"__name__":=by decide) (hd:(x==("__debug__":Str))=false:=by decide):Mi (model X.prog X.w) X.A (eval (.Name x pos) X.env) Q E s:=by
 obtain⟨mb,h1,h2⟩:=I.mod.blt;exact Calls.Name_function_global I.ok.kind hg (Calls.loadGlobal_builtin (by rw[I.ok.glob];exact I.mod.glob.keeps I.bk) hm (by rw[I.ok.blt];exact h1.keeps I.bk) ((h2 x hn).trans hv) h) hd
theorem sM{x:Str}{v:V}{u:LU}{pos:Pos}(hg:Gl X x)(hm:X.mg x=some u)(r:RelV v u)(hd:(x==("__debug__":Str))=false:=by decide):PE X (.Name x pos) (tC v):=
 λ_ _ _ H _ I h=>hW I hg hm ⟨v,H,I,r,h⟩ hd
theorem sJ{x:Str}{v:V}{u:LU}{pos:Pos}(hg:Gl X x)(hm:X.mg x=none)(hv:Md x=some u)(r:RelV v u)(hn:x≠"__name__":=by decide)(hd:(x==("__debug__":Str))=false:=by decide):PE X (.Name x pos) (tC v):=
 λ_ _ _ H _ I h=>jx I hg hm hv ⟨v,H,I,r,h⟩ hn hd
variable{a b:LX}{ta tb:TE}{pos:Pos}
noncomputable def PC(X:Cx)(op:Mo)(a b:LX)(t:TE):Prop:=
 ∀(pins:aV)(s:LZ)(σ:St)(H:Hp)(Q:VK),Inv X pins σ H s->t σ H Q->
  Mi (model X.prog X.w) X.A (eval a X.env) (λv s₁=>Mi (model X.prog X.w) X.A (eval b X.env) (λu s₂=>Mi (model X.prog X.w) X.A (Mp op v u) (EP X pins σ Q) X.xe s₂) X.xe s₁) X.xe s
theorem pV(b:LX){op:Mo}(h:op≠.In)(h2:op≠.NotIn):Mq op b=false:=by
 have e1:(op==CmpOp.In)=false:=by cases op<;>first|rfl|exact absurd rfl h
 have e2:(op==CmpOp.NotIn)=false:=by cases op<;>first|rfl|exact absurd rfl h2
 cases b<;>simp[Mq,e1,e2]
noncomputable def GX(ta:TE):TE:=λσ H Q=>ta σ H λx H1=>Q (.bl (decide (x=.non))) H1
noncomputable def Ea(ta:TE):TE:=λσ H Q=>ta σ H λx H1=>Q (.bl (!decide (x=.non))) H1
theorem RelV.none_iff{x:V}{v:LU}(r:RelV x v):(v==Value.none)=decide (x=.non):=by
 cases x with
 |non=>cases r;rfl
 |bl _=>cases r;rfl
 |int _=>obtain⟨t,rfl⟩:=r;rfl
 |str _=>obtain⟨t,rfl⟩:=r;rfl
 |byt _=>obtain⟨t,rfl⟩:=r;rfl
 |flt _=>obtain⟨t,rfl⟩:=r;rfl
 |ref _=>cases r;rfl
 |ty _=>cases r;rfl
theorem v0{j pos'}(ha:PE X a ta):PC X .Is a (.Constant .none j pos') (GX ta):=by
 intro pins s σ H Q I h;refine ca (ha pins s σ H _ I h) λv s1 ⟨x,H1,I1,r1,q1⟩=>?_;exact Mm (is_none_gen ⟨.bl _,H1,I1,by rw[r1.none_iff];rfl,q1⟩)
theorem tN{j pos'}(ha:PE X a ta):PC X .IsNot a (.Constant .none j pos') (Ea ta):=by
 intro pins s σ H Q I h;refine ca (ha pins s σ H _ I h) λv s1 ⟨x,H1,I1,r1,q1⟩=>?_;exact Mm (isnot_none_gen ⟨.bl _,H1,I1,by rw[r1.none_iff];rfl,q1⟩)
noncomputable def tB(t:TE):TT:=λσ H Q=>t σ H λx H1=>∃c,x=.bl c/\Q c H1
theorem xu{op:Mo}{t:TE}(h:PC X op a b t)(h1:Mq op b=false:=by first|exact pV _ (by decide) (by decide)|rfl):PE X (.Compare a [op] [b] pos) t:=λpins s σ H Q I hw=>wpAny_Compare1 (h pins s σ H Q I hw) h1
theorem xj{op:Mo}{t:TE}(h:PC X op a b t)(h1:Mq op b=false:=by first|exact pV _ (by decide) (by decide)|rfl):PT X (.Compare a [op] [b] pos) (tB t):=by
 intro pins s σ H Q I hw;refine wpAny_isTrue_Compare1 (ca (h pins s σ H _ I hw) λv s1 h1=>ca h1 λu s2 h2=>ca h2 λc s3 ⟨x,H1,I1,r1,q1⟩=>?_) h1;obtain⟨d,rfl,q⟩:=q1;cases r1;exact Mr ⟨H1,I1,q⟩
variable{tA tB':TT}{rest:aZ}
noncomputable def FY(t u:TT):TT:=λσ H Q=>t σ H λc H1=>if c=true then u σ H1 Q else Q false H1
noncomputable def HD(t u:TT):TT:=λσ H Q=>t σ H λc H1=>if c=true then Q true H1 else u σ H1 Q
noncomputable def Fu(t:TT):TT:=λσ H Q=>t σ H λc H1=>Q (!c) H1
theorem zh(ha:PT X a tA):PW X (.BoolOp .And [a] pos) tA:=by
 intro wh pins s σ H Q I h;refine isTrue_and (ca (ha pins s σ H Q I h) λc s1 e=>?_);cases c with
 |true=>exact isTrue_and_nil e
 |false=>exact e
theorem BH(ha:PT X a tA):PW X (.BoolOp .Or [a] pos) tA:=by
 intro wh pins s σ H Q I h;refine isTrue_or (ca (ha pins s σ H Q I h) λc s1 e=>?_);cases c with
 |false=>exact isTrue_or_nil e
 |true=>exact e
theorem CV(ha:PT X a tA)(hb:PW X (.BoolOp .And (b::rest) pos) tB'):PW X (.BoolOp .And (a::b::rest) pos) (FY tA tB'):=by
 intro wh pins s σ H Q I h;refine isTrue_and (ca (ha pins s σ H _ I h) λc s1 ⟨H1,I1,q1⟩=>?_);cases c with
 |true=>exact hb wh pins s1 σ H1 Q I1 q1
 |false=>exact⟨H1,I1,q1⟩
theorem D9(ha:PT X a tA)(hb:PW X (.BoolOp .Or (b::rest) pos) tB'):PW X (.BoolOp .Or (a::b::rest) pos) (HD tA tB'):=by
 intro wh pins s σ H Q I h;refine isTrue_or (ca (ha pins s σ H _ I h) λc s1 ⟨H1,I1,q1⟩=>?_);cases c with
 |true=>exact⟨H1,I1,q1⟩
 |false=>exact hb wh pins s1 σ H1 Q I1 q1
theorem Cw(ha:PT X a tA):PT X (.UnaryOp .Not a pos) (Fu tA):=by
 intro pins s σ H Q I h;exact isTrue_not (ha pins s σ H (λc H1=>Q (!c) H1) I h)
noncomputable def Dw(ta tb:TE):TE:=λσ H Q=>ta σ H λx H1=>∃c,x=.bl c/\if c=true then tb σ H1 Q else Q (.bl false) H1
noncomputable def F8(ta tb:TE):TE:=λσ H Q=>ta σ H λx H1=>∃c,x=.bl c/\if c=true then Q (.bl true) H1 else tb σ H1 Q
noncomputable def Dk(ta:TE):TE:=λσ H Q=>ta σ H λx H1=>∃c,x=.bl c/\Q (.bl (!c)) H1
theorem CL{op}{t:TE}(h:PE X a t):PE X (.BoolOp op [a] pos) t:=λpins s σ H Q I hw=>BoolOp_one (h pins s σ H Q I hw)
theorem CY(ha:PE X a ta)(hb:PE X (.BoolOp .And (b::rest) pos) tb):PE X (.BoolOp .And (a::b::rest) pos) (Dw ta tb):=by
 intro pins s σ H Q I h;refine BoolOp_and (ca (ha pins s σ H _ I h) λv s1 ⟨x,H1,I1,r1,q1⟩=>?_);obtain⟨c,rfl,q1⟩:=q1;cases r1;refine Mr ?_;cases c with
 |true=>exact hb pins s1 σ H1 Q I1 q1
 |false=>exact⟨.bl false,H1,I1,rfl,q1⟩
theorem Ej(ha:PE X a ta)(hb:PE X (.BoolOp .Or (b::rest) pos) tb):PE X (.BoolOp .Or (a::b::rest) pos) (F8 ta tb):=by
 intro pins s σ H Q I h;refine BoolOp_or (ca (ha pins s σ H _ I h) λv s1 ⟨x,H1,I1,r1,q1⟩=>?_);obtain⟨c,rfl,q1⟩:=q1;cases r1;refine Mr ?_;cases c with
 |false=>exact hb pins s1 σ H1 Q I1 q1
 |true=>exact⟨.bl true,H1,I1,rfl,q1⟩
theorem CB(ha:PE X a ta):PE X (.UnaryOp .Not a pos) (Dk ta):=by
 intro pins s σ H Q I h;refine UnaryOp_ (ca (ha pins s σ H _ I h) λv s1 ⟨x,H1,I1,r1,q1⟩=>?_);obtain⟨c,rfl,q1⟩:=q1;cases r1;exact not_of (Mr ⟨.bl (!c),H1,I1,rfl,q1⟩)
noncomputable def HY(t:TT)(ta tb:TE):TE:=λσ H Q=>t σ H λc H1=>if c=true then ta σ H1 Q else tb σ H1 Q
theorem yf{c:LX}(hc:PT X c tA)(ha:PE X a ta)(hb:PE X b tb):PE X (.IfExp c a b pos) (HY tA ta tb):=by
 intro pins s σ H Q I h;refine wpAny_IfExp (ca (hc pins s σ H _ I h) λd s1 ⟨H1,I1,q1⟩=>?_);cases d with
 |true=>exact ha pins s1 σ H1 Q I1 q1
 |false=>exact hb pins s1 σ H1 Q I1 q1
end
noncomputable def ie(K:Ky)(H:Hp)(a:LW)(xs:aE):Prop:=
 Rd H a (.lst xs) \/
  ∃(o:Obj)(its:Array LU)(n:Nat),K.lookup a=some o/\o.cls=.type "list"/\o.dict=none/\o.data=.seq its n/\its.size<=L9/\Vals xs its.toList
noncomputable def jD(K:Ky)(H:Hp)(a:LW)(xs:aE):Prop:=
 Rd H a (.tup xs) \/
  ∃(o:Obj)(its:Array LU)(n:Nat),K.lookup a=some o/\o.cls=.type "tuple"/\o.data=.seq its n/\its.size<=L9/\Vals xs its.toList
noncomputable def GP:LU->Option V
 |.none=>some .non
 |.bool b=>some (.bl b)
 |.int i _=>some (.int i)
 |.str x _=>some (.str x)
 |.bytes b _=>some (.byt b)
 |.float b _=>some (.flt b)
 |.ref a=>some (.ref a)
 |.type n=>some (.ty n)
 |_=>none
theorem RelV.abs{x:V}{u:LU}(r:RelV x u):GP u=some x:=by
 cases x with
 |non=>cases r;rfl
 |bl _=>cases r;rfl
 |int _=>obtain⟨t,rfl⟩:=r;rfl
 |str _=>obtain⟨t,rfl⟩:=r;rfl
 |byt _=>obtain⟨t,rfl⟩:=r;rfl
 |flt _=>obtain⟨t,rfl⟩:=r;rfl
 |ref _=>cases r;rfl
 |ty _=>cases r;rfl
theorem RelV.inj{x y:V}{u:LU}(r:RelV x u)(q:RelV y u):x=y:=Option.some.inj (r.abs.symm.trans q.abs)
theorem Vals.inj:∀{xs ys:aE}{us:aQ},Vals xs us->Vals ys us->xs=ys
 |_,_,_,.nil,.nil=>rfl
 |_,_,_,.cons r t,.cons r' t'=>by rw[r.inj r',Vals.inj t t']
section
variable{X:Cx}{pins:aV}{σ:St}{H:Hp}{s:LZ}{a:LW}{xs ys:aE}
theorem ie.of{K:Ky}(h:H a=some (.lst xs)):ie K H a xs:=.inl (.inl h)
theorem jD.of{K:Ky}(h:H a=some (.tup xs)):jD K H a xs:=.inl (.inl h)
theorem Inv.list(I:Inv X pins σ H s)(h:ie X.K H a xs):∃its:aQ,Vals xs its/\PlainL s.heap a its.toArray/\xs.length<=L9:=by
 rcases h with h|⟨o,its,n,hk,hc,hd,hs,hz,r⟩
 ·obtain⟨z,its,n,r,e⟩:=h.ok I.hok;exact⟨its,r,⟨_,n,e,rfl,rfl,rfl⟩,z⟩
 ·refine⟨its.toList,r,⟨o,n,I.kIn a o hk,hc,hd,by simpa using hs⟩,?_⟩;have e:=r.length;simp only[Array.length_toList]at e;omega
theorem Inv.tuple(I:Inv X pins σ H s)(h:jD X.K H a xs):∃its:aQ,Vals xs its/\IsTup s.heap a its.toArray/\xs.length<=L9:=by
 rcases h with h|⟨o,its,n,hk,hc,hs,hz,r⟩
 ·obtain⟨z,its,r,p⟩:=h.ok I.hok;exact⟨its,r,p,z⟩
 ·refine⟨its.toList,r,⟨o,I.kIn a o hk,hc,n,by simpa using hs⟩,?_⟩;have e:=r.length;simp only[Array.length_toList]at e;omega
theorem Inv.list_inj(I:Inv X pins σ H s)(h:ie X.K H a xs)(h':ie X.K H a ys):xs=ys:=by
 obtain⟨its,r,⟨o,n,e,_,_,d⟩,_⟩:=I.list h;obtain⟨its',r',⟨o',n',e',_,_,d'⟩,_⟩:=I.list h';rw[e]at e';cases e';rw[d]at d';injection d' with d1 _
 have:its=its':=by simpa using congrArg Array.toList d1
 subst this;exact r.inj r'
theorem Inv.tuple_inj(I:Inv X pins σ H s)(h:jD X.K H a xs)(h':jD X.K H a ys):xs=ys:=by
 obtain⟨its,r,⟨o,e,_,n,d⟩,_⟩:=I.tuple h;obtain⟨its',r',⟨o',e',_,n',d'⟩,_⟩:=I.tuple h';rw[e]at e';cases e';rw[d]at d';injection d' with d1 _
 have:its=its':=by simpa using congrArg Array.toList d1
 subst this;exact r.inj r'
end
noncomputable abbrev Cx.wish(X:Cx)(E:bx):Cx:={X with xe:=E}
noncomputable abbrev Cx.nox(X:Cx):Cx:=X.wish λ_ _=>False
theorem Cx.Ok.wish{X:Cx}(ok:X.Ok)(E:bx):(X.wish E).Ok:=
 ⟨ok.mod,ok.kind,ok.glob,ok.blt,ok.above,ok.inj,ok.has,ok.cab,ok.hd,ok.frames,ok.stk,ok.exf,ok.bs,ok.bsz,ok.noex,ok.exfs,ok.funs,ok.frf⟩
theorem Cx.Ok.unwish{X:Cx}{E:bx}(ok:(X.wish E).Ok):X.Ok:=
 ⟨ok.mod,ok.kind,ok.glob,ok.blt,ok.above,ok.inj,ok.has,ok.cab,ok.hd,ok.frames,ok.stk,ok.exf,ok.bs,ok.bsz,ok.noex,ok.exfs,ok.funs,ok.frf⟩
section
variable{X:Cx}{pins:aV}{σ:St}{H:Hp}{s:LZ}{E:bx}
theorem Inv.wish(I:Inv X pins σ H s)(E:bx):Inv (X.wish E) pins σ H s:=⟨I.ok.wish E,I.os,I.bare,I.base,I.loc,I.cell,I.free,I.freeC,I.pin,I.hok,I.len⟩
theorem Inv.unwish(I:Inv (X.wish E) pins σ H s):Inv X pins σ H s:=⟨I.ok.unwish,I.os,I.bare,I.base,I.loc,I.cell,I.free,I.freeC,I.pin,I.hok,I.len⟩
theorem SP.unwish{D:Ends}{f:Flow}{s':LZ}(h:SP (X.wish E) pins D f s'):SP X pins D f s':=by
 cases f with
 |next=>obtain⟨σ',H',I,q⟩:=h;exact⟨σ',H',I.unwish,q⟩
 |brk=>obtain⟨σ',H',I,q⟩:=h;exact⟨σ',H',I.unwish,q⟩
 |cont=>obtain⟨σ',H',I,q⟩:=h;exact⟨σ',H',I.unwish,q⟩
 |ret u=>obtain⟨v,σ',H',I,r,q⟩:=h;exact⟨v,σ',H',I.unwish,r,q⟩
theorem mR.nox{st:cH}{t:TS}(h:mR X.nox st t):mR X st t:=λpins s σ H D I hw=>
 Ml (h pins s σ H D (I.wish _) hw) (λ_ _ q=>q.unwish) λ_ _ z=>False.elim z
end
section
variable{X:Cx}{st:LY}{rest:cH}{t u:TS}{e:LX}{te:TE}{pos:Pos}
noncomputable def yd:TS:=λD σ H=>D.nx σ H
noncomputable def Fk(t u:TS):TS:=λD σ H=>t {D with nx:=u D} σ H
theorem rM:mR X [] yd:=λ_ _ σ H _ I h=>Ms ⟨σ,H,I,h⟩
theorem lJ(h1:PS X st t)(h2:mR X rest u):mR X (st::rest) (Fk t u):=by
 intro pins s σ H D I h;refine wpAny_execs_cons (ca (h1 pins s σ H {D with nx:=u D} I h) λf s1 q=>?_);cases f with
 |next=>
  obtain⟨σ',H',I',q⟩:=q;exact h2 pins s1 σ' H' D I' q
 |ret v=>exact q
 |brk=>exact q
 |cont=>exact q
theorem pq(h1:PS X st t):mR X [st] t:=by
 intro pins s σ H D I h;refine wpAny_execs_cons (ca (h1 pins s σ H D I h) λf s1 q=>?_);cases f with
 |next=>exact Ms q
 |ret v=>exact q
 |brk=>exact q
 |cont=>exact q
theorem zg:PS X (.Pass pos) yd:=λ_ _ σ H _ I h=>wpAny_Pass ⟨σ,H,I,h⟩
theorem Inv.quiet{pins:aV}{σ:St}{H:Hp}{s:LZ}(I:Inv X pins σ H s):interactive X.env=false:=by simp[interactive,I.ok.kind]
theorem Cz{x j pos pos'}:PS X (.Expr (.Constant (.str x) j pos) pos') yd:=λ_ s σ H _ I h=>wpAny_Expr (Calls.Constant_str (show SP X _ _ .next {s with toks:=s.toks+1}from⟨σ,H,I.tok _,h⟩)) I.quiet
noncomputable def Dp(te:TE):TS:=λD σ H=>te σ H λ_ H1=>D.nx σ H1
theorem sL(he:PE X e te)(hs:swapsWith e none pos.line X.env=pure false:=by rfl):PS X (.Expr e pos) (Dp te):=by
 intro pins s σ H D I h;exact wpAny_Expr_any (ca (he pins s σ H _ I h) λv s1 ⟨x,H1,I1,r1,q1⟩=>⟨σ,H1,I1,q1⟩) I.quiet hs
noncomputable def Fy(te:TE):TS:=λD σ H=>te σ H D.rt
theorem CD(he:PE X e te):PS X (.Return (some e) pos) (Fy te):=by
 intro pins s σ H D I h;exact wpAny_Return_some (ca (he pins s σ H _ I h) λv s1 ⟨x,H1,I1,r1,q1⟩=>⟨x,σ,H1,I1,r1,q1⟩)
noncomputable def FD(c:TT)(t u:TS):TS:=λD σ H=>c σ H λb H1=>if b=true then t D σ H1 else u D σ H1
theorem Dj{c:LX}{a b:cH}{tc:TT}(hc:PT X c tc)(ha:mR X a t)(hb:mR X b u):PS X (.If c a b pos) (FD tc t u):=by
 intro pins s σ H D I h;refine wpAny_If (ca (hc pins s σ H _ I h) λd s1 ⟨H1,I1,q1⟩=>?_);cases d with
 |true=>exact ha pins s1 σ H1 D I1 q1
 |false=>exact hb pins s1 σ H1 D I1 q1
end
noncomputable abbrev TG:=V->St->Hp->(St->Hp->Prop)->Prop
noncomputable abbrev AO:=List V->St->Hp->(St->Hp->Prop)->Prop
noncomputable def PG(X:Cx)(target:LX)(t:TG):Prop:=
 ∀(pins:aV)(s:LZ)(σ:St)(H:Hp)(v:V)(u:LU)(Q:St->Hp->Prop),Inv X pins σ H s->RelV v u->t v σ H Q->
  Mi (model X.prog X.w) X.A (assign target X.env u) (λ_ s'=>∃σ' H',Inv X pins σ' H' s'/\Q σ' H') X.xe s
noncomputable def DL(X:Cx)(ts:aZ)(t:AO):Prop:=
 ∀(pins:aV)(s:LZ)(σ:St)(H:Hp)(vs:aE)(us:aQ)(Q:St->Hp->Prop),Inv X pins σ H s->Vals vs us->t vs σ H Q->
  Mi (model X.prog X.w) X.A (assignInOrder ((assignEach ts X.env).map (·.2)) us) (λ_ s'=>∃σ' H',Inv X pins σ' H' s'/\Q σ' H') X.xe s
section
variable{X:Cx}{pos:Pos}
noncomputable def mS(i:Nat):TG:=λv σ H Q=>Q (σ.set i (some v)) H
theorem yQ{i:Nat}{x:Str}(hN:X.N.Nodup)(hi:X.N[i]?=some x)(hx:Loc X.env.scope x)(hf:X.fn x=true\/X.env.scope.names.lookup x=some .local:=by first|exact .inl rfl|exact .inr rfl|assumption):PG X (.Name x pos) (mS i):=by
 intro pins s σ H v u Q I r h;exact wpAny_assign_Name (k6 I hN hi hx r (λs' I'=>⟨_,H,I',h⟩) hf)
noncomputable def GQ:AO:=λvs σ H Q=>vs=[]/\Q σ H
noncomputable def D4(t:TG)(u:AO):AO:=λvs σ H Q=>∃v r,vs=v::r/\t v σ H λσ' H'=>u r σ' H' Q
theorem Az:DL X [] GQ:=by
 intro pins s σ H vs us Q I r h;obtain⟨e,h⟩:=h;subst e;cases r;exact assignInOrder_nil ⟨σ,H,I,h⟩
theorem xA{e:LX}{es:aZ}{t:TG}{u:AO}(h1:PG X e t)(h2:DL X es u)
  (hs:(assignEach (e::es) X.env).map (·.2)=assign e X.env::(assignEach es X.env).map (·.2):=by rfl):DL X (e::es) (D4 t u):=by
 intro pins s σ H vs us Q I r h;obtain⟨v,vr,e1,h⟩:=h;subst e1;cases r with
 |cons r rr=>
  rw[hs];refine assignInOrder_cons (ca (h1 pins s σ H _ _ _ I r h) λ_ s1 ⟨σ1,H1,I1,q1⟩=>?_);exact h2 pins s1 σ1 H1 _ _ Q I1 rr q1
noncomputable def GD(K:Ky)(n:Nat)(t:AO):TG:=λv σ H Q=>∃a xs,v=.ref a/\jD K H a xs/\xs.length=n/\t xs σ H Q
theorem Bx{es:aZ}{k:Nat}{t:AO}{n:Nat}(hc:X.calm=true)(h:DL X es t)
  (hn:(assignEach es X.env).length=n:=by rfl) (hst:(assignEach es X.env).findIdx? (·.1)=none:=by rfl):PG X (.Tuple es k pos) (GD X.K n t):=by
 intro pins s σ H v u Q I r hw;obtain⟨a,xs,e1,hq,hl,hw⟩:=hw;subst e1;cases r;obtain⟨its,rv,ht,hz⟩:=I.tuple hq;refine assign_Tuple_tuple (I.ok.hd hc) ht (by simp[hn,<-hl,rv.length]) hst λh' hx=>?_;have I1:Inv X pins σ H {s with heap:=h'}:=I.kept (t':=s.toks) λb o e=>hx b o (Ih (Lf e)) e;exact h pins _ σ H xs _ Q I1 (by simpa using rv) hw
noncomputable def zQ(te:TE)(g:TG):TS:=λD σ H=>te σ H λx H1=>g x σ H1 D.nx
theorem xt{i:Nat}{x:Str}{e:LX}{te:TE}{pos':Pos}(hN:X.N.Nodup)(hi:X.N[i]?=some x)(hx:Loc X.env.scope x)(he:PE X e te)(hs:swapsWith e (some (.Name x pos')) pos.line X.env=pure false:=by rfl)(hf:X.fn x=true\/X.env.scope.names.lookup x=some .local:=by first|exact .inl rfl|exact .inr rfl|assumption):
  PS X (.Assign [.Name x pos'] e pos) (zQ te (mS i)):=by
 intro pins s σ H D I h;refine wpAny_Assign_Name (ca (he pins s σ H _ I h) λv s1 ⟨y,H1,I1,r1,q1⟩=>?_) hs;exact k6 I1 hN hi hx r1 (λs2 I2=>⟨_,H1,I2,q1⟩) hf
end
section
variable{X:Cx}{pos:Pos}
noncomputable def BJ(c:TT)(tb:TS):TS:=λD σ H=>∃W:Nat->St->Hp->Prop,(∃m,W m σ H)/\∀m σ H,W m σ H->
 c σ H λb H1=>if b=true then∃N:St->Hp->Prop,(∀σ' H',N σ' H'->∃m',m'<m/\W m' σ' H')/\tb {D with nx:=N,ct:=N,bk:=D.nx} σ H1 else D.nx σ H1
theorem we{c:LX}{body:cH}{tc:TT}{tb:TS}(hp:Mt (model X.prog X.w) X.A X.env X.xe)(hc:PT X c tc)(hb:mR X body tb):PS X (.While c body [] pos) (BJ tc tb):=by
 intro pins s σ H D I h;obtain⟨W,⟨m0,w0⟩,turn⟩:=h;refine wpAny_While (codeAny_whileLoop (λn s'=>∃σ' H',Inv X pins σ' H' s'/\W n σ' H') ?_ m0 ⟨σ,H,I,w0⟩);rintro n s1 ⟨σ1,H1,I1,w1⟩;refine Mu hp (ca (hc pins s1 σ1 H1 _ I1 (turn n σ1 H1 w1)) λb s2 ⟨H2,I2,q2⟩=>?_);cases b with
 |true=>
  obtain⟨N,hN,q2⟩:=q2;rw[if_pos rfl];refine Mu hp (ca (hb pins s2 σ1 H2 _ I2 q2) λf s3 q3=>?_);cases f with
  |next=>
   obtain⟨σ3,H3,I3,n3⟩:=q3;obtain⟨m',hm,w3⟩:=hN σ3 H3 n3;exact⟨m',hm,σ3,H3,I3,w3⟩
  |cont=>
   obtain⟨σ3,H3,I3,n3⟩:=q3;obtain⟨m',hm,w3⟩:=hN σ3 H3 n3;exact⟨m',hm,σ3,H3,I3,w3⟩
  |brk=>exact q3
  |ret v=>exact q3
 |false=>
  rw[if_neg Iu];exact Ms ⟨σ1,H2,I2,q2⟩
end
structure It where
 go:Nat->Hp->Prop
 yld:Nat->Hp->V->Hp->Prop
 stop:Nat->Hp->Prop
noncomputable def mx(X:Cx)(pins:aV)(H:Hp)(b:LW):Prop:=
 H b=none/\b≠X.env.locals/\b∉X.fs/\(b∈X.ex\/X.s₀.heap.objs.size<=b)/\(∀x c,X.env.cells.lookup x=some c->c≠b)/\∀p∈X.pn++pins,p.1≠b
theorem Inv.fpOk{X:Cx}{pins:aV}{σ:St}{H H':Hp}{s:LZ}{b:LW}(I:Inv X pins σ H s)(hb:s.heap.objs.size<=b)(hn:H' b=none):mx X pins H' b:=by
 refine⟨hn,Iw (Ie I.lt hb),I.nofs hb,.inr (Ii I.sz hb),λx c e z=>?_,λp hp z=>?_⟩
 ·obtain⟨v,q⟩:=I.cell x c e;exact absurd (Ie q.lt (by rw[z];exact hb)) (Ig _)
 ·exact absurd (Ie (Lf (I.pin p hp).1) (by rw[z];exact hb)) (Ig _)
structure Turn(P:L7)(w:L6)(K:Ky)(tg:LX)(J:It)(fp:aA)(it:LW)(tn:Nat->L8->Prop):Prop where
 mem:it∈fp
 obj:∀i h,tn i h->∀b∈fp,∃o,h.get? b=some o/\∀v,o.data≠.cell v
 keep:∀i h h',tn i h->(∀b∈fp,∀o,h.get? b=some o->h'.get? b=some o)->tn i h'
 item:∀(X:Cx),X.prog=P->X.w=w->X.K=K->X.calm=true->∀(i:Nat)(pins:aV)(s:LZ)(σ:St)(H:Hp)(E:bx),Inv X pins σ H s->(∀b∈fp,mx X pins H b)->tn i s.heap->J.go i H->
  Mi (model P w) X.A (pyNext (.ref it)) (λr s1=>∃u,r=some u/\
   Mi (model P w) X.A (letOwnedTupleGo tg (.ref it) u) (λ_ s2=>∃x H',Inv X pins σ H' s2/\RelV x u/\J.yld i H x H'/\tn (i+1) s2.heap/\∀b∈fp,H' b=none) E s1) E s
 done:∀(X:Cx),X.prog=P->X.w=w->X.K=K->X.calm=true->∀(i:Nat)(pins:aV)(s:LZ)(σ:St)(H:Hp)(E:bx),Inv X pins σ H s->(∀b∈fp,mx X pins H b)->tn i s.heap->J.stop i H->
  Mi (model P w) X.A (pyNext (.ref it)) (λr s1=>r=none/\Inv X pins σ H s1) E s
 self:∀(A:Mf)(i:Nat)(s:LZ)(Q:bx)(E:bx),tn i s.heap->Q (.ref it) s->Mi (model P w) A (pyIter (.ref it)) Q E s
noncomputable abbrev TI:=St->Hp->(It->Hp->Prop)->Prop
noncomputable def PIE(X:Cx)(pins:aV)(σ:St)(tg:LX)(R:It->Hp->Prop)(itv:LU)(s2:LZ):Prop:=
 ∃(it:LW)(fp:aA)(tn:Nat->L8->Prop)(J:It)(H':Hp),itv=.ref it/\Inv X pins σ H' s2/\Turn X.prog X.w X.K tg J fp it tn/\tn 0 s2.heap/\(∀b∈fp,mx X pins H' b)/\R J H'
noncomputable def PI(X:Cx)(tg iter:LX)(wi:TI):Prop:=
 ∀(pins:aV)(s:LZ)(σ:St)(H:Hp)(R:It->Hp->Prop),Inv X pins σ H s->wi σ H R->
  Mi (model X.prog X.w) X.A (eval iter X.env) (λv s1=>Mi (model X.prog X.w) X.A (pyIter v) (PIE X pins σ tg R) X.xe s1) X.xe s
theorem wy{M:Mh}{A:Mf}{E:bx}{s:LZ}{tg:LX}{it:LW}{u:LU}{o:Obj}{n:String}{vs:Array LU}{Q:Unit->gb}(ho:s.heap.get? it=some o)(hc:o.cls=.type n)(hd:o.data=.fields vs)
    (hn:["enumerate","zip","dict_itemiterator","dict_reverseitemiterator","odict_iterator","itertools.zip_longest","itertools.pairwise"].contains n=false) (hQ:Q () s):Mi M A (letOwnedTupleGo tg (.ref it) u) Q E s:=by
  unfold letOwnedTupleGo;cases tg<;>first
    |exact Mv hQ
    | (cases u <;> first
        |exact Mv hQ
        | (refine Mw (wpAny_load ho ?_)
           rw[hc,hd];show Mi M A (if(["enumerate","zip","dict_itemiterator","dict_reverseitemiterator","odict_iterator","itertools.zip_longest","itertools.pairwise"].contains n&&vs[0]?==some (rawInt _))=true then _ else _) Q E s;rw[if_neg (by intro h;rw[hn,Bool.false_and]at h;cases h)];exact Mv hQ))
noncomputable def GA(K:Ky)(a:LW):It:=
 ⟨λi H=>∃xs x,ie K H a xs/\xs[i]?=some x,λi H x H'=>H'=H/\∀xs,ie K H a xs->xs[i]?=some x,λi H=>∃xs,ie K H a xs/\xs.length<=i⟩
noncomputable def F9(K:Ky)(a:LW):It:=
 ⟨λi H=>∃xs x,jD K H a xs/\xs[i]?=some x,λi H x H'=>H'=H/\∀xs,jD K H a xs->xs[i]?=some x,λi H=>∃xs,jD K H a xs/\xs.length<=i⟩
noncomputable def E6(lo:Int)(n:Nat):It:=⟨λi _=>i<n,λi H x H'=>H'=H/\x=.int (lo+i),λi _=>n<=i⟩
theorem uh{P:L7}{w:L6}{K:Ky}{tg:LX}(a it:LW):Turn P w K tg (GA K a) [it] it (λi h=>h.IsListIter it a i)where
 mem:=by simp
 obj:=λi h st b hb=>by
  have e:b=it:=by simpa using hb
  subst e;obtain⟨o,e,c,d⟩:=st;exact⟨o,e,λv z=>by rw[d]at z;cases z⟩
 keep:=λi h h' st k=>st.at λo e=>k it (by simp) o e
 item:=by
  intro X hP hw hK hc i pins s σ H E I hf st hg;subst hP hw hK;obtain⟨xs,x,hq,hx⟩:=hg;obtain⟨its,rv,p,hz⟩:=I.list hq;obtain⟨u,hu,ru⟩:=rv.get hx;obtain⟨f0,f1,f2,f3,f4,f5⟩:=hf it (by simp);refine wpAny_pyNext_list_item st p.isList (x:=u) (by simpa using hu) λh' st' sb=>?_;have I1:Inv X pins σ H {s with heap:=h'}:=I.turned (t':=s.toks) (λb o hb e=>(sb.2 b hb).trans e) f0 f1 f3 f4 f5;obtain⟨o,e,c,d⟩:=id st';exact⟨u,rfl,wy (s:={s with heap:=h'}) e c d (by decide) ⟨x,H,I1,ru,⟨rfl,λys hy=>by rw[I.list_inj hy hq];exact hx⟩,st',λb hb=>(hf b hb).1⟩⟩
 done:=by
  intro X hP hw hK hc i pins s σ H E I hf st hg;subst hP hw hK;obtain⟨xs,hq,hx⟩:=hg;obtain⟨its,rv,p,hz⟩:=I.list hq;obtain⟨f0,f1,f2,f3,f4,f5⟩:=hf it (by simp);have hl:=rv.length;exact wpAny_pyNext_list_end (I.ok.hd hc) st p.isList (by simp;omega) λh' eb=>⟨rfl,I.turned (t':=s.toks) (λb o hb e=>eb b o hb e) f0 f1 f3 f4 f5⟩
 self:=λ_ _ _ _ _ st h=>wpAny_pyIter_listiter st h
theorem ro{P:L7}{w:L6}{K:Ky}{tg:LX}(a it:LW):Turn P w K tg (F9 K a) [it] it (λi h=>h.IsTupleIter it a i)where
 mem:=by simp
 obj:=λi h st b hb=>by
  have e:b=it:=by simpa using hb
  subst e;obtain⟨o,e,c,d⟩:=st;exact⟨o,e,λv z=>by rw[d]at z;cases z⟩
 keep:=λi h h' st k=>st.at λo e=>k it (by simp) o e
 item:=by
  intro X hP hw hK hc i pins s σ H E I hf st hg;subst hP hw hK;obtain⟨xs,x,hq,hx⟩:=hg;obtain⟨its,rv,p,hz⟩:=I.tuple hq;obtain⟨u,hu,ru⟩:=rv.get hx;obtain⟨f0,f1,f2,f3,f4,f5⟩:=hf it (by simp);refine wpAny_pyNext_tuple_item st (show s.heap.IsTuple a its.toArray from p) (x:=u) (by simpa using hu) λh' st' sb=>?_;have I1:Inv X pins σ H {s with heap:=h'}:=I.turned (t':=s.toks) (λb o hb e=>(sb.2 b hb).trans e) f0 f1 f3 f4 f5;obtain⟨o,e,c,d⟩:=id st';exact⟨u,rfl,wy (s:={s with heap:=h'}) e c d (by decide) ⟨x,H,I1,ru,⟨rfl,λys hy=>by rw[I.tuple_inj hy hq];exact hx⟩,st',λb hb=>(hf b hb).1⟩⟩
 done:=by
  intro X hP hw hK hc i pins s σ H E I hf st hg;subst hP hw hK;obtain⟨xs,hq,hx⟩:=hg;obtain⟨its,rv,p,hz⟩:=I.tuple hq;obtain⟨f0,f1,f2,f3,f4,f5⟩:=hf it (by simp);have hl:=rv.length;exact wpAny_pyNext_tuple_end (I.ok.hd hc) st (show s.heap.IsTuple a its.toArray from p) (by simp;omega) λh' eb=>⟨rfl,I.turned (t':=s.toks) (λb o hb e=>eb b o hb e) f0 f1 f3 f4 f5⟩
 self:=λ_ _ _ _ _ st h=>wpAny_pyIter_tupleiter st h
theorem qJ{P:L7}{w:L6}{K:Ky}{tg:LX}(it:LW)(lo:Int)(n:Nat):Turn P w K tg (E6 lo n) [it] it (λi h=>IsRangeIter h it (lo+(i:Nat)*1) ((n:Int)-(i:Nat)) 1)where
 mem:=by simp
 obj:=λi h st b hb=>by
  have e:b=it:=by simpa using hb
  subst e;exact⟨_,st,λv z=>by
   have z':Data.fields _=Data.cell v:=z;cases z'⟩
 keep:=λi h h' st k=>k it (by simp) _ st
 item:=by
  intro X hP hw hK hc i pins s σ H E I hf st hg;subst hP hw hK;obtain⟨f0,f1,f2,f3,f4,f5⟩:=hf it (by simp);have W:=Walks.range (prog:=X.prog) (w:=X.w) (I.ok.hd hc) it lo 1 n;refine W.item i s _ _ hg st λv h' tk hv st' kk=>?_;obtain⟨t,rfl⟩:=hv;have I1:Inv X pins σ H {s with heap:=h',toks:=tk}:=I.turned (λb o hb e=>kk b o (by simpa using hb) e) f0 f1 f3 f4 f5;refine⟨_,rfl,wy (s:={s with heap:=h',toks:=tk}) (n:="range_iterator") st' rfl rfl (by decide) ⟨.int (lo+i),H,I1,⟨t,?_⟩,⟨rfl,rfl⟩,st',λb hb=>(hf b hb).1⟩⟩;rw[Int.mul_one]
 done:=by
  intro X hP hw hK hc i pins s σ H E I hf st hg;subst hP hw hK;obtain⟨f0,f1,f2,f3,f4,f5⟩:=hf it (by simp);exact wpAny_pyNext_range_end (I.ok.hd hc) st (by have:n<=i:=hg;omega) λh' eb=>⟨rfl,I.turned (t':=s.toks) (λb o hb e=>eb b o hb e) f0 f1 f3 f4 f5⟩
 self:=λ_ _ _ _ _ st h=>wpAny_pyIter_rangeiter st h
section
variable{X:Cx}{tg:LX}
noncomputable def DR(K:Ky)(tl:TE):TI:=λσ H R=>tl σ H λx H1=>∃a,x=.ref a/\(∃xs,ie K H1 a xs)/\R (GA K a) H1
noncomputable def Ge(K:Ky)(tl:TE):TI:=λσ H R=>tl σ H λx H1=>∃a,x=.ref a/\(∃xs,jD K H1 a xs)/\R (F9 K a) H1
theorem tG{l:LX}{tl:TE}(hl:PE X l tl):PI X tg l (DR X.K tl):=by
 intro pins s σ H R I h;refine ca (hl pins s σ H _ I h) λv s1 ⟨x,H1,I1,r1,q1⟩=>?_;obtain⟨a,e,⟨xs,hq⟩,q⟩:=q1;subst e;cases r1;obtain⟨its,rv,p,hz⟩:=I1.list hq;refine Mx p.isList ?_;refine⟨s1.heap.objs.size,[s1.heap.objs.size],_,_,H1,rfl,I1.kept (t':=s1.toks) λb o e=>Li _ e,uh a _,⟨_,Lj _ rfl,rfl,rfl⟩,λb hb=>?_,q⟩;have e:b=s1.heap.objs.size:=by simpa using hb
 subst e;exact I1.fpOk (Iy _) (I1.hok.fresh (Iy _))
theorem C6{l:LX}{tl:TE}(hl:PE X l tl):PI X tg l (Ge X.K tl):=by
 intro pins s σ H R I h;refine ca (hl pins s σ H _ I h) λv s1 ⟨x,H1,I1,r1,q1⟩=>?_;obtain⟨a,e,⟨xs,hq⟩,q⟩:=q1;subst e;cases r1;obtain⟨its,rv,p,hz⟩:=I1.tuple hq;refine wpAny_pyIter_tuple (show s1.heap.IsTuple a its.toArray from p) ?_;refine⟨s1.heap.objs.size,[s1.heap.objs.size],_,_,H1,rfl,I1.kept (t':=s1.toks) λb o e=>Li _ e,ro a _,⟨_,Lj _ rfl,rfl,rfl⟩,λb hb=>?_,q⟩;have e:b=s1.heap.objs.size:=by simpa using hb
 subst e;exact I1.fpOk (Iy _) (I1.hok.fresh (Iy _))
theorem vZ{pins:aV}{σ:St}{H:Hp}{s:LZ}{R:It->Hp->Prop}{E:bx}{lo hi:Int}{t u v:Tok}{tk:Nat}(I:Inv X pins σ H s)(h1:-(2^62)<=lo)(h2:lo<2^62)(h3:-(2^62)<=hi)(h4:hi<2^62)
  (q:R (E6 lo (hi-lo).toNat) H):Mi (model X.prog X.w) X.A (pyIter (.ref s.heap.objs.size)) (PIE X pins σ tg R) E {s with heap:=s.heap.push {cls:=.type "range",data:=.fields #[.int lo t,.int hi u,.int 1 v]},toks:=tk}:=by
 refine wpAny_pyIter_range (IsRange.new ..) (small_one h1 h2 h3 h4) ?_;have I1:Inv X pins σ H {s with heap:=s.heap.push {cls:=.type "range",data:=.fields #[.int lo t,.int hi u,.int 1 v]},toks:=tk}:=I.kept λb o e=>Li _ e;refine⟨(s.heap.push {cls:=.type "range",data:=.fields #[.int lo t,.int hi u,.int 1 v]}).objs.size,[(s.heap.push {cls:=.type "range",data:=.fields #[.int lo t,.int hi u,.int 1 v]}).objs.size],_,_,H,rfl,
  I1.kept (t':=tk) λb o e=>Li _ e,qJ _ lo (hi-lo).toNat,?_,λb hb=>?_,q⟩
 ·have e1:lo+((0:Nat):Int)*1=lo:=by simp
  have e2:(((hi-lo).toNat:Nat):Int)-((0:Nat):Int)=Builtin.Range.rangeSize lo hi 1:=by rw[rangeSize_one];split<;>omega
  show IsRangeIter _ _ (lo+((0:Nat):Int)*1) ((((hi-lo).toNat:Nat):Int)-((0:Nat):Int)) 1;rw[e1,e2];exact Lj _ rfl
 ·have e:b=(s.heap.push {cls:=.type "range",data:=.fields #[.int lo t,.int hi u,.int 1 v]}).objs.size:=by simpa using hb
  subst e;exact I1.fpOk (Iy _) (I1.hok.fresh (Iy _))
noncomputable def D3(ta:TA):TI:=λσ H R=>ta σ H λvs H1=>∃j:Int,vs=[.int j]/\-(2^62)<=j/\j<2^62/\R (E6 0 j.toNat) H1
theorem uJ{a:LX}{ta:TA}{p pos:Pos}(hg:Gl X "range")(hm:X.mg "range"=none)(ha:PA X [a] ta)(hs:Mj [a] X.env=[(false,eval a X.env)]:=by rfl):PI X tg (.Call (.Name "range" p) [a] [] pos) (D3 ta):=by
 intro pins s σ H R I h;refine Call_ (jx I hg hm boot_range (Lw (ca (ha pos pins s σ H _ I h) λus s1 ⟨vs,H1,I1,r1,q1⟩=>?_) hs rfl));obtain⟨j,e,q1,q2,q⟩:=q1;subst e;cases r1 with
 |cons r rr=>
  cases rr;obtain⟨t,rfl⟩:=r;exact call_range_1 (vZ I1 ‹0› ‹0› q1 q2 (by simpa using q))
noncomputable def GC(wi:TI)(g:TG)(tb:TS):TS:=λD σ H=>wi σ H λJ H1=>∃W:Nat->Nat->St->Hp->Prop,(∃m,W 0 m σ H1)/\∀i m σ H,W i m σ H->
 (J.stop i H/\D.nx σ H)\/(J.go i H/\∃N:St->Hp->Prop,(∀σ' H',N σ' H'->∃m',m'<m/\W (i+1) m' σ' H')/\∀x H',J.yld i H x H'->g x σ H' λσ2 H2=>tb {D with nx:=N,ct:=N,bk:=D.nx} σ2 H2)
noncomputable def lE(fp:aA)(h:L8):aV:=fp.filterMap λb=>(h.get? b).map λo=>(b,o)
theorem fh{fp:aA}{h:L8}{b:LW}{o:Obj}(hb:b∈fp)(e:h.get? b=some o):(b,o)∈lE fp h:=List.mem_filterMap.mpr ⟨b,hb,by rw[e];rfl⟩
theorem uU{fp:aA}{h:L8}{p:LW×Obj}(hp:p∈lE fp h):p.1∈fp/\h.get? p.1=some p.2:=by
 obtain⟨b,hb,e⟩:=List.mem_filterMap.mp hp;cases q:h.get? b with
 |none=>rw[q]at e;cases e
 |some o=>
  rw[q]at e;have e':(b,o)=p:=Option.some.inj e;subst e';exact⟨hb,q⟩
theorem Inv.pinned{pins:aV}{σ:St}{H:Hp}{s:LZ}{fp:aA}(I:Inv X pins σ H s)(hf:∀b∈fp,mx X pins H b)(ho:∀b∈fp,∃o,s.heap.get? b=some o/\∀v,o.data≠.cell v):Inv X (pins++lE fp s.heap) σ H s:=
 I.pins_of λp hp=>(List.mem_append.mp hp).elim (λz=>I.pin p (Iz _ z)) λz=>by
  obtain⟨hb,e⟩:=uU z;obtain⟨f0,f1,f2,_⟩:=hf p.1 hb;obtain⟨o,e',d⟩:=ho p.1 hb;rw[e]at e';cases e';exact⟨e,f0,f1,f2,d⟩
theorem Inv.unpinned{pins pl:aV}{σ:St}{H:Hp}{s:LZ}(I:Inv X (pins++pl) σ H s):Inv X pins σ H s:=I.pins_of λp hp=>I.pin p (Iz _ (Io _ hp))
theorem CK{iter:LX}{body:cH}{wi:TI}{g:TG}{tb:TS}{pos:Pos}(hp:Mt (model X.prog X.w) X.A X.env X.xe)(hc:X.calm=true)(hi:PI X tg iter wi)(hg:PG X tg g)(hb:mR X body tb)
  (hs:∀x,My iter X.env x=pure x:=by intro _;rfl):PS X (.For tg iter body [] pos) (GC wi g tb):=by
 intro pins s σ H D I h;refine wpAny_For (ca (hi pins s σ H _ I h) λv s1 h1=>ca h1 λitv s2 h2=>?_) hs;obtain⟨it,fp,tn,J,H2,e,I2,T,st2,f2,W,⟨m0,w0⟩,turn⟩:=h2;subst e;have stat:∀{H':Hp},(∀b∈fp,H' b=none)->∀b∈fp,mx X pins H' b:=λhn b hb=>⟨hn b hb,(f2 b hb).2⟩
 refine codeAny_forLoop_any (λn s'=>∃i σ' H',Inv X pins σ' H' s'/\tn i s'.heap/\(∀b∈fp,H' b=none)/\W i n σ' H') ?_ m0 ⟨0,σ,H2,I2,st2,λb hb=>(f2 b hb).1,w0⟩;rintro n s3 ⟨i,σ3,H3,I3,st3,fr3,w3⟩;rcases turn i n σ3 H3 w3 with⟨stop,qn⟩|⟨go,N,hN,step⟩
 ·refine Mu hp (ca (T.done X rfl rfl rfl hc i pins s3 σ3 H3 X.xe I3 (stat fr3) st3 stop) λr s4 ⟨hr,I4⟩=>?_);subst hr;exact Ms ⟨σ3,H3,I4,qn⟩
 ·refine Mu hp (ca (T.item X rfl rfl rfl hc i pins s3 σ3 H3 X.xe I3 (stat fr3) st3 go) λr s4 ⟨u,hr,h4⟩=>?_);subst hr;refine Mu hp (ca h4 λ_ s5 ⟨x,H5,I5,r5,y5,st5,fr5⟩=>?_);have I5':=I5.pinned (stat fr5) (T.obj _ _ st5);refine Mu hp (ca (hg _ s5 σ3 H5 x u _ I5' r5 (step x H5 y5)) λ_ s6 ⟨σ6,H6,I6,q6⟩=>?_);refine Mu hp (ca (hb _ s6 σ6 H6 _ I6 q6) λf s7 q7=>?_);have again:∀{σ7:St}{H7:Hp},Inv X (pins++lE fp s5.heap) σ7 H7 s7->N σ7 H7->∃m,m<n/\∃i σ' H',Inv X pins σ' H' s7/\tn i s7.heap/\(∀b∈fp,H' b=none)/\W i m σ' H':=λ{σ7 H7} I7 n7=>by
   obtain⟨m',hm,w7⟩:=hN σ7 H7 n7;refine⟨m',hm,i+1,σ7,H7,I7.unpinned,T.keep _ _ _ st5 λb hb o e=>(I7.pin (b,o) (Iz _ (Iz _ (fh hb e)))).1,λb hb=>?_,w7⟩;obtain⟨o,e,d⟩:=T.obj _ _ st5 b hb;exact(I7.pin (b,o) (Iz _ (Iz _ (fh hb e)))).2.1
  cases f with
  |next=>obtain⟨σ7,H7,I7,n7⟩:=q7;exact again I7 n7
  |cont=>obtain⟨σ7,H7,I7,n7⟩:=q7;exact again I7 n7
  |brk=>obtain⟨σ7,H7,I7,q7⟩:=q7;exact⟨σ7,H7,I7.unpinned,q7⟩
  |ret v=>obtain⟨x7,σ7,H7,I7,r7,q7⟩:=q7;exact⟨x7,σ7,H7,I7.unpinned,r7,q7⟩
end
noncomputable abbrev R2:=V->V->Hp->VK->Prop
noncomputable def fO(X:Cx)(f:LU->LU->Sem LU)(r:R2):Prop:=
 ∀(pins:aV)(s:LZ)(σ:St)(H:Hp)(x y:V)(v u:LU)(Q:VK),Inv X pins σ H s->RelV x v->RelV y u->r x y H Q->
  Mi (model X.prog X.w) X.A (f v u) (EP X pins σ Q) X.xe s
noncomputable def Gf(X:Cx)(f:LU->Sem LU)(r:V->Hp->VK->Prop):Prop:=
 ∀(pins:aV)(s:LZ)(σ:St)(H:Hp)(x:V)(v:LU)(Q:VK),Inv X pins σ H s->RelV x v->r x H Q->
  Mi (model X.prog X.w) X.A (f v) (EP X pins σ Q) X.xe s
noncomputable def eD(X:Cx)(f:LU)(r:aE->Hp->VK->Prop):Prop:=
 ∀(pins:aV)(s:LZ)(σ:St)(H:Hp)(xs:aE)(us:aQ)(Q:VK),Inv X pins σ H s->Vals xs us->r xs H Q->
  Mi (model X.prog X.w) X.A (call f us) (EP X pins σ Q) X.xe s
noncomputable def GU(X:Cx)(r:V->Hp->(Bool->Hp->Prop)->Prop):Prop:=
 ∀(pins:aV)(s:LZ)(σ:St)(H:Hp)(x:V)(v:LU)(Q:Bool->Hp->Prop),Inv X pins σ H s->RelV x v->r x H Q->
  Mi (model X.prog X.w) X.A (truthy v) (TP X pins σ Q) X.xe s
noncomputable def Di(r:R2)(ta tb:TE):TE:=λσ H Q=>ta σ H λx H1=>tb σ H1 λy H2=>r x y H2 Q
noncomputable def G7(r:V->Hp->VK->Prop)(ta:TE):TE:=λσ H Q=>ta σ H λx H1=>r x H1 Q
noncomputable def rI(C:Int->Int->Prop)(g:Int->Int->V):R2:=λx y H Q=>∃i j,x=.int i/\y=.int j/\C i j/\Q (g i j) H
noncomputable def yv(g:Int->Int->V):R2:=λx y H Q=>∃i j,x=.int i/\y=.int j/\Q (g i j) H
noncomputable def rU(g:Int->V):V->Hp->VK->Prop:=λx H Q=>∃i,x=.int i/\Q (g i) H
section
variable{X:Cx}{a b c:LX}{ta tb tc:TE}{pos:Pos}
theorem BV(ha:PE X a ta)(hb:PE X b tb){pins:aV}{s:LZ}{σ:St}{H:Hp}{R:V->V->Hp->Prop}(I:Inv X pins σ H s)
  (h:ta σ H λx H1=>tb σ H1 λy H2=>R x y H2) {Q:bx} {f:LU->LU->Sem LU}
  (hf:∀v u s2 x y H2,Inv X pins σ H2 s2->RelV x v->RelV y u->R x y H2->Mi (model X.prog X.w) X.A (f v u) Q X.xe s2):
  Mi (model X.prog X.w) X.A (eval a X.env) (λv s₁=>Mi (model X.prog X.w) X.A (eval b X.env) (λu s₂=>Mi (model X.prog X.w) X.A (f v u) Q X.xe s₂) X.xe s₁) X.xe s:=by
 refine ca (ha pins s σ H _ I h) λv s1 ⟨x,H1,I1,r1,q1⟩=>?_;refine ca (hb pins s1 σ H1 _ I1 q1) λu s2 ⟨y,H2,I2,r2,q2⟩=>?_;exact hf v u s2 x y H2 I2 r1 r2 q2
theorem Dg{op:Operator}{r:R2}(ho:fO X (Mz op) r)(ha:PE X a ta)(hb:PE X b tb):PE X (.BinOp a op b pos) (Di r ta tb):=by
 intro pins s σ H Q I h;exact wpAny_BinOp (BV ha hb I h λv u s2 x y H2 I2 rx ry q=>ho pins s2 σ H2 x y v u Q I2 rx ry q)
theorem Dv{op:UnaryOp}{r:V->Hp->VK->Prop}(ho:Gf X (unaryOp op) r)(ha:PE X a ta):PE X (.UnaryOp op a pos) (G7 r ta):=by
 intro pins s σ H Q I h;exact UnaryOp_ (ca (ha pins s σ H _ I h) λv s1 ⟨x,H1,I1,r1,q1⟩=>ho pins s1 σ H1 x v Q I1 r1 q1)
theorem Ey{f:LU->LU->Sem LU}{C:Int->Int->Prop}{g:Int->Int->Int}
  (rule:∀(i j:Int)(t u:Tok)(s:LZ)(Q:bx)(E:bx),C i j->Q (.int (g i j) s.toks) {s with toks:=s.toks+1}->Mi (model X.prog X.w) X.A (f (.int i t) (.int j u)) Q E s):
  fO X f (rI C λi j=>.int (g i j)):=by
 intro pins s σ H x y v u Q I rx ry h;obtain⟨i,j,rfl,rfl,hc,q⟩:=h;obtain⟨t,rfl⟩:=rx;obtain⟨t',rfl⟩:=ry;exact rule i j t t' s _ _ hc ⟨.int (g i j),H,I.tok _,⟨_,rfl⟩,q⟩
theorem DF{f:LU->LU->Sem LU}{g:Int->Int->Int}
  (rule:∀(i j:Int)(t u:Tok)(s:LZ)(Q:bx)(E:bx),Q (.int (g i j) s.toks) {s with toks:=s.toks+1}->Mi (model X.prog X.w) X.A (f (.int i t) (.int j u)) Q E s):
  fO X f (yv λi j=>.int (g i j)):=by
 intro pins s σ H x y v u Q I rx ry h;obtain⟨i,j,rfl,rfl,q⟩:=h;obtain⟨t,rfl⟩:=rx;obtain⟨t',rfl⟩:=ry;exact rule i j t t' s _ _ ⟨.int (g i j),H,I.tok _,⟨_,rfl⟩,q⟩
theorem zV{f:LU->LU->Sem LU}{g:Int->Int->Bool}
  (rule:∀(i j:Int)(t u:Tok)(s:LZ)(Q:bx)(E:bx),Q (.bool (g i j)) s->Mi (model X.prog X.w) X.A (f (.int i t) (.int j u)) Q E s):
  fO X f (yv λi j=>.bl (g i j)):=by
 intro pins s σ H x y v u Q I rx ry h;obtain⟨i,j,rfl,rfl,q⟩:=h;obtain⟨t,rfl⟩:=rx;obtain⟨t',rfl⟩:=ry;exact rule i j t t' s _ _ ⟨.bl (g i j),H,I,rfl,q⟩
noncomputable def El(i j:Int):Prop:=0<=j/\j<=1000000/\i.natAbs<2^64
noncomputable def BO(i j:Int):Prop:=(-(2^64)<i/\i<2^64)\/(-(2^64)<j/\j<2^64)
theorem BO.ok{i j:Int}(h:BO i j):IntMulOk i j:=by
 rcases h with⟨h1,h2⟩|⟨h1,h2⟩
 ·exact .of_left (intBits_le_64 h1 h2)
 ·exact .of_right (intBits_le_64 h1 h2)
theorem Bj:fO X (Mz .Add) (yv λi j=>.int (i+j)):=DF λ_ _ _ _ _ _ _ q=>add_int q
theorem CT:fO X (Mz .Sub) (yv λi j=>.int (i-j)):=DF λ_ _ _ _ _ _ _ q=>sub_int q
theorem Bt:fO X (Mz .Mult) (rI BO λi j=>.int (i*j)):=Ey λ_ _ _ _ _ _ _ hc q=>mul_int q hc.ok
theorem BU:fO X (Mz .Mod) (rI (λ_ j=>0<j) λi j=>.int (i%j)):=Ey λi j _ _ _ _ _ hc q=>by
 have h1:(0:Int)<j:=hc;exact mod_int' ‹0› (by rw[Int.fmod_eq_emod_of_nonneg i ‹0›];exact q)
theorem C7:fO X (Mz .Pow) (rI El λi j=>.int (i^j.toNat)):=Ey λ_ _ _ _ _ _ _ hc q=>pow_int_small hc.1 hc.2.1 hc.2.2 q
theorem HR{f:LU->Sem LU}{g:Int->Int}
  (rule:∀(i:Int)(t:Tok)(s:LZ)(Q:bx)(E:bx),Q (.int (g i) s.toks) {s with toks:=s.toks+1}->Mi (model X.prog X.w) X.A (f (.int i t)) Q E s):
  Gf X f (rU λi=>.int (g i)):=by
 intro pins s σ H x v Q I rx h;obtain⟨i,rfl,q⟩:=h;obtain⟨t,rfl⟩:=rx;exact rule i t s _ _ ⟨.int (g i),H,I.tok _,⟨_,rfl⟩,q⟩
theorem Ck:Gf X (unaryOp .USub) (rU λi=>.int (-i)):=HR λ_ _ _ _ _ q=>neg_int q
end
section
variable{X:Cx}{a b c:LX}{ta tb tc:TE}{pos:Pos}
theorem vJ{pins:aV}{σ:St}{H:Hp}{s:LZ}{Q:VK}{k k':Bool}(I:Inv X pins σ H s)(q:Q (.bl k) H)(e:k=k'):EP X pins σ Q (.bool k') s:=by
 subst e;exact⟨.bl k,H,I,rfl,q⟩
theorem Ek:fO X (Mp .Lt) (yv λi j=>.bl (decide (i<j))):=zV λ_ _ _ _ _ _ _ q=>lt_int q
theorem nK:fO X (Mp .LtE) (yv λi j=>.bl (decide (i<=j))):=zV λ_ _ _ _ _ _ _ q=>le_int q
theorem AU:fO X (Mp .Gt) (yv λi j=>.bl (decide (j<i))):=zV λ_ _ _ _ _ _ _ q=>gt_int q
theorem AK:fO X (Mp .GtE) (yv λi j=>.bl (decide (j<=i))):=zV λ_ _ _ _ _ _ _ q=>ge_int q
theorem uF:fO X (Mp .Lt) (λx y H Q=>∃i j,x=.str i/\y=.str j/\Q (.bl (decide (i.cps.toList<j.cps.toList))) H):=by
 intro pins s σ H x y v u Q I rx ry h;obtain⟨i,j,rfl,rfl,q⟩:=h;obtain⟨t,rfl⟩:=rx;obtain⟨t',rfl⟩:=ry;exact lt_str (vJ I q rfl)
theorem dM(b:LX){op:Mo}(h:op≠.In:=by decide)(h2:op≠.NotIn:=by decide):Mq op b=false:=by
 have e1:(op==CmpOp.In)=false:=by cases op<;>first|rfl|exact absurd rfl h
 have e2:(op==CmpOp.NotIn)=false:=by cases op<;>first|rfl|exact absurd rfl h2
 cases b<;>simp[Mq,e1,e2]
theorem zF{op:Mo}{r:R2}(ho:fO X (Mp op) r)(ha:PE X a ta)(hb:PE X b tb)(hm:Mq op b=false):PE X (.Compare a [op] [b] pos) (Di r ta tb):=by
 intro pins s σ H Q I h;exact wpAny_Compare1 (BV ha hb I h λv u s2 x y H2 I2 rx ry q=>ho pins s2 σ H2 x y v u Q I2 rx ry q) hm
noncomputable def xE(t:TE):TT:=λσ H Q=>t σ H λx H'=>∃k,x=.bl k/\Q k H'
theorem yI{op:Mo}{r:R2}(ho:fO X (Mp op) r)(ha:PE X a ta)(hb:PE X b tb)(hm:Mq op b=false):PT X (.Compare a [op] [b] pos) (xE (Di r ta tb)):=by
 intro pins s σ H Q I h;refine wpAny_isTrue_Compare1 (ca (ha pins s σ H _ I h) λv s1 ⟨x,H1,I1,r1,q1⟩=>ca (hb pins s1 σ H1 _ I1 q1) λu s2 ⟨y,H2,I2,r2,q2⟩=>
  ca (ho pins s2 σ H2 x y v u _ I2 r1 r2 q2) λc s3 ⟨z,H3,I3,r3,k,e,q3⟩=>?_) hm
 subst e;cases r3;exact Mr ⟨H3,I3,q3⟩
noncomputable def qK(r r':R2)(ta tb tc:TE):TE:=λσ H Q=>ta σ H λx H1=>tb σ H1 λy H2=>r x y H2 λz H3=>∃k,z=.bl k/\
 (if k=true then tc σ H3 λw' H4=>r' y w' H4 Q else Q (.bl false) H3)
theorem vH{op op':Mo}{r r':R2}(ho:fO X (Mp op) r)(ho':fO X (Mp op') r')(ha:PE X a ta)(hb:PE X b tb)(hc:PE X c tc)
  (hm:lastMarks [op,op'] [b,c]=false:=by with_unfolding_all rfl):PE X (.Compare a [op,op'] [b,c] pos) (qK r r' ta tb tc):=by
 intro pins s σ H Q I h;refine Compare_chain (ca (ha pins s σ H _ I h) λv s1 ⟨x,H1,I1,r1,q1⟩=>chain_link (ca (hb pins s1 σ H1 _ I1 q1) λu s2 ⟨y,H2,I2,r2,q2⟩=>
  ca (ho pins s2 σ H2 x y v u _ I2 r1 r2 q2) λd s3 ⟨z,H3,I3,r3,k,e,q3⟩=>?_)) hm
 subst e;cases r3;refine Mr ?_;cases k with
 |false=>exact ite_ff ⟨.bl false,H3,I3,rfl,q3⟩
 |true=>exact ite_tt (chain_last (ca (hc pins s3 σ H3 _ I3 q3) λw' s4 ⟨z',H4,I4,r4,q4⟩=>ho' pins s4 σ H4 y z' u w' Q I4 r2 r4 q4))
theorem xO{op op':Mo}{r r':R2}(ho:fO X (Mp op) r)(ho':fO X (Mp op') r')(ha:PE X a ta)(hb:PE X b tb)(hc:PE X c tc)
  (hm:lastMarks [op,op'] [b,c]=false:=by with_unfolding_all rfl):PT X (.Compare a [op,op'] [b,c] pos) (xE (qK r r' ta tb tc)):=by
 intro pins s σ H Q I h;refine isTrue_chain (ca (ha pins s σ H _ I h) λv s1 ⟨x,H1,I1,r1,q1⟩=>test_link (ca (hb pins s1 σ H1 _ I1 q1) λu s2 ⟨y,H2,I2,r2,q2⟩=>
  ca (ho pins s2 σ H2 x y v u _ I2 r1 r2 q2) λd s3 ⟨z,H3,I3,r3,k,e,q3⟩=>?_)) hm
 subst e;cases r3;refine Mr ?_;cases k with
 |false=>
  obtain⟨k',e',q'⟩:=q3;cases e';exact ite_ff ⟨H3,I3,q'⟩
 |true=>
  refine ite_tt (test_last (ca (hc pins s3 σ H3 _ I3 q3) λw' s4 ⟨z',H4,I4,r4,q4⟩=>ca (ho' pins s4 σ H4 y z' u w' _ I4 r2 r4 q4) λd' s5 ⟨z2,H5,I5,r5,k2,e2,q5⟩=>?_));subst e2;cases r5;exact Mr ⟨H5,I5,q5⟩
noncomputable def DG(K:Ky)(x:V)(H:Hp)(k:Bool):Prop:=
 match x with
 |.non=>k=false
 |.bl b=>k=b
 |.int i=>k=(i !=0)
 |.str y=>y.length<=L9/\k=((y.length:Int) !=0)
 |.byt y=>y.size<=L9/\k=((y.size:Int) !=0)
 |.ref p=>(∃xs,ie K H p xs/\k=!xs.isEmpty)\/(∃xs,jD K H p xs/\k=!xs.isEmpty)\/∃kvs,H p=some (.dK kvs)/\k=!kvs.isEmpty
 |_=>False
theorem qX{κ:Type}{kvs:List (κ×V)}{vs:List (κ×LU)}(r:KV kvs vs):(!vs.isEmpty)=!kvs.isEmpty:=by
 cases r<;>rfl
theorem lM{xs:aE}{its:aQ}(r:Vals xs its):(!its.toArray.isEmpty)=!xs.isEmpty:=by
 cases r<;>simp
theorem jI:(L9:Nat)<2^63:=by rw[MA];decide
theorem BC:GU X (λx H Q=>∃k,DG X.K x H k/\Q k H):=by
 intro pins s σ H x v Q I rx h;obtain⟨k,e,q⟩:=h;have hl:=jI;have hs:L9=16777216:=MA;cases x with
 |non=>
  cases rx;have e':k=false:=e;subst e';exact truthy_none ⟨H,I,q⟩
 |bl b=>
  cases rx;have e':k=b:=e;subst e';exact Mr ⟨H,I,q⟩
 |int i=>
  obtain⟨t,rfl⟩:=rx;have e':k=(i !=0):=e;subst e';exact PySem.P.truthy_int ⟨H,I,q⟩
 |str y=>
  obtain⟨t,rfl⟩:=rx;obtain⟨hy,e'⟩:y.length<=L9/\k=((y.length:Int) !=0):=e;subst e';exact PySem.P.truthy_str ‹0› ⟨H,I.tok _,q⟩
 |byt y=>
  obtain⟨t,rfl⟩:=rx;obtain⟨hy,e'⟩:y.size<=L9/\k=((y.size:Int) !=0):=e;subst e';exact PySem.W.truthy_bytes ‹0› ⟨H,I.tok _,q⟩
 |ref p=>
  cases rx;have e':(∃xs,ie X.K H p xs/\k=!xs.isEmpty)\/(∃xs,jD X.K H p xs/\k=!xs.isEmpty)\/∃kvs,H p=some (.dK kvs)/\k=!kvs.isEmpty:=e;rcases e' with⟨xs,hx,e'⟩|⟨xs,hx,e'⟩|⟨kvs,hx,e'⟩
  ·subst e';obtain⟨its,r,pl,hz⟩:=I.list hx;have hlen:=r.length;exact wpAny_truthy_list pl.isList (by simp only[IB];omega) ⟨H,I.tok _,by rw[lM r];exact q⟩
  ·subst e';obtain⟨its,r,pl,hz⟩:=I.tuple hx;have hlen:=r.length;exact truthy_tuple pl (by simp only[IB];omega) ⟨H,I.tok _,by rw[lM r];exact q⟩
  ·subst e';obtain⟨hz,hS,vs,r,m⟩:kvs.length<=L9/\(p==sysModules)=false/\∃vs,KV kvs vs/\s.heap.DictOf (nW X.prog X.w) p vs:=I.hok p _ hx;have hlen:kvs.length=vs.length:=Paired.length r;exact wpAny_truthy_dict hS m ‹0› ⟨H,I.tok _,by rw[qX r];exact q⟩
 |_=>exact(show False from e).elim
theorem yr(ha:PE X a ta)(he:∀whole,isTrue a X.env whole=(do let v<-whole;standAt a.pos;holding [v] (truthy v))):
  PT X a (λσ H Q=>ta σ H λx H'=>∃k,DG X.K x H' k/\Q k H'):=by
 intro pins s σ H Q I h;exact isTrue_plain (ca (ha pins s σ H _ I h) λv s1 ⟨x,H1,I1,r1,q1⟩=>BC pins s1 σ H1 x v Q I1 r1 q1) (he _)
theorem qC:fO X (Mz .Add) (λx y H Q=>∃i j,x=.str i/\y=.str j/\i.length+j.length<=L9/\Q (.str (i++j)) H):=by
 intro pins s σ H x y v u Q I rx ry h;obtain⟨i,j,rfl,rfl,hz,q⟩:=h;obtain⟨t,rfl⟩:=rx;obtain⟨t',rfl⟩:=ry;exact add_str (λt' tk=>⟨.str (i++j),H,I.tok _,⟨_,rfl⟩,q⟩) hz
theorem vals1{x:V}{us:aQ}(r:Vals [x] us):∃u,us=[u]/\RelV x u:=by
 cases r with
 |cons r1 r2=>cases r2;exact⟨_,rfl,r1⟩
theorem vals2{x y:V}{us:aQ}(r:Vals [x,y] us):∃u w',us=[u,w']/\RelV x u/\RelV y w':=by
 cases r with
 |cons r1 r2=>
  cases r2 with
  |cons r3 r4=>cases r4;exact⟨_,_,rfl,r1,r3⟩
end
structure t7(h:L8)(x dx C:LW)(mA:bK):Prop where
 obj:h.get? x=some (Kw C dx)
 ns:h.Ns1 dx mA
 ne:dx≠x
theorem mI{h:L8}{dx:LW}{mA:bK}(n:h.Ns1 dx mA):∃od,h.get? dx=some od/\∀name,Kz name od=some (mA name):=by
 obtain⟨o,es,ep,ho,hd,hk,_,hm⟩:=n;refine⟨o,ho,λname=>?_⟩;have e:=hm name;unfold nsFind findBy at e;rw[<-Array.find?_toList]at e;unfold Kz;rw[hd];dsimp only;split
 ·rename_i y q;rw[q]at e;exact congrArg some e
 ·rename_i q;rw[q]at e;have a:es.toList.any (·.refKey)=false:=by
   rw[IC];intro y hy;obtain⟨z,t,hkey⟩:=hk y (Array.mem_toList_iff.mp hy);simp[DictEntry.refKey,hkey]
  have a':¬es.toList.any (·.refKey)=true:=by rw[a];exact Iu
  rw[if_neg a'];exact congrArg some e
theorem t7.look{h:L8}{x dx C:LW}{mA:bK}(I:t7 h x dx C mA):∃od,PySem.W.InstAt h x (Kw C dx) C (some od)/\∀name,Kz name od=some (mA name):=
 let ⟨od,ho,hl⟩:=mI I.ns
 ⟨od,⟨I.obj,rfl,rfl,ho⟩,hl⟩
section
variable{prog:L7}{w:L6}{A:Mf}{E:bx}{s:LZ}{K:Ky}{x dx C f:LW}{mA:bK}{name:Str}{v:LU}
theorem zW{expr:Bool}{Q:bx}(X:K.In s.heap)(I:t7 s.heap x dx C mA)(hg:KA K C name=true)(hh:KC K C=true)
  (ha:KG K (.ref C) name=some none) (hv:mA name=some v) (hv':KH v=true) (h:Q v {s with toks:=s.toks+1}):
  Mi (model prog w) A (getAttr (.ref x) name expr) Q E s:=by
 obtain⟨od,J,hl⟩:=I.look;exact PySem.W.get_value X J (KI hg).1 (KJ hh ha rfl (by rw[hl,hv])) hv' h
theorem vY{pl:Sem Bool}{Q:LU×List LU->gb}(X:K.In s.heap)(I:t7 s.heap x dx C mA)(hg:KA K C name=true)
  (hf:KG K (.ref C) name=some (some (.ref f))) (ht:KL K (.ref f)=true) (hv:mA name=none) (h:Q (.ref f,[.ref x]) s):
  Mi (model prog w) A (getMethod (.ref x) name pl) Q E s:=by
 obtain⟨od,J,hl⟩:=I.look;exact PySem.W.method_fn X J (KI hg).1 (KI hg).2 hf (beq_iff_eq.mp ht) (by show(Kz name od).map (·.isSome)=some false;rw[hl,hv];rfl) h
theorem yX{ns:al}{Q:Unit->gb}(X:K.In s.heap)(I:t7 s.heap x dx C mA)
  (hs:KG K (.ref C) "__setattr__"=some (some (.builtin "object.__setattr__"))) (hp:KN K C=true) (ht:KO K C name=some none) (hh:KC K C=true)
  (hw:PySem.Within mA ns) (hsz:ns.length<=L9)
  (h:∀h',t7 h' x dx C (λy=>if y=name then some v else mA y)->Lh dx s.heap h'->Q () {s with heap:=h',toks:=s.toks+2}):
  Mi (model prog w) A (setAttr (.ref x) name v) Q E s:=by
 obtain⟨od,J,hl⟩:=I.look;refine PySem.W.set_plain X J hs (PySem.W.osa_open (s:={s with toks:=s.toks+1}) (r:=none) X J hp ht λb=>?_);obtain⟨cd,hc,hd'⟩:=PySem.W.any_some hh;have hx:s.heap.get? x=some ⟨.ref C,some dx,.plain,#[]⟩:=I.obj;refine Mw (Mv (Mw (Mw (MB hx (Mw (PySem.W.Looks.here (s:={s with toks:=s.toks+1}) (PySem.W.looks_clsIn X hc) ?_))))));rw[hd'];refine Mv (a:=some dx) (Mw (Mv (Mw ?_)));refine wpAny_nsSet1 (s:={s with toks:=s.toks+1}) I.ns λh' hn2 hs2=>?_;obtain⟨oD,esD,epD,hoD,hdD,hcD⟩:=hn2.count (PySem.Within.cons name v hw);refine Mw (MC hoD (by rw[hdD];exact MD (Ii hcD (by rw[IE];omega))) ?_);exact Mv (h _ ⟨(hs2.2 _ (Ne.symm I.ne)).trans I.obj,hn2,I.ne⟩ hs2)
theorem wL{R:ME->gb}{vs:aQ}{kw:List (Str×LU)}(X:K.In s.heap)(hm:KP K C=true)
  (hi:KG K (.ref C) "__init__"=some (some (.ref f))) (hf:KQ K (.ref f)=some (.type "function"))
  (h:MF (model prog w) (A.under (.builtin "type.__call__" ⟨.ref C::vs,kw⟩)) (.call (.ref f) ⟨.ref (s.heap.objs.size+1)::vs,kw⟩) (PySem.W.InitBack (s.heap.objs.size+1) R)
   {s with heap:=(s.heap.push KR).push (Kw C s.heap.objs.size)}):
  MF (model prog w) A (.call (.ref C) ⟨vs,kw⟩) R s:=by
 obtain⟨hh,g,d,t,os⟩:=s;exact PySem.W.make_core (PySem.W.makes_of X hm) (PySem.W.looks_findIn X hi) (λself=>PySem.W.bind_fn X self hf) (.inl rfl) h
end
noncomputable def f9(f:Str)(v:V):List (Str×V)->List (Str×V)
 |[]=>[(f,v)]
 |(g,x)::r=>if g=f then(g,v)::r else(g,x)::f9 f v r
theorem j4(f g:Str)(v:V):∀fs:List (Str×V),(f9 f v fs).lookup g=if g=f then some v else fs.lookup g
 |[]=>by
  show List.lookup g [(f,v)]=_;by_cases h:g=f
  ·have hb:(g==f)=true:=beq_iff_eq.mpr h;simp only[List.lookup,hb,if_pos h]
  ·have hb:(g==f)=false:=beq_eq_false_iff_ne.mpr h;simp only[List.lookup,hb,if_neg h]
 |(k,x)::r=>by
  have ih:=j4 f g v r;rw[show f9 f v ((k,x)::r)=(if k=f then(k,v)::r else(k,x)::f9 f v r)from rfl];by_cases hk:k=f
  ·rw[if_pos hk];by_cases h:g=k
   ·have hb:(g==k)=true:=beq_iff_eq.mpr h;simp only[List.lookup,hb,if_pos (h.trans hk)]
   ·have hb:(g==k)=false:=beq_eq_false_iff_ne.mpr h;simp only[List.lookup,hb,if_neg (λe:g=f=>h (e.trans hk.symm))]
  ·rw[if_neg hk];by_cases h:g=k
   ·have hb:(g==k)=true:=beq_iff_eq.mpr h;simp only[List.lookup,hb,if_neg (λe:g=f=>hk (h.symm.trans e))]
   ·have hb:(g==k)=false:=beq_eq_false_iff_ne.mpr h;simp only[List.lookup,hb];exact ih
theorem jN(f:Str)(v:V):∀fs:List (Str×V),f∈(f9 f v fs).map (·.1)/\∀g,g∈fs.map (·.1)->g∈(f9 f v fs).map (·.1)
 |[]=>⟨by simp[f9],λg h=>by simp at h⟩
 |(k,x)::r=>by
  obtain⟨i1,i2⟩:=jN f v r;rw[show f9 f v ((k,x)::r)=(if k=f then(k,v)::r else(k,x)::f9 f v r)from rfl];by_cases hk:k=f
  ·rw[if_pos hk];subst hk;exact⟨by simp,λg h=>by simpa using h⟩
  ·rw[if_neg hk];refine⟨?_,λg h=>?_⟩
   ·rw[IG];exact Im _ i1
   ·rw[IG]at h ⊢;rcases List.mem_cons.mp h with e|e
    ·exact List.mem_cons.mpr (.inl e)
    ·exact Im _ (i2 g e)
theorem j5(f:Str)(v:V):∀fs:List (Str×V),(f9 f v fs).length<=fs.length+1
 |[]=>by simp[f9]
 |(k,x)::r=>by
  have ih:=j5 f v r;rw[show f9 f v ((k,x)::r)=(if k=f then(k,v)::r else(k,x)::f9 f v r)from rfl];by_cases hk:k=f
  ·rw[if_pos hk,IE,IE];omega
  ·rw[if_neg hk,IE,IE];omega
theorem qu.some_of{v:V}{o:Option LU}(r:qu (some v) o):∃u,o=some u/\RelV v u:=by
 cases o with
 |none=>exact(show False from r).elim
 |some u=>exact⟨u,rfl,r⟩
theorem qu.none_of{o:Option LU}(r:qu none o):o=none:=by
 cases o with
 |none=>rfl
 |some u=>exact(show False from r).elim
theorem mU{v:V}{u:LU}(r:RelV v u):KH u=true:=by
 cases v with
 |non=>cases(show u=Value.none from r);rfl
 |bl b=>cases(show u=Value.bool b from r);rfl
 |int i=>obtain⟨t,e⟩:=(show∃t,u=Value.int i t from r);cases e;rfl
 |str x=>obtain⟨t,e⟩:=(show∃t,u=Value.str x t from r);cases e;rfl
 |byt b=>obtain⟨t,e⟩:=(show∃t,u=Value.bytes b t from r);cases e;rfl
 |flt b=>obtain⟨t,e⟩:=(show∃t,u=Value.float b t from r);cases e;rfl
 |ref a=>cases(show u=Value.ref a from r);rfl
 |ty n=>cases(show u=Value.type n from r);rfl
section
variable{P:L7}{w:L6}{H H':Hp}{h h':L8}{a C dx:LW}{fs fs':List (Str×V)}
theorem n8(hok:mz P w H h)(e:H a=some (.ins C dx fs)):∃mA,t7 h a dx C mA/\(∀f,qu (fs.lookup f) (mA f))/\PySem.Within mA (fs.map (·.1))/\fs.length<=1000/\H dx=some (.own a):=by
 obtain⟨d,z,ne,ob,mA,n,r,q⟩:=(show cv P w H h a (.ins C dx fs)from hok a _ e)
 exact⟨mA,⟨ob,n,ne⟩,r,q,z,d⟩
end
structure qv(K:Ky)(C:LW):Prop where
 pg:KA K C Str.empty=true
 hd:KC K C=true
 po:KN K C=true
 sa:KG K (.ref C) "__setattr__"=some (some (.builtin "object.__setattr__"))
theorem qv.get{K:Ky}{C:LW}(c:qv K C)(f:Str):KA K C f=true:=c.pg
noncomputable def cq(K:Ky)(C:LW)(f:Str):Prop:=KG K (.ref C) f=some none
theorem cq.taker{K:Ky}{C:LW}{f:Str}(n:cq K C f):KO K C f=some none:=by
 unfold KO;rw[show KG K (.ref C) f=some none from n];rfl
structure Meth(K:Ky)(C:LW)(m:Str)(f:LW):Prop where
 at_:KG K (.ref C) m=some (some (.ref f))
 fn:KL K (.ref f)=true
 kp:KS K (.ref f)=true
section
variable{X:Cx}{pins:aV}{σ:St}{H:Hp}{s:LZ}{a C dx:LW}{fs:List (Str×V)}{f:Str}{v:V}{A:Mf}{E:bx}
theorem qI{b:Bool}{Q:bx}(I:Inv X pins σ H s)(e:H a=some (.ins C dx fs))(c:qv X.K C)(n:cq X.K C f)(l:fs.lookup f=some v)
  (h:∀u s',Inv X pins σ H s'->RelV v u->Q u s'):Mi (model X.prog X.w) A (getAttr (.ref a) f b) Q E s:=by
 obtain⟨mA,O,r,_,_,_⟩:=n8 I.hok e;obtain⟨u,hu,ru⟩:=qu.some_of (v:=v) (o:=mA f) (by rw[<-l];exact r f);exact zW I.kIn O (c.get f) c.hd n hu (mU ru) (h u _ (I.tok _) ru)
theorem qQ{m:Str}{g:LW}{pl:Sem Bool}{Q:LU×List LU->gb}(I:Inv X pins σ H s)(e:H a=some (.ins C dx fs))(c:qv X.K C)(k:Meth X.K C m g)(l:fs.lookup m=none)
  (h:Q (.ref g,[.ref a]) s):Mi (model X.prog X.w) A (getMethod (.ref a) m pl) Q E s:=by
 obtain⟨mA,O,r,_,_,_⟩:=n8 I.hok e;have hn:mA m=none:=qu.none_of (by rw[<-l];exact r m);exact vY I.kIn O (c.get m) k.at_ k.fn hn h
theorem ra{y:V}{u:LU}{Q:Unit->gb}(I:Inv X pins σ H s)(e:H a=some (.ins C dx fs))(c:qv X.K C)(n:cq X.K C f)(hl:fs.length<1000)(ry:RelV y u)
  (h:∀s',Inv X pins σ (upd H a (.ins C dx (f9 f y fs))) s'->Q () s'):Mi (model X.prog X.w) A (setAttr (.ref a) f u) Q E s:=by
 obtain⟨mA,O,r,wi,_,ho⟩:=n8 I.hok e;have hz:(fs.map (·.1)).length<=L9:=by rw[IH,MA];omega
 refine yX I.kIn O c.sa c.po n.taker c.hd wi hz λh' O' sb=>h _ ?_;have hd:∃o,h'.get? dx=some o:=let ⟨o,_,_,e',_⟩:=O'.ns;⟨o,e'⟩
 refine I.write (x:=a) (e:=dx) (by rw[e];exact True.intro) (.inr ho) (λb q hb z=>(sb.2 b hb).trans z) hd ?_;refine⟨by rw[au O.ne];exact ho,?_,O.ne,O'.obj,_,O'.ns,λg=>?_,λg hg=>?_⟩
 ·have:=j5 f y fs;omega
 ·show qu ((f9 f y fs).lookup g) (if g=f then some u else mA g);rw[j4];by_cases q:g=f
  ·rw[if_pos q,if_pos q];exact ry
  ·rw[if_neg q,if_neg q];exact r g
 ·by_cases q:g=f
  ·rw[q];exact(jN f y fs).1
  ·refine(jN f y fs).2 g (wi g λz=>hg ?_);show(if g=f then some u else mA g)=none;rw[if_neg q];exact z
theorem Inv.made(I:Inv X pins σ H s):Inv X pins σ (upd (upd H s.heap.objs.size (.own (s.heap.objs.size+1))) (s.heap.objs.size+1) (.ins C s.heap.objs.size []))
  {s with heap:=(s.heap.push KR).push (Kw C s.heap.objs.size)}:=by
 have e1:(s.heap.push KR).get? s.heap.objs.size=some KR:=Lj s.heap rfl;have e2:((s.heap.push KR).push (Kw C s.heap.objs.size)).get? (s.heap.objs.size+1)=some (Kw C s.heap.objs.size):=by
  have:=Lj (s.heap.push KR) (o:=Kw C s.heap.objs.size) rfl
  rwa [Ln]at this
 have e3:(s.heap.push KR).Ns s.heap.objs.size (λ_=>none):=⟨KR,#[],_,e1,rfl,(λe he=>absurd he (by simp)),λ_=>rfl⟩
 have I1:=I.laid (a:=s.heap.objs.size) (o:=.own (s.heap.objs.size+1)) (h':=s.heap.push KR) (t':=s.toks) (λb u q=>Li _ q) (Iy _) ⟨_,e1⟩;refine I1.laid (a:=s.heap.objs.size+1) (o:=.ins C s.heap.objs.size []) (t':=s.toks) (λb u q=>Li _ q) (II (Ln _ _)) ?_;have ne:s.heap.objs.size≠s.heap.objs.size+1:=Ih (IJ _);refine⟨by rw[au ne,az],IK _,ne,e2,λ_=>none,(Heap.Ns1.of_empty e3).at λo q=>Li _ q,λ_=>True.intro,λy hy=>absurd rfl hy⟩
theorem rP{prog:L7}{w:L6}{env:Env}{e:LX}{f:Str}{pos:Pos}{s:LZ}{Q:bx}(hb:MG e f env (eval e env)=eval e env)
  (h:Mi (model prog w) A (eval e env) (λo s₁=>Mi (model prog w) A (getAttr o f true) Q E s₁) E s):Mi (model prog w) A (eval (.Attribute e f pos) env) Q E s:=
 Attribute_any_ h (by rw[arm_eval_Attribute,hb])
end
noncomputable def Fs(K:Ky)(ta:TE)(f:Str):TE:=λσ H Q=>ta σ H λx H1=>∃a C dx fs v,x=.ref a/\H1 a=some (.ins C dx fs)/\qv K C/\cq K C f/\fs.lookup f=some v/\Q v H1
noncomputable def Gm(K:Ky)(ta tv:TE)(f:Str):TS:=λD σ H=>tv σ H λy H1=>ta σ H1 λx H2=>∃a C dx fs,x=.ref a/\H2 a=some (.ins C dx fs)/\qv K C/\cq K C f/\fs.length<1000/\
 D.nx σ (upd H2 a (.ins C dx (f9 f y fs)))
section
variable{X:Cx}{o e value:LX}{f:Str}{pos pos' tpos:Pos}{ta tv:TE}
theorem CF(he:PE X e ta)(hb:MG e f X.env (eval e X.env)=eval e X.env):PE X (.Attribute e f pos) (Fs X.K ta f):=by
 intro pins s σ H Q I h;refine rP hb (ca (he pins s σ H _ I h) λu s1 ⟨x,H1,I1,rx,a,C,dx,fs,v,ex,ea,c,n,l,q⟩=>?_);subst ex;obtain rfl:u=Value.ref a:=rx;exact qI I1 ea c n l λu' s2 I2 ru=>⟨v,H1,I2,ru,q⟩
theorem vW(ha:PE X o ta)(hv:PE X value tv)(hs:swapsWith value (some (.Attribute o f pos')) pos.line X.env=pure false):PS X (.Assign [.Attribute o f pos'] value pos) (Gm X.K ta tv f):=by
 intro pins s σ H D I h;refine MH (ca (hv pins s σ H _ I h) λu s1 ⟨y,H1,I1,ry,q⟩=>ca (ha pins s1 σ H1 _ I1 q) λov s2 h2=>?_) hs;obtain⟨x,H2,I2,rx,a,C,dx,fs,ex,ea,c,n,l,q2⟩:=h2;subst ex;obtain rfl:ov=Value.ref a:=rx;exact ra I2 ea c n l ry λs3 I3=>⟨σ,_,I3,q2⟩
theorem pT{pl:Sem Bool}{m:Str}{apos:Pos}{args:aZ}{pins:aV}{s:LZ}{σ:St}{H:Hp}{Q:bx}{te:TE}(he:PE X e te)(I:Inv X pins σ H s)
  (h:te σ H fun x H1=>∃ a C dx fs g,x=.ref a/\H1 a=some (.ins C dx fs)/\qv X.K C/\Meth X.K C m g/\fs.lookup m=none /\
   ∀s1,Inv X pins σ H1 s1->Mi (model X.prog X.w) X.A (MI pos (.ref g) [.ref a] (backTo pos (Mj args X.env)) (backToKw pos (MJ [] X.env))) Q X.xe s1)
  (ht:eval (.Call (.Attribute e m apos) args [] pos) X.env=(do
   let ov<-eval e X.env
   standAt apos.atName
   let (f,first)<-holding [ov] (getMethod ov m pl)
   MI pos f first (backTo pos (Mj args X.env)) (backToKw pos (MJ [] X.env)))):
  Mi (model X.prog X.w) X.A (eval (.Call (.Attribute e m apos) args [] pos) X.env) Q X.xe s:=by
 refine PySem.W.methodCall_KW (pl:=pl) (ca (he pins s σ H _ I h) λu s1 ⟨x,H1,I1,rx,a,C,dx,fs,g,ex,ea,c,k,l,q⟩=>?_) ht;subst ex;obtain rfl:u=Value.ref a:=rx;exact qQ I1 ea c k l (q s1 I1)
end
structure dI(k:Nat)(A:Mf):Prop where
 hd:A.handled=none
 dp:A.depth+3*k+5<recursionLimit
 un:A.units+16*k+200<MK
theorem dI.mono{j k:Nat}{A:Mf}(r:dI k A)(h:j<=k):dI j A:=⟨r.hd,by have:=r.dp;omega,by have:=r.un;omega⟩
theorem dI.deeper{k:Nat}{A:Mf}(r:dI (k+1) A)(env:Env):dI k (A.deeper env):=
 ⟨r.hd,by have:=r.dp;show A.depth+1+3*k+5<_;omega,by have:=r.un;show A.units+3+16*k+200<_;omega⟩
theorem rm{A:Mf}{C:LW}{us:aQ}{kw:List (Str×LU)}:(A.under (.builtin "type.__call__" ⟨.ref C::us,kw⟩)).depth=A.depth+1:=by
 first|rfl|simp[Around.under,Code.weight,Code.isCreation,Code.isGuard,Code.isCaller,Code.frames,Code.isFrame,guardIds]
theorem qG{A:Mf}{C:LW}{us:aQ}{kw:List (Str×LU)}:(A.under (.builtin "type.__call__" ⟨.ref C::us,kw⟩)).units=A.units+1:=by
 first|rfl|simp[Around.under,Code.cUnits,Code.frames,Code.isFrame]
theorem dI.make{k:Nat}{A:Mf}(r:dI (k+1) A)(C:LW)(us:aQ)(kw:List (Str×LU)):dI k (A.under (.builtin "type.__call__" ⟨.ref C::us,kw⟩)):=
 ⟨r.hd,by have:=r.dp;rw[rm];omega,by have:=r.un;rw[qG];omega⟩
theorem dI.depth{k:Nat}{A:Mf}(r:dI k A):A.depth<recursionLimit:=by have:=r.dp;omega
theorem dI.units{k:Nat}{A:Mf}(r:dI k A):A.units+64<MK:=by have:=r.un;omega
noncomputable def Ee:TA:=λ_ H Q=>Q [] H
noncomputable def wH(ta:TE)(tr:TA):TA:=λσ H Q=>ta σ H λx H1=>tr σ H1 λxs H2=>Q (x::xs) H2
section
variable{X:Cx}{e:LX}{es:aZ}{te:TE}{t:TA}{pos:Pos}
theorem jQ:PA X [] Ee:=λ_ _ _ _ H Q I h=>Calls.spliced_nil ⟨[],H,I,.nil,h⟩
theorem dF(ha:PE X e te)(hr:PA X es t)(hs:Mj (e::es) X.env=(false,eval e X.env)::Mj es X.env:=by rfl):PA X (e::es) (wH te t):=by
 intro pos pins s σ H Q I h;rw[hs];show Mi _ _ (spliced ((false,eval e X.env)::backTo pos (Mj es X.env))) _ _ s;refine Calls.spliced_cons (ca (ha pins s σ H _ I h) λu s1 ⟨x,H1,I1,r1,q1⟩=>?_);exact ca (hr pos pins s1 σ H1 _ I1 q1) λus s2 ⟨xs,H2,I2,r2,q2⟩=>⟨x::xs,H2,I2,.cons r1 r2,q2⟩
noncomputable def Gn(t:TA):TE:=λσ H Q=>t σ H λxs H1=>xs.length<=L9/\∀p,H1 p=none->Q (.ref p) (upd H1 p (.tup xs))
noncomputable def Gc(t:TA):TE:=λσ H Q=>t σ H λxs H1=>xs.length<=L9/\∀p,H1 p=none->Q (.ref p) (upd H1 p (.lst xs))
theorem wD{x1}(h:PA X es t):PE X (.Tuple es x1 pos) (Gn t):=by
 intro pins s σ H Q I hq;refine wpAny_Tuple_spliced (ca (h pos pins s σ H _ I hq) λus s1 ⟨xs,H1,I1,r,z,q⟩=>⟨by rw[<-r.length];exact z,?_⟩);have hf:H1 s1.heap.objs.size=none:=I1.hok.fresh (Iy _);refine⟨.ref s1.heap.objs.size,upd H1 s1.heap.objs.size (.tup xs),I1.laid (t':=s1.toks) (λb u e=>Li _ e) (Iy _) ?_,rfl,q _ hf⟩;exact⟨z,us,r,⟨_,Lj _ rfl,rfl,_,rfl⟩⟩
theorem vP(h:PA X es t):PE X (.List es pos) (Gc t):=by
 intro pins s σ H Q I hq;refine wpAny_List_spliced (ca (h pos pins s σ H _ I hq) λus s1 ⟨xs,H1,I1,r,z,q⟩=>⟨by rw[<-r.length];exact z,?_⟩);have hf:H1 s1.heap.objs.size=none:=I1.hok.fresh (Iy _);refine⟨.ref s1.heap.objs.size,upd H1 s1.heap.objs.size (.lst xs),I1.laid (t':=s1.toks) (λb u e=>Li _ e) (Iy _) ?_,rfl,q _ hf⟩;exact⟨z,us,0,r,Lj _ rfl⟩
end
noncomputable abbrev Sp:=List V->Hp->VK->XK->Prop
noncomputable abbrev qM:=List Env->Hp->LZ->XK->bx
structure ua(P:L7)(w:L6)(K:Ky)(mg:bK)(base:L8)(A:Mf)(outer:List Env)(s:LZ)(H:Hp):Prop where
 frames:A.frames=some outer
 mod:Mod K mg base
 bs:∀b o,base.get? b=some o->s.heap.get? b=some o/\H b=none
 bsz:base.objs.size<=s.heap.objs.size
 funs:s.heap.FunFrames base outer
 frf:∀b∈frs outer,H b=none
 hok:mz P w H s.heap
 bare:AllBare s.gens
noncomputable def CE(outer:List Env)(P:L7)(w:L6)(H:Hp)(s:LZ)(Q:VK)(u:LU)(s':LZ):Prop:=
 ∃v H',s'.os=s.os/\AllBare s'.gens/\Un (frs outer) [] H H' s.heap s'.heap/\mz P w H' s'.heap/\RelV v u/\Q v H'
noncomputable def CR(CX:qM)(outer:List Env)(P:L7)(w:L6)(H:Hp)(s:LZ)(Q:VK)(E:XK)(r:ME)(s':LZ):Prop:=
 match r with
 |.ok (.ret u)=>CE outer P w H s Q u s'
 |.ok _=>False
 |.error e=>CX outer H s E e s'
structure eh(P:L7)(w:L6)(K:Ky)(mg:bK)(base:L8)(CX:qM)(k:Nat)(f:LW)(fd:ML)(ps:al)(sp:Sp):Prop where
 len:∀vs H Q E,sp vs H Q E->vs.length=ps.length
 run:∀(A:Mf)(outer:List Env)(s:LZ)(H:Hp)(args:Args)(us:aQ)(vs:aE)(Q:VK)(E:XK),dI k A->ua P w K mg base A outer s H->MM s fd args (ps.zip us)->Vals vs us->sp vs H Q E->
  MF (model P w) A (.call (.ref f) args) (CR CX outer P w H s Q E) s
theorem eh.mono{P:L7}{w:L6}{K:Ky}{mg:bK}{base:L8}{CX:qM}{j k:Nat}{f:LW}{fd:ML}{ps:al}{sp:Sp}(F:eh P w K mg base CX j f fd ps sp)(h:j<=k):
  eh P w K mg base CX k f fd ps sp:=⟨F.len,λA outer s H args us vs Q E hr=>F.run A outer s H args us vs Q E (hr.mono h)⟩
theorem ua.make{P:L7}{w:L6}{K:Ky}{mg:bK}{base:L8}{A:Mf}{outer:List Env}{s:LZ}{H:Hp}(e:ua P w K mg base A outer s H)(C:LW)(us:aQ)(kw:List (Str×LU)):
  ua P w K mg base (A.under (.builtin "type.__call__" ⟨.ref C::us,kw⟩)) outer s H:=⟨by first|exact e.frames|(simpa [Around.under,Code.envs,Code.isFrame,pushEnvs]using e.frames),e.mod,e.bs,e.bsz,e.funs,e.frf,e.hok,e.bare⟩
section
variable{X:Cx}{pins:aV}{σ:St}{H:Hp}{s s':LZ}
theorem Inv.env0(I:Inv X pins σ H s):ua X.prog X.w X.K X.mg X.base X.A X.stack s H:=
 ⟨I.ok.frames,I.ok.mod,I.bs,Ii I.ok.bsz I.sz,I.stack,I.stkFree,I.hok,I.bare⟩
theorem Inv.after{Q:VK}{u:LU}(I:Inv X pins σ H s)(h:CE X.stack X.prog X.w H s Q u s'):EP X pins σ Q u s':=by
 obtain⟨v,H',os,bare,un,hok,r,q⟩:=h;obtain⟨hh,g,d,t,os'⟩:=s';obtain rfl:os'=s.os:=os;exact⟨v,H',I.call (h':=hh) (g':=g) (d':=d) (t':=t) (ch:=[]) un hok bare (λb z=>absurd z (by simp)),r,q⟩
end
noncomputable def Ei(C:LW)(sp:Sp)(dvs:aE)(E:XK)(t:TA):TE:=λσ H Q=>t σ H λvs H1=>∀x dx,H1 x=none->H1 dx=none->dx≠x->
 sp (.ref x::(vs++dvs)) (upd (upd H1 dx (.own x)) x (.ins C dx [])) (λv H2=>v=.non/\Q (.ref x) H2) E
noncomputable def Binds(K:Ky)(fd:ML)(ps:al)(ds:aQ):Prop:=
 ∀(s:LZ)(us:aQ),K.In s.heap->(us++ds).length=ps.length->MM s fd ⟨us,[]⟩ (ps.zip (us++ds))
theorem Binds.all{K:Ky}{fd:ML}{ps:al}(h:∀us:aQ,us.length=ps.length->bindArgs fd ⟨us,[]⟩=pure (ps.zip us)):Binds K fd ps []:=λs us _ hl=>by
 rw[IL]at hl ⊢;exact .of_eq (h us hl)
noncomputable def qU(CX:qM)(X:Cx)(E:XK):Prop:=∀(pins:aV)(σ:St)(H:Hp)(s:LZ)(e:LU)(s':LZ),Inv X pins σ H s->CX X.stack H s E e s'->X.xe e s'
section
variable{X:Cx}{CX:qM}{k:Nat}{f C:LW}{fd:ML}{ps:al}{sp:Sp}{dvs:aE}{ds:aQ}{E:XK}{x m:Str}{p pos apos:Pos}{e o:LX}{es:aZ}{ta:TE}{t:TA}
structure Mk(K:Ky)(C f:LW):Prop where
 makes:KP K C=true
 init:KG K (.ref C) "__init__"=some (some (.ref f))
 fn:KL K (.ref f)=true
 kp:KS K (.ref C)=true
theorem xQ{pins:aV}{σ:St}{H:Hp}{s:LZ}{Q:VK}{us:aQ}{vs:aE}(M:Mk X.K C f)(F:eh X.prog X.w X.K X.mg X.base CX k f fd ps sp)(hr:dI (k+1) X.A)(hb:Binds X.K fd ps ds)(hd:Vals dvs ds)
  (hx:qU CX X E) (I:Inv X pins σ H s) (r:Vals vs us)
  (h:∀x dx,H x=none->H dx=none->dx≠x->sp (.ref x::(vs++dvs)) (upd (upd H dx (.own x)) x (.ins C dx [])) (λv H2=>v=.non/\Q (.ref x) H2) E):
  Mi (model X.prog X.w) X.A (call (.ref C) us) (EP X pins σ Q) X.xe s:=by
 have hq:=h (s.heap.objs.size+1) s.heap.objs.size (I.hok.fresh (IM _)) (I.hok.fresh (Iy _)) (Ih (IJ _));have I2:=Inv.made (C:=C) I;have r2:Vals (V.ref (s.heap.objs.size+1)::(vs++dvs)) (Value.ref (s.heap.objs.size+1)::(us++ds)):=.cons rfl (r.append hd);have hl:(Value.ref (s.heap.objs.size+1)::us++ds).length=ps.length:=by
  have e:=r2.length;rw[F.len _ _ _ _ hq]at e;exact e.symm
 refine MN (wL (f:=f) I.kIn M.makes M.init (beq_iff_eq.mp M.fn) (MO (F.run _ X.stack _ _ ⟨Value.ref (s.heap.objs.size+1)::us,[]⟩ (Value.ref (s.heap.objs.size+1)::(us++ds)) _ _ E (hr.make C us [])
  (I2.env0.make C us []) (hb _ (Value.ref (s.heap.objs.size+1)::us) I2.kIn hl) r2 hq) λr s' hq'=>?_))
 cases r with
 |error e=>exact hx pins σ _ _ e s' I2 hq'
 |ok fl=>
  cases fl with
  |ret u=>
   obtain⟨v,H',I3,rv,ev,q3⟩:=I2.after hq';subst ev;exact⟨rv,⟨V.ref (s.heap.objs.size+1),H',I3,rfl,q3⟩⟩
  |next=>exact False.elim hq'
  |brk=>exact False.elim hq'
  |cont=>exact False.elim hq'
theorem Ao(M:Mk X.K C f)(F:eh X.prog X.w X.K X.mg X.base CX k f fd ps sp)(hr:dI (k+1) X.A)(hg:Gl X x)(hm:X.mg x=some (.ref C))(hb:Binds X.K fd ps ds)(hd:Vals dvs ds)(hx:qU CX X E)
  (ha:PA X (e::es) t) (hdb:(x==("__debug__":Str))=false:=by decide) (he:Mj (e::es) X.env=(false,eval e X.env)::Mj es X.env:=by rfl) (hpl:(backTo pos (Mj es X.env)).any (·.1)=false:=by rfl):
  PE X (.Call (.Name x p) (e::es) [] pos) (Ei C sp dvs E t):=by
 intro pins s σ H Q I h;refine MP (hW I hg hm ?_ hdb);refine KU (h₀:=X.base) I.ok.mod.kin M.kp (ca (ha pos pins s σ H _ I h) λus s1 ⟨vs,H1,I1,r,q⟩=>⟨I1.kIn,?_⟩) he hpl;exact xQ M F hr hb hd hx I1 r q
end
structure cC(N P:al)(sc:Mg):Prop where
 kind:sc.kind=.function
 co:sc.isCoroutine=false
 gen:sc.isGenerator=false
 nd:N.Nodup
 pre:N.take P.length=P
 par:∀x∈P,sc.names.lookup x=some .local\/sc.names.lookup x=some .cell
 nofree:∀y∈sc.names,y.2≠.free
theorem nG{kindOf:Str->Option LV}{x:Str}:∀{binds:List (Str×LU)}{m:bK},(∀v,(x,v)∉binds)->bindL kindOf binds m x=m x
 |[],_,_=>rfl
 |(n,v)::r,m,h=>by
  unfold bindL;rw[nG λw hw=>h w (Im _ hw)];split
  ·have:x≠n:=(by rintro rfl;exact h v Il);simp[this]
  ·rfl
theorem nq{kindOf:Str->Option LV}{x:Str}:∀{binds:List (Str×LU)}{m:bK},(∀v,(x,v)∉binds)->bindC kindOf binds m x=m x
 |[],_,_=>rfl
 |(n,v)::r,m,h=>by
  unfold bindC;rw[nq λw hw=>h w (Im _ hw)];split
  ·rfl
  ·have:x≠n:=(by rintro rfl;exact h v Il);simp[this]
theorem mQ{kindOf:Str->Option LV}{x:Str}{v:LU}:∀{P:al}{vs:aQ}{i:Nat}{m:bK},P.Nodup->P[i]?=some x->vs[i]?=some v->kindOf x=some .local->
  bindL kindOf (P.zip vs) m x=some v
 |[],_,_,_,_,h,_,_=>by simp at h
 |_::_,[],_,_,_,_,h,_=>by simp at h
 |p::P,w::vs,0,m,nd,h1,h2,hk=>by
  simp at h1 h2;subst h1;subst h2;show bindL kindOf ((p,w)::P.zip vs) m p=_;unfold bindL;rw[nG λv hv=>(List.nodup_cons.mp nd).1 (IP hv).1,if_pos hk];simp
 |p::P,w::vs,i+1,m,nd,h1,h2,hk=>by
  show bindL kindOf ((p,w)::P.zip vs) m x=_;unfold bindL;exact mQ (i:=i) (List.nodup_cons.mp nd).2 (by simpa using h1) (by simpa using h2) hk
theorem mZ{kindOf:Str->Option LV}{x:Str}{v:LU}:∀{P:al}{vs:aQ}{i:Nat}{m:bK},P.Nodup->P[i]?=some x->vs[i]?=some v->kindOf x≠some .local->
  bindC kindOf (P.zip vs) m x=some v
 |[],_,_,_,_,h,_,_=>by simp at h
 |_::_,[],_,_,_,_,h,_=>by simp at h
 |p::P,w::vs,0,m,nd,h1,h2,hk=>by
  simp at h1 h2;subst h1;subst h2;show bindC kindOf ((p,w)::P.zip vs) m p=_;unfold bindC;rw[nq λv hv=>(List.nodup_cons.mp nd).1 (IP hv).1,if_neg hk];simp
 |p::P,w::vs,i+1,m,nd,h1,h2,hk=>by
  show bindC kindOf ((p,w)::P.zip vs) m x=_;unfold bindC;exact mZ (i:=i) (List.nodup_cons.mp nd).2 (by simpa using h1) (by simpa using h2) hk
noncomputable def start(N:al)(vs:aE):St:=vs.map some++List.replicate (N.length-vs.length) none
noncomputable def gd(CX:qM)(P:L7)(w:L6)(K:Ky)(mg:bK)(base:L8)(N:al)(qual:Str)(scope:Mg)(f:LW)(cd:LU)(A:Mf)(outer:List Env)(s:LZ)(H:Hp)(E:XK):Cx where
 prog:=P
 w:=w
 K:=K
 mg:=mg
 base:=base
 A:=A.deeper (envOfC qual scope s.heap.objs.size f cd)
 N:=N
 s₀:=s
 H₀:=H
 env:=envOfC qual scope s.heap.objs.size f cd
 outer:=outer
 stack:=envOfC qual scope s.heap.objs.size f cd::outer
 ex:=[]
 calm:=true
 fn:=λ_=>true
 pn:=[]
 xe:=λe s'=>Mi (model P w) (A.deeper (envOfC qual scope s.heap.objs.size f cd)) (leaving (envOfC qual scope s.heap.objs.size f cd) e) (λ_ s''=>CX outer H s E e s'') (λe' s''=>CX outer H s E e' s'') s'
theorem pX{sc:Mg}{n:Nat}{x:Str}(h:sc.names.lookup x=some .cell):∃c,(cellsFrom n sc.names []).lookup x=some c:=by
 have q:=KW sc.names n [] (.inl h);exact Option.isSome_iff_exists.mp q
theorem uO{CX:qM}{P:L7}{w:L6}{K:Ky}{mg:bK}{base:L8}{N ps:al}{qual:Str}{scope:Mg}{f:LW}{cd:LU}{A:Mf}{outer:List Env}{s s1:LZ}{H:Hp}{E:XK}{us:aQ}{vs:aE}
  (S:cC N ps scope) (hd:A.handled=none) (e0:ua P w K mg base A outer s H) (hl:vs.length=ps.length) (r:Vals vs us)
  (x:InCallC s s.heap.objs.size (bindL (envOfC qual scope s.heap.objs.size f cd).kindOf (ps.zip us) λ_=>none) (cellsFrom (s.heap.objs.size+1) scope.names []) (bindC (envOfC qual scope s.heap.objs.size f cd).kindOf (ps.zip us) λ_=>none) s1):
  Inv (gd CX P w K mg base N qual scope f cd A outer s H E) [] (start N vs) H s1:=by
 have hpl:ps.length<=N.length:=by have:=congrArg List.length S.pre;rw[IQ]at this;omega
 obtain⟨h1,tk,rfl,hk⟩:=x.done;have noA:∀b:LW,b∉(gd CX P w K mg base N qual scope f cd A outer s H E).ex:=λb z=>absurd (show b∈([]:aA)from z) (by simp);refine⟨⟨e0.mod,S.kind,rfl,rfl,Iy _,λy z c h1 h2=>?_,λy hy=>?_,λy c _ h=>?_,λ_=>hd,Around.frames_deeper e0.frames,.inr ⟨rfl,rfl⟩,λb z=>absurd z (noA b),e0.bs,e0.bsz,λb _ _=>noA b,λb z=>absurd z (noA b),e0.funs,e0.frf⟩,
  rfl,e0.bare,Un.kept hk,⟨_,x.toInCall.ns,λi y v h1 h2 h3=>?_⟩,λy c h=>⟨_,x.cell y c h⟩,e0.hok.fresh (Iy _),λy c h=>?_,λp hp=>absurd (show p∈([]:aV)from hp) (by simp),e0.hok.kept hk,?_⟩
 ·exact name_of_addr x.apart (PySem.mem_of_lookup h1) (PySem.mem_of_lookup h2)
 ·have hy:scope.names.lookup y=some .cell\/scope.names.lookup y=some .free:=hy;rcases hy with hy|hy
  ·exact pX hy
  ·exact absurd rfl (S.nofree _ (PySem.mem_of_lookup hy))
 ·exact Ij (x.above y c (PySem.mem_of_lookup h))
 ·have hi:i<vs.length:=by
   unfold start at h2;by_cases hi:i<vs.length
   ·exact hi
   ·rw[IR (by simpa using hi)]at h2;rw[IT]at h2;split at h2<;>cases h2
  have ha:vs[i]?=some v:=by
   unfold start at h2;rw[IU (by simpa using hi),IV]at h2;cases e:vs[i]? with
   |none=>rw[e]at h2;cases h2
   |some a=>rw[e]at h2;cases h2;rfl
  obtain⟨u,hu,rv⟩:=r.get ha;have hp:ps[i]?=some y:=by
   rw[<-S.pre,IW ‹0›];exact h1
  have ndP:ps.Nodup:=by rw[<-S.pre];exact S.nd.sublist (IX _ _)
  refine⟨u,rv,?_⟩;rcases S.par y (IY hp)with k|k
  ·exact .inl ⟨k,mQ ndP hp hu k⟩
  ·obtain⟨c,e⟩:=pX (n:=s.heap.objs.size+1) k;refine .inr ⟨.inl k,c,e,?_⟩;have q:=x.cell y c e;rw[mZ ndP hp hu (by show scope.names.lookup y≠_;rw[k];decide)]at q;exact q
 ·exact e0.hok.fresh (Ij (x.above y c (PySem.mem_of_lookup h)))
 ·unfold start;show _=N.length;rw[IZ,IH,List.length_replicate];omega
theorem Bf{CX:qM}{P:L7}{w:L6}{K:Ky}{mg:bK}{base:L8}{k:Nat}{f:LW}{name qual:Str}{params:Arguments}{body:cH}{scope:Mg}{dV kV doc pm cdv ct oc:LU}{an od:Option LW}
  {osl:Array (Option LU)} {N ps:al} {sp:Sp} (lk:K.lookup f=some ⟨oc,od,.func (KY name qual params body scope dV kV doc pm an cdv ct),osl⟩) (hcd:KZ K cdv qual=true) (S:cC N ps scope)
  (len:∀vs H Q E,sp vs H Q E->vs.length=ps.length)
  (hbody:∀ (A:Mf) (outer:List Env) (s:LZ) (H:Hp) (vs:aE) (Q:VK) (E:XK),dI k (A.deeper (envOfC qual scope s.heap.objs.size f cdv))->sp vs H Q E ->
   ∃t,mR (gd CX P w K mg base N qual scope f cdv A outer s H E) body t/\t {nx:=λ_ H'=>Q .non H',rt:=Q} (start N vs) H):
  eh P w K mg base CX (k+1) f (KY name qual params body scope dV kV doc pm an cdv ct) ps sp:=by
 refine⟨len,λA outer s H args us vs Q E hr e0 hb r hsp=>?_⟩;have hl:=len _ _ _ _ hsp;have KX:K.In s.heap:=e0.mod.kin.keeps λb o e=>(e0.bs b o e).1;have lim:s.heap.NoLimit:=e0.mod.nolimit.keeps λb o e=>(e0.bs b o e).1;have hkind:∀y∈ps.zip us,scope.names.lookup y.1=some .local\/(scope.names.lookup y.1=some .cell/\((cellsFrom (s.heap.objs.size+1) scope.names []).lookup y.1).isSome=true):=λ⟨n,v⟩ hy=>by
  rcases S.par n (IP hy).1 with q|q
  ·exact .inl q
  ·exact .inr ⟨q,KW _ _ _ (.inl q)⟩
 refine codeAny_call_function hr.depth (KX _ _ lk) rfl S.co S.gen rfl (PySem.W.codeRec_of KX hcd) (hb _ _ _ _ ?_);refine wpAny_newFunctionEnv_cells S.kind hkind λenv he s1 x=>?_;subst he;refine⟨lim.keeps x.toInCall.keep,codeAny_func ?_⟩;obtain⟨t,ht,hq⟩:=hbody A outer s H vs Q E (hr.deeper _) hsp;have I:Inv (gd CX P w K mg base N qual scope f cdv A outer s H E) [] (start N vs) H s1:=uO S hr.hd e0 hl r x;refine Ml (ht [] s1 (start N vs) H _ I hq) (λfl s' hs=>?_) λe s' hs=>hs;have fin:∀{σ':St}{H':Hp}{v:V}{u:LU},Inv (gd CX P w K mg base N qual scope f cdv A outer s H E) [] σ' H' s'->RelV v u->Q v H'->CE outer P w H s Q u s':=
  λ{σ' H' v u} J rv q=>⟨v,H',J.os,J.bare,J.base,J.hok,rv,q⟩
 cases fl with
 |ret u=>
  obtain⟨v,σ',H',J,rv,q⟩:=hs;exact fin J rv q
 |next=>
  obtain⟨σ',H',J,q⟩:=hs;exact fin (v:=V.non) (u:=Value.none) J rfl q
 |brk=>
  obtain⟨_,_,_,q⟩:=hs;exact False.elim q
 |cont=>
  obtain⟨_,_,_,q⟩:=hs;exact False.elim q
section
variable{X:Cx}{x:Str}{p pos:Pos}{e:LX}{es:aZ}{t:TA}{id T:String}{r:aE->Hp->VK->Prop}
noncomputable def E7(r:aE->Hp->VK->Prop)(t:TA):TE:=λσ H Q=>t σ H λvs H1=>r vs H1 Q
theorem gu(hc:eD X (.builtin id) r)(hg:Gl X x)(hm:X.mg x=none)(hv:Md x=some (.builtin id))(ha:PA X (e::es) t)(hn:x≠"__name__":=by decide)(hdb:(x==("__debug__":Str))=false:=by decide)
  (he:Mj (e::es) X.env=(false,eval e X.env)::Mj es X.env:=by rfl) (hpl:(backTo pos (Mj es X.env)).any (·.1)=false:=by rfl):PE X (.Call (.Name x p) (e::es) [] pos) (E7 r t):=by
 intro pins s σ H Q I h;refine MP (jx I hg hm hv ?_ hn hdb);exact PyProof.Rows.callWith_builtin1 (ca (ha pos pins s σ H _ I h) λus s1 ⟨vs,H1,I1,r1,q1⟩=>hc pins s1 σ H1 vs us Q I1 r1 q1) he hpl
theorem nQ(hc:eD X (.type T) r)(hg:Gl X x)(hm:X.mg x=none)(hv:Md x=some (.type T))(ha:PA X (e::es) t)(hn:x≠"__name__":=by decide)(hdb:(x==("__debug__":Str))=false:=by decide)
  (he:Mj (e::es) X.env=(false,eval e X.env)::Mj es X.env:=by rfl) (hpl:(backTo pos (Mj es X.env)).any (·.1)=false:=by rfl):PE X (.Call (.Name x p) (e::es) [] pos) (E7 r t):=by
 intro pins s σ H Q I h;refine MP (jx I hg hm hv ?_ hn hdb);exact Lw (ca (ha pos pins s σ H _ I h) λus s1 ⟨vs,H1,I1,r1,q1⟩=>hc pins s1 σ H1 vs us Q I1 r1 q1) he hpl
end
end L2
namespace HT
open PySem PyProof.Rows
theorem DW(A:Mf)(s:LZ)(a:Int)(t:Tok)(c:Int)(u:Tok)(prog:L7)(w:L6)(E:LU->LZ->Prop)(Q:LU->LZ->Prop)(h:Q (.bool (decide (a<c))) s):
  Mi (model prog w) A (richCompare .Lt (.int a t) (.int c u)) Q E s:=
 (PyProof.Rows.lt_int h:Mi (model prog w) A (Mp .Lt (.int a t) (.int c u)) Q E s)
section
open PySem.SeqAt
open PySem.AutoSeq1 (wpAny_loadPart')
open PySem.MeetsSeq PySem.MeetsSeq2 PySem.MeetsSeq3
end
section
variable{prog:L7}{w:L6}{A:Mf}{E:LU->LZ->Prop}{s:LZ}
theorem Eu{t b:LW}{vs ws:List LU}{Q:LU->LZ->Prop}(ht:IsTup s.heap t vs.toArray)(hb:IsTup s.heap b ws.toArray)(hv:vs≠[])
  (h1:ws=[]->Q (.ref t) s) (h2:ws≠[]->Q (.ref s.heap.objs.size) {s with heap:=s.heap.push {cls:=.type "tuple",data:=.seq (vs++ws).toArray}})
  (hsz:vs.length+ws.length<=L9):Mi (model prog w) A (Mz .Add (.ref t) (.ref b)) Q E s:=by
 obtain⟨⟨cls,dd,data,sl⟩,ho,hc,n,hd⟩:=id ht;obtain⟨⟨cls2,dd2,data2,sl2⟩,ho2,hc2,n2,hd2⟩:=id hb;simp only at hc hd hc2 hd2;subst hc hd hc2 hd2;have e:vs.toArray++ws.toArray=(vs++ws).toArray:=by simp
 by_cases hw:ws=[]
 ·exact MQ ⟨_,ho,rfl⟩ ⟨_,ho2,rfl⟩ MR MS LJ LK (LO _ _)
   (tuple_addW1 t b vs.toArray ws.toArray n n2 dd dd2 sl sl2 (by simpa using hv) (by simp[hw])) ⟨ho,ho2,h1 hw⟩
 ·refine MQ ⟨_,ho,rfl⟩ ⟨_,ho2,rfl⟩ MR MS LJ LK (LO _ _)
   (tuple_addW2 t b vs.toArray ws.toArray n n2 dd dd2 sl sl2 (by simpa using hv) (by simpa using hw) (by rw[IB,IB];exact hsz)) ⟨ho,ho2,?_⟩
  rw[e];exact h2 hw
noncomputable def sIx(n d:Nat):Option Int->Nat
 |none=>d
 |some v=>if v<0 then(v+(n:Int)).toNat else min v.toNat n
theorem DH(n d:Nat):sIx n d none=d:=rfl
theorem EL(n d k:Nat):sIx n d (some (k:Int))=min k n:=by
 show(if(k:Int)<0 then((k:Int)+(n:Int)).toNat else min (k:Int).toNat n)=min k n;rw[if_neg ‹0›,I0]
theorem BQ(n d:Nat)(hd:d<=n)(o:Option Int):sIx n d o<=n:=by
 cases o with
 |none=>exact hd
 |some v=>
  show(if v<0 then(v+(n:Int)).toNat else min v.toNat n)<=n;by_cases hv:v<0
  ·rw[if_pos hv];omega
  ·rw[if_neg hv];exact Nat.min_le_right _ _
theorem sK(v:Int)(n d:Nat):(if v<0 then max (v+(n:Int)) 0 else min v (n:Int))=((sIx n d (some v):Nat):Int):=by
 show(if v<0 then max (v+(n:Int)) 0 else min v (n:Int))=(((if v<0 then(v+(n:Int)).toNat else min v.toNat n):Nat):Int)
 by_cases hv:v<0
 ·simp only[if_pos hv];omega
 ·simp only[if_neg hv];omega
theorem qB(lo hi:Option Int)(n:Nat):Builtin.Slice.sliceAdjust lo hi 1 (n:Int)=(((sIx n 0 lo:Nat):Int),((sIx n n hi:Nat):Int)):=by
 have h1:¬((1:Int)<0):=by omega
 unfold Builtin.Slice.sliceAdjust;simp only[h1,if_false];refine Prod.ext ?_ ?_
 ·cases lo with
  |none=>rfl
  |some v=>exact sK v n 0
 ·cases hi with
  |none=>rfl
  |some v=>exact sK v n n
theorem qL(i j:Nat):Builtin.Slice.slicePlaces (i:Int) (j:Int) 1=j-i:=by
 unfold Builtin.Slice.slicePlaces;have h1:(1:Int)>0:=by omega
 simp only[h1,if_true,Int.ediv_one];split<;>omega
theorem lW{v:LU}{o:Option Int}{Q:Option Int->LZ->Prop}(p:MT v o)(h:Q o s):Mi (model prog w) A (Builtin.Slice.slicePartIndex v) Q E s:=by
 cases p with
 |none=>exact slicePart_none h
 |int i t=>exact slicePart_int h
theorem jM{sl:LW}{vl vu:LU}{lo hi:Option Int}{n:Nat}{Q:Int×Int×Nat->LZ->Prop}(hs:s.heap.IsSliceOf sl vl vu .none)(pl:MT vl lo)(pu:MT vu hi)
  (h:Q (((sIx n 0 lo:Nat):Int),1,sIx n n hi-sIx n 0 lo) s):Mi (model prog w) A (Builtin.Slice.sliceApplied (.ref sl) (pure (n:Int))) Q E s:=by
 obtain⟨os,hos,hcs,hds⟩:=id hs;unfold Builtin.Slice.sliceApplied Builtin.Slice.sliceFields;refine Mw (Mw (MU hos hds (x:=vl) rfl (Mw (MU hos hds (x:=vu) rfl (Mw (MU hos hds (x:=.none) rfl (Mv ?_)))))));refine Mw (slicePart_none ?_);show Mi _ _ (if((1:Int)==0)=true then _ else _) _ _ s;rw[if_neg (by decide)];refine Mw (lW pl (Mw (lW pu (Mw (Mv ?_)))));show Mi _ _ (match Builtin.Slice.sliceAdjust lo hi 1 (n:Int)with|(lo,hi)=>pure (lo,(1:Int),Builtin.Slice.slicePlaces lo hi 1)) _ _ s;rw[qB lo hi n];show Mi _ _ (pure (((sIx n 0 lo:Nat):Int),(1:Int),Builtin.Slice.slicePlaces ((sIx n 0 lo:Nat):Int) ((sIx n n hi:Nat):Int) 1)) _ _ s;rw[qL];exact Mv h
theorem wI(xs:Array LU)(i k:Nat):((List.range k).filterMap λ(m:Nat)=>xs[((i:Int)+(m:Int)*1).toNat]?).toArray=((xs.toList.drop i).take k).toArray:=by
 have e:(λ(m:Nat)=>xs[((i:Int)+(m:Int)*1).toNat]?)=λm=>xs[i+m]?:=by
  funext m
  have:((i:Int)+(m:Int)*1).toNat=i+m:=by omega
  rw[this]
 rw[e]
 have:=pick_run xs i k
 rw[List.filterMap_map]at this;have e2:((λx=>xs[x]?)∘λx=>i+x)=λm=>xs[i+m]?:=rfl;rw[e2]at this;rw[this]
theorem sE{t sl:LW}{items:Array LU}{vl vu:LU}{lo hi:Option Int}{Q:LU->LZ->Prop}(ht:IsTup s.heap t items)(hs:s.heap.IsSliceOf sl vl vu .none)(pl:MT vl lo)(pu:MT vu hi)
  (hw:¬(sIx items.size 0 lo=0/\sIx items.size items.size hi=items.size))
  (h:Q (.ref s.heap.objs.size) {s with heap:=s.heap.push {cls:=.type "tuple",data:=.seq ((items.toList.drop (sIx items.size 0 lo)).take (sIx items.size items.size hi-sIx items.size 0 lo)).toArray}})
  (hsz:items.size<=L9):Mi (model prog w) A (getItem (.ref t) (.ref sl)) Q E s:=by
 have htake:sizeOk (.seq ((items.toList.drop (sIx items.size 0 lo)).take (sIx items.size items.size hi-sIx items.size 0 lo)).toArray):=by
  show((items.toList.drop (sIx items.size 0 lo)).take (sIx items.size items.size hi-sIx items.size 0 lo)).toArray.size<=L9;rw[IB,IQ,Ja,Array.length_toList];omega
 have hj:sIx items.size items.size hi<=items.size:=BQ _ _ (Iy _) hi;obtain⟨os,hos,hcs,hds⟩:=id hs;have hTs:s.TypeIs (.ref sl) "slice":=⟨os,hos,hcs⟩
 unfold getItem
 try with_reducible refine MV ?_
 first|refine Mw (Mv ?_)|skip
 refine Mw (wpAny_sequenceKey ht.typeIs (by decide) ?_);refine Mw (MX (name:=Str.ofString "__getitem__") ht.typeIs Lx
  (MY Lx ht.typeIs entry_tuple_getitem ?_ (args_tuple_getitem _ _)))
 show Mi _ _ (Builtin.Tuple.tupleItemsOf (.ref t) >>= _) _ _ s;refine Mw (tupleItemsOf_ ht ?_);refine Mw (MZ hTs ?_);rw[if_pos (by decide)];refine Mw (jM hs pl pu ?_);have hno:¬((((sIx items.size 0 lo:Nat):Int)==0&&(1:Int)==1&&(sIx items.size items.size hi-sIx items.size 0 lo)==items.size)=true):=by
  intro q;rw[Jb,Jb]at q;have q1:((sIx items.size 0 lo:Nat):Int)=0:=eq_of_beq q.1.1;have q2:sIx items.size items.size hi-sIx items.size 0 lo=items.size:=eq_of_beq q.2;exact hw ⟨by omega,by omega⟩
 show Mi _ _ (if(((sIx items.size 0 lo:Nat):Int)==0&&(1:Int)==1&&(sIx items.size items.size hi-sIx items.size 0 lo)==items.size)=true then _ else _) _ _ s;rw[if_neg hno,wI]
 first
  |exact Mw (m:=Builtin.Tuple.tupleExact _) (M0 (Mv ⟨_,rfl,Mv h⟩) htake)
  |exact Mw (m:=Builtin.Tuple.tupleExact _) (M0 (Mw (Mv (Mv ⟨_,rfl,Mv h⟩))) htake)
  |exact Mw (Mw (m:=Builtin.Tuple.tupleExact _) (M0 (Mv (Mv ⟨_,rfl,Mv h⟩)) htake))
  |exact Mw (Mw (m:=Builtin.Tuple.tupleExact _) (M0 (Mv ⟨_,rfl,Mv h⟩) htake))
end
end HT
namespace L2
open PySem PySem.Spec PyProof.Rows
noncomputable abbrev TO:=St->Hp->(cf->Hp->Prop)->Prop
noncomputable def PO(X:Cx)(e:Option LX)(t:TO):Prop:=
 ∀(pins:aV)(s:LZ)(σ:St)(H:Hp)(Q:cf->Hp->Prop),Inv X pins σ H s->t σ H Q->
  Mi (model X.prog X.w) X.A (evalPart e X.env) (λu s'=>∃o H',Inv X pins σ H' s'/\MT u o/\Q o H') X.xe s
noncomputable def yU:TO:=λ_ H Q=>Q none H
noncomputable def D8(t:TE):TO:=λσ H Q=>t σ H λx H1=>∃i,x=.int i/\Q (some i) H1
section
variable{X:Cx}{e:LX}{te:TE}{lo hi:Option LX}{tl th:TO}{pos p2:Pos}
theorem AB:PO X none yU:=by
 intro pins s σ H Q I h;rw[evalPart_none];exact Mv ⟨none,H,I,.none,h⟩
theorem zY(h:PE X e te):PO X (some e) (D8 te):=by
 intro pins s σ H Q I hw;rw[evalPart_some];refine ca (h pins s σ H _ I hw) λu s1 ⟨x,H1,I1,r1,q1⟩=>?_;obtain⟨i,rfl,q⟩:=q1;obtain⟨t,rfl⟩:=r1;exact⟨some i,H1,I1,.int i t,q⟩
noncomputable def En(X:Cx)(r:V->cf->cf->Hp->VK->Prop):Prop:=
 ∀(pins:aV)(s:LZ)(σ:St)(H:Hp)(x:V)(v vl vu:LU)(lo hi:cf)(sl:LW)(Q:VK),Inv X pins σ H s->RelV x v->s.heap.IsSliceOf sl vl vu .none->MT vl lo->MT vu hi->r x lo hi H Q->
  ∃T id,typeLookup (.type T) "__getitem__"=pure (some (.builtin id))/\s.TypeIs v T/\Mi (model X.prog X.w) X.A (getItem v (.ref sl)) (EP X pins σ Q) X.xe s
noncomputable def Hl(r:V->cf->cf->Hp->VK->Prop)(te:TE)(tl th:TO):TE:=λσ H Q=>te σ H λx H1=>tl σ H1 λl H2=>th σ H2 λu H3=>r x l u H3 Q
theorem wm{r:V->cf->cf->Hp->VK->Prop}(hr:En X r)(he:PE X e te)(hl:PO X lo tl)(hu:PO X hi th):PE X (.Subscript e (.Slice lo hi none p2) pos) (Hl r te tl th):=by
 intro pins s σ H Q I h;refine Subscript_ (ca (he pins s σ H _ I h) λv s1 ⟨x,H1,I1,r1,q1⟩=>?_);refine wpAny_Slice (ca (hl pins s1 σ H1 _ I1 q1) λvl s2 ⟨l,H2,I2,pl,q2⟩=>ca (hu pins s2 σ H2 _ I2 q2) λvu s3 ⟨u,H3,I3,pu,q3⟩=>?_);rw[evalPart_none];refine Mv ?_;have I4:Inv X pins σ H3 {s3 with heap:=s3.heap.push {cls:=.type "slice",data:=.fields #[vl,vu,.none]}}:=I3.kept (t':=s3.toks) λb ob q=>Li _ q;obtain⟨T,id,hT,ht,hg⟩:=hr pins {s3 with heap:=s3.heap.push {cls:=.type "slice",data:=.fields #[vl,vu,.none]}} σ H3 x v vl vu l u s3.heap.objs.size Q I4 r1 (Heap.IsSliceOf.new ..) pl pu q3;show Mi (model X.prog X.w) X.A (subscriptTail e (.Slice lo hi none p2) v (.ref s3.heap.objs.size)) (EP X pins σ Q) X.xe {s3 with heap:=s3.heap.push {cls:=.type "slice",data:=.fields #[vl,vu,.none]}};exact tail_any (ops:=[.ref s3.heap.objs.size,v]) ht hT hg (by with_unfolding_all rfl)
noncomputable def qq(xs:aE)(lo hi:cf):aE:=(xs.drop (HT.sIx xs.length 0 lo)).take (HT.sIx xs.length xs.length hi-HT.sIx xs.length 0 lo)
theorem jY(xs:aE)(lo hi:cf):(qq xs lo hi).length<=xs.length:=by
 unfold qq;rw[IQ,Ja];omega
noncomputable def Gx(K:Ky):V->cf->cf->Hp->VK->Prop:=λx lo hi H Q=>∃a xs,x=.ref a/\jD K H a xs/\
 ¬(HT.sIx xs.length 0 lo=0/\HT.sIx xs.length xs.length hi=xs.length)/\∀p,H p=none->Q (.ref p) (upd H p (.tup (qq xs lo hi)))
theorem B5:En X (Gx X.K):=by
 intro pins s σ H x v vl vu lo hi sl Q I rx hs pl pu h;obtain⟨a,xs,rfl,hx,hw,q⟩:=h;cases rx;obtain⟨its,r,ht,hz⟩:=I.tuple hx;have hlen:its.toArray.size=xs.length:=by rw[IB];exact r.length.symm
 refine⟨"tuple",_,PyProof.Rows.slot_tuple_getitem.lookup,ht.typeIs,?_⟩;refine HT.sE ht hs pl pu (by rw[hlen];exact hw) ?_ (by rw[hlen];exact hz);rw[hlen];refine⟨.ref s.heap.objs.size,_,I.laid (t':=s.toks) (o:=.tup (qq xs lo hi)) (λb ob q=>Li _ q) (Iy _) ?_,rfl,q _ (I.hok.fresh (Iy _))⟩;exact⟨Ii (jY xs lo hi) hz,_,(r.drop (HT.sIx xs.length 0 lo)).take (HT.sIx xs.length xs.length hi-HT.sIx xs.length 0 lo),IsTup.new _ _⟩
noncomputable def DB(K:Ky):R2:=λx y H Q=>∃a b xs ys,x=.ref a/\y=.ref b/\jD K H a xs/\jD K H b ys/\xs≠[]/\xs.length+ys.length<=L9/\
 (ys=[]->Q (.ref a) H)/\(ys≠[]->∀p,H p=none->Q (.ref p) (upd H p (.tup (xs++ys))))
theorem Vals.nil_iff{xs:aE}{us:aQ}(r:Vals xs us):us=[]↔xs=[]:=by
 cases r with
 |nil=>simp
 |cons _ _=>simp
theorem zf:fO X (Mz .Add) (DB X.K):=by
 intro pins s σ H x y v u Q I rx ry h;obtain⟨a,b,xs,ys,rfl,rfl,ha,hb,hx,hz,q1,q2⟩:=h;cases rx;cases ry;obtain⟨its,r1,p1,_⟩:=I.tuple ha;obtain⟨its2,r2,p2,_⟩:=I.tuple hb;refine HT.Eu p1 p2 (λz=>hx (r1.nil_iff.mp z)) (λz=>⟨.ref a,H,I,rfl,q1 (r2.nil_iff.mp z)⟩) (λz=>?_) (by rw[<-r1.length,<-r2.length];exact hz);refine⟨.ref s.heap.objs.size,_,I.laid (t':=s.toks) (o:=.tup (xs++ys)) (λb ob q=>Li _ q) (Iy _) ?_,rfl,q2 (λw=>z (r2.nil_iff.mpr w)) _ (I.hok.fresh (Iy _))⟩;exact⟨by rw[IZ];exact hz,_,r1.append r2,IsTup.new _ _⟩
end
noncomputable def A5(n:Nat)(i:Int):Option Nat:=if 0<=i then(if i<n then some i.toNat else none)else if -(n:Int)<=i then some (i+n).toNat else none
noncomputable def iC{α:Type}(xs:List α)(i:Int):Option α:=(A5 xs.length i).bind λj=>xs[j]?
theorem zm{n:Nat}{i:Int}{j:Nat}(h:A5 n i=some j):seqIndex? i n=some j/\j<n/\-(n:Int)<=i/\i<n:=by
 unfold A5 at h;by_cases h0:0<=i
 ·rw[if_pos h0]at h;by_cases h1:i<n
  ·rw[if_pos h1]at h;have e:i.toNat=j:=Option.some.inj h;exact⟨by rw[seqIndex_of h0 h1,e],by omega,by omega,h1⟩
  ·rw[if_neg h1]at h;cases h
 ·rw[if_neg h0]at h;by_cases h1:-(n:Int)<=i
  ·rw[if_pos h1]at h;have e:(i+n).toNat=j:=Option.some.inj h;exact⟨by rw[seqIndex_neg ‹0› h1,e],by omega,h1,by omega⟩
  ·rw[if_neg h1]at h;cases h
theorem n9{α:Type}{xs:List α}{i:Int}{v:α}(h:iC xs i=some v):∃j,seqIndex? i xs.length=some j/\xs[j]?=some v/\j<xs.length/\-(xs.length:Int)<=i/\i<xs.length:=by
 unfold iC at h;cases e:A5 xs.length i with
 |none=>rw[e]at h;cases h
 |some j=>
  rw[e]at h;obtain⟨h1,h2,h3,h4⟩:=zm e;exact⟨j,h1,h,h2,h3,h4⟩
noncomputable def og(b:LX):Prop:=∀o i,subscripted b false o i=operate [o,i] (getItem o i)
noncomputable def DN(X:Cx)(r:R2):Prop:=
 ∀(value slice:LX)(pins:aV)(s:LZ)(σ:St)(H:Hp)(x y:V)(v u:LU)(Q:VK),Inv X pins σ H s->RelV x v->RelV y u->r x y H Q->
  subscripted slice false v u=operate [v,u] (getItem v u)->Mi (model X.prog X.w) X.A (subscriptTail value slice v u) (EP X pins σ Q) X.xe s
noncomputable def Gq(X:Cx)(id:String)(r:V->aE->Hp->VK->Prop):Prop:=
 ∀(pins:aV)(s:LZ)(σ:St)(H:Hp)(x:V)(xs:aE)(v:LU)(us:aQ)(Q:VK),Inv X pins σ H s->RelV x v->Vals xs us->r x xs H Q->
  Mi (model X.prog X.w) X.A (call (.builtin id) (v::us)) (EP X pins σ Q) X.xe s
section
variable{X:Cx}{a b:LX}{ta tb:TE}{pos:Pos}
theorem DV{r:R2}(hr:DN X r)(ha:PE X a ta)(hb:PE X b tb)(hs:og b):PE X (.Subscript a b pos) (Di r ta tb):=by
 intro pins s σ H Q I h;exact Subscript_ (BV ha hb I h λv u s2 x y H2 I2 rx ry q=>hr a b pins s2 σ H2 x y v u Q I2 rx ry q (hs _ _))
noncomputable def Fz(K:Ky):R2:=λx y H Q=>∃p xs i v,x=.ref p/\y=.int i/\ie K H p xs/\iC xs i=some v/\Q v H
noncomputable def Fg(K:Ky):R2:=λx y H Q=>∃p xs i v,x=.ref p/\y=.int i/\jD K H p xs/\iC xs i=some v/\Q v H
noncomputable def F7:R2:=λx y H Q=>∃z i c,x=.str z/\y=.int i/\z.length<=L9/\iC z.cps.toList i=some c/\Q (.str ⟨#[c]⟩) H
theorem AG:DN X (Fz X.K):=by
 intro value slice pins s σ H x y v u Q I rx ry h hs;obtain⟨p,xs,i,z,rfl,rfl,hq,he,q⟩:=h;cases rx;obtain⟨t,rfl⟩:=ry;obtain⟨its,r,pl,hz⟩:=I.list hq;obtain⟨j,h1,h2,h3,h4,h5⟩:=n9 he;obtain⟨w,ew,rw'⟩:=r.get h2;have hl:=r.length;have hn:=jI;have fin:EP X pins σ Q w s:=⟨z,H,I,rw',q⟩
 by_cases h0:0<=i
 ·have hj:i.toNat=j:=by
   rw[seqIndex_of h0 h5]at h1;exact Option.some.inj h1
  exact item_listR pl.isList h0 ‹0› (by rw[hj];simpa using ew) fin hs
 ·have hj:(i+(its.toArray.size:Int)).toNat=j:=by
   rw[seqIndex_neg ‹0› h4]at h1;rw[IB,<-hl];exact Option.some.inj h1
  exact subscriptTail_builtinR (x:=w) pl.isList.typeIs slot_list_getitem.lookup
   (wpAny_getItem_list_neg (Q:=λr s'=>r=w/\EP X pins σ Q r s') pl.isList ‹0› (by rw[IB]<;>omega) ‹0› (by rw[hj];simpa using ew) ⟨rfl,fin⟩) hs
theorem Bo:DN X (Fg X.K):=by
 intro value slice pins s σ H x y v u Q I rx ry h hs;obtain⟨p,xs,i,z,rfl,rfl,hq,he,q⟩:=h;cases rx;obtain⟨t,rfl⟩:=ry;obtain⟨its,r,pl,hz⟩:=I.tuple hq;obtain⟨j,h1,h2,h3,h4,h5⟩:=n9 he;obtain⟨w,ew,rw'⟩:=r.get h2;have hl:=r.length;have hn:=jI;have fin:EP X pins σ Q w s:=⟨z,H,I,rw',q⟩
 exact subscriptTail_builtinR (x:=w) pl.typeIs slot_tuple_getitem.lookup
  (getItem_tuple (j:=j) (Q:=λr s'=>r=w/\EP X pins σ Q r s') pl ‹0› ‹0› (by rw[IB,<-hl];exact h1) (by simpa using ew) ⟨rfl,fin⟩) hs
theorem B1:DN X F7:=by
 intro value slice pins s σ H x y v u Q I rx ry h hs;obtain⟨z,i,c,rfl,rfl,hz,he,q⟩:=h;obtain⟨t,rfl⟩:=rx;obtain⟨t',rfl⟩:=ry;obtain⟨j,h1,h2,h3,h4,h5⟩:=n9 he;have hl:z.cps.toList.length=z.length:=by simp[Str.length]
 rw[hl]at h1 h4 h5;have hn:=jI;exact tail_any (typeIs_str s z t) slot_str_getitem.lookup (getItem_str (c:=c) (by
  have e1:decide (i < -(2^63:Int))=false:=decide_eq_false ‹0›;have e2:decide (i>=2^63)=false:=decide_eq_false ‹0›;rw[e1,e2,Bool.or_false]) (by rw[h1];simpa using h2) ⟨.str ⟨#[c]⟩,H,I.tok _,⟨_,rfl⟩,q⟩) hs
theorem oh(lo hi:cf)(n:Nat):(sliceBounds lo hi none n).1=((HT.sIx n 0 lo:Nat):Int)/\(sliceBounds lo hi none n).2.1=((HT.sIx n n hi:Nat):Int)/\(sliceBounds lo hi none n).2.2=1:=by
 refine⟨?_,?_,rfl⟩
 ·cases lo with
  |none=>simp[sliceBounds,HT.sIx]
  |some i=>
   simp only[sliceBounds,HT.sIx,Jc,show(1:Int)>0 by decide,if_true];by_cases h:i<0
   ·simp only[h,if_true]<;>omega
   ·simp only[h,if_false]<;>omega
 ·cases hi with
  |none=>simp[sliceBounds,HT.sIx]
  |some i=>
   simp only[sliceBounds,HT.sIx,Jc,show(1:Int)>0 by decide,if_true];by_cases h:i<0
   ·simp only[h,if_true]<;>omega
   ·simp only[h,if_false]<;>omega
theorem mw(its:aQ)(lo hi:cf):slicePick its.toArray lo hi none=((its.drop (HT.sIx its.length 0 lo)).take (HT.sIx its.length its.length hi-HT.sIx its.length 0 lo)).toArray:=by
 obtain⟨h1,h2,h3⟩:=oh lo hi its.toArray.size;unfold slicePick;rw[h1,h2,h3];simp only[sliceRange_one,pick_run,IB]<;>rfl
noncomputable def GB(K:Ky):V->cf->cf->Hp->VK->Prop:=λx lo hi H Q=>∃a xs,x=.ref a/\ie K H a xs/\∀p,H p=none->Q (.ref p) (upd H p (.lst (qq xs lo hi)))
theorem z9:En X (GB X.K):=by
 intro pins s σ H x v vl vu lo hi sl Q I rx hs pl pu h;obtain⟨a,xs,rfl,hx,q⟩:=h;cases rx;obtain⟨its,r,ht,hz⟩:=I.list hx;have hlen:=r.length;refine⟨"list",_,slot_list_getitem.lookup,ht.isList.typeIs,?_⟩;refine wpAny_getItem_list_slice ht.isList hs pl pu .none (by simp) ?_ (by rw[IB]<;>omega);rw[mw,<-hlen];refine⟨.ref s.heap.objs.size,_,I.laid (t':=s.toks) (o:=.lst (qq xs lo hi)) (λb ob q=>Li _ q) (Iy _) ?_,rfl,q _ (I.hok.fresh (Iy _))⟩;exact⟨Ii (jY xs lo hi) hz,_,0,(r.drop (HT.sIx xs.length 0 lo)).take (HT.sIx xs.length xs.length hi-HT.sIx xs.length 0 lo),Lj _ rfl⟩
noncomputable def xV:V->Bool
 |.non=>true
 |.bl _=>true
 |.int _=>true
 |.str _=>true
 |_=>false
noncomputable def Gk:V->V->Bool
 |.non,.non=>true
 |.bl a,.bl b=>a==b
 |.bl a,.int b=>(if a then 1 else 0)==b
 |.int a,.bl b=>a==(if b then 1 else 0)
 |.int a,.int b=>a==b
 |.str a,.str b=>a==b
 |_,_=>false
theorem CG{A:Mf}{s:LZ}{y x:V}{u v:LU}(ry:RelV y u)(rx:RelV x v)(fy:xV y=true)(fx:xV x=true):SeqAt.EqAt A s u v (Gk y x):=by
 cases y with
 |non=>
  cases ry;cases x with
  |non=>cases rx;exact SeqAt.EqAt.same _
  |bl b=>cases rx;exact SeqAt.EqAt.none_bool b
  |int b=>obtain⟨t,rfl⟩:=rx;exact SeqAt.EqAt.none_int b t
  |str b=>obtain⟨t,rfl⟩:=rx;exact SeqAt.EqAt.none_str b t
  |_=>exact absurd (show false=true from fx) Iu
 |bl a=>
  cases ry;cases x with
  |non=>cases rx;exact SeqAt.EqAt.bool_none a
  |bl b=>cases rx;exact SeqAt.EqAt.bool_bool a b
  |int b=>obtain⟨t,rfl⟩:=rx;exact SeqAt.EqAt.bool_int a b t
  |str b=>obtain⟨t,rfl⟩:=rx;exact SeqAt.EqAt.bool_str a b t
  |_=>exact absurd (show false=true from fx) Iu
 |int a=>
  obtain⟨t',rfl⟩:=ry;cases x with
  |non=>cases rx;exact SeqAt.EqAt.int_none a t'
  |bl b=>cases rx;exact SeqAt.EqAt.int_bool a t' b
  |int b=>obtain⟨t,rfl⟩:=rx;exact SeqAt.EqAt.int_int a t' b t
  |str b=>obtain⟨t,rfl⟩:=rx;exact SeqAt.EqAt.int_str a t' b t
  |_=>exact absurd (show false=true from fx) Iu
 |str a=>
  obtain⟨t',rfl⟩:=ry;cases x with
  |non=>cases rx;exact SeqAt.EqAt.str_none a t'
  |bl b=>cases rx;exact SeqAt.EqAt.str_bool a t' b
  |int b=>obtain⟨t,rfl⟩:=rx;exact SeqAt.EqAt.str_int a t' b t
  |str b=>obtain⟨t,rfl⟩:=rx;exact SeqAt.EqAt.str_str a t' b t
  |_=>exact absurd (show false=true from fx) Iu
 |_=>exact absurd (show false=true from fy) Iu
theorem iE:eD X (.builtin "len") (λxs H Q=>∃p ys,xs=[.ref p]/\(ie X.K H p ys\/jD X.K H p ys)/\Q (.int ys.length) H):=by
 intro pins s σ H xs us Q I r h;obtain⟨p,ys,rfl,hq,q⟩:=h;obtain⟨u,rfl,rx⟩:=vals1 r;cases rx;have hn:=jI;rcases hq with hq|hq
 ·obtain⟨its,r',pl,hz⟩:=I.list hq;have hlen:=r'.length;exact Calls.call_len_list pl.isList (by simp only[IB]<;>omega) ⟨.int ys.length,H,I.tok _,⟨s.toks+1,by rw[IB,hlen]⟩,q⟩
 ·obtain⟨its,r',pl,hz⟩:=I.tuple hq;have hlen:=r'.length;exact len_tuple pl (by simp only[IB]<;>omega) ⟨.int ys.length,H,I.tok _,⟨s.toks+1,by rw[IB,hlen]⟩,q⟩
theorem oR:eD X (.builtin "len") (λxs H Q=>∃z,xs=[.str z]/\z.length<=L9/\Q (.int z.length) H):=by
 intro pins s σ H xs us Q I r h;obtain⟨z,rfl,hz,q⟩:=h;obtain⟨u,rfl,t,rfl⟩:=vals1 r;have hn:=jI;exact len_str ‹0› ⟨.int z.length,H,I.tok _,⟨_,rfl⟩,q⟩
theorem fX:eD X (.type "list") (λxs H Q=>∃p ys,xs=[.ref p]/\(ie X.K H p ys\/jD X.K H p ys)/\∀l,H l=none->Q (.ref l) (upd H l (.lst ys))):=by
 intro pins s σ H xs us Q I r h;obtain⟨p,ys,rfl,hq,q⟩:=h;obtain⟨u,rfl,rx⟩:=vals1 r;cases rx;have fin:∀(its:aQ),Vals ys its->ys.length<=L9->∀(h':L8)(c':Nat),(∀b o',s.heap.get? b=some o'->h'.get? b=some o')->
   h'.get? s.heap.objs.size=some {cls:=.type "list",dict:=none,data:=.seq its.toArray c',slots:=#[]}->EP X pins σ Q (.ref s.heap.objs.size) {s with heap:=h'}:=λits r' hz h' c' kp e=>
  ⟨.ref s.heap.objs.size,_,I.laid (t':=s.toks) kp (Iy _) (show cv X.prog X.w _ h' _ (.lst ys)from⟨hz,its,c',r',e⟩),rfl,q _ (I.hok.fresh (Iy _))⟩
 rcases hq with hq|hq
 ·obtain⟨its,r',pl,hz⟩:=I.list hq;have hlen:=r'.length;obtain⟨o,ho,hc,n,hd⟩:=pl.isList;exact call_list_seq p (.inl rfl) ho hc hd (λh' c' kp e=>fin its r' hz h' c' kp e) (by simp only[IB]<;>omega)
 ·obtain⟨its,r',pl,hz⟩:=I.tuple hq;have hlen:=r'.length;obtain⟨o,ho,hc,n,hd⟩:=pl;exact call_list_seq p (.inr rfl) ho hc hd (λh' c' kp e=>fin its r' hz h' c' kp e) (by simp only[IB]<;>omega)
theorem ig:eD X (.type "tuple") (λxs H Q=>∃p ys,xs=[.ref p]/\((ie X.K H p ys/\∀l,H l=none->Q (.ref l) (upd H l (.tup ys)))\/(jD X.K H p ys/\Q (.ref p) H))):=by
 intro pins s σ H xs us Q I r h;obtain⟨p,ys,rfl,h⟩:=h;obtain⟨u,rfl,rx⟩:=vals1 r;cases rx;rcases h with⟨hq,q⟩|⟨hq,q⟩
 ·obtain⟨its,r',pl,hz⟩:=I.list hq;have hlen:=r'.length;refine call_tuple_list pl.isList (λh' kp=>?_) (by simp only[IB]<;>omega);have I1:Inv X pins σ H {s with heap:=h'}:=I.kept (t':=s.toks) kp;have I2:Inv X pins σ (upd H h'.objs.size (.tup ys)) {s with heap:=h'.push {cls:=.type "tuple",data:=.seq its.toArray}}:=
   I1.laid (t':=s.toks) (λb o e=>Li _ e) (Iy _) (show cv X.prog X.w _ _ _ (.tup ys)from⟨hz,its,r',IsTup.new _ _⟩)
  exact⟨.ref h'.objs.size,_,I2,rfl,q _ (I1.hok.fresh (Iy _))⟩
 ·obtain⟨its,r',pl,hz⟩:=I.tuple hq;exact call_tuple_same pl ⟨.ref p,H,I,rfl,q⟩
noncomputable def Hc(K:Ky)(T:String)(x:V)(H:Hp):Prop:=match x with
 |.str _=>T="str"
 |.int _=>T="int"
 |.ref p=>(T="list"/\∃xs,ie K H p xs)\/(T="tuple"/\∃o,K.lookup p=some o/\o.cls=.type "tuple"/\o.dict=none) \/
   (T="dict"/\((∃kvs,H p=some (.dK kvs))\/∃kvs,H p=some (.dT kvs)))\/(T="set"/\∃S n,H p=some (.set S n))
 |_=>False
theorem Bq{pins:aV}{σ:St}{H:Hp}{s:LZ}{T:String}{x:V}{v:LU}(I:Inv X pins σ H s)(r:RelV x v)(ty:Hc X.K T x H):
  s.TypeIs v T/\∀a,v=.ref a->∃ob,s.heap.get? a=some ob/\ob.dict=none:=by
 cases x with
 |str z=>
  obtain⟨t,rfl⟩:=r;cases(show T="str"from ty);exact⟨typeIs_str s z t,λ_ e=>nomatch e⟩
 |int i=>
  obtain⟨t,rfl⟩:=r;cases(show T="int"from ty);exact⟨typeIs_int s i t,λ_ e=>nomatch e⟩
 |ref p=>
  cases r;rcases ty with⟨rfl,xs,hq⟩|⟨rfl,o,hk,hc,hd⟩|⟨rfl,hk⟩|⟨rfl,S,n,hk⟩
  ·obtain⟨its,_,pl,_⟩:=I.list hq;refine⟨pl.isList.typeIs,λa e=>?_⟩;cases e;obtain⟨o,n,e,c,hd,_⟩:=pl;exact⟨o,e,hd⟩
  ·refine⟨⟨o,I.kIn p o hk,hc⟩,λa e=>?_⟩;cases e;exact⟨o,I.kIn _ o hk,hd⟩
  ·have z:∃o,s.heap.get? p=some o/\o.ExactDict:=by
    rcases hk with⟨kvs,hk⟩|⟨kvs,hk⟩
    ·obtain⟨_,_,_,_,o,_,_,e,ex,_⟩:=I.hok p _ hk;exact⟨o,e,ex⟩
    ·obtain⟨_,_,_,_,o,_,_,e,ex,_⟩:=I.hok p _ hk;exact⟨o,e,ex⟩
   obtain⟨o,e,ex⟩:=z;refine⟨⟨o,e,ex.1⟩,λa e2=>?_⟩;cases e2;exact⟨o,e,ex.2.1⟩
  ·obtain⟨o,_,_,_,e,ex,_⟩:=I.hok p _ hk;refine⟨⟨o,e,ex.1⟩,λa e2=>?_⟩;cases e2;exact⟨o,e,ex.2.1⟩
 |_=>exact False.elim ty
noncomputable def Hq(K:Ky)(T:String)(r:V->aE->Hp->VK->Prop)(to:TE)(t:TA):TE:=λσ H Q=>to σ H λx H1=>Hc K T x H1/\t σ H1 λxs H2=>r x xs H2 Q
variable{o e:LX}{es:aZ}{to:TE}{t:TA}{name:Str}{apos cpos:Pos}{T id:String}{r:V->aE->Hp->VK->Prop}
theorem wt(pa:PlainAttrs T)(slot:Slot T name id)(hty:typeOf (.builtin id)=pure (.type "method_descriptor"))(hm:Gq X id r)(ho:PE X o to)(ha:PA X (e::es) t)
  (hbase:MG o name X.env (eval o X.env)=eval o X.env:=by rfl)
  (hfew:((backTo cpos (Mj (e::es) X.env)).all (fun x=>!x.1) && (backToKw cpos (MJ [] X.env)).all (fun x=>x.1.isSome)
   && decide ((e::es).length+([]:List M1).length+(if([]:List M1).isEmpty then 0 else 1)<30))=true:=by rfl)
  (hline:(apos.endLine==cpos.line)=true:=by rfl) (hs:Mj (e::es) X.env=(false,eval e X.env)::Mj es X.env:=by rfl) (hplain:(backTo cpos (Mj es X.env)).any (·.1)=false:=by rfl):
  PE X (.Call (.Attribute o name apos) (e::es) [] cpos) (Hq X.K T r to t):=by
 intro pins s σ H Q I h;refine wpAny_Call_method_late hbase hfew hline rfl (ca (ho pins s σ H _ I h) λv s1 ⟨x,H1,I1,r1,ty,q1⟩=>?_);obtain⟨h1,h2⟩:=Bq I1 r1 ty;refine⟨T,id,pa,slot,hty,h1,h2,?_⟩;have hA:=ha cpos pins s1 σ H1 _ I1 q1;rw[hs]at hA ⊢;refine Calls.callWith_builtin (by show(false||(backTo cpos (Mj es X.env)).any (·.1))=false;rw[hplain]<;>rfl) (Calls.evalArgs_plain ?_);exact ca hA λus s2 ⟨vs,H2,I2,r2,q2⟩=>hm pins s2 σ H2 x vs v us Q I2 r1 r2 q2
end
noncomputable def GH(X:Cx)(id:String)(r:V->aE->Hp->VK->Prop):Prop:=
 ∀(pins:aV)(s:LZ)(σ:St)(H:Hp)(x:V)(xs:aE)(v:LU)(us:aQ)(Q:VK),Inv X pins σ H s->RelV x v->Vals xs us->r x xs H Q->
  Mi (model X.prog X.w) X.A (call (.builtin id) (v::us)) (EP X pins σ Q) X.xe s
theorem Vals.one:∀{x:V}{us:aQ},Vals [x] us->∃u,us=[u]/\RelV x u
 |_,_,.cons r .nil=>⟨_,rfl,r⟩
theorem Vals.two{x y:V}{us:aQ}(h:Vals [x,y] us):∃u v,us=[u,v]/\RelV x u/\RelV y v:=by
 cases h with|cons r t=>
 obtain⟨v,rfl,q⟩:=Vals.one t;exact⟨_,_,rfl,r,q⟩
section
variable{X:Cx}{pins:aV}{σ:St}{H:Hp}{s:LZ}{l b:LW}{xs ys zs:aE}
theorem Inv.lset{its its':aQ}{n:Nat}{f:Array LU->Array LU}{t':Nat}(I:Inv X pins σ H s)(hH:H l=some (.lst xs))
  (e:s.heap.get? l=some {cls:=.type "list",data:=.seq its.toArray n}) (hf:f its.toArray=its'.toArray) (hv:Vals ys its') (hz:ys.length<=L9):
  Inv X pins σ (upd H l (.lst ys)) {s with heap:=s.heap.update l (Obj.mapSeq f),toks:=t'}:=by
 have q:=PySem.IsL.update e f;rw[hf]at q;refine I.write (x:=l) (e:=l) (by rw[hH];exact trivial) (.inl rfl) (λb' u hb hu=>(Heap.get?_update_other s.heap (Obj.mapSeq f) (Ne.symm hb)).trans hu) ⟨_,q⟩ ?_;exact⟨hz,its',_,hv,q⟩
theorem Inv.lnew{its:aQ}{t':Nat}(I:Inv X pins σ H s)(hv:Vals ys its)(hz:ys.length<=L9):
  Inv X pins σ (upd H s.heap.objs.size (.lst ys)) {s with heap:=s.heap.push {cls:=.type "list",data:=.seq its.toArray},toks:=t'}:=
 I.laid (λ_ _ q=>Li _ q) (Iy _) ⟨hz,its,0,hv,Lj _ rfl⟩
theorem Inv.fresh(I:Inv X pins σ H s):H s.heap.objs.size=none:=I.hok.fresh (Iy _)
theorem Inv.lstM(I:Inv X pins σ H s)(hH:H l=some (.lst xs)):xs.length<=L9/\∃(its:aQ)(n:Nat),Vals xs its/\xs.length=its.length/\s.heap.get? l=some {cls:=.type "list",data:=.seq its.toArray n}:=by
 obtain⟨z,its,n,r,e⟩:=I.hok l _ hH;exact⟨z,its,n,r,r.length,e⟩
end
section
variable{X:Cx}
noncomputable def sk:V->aE->Hp->VK->Prop:=λx vs H Q=>∃l xs y,x=.ref l/\vs=[y]/\H l=some (.lst xs)/\xs.length<L9/\Q .non (upd H l (.lst (xs++[y])))
theorem mG:GH X "list.append" sk:=by
 intro pins s σ H x vs v us Q I rx rv h;obtain⟨l,xs,y,rfl,rfl,hH,hz,q⟩:=h;cases rx;obtain⟨u,rfl,ru⟩:=rv.one;obtain⟨z,its,n,r,hl,e⟩:=I.lstM hH;refine call_meets F.slot_list_append ⟨_,e,rfl⟩ F.entry_list_append (F.args_list_append_2 _ _) (PySem.list_append l its.toArray n u (by rw[IB];omega)) ⟨e,?_⟩;refine⟨.non,_,I.lset (its':=its++[u]) hH e (by simp) (r.append (.cons ru .nil)) ?_,rfl,q⟩;rw[IZ,Jd];omega
end
end L2
namespace Att
open PySem PySem.W PySem.Calls PyProof.Rows
theorem kg{P:Params}{h:L8}:∀(ns:List Int)(vs:List LU),WellAll P h vs (ns.map WData.int)->IntsAre vs ns:=by
 intro ns
 induction ns with
 |nil=>
  intro vs w;rw[Je]at w;cases w;exact .nil
 |cons n ns ih=>
  intro vs w;rw[IG]at w;cases w with
  |cons a b=>
   cases a;exact .cons _ _ (ih _ b)
theorem vj{l:OpenLaw}{n:Nat}(hn:l.most=some n){P:Params}{h:L8}{args:List WData}{vals:List LU}
  (hpre:l.row.toRowW.claim.pre args=true) (hwl:WellAll P h vals args):
  ∃a vs ns,vals=[Value.ref a]/\args=[WData.list (ns.map WData.int)]/\h.get? a=some {cls:=.type "list",data:=.seq vs.toArray}/\IntsAre vs ns/\ns.length<=n:=by
 have hsh:WShape.hasAll [] args [.list .int]=true:=(pre_splitW hpre).1;have hc:l.pre.holds [] {args:=args}=true:=(pre_splitW hpre).2;obtain⟨d,r,rfl,h1,h2⟩:=hasAllW_cons hsh;obtain rfl:=hasAllW_nil h2;obtain⟨xs,rfl,h3⟩:=hasW_list h1;obtain⟨ns,rfl⟩:=items_int h3;have hlen:ns.length<=n:=by
  unfold OpenLaw.pre at hc;have h4:(WTm.not (.lt (.lit (.int (n:Int))) (.len (.arg 0)))).holds [] {args:=[.list (ns.map .int)]}=true:=by
   have h4:=(holds_andW hc).1;rw[hn]at h4;exact h4
  have h5:=condW_of h4 (w_not (w_lt w_lit (w_len_list (w_arg rfl))));rw[IH]at h5;refine Nat.le_of_not_lt λq=>?_;have q':(n:Int)<((ns.length:Nat):Int):=by omega
  first
   |(rw[decide_eq_true q']at h5;exact absurd h5 (by decide))
   |(simp at h5;omega)
 cases hwl with
 |cons w1 w2=>
  cases w2;cases w1 with
  |list ho hall=>exact⟨_,_,ns,rfl,rfl,ho,kg ns _ hall,hlen⟩
theorem uV(l:OpenLaw)(args:List WData):l.row.toRowW.claim.post args (.bool true) args=true:=
 postW_of (r:=l.row.toRowW) (X:=(true==true))
  (show WShape.has [] (.bool true) .bool=true by first|rfl|decide|simp[WShape.has,WShape.arms,WShape.armsAll])
  (show(WTm.eq .res (.lit (.bool true))).value [] {args:=args,res:=some (.bool true),after:=args}=some (.bool (true==true))from w_eq_bool (w_res rfl) w_lit) rfl
theorem AW{l:OpenLaw}{n:Nat}{q:L7}{loose:List Str}{XP:(Str->Option LU)->L8->Prop}{YP:L6->L8->Prop}{d:DefRec}
  (hn:l.most=some n) (hdf:d.params.defaults=[])
  (call:∀ (w:L6) (s₀ s₁:LZ) (mg mb:Str->Option LU) (fa:LW) (o:Obj) (pm cd doc:LU) (a:LW) (vs:List LU) (ns:List Int),
   Ground q loose [] XP w s₀ mg mb s₁.heap->YP w s₁.heap->
   s₁.heap.get? fa=some o->o.data=.func (docDef d.name d.params d.body d.scope pm cd doc)->s₁.heap.CodeRec cd d.name->mg d.name=some (.ref fa)->
   s₁.heap.get? a=some {cls:=.type "list",data:=.seq vs.toArray}->IntsAre vs ns->ns.length<=n->s₁.gens=#[]->
   MF (model l.prog w) callerA (.call (.ref fa) ⟨[.ref a],[]⟩) (λr s'=>r=.ok (.ret (.bool true))/\OldK s₁.heap s'.heap/\s'.os=s₁.os/\AllBare s'.gens) s₁):
  WalkO q loose XP YP l.row.toRowW d [] (λf vs=>PySem.call f vs):=by
 intro w s₀ s₁ mg mb G Y fa o pm cd doc dV kV ho hd hcd hD hmg hg args vals as hpre hlay hrd hwl hlo;obtain rfl:dV=.none:=Dflts.none hD hdf;obtain rfl:kV=.none:=Dflts.noKw hD;obtain⟨a,vs,ns,rfl,rfl,hobj,hints,hlen⟩:=vj hn hpre hwl;refine enter_call (MO (call w s₀ s₁ mg mb fa o pm cd doc a vs ns G Y ho (fd_plain hd) hcd hmg hobj hints hlen hg) λr s' hq=>?_);obtain⟨rfl,h2,h3,h4⟩:=hq;exact⟨.inl ⟨.bool true,.bool true,[],rfl,λ_=>rfl,.bool true,uV l _,λ_=>⟨List.Pairwise.nil,λ_ hm=>(nomatch hm)⟩⟩,h2,h3,h4⟩
section
variable{prog:L7}{w:L6}{A:Mf}{E:LU->LZ->Prop}{s:LZ}{K:Frag}
end
end Att
namespace L2
open PySem PySem.Spec PyProof.Rows
theorem mH:∀{vs:aQ}{ns:List Int},IntsAre vs ns->Vals (ns.map V.int) vs
 |_,_,.nil=>.nil
 |_,_,.cons n t h=>.cons ⟨t,rfl⟩ (mH h)
noncomputable def Only(H:Hp):Prop:=∀b,H b=none\/∃o xs,H b=some (.frz o (.lst xs))
theorem vX{P:L7}{w:L6}{K:Ky}{mg mb:bK}{CX:qM}{k:Nat}{fa a:LW}{fd:ML}{x:Str}{sp:Sp}{s₁:LZ}{vs:aQ}{ns:List Int}
  (KX:K.In s₁.heap) (hns:s₁.heap.Ns Mb mg) (hb:s₁.heap.Ns builtinsNs mb) (hbb:∀x:Str,x≠"__name__"->mb x=Md x) (hlim:s₁.heap.NoLimit) (hg:s₁.gens=#[])
  (ha:s₁.heap.get? a=some {cls:=.type "list",data:=.seq vs.toArray}) (hi:IntsAre vs ns) (hl:ns.length<=L9) (hr:dI k callerA)
  (F:∀base:L8,K.In base->base.Ns Mb mg->eh P w K mg base CX k fa fd [x] sp) (hbind:∀(s:LZ)(u:LU),MM s fd ⟨[u],[]⟩ [(x,u)])
  (hsp:∀H:Hp,Only H->ie K H a (ns.map V.int)->sp [.ref a] H (λv _=>v=.bl true) λ_ _ _=>False)
  (hCX:∀H e s',CX [] H s₁ (λ_ _ _=>False) e s'->False):
  MF (model P w) callerA (.call (.ref fa) ⟨[.ref a],[]⟩) (λr s'=>r=.ok (.ret (.bool true))/\OldK s₁.heap s'.heap/\s'.os=s₁.os/\AllBare s'.gens) s₁:=by
 have rv:=mH hi;have lenV:=hi.length;have core:∀H:Hp,Only H->ie K H a (ns.map V.int)->mz P w H s₁.heap->(∀b,H b≠none->b=a)->(H a≠none->K.lookup a=none)->
   MF (model P w) callerA (.call (.ref fa) ⟨[.ref a],[]⟩) (λr s'=>r=.ok (.ret (.bool true))/\OldK s₁.heap s'.heap/\s'.os=s₁.os/\AllBare s'.gens) s₁:=by
  intro H hO hS hok hA hK;have base_of:∀{b:LW}{o:Obj},s₁.heap.get? b=some o->H b=none->(hZ s₁.heap H).get? b=some o:=λe n=>lw e n;have noA:∀{b:LW}{o:Obj}{es:Array DictEntry}{ep:Nat},s₁.heap.get? b=some o->o.data=.dict es ep->H b=none:=λ{b o es ep} e d=>by
   cases q:H b with
   |none=>rfl
   |some u=>
    have e':b=a:=hA b (by rw[q];simp);subst e';rw[ha]at e;cases e;have d':Data.seq vs.toArray _=Data.dict es ep:=d;cases d'
  have nsK:∀{b:LW}{m:bK},s₁.heap.Ns b m->(hZ s₁.heap H).Ns b m:=λ{b m} ⟨o,es,ep,e,d,r⟩=>⟨o,es,ep,base_of e (noA e d),d,r⟩
  have hKb:K.In (hZ s₁.heap H):=λb o e=>base_of (KX b o e) (by
   cases q:H b with
   |none=>rfl
   |some u=>
    have e':b=a:=hA b (by rw[q];simp);subst e';rw[hK (by rw[q];simp)]at e;cases e)
  have hM:Mod K mg (hZ s₁.heap H):=⟨hKb,nsK hns,⟨mb,nsK hb,hbb⟩,let ⟨mc,h1,h2⟩:=hlim;⟨mc,nsK h1,h2⟩⟩
  have e0:ua P w K mg (hZ s₁.heap H) callerA [] s₁ H:=⟨rfl,hM,λb o e=>i7 e,II (uQ _ _),trivial,λb hb=>absurd (show b∈([]:aA)from hb) (by simp),hok,.of_eq hg⟩
  refine MO ((F _ hKb (nsK hns)).run callerA [] s₁ H ⟨[.ref a],[]⟩ [.ref a] [.ref a] _ _ hr e0 (hbind s₁ (.ref a)) (.cons rfl .nil) (hsp H hO hS)) λr s' h=>?_;cases r with
  |error e=>exact(hCX H e s' h).elim
  |ok fl=>
   cases fl with
   |next=>exact False.elim h
   |brk=>exact False.elim h
   |cont=>exact False.elim h
   |ret u=>
    obtain⟨v,H',os,bare,un,hok',r',q⟩:=h;have q':v=.bl true:=q;subst q';obtain rfl:u=Value.bool true:=r';refine⟨rfl,OldK.of_keep λb o e=>?_,os,bare⟩;cases q:H b with
    |none=>exact un.keep b o e q (by intro z;exact absurd (show b∈([]:aA)from z) (by simp)) (by simp)
    |some u=>
     rcases hO b with z|⟨ob,xs,z⟩
     ·rw[q]at z;cases z
     ·have z2:=un.frzs b ob _ z;obtain⟨e1,_⟩:=hok b _ z;obtain⟨e2,_⟩:=hok' b _ z2;rw[e]at e1;cases e1;exact e2
 cases hk:K.lookup a with
 |some o=>
  have e:=KX a o hk;rw[ha]at e;cases e;refine core (λ_=>none) (λ_=>.inl rfl) (.inr ⟨_,vs.toArray,_,hk,rfl,rfl,rfl,by rw[IB,lenV];exact hl,by simpa using rv⟩) (λb u z=>by have z':(none:Option HO)=some u:=z;cases z') (λb z=>absurd rfl z) λz=>absurd rfl z
 |none=>
  refine core (λb=>if b=a then some (.frz {cls:=.type "list",data:=.seq vs.toArray} (.lst (ns.map V.int)))else none) (λb=>?_) (.inl (.inr ⟨{cls:=.type "list",data:=.seq vs.toArray},if_pos rfl⟩)) (λb u z=>?_) (λb z=>?_) λ_=>hk
  ·by_cases hb:b=a
   ·exact .inr ⟨_,_,if_pos hb⟩
   ·exact .inl (if_neg hb)
  ·by_cases hb:b=a
   ·have z':=(if_pos hb).symm.trans z;cases z';subst hb;exact⟨ha,by rw[IH];exact hl,vs,_,rv,ha⟩
   ·have z':=(if_neg hb).symm.trans z;cases z'
  ·by_cases hb:b=a
   ·exact hb
   ·exact absurd (if_neg hb) z
theorem Fb{l:K1}{n k:Nat}{q:L7}{loose:al}{XP:(bK)->L8->Prop}{YP:L6->L8->Prop}{d:DefRec}{K:Params->Ky}{CX:L6->qM}{sp:L6->Sp}{x:Str}
  (hn:l.most=some n) (hn2:n<=L9) (hdf:d.params.defaults=[]) (hr:dI k callerA)
  (hY:∀(w:L6)(h:L8),YP w h->(K w.params).In h)
  (F:∀ (w:L6) (mg:bK) (fa:LW) (h:L8),(K w.params).In h->h.Ns Mb mg->mg d.name=some (.ref fa) ->
   ∃fd:ML,(∀(s:LZ)(u:LU),MM s fd ⟨[u],[]⟩ [(x,u)])/\
    ∀base:L8,(K w.params).In base->base.Ns Mb mg->eh l.prog w (K w.params) mg base (CX w) k fa fd [x] (sp w))
  (hsp:∀(w:L6)(H:Hp)(a:LW)(ns:List Int),ns.length<=n->Only H->ie (K w.params) H a (ns.map V.int)->sp w [.ref a] H (λv _=>v=.bl true) λ_ _ _=>False)
  (hCX:∀(w:L6)(H:Hp)(s:LZ)(e:LU)(s':LZ),CX w [] H s (λ_ _ _=>False) e s'->False):
  PySem.W.WalkO q loose XP YP l.row.toRowW d [] (λf vs=>PySem.call f vs):=by
 refine Att.AW hn hdf λw s₀ s₁ mg mb fa o pm cd doc a vs ns G Y ho hd hcd hmg hobj hints hlen hg=>?_;have KX:=hY w _ Y;obtain⟨fd,hb,hF⟩:=F w mg fa _ KX G.T.g hmg;exact vX KX G.T.g G.T.b G.T.builtins G.T.nolimit hg hobj hints (Ii hlen hn2) hr hF hb (λH hO hS=>hsp w H a ns hlen hO hS) λH e s'=>hCX w H s₁ e s'
noncomputable def inClass(s:LY)(j:Nat):LY:=match s with
 |.ClassDef _ _ _ body _ _ _ _ _ _ _=>body.getD j (.Pass ⟨0,0,0,0⟩)
 |_=>.Pass ⟨0,0,0,0⟩
noncomputable def fE(s:LY):Arguments:=match s with
 |.FunctionDef _ a _ _ _ _ _ _ _ _=>a
 |_=>{posonlyargs:=[],args:=[],vararg:=none,kwonlyargs:=[],kw_defaults:=[],kwarg:=none,defaults:=[]}
noncomputable def cO(s:LY):cH:=match s with
 |.FunctionDef _ _ b _ _ _ _ _ _ _=>b
 |_=>[]
noncomputable def aH(s:LY):Mg:=match s with
 |.FunctionDef _ _ _ _ _ _ sc _ _ _=>sc
 |_=>{kind:=.function,names:=[],isGenerator:=false,isCoroutine:=false}
noncomputable abbrev DT:qM:=λ_ _ _ _ _ _=>False
noncomputable abbrev E0:XK:=λ_ _ _=>False
structure pZ(K:Ky)(x qual:Str)(st:LY)(f:LW)(fd:ML):Prop where
 ex:∃(oc:LU)(od:Option LW)(kV doc pm:LU)(an:Option LW)(cdv ct:LU)(osl:Array (Option LU)),
  fd=KY x qual (fE st) (cO st) (aH st) .none kV doc pm an cdv ct/\K.lookup f=some ⟨oc,od,.func fd,osl⟩/\KZ K cdv qual=true
 kp:KS K (.ref f)=true
section
variable{P:L7}{w:L6}{K:Ky}{mg:bK}{base:L8}
theorem pZ.ok{x qual:Str}{st:LY}{f:LW}{fd:ML}{N ps:al}{k:Nat}{sp:Sp}(F:pZ K x qual st f fd)(S:cC N ps (aH st))(len:∀vs H Q E,sp vs H Q E->vs.length=ps.length)
  (hbody:∀ (cdv:LU) (A:Mf) (outer:List Env) (s:LZ) (H:Hp) (vs:aE) (Q:VK) (E:XK),dI k (A.deeper (envOfC qual (aH st) s.heap.objs.size f cdv))->sp vs H Q E ->
   ∃t,mR (gd DT P w K mg base N qual (aH st) f cdv A outer s H E).nox (cO st) t/\t {nx:=λ_ H'=>Q .non H',rt:=Q} (start N vs) H):eh P w K mg base DT (k+1) f fd ps sp:=by
 obtain⟨oc,od,kV,doc,pm,an,cdv,ct,osl,rfl,lk,hcd⟩:=F.ex;refine Bf lk hcd S len λA outer s H vs Q E hr hsp=>?_;obtain⟨t,h,q⟩:=hbody cdv A outer s H vs Q E hr hsp;exact⟨t,h.nox,q⟩
theorem pZ.binds{x qual:Str}{st:LY}{f:LW}{fd:ML}{ps:al}(F:pZ K x qual st f fd)
  (h:∀(kV doc pm:LU)(an:Option LW)(cdv ct:LU)(us:aQ),us.length=ps.length->bindArgs (KY x qual (fE st) (cO st) (aH st) .none kV doc pm an cdv ct) ⟨us,[]⟩=pure (ps.zip us)):Binds K fd ps []:=by
 obtain⟨oc,od,kV,doc,pm,an,cdv,ct,osl,rfl,lk,hcd⟩:=F.ex;exact .all (h kV doc pm an cdv ct)
theorem jV{x qual:Str}{st:LY}{f:LW}{oc:LU}{od an:Option LW}{osl:Array (Option LU)}{kV doc pm cdv ct:LU}(l:K.lookup f=some ⟨oc,od,.func (KY x qual (fE st) (cO st) (aH st) .none kV doc pm an cdv ct),osl⟩)
  (c:KZ K cdv qual=true) (k:KS K (.ref f)=true):pZ K x qual st f (KY x qual (fE st) (cO st) (aH st) .none kV doc pm an cdv ct):=⟨⟨oc,od,kV,doc,pm,an,cdv,ct,osl,rfl,l,c⟩,k⟩
end
section
variable{X:Cx}
theorem pv(i:Nat){x:Str}{pos:Pos}(hN:X.N[i]?=some x:=by rfl)(hv:Bp X.env.scope x:=by first|exact Or.inl rfl|exact Or.inr (Or.inl rfl)|exact Or.inr (Or.inr rfl))(hd:(x==("__debug__":Str))=false:=by decide)
  (hcd:(x==("__classdict__":Str))=false:=by decide):PE X (.Name x pos) (lV i):=Ci hN hv hd hcd
end
theorem o4{A B:Prop}(h:B):if false=true then A else B:=by
 rw[if_neg Iu];exact h
theorem pD{A B:Prop}(h:A):if true=true then A else B:=by
 rw[if_pos rfl];exact h
noncomputable def aS(H H':Hp):Prop:=∀b o,H b=some o->H' b=some o
theorem aS.refl(H:Hp):aS H H:=λ_ _ h=>h
theorem aS.trans{H H1 H2:Hp}(a:aS H H1)(b:aS H1 H2):aS H H2:=λc o h=>b c o (a c o h)
theorem aS.free{H H':Hp}(e:aS H H'){l:LW}(h:H' l=Option.none):H l=Option.none:=by
 cases q:H l with
 |none=>rfl
 |some o=>
  rw[e l o q]at h;cases h
theorem aS.seq{K:Ky}{H H':Hp}{a:LW}{xs:aE}(e:aS H H')(h:ie K H a xs):ie K H' a xs:=by
 rcases h with(h|⟨o,h⟩)|h
 ·exact .inl (.inl (e _ _ h))
 ·exact .inl (.inr ⟨o,e _ _ h⟩)
 ·exact .inr h
section
variable{X:Cx}{pins:aV}{σ:St}{H:Hp}{s:LZ}{a:LW}{y v:V}{u r:LU}{o:Option V}{A:Mf}{E:bx}
end
noncomputable def cm(cells:jA):lP->jA->jA
 |[],acc=>acc
 |(n,k)::r,acc=>if k=.free then(match cells.lookup n with|some c=>cm cells r ((n,c)::acc)|none=>cm cells r acc)else cm cells r acc
theorem gS{cells:jA}:∀(names:lP)(acc:jA),(∀x c,acc.lookup x=some c->cells.lookup x=some c)->
  ∀x c,(cm cells names acc).lookup x=some c->cells.lookup x=some c
 |[],acc,h=>h
 |(n,k)::r,acc,h=>by
  unfold cm;by_cases hk:k=.free
  ·rw[if_pos hk];cases e:cells.lookup n with
   |none=>exact gS r acc h
   |some c0=>
    refine gS r _ λx c q=>?_;rw[Jf]at q;cases hx:x==n with
    |true=>
     rw[hx]at q;have e1:x=n:=(by simpa using hx);cases q;rw[e1];exact e
    |false=>rw[hx]at q;exact h x c q
  ·rw[if_neg hk];exact gS r acc h
theorem fD{cells:jA}:∀(names:lP)(acc:jA)(x:Str),(acc.lookup x).isSome=true->((cm cells names acc).lookup x).isSome=true
 |[],acc,x,h=>h
 |(n,k)::r,acc,x,h=>by
  unfold cm;by_cases hk:k=.free
  ·rw[if_pos hk];cases e:cells.lookup n with
   |none=>exact fD r acc x h
   |some c0=>
    refine fD r _ x ?_;rw[Jf];cases hx:x==n with
    |true=>rfl
    |false=>exact h
  ·rw[if_neg hk];exact fD r acc x h
theorem eW{cells:jA}:∀(names:lP)(acc:jA)(x:Str),(x,NameKind.free)∈names->(∃c,cells.lookup x=some c)->((cm cells names acc).lookup x).isSome=true
 |[],acc,x,h,_=>absurd h (by simp)
 |(n,k)::r,acc,x,h,hc=>by
  unfold cm;rcases List.mem_cons.mp h with e|h
  ·cases e;rw[if_pos rfl];obtain⟨c,e⟩:=hc;rw[e];refine fD r _ _ ?_;rw[Jf];simp
  ·by_cases hk:k=.free
   ·rw[if_pos hk];cases e:cells.lookup n with
    |none=>exact eW r acc x h hc
    |some c0=>exact eW r _ x h hc
   ·rw[if_neg hk];exact eW r acc x h hc
theorem jk{scope:Mg}{env:Env}(h:∀p∈scope.names,p.2=.free->∃c,env.cells.lookup p.1=some c):closureFor scope env=pure (cm env.cells scope.names []):=by
 have go:∀(names:lP)(acc:jA),(∀p∈names,p.2=.free->∃c,env.cells.lookup p.1=some c)->
   (forIn names acc λx cs=>(match x with|(name,kind)=>if(kind==NameKind.free)=true then do let a<-cellOf env name;pure (ForInStep.yield ((name,a)::cs))else pure (ForInStep.yield cs):Sem (ForInStep jA)))=pure (cm env.cells names acc):=by
  intro names
  induction names with
  |nil=>intro acc _;rfl
  |cons p r ih=>
   intro acc hp;obtain⟨n,k⟩:=p;rw[Jg];by_cases hk:k=.free
   ·obtain⟨c,e⟩:=hp (n,k) Il hk;subst hk;have e2:cellOf env n=pure c:=(by unfold cellOf;rw[e]);simp only[beq_self_eq_true,if_true,e2,pure_bind];rw[ih _ λq hq=>hp q (Im _ hq)]
    conv=>rhs;rw[cm]
    simp[e]
   ·have hb:(k==NameKind.free)=false:=(by simpa using hk);simp only[hb,Jh,if_false,pure_bind];rw[ih _ λq hq=>hp q (Im _ hq)]
    conv=>rhs;rw[cm,if_neg hk]
 have:=go scope.names [] h
 unfold closureFor;simp only[];rw[this];rfl
noncomputable def bF(X:Cx)(scope:Mg)(N:al)(cl:jA)(C:LW)(fp:aA)(s:LZ)(H:Hp)(E:bx):Cx where
 prog:=X.prog
 w:=X.w
 K:=X.K
 mg:=X.mg
 base:=X.base
 A:=X.A
 N:=N
 s₀:=s
 H₀:=H
 env:=compEnvC scope cl C X.env
 outer:=X.stack
 stack:=X.stack
 ex:=fp
 fn:=λ_=>false
 calm:=X.calm
 pn:=[]
 xe:=E
noncomputable def oF(XN N:al)(names:lP)(ix:dL):Bool:=
 decide (ix.length=N.length)&&(N.zip ix).all λp=>match p.2 with
  |some i=>decide (XN[i]?=some p.1)&&decide (names.lookup p.1=some .free)
  |none=>true
noncomputable def inBlock(ix:dL)(σ:St):St:=ix.map λo=>match o with
 |some i=>(σ[i]?).getD none
 |none=>none
theorem oF.len{XN N:al}{names:lP}{ix:dL}(h:oF XN N names ix=true):ix.length=N.length:=by
 unfold oF at h;rw[Jb]at h;exact of_decide_eq_true h.1
theorem oF.at_{XN N:al}{names:lP}{ix:dL}(h:oF XN N names ix=true){j i:Nat}{x:Str}(h1:N[j]?=some x)(h2:ix[j]?=some (some i)):XN[i]?=some x/\names.lookup x=some .free:=by
 unfold oF at h;rw[Jb]at h;have hm:(x,some i)∈N.zip ix:=by
  have e:(N.zip ix)[j]?=some (x,some i):=by rw[List.getElem?_zip_eq_some];exact⟨h1,h2⟩
  exact IY e
 have q:=List.all_eq_true.mp h.2 _ hm;simp only[Jb]at q;exact⟨of_decide_eq_true q.1,of_decide_eq_true q.2⟩
theorem gG{env:Env}:∀{names:lP}{x:Str}{k:LV},
  (names.map λ(n,k)=>if(k==NameKind.free&&env.scope.kind==.function&&env.kindOf n==some .cell)then(n,NameKind.cell)else(n,k)).lookup x=some k->
  names.lookup x=some k\/(names.lookup x=some .free/\k=.cell)
 |[],_,_,h=>by simp at h
 |(n,k0)::r,x,k,h=>by
  have ih:=@gG env r x k
  replace h:List.lookup x ((if(k0==NameKind.free&&env.scope.kind==.function&&env.kindOf n==some .cell)=true then(n,NameKind.cell)else(n,k0))::(r.map λ(n,k)=>if(k==NameKind.free&&env.scope.kind==.function&&env.kindOf n==some .cell)then(n,NameKind.cell)else(n,k)))=some k:=h
  by_cases hc:(k0==NameKind.free&&env.scope.kind==.function&&env.kindOf n==some .cell)=true
  ·rw[if_pos hc]at h;have hk0:k0=.free:=by
    simp only[Jb]at hc
    simpa using hc.1.1
   cases hx:x==n with
   |true=>
    simp only[Jf,hx]at h;simp only[Jf,hx];cases h;exact .inr ⟨by rw[hk0],rfl⟩
   |false=>
    simp only[Jf,hx]at h ⊢;exact ih h
  ·rw[if_neg hc]at h;cases hx:x==n with
   |true=>
    simp only[Jf,hx]at h ⊢;exact .inl h
   |false=>
    simp only[Jf,hx]at h ⊢;exact ih h
noncomputable def Cq(X:Cx)(ifs:aZ)(t:TT):Prop:=
 ∀(pins:aV)(s:LZ)(σ:St)(H:Hp)(Q:Bool->Hp->Prop),Inv X pins σ H s->t σ H Q->
  Mi (model X.prog X.w) X.A (forIn ifs true λc r=>if r=true then do let ok<-isTrue c X.env (eval c X.env);pure (ForInStep.yield ok)else pure (ForInStep.yield r)) (TP X pins σ Q) X.xe s
noncomputable def Do:TT:=λ_ H Q=>Q true H
theorem As{X:Cx}:Cq X [] Do:=λ_ _ _ H _ I h=>wpAny_tests_nil ⟨H,I,h⟩
theorem Ak{X:Cx}{c:LX}{t:TT}(h:PT X c t):Cq X [c] t:=λpins s σ H Q I q=>wpAny_tests_one (h pins s σ H Q I q)
theorem gH{prog:L7}{w:L6}{A:Mf}{R:ME->gb}{s:LZ}{elt target iter:LX}{ifs:aZ}{scope:Mg}{pos:Pos}{it acc:LU}{env:Env}(I:Nat->gb)
  (turn:∀ n s,I n s->Mi (model prog w) A (pyNext it) (fun r s₁=>match r with
   |none=>R (.ok .next) s₁
   |some v=>Mi (model prog w) A (letOwnedTupleGo target it v) (λ_ s₁'=>Mi (model prog w) A (assign target env v) (λ_ s₂=>
     Mi (model prog w) A (forIn ifs true λc r=>if r=true then do let ok<-isTrue c env (eval c env);pure (ForInStep.yield ok)else pure (ForInStep.yield r)) (λok s₃=>
      if ok=true then Mi (model prog w) A (eval elt env) (λx s₄=>
       Mi (model prog w) A (call (.builtin "list.append") [acc,x]) (λ_ s₅=>∃m,m<n/\I m s₅) (notedBy (model prog w) A env λe s'=>R (.error e) s') s₄) (notedBy (model prog w) A env λe s'=>R (.error e) s') s₃
      else∃m,m<n/\I m s₃) (notedBy (model prog w) A env λe s'=>R (.error e) s') s₂) (notedBy (model prog w) A env λe s'=>R (.error e) s') s₁') (notedBy (model prog w) A env λe s'=>R (.error e) s') s₁) (notedBy (model prog w) A env λe s'=>R (.error e) s') s)
  (n:Nat) (h:I n s):
  MF (model prog w) A (.compLoop (.ListComp elt [⟨target,iter,ifs,0⟩] scope pos) 0 it acc env) R s:=by
 refine codeAny_loop rfl I (λn s hI=>?_) n h;show Mi _ A ((compTurn (.ListComp elt [⟨target,iter,ifs,0⟩] scope pos) 0 it acc env).onRaise (λx=>do noteFrame x env;theTreesLotGoes x)) _ _ s;refine wpAny_noted ?_;rw[compTurn_list];refine Mw (M2 (Mw (Ml (turn n s hI) (λr s₁ h₁=>?_) λ_ _ h'=>h')));cases r with
 |none=>exact Mv h₁
 |some v=>
  refine Mw (Ml h₁ (λ_ s₁' h₁'=>?_) λ_ _ h'=>h');refine Mw (Ml h₁' (λ_ s₂ h₂=>Mw (Ml h₂ (λok s₃ h₃=>?_) λ_ _ h'=>h')) λ_ _ h'=>h');cases ok with
  |false=>exact Mv ⟨rfl,h₃⟩
  |true=>
   exact Mw (Mw (Ml h₃ (λx s₄ h₄=>Mw (Ml h₄ (λ_ s₅ h₅=>Mv (Mv ⟨rfl,h₅⟩)) λ_ _ h'=>h')) λ_ _ h'=>h'))
noncomputable def Ep(wi:TI)(g:TG)(tc:TT)(te:TE)(ix:dL):TE:=λσ H Q=>
 wi σ H λJ H1=>∀D,H1 D=none->∃W:Nat->Nat->St->Hp->Prop,(∃m,W 0 m (inBlock ix σ) (upd H1 D (.lst [])))/\
  ∀i m σ' H',W i m σ' H'->(J.stop i H'/\Q (.ref D) H') \/
   (J.go i H'/\∀ x H2,J.yld i H' x H2->g x σ' H2 fun σ3 H3=>tc σ3 H3 fun b H4 =>
    if b=true then te σ3 H4 λv H5=>∃acc,H5 D=some (.lst acc)/\acc.length<L9/\∃m',m'<m/\W (i+1) m' σ3 (upd H5 D (.lst (acc++[v])))
    else∃m',m'<m/\W (i+1) m' σ3 H4)
section
variable{X:Cx}{elt tg iter:LX}{ifs:aZ}{scope:Mg}{pos:Pos}{N:al}{ix:dL}{wi:TI}{g:TG}{tc:TT}{te:TE}
theorem kZ{pins:aV}{σ:St}{s2:LZ}{H2:Hp}{it:LW}{fp:aA}{tn:Nat->L8->Prop}{J:It}{Q:V->Hp->Prop}{E:bx}{RR:LU->LW->ME->gb}
    (hc:X.calm=true) (hcell:∀y∈scope.names,y.2≠.cell) (hkind:scope.kind=.function)
    (hfr:∀y∈scope.names,y.2=.free->X.env.scope.names.lookup y.1=some .cell\/X.env.scope.names.lookup y.1=some .free)
    (hix:oF X.N N scope.names ix=true)
    (hb:∀cl C fp s H E,PG (bF X scope N cl C fp s H E) tg g/\Cq (bF X scope N cl C fp s H E) ifs tc/\PE (bF X scope N cl C fp s H E) elt te)
    (I2:Inv X pins σ H2 s2) (T:Turn X.prog X.w X.K tg J fp it tn) (st2:tn 0 s2.heap) (f2:∀b∈fp,mx X pins H2 b)
    (q:∀ D,H2 D=none->∃ W:Nat->Nat->St->Hp->Prop,(∃ m,W 0 m (inBlock ix σ) (upd H2 D (.lst []))) /\
      ∀i m σ' H',W i m σ' H'->(J.stop i H'/\Q (.ref D) H') \/
        (J.go i H'/\∀ x H3,J.yld i H' x H3->g x σ' H3 fun σ3 H3=>tc σ3 H3 fun b H4 =>
          if b=true then te σ3 H4 λv H5=>∃acc,H5 D=some (.lst acc)/\acc.length<L9/\∃m',m'<m/\W (i+1) m' σ3 (upd H5 D (.lst (acc++[v])))
          else∃m',m'<m/\W (i+1) m' σ3 H4))
    (hRR:∀D C H' s' m,H2 D=none->s2.heap.objs.size<=C->H' C=none->s'.heap.Ns C m->(∀h',Lh C s'.heap h'->Inv X pins σ H' {s' with heap:=h'})->Q (.ref D) H'->RR (.ref D) C (.ok .next) s'):
    Mi (model X.prog X.w) X.A (newList []) (λacc s₃=>Mi (model X.prog X.w) X.A (newFunctionEnv scope X.env.globals (cm X.env.cells scope.names []) [] X.env.qual none .none (some X.env)) (λcenv s₄=>
      MF (model X.prog X.w) X.A (.compStart (.ListComp elt [⟨tg,iter,ifs,0⟩] scope pos) 0 (.ref it) acc {cenv with scope:=relabel scope X.env}) (RR acc cenv.locals) s₄) E s₃) E s2:=by
  refine M0 (wpAny_newFunctionEnv hcell (by intro y hy;simp at hy) (λh₁ hns₁ hsb₁=>?_) hkind);dsimp only at hns₁ hsb₁ ⊢;have I3:Inv X pins σ (upd H2 s2.heap.objs.size (.lst [])) {s2 with heap:=s2.heap.push {cls:=.type "list",dict:=none,data:=.seq ([]:aQ).toArray},toks:=s2.toks}:=I2.lnew (its:=[]) (t':=s2.toks) .nil (IK _);generalize hs3:({s2 with heap:=s2.heap.push {cls:=.type "list",dict:=none,data:=.seq ([]:aQ).toArray},toks:=s2.toks}:LZ)=s3 at I3;have eh3:s2.heap.push {cls:=.type "list",dict:=none,data:=.seq ([]:aQ).toArray}=s3.heap:=by rw[<-hs3]
  rw[eh3]at hns₁ hsb₁ ⊢;have hC3:s3.heap.objs.size=s2.heap.objs.size+1:=by rw[<-eh3,Ln]
  have hD:H2 s2.heap.objs.size=none:=I2.fresh;obtain⟨W,⟨m0,w0⟩,turn⟩:=q s2.heap.objs.size hD;generalize hH3:upd H2 s2.heap.objs.size (.lst [])=H3 at I3 w0;have old:∀b o,s3.heap.get? b=some o->h₁.get? b=some o:=λb o e=>hsb₁.extBut b o (Ih (Lf e)) (Li _ e);have fpH3:∀b∈fp,H3 b=none:=λb hb'=>by
    rw[<-hH3,au]
    ·exact(f2 b hb').1
    · obtain⟨o,e,_⟩:=T.obj _ _ st2 b hb'
      exact Ih (Lf e)
  have fpLt:∀b∈fp,b<s3.heap.objs.size:=λb hb'=>by
    obtain⟨o,e,_⟩:=T.obj _ _ st2 b hb';rw[hC3];exact Nat.lt_succ_of_lt (Lf e)
  have hfree:∀p∈scope.names,p.2=.free->∃c,X.env.cells.lookup p.1=some c:=λp hp hk=>I2.ok.has p.1 (hfr p hp hk);have csub:∀x c,(cm X.env.cells scope.names []).lookup x=some c->X.env.cells.lookup x=some c:=gS scope.names [] (λx c e=>by simp at e);have names':∀x k,(relabel scope X.env).names.lookup x=some k->scope.names.lookup x=some k\/(scope.names.lookup x=some .free/\k=.cell):=λx k h=>gG h;have ok:(bF X scope N (cm X.env.cells scope.names []) s3.heap.objs.size fp s3 H3 (notedBy (model X.prog X.w) X.A (compEnvC scope (cm X.env.cells scope.names []) s3.heap.objs.size X.env) λe s'=>RR (.ref s2.heap.objs.size) s3.heap.objs.size (.error e) s')).Ok:=
    { mod:=I3.ok.mod
      kind:=hkind
      glob:=I3.ok.glob
      blt:=I3.ok.blt
      above:=Iy _
      inj:=λx y c h1 h2=>I3.ok.inj x y c (csub x c h1) (csub y c h2)
      has:=λx hx=>by
        have fr:scope.names.lookup x=some .free:=by
          rcases hx with hx|hx
          · rcases names' x .cell hx with h|⟨h,_⟩
            ·exact absurd rfl (hcell _ (PySem.mem_of_lookup h))
            ·exact h
          · rcases names' x .free hx with h|⟨_,h⟩
            ·exact h
            ·cases h
        have hm:=PySem.mem_of_lookup fr;exact Option.isSome_iff_exists.mp (eW scope.names [] x hm (hfree _ hm rfl))
      cab:=λx c h _=>by cases h
      hd:=I3.ok.hd
      frames:=I3.ok.frames
      stk:=.inl rfl
      exf:=λb hb'=>⟨Ih (fpLt b hb'),λx c e=>(f2 b hb').2.2.2.2.1 x c (csub x c e)⟩
      bs:=λb o e=>I3.bs b o e
      bsz:=Ii I3.ok.bsz I3.sz
      noex:=λb o e hb'=>by
        obtain⟨_,_,_,h4,_⟩:=f2 b hb';rcases h4 with h4|h4
        ·exact I3.ok.noex b o e h4
        ·exact absurd (Ie (Lf (I3.ok.bs b o e).1) h4) (Ig _)
      exfs:=λb hb' hs=>by
        obtain⟨_,h2,h3,_⟩:=f2 b hb';rcases List.mem_cons.mp (I3.stkSub b hs)with e|e
        ·exact h2 e
        ·exact h3 e
      funs:=I3.stack
      frf:=λb hb'=>I3.stkFree b hb'}
  generalize hE:(notedBy (model X.prog X.w) X.A (compEnvC scope (cm X.env.cells scope.names []) s3.heap.objs.size X.env) λe s'=>RR (.ref s2.heap.objs.size) s3.heap.objs.size (.error e) s')=E' at ok;obtain⟨hg,htc,hel⟩:=hb (cm X.env.cells scope.names []) s3.heap.objs.size fp s3 H3 E';have Istart:∀tk,Inv (bF X scope N (cm X.env.cells scope.names []) s3.heap.objs.size fp s3 H3 E') [] (inBlock ix σ) H3 {s3 with heap:=h₁,toks:=tk}:=λtk=>by
    refine⟨ok,rfl,I3.bare,Un.kept old,⟨_,hns₁,λj x v e1 e2 _=>?_⟩,λx c e=>?_,I3.fresh,λx c e=>I3.freeC x c (csub x c e),λp hp=>absurd (show p∈([]:aV)from hp) (by simp),I3.hok.kept old,?_⟩
    ·
      unfold inBlock at e2;rw[IV]at e2;cases q1:ix[j]? with
      |none=>rw[q1]at e2;simp at e2
      |some o=>
        rw[q1]at e2;cases o with
        |none=>simp at e2
        |some i=>
          obtain⟨n1,n2⟩:=oF.at_ hix e1 q1;have e2':(σ[i]?).getD none=some v:=Option.some.inj e2;have e3:σ[i]?=some (some v):=by
            cases q2:σ[i]? with
            |none=>rw[q2]at e2';simp at e2'
            |some o2=>rw[q2]at e2';simpa using e2'
          obtain⟨m,hn,hl⟩:=I3.loc;have hm:=PySem.mem_of_lookup n2;have hk:=hfr _ hm rfl;have hv:Bp X.env.scope x:=by
            rcases hk with hk|hk
            ·exact .inr (.inl hk)
            ·exact .inr (.inr hk)
          obtain⟨u,r,l⟩:=hl i x v n1 e3 hv;refine⟨u,r,.inr ?_⟩;rcases l with⟨kl,_⟩|⟨_,c,hcx,hcell'⟩
          · have kl':X.env.scope.names.lookup x=some .local:=kl
            rcases hk with hk|hk
            ·rw[kl']at hk;cases hk
            ·rw[kl']at hk;cases hk
          · obtain⟨c',hc'⟩:=Option.isSome_iff_exists.mp (eW (cells:=X.env.cells) scope.names [] x hm ⟨c,hcx⟩)
            have ec:c'=c:=Option.some.inj ((csub x c' hc').symm.trans hcx);subst ec;refine⟨?_,c',hc',?_⟩
            ·
              show(relabel scope X.env).names.lookup x=some .cell\/(relabel scope X.env).names.lookup x=some .free;have gen:∀names:lP,names.lookup x=some .free->((names.map λ(n,k)=>if(k==NameKind.free&&X.env.scope.kind==.function&&X.env.kindOf n==some .cell)then(n,NameKind.cell)else(n,k)).lookup x=some .cell\/(names.map λ(n,k)=>if(k==NameKind.free&&X.env.scope.kind==.function&&X.env.kindOf n==some .cell)then(n,NameKind.cell)else(n,k)).lookup x=some .free):=by
                intro names
                induction names with
                |nil=>intro h;simp at h
                |cons p r ih=>
                  obtain⟨n,k⟩:=p;intro h;show List.lookup x ((if(k==NameKind.free&&X.env.scope.kind==.function&&X.env.kindOf n==some .cell)=true then(n,NameKind.cell)else(n,k))::_)=_\/List.lookup x ((if(k==NameKind.free&&X.env.scope.kind==.function&&X.env.kindOf n==some .cell)=true then(n,NameKind.cell)else(n,k))::_)=_;cases hx:x==n with
                  |true=>
                    simp only[Jf,hx]at h;by_cases hcc:(k==NameKind.free&&X.env.scope.kind==.function&&X.env.kindOf n==some .cell)=true
                    ·rw[if_pos hcc];left;simp only[Jf,hx]
                    ·rw[if_neg hcc];right;simp only[Jf,hx];exact h
                  |false=>
                    simp only[Jf,hx]at h;by_cases hcc:(k==NameKind.free&&X.env.scope.kind==.function&&X.env.kindOf n==some .cell)=true
                    ·rw[if_pos hcc];simp only[Jf,hx];exact ih h
                    ·rw[if_neg hcc];simp only[Jf,hx];exact ih h
              exact gen scope.names n2
            ·exact hcell'.keeps old
    · obtain⟨v,z⟩:=I3.cell x c (csub x c e)
      exact⟨v,z.keeps old⟩
    · show(inBlock ix σ).length=N.length
      unfold inBlock;rw[IH];exact oF.len hix
  have stat:∀{H':Hp},(∀b∈fp,H' b=none)->∀b∈fp,mx (bF X scope N (cm X.env.cells scope.names []) s3.heap.objs.size fp s3 H3 E') [] H' b:=λhn b hb'=>
    ⟨hn b hb',(ok.exf b hb').1,ok.exfs b hb',.inl hb',(ok.exf b hb').2,λp hp=>absurd (show p∈([]:aV)from hp) (by simp)⟩
  have tn1:tn 0 h₁:=T.keep _ _ _ st2 λb hb' o e=>old b o (by rw[<-eh3];exact Li _ e);have loop:∀tk,MF (model X.prog X.w) X.A (.compLoop (.ListComp elt [⟨tg,iter,ifs,0⟩] scope pos) 0 (.ref it) (.ref s2.heap.objs.size) (compEnvC scope (cm X.env.cells scope.names []) s3.heap.objs.size X.env))
      (RR (.ref s2.heap.objs.size) s3.heap.objs.size) {s3 with heap:=h₁,toks:=tk}:=by
    intro tk;refine gH (λn s'=>∃i σ' H',Inv (bF X scope N (cm X.env.cells scope.names []) s3.heap.objs.size fp s3 H3 E') [] σ' H' s'/\tn i s'.heap/\(∀b∈fp,H' b=none)/\W i n σ' H') ?_ m0 ⟨0,_,_,Istart tk,tn1,fpH3,w0⟩;rintro n s5 ⟨i,σ5,H5,I5,st5,fr5,w5⟩;rw[hE];rcases turn i n σ5 H5 w5 with⟨stop,qn⟩|⟨go,step⟩
    · refine ca (T.done (bF X scope N (cm X.env.cells scope.names []) s3.heap.objs.size fp s3 H3 E') rfl rfl rfl hc i [] s5 σ5 H5 _ I5 (stat fr5) st5 stop) λr s6 ⟨hr,I6⟩=>?_
      subst hr;obtain⟨m6,hn6,_⟩:=I6.loc;refine hRR s2.heap.objs.size s3.heap.objs.size H5 s6 m6 hD (by rw[hC3];exact IM _) I6.free hn6 (λh' sb=>?_) qn;have ne:∀b o,s3.heap.get? b=some o->b≠s3.heap.objs.size:=λb o e=>Ih (Lf e);refine I3.call' (s':={s6 with heap:=h'}) (H':=H5) (ch:=fp) I6.os ⟨λb o e n hb' hx=>?_,λb o e n hb' hx=>?_,λb o e n hx=>?_,λb o e hx=>?_,I6.base.tups,I6.base.frzs,I6.base.tbls⟩ ?_ I6.bare λb hb'=>?_
      ·exact(sb.2 b (ne b o e)).trans (I6.base.keep b o e n hb' hx)
      · obtain⟨sl,e1⟩:=I6.base.slot b o e n hb' hx
        exact⟨sl,(sb.2 b (ne b o e)).trans e1⟩
      ·exact I6.base.free b o e n hx
      · obtain⟨o',e1⟩:=I6.base.there b o e hx
        exact⟨o',(sb.2 b (ne b o e)).trans e1⟩
      · intro b ob e
        have hfreeC:H5 s3.heap.objs.size=none:=I6.free;refine(I6.hok b ob e).stay (λc v hcc q=>(sb.2 c ?_).trans q) (λ_ q=>q) λ_ _ q=>q;rintro rfl;rcases hcc with rfl|hcc
        ·rw[hfreeC]at e;cases e
        ·rw[hfreeC]at hcc;cases hcc
      · obtain⟨_,h2',_,h4',h5',h6'⟩:=f2 b hb'
        exact⟨h4',h2',h5',h6'⟩
    · refine ca (T.item (bF X scope N (cm X.env.cells scope.names []) s3.heap.objs.size fp s3 H3 E') rfl rfl rfl hc i [] s5 σ5 H5 _ I5 (stat fr5) st5 go) λr s6 ⟨u,hr,h6⟩=>?_
      subst hr;refine ca h6 λ_ s7 ⟨x,H7,I7,r7,y7,st7,fr7⟩=>?_;have I7':=I7.pinned (stat fr7) (T.obj _ _ st7);refine ca (hg _ s7 σ5 H7 x u _ I7' r7 (step x H7 y7)) λ_ s8 ⟨σ8,H8,I8,q8⟩=>?_;refine ca (htc _ s8 σ8 H8 _ I8 q8) λb s9 ⟨H9,I9,q9⟩=>?_;have again:∀{σ':St}{H':Hp}{s':LZ}{m':Nat},Inv (bF X scope N (cm X.env.cells scope.names []) s3.heap.objs.size fp s3 H3 E') ([]++lE fp s7.heap) σ' H' s'->m'<n->W (i+1) m' σ' H'->
          ∃m,m<n/\∃i σ' H',Inv (bF X scope N (cm X.env.cells scope.names []) s3.heap.objs.size fp s3 H3 E') [] σ' H' s'/\tn i s'.heap/\(∀b∈fp,H' b=none)/\W i m σ' H':=λ{σ' H' s' m'} I' hm w'=>by
        refine⟨m',hm,i+1,σ',H',I'.unpinned,T.keep _ _ _ st7 λb hb' o e=>(I'.pin (b,o) (Iz _ (Iz _ (fh hb' e)))).1,λb hb'=>?_,w'⟩;obtain⟨o,e,d⟩:=T.obj _ _ st7 b hb';exact(I'.pin (b,o) (Iz _ (Iz _ (fh hb' e)))).2.1
      cases b with
      |false=>
        rw[if_neg Iu]at q9 ⊢;obtain⟨m',hm,w9⟩:=q9;exact again I9 hm w9
      |true=>
        rw[if_pos rfl]at q9 ⊢;refine ca (hel _ s9 σ8 H9 _ I9 q9) λy s10 ⟨v,H10,I10,r10,q10⟩=>?_;obtain⟨acc,ha,hz,m',hm,w10⟩:=q10;refine ca (mG _ s10 σ8 H10 (.ref s2.heap.objs.size) [v] (.ref s2.heap.objs.size) [y] (λ_ H'=>H'=upd H10 s2.heap.objs.size (.lst (acc++[v]))) I10 rfl (.cons r10 .nil) ⟨_,acc,v,rfl,rfl,ha,hz,rfl⟩) λ_ s11 ⟨_,H11,I11,_,GK⟩=>?_;subst GK;exact again I11 hm w10
  subst hs3;exact codeAny_compStart_list (loop _) (T.self _ 0 _ _ _ tn1 (loop _))
theorem Bh(hc:X.calm=true)(hcell:∀y∈scope.names,y.2≠.cell)(hkind:scope.kind=.function)(hnames:∀y∈scope.names,y.2=.local->scope.names.lookup y.1=some .local)
  (hfr:∀y∈scope.names,y.2=.free->X.env.scope.names.lookup y.1=some .cell\/X.env.scope.names.lookup y.1=some .free)
  (hix:oF X.N N scope.names ix=true) (hi:PI X tg iter wi)
  (hb:∀cl C fp s H E,PG (bF X scope N cl C fp s H E) tg g/\Cq (bF X scope N cl C fp s H E) ifs tc/\PE (bF X scope N cl C fp s H E) elt te)
  (hs:∀x,My iter X.env x=pure x:=by intro _;rfl):PE X (.ListComp elt [⟨tg,iter,ifs,0⟩] scope pos) (Ep wi g tc te ix):=by
 intro pins s σ H Q I h;rw[eval_ListComp];refine M3 (use:=none) rfl hs (jk λp hp hk=>I.ok.has p.1 (hfr p hp hk)) hkind hnames (ca (hi pins s σ H _ I h) λv s1 h1=>ca h1 λitv s2 h2=>?_);obtain⟨it,fp,tn,J,H2,e,I2,T,st2,f2,q⟩:=h2;subst e;refine kZ (Q:=Q) (RR:=λacc C=>compPost (model X.prog X.w) X.A X.xe none (EP X pins σ Q) acc C) hc hcell hkind hfr hix hb I2 T st2 f2 q ?_;intro D C H' s' m _ _ _ hn hI hq;exact⟨m,hn,λh' sb=>⟨.ref D,H',hI h' sb,rfl,hq⟩⟩
theorem Bc{i:Nat}{y:Str}{py spos:Pos}(hN:X.N.Nodup)(hi':X.N[i]?=some y)(hx:Loc X.env.scope y)
  (hc:X.calm=true) (hcell:∀y∈scope.names,y.2≠.cell) (hkind:scope.kind=.function) (hnames:∀y∈scope.names,y.2=.local->scope.names.lookup y.1=some .local)
  (hfr:∀y∈scope.names,y.2=.free->X.env.scope.names.lookup y.1=some .cell\/X.env.scope.names.lookup y.1=some .free)
  (hix:oF X.N N scope.names ix=true) (hi:PI X tg iter wi)
  (hb:∀cl C fp s H E,PG (bF X scope N cl C fp s H E) tg g/\Cq (bF X scope N cl C fp s H E) ifs tc/\PE (bF X scope N cl C fp s H E) elt te)
  (hsw:swapsWith (.ListComp elt [⟨tg,iter,ifs,0⟩] scope pos) (some (.Name y py)) spos.line X.env=pure true:=by rfl)
  (hs:∀x,My iter X.env x=pure x:=by intro _;rfl)
  (hf:X.fn y=true\/X.env.scope.names.lookup y=some .local:=by first|exact .inl rfl|exact .inr rfl|assumption):
  PS X (.Assign [.Name y py] (.ListComp elt [⟨tg,iter,ifs,0⟩] scope pos) spos) (zQ (Ep wi g tc te ix) (mS i)):=by
 intro pins s σ H D0 I h;rw[exec_Assign_Name_used _ _ _ _ hsw];refine Mw (M2 (Mw ?_));show Mi _ X.A (do let _<-comprehension (.ListComp elt [⟨tg,iter,ifs,0⟩] scope pos) scope X.env _ (newList []) false (eval iter X.env) (some (assign (.Name y py) X.env))) _ _ s;refine Mw (ca (M3 (use:=some (assign (.Name y py) X.env)) (Q:=λ_ s'=>SP X pins D0 .next s') rfl hs (jk λp hp hk=>I.ok.has p.1 (hfr p hp hk)) hkind hnames
  (ca (hi pins s σ H _ I h) λv s1 h1=>ca h1 λitv s2 h2=>?_)) λ_ s' hq=>Mv (Mv hq))
 obtain⟨it,fp,tn,J,H2,e,I2,T,st2,f2,q⟩:=h2;subst e;refine kZ (Q:=λv H'=>mS i v σ H' D0.nx) (RR:=λacc C=>compPost (model X.prog X.w) X.A X.xe (some (assign (.Name y py) X.env)) (λ_ s'=>SP X pins D0 .next s') acc C) hc hcell hkind hfr hix hb I2 T st2 f2 q ?_;intro D C H' s' m _ hC hfree hn hI hq;have I':Inv X pins σ H' s':=hI s'.heap (.refl ..);have nL:C≠X.env.locals:=Iw (Ie I2.lt hC);have nC:∀x c,X.env.cells.lookup x=some c->c≠C:=λx c e z=>by
  obtain⟨v,q⟩:=I2.cell x c e;exact absurd (Ie q.lt (by rw[z];exact hC)) (Ig _)
 have nP:∀p∈X.pn++pins,p.1≠C:=λp hp z=>absurd (Ie (Lf (I2.pin p hp).1) (by rw[z];exact hC)) (Ig _);show Mi _ X.A (assign (.Name y py) X.env (.ref D)) _ _ _;refine wpAny_assign_Name (nT I' hN hi' hx (v:=.ref D) rfl (λs'' I'' ch=>?_) hf);obtain⟨a,sb,ha⟩:=ch;have hCa:C≠a:=by
  rcases ha with ha|ha
  ·rw[ha];exact nL
  ·exact Ne.symm (nC y a ha)
 refine⟨m,hn.sameBut sb hCa,λh' sb'=>⟨_,H',?_,hq⟩⟩;exact I''.turned (t':=s''.toks) (λb o hb' e=>(sb'.2 b hb').trans e) hfree nL (.inr (Ii I2.sz hC)) nC nP
end
end L2
namespace TG
open PySem PySem.Spec
noncomputable def DP{α:Type}:Sem α->Prop
 |.pure _=>True
 |.raise _=>True
 |.unsupported _=>True
 |.finish _=>True
 |.rule _ k=>DP (k ())
 |.at _ k=>DP (k ())
 |.load _ _ k=>∀o,DP (k o)
 |.update _ _ f k=>(∀o,(f o).dict=o.dict)/\DP (k ())
 |.loadIfAlive _ k=>∀o,DP (k o)
 |.point _ k=>DP (k ())
 |.alloc _ k=>∀a,DP (k a)
 |.fresh k=>∀a,DP (k a)
 |.ask k=>∀a,DP (k a)
 |.stack k=>∀a,DP (k a)
 |_=>False
theorem DP.bind{α β:Type}{f:α->Sem β}(hf:∀a,DP (f a)):∀{m:Sem α},DP m->DP (m >>= f):=λ{m} h=>by
 show DP (m.bind f)
 induction m with
 |pure a=>exact hf a
 |raise _=>trivial
 |unsupported _=>trivial
 |finish _=>trivial
 |rule _ k ih=>exact ih () h
 |«at» _ k ih=>exact ih () h
 |load _ _ k ih=>exact λo=>ih o (h o)
 |update _ _ g k ih=>exact⟨h.1,ih () h.2⟩
 |loadIfAlive _ k ih=>exact λo=>ih o (h o)
 |point _ k ih=>exact ih () h
 |alloc _ k ih=>exact λo=>ih o (h o)
 |fresh k ih=>exact λo=>ih o (h o)
 |ask k ih=>exact λo=>ih o (h o)
 |stack k ih=>exact λo=>ih o (h o)
 |_=>exact h.elim
noncomputable def DS(h h':L8):Prop:=∀(a:Nat)(o:Obj),h.objs[a]?=some o->∃o',h'.objs[a]?=some o'/\o'.dict=o.dict
theorem DS.refl(h:L8):DS h h:=λ_ o e=>⟨o,e,rfl⟩
theorem DS.trans{h1 h2 h3:L8}(x:DS h1 h2)(y:DS h2 h3):DS h1 h3:=λa o e=>by
 obtain⟨o1,e1,d1⟩:=x a o e;obtain⟨o2,e2,d2⟩:=y a o1 e1;exact⟨o2,e2,d2.trans d1⟩
theorem p7{h:L8}{a:LW}{o:Obj}(e:h.get? a=some o):h.objs[a]?=some o:=by
 unfold Heap.get? at e;split at e
 ·cases e
 ·exact e
theorem DS.dict{h h':L8}(x:DS h h'){a:LW}{o o':Obj}(e:h.get? a=some o)(e':h'.get? a=some o'):o'.dict=o.dict:=by
 obtain⟨o1,e1,d1⟩:=x a o (p7 e);rw[p7 e']at e1;cases e1;exact d1
theorem DS.push(h:L8)(o:Obj):DS h (h.push o):=λa u e=>⟨u,by
 show(h.objs.push o)[a]?=_
 have:=(Array.getElem?_eq_some_iff.mp e).1
 rw[Array.getElem?_push,if_neg ‹0›];exact e,rfl⟩
theorem DS.upd(h:L8)(b:LW){f:Obj->Obj}(hf:∀o,(f o).dict=o.dict):DS h (h.update b f):=λa u e=>by
 show∃o',(h.objs.modify b f)[a]?=some o'/\_;rw[Array.getElem?_modify,e];split
 ·exact⟨_,rfl,hf u⟩
 ·exact⟨_,rfl,rfl⟩
theorem DP.wp{α:Type}{M:Mh}{Γ:PySem.Ctx}{Q:α->Pos->LZ->Prop}{E:LU->Pos->LZ->Prop}{t:Sem α}(d:DP t){p:Pos}{s:LZ}(h:Sem.wp M Γ t Q E p s):Sem.wp M Γ t (λa p' s'=>Q a p' s'/\DS s.heap s'.heap) (λa p' s'=>E a p' s'/\DS s.heap s'.heap) p s:=by
 have go:∀(h0:L8)(p:Pos)(s:LZ),DS h0 s.heap->Sem.wp M Γ t Q E p s->Sem.wp M Γ t (λa p' s'=>Q a p' s'/\DS h0 s'.heap) (λa p' s'=>E a p' s'/\DS h0 s'.heap) p s:=by
  intro h0;clear h
  induction t with
  |pure a=>exact λp s z h=>⟨h,z⟩
  |raise a=>exact λp s z h=>⟨h,z⟩
  |unsupported _=>exact λp s z h=>h
  |finish _=>exact λp s z h=>h
  |rule _ k ih=>exact λp s z h=>ih () d p s z h
  |«at» q k ih=>exact λp s z h=>ih () d q s z h
  |load a _ k ih=>exact λp s z h=>let ⟨o,ho,h⟩:=h;⟨o,ho,ih o (d o) p s z h⟩
  |update a _ f k ih=>exact λp s z h=>⟨h.1,ih () d.2 p _ (z.trans (DS.upd _ a d.1)) h.2⟩
  |loadIfAlive a k ih=>exact λp s z h=>ih _ (d _) p s z h
  |point _ k ih=>exact λp s z h=>ih () d p s z h
  |alloc o k ih=>exact λp s z h=>ih _ (d _) p _ (z.trans (DS.push _ o)) h
  |fresh k ih=>exact λp s z h=>ih _ (d _) p _ z h
  |ask k ih=>exact λp s z h=>ih _ (d _) p _ z h
  |stack k ih=>exact λp s z h=>ih _ (d _) p _ z h
  |_=>exact d.elim
 exact go s.heap p s (DS.refl _) h
theorem DP.any{α:Type}{M:Mh}{A:Mf}{Q:α->LZ->Prop}{E:LU->LZ->Prop}{t:Sem α}{s:LZ}(d:DP t)(h:Mi M A t Q E s):Mi M A t (λa s'=>Q a s'/\DS s.heap s'.heap) E s:=λΓ p hi=>Sem.wp_mono _ _ _ (λ_ _ _ x=>x) (λ_ _ _ x=>x.1) _ _ (d.wp (h Γ p hi))
theorem DP.go{M:Mh}{A:Mf}{Q:Unit->LZ->Prop}{E:LU->LZ->Prop}{t:Sem Unit}{s:LZ}{P:L8->Prop}(d:DP t)(h:Mi M A t (λ_ s'=>∃h',s'={s with heap:=h'}/\P h') E s)(k:∀h',P h'->DS s.heap h'->Q () {s with heap:=h'}):Mi M A t Q E s:=Ml (d.any h) (λ_ s' z=>by
 obtain⟨⟨h',rfl,p⟩,ds⟩:=z;exact k h' p ds) λ_ _ z=>z
theorem jh(v:LU)(i:Nat):DP (field v i):=by
 unfold field fieldsOf;cases v with
 |ref a=>
  refine DP.bind (λxs=>?_) ?_
  ·split<;>trivial
  ·refine DP.bind (λo=>?_) (λo=>trivial);split<;>trivial
 |_=>exact DP.bind (λxs=>by split<;>trivial) trivial
theorem rY(a:LW):DP (load a):=λ_=>trivial
theorem Bs(f:Array LU->Array LU)(o:Obj):(Obj.mapFields f o).dict=o.dict:=by
 unfold Obj.mapFields;split<;>rfl
theorem qH(v:LU)(i:Nat)(x:LU):DP (setField v i x):=by
 unfold setField;cases v with
 |ref a=>
  unfold updateField;refine DP.bind (λo=>?_) (rY a);split
  ·split
   ·exact⟨Bs _,trivial⟩
   ·trivial
  ·trivial
 |_=>trivial
theorem jB(e:LU)(f:Option LW):DP (setFlight e f):=by
 unfold setFlight;refine DP.bind (λtb=>?_) (jh _ _);split
 ·exact qH _ _ _
 ·trivial
theorem vU:DP stack:=λ_=>trivial
theorem wq:DP underTheClaimsCaller:=by
 unfold underTheClaimsCaller;exact λ_=>trivial
theorem qk:∀l:List Env,DP (readyFrames l)
 |[]=>trivial
 |env::outer=>by
  unfold readyFrames;cases env.frame with
  |none=>trivial
  |some f=>
   refine DP.bind ?_ (rY f);intro o;split
   ·trivial
   ·refine DP.bind ?_ ?_
    ·intro b;refine DP.bind ?_ ?_
     ·intro b;refine DP.bind ?_ ?_
      ·intro _;exact qk outer
      ·exact⟨λ_=>rfl,trivial⟩
     ·unfold keptBack;split
      ·split
       ·trivial
       ·refine DP.bind ?_ wq;intro _;trivial
      ·trivial
    ·unfold behindIsImport;split
     ·trivial
     ·split
      ·trivial
      ·refine DP.bind ?_ (jh _ _);intro _;trivial
theorem Ai:DP frameEnvs:=λ_=>trivial
theorem rK(env:Env):DP (frameOf env):=by
 unfold frameOf;refine DP.bind ?_ Ai;intro l;refine DP.bind ?_ ?_
 ·intro f;split<;>trivial
 ·unfold frameObject;split
  ·trivial
  ·refine DP.bind ?_ (qk _);intro _;trivial
theorem BX(ty:String)(vs:List LU):DP (newFields ty vs):=by
 unfold newFields newObj;dsimp only;split
 ·trivial
 ·exact λ_=>trivial
theorem wR(f:LW)(b:Bool):DP (entryPlaceOf f b):=by
 unfold entryPlaceOf;refine DP.bind ?_ vU;intro l;split<;>trivial
theorem sv(e:LU)(env:Env):DP (noteFrame e env):=by
 unfold noteFrame;cases env.frame with
 |none=>trivial
 |some f=>
  have tl:∀head:LU,DP (do setField e 1 (<-EntryCells.newEntry head (<-frameOf env) .none (rawInt f) .none (<-entryPlaceOf f (head !=.none)))):=λhead=>by
   refine DP.bind ?_ (rK env);intro a;refine DP.bind ?_ (wR _ _);intro b;refine DP.bind ?_ (BX _ _);intro c;exact qH _ _ _
  refine DP.bind ?_ (jh _ _);intro head;dsimp only;split
  ·refine DP.bind ?_ (jh _ _);intro x;split
   ·trivial
   ·refine DP.bind ?_ (qH _ _ _);intro _;exact tl head
  ·exact tl head
theorem rB(env:Env)(e:LU):DP (leaving env e):=by
 unfold leaving;refine DP.bind ?_ (sv _ _);intro _;exact jB _ _
open PySem PySem.Spec L2
inductive D where
 |non|bl (b:Bool)|int (i:Int)|str (x:Str)|tup (xs:List D)|lst (xs:List D)
 |dct (ks vs:List D)|obj (c:Str) (fs:al) (vs:List D)|exc (c:Str) (fs:al) (vs:List D)
noncomputable abbrev dq:=List (Str×D)
noncomputable abbrev bi:=Option D
noncomputable def oj:Key->D
 |.inl i=>.int i
 |.inr x=>.str x
noncomputable def clsAt(K:Ky)(c:Str)(C:LW):Prop:=K2 K Mb c=some (some (.ref C))
noncomputable def jL(C a:LW)(dx:Option LW):(LW->Prop)->L8->Prop:=λ_ h=>∃o,h.get? a=some o/\o.cls=.ref C/\o.dict=dx/\K3 o=true
mutual
noncomputable def bQ(K:Ky)(H:Hp):D->V->Prop
 |.non,v=>v=.non
 |.bl b,v=>v=.bl b
 |.int i,v=>v=.int i
 |.str x,v=>v=.str x
 |.tup xs,v=>∃a vs,v=.ref a/\H a=some (.tup vs)/\aN K H xs vs
 |.lst xs,v=>∃a vs,v=.ref a/\ie K H a vs/\aN K H xs vs
 |.dct ks ds,v=>∃a vs,v=.ref a/\aN K H ds vs/\((∃kvs:List (Key×V),H a=some (.dK kvs)/\ks=kvs.map (λp=>oj p.1)/\vs=kvs.map (·.2)) \/
   (∃kvs:List (List Key×V),H a=some (.dT kvs)/\ks=kvs.map (λp=>.tup (p.1.map oj))/\vs=kvs.map (·.2)) \/
   ∃(kvs:List (List Key×V))(o:Obj),H a=some (.frz o (.dT kvs))/\ks=.non::kvs.map (λp=>.tup (p.1.map oj))/\vs=kvs.map (·.2))
 |.obj c fs ds,v=>∃a vs,v=.ref a/\aN K H ds vs/\fs.length=vs.length/\∃C dx,clsAt K c C/\H a=some (.ins C dx (fs.zip vs))
 |.exc c fs ds,v=>∃a vs,v=.ref a/\aN K H ds vs/\fs.length=vs.length/\∃C dx,clsAt K c C/\H a=some (.ext (jL C a dx))/\(fs=[]\/∃d,dx=some d/\H d=some (.xd (fs.zip vs)))
noncomputable def aN(K:Ky)(H:Hp):List D->aE->Prop
 |[],vs=>vs=[]
 |x::xs,vs=>∃v r,vs=v::r/\bQ K H x v/\aN K H xs r
end
theorem uM{K:Ky}{H H':Hp}{a:LW}{xs:aE}(e:aS H H')(h:jD K H a xs):jD K H' a xs:=by
 rcases h with(h|⟨o,h⟩)|h
 ·exact .inl (.inl (e _ _ h))
 ·exact .inl (.inr ⟨o,e _ _ h⟩)
 ·exact .inr h
theorem bH{K:Ky}{H H':Hp}{a:LW}{xs:aE}(e:aS H H')(h:H a=some (.tup xs)):jD K H' a xs:=jD.of (e _ _ h)
mutual
theorem bQ.mono{K:Ky}{H H':Hp}(e:aS H H'):∀{d:D}{v:V},bQ K H d v->bQ K H' d v
 |.non,_,h=>by unfold bQ at h ⊢;exact h
 |.bl _,_,h=>by unfold bQ at h ⊢;exact h
 |.int _,_,h=>by unfold bQ at h ⊢;exact h
 |.str _,_,h=>by unfold bQ at h ⊢;exact h
 |.tup xs,_,h=>by
  unfold bQ at h ⊢;obtain⟨a,vs,e1,h1,h2⟩:=h;exact⟨a,vs,e1,e _ _ h1,aN.mono e h2⟩
 |.lst xs,_,h=>by
  unfold bQ at h ⊢;obtain⟨a,vs,e1,h1,h2⟩:=h;exact⟨a,vs,e1,e.seq h1,aN.mono e h2⟩
 |.dct _ ds,_,h=>by
  unfold bQ at h ⊢;obtain⟨a,vs,e1,h1,h2⟩:=h;refine⟨a,vs,e1,aN.mono e h1,?_⟩;rcases h2 with⟨kvs,h2,h3⟩|⟨kvs,h2,h3⟩|⟨kvs,o,h2,h3⟩
  ·exact .inl ⟨kvs,e _ _ h2,h3⟩
  ·exact .inr (.inl ⟨kvs,e _ _ h2,h3⟩)
  ·exact .inr (.inr ⟨kvs,o,e _ _ h2,h3⟩)
 |.obj _ _ ds,_,h=>by
  unfold bQ at h ⊢;obtain⟨a,vs,e1,h1,h2,C,dx,h3,h4⟩:=h;exact⟨a,vs,e1,aN.mono e h1,h2,C,dx,h3,e _ _ h4⟩
 |.exc _ _ ds,_,h=>by
  unfold bQ at h ⊢;obtain⟨a,vs,e1,h1,h2,C,dx,h3,h4,h5⟩:=h;exact⟨a,vs,e1,aN.mono e h1,h2,C,dx,h3,e _ _ h4,h5.imp id λ⟨d,q1,q2⟩=>⟨d,q1,e _ _ q2⟩⟩
theorem aN.mono{K:Ky}{H H':Hp}(e:aS H H'):∀{ds:List D}{vs:aE},aN K H ds vs->aN K H' ds vs
 |[],_,h=>by unfold aN at h ⊢;exact h
 |x::xs,_,h=>by
  unfold aN at h ⊢;obtain⟨v,r,e1,h1,h2⟩:=h;exact⟨v,r,e1,bQ.mono e h1,aN.mono e h2⟩
end
section
variable{K:Ky}{H:Hp}
theorem fu{v:V}:bQ K H .non v↔v=.non:=by unfold bQ;rfl
theorem fN{b:Bool}{v:V}:bQ K H (.bl b) v↔v=.bl b:=by unfold bQ;rfl
theorem dQ{i:Int}{v:V}:bQ K H (.int i) v↔v=.int i:=by unfold bQ;rfl
theorem dE{x:Str}{v:V}:bQ K H (.str x) v↔v=.str x:=by unfold bQ;rfl
theorem bA{xs:List D}{v:V}:bQ K H (.tup xs) v↔∃a vs,v=.ref a/\H a=some (.tup vs)/\aN K H xs vs:=by unfold bQ;rfl
theorem bz{xs:List D}{v:V}:bQ K H (.lst xs) v↔∃a vs,v=.ref a/\ie K H a vs/\aN K H xs vs:=by unfold bQ;rfl
theorem EV{ks ds : List D}{v : V}: bQ K H (.dct ks ds) v ↔ ∃ a vs, v = .ref a /\ aN K H ds vs /\ ((∃ kvs : List (Key × V), H a = some (.dK kvs) /\ ks = kvs.map (fun p => oj p.1) /\ vs = kvs.map (·.2)) \/
      (∃kvs:List (List Key×V),H a=some (.dT kvs)/\ks=kvs.map (λp=>.tup (p.1.map oj))/\vs=kvs.map (·.2)) \/
      ∃(kvs:List (List Key×V))(o:Obj),H a=some (.frz o (.dT kvs))/\ks=.non::kvs.map (λp=>.tup (p.1.map oj))/\vs=kvs.map (·.2)):=by unfold bQ;rfl
theorem Fc{c:Str}{fs:al}{ds:List D}{v:V}:bQ K H (.obj c fs ds) v↔∃a vs,v=.ref a/\aN K H ds vs/\fs.length=vs.length/\∃C dx,clsAt K c C/\H a=some (.ins C dx (fs.zip vs)):=by unfold bQ;rfl
theorem EC{c:Str}{fs:al}{ds:List D}{v:V}:bQ K H (.exc c fs ds) v↔∃a vs,v=.ref a/\aN K H ds vs/\fs.length=vs.length/\∃C dx,clsAt K c C/\H a=some (.ext (jL C a dx))/\(fs=[]\/∃d,dx=some d/\H d=some (.xd (fs.zip vs))):=by unfold bQ;rfl
theorem bX{vs:aE}:aN K H [] vs↔vs=[]:=by unfold aN;rfl
theorem bn{x:D}{xs:List D}{vs:aE}:aN K H (x::xs) vs↔∃v r,vs=v::r/\bQ K H x v/\aN K H xs r:=by conv=>lhs;unfold aN
theorem aN.length:∀{ds:List D}{vs:aE},aN K H ds vs->ds.length=vs.length
 |[],_,h=>by rw[bX]at h;rw[h];rfl
 |_::xs,_,h=>by
  rw[bn]at h;obtain⟨v,r,e,_,h⟩:=h;rw[e,IE,IE,aN.length h]
theorem aN.get:∀{ds:List D}{vs:aE}{i:Nat}{d:D},aN K H ds vs->ds[i]?=some d->∃v,vs[i]?=some v/\bQ K H d v
 |[],_,_,_,_,e=>by simp at e
 |x::xs,_,0,d,h,e=>by
  rw[bn]at h;obtain⟨v,r,rfl,h1,_⟩:=h;simp at e;subst e;exact⟨v,rfl,h1⟩
 |x::xs,_,i+1,d,h,e=>by
  rw[bn]at h;obtain⟨v,r,rfl,_,h2⟩:=h;obtain⟨w,e1,e2⟩:=aN.get (i:=i) h2 (by simpa using e);exact⟨w,by simpa using e1,e2⟩
theorem aN.append:∀{ds es:List D}{vs ws:aE},aN K H ds vs->aN K H es ws->aN K H (ds++es) (vs++ws)
 |[],_,_,_,h,h'=>by rw[bX]at h;subst h;exact h'
 |x::xs,_,_,_,h,h'=>by
  rw[bn]at h;obtain⟨v,r,rfl,h1,h2⟩:=h;rw[Ji,bn];exact⟨v,_,rfl,h1,aN.append h2 h'⟩
theorem aN.take:∀{ds:List D}{vs:aE}(n:Nat),aN K H ds vs->aN K H (ds.take n) (vs.take n)
 |_,_,0,_=>by rw[Jj,Jj,bX]
 |[],_,_+1,h=>by rw[bX]at h;subst h;rw[Jk,Jk,bX]
 |x::xs,_,n+1,h=>by
  rw[bn]at h;obtain⟨v,r,rfl,h1,h2⟩:=h;rw[Jl,Jl,bn];exact⟨v,_,rfl,h1,aN.take n h2⟩
theorem aN.drop:∀{ds:List D}{vs:aE}(n:Nat),aN K H ds vs->aN K H (ds.drop n) (vs.drop n)
 |_,_,0,h=>by rw[Jm,Jm];exact h
 |[],_,_+1,h=>by rw[bX]at h;subst h;rw[Jn,Jn,bX]
 |x::xs,_,n+1,h=>by
  rw[bn]at h;obtain⟨v,r,rfl,h1,h2⟩:=h;rw[Jo,Jo];exact aN.drop n h2
theorem aN.snoc{ds:List D}{vs:aE}{d:D}{v:V}(h:aN K H ds vs)(h':bQ K H d v):aN K H (ds++[d]) (vs++[v]):=
 h.append (bn.mpr ⟨v,[],rfl,h',bX.mpr rfl⟩)
theorem aN.one{d:D}{vs:aE}(h:aN K H [d] vs):∃v,vs=[v]/\bQ K H d v:=by
 rw[bn]at h;obtain⟨v,r,rfl,h1,h2⟩:=h;rw[bX]at h2;subst h2;exact⟨v,rfl,h1⟩
theorem aN.two{d e:D}{vs:aE}(h:aN K H [d,e] vs):∃v w,vs=[v,w]/\bQ K H d v/\bQ K H e w:=by
 rw[bn]at h;obtain⟨v,r,rfl,h1,h2⟩:=h;obtain⟨w,rfl,h3⟩:=h2.one;exact⟨v,w,rfl,h1,h3⟩
theorem nS:∀ns:List Int,aN K H (ns.map D.int) (ns.map V.int)
 |[]=>bX.mpr rfl
 |n::ns=>bn.mpr ⟨_,_,rfl,dQ.mpr rfl,nS ns⟩
end
noncomputable def hid(H:Hp)(O:aA):Hp:=λb=>if b∈O then none else H b
theorem aB(H:Hp)(O:aA):aS (hid H O) H:=λb o h=>by
 unfold hid at h;split at h
 ·cases h
 ·exact h
theorem bM{H H':Hp}{O:aA}(e:aS H H'):aS (hid H O) (hid H' O):=λb o h=>by
 unfold hid at h ⊢;by_cases hb:b∈O
 ·rw[if_pos hb]at h;cases h
 ·rw[if_neg hb]at h ⊢;exact e b o h
theorem gF{H:Hp}{O O':aA}(s:∀a∈O,a∈O'):aS (hid H O') (hid H O):=λb o h=>by
 unfold hid at h ⊢;by_cases hb:b∈O'
 ·rw[if_pos hb]at h;cases h
 ·rw[if_neg hb]at h;rw[if_neg λz=>hb (s b z)];exact h
theorem AD(H:Hp):hid H []=H:=by funext b;unfold hid;simp
theorem rN{H:Hp}{O:aA}{p:LW}{o:HO}(h:H p=none):aS (hid H O) (hid (upd H p o) O):=λb u q=>by
 unfold hid at q ⊢;by_cases hb:b∈O
 ·rw[if_pos hb]at q;cases q
 ·rw[if_neg hb]at q ⊢;rw[au (aM q h)];exact q
theorem bI{H:Hp}{p:LW}(h:H p=none)(o:HO):aS H (upd H p o):=λb u q=>by rw[au (aM q h)];exact q
theorem iu{H:Hp}{O:aA}{p:LW}(h:p∉O):hid H O p=H p:=by unfold hid;rw[if_neg h]
theorem ki{H:Hp}{O:aA}{p:LW}{o:HO}(h:p∈O):aS (hid H O) (hid (upd H p o) O):=λb u q=>by
 unfold hid at q ⊢;by_cases hb:b∈O
 ·rw[if_pos hb]at q;cases q
 ·rw[if_neg hb]at q ⊢;rw[au (λz=>hb (by rw[z];exact h))];exact q
inductive S where
 |val (d:D)|own (d:D)|nest (d:D)
noncomputable abbrev ao:=List (Option S)
noncomputable def ow:HO->Prop
 |.lst _=>True
 |.dK _=>True
 |.dT _=>True
 |_=>False
class ax where
 tab:Hp->Prop
 same:∀{H H':Hp},tab H->aS H H'->tab H'
 own:∀{H:Hp}{p:LW}{o o':HO},tab H->H p=some o->ow o->tab (upd H p o')
variable[ax]
noncomputable def cP(H:Hp)(O:aA):Prop:=ax.tab H/\∀a∈O,∃o,H a=some o/\ow o
theorem cP.not{H:Hp}{O:aA}(h:cP H O){p:LW}(n:H p=none):p∉O:=λz=>by
 obtain⟨vs,e,_⟩:=h.2 p z;rw[n]at e;cases e
theorem cP.same{H H':Hp}{O:aA}(h:cP H O)(e:aS H H'):cP H' O:=⟨ax.same h.1 e,λa ha=>let ⟨vs,q,m⟩:=h.2 a ha;⟨vs,e _ _ q,m⟩⟩
theorem cP.upd{H:Hp}{O:aA}{p:LW}{o:HO}(h:cP H O)(hp:p∈O)(m:ow o):cP (L2.upd H p o) O:=⟨let ⟨_,q,r⟩:=h.2 p hp;ax.own h.1 q r,λa ha=>by
 by_cases z:a=p
 ·rw[z];exact⟨o,az,m⟩
 ·obtain⟨u,q,r⟩:=h.2 a ha;exact⟨u,by rw[au z];exact q,r⟩⟩
theorem cP.cons{H:Hp}{O:aA}{p:LW}{o:HO}(h:cP H O)(hp:H p=some o)(m:ow o):cP H (p::O):=⟨h.1,λa ha=>by
 rcases List.mem_cons.mp ha with z|z
 ·rw[z];exact⟨o,hp,m⟩
 ·exact h.2 a z⟩
noncomputable def gB(K:Ky)(H:Hp)(O:aA)(a:LW)(d:D):Prop:=∃o vs,H a=some o/\match d with
 |.lst xs=>o=.lst vs/\aN K (hid H O) xs vs
 |.dct ks ds=>aN K (hid H O) ds vs/\((∃kvs:List (Key×V),o=.dK kvs/\ks=kvs.map (λp=>oj p.1)/\vs=kvs.map (·.2)) \/
   ∃kvs:List (List Key×V),o=.dT kvs/\ks=kvs.map (λp=>.tup (p.1.map oj))/\vs=kvs.map (·.2))
 |_=>False
theorem gB.mono{K:Ky}{H H':Hp}{O O':aA}{a:LW}{d:D}(h:gB K H O a d)(e:H a=H' a)(s:aS (hid H O) (hid H' O')):gB K H' O' a d:=by
 obtain⟨o,vs,h1,h2⟩:=h;refine⟨o,vs,by rw[<-e];exact h1,?_⟩;cases d with
 |lst xs=>exact⟨h2.1,h2.2.mono s⟩
 |dct ks ds=>exact⟨h2.1.mono s,h2.2⟩
 |_=>exact h2
theorem gB.some{K:Ky}{H:Hp}{O:aA}{a:LW}{d:D}(h:gB K H O a d):∃o,H a=some o:=let ⟨o,_,e,_⟩:=h;⟨o,e⟩
theorem gB.den{K:Ky}{H:Hp}{O O':aA}{a:LW}{d:D}(h:gB K H O a d)(s:aS (hid H O) (hid H O'))(ha:a∉O'):bQ K (hid H O') d (.ref a):=by
 obtain⟨o,vs,h1,h2⟩:=h;have h1':hid H O' a=Option.some o:=by rw[iu ha];exact h1
 cases d with
 |lst xs=>
  obtain⟨e,g⟩:=h2;subst e;exact bz.mpr ⟨a,vs,rfl,ie.of h1',g.mono s⟩
 |dct ks ds=>
  obtain⟨g,q⟩:=h2;refine EV.mpr ⟨a,vs,rfl,g.mono s,?_⟩;rcases q with⟨kvs,e,q⟩|⟨kvs,e,q⟩
  ·subst e;exact .inl ⟨kvs,h1',q⟩
  ·subst e;exact .inr (.inl ⟨kvs,h1',q⟩)
 |_=>exact h2.elim
structure cy(K:Ky)(O:aA)(H:Hp)(ρ:ao)(σ:St):Prop where
 val:∀(i:Nat) d,ρ[i]?=some (some (.val d))->∃v,σ[i]?=some (some v)/\bQ K (hid H O) d v
 own:∀(i:Nat) d,ρ[i]?=some (some (.own d))->∃a,σ[i]?=some (some (.ref a))/\a∈O/\gB K H O a d
 one:∀(i j:Nat) xs ys a,ρ[i]?=some (some (.own xs))->ρ[j]?=some (some (.own ys))->σ[i]?=some (some (.ref a))->σ[j]?=some (some (.ref a))->i=j
 all:cP H O
theorem sU{H H':Hp}(e:aS H H'){a:LW}{o:HO}(h:H a=some o):H a=H' a:=by rw[h,e _ _ h]
theorem cy.same{K:Ky}{O:aA}{H H':Hp}{ρ:ao}{σ:St}(h:cy K O H ρ σ)(e:aS H H'):cy K O H' ρ σ:=
  ⟨fun i d q=>let ⟨v,a,b⟩:=h.val i d q; ⟨v,a,b.mono (bM e)⟩,
   λi xs q=>let ⟨a,q1,q2,q3⟩:=h.own i xs q;⟨a,q1,q2,q3.mono (let ⟨_,z⟩:=q3.some;sU e z) (bM e)⟩,h.one,h.all.same e⟩
structure Ex where
 c:Str
 fs:al
 vs:List D
noncomputable abbrev R(α:Type):=Except (Option Ex) α
noncomputable abbrev aP:=ao->R (List D)
noncomputable abbrev bj:=ao->R Bool
noncomputable abbrev cB:=List D->R D
noncomputable abbrev un{α:Type}:R α:=.error none
noncomputable def rO{α:Type}:Option α->R α
 |some a=>.ok a
 |none=>.error none
noncomputable def Ds(K:Ky)(Hd:Hp)(x:Ex)(C:LW)(dx:Option LW):Prop:=clsAt K x.c C/\∃ws,aN K Hd x.vs ws/\x.fs.length=ws.length/\(x.fs=[]\/∃d,dx=some d/\Hd d=some (.xd (x.fs.zip ws)))
theorem Ds.mono{K:Ky}{H H':Hp}{x:Ex}{C:LW}{dx:Option LW}(h:Ds K H x C dx)(e:aS H H'):Ds K H' x C dx:=by
 obtain⟨h1,ws,h2,h3,h4⟩:=h;exact⟨h1,ws,h2.mono e,h3,h4.imp id λ⟨d,q1,q2⟩=>⟨d,q1,e _ _ q2⟩⟩
end TG
namespace TG
open PySem PySem.Spec L2
variable[ax]
open PyProof.Rows (AllBare)
theorem qS{P:L7}{w:L6}{H:Hp}{h:L8}{a:LW}{o:HO}(x:cv P w H h a o):∃u,h.get? a=some u:=by
 cases o with
 |lst xs=>obtain⟨_,_,_,_,e⟩:=x;exact⟨_,e⟩
 |tup xs=>obtain⟨_,_,_,o,e,_⟩:=x;exact⟨_,e⟩
 |dK kvs=>obtain⟨_,_,_,_,o,_,_,e,_⟩:=x;exact⟨_,e⟩
 |dT kvs=>obtain⟨_,_,_,_,o,_,_,e,_⟩:=x;exact⟨_,e⟩
 |set S n=>obtain⟨o,_,_,_,e,_⟩:=x;exact⟨_,e⟩
 |ins C dx fs=>obtain⟨_,_,_,e,_⟩:=x;exact⟨_,e⟩
 |own y=>exact x
 |xd fs=>obtain⟨_,⟨_,_,_,e,_⟩,_⟩:=x;exact⟨_,e⟩
 |rng lo hi=>obtain⟨_,_,_,e⟩:=x;exact⟨_,e⟩
 |frz ob u=>obtain⟨e,_⟩:=x;exact⟨_,e⟩
 |tbl ps=>exact⟨_,(show h.get? a=some _ from x)⟩
 |met f y=>exact⟨_,(show h.get? a=some _ from x)⟩
 |ext φ=>obtain⟨_,e,_⟩:=x;exact e
noncomputable def fA(X:Cx)(H:Hp)(b:LW):Prop:=((∃o,X.s₀.heap.get? b=some o)/\b∉X.ex)\/H b≠none\/(∃o,(b,o)∈X.pn)\/∃x,X.env.cells.lookup x=some b
noncomputable def Ho(B:L8)(e:LW)(cls a0:LU)(h:L8):Prop:=h.TracedW B e cls a0\/∃oe vs,h.get? e=some oe/\oe.cls=cls/\oe.data=.fields vs/\vs[1]?=some .none/\vs[0]?=some a0
noncomputable def qj(X:Cx)(H:Hp)(s:LZ)(e C:LW)(dx:Option LW):Prop:=(∀oe,s.heap.get? e=some oe->oe.dict=dx)/\∃B a0,B.StaysIn s.heap/\B.get? e=none/\s.heap.FunFrames B X.stack/\Ho B e (.ref C) a0 s.heap/\∀b o,s.heap.get? b=some o->fA X H b->b∉frs X.stack->B.get? b=some o
noncomputable def Ht(X:Cx)(H:Hp)(O:aA)(s:LZ)(u:LU)(x:Ex):Prop:=∃e C dx,u=.ref e/\Ds X.K (hid H O) x C dx/\qj X H s e C dx
noncomputable def jd(P:L7)(w:L6):qM:=λouter H s E u s'=>∃e C dx H' B a0,u=.ref e/\(∀oe,s'.heap.get? e=some oe->oe.dict=dx)/\s'.os=s.os/\AllBare s'.gens/\Un (frs outer) [] H H' s.heap s'.heap/\mz P w H' s'.heap/\Lp B outer e (.ref C) a0 s'.heap/\
 (∀b o,s'.heap.get? b=some o->((∃o',s.heap.get? b=some o')\/H' b≠none)->b∉frs outer->B.get? b=some o)/\E (.ref C) dx H'
noncomputable def Gr(K:Ky)(H:Hp)(O:aA)(x:Ex)(E:XK):Prop:=∀C dx H',aS H H'->Ds K (hid H' O) x C dx->E (.ref C) dx H'
noncomputable def CC(X:Cx)(σ:St)(O:aA)(H:Hp)(x:Ex):Prop:=∀pins s u H',Inv X pins σ H' s->aS H H'->Ht X H' O s u x->X.xe u s
theorem CC.mono{X:Cx}{σ:St}{O:aA}{H H':Hp}{x:Ex}(h:CC X σ O H x)(s:aS H H'):CC X σ O H' x:=λpins st u H2 I s2 f=>h pins st u H2 I (s.trans s2) f
noncomputable def sf(X:Cx)(O:aA)(H:Hp)(x:Ex):XK:=λu dx H'=>∃C,u=.ref C/\aS H H'/\Ds X.K (hid H' O) x C dx
noncomputable def gD(CX:qM)(X:Cx)(σ:St)(E:XK):Prop:=∀(pins:aV)(H:Hp)(s:LZ)(e:LU)(s':LZ),Inv X pins σ H s->CX X.stack H s E e s'->X.xe e s'
theorem sB{X:Cx}{σ:St}{O:aA}{H:Hp}{x:Ex}(h:CC X σ O H x):gD (jd X.prog X.w) X σ (sf X O H x):=by
 rintro pins H1 s u s' I ⟨e,C,dx,H',B,a0,rfl,hdx,os,bare,un,hok,⟨f1,f2,f3,f4⟩,kp,C',eC,sm,hd⟩;cases eC;have I':Inv X pins σ H' s':=I.call' os un hok bare (ch:=[]) λb z=>absurd z (by simp);refine h pins s' _ H' I' sm ⟨e,C,dx,rfl,hd,hdx,B,a0,f1,f2,f3,.inl f4,λb o eb hb nf=>kp b o eb ?_ nf⟩;rcases hb with⟨⟨o',hb⟩,nx⟩|hb|⟨o',hb⟩|⟨y,hb⟩
 ·exact .inl (I.base.there b o' hb nx)
 ·exact .inr hb
 ·exact .inl ⟨_,(I.pin _ (Io _ hb)).1⟩
 ·obtain⟨v,o,q,_⟩:=I.cell y b hb;exact .inl ⟨o,q⟩
theorem tP{X:Cx}{σ:St}:gD (jd X.prog X.w) X σ E0:=λ_ _ _ _ _ _ h=>by
 obtain⟨_,_,_,_,_,_,_,_,_,_,_,_,_,_,z⟩:=h;exact z.elim
theorem qt{X:Cx}{O:aA}{H:Hp}{x:Ex}:Gr X.K H O x (sf X O H x):=λC dx H' s e=>⟨C,rfl,s,e⟩
section
variable{X:Cx}{pins:aV}{σ:St}{H:Hp}{s:LZ}{h':L8}
theorem rQ(I:Inv X pins σ H s)(k:∀b o,s.heap.get? b=some o->fA X H b->b∉frs X.stack->h'.get? b=some o):mz X.prog X.w H h':=λa ob ea=>
 (I.hok a ob ea).stay (λb u hb q=>by
  have hn:H b≠none:=by
   rcases hb with e|e
   ·rw[e,ea];intro z;cases z
   ·rw[e];intro z;cases z
  exact k b u q (.inr (.inl hn)) λhf=>hn (I.stkFree b hf)) (λ_ q=>q) λ_ _ q=>q
theorem mL(I:Inv X pins σ H s)(us:s.heap.UpToSlots h'){b:LW}{o:Obj}(hb:b∈frs X.stack)(e:s.heap.get? b=some o):∃sl,h'.get? b=some {o with slots:=sl}:=by
 obtain⟨_,o',e',nf⟩:=I.stack.mem hb;rw[e]at e';cases e';exact us b o e nf
theorem xn(I:Inv X pins σ H s)(hx:X.ex=[])(hst:X.stack=X.env::X.outer)(hf:X.env.frame=some X.env.locals)(us:s.heap.UpToSlots h')(k:∀b o,s.heap.get? b=some o->fA X H b->b∉frs X.stack->h'.get? b=some o):
  Un (frs X.outer) [] X.H₀ H X.s₀.heap h':=by
 have U:=I.base;rw[hx]at U;have fr:frs X.stack=X.env.locals::frs X.outer:=by rw[hst];show List.filterMap _ (_::_)=_;rw[Ik,hf];rfl
 have nl:∀b o,X.s₀.heap.get? b=some o->b≠X.env.locals:=λb o q z=>by
  have h1:=Lf q;have h2:=I.ok.above;rw[z]at h1;exact Ig _ (Ie h1 h2)
 have nfr:∀b o,X.s₀.heap.get? b=some o->b∉frs X.outer->b∉frs X.stack:=λb o q nb z=>by
  rw[fr]at z;rcases List.mem_cons.mp z with z|z
  ·exact nl b o q z
  ·exact nb z
 refine⟨λb o q n nb _=>k b o (U.keep b o q n nb (by simp)) (.inl ⟨⟨o,q⟩,by rw[hx];simp⟩) (nfr b o q nb),λb o q n hb _=>?_,λb o q n _=>U.free b o q n (by simp),λb o q _=>?_,U.tups,U.frzs,U.tbls⟩
 ·obtain⟨sl,e⟩:=U.slot b o q n hb (by simp);obtain⟨sl',e'⟩:=mL I us (by rw[fr];exact Im _ hb) e;exact⟨sl',e'⟩
 ·obtain⟨o1,e1⟩:=U.there b o q (by simp);by_cases hb:b∈frs X.stack
  ·obtain⟨sl,e⟩:=mL I us hb e1;exact⟨_,e⟩
  ·exact⟨o1,k b o1 e1 (.inl ⟨⟨o,q⟩,by rw[hx];simp⟩) hb⟩
end
theorem Bu{P:L7}{w:L6}{K:Ky}{mg:bK}{base:L8}{N:al}{qual:Str}{scope:Mg}{f:LW}{cd:LU}{A:Mf}{outer:List Env}{s:LZ}{H:Hp}{E:XK}{σ:St}{O O':aA}{H':Hp}{x:Ex}
  (hx:Gr K H O x E) (sm:aS H H') (hs:∀a∈O,a∈O'):CC (gd (jd P w) P w K mg base N qual scope f cd A outer s H E) σ O' H' x:=by
 rintro pins s1 u H1 I s2 ⟨e,C,dx,rfl,hd,hdx,B,a0,b1,b2,b3,b4,b5⟩;have fin:∀h',Lp B outer e (.ref C) a0 h'->s1.heap.UpToSlots h'->DS s1.heap h'->jd P w outer H s E (.ref e) {s1 with heap:=h'}:=λh' fl us ds=>by
  have k:∀b o,s1.heap.get? b=some o->fA (gd (jd P w) P w K mg base N qual scope f cd A outer s H E) H1 b->b∉frs (gd (jd P w) P w K mg base N qual scope f cd A outer s H E).stack->h'.get? b=some o:=λb o q kb nf=>fl.1 b o (b5 b o q kb nf);have un:=xn I rfl rfl rfl us k;have hok:=rQ I k;refine⟨e,C,dx,H1,B,a0,rfl,λoe' q=>?_,I.os,I.bare,un,hok,fl,λb o q hb nf=>?_,hx C dx H1 (sm.trans s2) (hd.mono (gF hs))⟩
  ·obtain⟨oe,q1⟩:∃oe,s1.heap.get? e=some oe:=by
    rcases b4 with⟨oe,_,_,_,_,h1,_⟩|⟨oe,_,h1,_⟩
    ·exact⟨oe,h1⟩
    ·exact⟨oe,h1⟩
   exact(ds.dict q1 q).trans (hdx oe q1)
  have nf2:b∉frs (gd (jd P w) P w K mg base N qual scope f cd A outer s H E).stack:=λz=>by
   rcases List.mem_cons.mp (show b∈s.heap.objs.size::frs outer from z)with z|z
   ·rcases hb with hb|hb
    ·obtain⟨o',hb⟩:=hb
     have:=Lf hb
     rw[z]at this;exact Ig _ this
    ·rw[z]at hb;exact hb I.free
   ·exact nf z
  have kb:fA (gd (jd P w) P w K mg base N qual scope f cd A outer s H E) H1 b:=hb.elim (λz=>.inl ⟨z,λy=>nomatch y⟩) λz=>.inr (.inl z);obtain⟨o1,e1⟩:∃o1,s1.heap.get? b=some o1:=by
   rcases hb with⟨o',hb⟩|hb
   ·exact I.base.there b o' hb (λz=>nomatch z)
   ·cases q0:H1 b with
    |none=>exact absurd q0 hb
    |some ob=>exact qS (I.hok b ob q0)
  have:=k b o1 e1 kb nf2
  rw[q]at this;cases this;exact b5 b _ e1 kb nf2
 show Mi _ _ (leaving (Ly qual scope s.heap.objs.size f cd) (.ref e)) _ _ s1;refine DP.go (rB _ _) (P:=λh'=>Lp B outer e (.ref C) a0 h'/\s1.heap.UpToSlots h') ?_ λh' z ds=>fin h' z.1 z.2 ds;rcases b4 with b4|⟨oe,vs,c1,c2,c3,c4,c5⟩
 ·exact wpAny_leaves_onW I.ok.frames rfl ⟨b1,b2,b3,b4⟩ λh' fl us=>⟨h',rfl,fl,us⟩
 ·refine wpAny_leaving_firstW I.ok.frames b3 rfl c1 b1 b2 c3 c4 c5 λh' hL=>?_;obtain⟨k1,⟨_,_,k2⟩,k3,k4⟩:=hL;exact⟨h',rfl,⟨k1,b2,k2,c2 ▸ k3⟩,k4⟩
end TG
namespace TG
open PySem PySem.Spec L2
variable[ax]
noncomputable def dU(X:Cx)(σ:St)(O:aA)(H:Hp){α:Type}(r:R α)(Q:α->Prop):Prop:=match r with
 |.ok a=>Q a
 |.error (some x)=>CC X σ O H x
 |.error none=>False
section
variable{X:Cx}{σ:St}{O:aA}{H H':Hp}{α β:Type}
theorem dU.bind{r:R α}{G:α->R β}{Q:β->Prop}(h:dU X σ O H (r.bind G) Q):dU X σ O H r λa=>dU X σ O H (G a) Q:=by
 match r,h with
 |.ok a,h=>exact h
 |.error (some x),h=>exact h
 |.error none,h=>exact h
theorem dU.imp{r:R α}{Q Q':α->Prop}(h:dU X σ O H r Q)(f:∀a,Q a->Q' a):dU X σ O H r Q':=by
 match r,h with
 |.ok a,h=>exact f a h
 |.error (some x),h=>exact h
 |.error none,h=>exact h
theorem dU.mono{r:R α}{Q:α->Prop}(h:dU X σ O H r Q)(s:aS H H'):dU X σ O H' r Q:=by
 match r,h with
 |.ok a,h=>exact h
 |.error (some x),h=>exact CC.mono h s
 |.error none,h=>exact h
theorem dU.rO{o:Option α}{Q:α->Prop}(h:dU X σ O H (rO o) Q):∃a,o=some a/\Q a:=by
 match o,h with
 |some a,h=>exact⟨a,rfl,h⟩
 |none,h=>exact h.elim
end
noncomputable abbrev FX:=ao->R D
noncomputable def tF(X:Cx)(F:FX):TE:=λσ H Q=>∃O ρ,cy X.K O H ρ σ/\dU X σ O H (F ρ) λd=>∀v H',aS H H'->bQ X.K (hid H' O) d v->Q v H'
noncomputable def Fa(X:Cx)(F:bj):TT:=λσ H Q=>∃O ρ,cy X.K O H ρ σ/\dU X σ O H (F ρ) λb=>∀H',aS H H'->Q b H'
noncomputable def FK(X:Cx)(F:aP):TA:=λσ H Q=>∃O ρ,cy X.K O H ρ σ/\dU X σ O H (F ρ) λds=>∀vs H',aS H H'->aN X.K (hid H' O) ds vs->Q vs H'
noncomputable def FE(X:Cx)(e:LX)(F:FX):Prop:=PE X e (tF X F)
noncomputable def FT(X:Cx)(e:LX)(F:bj):Prop:=PT X e (Fa X F)
noncomputable def FW(X:Cx)(e:LX)(F:bj):Prop:=PW X e (Fa X F)
noncomputable def FA(X:Cx)(es:aZ)(F:aP):Prop:=PA X es (FK X F)
theorem PE.weak{X:Cx}{e:LX}{t t':TE}(h:PE X e t)(w:∀σ H Q,t' σ H Q->t σ H Q):PE X e t':=λpins s σ H Q I q=>h pins s σ H Q I (w σ H Q q)
theorem PT.weak{X:Cx}{e:LX}{t t':TT}(h:PT X e t)(w:∀σ H Q,t' σ H Q->t σ H Q):PT X e t':=λpins s σ H Q I q=>h pins s σ H Q I (w σ H Q q)
theorem PW.weak{X:Cx}{e:LX}{t t':TT}(h:PW X e t)(w:∀σ H Q,t' σ H Q->t σ H Q):PW X e t':=λwhole pins s σ H Q I q=>h whole pins s σ H Q I (w σ H Q q)
theorem PA.weak{X:Cx}{es:aZ}{t t':TA}(h:PA X es t)(w:∀σ H Q,t' σ H Q->t σ H Q):PA X es t':=λpos pins s σ H Q I q=>h pos pins s σ H Q I (w σ H Q q)
theorem PS.weak{X:Cx}{st:LY}{t t':TS}(h:PS X st t)(w:∀D σ H,t' D σ H->t D σ H):PS X st t':=λpins s σ H Q I q=>h pins s σ H Q I (w Q σ H q)
theorem mR.weak{X:Cx}{st:cH}{t t':TS}(h:mR X st t)(w:∀D σ H,t' D σ H->t D σ H):mR X st t':=λpins s σ H Q I q=>h pins s σ H Q I (w Q σ H q)
noncomputable def lB(ρ:ao)(i:Nat):R D:=match ρ[i]? with
 |some (some (.val d))=>.ok d
 |_=>un
theorem zk{ρ:ao}{i:Nat}{d:D}(h:lB ρ i=.ok d):ρ[i]?=some (some (.val d)):=by
 unfold lB at h;split at h
 ·rename_i e;cases h;exact e
 ·cases h
noncomputable def aa(i:Nat):FX:=λρ=>lB ρ i
noncomputable def fC(d:D):FX:=λ_=>.ok d
section
variable{X:Cx}
theorem uY{σ:St}{O:aA}{H:Hp}{ρ:ao}{i:Nat}{Q:D->Prop}(h:dU X σ O H (lB ρ i) Q):∃d,ρ[i]?=some (some (.val d))/\Q d:=by
 cases e:lB ρ i with
 |ok d=>rw[e]at h;exact⟨d,zk e,h⟩
 |error z=>
  rw[e]at h;cases z with
  |none=>exact h.elim
  |some x=>
   exfalso;unfold lB at e;split at e
   ·cases e
   ·have:=Except.error.inj e;cases this
theorem iI{e:LX}{d:D}{v:V}(h:PE X e (tC v))(hd:∀K H,bQ K H d v):FE X e (fC d):=
 PE.weak h λσ H Q ⟨O,ρ,E,q⟩=>q v H (aS.refl H) (hd _ _)
noncomputable def noStar:LX->Bool
 |.Starred _ _=>false
 |_=>true
theorem bp{e:LX}{es:aZ}{env:Env}(h:noStar e=true):Mj (e::es) env=(false,eval e env)::Mj es env:=by
 cases e<;>first|rfl|cases h
theorem cj{pos:Pos}{env:Env}:∀{es:aZ},es.all noStar=true->(backTo pos (Mj es env)).any (·.1)=false
 |[],_=>rfl
 |e::es,h=>by
  rw[Jp,Jb]at h;rw[bp h.1];exact cj h.2
noncomputable def ah:aP:=λ_=>.ok []
noncomputable def af(f:FX)(g:aP):aP:=λρ=>(f ρ).bind λx=>(g ρ).bind λxs=>.ok (x::xs)
theorem FC:FA X [] ah:=PA.weak jQ λσ H Q ⟨O,ρ,E,q⟩=>q [] H (aS.refl H) (bX.mpr rfl)
theorem bind_some{α β:Type}{o:Option α}{f:α->Option β}{b:β}(h:o.bind f=some b):∃a,o=some a/\f a=some b:=by
 cases o with
 |none=>cases h
 |some a=>exact⟨a,rfl,h⟩
theorem kK{ε α β:Type}{o:Except ε α}{f:α->Except ε β}{b:β}(h:o.bind f=.ok b):∃a,o=.ok a/\f a=.ok b:=by
 cases o with
 |error _=>cases h
 |ok a=>exact⟨a,rfl,h⟩
theorem EH{e:LX}{es:aZ}{f:FX}{g:aP}(he:FE X e f)(hs:FA X es g)(hns:noStar e=true:=by rfl):FA X (e::es) (af f g):=
 PA.weak (dF he hs (bp hns)) λσ H Q ⟨O,ρ,E,h⟩=>
  ⟨O,ρ,E,(dU.bind h).imp λx h v H1 s1 d1=>⟨O,ρ,E.same s1,((dU.bind h).mono s1).imp λxs q vs H2 s2 d2=>q (v::vs) H2 (s1.trans s2) (bn.mpr ⟨v,vs,rfl,d1.mono (bM s2),d2⟩)⟩⟩
noncomputable def small(n:Nat):Bool:=decide (n<=100000)
theorem b8{n:Nat}(h:small n=true):n<=L9:=Ii (of_decide_eq_true h) (by decide)
theorem cI{n:Nat}(h:n<=100000):small n=true:=decide_eq_true h
noncomputable def nH(xs:List D):bi:=if small xs.length then some (.tup xs)else none
noncomputable def j0(xs:List D):bi:=if small xs.length then some (.lst xs)else none
noncomputable def cz(g:aP):FX:=λρ=>(g ρ).bind λxs=>rO (nH xs)
noncomputable def fP(g:aP):FX:=λρ=>(g ρ).bind λxs=>rO (j0 xs)
theorem bg{α:Type}{c:Bool}{a b:α}(h:(if c then some a else none)=some b):c=true/\a=b:=by
 cases c with
 |true=>exact⟨rfl,Option.some.inj h⟩
 |false=>cases h
theorem c7{K:Ky}{H:Hp}{O:aA}{p:LW}{ds:List D}{vs:aE}(hO:cP H O)(hp:H p=none)(d:aN K (hid H O) ds vs):bQ K (hid (upd H p (.tup vs)) O) (.tup ds) (.ref p):=
 bA.mpr ⟨p,vs,rfl,by rw[iu (hO.not hp),az],d.mono (rN hp)⟩
theorem dH{K:Ky}{H:Hp}{O:aA}{p:LW}{ds:List D}{vs:aE}(hO:cP H O)(hp:H p=none)(d:aN K (hid H O) ds vs):bQ K (hid (upd H p (.lst vs)) O) (.lst ds) (.ref p):=
 bz.mpr ⟨p,vs,rfl,ie.of (by rw[iu (hO.not hp),az]),d.mono (rN hp)⟩
noncomputable def zE(K:Ky)(r:V->Hp->VK->Prop)(g:D->bi):Prop:=
 ∀(a d:D)(x:V)(O:aA)(H:Hp)(Q:VK),cP H O->g a=some d->bQ K (hid H O) a x->(∀v H',aS H H'->bQ K (hid H' O) d v->Q v H')->r x H Q
noncomputable def f1(g:D->bi)(f:FX):FX:=λρ=>(f ρ).bind λa=>rO (g a)
noncomputable def cp(K:Ky)(r:R2)(g:D->D->bi):Prop:=
 ∀(a b d:D)(x y:V)(O:aA)(H:Hp)(Q:VK),cP H O->g a b=some d->bQ K (hid H O) a x->bQ K (hid H O) b y->(∀v H',aS H H'->bQ K (hid H' O) d v->Q v H')->r x y H Q
noncomputable def f2(g:D->D->bi)(f1 f2:FX):FX:=λρ=>(f1 ρ).bind λa=>(f2 ρ).bind λb=>rO (g a b)
theorem oY{r:R2}{g:D->D->bi}{fa fb:FX}(s:cp X.K r g):∀σ H Q,tF X (f2 g fa fb) σ H Q->Di r (tF X fa) (tF X fb) σ H Q:=λσ H Q ⟨O,ρ,E,hF⟩=>
 ⟨O,ρ,E,(dU.bind hF).imp fun a hF x H1 s1 d1=>⟨O,ρ,E.same s1,((dU.bind hF).mono s1).imp fun b hF y H2 s2 d2=>by
  obtain⟨d,e,q⟩:=dU.rO hF;exact s a b d x y O H2 Q (E.all.same (s1.trans s2)) e (d1.mono (bM s2)) d2 λv H3 s3 d3=>q v H3 ((s1.trans s2).trans s3) d3⟩⟩
noncomputable def Gu:D->Option Bool
 |.bl b=>some b
 |_=>none
noncomputable def fB(f:FX):bj:=λρ=>(f ρ).bind λd=>rO (Gu d)
theorem jb{t:TE}{f:FX}(h:∀σ H Q,tF X f σ H Q->t σ H Q):∀σ H Q,Fa X (fB f) σ H Q->xE t σ H Q:=λσ H Q ⟨O,ρ,E,hF⟩=>
 h σ H _ ⟨O,ρ,E,(dU.bind hF).imp λd hF v H1 s1 d1=>by
  obtain⟨b,e,q⟩:=dU.rO hF;cases d with
  |bl b'=>
   cases e;exact⟨b,fN.mp d1,q H1 s1⟩
  |_=>cases e⟩
noncomputable def sN(K:Ky)(r:aE->Hp->VK->Prop)(g:List D->bi):Prop:=
 ∀(ds:List D)(d:D)(xs:aE)(O:aA)(H:Hp)(Q:VK),cP H O->g ds=some d->aN K (hid H O) ds xs->(∀v H',aS H H'->bQ K (hid H' O) d v->Q v H')->r xs H Q
noncomputable def fL(g:List D->bi)(f:aP):FX:=λρ=>(f ρ).bind λds=>rO (g ds)
noncomputable def fR(g:cB)(f:aP):FX:=λρ=>(f ρ).bind g
theorem v8{r:aE->Hp->VK->Prop}{g:List D->bi}{f:aP}(s:sN X.K r g):∀σ H Q,tF X (fL g f) σ H Q->E7 r (FK X f) σ H Q:=λσ H Q ⟨O,ρ,E,hF⟩=>
 ⟨O,ρ,E,(dU.bind hF).imp fun ds hF vs H1 s1 d1=>by
  obtain⟨d,e,q⟩:=dU.rO hF;exact s ds d vs O H1 Q (E.all.same s1) e d1 λv H2 s2 d2=>q v H2 (s1.trans s2) d2⟩
noncomputable def eJ(f:bj):bj:=λρ=>(f ρ).bind λb=>.ok (!b)
noncomputable def jn(f g:bj):bj:=λρ=>(f ρ).bind λb=>if b then g ρ else .ok false
noncomputable def vw(f g:bj):bj:=λρ=>(f ρ).bind λb=>if b then .ok true else g ρ
variable{a b c:LX}{rest:aZ}{pos:Pos}{f g:bj}
theorem FW.ft{e:LX}(h:FW X e f):FT X e f:=PW.pt h
noncomputable def truth:D->Option Bool
 |.non=>some false
 |.bl b=>some b
 |.int i=>some (i !=0)
 |.str x=>if small x.length then some (x.length !=0)else none
 |.tup xs=>some (!xs.isEmpty)
 |.lst xs=>some (!xs.isEmpty)
 |_=>none
noncomputable def bD(f:FX):bj:=λρ=>(f ρ).bind λd=>rO (truth d)
noncomputable def qF(d:D)(k:R D):R D:=match d with
 |.bl true=>k
 |.bl false=>.ok (.bl false)
 |_=>un
noncomputable def DK(d:D)(k:R D):R D:=match d with
 |.bl false=>k
 |.bl true=>.ok (.bl true)
 |_=>un
noncomputable def C5:D->bi
 |.bl b=>some (.bl (!b))
 |_=>none
noncomputable def df(f g:FX):FX:=λρ=>(f ρ).bind λd=>qF d (g ρ)
noncomputable def qO(f g:FX):FX:=λρ=>(f ρ).bind λd=>DK d (g ρ)
noncomputable def iJ(f:FX):FX:=f1 C5 f
variable{fa fb:FX}
noncomputable def EK(t:bj)(f g:FX):FX:=λρ=>(t ρ).bind λc=>if c then f ρ else g ρ
end
end TG
namespace TG
open PySem PySem.Spec L2
variable[ax]
open PySem.SeqAt (EqAt RcAt RcNeAt)
mutual
noncomputable def pyEq:D->D->Bool
 |.non,.non=>true
 |.bl a,.bl b=>a==b
 |.bl a,.int b=>(if a then 1 else 0)==b
 |.int a,.bl b=>a==(if b then 1 else 0)
 |.int a,.int b=>a==b
 |.str a,.str b=>a==b
 |.tup xs,.tup ys=>pyEqL xs ys
 |.lst xs,.lst ys=>pyEqL xs ys
 |.dct _ _,.dct _ _=>true
 |.obj _ _ _,.obj _ _ _=>true
 |.exc _ _ _,.exc _ _ _=>true
 |_,_=>false
noncomputable def pyEqL:List D->List D->Bool
 |[],[]=>true
 |x::xs,y::ys=>pyEq x y&&pyEqL xs ys
 |_,_=>false
end
mutual
theorem dW:∀d:D,pyEq d d=true
 |.non=>by unfold pyEq;rfl
 |.bl b=>by unfold pyEq;simp
 |.int i=>by unfold pyEq;simp
 |.str x=>by unfold pyEq;simp
 |.tup xs=>by unfold pyEq;exact fT xs
 |.lst xs=>by unfold pyEq;exact fT xs
 |.dct _ _=>by unfold pyEq;rfl
 |.obj _ _ _=>by unfold pyEq;rfl
 |.exc _ _ _=>by unfold pyEq;rfl
theorem fT:∀ds:List D,pyEqL ds ds=true
 |[]=>by unfold pyEqL;rfl
 |d::ds=>by unfold pyEqL;rw[dW d,fT ds];rfl
end
noncomputable def rE(xs ys:List D)(j:Nat):Bool:=match xs[j]?,ys[j]? with
 |some a,some b=>pyEq a b
 |_,_=>false
theorem dC:∀xs ys:List D,((List.range (min xs.length ys.length)).all (rE xs ys)&&xs.length==ys.length)=pyEqL xs ys
 |[],[]=>by unfold pyEqL;rfl
 |[],_::_=>by unfold pyEqL;simp
 |_::_,[]=>by unfold pyEqL;simp
 |x::xs,y::ys=>by
  have ih:=dC xs ys
  conv=>rhs;unfold pyEqL
  rw[<-ih];have e:min (x::xs).length (y::ys).length=min xs.length ys.length+1:=by simp only[IE];omega
  rw[e,Jq,Jp,List.all_map];have e2:((x::xs).length==(y::ys).length)=(xs.length==ys.length):=by simp
  rw[e2,Bool.and_assoc];have e3:(List.range (min xs.length ys.length)).all (rE (x::xs) (y::ys)∘Nat.succ)=(List.range (min xs.length ys.length)).all (rE xs ys):=by
   congr 1
  rw[e3];rfl
mutual
noncomputable def pl:D->Bool
 |.tup xs=>dk xs
 |.lst xs=>dk xs
 |.dct _ _=>false
 |.obj _ _ _=>false
 |.exc _ _ _=>false
 |_=>true
noncomputable def dk:List D->Bool
 |[]=>true
 |x::xs=>pl x&&dk xs
end
theorem dy{ks vs:List D}(h:pl (.dct ks vs)=true):False:=by unfold pl at h;cases h
theorem dB{c:Str}{fs:al}{vs:List D}(h:pl (.obj c fs vs)=true):False:=by unfold pl at h;cases h
theorem dr{c:Str}{fs:al}{vs:List D}(h:pl (.exc c fs vs)=true):False:=by unfold pl at h;cases h
theorem eK:∀{xs:List D},dk xs=true->∀x∈xs,pl x=true
 |[],_,_,h=>nomatch h
 |x::xs,h,y,hy=>by
  unfold dk at h;rw[Jb]at h;rcases List.mem_cons.mp hy with z|z
  ·rw[z];exact h.1
  ·exact eK h.2 y z
theorem lA:∀{xs:List D},(∀x∈xs,pl x=true)->dk xs=true
 |[],_=>by unfold dk;rfl
 |x::xs,h=>by
  unfold dk;rw[Jb];exact⟨h x Il,lA λy hy=>h y (Im _ hy)⟩
theorem a7{xs:List D}:pl (.tup xs)=dk xs:=by rw[pl]
theorem cR{xs:List D}:pl (.lst xs)=dk xs:=by rw[pl]
theorem BA{i:Int}:pl (.int i)=true:=by unfold pl;rfl
theorem CI{x:Str}:pl (.str x)=true:=by unfold pl;rfl
noncomputable def a9:Nat->D->Bool
 |n+1,.tup xs=>xs.all (a9 n)
 |n+1,.lst xs=>xs.all (a9 n)
 |0,.tup _=>false
 |0,.lst _=>false
 |_,.dct _ _=>false
 |_,.obj _ _ _=>false
 |_,.exc _ _ _=>false
 |_,_=>true
section
variable{X:Cx}{pins:aV}{σ:St}{H:Hp}{s:LZ}
theorem Inv.not_both(I:Inv X pins σ H s){a:LW}{xs ys:aE}(h:jD X.K H a xs)(h':ie X.K H a ys):False:=by
 obtain⟨its,_,ht,_⟩:=I.tuple h;obtain⟨its2,_,hl,_⟩:=I.list h';exact absurd rfl (SeqAt.ne_of_list_tuple hl.isList (show s.heap.IsTuple a its.toArray from ht))
mutual
theorem Inv.den_inj(I:Inv X pins σ H s):∀{a b:D}{v:V},pl a=true->pl b=true->bQ X.K H a v->bQ X.K H b v->a=b
 |.non,b,v,pa,pb,h,h'=>by
  rw[fu]at h;subst h;cases b with
  |non=>rfl
  |bl _=>rw[fN]at h';cases h'
  |int _=>rw[dQ]at h';cases h'
  |str _=>rw[dE]at h';cases h'
  |tup _=>rw[bA]at h';obtain⟨_,_,e,_⟩:=h';cases e
  |lst _=>rw[bz]at h';obtain⟨_,_,e,_⟩:=h';cases e
  |dct _ _=>exact(dy pb).elim
  |obj _ _ _=>exact(dB pb).elim
  |exc _ _ _=>exact(dr pb).elim
 |.bl x,b,v,pa,pb,h,h'=>by
  rw[fN]at h;subst h;cases b with
  |non=>rw[fu]at h';cases h'
  |bl _=>rw[fN]at h';cases h';rfl
  |int _=>rw[dQ]at h';cases h'
  |str _=>rw[dE]at h';cases h'
  |tup _=>rw[bA]at h';obtain⟨_,_,e,_⟩:=h';cases e
  |lst _=>rw[bz]at h';obtain⟨_,_,e,_⟩:=h';cases e
  |dct _ _=>exact(dy pb).elim
  |obj _ _ _=>exact(dB pb).elim
  |exc _ _ _=>exact(dr pb).elim
 |.int x,b,v,pa,pb,h,h'=>by
  rw[dQ]at h;subst h;cases b with
  |non=>rw[fu]at h';cases h'
  |bl _=>rw[fN]at h';cases h'
  |int _=>rw[dQ]at h';cases h';rfl
  |str _=>rw[dE]at h';cases h'
  |tup _=>rw[bA]at h';obtain⟨_,_,e,_⟩:=h';cases e
  |lst _=>rw[bz]at h';obtain⟨_,_,e,_⟩:=h';cases e
  |dct _ _=>exact(dy pb).elim
  |obj _ _ _=>exact(dB pb).elim
  |exc _ _ _=>exact(dr pb).elim
 |.str x,b,v,pa,pb,h,h'=>by
  rw[dE]at h;subst h;cases b with
  |non=>rw[fu]at h';cases h'
  |bl _=>rw[fN]at h';cases h'
  |int _=>rw[dQ]at h';cases h'
  |str _=>rw[dE]at h';cases h';rfl
  |tup _=>rw[bA]at h';obtain⟨_,_,e,_⟩:=h';cases e
  |lst _=>rw[bz]at h';obtain⟨_,_,e,_⟩:=h';cases e
  |dct _ _=>exact(dy pb).elim
  |obj _ _ _=>exact(dB pb).elim
  |exc _ _ _=>exact(dr pb).elim
 |.tup xs,b,v,pa,pb,h,h'=>by
  rw[bA]at h;obtain⟨a,vs,e,h1,h2⟩:=h;subst e;cases b with
  |non=>rw[fu]at h';cases h'
  |bl _=>rw[fN]at h';cases h'
  |int _=>rw[dQ]at h';cases h'
  |str _=>rw[dE]at h';cases h'
  |tup ys=>
   rw[bA]at h';obtain⟨a',vs',e,h1',h2'⟩:=h';cases e;have ev:=I.tuple_inj (jD.of h1) (jD.of h1');subst ev;rw[Inv.denL_inj I (by first|rw[<-a7];exact pa|rw[<-cR];exact pa) (by first|rw[<-a7];exact pb|rw[<-cR];exact pb) h2 h2']
  |lst _=>rw[bz]at h';obtain⟨_,_,e,h1',_⟩:=h';cases e;exact(Inv.not_both I (jD.of h1) h1').elim
  |dct _ _=>exact(dy pb).elim
  |obj _ _ _=>exact(dB pb).elim
  |exc _ _ _=>exact(dr pb).elim
 |.lst xs,b,v,pa,pb,h,h'=>by
  rw[bz]at h;obtain⟨a,vs,e,h1,h2⟩:=h;subst e;cases b with
  |non=>rw[fu]at h';cases h'
  |bl _=>rw[fN]at h';cases h'
  |int _=>rw[dQ]at h';cases h'
  |str _=>rw[dE]at h';cases h'
  |lst ys=>
   rw[bz]at h';obtain⟨a',vs',e,h1',h2'⟩:=h';cases e;have ev:=I.list_inj h1 h1';subst ev;rw[Inv.denL_inj I (by first|rw[<-a7];exact pa|rw[<-cR];exact pa) (by first|rw[<-a7];exact pb|rw[<-cR];exact pb) h2 h2']
  |tup _=>rw[bA]at h';obtain⟨_,_,e,h1',_⟩:=h';cases e;exact(Inv.not_both I (jD.of h1') h1).elim
  |dct _ _=>exact(dy pb).elim
  |obj _ _ _=>exact(dB pb).elim
  |exc _ _ _=>exact(dr pb).elim
 |.dct _ _,_,_,pa,_,_,_=>(dy pa).elim
 |.obj _ _ _,_,_,pa,_,_,_=>(dB pa).elim
 |.exc _ _ _,_,_,pa,_,_,_=>(dr pa).elim
theorem Inv.denL_inj(I:Inv X pins σ H s):∀{as bs:List D}{vs:aE},dk as=true->dk bs=true->aN X.K H as vs->aN X.K H bs vs->as=bs
 |[],bs,vs,pa,pb,h,h'=>by
  rw[bX]at h;subst h;cases bs with
  |nil=>rfl
  |cons b bs=>rw[bn]at h';obtain⟨_,_,e,_⟩:=h';cases e
 |a::as,bs,vs,pa,pb,h,h'=>by
  rw[bn]at h;obtain⟨v,r,e,h1,h2⟩:=h;subst e;cases bs with
  |nil=>rw[bX]at h';cases h'
  |cons b bs=>
   rw[bn]at h';obtain⟨v',r',e,h1',h2'⟩:=h';cases e;unfold dk at pa pb;rw[Jb]at pa pb;rw[Inv.den_inj I pa.1 pb.1 h1 h1',Inv.denL_inj I pa.2 pb.2 h2 h2']
end
noncomputable def ip:D->Option V
 |.non=>some .non
 |.bl b=>some (.bl b)
 |.int i=>some (.int i)
 |.str x=>some (.str x)
 |_=>none
theorem jU{K:Ky}{d:D}{v x:V}(h:ip d=some x)(hd:bQ K H d v):v=x/\xV x=true:=by
 cases d with
 |non=>cases h;exact⟨fu.mp hd,rfl⟩
 |bl b=>cases h;exact⟨fN.mp hd,rfl⟩
 |int i=>cases h;exact⟨dQ.mp hd,rfl⟩
 |str y=>cases h;exact⟨dE.mp hd,rfl⟩
 |_=>cases h
theorem yE{a b:D}{x y:V}(ha:ip a=some x)(hb:ip b=some y):Gk x y=pyEq a b:=by
 cases a<;>cases ha<;>cases b<;>cases hb<;>(unfold pyEq Gk;rfl)
theorem gw{a:D}{x:V}(n:Nat)(h:ip a=some x):a9 n a=true:=by
 cases a with
 |tup _=>cases h
 |lst _=>cases h
 |dct _ _=>cases h
 |obj _ _ _=>cases h
 |exc _ _ _=>cases h
 |_=>cases n<;>rfl
theorem qo{a:D}(h:ip a=none):a9 0 a=false:=by
 cases a with
 |tup _=>rfl
 |lst _=>rfl
 |dct _ _=>rfl
 |obj _ _ _=>rfl
 |exc _ _ _=>rfl
 |_=>cases h
theorem in1_units(A:Mf):A.in1.units=A.units+1:=rfl
theorem gU{vs:aE}{us:aQ}(r:Vals vs us){j:Nat}(h:j<us.toArray.size):∃x,vs[j]?=some x/\RelV x us.toArray[j]:=by
 have hj:j<us.length:=by simpa using h
 have hl:=r.length;have hv:j<vs.length:=by omega
 obtain⟨u,e,ru⟩:=r.get (i:=j) (x:=vs[j]) (by simp[hv]);refine⟨vs[j],by simp[hv],?_⟩;have e2:us.toArray[j]=u:=by
  rw[Jr hj]at e
  simpa using Option.some.inj e
 rw[e2];exact ru
theorem gM{K:Ky}{ds:List D}{vs:aE}(h:aN K H ds vs){j:Nat}{x:V}(e:vs[j]?=some x):∃d,ds[j]?=some d/\bQ K H d x:=by
 have hj:j<vs.length:=(List.getElem?_eq_some_iff.mp e).1;have hl:=h.length;have hd:j<ds.length:=by omega
 obtain⟨v,e1,e2⟩:=h.get (i:=j) (d:=ds[j]) (by simp[hd]);rw[e]at e1;cases e1;exact⟨ds[j],by simp[hd],e2⟩
theorem qR(I:Inv X pins σ H s):∀(n:Nat)(a b:D)(x y:V)(u v:LU)(A:Mf),pl a=true->pl b=true->(a9 n a=true\/a9 n b=true)->bQ X.K H a x->bQ X.K H b y->RelV x u->RelV y v->A.units+n<MK->EqAt A s u v (pyEq a b):=by
 intro n
 induction n with
 |zero=>
  intro a b x y u v A pa pb hd ha hb ru rv hA;have hu:A.units<MK:=hA;cases ha':ip a with
  |some x'=>
   obtain⟨e,f⟩:=jU ha' ha;subst e;cases hb':ip b with
   |some y'=>
    obtain⟨e,f'⟩:=jU hb' hb;subst e;rw[<-yE ha' hb'];exact CG ru rv f f'
   |none=>
    cases b with
    |tup ys=>
     rw[bA]at hb;obtain⟨p,vs,e,h1,h2⟩:=hb;subst e;cases rv;obtain⟨its,_,ht,_⟩:=I.tuple (jD.of h1);have ht':s.heap.IsTuple p its.toArray:=ht;cases a with
     |non=>cases ha';cases ru;unfold pyEq;exact .none_tuple ht' hu
     |bl z=>cases ha';cases ru;unfold pyEq;exact .bool_tuple z ht' hu
     |int z=>cases ha';obtain⟨t,rfl⟩:=ru;unfold pyEq;exact .int_tuple z t ht' hu
     |str z=>cases ha';obtain⟨t,rfl⟩:=ru;unfold pyEq;exact .str_tuple z t ht' hu
     |_=>cases ha'
    |lst ys=>
     rw[bz]at hb;obtain⟨p,vs,e,h1,h2⟩:=hb;subst e;cases rv;obtain⟨its,_,ht,_⟩:=I.list h1;have ht':s.heap.IsList p its.toArray:=ht.isList;cases a with
     |non=>cases ha';cases ru;unfold pyEq;exact .none_list ht' hu
     |bl z=>cases ha';cases ru;unfold pyEq;exact .bool_list z ht' hu
     |int z=>cases ha';obtain⟨t,rfl⟩:=ru;unfold pyEq;exact .int_list z t ht' hu
     |str z=>cases ha';obtain⟨t,rfl⟩:=ru;unfold pyEq;exact .str_list z t ht' hu
     |_=>cases ha'
    |dct _ _=>exact(dy pb).elim
    |obj _ _ _=>exact(dB pb).elim
    |exc _ _ _=>exact(dr pb).elim
    |_=>cases hb'
  |none=>
   have hdb:a9 0 b=true:=by
    rcases hd with hd|hd
    ·rw[qo ha']at hd;cases hd
    ·exact hd
   cases hb':ip b with
   |none=>rw[qo hb']at hdb;cases hdb
   |some y'=>
    obtain⟨e,f'⟩:=jU hb' hb;subst e;cases a with
    |tup xs=>
     rw[bA]at ha;obtain⟨p,vs,e,h1,h2⟩:=ha;subst e;cases ru;obtain⟨its,_,ht,_⟩:=I.tuple (jD.of h1);have ht':s.heap.IsTuple p its.toArray:=ht;cases b with
     |non=>cases hb';cases rv;unfold pyEq;exact .tuple_none ht' hu
     |bl z=>cases hb';cases rv;unfold pyEq;exact .tuple_bool z ht' hu
     |int z=>cases hb';obtain⟨t,rfl⟩:=rv;unfold pyEq;exact .tuple_int z t ht' hu
     |str z=>cases hb';obtain⟨t,rfl⟩:=rv;unfold pyEq;exact .tuple_str z t ht' hu
     |_=>cases hb'
    |lst xs=>
     rw[bz]at ha;obtain⟨p,vs,e,h1,h2⟩:=ha;subst e;cases ru;obtain⟨its,_,ht,_⟩:=I.list h1;have ht':s.heap.IsList p its.toArray:=ht.isList;cases b with
     |non=>cases hb';cases rv;unfold pyEq;exact .list_none ht' hu
     |bl z=>cases hb';cases rv;unfold pyEq;exact .list_bool z ht' hu
     |int z=>cases hb';obtain⟨t,rfl⟩:=rv;unfold pyEq;exact .list_int z t ht' hu
     |str z=>cases hb';obtain⟨t,rfl⟩:=rv;unfold pyEq;exact .list_str z t ht' hu
     |_=>cases hb'
    |dct _ _=>exact(dy pa).elim
    |obj _ _ _=>exact(dB pa).elim
    |exc _ _ _=>exact(dr pa).elim
    |_=>cases ha'
 |succ n ih=>
  intro a b x y u v A pa pb hd ha hb ru rv hA;have hu:A.units<MK:=by omega
  have flatWay:(∀xs ys,¬(a=.tup xs/\b=.tup ys))->(∀xs ys,¬(a=.lst xs/\b=.lst ys))->EqAt A s u v (pyEq a b):=by
   intro n1 n2;cases ha':ip a with
   |some x'=>exact ih a b x y u v A pa pb (.inl (gw n ha')) ha hb ru rv ‹0›
   |none=>
    cases hb':ip b with
    |some y'=>exact ih a b x y u v A pa pb (.inr (gw n hb')) ha hb ru rv ‹0›
    |none=>
     cases a with
     |tup xs=>
      cases b with
      |tup ys=>exact absurd ⟨rfl,rfl⟩ (n1 xs ys)
      |lst ys=>
       rw[bA]at ha;obtain⟨p,vs,e,h1,h2⟩:=ha;subst e;rw[bz]at hb;obtain⟨p',vs',e,h1',h2'⟩:=hb;subst e;cases ru;cases rv;obtain⟨its,_,ht,_⟩:=I.tuple (jD.of h1);obtain⟨its2,_,ht2,_⟩:=I.list h1';unfold pyEq;exact .tuple_list (show s.heap.IsTuple p its.toArray from ht) ht2.isList hu
      |dct _ _=>exact(dy pb).elim
      |obj _ _ _=>exact(dB pb).elim
      |exc _ _ _=>exact(dr pb).elim
      |_=>cases hb'
     |lst xs=>
      cases b with
      |lst ys=>exact absurd ⟨rfl,rfl⟩ (n2 xs ys)
      |tup ys=>
       rw[bz]at ha;obtain⟨p,vs,e,h1,h2⟩:=ha;subst e;rw[bA]at hb;obtain⟨p',vs',e,h1',h2'⟩:=hb;subst e;cases ru;cases rv;obtain⟨its,_,ht,_⟩:=I.list h1;obtain⟨its2,_,ht2,_⟩:=I.tuple (jD.of h1');unfold pyEq;exact .list_tuple ht.isList (show s.heap.IsTuple p' its2.toArray from ht2) hu
      |dct _ _=>exact(dy pb).elim
      |obj _ _ _=>exact(dB pb).elim
      |exc _ _ _=>exact(dr pb).elim
      |_=>cases hb'
     |dct _ _=>exact(dy pa).elim
     |obj _ _ _=>exact(dB pa).elim
     |exc _ _ _=>exact(dr pa).elim
     |_=>cases ha'
  have items:∀(xs ys:List D)(vs vs':aE)(its its':aQ),dk xs=true->dk ys=true->(a9 (n+1) (.tup xs)=true\/a9 (n+1) (.tup ys)=true)->aN X.K H xs vs->aN X.K H ys vs'->Vals vs its->Vals vs' its'->
    ∀j (h1:j<its.toArray.size) (h2:j<its'.toArray.size),EqAt A.in1 s its.toArray[j] its'.toArray[j] (rE xs ys j):=by
   intro xs ys vs vs' its its' px py hdd hx hy rx ry j h1 h2;obtain⟨w1,e1,r1⟩:=gU rx h1;obtain⟨w2,e2,r2⟩:=gU ry h2;obtain⟨d1,f1,g1⟩:=gM hx e1;obtain⟨d2,f2,g2⟩:=gM hy e2;have e3:rE xs ys j=pyEq d1 d2:=(by unfold rE;rw[f1,f2]);rw[e3];refine ih d1 d2 w1 w2 _ _ A.in1 (eK px _ (IY f1)) (eK py _ (IY f2)) ?_ g1 g2 r1 r2 (by rw[in1_units];omega);rcases hdd with hdd|hdd
   ·exact .inl (List.all_eq_true.mp hdd d1 (IY f1))
   ·exact .inr (List.all_eq_true.mp hdd d2 (IY f2))
  by_cases hT:∃xs ys,a=.tup xs/\b=.tup ys
  ·obtain⟨xs,ys,rfl,rfl⟩:=hT;have da:=ha;have db:=hb;rw[bA]at ha hb;obtain⟨p,vs,e,h1,h2⟩:=ha;subst e;obtain⟨p',vs',e,h1',h2'⟩:=hb;subst e;cases ru;cases rv;by_cases hp:p=p'
   ·subst hp;have e:=Inv.den_inj I pa pb da db;rw[e,dW];exact EqAt.same _
   ·obtain⟨its,rv1,ht,_⟩:=I.tuple (jD.of h1);obtain⟨its2,rv2,ht2,_⟩:=I.tuple (jD.of h1');refine EqAt.of_refs hp ?_;have q:=RcAt.tuples (e:=rE xs ys) (show s.heap.IsTuple p its.toArray from ht) (show s.heap.IsTuple p' its2.toArray from ht2) hu (items xs ys vs vs' its its2 (by first|rw[<-a7];exact pa|rw[<-cR];exact pa) (by first|rw[<-a7];exact pb|rw[<-cR];exact pb) hd h2 h2' rv1 rv2);have z1:its.toArray.size=xs.length:=(by rw[IB,<-rv1.length,<-h2.length]);have z2:its2.toArray.size=ys.length:=(by rw[IB,<-rv2.length,<-h2'.length]);rw[z1,z2,dC]at q;unfold pyEq;exact q
  ·by_cases hL:∃xs ys,a=.lst xs/\b=.lst ys
   ·obtain⟨xs,ys,rfl,rfl⟩:=hL;have da:=ha;have db:=hb;rw[bz]at ha hb;obtain⟨p,vs,e,h1,h2⟩:=ha;subst e;obtain⟨p',vs',e,h1',h2'⟩:=hb;subst e;cases ru;cases rv;by_cases hp:p=p'
    ·subst hp;have e:=Inv.den_inj I pa pb da db;rw[e,dW];exact EqAt.same _
    ·obtain⟨its,rv1,ht,_⟩:=I.list h1;obtain⟨its2,rv2,ht2,_⟩:=I.list h1';refine EqAt.of_refs hp ?_;have z1:its.toArray.size=xs.length:=(by rw[IB,<-rv1.length,<-h2.length]);have z2:its2.toArray.size=ys.length:=(by rw[IB,<-rv2.length,<-h2'.length]);have er:=dC xs ys;by_cases hz:its.toArray.size=its2.toArray.size
     ·have q:=RcAt.lists (e:=rE xs ys) ht.isList ht2.isList hz hu (items xs ys vs vs' its its2 (by first|rw[<-a7];exact pa|rw[<-cR];exact pa) (by first|rw[<-a7];exact pb|rw[<-cR];exact pb) hd h2 h2' rv1 rv2);rw[z1]at q;have hz':xs.length=ys.length:=(by omega);rw[<-hz',Js]at er;simp only[beq_self_eq_true,Jt]at er;rw[er]at q;unfold pyEq;exact q
     ·have hne:(its.toArray.size !=its2.toArray.size)=true:=(by simpa using hz);have q:=RcAt.lists_lengths (A:=A) ht.isList ht2.isList hne hu;have hz':(xs.length==ys.length)=false:=by
       rw[z1,z2]at hz
       simpa using hz
      rw[hz',Ju]at er;unfold pyEq;rw[<-er];exact q
   ·exact flatWay (λxs ys z=>hT ⟨xs,ys,z⟩) λxs ys z=>hL ⟨xs,ys,z⟩
end
end TG
namespace TG
open PySem PySem.Spec L2
variable[ax]
open PySem.SeqAt (EqAt RcAt RcNeAt)
section
variable{X:Cx}{pins:aV}{σ:St}{H:Hp}{s:LZ}
theorem kT(I:Inv X pins σ H s){n:Nat}{xs ys:List D}{vs vs':aE}{its its':aQ}{A:Mf}(px:dk xs=true)(py:dk ys=true)(hdd:a9 (n+1) (.tup xs)=true\/a9 (n+1) (.tup ys)=true)(hx:aN X.K H xs vs)(hy:aN X.K H ys vs')(rx:Vals vs its)(ry:Vals vs' its')(hA:A.units+n<MK):
  ∀j (h1:j<its.toArray.size) (h2:j<its'.toArray.size),EqAt A s its.toArray[j] its'.toArray[j] (rE xs ys j):=by
 intro j h1 h2;obtain⟨w1,e1,r1⟩:=gU rx h1;obtain⟨w2,e2,r2⟩:=gU ry h2;obtain⟨d1,f1,g1⟩:=gM hx e1;obtain⟨d2,f2,g2⟩:=gM hy e2;have e3:rE xs ys j=pyEq d1 d2:=by unfold rE;rw[f1,f2]
 rw[e3];refine qR I n d1 d2 w1 w2 _ _ A (eK px _ (IY f1)) (eK py _ (IY f2)) ?_ g1 g2 r1 r2 hA;rcases hdd with hdd|hdd
 ·exact .inl (List.all_eq_true.mp hdd d1 (IY f1))
 ·exact .inr (List.all_eq_true.mp hdd d2 (IY f2))
inductive Way(I:Inv X pins σ H s):D->LU->Prop where
 |non:Way I .non .none
 |bl (b:Bool):Way I (.bl b) (.bool b)
 |int (i:Int) (t:Tok):Way I (.int i) (.int i t)
 |str (x:Str) (t:Tok):Way I (.str x) (.str x t)
 |tup {xs:List D} {p:LW} {vs:aE} {its:aQ} (h:aN X.K H xs vs) (r:Vals vs its) (t:s.heap.IsTuple p its.toArray):Way I (.tup xs) (.ref p)
 |lst {xs:List D} {p:LW} {vs:aE} {its:aQ} (h:aN X.K H xs vs) (r:Vals vs its) (t:s.heap.IsList p its.toArray):Way I (.lst xs) (.ref p)
noncomputable def top:D->Bool
 |.dct _ _=>false
 |.obj _ _ _=>false
 |.exc _ _ _=>false
 |_=>true
theorem dh{d:D}(h:pl d=true):top d=true:=by
 cases d with
 |dct _ _=>exact(dy h).elim
 |obj _ _ _=>exact(dB h).elim
 |exc _ _ _=>exact(dr h).elim
 |_=>rfl
theorem cY(I:Inv X pins σ H s){d:D}{v:V}{u:LU}(pd:top d=true)(h:bQ X.K H d v)(r:RelV v u):Way I d u:=by
 cases d with
 |non=>rw[fu]at h;subst h;cases r;exact .non
 |bl b=>rw[fN]at h;subst h;cases r;exact .bl b
 |int i=>rw[dQ]at h;subst h;obtain⟨t,rfl⟩:=r;exact .int i t
 |str x=>rw[dE]at h;subst h;obtain⟨t,rfl⟩:=r;exact .str x t
 |tup xs=>
  rw[bA]at h;obtain⟨p,vs,e,h1,h2⟩:=h;subst e;cases r;obtain⟨its,rv,ht,_⟩:=I.tuple (jD.of h1);exact .tup h2 rv ht
 |lst xs=>
  rw[bz]at h;obtain⟨p,vs,e,h1,h2⟩:=h;subst e;cases r;obtain⟨its,rv,ht,_⟩:=I.list h1;exact .lst h2 rv ht.isList
 |dct _ _=>cases pd
 |obj _ _ _=>cases pd
 |exc _ _ _=>cases pd
theorem Cp(I:Inv X pins σ H s){n:Nat}{a b:D}{x y:V}{u v:LU}{A:Mf}(pa:pl a=true)(pb:pl b=true)(hd:a9 (n+1) a=true\/a9 (n+1) b=true)(ha:bQ X.K H a x)(hb:bQ X.K H b y)(ru:RelV x u)(rv:RelV y v)(hA:A.units+n+1<MK):RcAt A s u v (pyEq a b):=by
 have hu:A.units<MK:=by omega
 cases cY I (dh pa) ha ru with
 |non=>cases cY I (dh pb) hb rv with
  |non=>unfold pyEq;exact .none_none
  |bl b=>unfold pyEq;exact .none_bool b
  |int i t=>unfold pyEq;exact .none_int i t
  |str x t=>unfold pyEq;exact .none_str x t
  |tup h r t=>unfold pyEq;exact .none_tuple t hu
  |lst h r t=>unfold pyEq;exact .none_list t hu
 |bl z=>cases cY I (dh pb) hb rv with
  |non=>unfold pyEq;exact .bool_none z
  |bl b=>unfold pyEq;exact .bool_bool z b
  |int i t=>unfold pyEq;exact .bool_int z i t
  |str x t=>unfold pyEq;exact .bool_str z x t
  |tup h r t=>unfold pyEq;exact .bool_tuple z t hu
  |lst h r t=>unfold pyEq;exact .bool_list z t hu
 |int z tz=>cases cY I (dh pb) hb rv with
  |non=>unfold pyEq;exact .int_none z tz
  |bl b=>unfold pyEq;exact .int_bool z tz b
  |int i t=>unfold pyEq;exact .int_int z tz i t
  |str x t=>unfold pyEq;exact .int_str z tz x t
  |tup h r t=>unfold pyEq;exact .int_tuple z tz t hu
  |lst h r t=>unfold pyEq;exact .int_list z tz t hu
 |str z tz=>cases cY I (dh pb) hb rv with
  |non=>unfold pyEq;exact .str_none z tz
  |bl b=>unfold pyEq;exact .str_bool z tz b
  |int i t=>unfold pyEq;exact .str_int z tz i t
  |str x t=>unfold pyEq;exact .str_str z tz x t
  |tup h r t=>unfold pyEq;exact .str_tuple z tz t hu
  |lst h r t=>unfold pyEq;exact .str_list z tz t hu
 |@tup xs p vs its h1 r1 t1=>cases cY I (dh pb) hb rv with
  |non=>unfold pyEq;exact .tuple_none t1 hu
  |bl b=>unfold pyEq;exact .tuple_bool b t1 hu
  |int i t=>unfold pyEq;exact .tuple_int i t t1 hu
  |str x t=>unfold pyEq;exact .tuple_str x t t1 hu
  |@tup ys p' vs' its' h2 r2 t2=>
   have q:=RcAt.tuples (e:=rE xs ys) t1 t2 hu (kT (A:=A.in1) I (by first|rw[<-a7];exact pa|rw[<-cR];exact pa) (by first|rw[<-a7];exact pb|rw[<-cR];exact pb) hd h1 h2 r1 r2 (by rw[in1_units];omega));have z1:its.toArray.size=xs.length:=(by rw[IB,<-r1.length,<-h1.length]);have z2:its'.toArray.size=ys.length:=(by rw[IB,<-r2.length,<-h2.length]);rw[z1,z2,dC]at q;unfold pyEq;exact q
  |lst h r t=>unfold pyEq;exact .tuple_list t1 t hu
 |@lst xs p vs its h1 r1 t1=>cases cY I (dh pb) hb rv with
  |non=>unfold pyEq;exact .list_none t1 hu
  |bl b=>unfold pyEq;exact .list_bool b t1 hu
  |int i t=>unfold pyEq;exact .list_int i t t1 hu
  |str x t=>unfold pyEq;exact .list_str x t t1 hu
  |tup h r t=>unfold pyEq;exact .list_tuple t1 t hu
  |@lst ys p' vs' its' h2 r2 t2=>
   have z1:its.toArray.size=xs.length:=(by rw[IB,<-r1.length,<-h1.length]);have z2:its'.toArray.size=ys.length:=(by rw[IB,<-r2.length,<-h2.length]);have er:=dC xs ys;by_cases hz:its.toArray.size=its'.toArray.size
   ·have q:=RcAt.lists (e:=rE xs ys) t1 t2 hz hu (kT (A:=A.in1) I (by first|rw[<-a7];exact pa|rw[<-cR];exact pa) (by first|rw[<-a7];exact pb|rw[<-cR];exact pb) hd h1 h2 r1 r2 (by rw[in1_units];omega));rw[z1]at q;have hz':xs.length=ys.length:=(by omega);rw[<-hz',Js]at er;simp only[beq_self_eq_true,Jt]at er;rw[er]at q;unfold pyEq;exact q
   ·have q:=RcAt.lists_lengths (A:=A) t1 t2 (by simpa using hz) hu;have hz':(xs.length==ys.length)=false:=by
     rw[z1,z2]at hz
     simpa using hz
    rw[hz',Ju]at er;unfold pyEq;rw[<-er];exact q
theorem v9(I:Inv X pins σ H s){n:Nat}{a b:D}{x y:V}{u v:LU}{A:Mf}(pa:pl a=true)(pb:pl b=true)(hd:a9 (n+1) a=true\/a9 (n+1) b=true)(ha:bQ X.K H a x)(hb:bQ X.K H b y)(ru:RelV x u)(rv:RelV y v)(hA:A.units+n+1<MK):RcNeAt A s u v (!pyEq a b):=by
 have hu:A.units<MK:=by omega
 cases cY I (dh pa) ha ru with
 |non=>cases cY I (dh pb) hb rv with
  |non=>unfold pyEq;exact .none_none
  |bl b=>unfold pyEq;exact .none_bool b
  |int i t=>unfold pyEq;exact .none_int i t
  |str x t=>unfold pyEq;exact .none_str x t
  |tup h r t=>unfold pyEq;exact .none_tuple t hu
  |lst h r t=>unfold pyEq;exact .none_list t hu
 |bl z=>cases cY I (dh pb) hb rv with
  |non=>unfold pyEq;exact .bool_none z
  |bl b=>unfold pyEq;exact .bool_bool z b
  |int i t=>unfold pyEq;exact .bool_int z i t
  |str x t=>unfold pyEq;exact .bool_str z x t
  |tup h r t=>unfold pyEq;exact .bool_tuple z t hu
  |lst h r t=>unfold pyEq;exact .bool_list z t hu
 |int z tz=>cases cY I (dh pb) hb rv with
  |non=>unfold pyEq;exact .int_none z tz
  |bl b=>unfold pyEq;exact .int_bool z tz b
  |int i t=>unfold pyEq;exact .int_int z tz i t
  |str x t=>unfold pyEq;exact .int_str z tz x t
  |tup h r t=>unfold pyEq;exact .int_tuple z tz t hu
  |lst h r t=>unfold pyEq;exact .int_list z tz t hu
 |str z tz=>cases cY I (dh pb) hb rv with
  |non=>unfold pyEq;exact .str_none z tz
  |bl b=>unfold pyEq;exact .str_bool z tz b
  |int i t=>unfold pyEq;exact .str_int z tz i t
  |str x t=>unfold pyEq;exact .str_str z tz x t
  |tup h r t=>unfold pyEq;exact .str_tuple z tz t hu
  |lst h r t=>unfold pyEq;exact .str_list z tz t hu
 |@tup xs p vs its h1 r1 t1=>cases cY I (dh pb) hb rv with
  |non=>unfold pyEq;exact .tuple_none t1 hu
  |bl b=>unfold pyEq;exact .tuple_bool b t1 hu
  |int i t=>unfold pyEq;exact .tuple_int i t t1 hu
  |str x t=>unfold pyEq;exact .tuple_str x t t1 hu
  |@tup ys p' vs' its' h2 r2 t2=>
   have q:=RcNeAt.tuples (e:=rE xs ys) t1 t2 hu (kT (A:=A.in1) I (by first|rw[<-a7];exact pa|rw[<-cR];exact pa) (by first|rw[<-a7];exact pb|rw[<-cR];exact pb) hd h1 h2 r1 r2 (by rw[in1_units];omega));have z1:its.toArray.size=xs.length:=(by rw[IB,<-r1.length,<-h1.length]);have z2:its'.toArray.size=ys.length:=(by rw[IB,<-r2.length,<-h2.length]);rw[z1,z2,dC]at q;unfold pyEq;exact q
  |lst h r t=>unfold pyEq;exact .tuple_list t1 t hu
 |@lst xs p vs its h1 r1 t1=>cases cY I (dh pb) hb rv with
  |non=>unfold pyEq;exact .list_none t1 hu
  |bl b=>unfold pyEq;exact .list_bool b t1 hu
  |int i t=>unfold pyEq;exact .list_int i t t1 hu
  |str x t=>unfold pyEq;exact .list_str x t t1 hu
  |tup h r t=>unfold pyEq;exact .list_tuple t1 t hu
  |@lst ys p' vs' its' h2 r2 t2=>
   have z1:its.toArray.size=xs.length:=(by rw[IB,<-r1.length,<-h1.length]);have z2:its'.toArray.size=ys.length:=(by rw[IB,<-r2.length,<-h2.length]);have er:=dC xs ys;by_cases hz:its.toArray.size=its'.toArray.size
   ·have q:=RcNeAt.lists (e:=rE xs ys) t1 t2 hz hu (kT (A:=A.in1) I (by first|rw[<-a7];exact pa|rw[<-cR];exact pa) (by first|rw[<-a7];exact pb|rw[<-cR];exact pb) hd h1 h2 r1 r2 (by rw[in1_units];omega));rw[z1]at q;have hz':xs.length=ys.length:=(by omega);rw[<-hz',Js]at er;simp only[beq_self_eq_true,Jt]at er;rw[er]at q;unfold pyEq;exact q
   ·have q:=RcNeAt.lists_lengths (A:=A) t1 t2 (by simpa using hz) hu;have hz':(xs.length==ys.length)=false:=by
     rw[z1,z2]at hz
     simpa using hz
    rw[hz',Ju]at er;unfold pyEq;rw[<-er];exact q
end
section
variable{X:Cx}
noncomputable def rD(K:Ky)(g:D->D->bi):R2:=λx y H Q=>∃O a b d,cP H O/\bQ K (hid H O) a x/\bQ K (hid H O) b y/\g a b=some d/\∀v H',aS H H'->bQ K (hid H' O) d v->Q v H'
theorem bU{K:Ky}{g:D->D->bi}:cp K (rD K g) g:=λa b d x y O H Q hO hg ha hb q=>⟨O,a,b,d,hO,ha,hb,hg,q⟩
theorem iD{f : LU -> LU -> Sem LU}{g : D -> D -> bi}(h : ∀ (pins : aV) (s : LZ) (σ : St) (H : Hp) (a b d : D) (x y : V) (u v : LU), Inv X pins σ H s -> bQ X.K H a x -> bQ X.K H b y -> RelV x u -> RelV y v -> g a b = some d ->
      ∃c,d=.bl c/\∀(Q:bx),Q (.bool c) s->Mi (model X.prog X.w) X.A (f u v) Q X.xe s):fO X f (rD X.K g):=by
  rintro pins s σ H x y u v Q I rx ry ⟨O,a,b,d,hO,ha,hb,hg,q⟩;obtain⟨c,rfl,hq⟩:=h pins s σ H a b d x y u v I (ha.mono (aB H O)) (hb.mono (aB H O)) rx ry hg;exact hq _ ⟨.bl c,H,I,rfl,q _ H (aS.refl H) (fN.mpr rfl)⟩
noncomputable def cD(a b:D):bi:=if(pl a&&pl b)&&(a9 8 a||a9 8 b)then some (.bl (pyEq a b))else none
noncomputable def j3(a b:D):bi:=if(pl a&&pl b)&&(a9 8 a||a9 8 b)then some (.bl (!pyEq a b))else none
theorem vI(hu:X.A.units+64<MK):fO X (Mp .Eq) (rD X.K cD):=iD λpins s σ H a b d x y u v I ha hb ru rv hg=>by
 obtain⟨h1,h2⟩:=bg hg;subst h2;rw[Jb,Jb,Jv]at h1;exact⟨_,rfl,λQ q=>Cp (n:=7) (A:=X.A) I h1.1.1 h1.1.2 h1.2 ha hb ru rv ‹0› X.prog X.w X.xe Q q⟩
theorem xg(hu:X.A.units+64<MK):fO X (Mp .NotEq) (rD X.K j3):=iD λpins s σ H a b d x y u v I ha hb ru rv hg=>by
 obtain⟨h1,h2⟩:=bg hg;subst h2;rw[Jb,Jb,Jv]at h1;exact⟨_,rfl,λQ q=>v9 (n:=7) (A:=X.A) I h1.1.1 h1.1.2 h1.2 ha hb ru rv ‹0› X.prog X.w X.xe Q q⟩
noncomputable def inD(x:D)(ys:List D):Bool:=ys.any λy=>pyEq y x
noncomputable def sF(x y:D):bi:=match y with
 |.tup ys=>if(pl x&&dk ys)&&a9 8 x then some (.bl (inD x ys))else none
 |.lst ys=>if(pl x&&dk ys)&&a9 8 x then some (.bl (inD x ys))else none
 |_=>none
noncomputable def eI(x y:D):bi:=match y with
 |.tup ys=>if(pl x&&dk ys)&&a9 8 x then some (.bl (!inD x ys))else none
 |.lst ys=>if(pl x&&dk ys)&&a9 8 x then some (.bl (!inD x ys))else none
 |_=>none
open Classical in
theorem tO{pins:aV}{σ:St}{H:Hp}{s:LZ}(I:Inv X pins σ H s){xd:D}{x:V}{u:LU}{A:Mf}(px:pl xd=true)(hd:a9 8 xd=true)(hx:bQ X.K H xd x)(ru:RelV x u)(hA:A.units+8<MK){ys:List D}{vs:aE}{its:aQ}(py:dk ys=true)(hy:aN X.K H ys vs)(rv:Vals vs its):
  ∃e:LU->Bool,(∀y,y∈its.toArray->EqAt A s y u (e y))/\its.toArray.any e=inD xd ys:=by
 let e:LU->Bool:=λy=>decide (∃d w,pl d=true/\bQ X.K H d w/\RelV w y/\pyEq d xd=true)
 have he:∀d w y,pl d=true->bQ X.K H d w->RelV w y->e y=pyEq d xd:=λd w y h0 h1 h2=>by
  cases hq:pyEq d xd with
  |true=>exact decide_eq_true ⟨d,w,h0,h1,h2,hq⟩
  |false=>
   refine decide_eq_false ?_;rintro⟨d',w',g0,g1,g2,g3⟩;have ew:=RelV.inj h2 g2;subst ew;rw[Inv.den_inj I h0 g0 h1 g1,g3]at hq;cases hq
 refine⟨e,λy hy'=>?_,?_⟩
 ·have hm:y∈its:=by simpa using hy'
  obtain⟨j,hj,rfl⟩:=Jw hm;obtain⟨w,e1,r1⟩:=gU rv (j:=j) (by simpa using hj);obtain⟨d,f1,g1⟩:=gM hy e1;have r1':RelV w its[j]:=by simpa using r1
  have pd:=eK py _ (IY f1);rw[he d w _ pd g1 r1'];exact qR I 8 d xd w x _ u A pd px (.inr hd) g1 hx r1' ru hA
 ·unfold inD;have go:∀(ys:List D)(vs:aE)(its:aQ),dk ys=true->aN X.K H ys vs->Vals vs its->its.any e=ys.any λy=>pyEq y xd:=by
   intro ys
   induction ys with
   |nil=>
    intro vs its py h r;rw[bX]at h;subst h;cases r;rfl
   |cons y ys ih=>
    intro vs its py h r;unfold dk at py;rw[Jb]at py;rw[bn]at h;obtain⟨v,r',e1,h1,h2⟩:=h;subst e1;cases r with
    |cons q1 q2=>rw[Jx,Jx,he y v _ py.1 h1 q1,ih _ _ py.2 h2 q2]
  rw[List.any_toArray];exact go ys vs its py hy rv
theorem wA(hu:X.A.units+64<MK):fO X (Mp .In) (rD X.K sF):=iD λpins s σ H a b d x y u v I ha hb ru rv hg=>by
 cases b with
 |tup ys=>
  obtain⟨h1,h2⟩:=bg hg;subst h2;rw[Jb,Jb]at h1;rw[bA]at hb;obtain⟨p,vs,e,g1,g2⟩:=hb;subst e;cases rv;obtain⟨its,r,t,_⟩:=I.tuple (jD.of g1);obtain⟨e,he,ea⟩:=tO (A:=X.A.in1) I h1.1.1 h1.2 ha ru (by rw[in1_units];omega) h1.1.2 g2 r;exact⟨_,rfl,λQ q=>SeqAt.in_tupleAt e (show s.heap.IsTuple p its.toArray from t) he (by rw[ea];exact q)⟩
 |lst ys=>
  obtain⟨h1,h2⟩:=bg hg;subst h2;rw[Jb,Jb]at h1;rw[bz]at hb;obtain⟨p,vs,e,g1,g2⟩:=hb;subst e;cases rv;obtain⟨its,r,t,_⟩:=I.list g1;obtain⟨e,he,ea⟩:=tO (A:=X.A.in1) I h1.1.1 h1.2 ha ru (by rw[in1_units];omega) h1.1.2 g2 r;exact⟨_,rfl,λQ q=>SeqAt.in_listAt e t.isList he (by rw[ea];exact q)⟩
 |_=>cases hg
theorem nR(hu:X.A.units+64<MK):fO X (Mp .NotIn) (rD X.K eI):=iD λpins s σ H a b d x y u v I ha hb ru rv hg=>by
 cases b with
 |tup ys=>
  obtain⟨h1,h2⟩:=bg hg;subst h2;rw[Jb,Jb]at h1;rw[bA]at hb;obtain⟨p,vs,e,g1,g2⟩:=hb;subst e;cases rv;obtain⟨its,r,t,_⟩:=I.tuple (jD.of g1);obtain⟨e,he,ea⟩:=tO (A:=X.A.in1) I h1.1.1 h1.2 ha ru (by rw[in1_units];omega) h1.1.2 g2 r;exact⟨_,rfl,λQ q=>SeqAt.notIn_tupleAt e (show s.heap.IsTuple p its.toArray from t) he (by rw[ea];exact q)⟩
 |lst ys=>
  obtain⟨h1,h2⟩:=bg hg;subst h2;rw[Jb,Jb]at h1;rw[bz]at hb;obtain⟨p,vs,e,g1,g2⟩:=hb;subst e;cases rv;obtain⟨its,r,t,_⟩:=I.list g1;obtain⟨e,he,ea⟩:=tO (A:=X.A.in1) I h1.1.1 h1.2 ha ru (by rw[in1_units];omega) h1.1.2 g2 r;exact⟨_,rfl,λQ q=>SeqAt.notIn_listAt e t.isList he (by rw[ea];exact q)⟩
 |_=>cases hg
noncomputable def BI(p:Int->Int->D)(a b:D):bi:=match a,b with
 |.int i,.int j=>some (p i j)
 |_,_=>none
noncomputable def Ib:=BI λi j=>.bl (decide (i<j))
noncomputable def uH:=BI λi j=>.bl (decide (i<=j))
noncomputable def EZ:=BI λi j=>.bl (decide (j<i))
noncomputable def DJ:=BI λi j=>.bl (decide (j<=i))
theorem cw{K:Ky}{g:Int->Int->Bool}:cp K (yv λi j=>.bl (g i j)) (BI λi j=>.bl (g i j)):=λa b d x y O H Q hO hg ha hb q=>by
 cases a with
 |int i=>
  cases b with
  |int j=>cases hg;exact⟨i,j,dQ.mp ha,dQ.mp hb,q _ H (aS.refl H) (fN.mpr rfl)⟩
  |_=>cases hg
 |_=>cases hg
theorem rj{K:Ky}{g:Int->Int->Int}:cp K (yv λi j=>.int (g i j)) (BI λi j=>.int (g i j)):=λa b d x y O H Q hO hg ha hb q=>by
 cases a with
 |int i=>
  cases b with
  |int j=>cases hg;exact⟨i,j,dQ.mp ha,dQ.mp hb,q _ H (aS.refl H) (dQ.mpr rfl)⟩
  |_=>cases hg
 |_=>cases hg
noncomputable def DY(c:Int->Int->Bool)(p:Int->Int->Int)(a b:D):bi:=match a,b with
 |.int i,.int j=>if c i j then some (.int (p i j))else none
 |_,_=>none
theorem gO{K:Ky}{C:Int->Int->Prop}{c:Int->Int->Bool}{g:Int->Int->Int}(hc:∀i j,c i j=true->C i j):cp K (rI C λi j=>.int (g i j)) (DY c g):=λa b d x y O H Q hO hg ha hb q=>by
 cases a with
 |int i=>
  cases b with
  |int j=>
   obtain⟨h1,h2⟩:=bg hg;subst h2;exact⟨i,j,dQ.mp ha,dQ.mp hb,hc i j h1,q _ H (aS.refl H) (dQ.mpr rfl)⟩
  |_=>cases hg
 |_=>cases hg
noncomputable def eB:=BI λi j=>.int (i-j)
noncomputable def hX:=DY (λi j=>decide ((-(2^64)<i/\i<2^64)\/(-(2^64)<j/\j<2^64))) (·*·)
noncomputable def A3(_ j:Int):Prop:=0<j/\j<10^200
theorem xh:fO X (Mz .FloorDiv) (rI A3 λi j=>.int (i/j)):=Ey λi j _ _ _ _ _ hc q=>by
 have h1:(0:Int)<j:=hc.1;have h2:j<10^200:=hc.2;refine PyProof.Rows.floordiv_int ‹0› (by rw[Int.fdiv_eq_ediv_of_nonneg i ‹0›];exact q) (.inl (PyProof.noPylong_of_log2 ?_));have h3:j.natAbs<10^200:=by omega
 rw[Nat.log2_lt ‹0›];exact Nat.lt_trans h3 (by decide +kernel)
noncomputable def bE:=DY (λ_ j=>decide (0<j/\j<10^200)) (·/·)
noncomputable def aW:=DY (λ_ j=>decide (0<j)) (·%·)
noncomputable def jS:=DY (λi j=>decide (0<=j/\j<=1000000/\i.natAbs<2^64)) λi j=>i^j.toNat
theorem CZ{K:Ky}:cp K (yv λi j=>.int (i-j)) eB:=rj
theorem B6{K:Ky}:cp K (rI BO λi j=>.int (i*j)) hX:=gO λi j h=>by have q:=of_decide_eq_true h;exact q
theorem Cv{K:Ky}:cp K (rI A3 λi j=>.int (i/j)) bE:=gO λi j h=>by have q:=of_decide_eq_true h;exact q
theorem Ct{K:Ky}:cp K (rI (λ_ j=>0<j) λi j=>.int (i%j)) aW:=gO λ_ _ h=>of_decide_eq_true h
theorem B3{K:Ky}:cp K (rI El λi j=>.int (i^j.toNat)) jS:=gO λi j h=>by have q:=of_decide_eq_true h;exact q
noncomputable def Dr(K:Ky):R2:=λx y H Q=>∃l b xs zs,x=.ref l/\y=.ref b/\ie K H l xs/\ie K H b zs/\xs.length+zs.length<=L9/\∀p,H p=none->Q (.ref p) (upd H p (.lst (xs++zs)))
theorem Ag:fO X (Mz .Add) (Dr X.K):=by
 intro pins s σ H x y v u Q I rx ry h;obtain⟨l,b,xs,zs,rfl,rfl,hH,hB,hz,q⟩:=h;cases rx;cases ry;obtain⟨its,r,t1,_⟩:=I.list hH;obtain⟨its2,r2,t2,_⟩:=I.list hB;obtain⟨⟨c1,d1,dt1,sl1⟩,n1,ho,hc,hd,hdt⟩:=t1;obtain⟨⟨c2,d2,dt2,sl2⟩,n2,ho2,hc2,hd2,hdt2⟩:=t2;simp only at hc hd hdt hc2 hd2 hdt2;subst hc hd hdt hc2 hd2 hdt2;have z1:=r.length;have z2:=r2.length;refine MQ ⟨_,ho,rfl⟩ ⟨_,ho2,rfl⟩ noFill_list_add seq_list_add F.slot_list_add F.entry_list_add (F.args_list_add_2 _ _) (PyProof.Rows.list_addW l b its.toArray its2.toArray n1 n2 none none sl1 sl2 (by rw[IB,IB];omega)) ⟨ho,ho2,?_⟩;have ea:its.toArray++its2.toArray=(its++its2).toArray:=by simp
 rw[ea];exact⟨.ref _,_,I.lnew (t':=s.toks) (r.append r2) (by rw[IZ];omega),rfl,q _ I.fresh⟩
noncomputable def Bl(K:Ky):R2:=λx y H Q=>∃a b xs ys,x=.ref a/\y=.ref b/\jD K H a xs/\jD K H b ys/\xs.length+ys.length<=L9/\
 (xs=[]->Q (.ref b) H)/\(xs≠[]->ys=[]->Q (.ref a) H)/\(xs≠[]->ys≠[]->∀p,H p=none->Q (.ref p) (upd H p (.tup (xs++ys))))
theorem wQ:fO X (Mz .Add) (Bl X.K):=by
 intro pins s σ H x y v u Q I rx ry h;obtain⟨a,b,xs,ys,ex,ey,ha,hb,hz,q0,q1,q2⟩:=h;by_cases hx:xs=[]
 ·subst ex ey;cases rx;cases ry;obtain⟨its,r1,p1,_⟩:=I.tuple ha;obtain⟨its2,r2,p2,_⟩:=I.tuple hb;obtain⟨⟨cls,dd,data,sl⟩,ho,hc,n,hd⟩:=id p1;obtain⟨⟨cls2,dd2,data2,sl2⟩,ho2,hc2,n2,hd2⟩:=id p2;simp only at hc hd hc2 hd2;subst hc hd hc2 hd2;have e:its=[]:=r1.nil_iff.mpr hx;exact MQ ⟨_,ho,rfl⟩ ⟨_,ho2,rfl⟩ MR MS F.slot_tuple_add F.entry_tuple_add (F.args_tuple_add_2 _ _)
   (PyProof.Rows.tuple_addW0 a b its.toArray its2.toArray n n2 dd dd2 sl sl2 (by rw[e];rfl)) ⟨ho,ho2,⟨.ref b,H,I,rfl,q0 hx⟩⟩
 ·exact zf pins s σ H x y v u Q I rx ry ⟨a,b,xs,ys,ex,ey,ha,hb,hx,hz,q1 hx,q2 hx⟩
noncomputable def aJ(a b:D):bi:=match a,b with
 |.int i,.int j=>some (.int (i+j))
 |.str x,.str y=>if small (x.length+y.length)then some (.str (x++y))else none
 |.lst xs,.lst ys=>if small (xs.length+ys.length)then some (.lst (xs++ys))else none
 |.tup xs,.tup ys=>if small (xs.length+ys.length)then some (.tup (xs++ys))else none
 |_,_=>none
theorem yO:fO X (Mz .Add) (rD X.K aJ):=by
 rintro pins s σ H x y u v Q I rx ry ⟨O,a,b,d,hO,ha,hb,hg,q⟩;cases a with
 |int i=>
  cases b with
  |int j=>
   cases hg;exact Bj pins s σ H x y u v Q I rx ry ⟨i,j,dQ.mp ha,dQ.mp hb,q _ H (aS.refl H) (dQ.mpr rfl)⟩
  |_=>cases hg
 |str i=>
  cases b with
  |str j=>
   obtain⟨h1,h2⟩:=bg hg;subst h2;exact qC pins s σ H x y u v Q I rx ry ⟨i,j,dE.mp ha,dE.mp hb,b8 h1,q _ H (aS.refl H) (dE.mpr rfl)⟩
  |_=>cases hg
 |lst xs=>
  cases b with
  |lst ys=>
   obtain⟨h1,h2⟩:=bg hg;subst h2;rw[bz]at ha hb;obtain⟨p,vs,ex,g1,g2⟩:=ha;obtain⟨p',vs',ey,g1',g2'⟩:=hb;refine Ag pins s σ H x y u v Q I rx ry ⟨p,p',vs,vs',ex,ey,(aB H O).seq g1,(aB H O).seq g1',?_,λr hr=>?_⟩
   ·rw[<-g2.length,<-g2'.length];exact b8 h1
   ·exact q _ _ (bI hr _) (dH hO hr (g2.append g2'))
  |_=>cases hg
 |tup xs=>
  cases b with
  |tup ys=>
   obtain⟨h1,h2⟩:=bg hg;subst h2;have da:=ha;have db:=hb;rw[bA]at ha hb;obtain⟨p,vs,ex,g1,g2⟩:=ha;obtain⟨p',vs',ey,g1',g2'⟩:=hb;have l1:=g2.length;have l2:=g2'.length;refine wQ pins s σ H x y u v Q I rx ry ⟨p,p',vs,vs',ex,ey,bH (aB H O) g1,bH (aB H O) g1',?_,λz=>?_,λz z'=>?_,λz z' r hr=>?_⟩
   ·rw[<-l1,<-l2];exact b8 h1
   ·have e:xs=[]:=List.length_eq_zero_iff.mp (by rw[l1,z];rfl);rw[<-ey];refine q _ H (aS.refl H) ?_;rw[e,Jy];exact db
   ·have e:ys=[]:=List.length_eq_zero_iff.mp (by rw[l2,z'];rfl);rw[<-ex];refine q _ H (aS.refl H) ?_;rw[e,IL];exact da
   ·exact q _ _ (bI hr _) (c7 hO hr (g2.append g2'))
  |_=>cases hg
 |_=>cases hg
noncomputable def ai(a b:D):bi:=match a,b with
 |.tup xs,.int i=>iC xs i
 |.lst xs,.int i=>iC xs i
 |.str x,.int i=>if small x.length then(iC x.cps.toList i).bind λc=>some (.str ⟨#[c]⟩)else none
 |_,_=>none
theorem sQ{K:Ky}{H:Hp}{ds:List D}{vs:aE}{i:Int}{d:D}(h:aN K H ds vs)(e:iC ds i=some d):∃v,iC vs i=some v/\bQ K H d v:=by
 unfold iC at e ⊢;obtain⟨j,e1,e2⟩:=bind_some e;rw[<-h.length,e1];exact h.get e2
theorem FP:DN X (rD X.K ai):=by
 rintro value slice pins s σ H x y u v Q I rx ry ⟨O,a,b,d,hO,ha,hb,hg,q⟩ hsub;cases a with
 |tup xs=>
  cases b with
  |int i=>
   rw[bA]at ha;obtain⟨p,vs,ex,g1,g2⟩:=ha;obtain⟨w,e1,e2⟩:=sQ g2 hg;refine Bo value slice pins s σ H x y u v Q I rx ry ?_ hsub;exact⟨p,vs,i,w,ex,dQ.mp hb,bH (aB H O) g1,e1,q w H (aS.refl H) e2⟩
  |_=>cases hg
 |lst xs=>
  cases b with
  |int i=>
   rw[bz]at ha;obtain⟨p,vs,ex,g1,g2⟩:=ha;obtain⟨w,e1,e2⟩:=sQ g2 hg;refine AG value slice pins s σ H x y u v Q I rx ry ?_ hsub;exact⟨p,vs,i,w,ex,dQ.mp hb,(aB H O).seq g1,e1,q w H (aS.refl H) e2⟩
  |_=>cases hg
 |str z=>
  cases b with
  |int i=>
   have hg':(if small z.length then(iC z.cps.toList i).bind λc=>some (D.str ⟨#[c]⟩)else none)=some d:=hg;cases hs:small z.length with
   |false=>rw[hs]at hg';cases hg'
   |true=>
    rw[hs]at hg';obtain⟨c,e1,e2⟩:=bind_some hg';cases e2;refine B1 value slice pins s σ H x y u v Q I rx ry ?_ hsub;exact⟨z,i,c,dE.mp ha,dQ.mp hb,b8 hs,e1,q _ H (aS.refl H) (dE.mpr rfl)⟩
  |_=>cases hg
 |_=>cases hg
noncomputable def cutD{α:Type}(xs:List α)(lo hi:cf):List α:=(xs.drop (HT.sIx xs.length 0 lo)).take (HT.sIx xs.length xs.length hi-HT.sIx xs.length 0 lo)
theorem jZ{α:Type}(xs:List α)(lo hi:cf):(cutD xs lo hi).length<=xs.length:=by
 unfold cutD;rw[IQ,Ja];omega
theorem mE{M:Mh}{A:Mf}{E:bx}{s:LZ}{t:LW}{items:Array LU}{Q:Bool->gb}(ht:Lz s.heap t items)(h:Q true s):Mi M A (Builtin.Tuple.tupleIsExact (.ref t)) Q E s:=by
 unfold Builtin.Tuple.tupleIsExact;refine Mw (MZ ht.typeIs ?_);exact Mv h
theorem h7{prog:L7}{w:L6}{A:Mf}{E:bx}{s:LZ}{t sl:LW}{items:Array LU}{vl vu:LU}{lo hi:cf}{Q:bx}(ht:Lz s.heap t items)(hs:s.heap.IsSliceOf sl vl vu .none)(pl:MT vl lo)(pu:MT vu hi)
  (hw:HT.sIx items.size 0 lo=0/\HT.sIx items.size items.size hi=items.size) (h:Q (.ref t) s):Mi (model prog w) A (getItem (.ref t) (.ref sl)) Q E s:=by
 obtain⟨os,hos,hcs,hds⟩:=id hs;have hTs:s.TypeIs (.ref sl) "slice":=⟨os,hos,hcs⟩
 unfold getItem
 try with_reducible refine MV ?_
 first|refine Mw (Mv ?_)|skip
 refine Mw (wpAny_sequenceKey ht.typeIs (by decide) ?_);refine Mw (MX (name:=Str.ofString "__getitem__") ht.typeIs Lx
  (MY Lx ht.typeIs PyProof.Rows.entry_tuple_getitem ?_ (PyProof.Rows.args_tuple_getitem _ _)))
 show Mi _ _ (Builtin.Tuple.tupleItemsOf (.ref t) >>= _) _ _ s;refine Mw (PyProof.Rows.tupleItemsOf_ ht ?_);refine Mw (MZ hTs ?_);rw[if_pos (by decide)];refine Mw (HT.jM hs pl pu ?_);have hyes:(((HT.sIx items.size 0 lo:Nat):Int)==0&&(1:Int)==1&&(HT.sIx items.size items.size hi-HT.sIx items.size 0 lo)==items.size)=true:=by
  rw[hw.1,hw.2];simp
 show Mi _ _ (if(((HT.sIx items.size 0 lo:Nat):Int)==0&&(1:Int)==1&&(HT.sIx items.size items.size hi-HT.sIx items.size 0 lo)==items.size)=true then _ else _) _ _ s;rw[if_pos hyes];refine Mw (mE ht ?_);rw[if_pos rfl]
 first
  |exact Mw (M4 (Mv ⟨_,rfl,Mv h⟩))
  |exact Mw (M4 (Mw (Mv (Mv ⟨_,rfl,Mv h⟩))))
noncomputable def eU(a:D)(lo hi:cf):bi:=match a with
 |.lst xs=>some (.lst (cutD xs lo hi))
 |.tup xs=>some (.tup (cutD xs lo hi))
 |.str x=>if small x.length then some (.str ⟨(cutD x.cps.toList lo hi).toArray⟩)else none
 |_=>none
theorem A0(v:cf)(d n:Nat)(hd:d<=n):(match v with|none=>(d:Int)|some i=>if(1:Int)>0 then max 0 (min (if i<0 then i+(n:Int)else i) (n:Int))else max (-1) (min (if i<0 then i+(n:Int)else i) ((n:Int)-1)))=((HT.sIx n d v:Nat):Int):=by
 cases v with
 |none=>rfl
 |some i=>
  show(if(1:Int)>0 then max 0 (min (if i<0 then i+(n:Int)else i) (n:Int))else max (-1) (min (if i<0 then i+(n:Int)else i) ((n:Int)-1)))=(((if i<0 then(i+(n:Int)).toNat else min i.toNat n):Nat):Int)
  rw[if_pos (by decide)];by_cases h:i<0
  ·rw[if_pos h,if_pos h];omega
  ·rw[if_neg h,if_neg h];omega
theorem wX(lo hi:cf)(n:Nat):Builtin.Str.strSliceIndices lo hi 1 n=(List.range (HT.sIx n n hi-HT.sIx n 0 lo)).map λk=>HT.sIx n 0 lo+k:=by
 have e1:=A0 lo 0 n (IK _);have e2:=A0 hi n n (Iy _);have e:Builtin.Str.strSliceIndices lo hi 1 n=sliceRange ((HT.sIx n 0 lo:Nat):Int) ((HT.sIx n n hi:Nat):Int) 1:=by
  rw[<-e1,<-e2];cases lo<;>cases hi<;>rfl
 rw[e];unfold sliceRange;dsimp only;rw[if_pos (by decide:(1:Int)>0)];have e3:(if((HT.sIx n 0 lo:Nat):Int)<((HT.sIx n n hi:Nat):Int)then(((HT.sIx n n hi:Nat):Int)-((HT.sIx n 0 lo:Nat):Int)+1-1)/1 else 0:Int).toNat=HT.sIx n n hi-HT.sIx n 0 lo:=by
  rw[Int.ediv_one];split<;>omega
 rw[e3];refine List.map_congr_left λk _=>?_;omega
theorem wG{α:Type}(l:List α)(a:Nat):∀n:Nat,((List.range n).map λk=>a+k).filterMap (λi=>l[i]?)=(l.drop a).take n
 |0=>by simp
 |n+1=>by
  rw[List.range_succ,Jz,List.filterMap_append,wG l a n,List.take_add_one,List.getElem?_drop];cases e:l[a+n]?<;>simp[e]
theorem vm(x:Str)(lo hi:cf):Txt.slice x lo hi=⟨(cutD x.cps.toList lo hi).toArray⟩:=by
 have hl:x.cps.toList.length=x.length:=by simp[Str.length]
 have pick:(Builtin.Str.strSliceIndices lo hi 1 x.length).filterMap (x.cps[·]?)=cutD x.cps.toList lo hi:=by
  rw[wX];have q:=wG x.cps.toList (HT.sIx x.length 0 lo) (HT.sIx x.length x.length hi-HT.sIx x.length 0 lo);unfold cutD;rw[hl,<-q];congr 1;funext i;simp
 unfold Txt.slice;split
 ·rename_i h;have h':(Builtin.Str.strSliceIndices lo hi 1 x.length).length=x.length:=by simpa using h
  rw[wX,IH,JA]at h';have h1:=HT.BQ x.length x.length (Iy _) hi;have z1:HT.sIx x.length 0 lo=0\/x.length=0:=by omega
  have e:cutD x.cps.toList lo hi=x.cps.toList:=by
   unfold cutD;rw[hl,h'];rcases z1 with z1|z1
   ·rw[z1,Jm,<-hl,List.take_length]
   ·have:x.cps.toList=[]:=List.length_eq_zero_iff.mp (by rw[hl];exact z1)
    rw[this];simp
  rw[e]
 ·rw[pick]
noncomputable def Gy(K:Ky):V->cf->cf->Hp->VK->Prop:=λx lo hi H Q=>∃O a d,cP H O/\bQ K (hid H O) a x/\eU a lo hi=some d/\∀v H',aS H H'->bQ K (hid H' O) d v->Q v H'
theorem aN.cut{K:Ky}{H:Hp}{ds:List D}{vs:aE}(h:aN K H ds vs)(lo hi:cf):aN K H (cutD ds lo hi) (qq vs lo hi):=by
 unfold cutD qq;rw[h.length];exact(h.drop _).take _
theorem Fj:En X (Gy X.K):=by
 rintro pins s σ H x v vl vu lo hi sl Q I rx hs pl pu ⟨O,a,d,hO,ha,hg,q⟩;cases a with
 |lst xs=>
  cases hg;rw[bz]at ha;obtain⟨p,vs,ex,g1,g2⟩:=ha;exact z9 pins s σ H x v vl vu lo hi sl Q I rx hs pl pu ⟨p,vs,ex,(aB H O).seq g1,λr hr=>q _ _ (bI hr _) (dH hO hr (g2.cut lo hi))⟩
 |tup xs=>
  cases hg;have da:=ha;rw[bA]at ha;obtain⟨p,vs,ex,g1,g2⟩:=ha;by_cases hw:HT.sIx vs.length 0 lo=0/\HT.sIx vs.length vs.length hi=vs.length
  ·subst ex;cases rx;obtain⟨its,r,ht,hz⟩:=I.tuple (bH (aB H O) g1);have hlen:its.toArray.size=vs.length:=(by rw[IB];exact r.length.symm);refine⟨"tuple",_,PyProof.Rows.slot_tuple_getitem.lookup,ht.typeIs,h7 ht hs pl pu (by rw[hlen];exact hw) ⟨.ref p,H,I,rfl,q _ H (aS.refl H) ?_⟩⟩;have e:cutD xs lo hi=xs:=by
    unfold cutD;rw[g2.length,hw.1,hw.2,JB,Jm,<-g2.length,List.take_length]
   rw[e];exact da
  ·exact B5 pins s σ H x v vl vu lo hi sl Q I rx hs pl pu ⟨p,vs,ex,bH (aB H O) g1,hw,λr hr=>q _ _ (bI hr _) (c7 hO hr (g2.cut lo hi))⟩
 |str z=>
  obtain⟨h1,h2⟩:=bg hg;subst h2;rw[dE]at ha;subst ha;obtain⟨t,rfl⟩:=rx;have fin:∀t' tk,EP X pins σ Q (.str (Txt.slice z lo hi) t') {s with toks:=tk}:=λt' tk=>by
   rw[vm];exact⟨.str _,H,I.tok _,⟨_,rfl⟩,q _ H (aS.refl H) (dE.mpr rfl)⟩
  obtain⟨os,hos,hcs,hds⟩:=id hs;have hz:=b8 h1;refine⟨"str",_,F.slot_str_getitem.lookup,typeIs_str _ _ _,?_⟩;cases pl with
  |none=>
   cases pu with
   |none=>exact M5 (l:=none) (u:=none) (st:=none) ⟨os,hos,hcs,hds⟩ rfl (M6 ⟨Ii (Txt.slice_le z _ _) hz,λt' k=>fin t' k⟩)
   |int j tj=>exact M5 (l:=none) (u:=some (j,tj)) (st:=none) ⟨os,hos,hcs,hds⟩ rfl (M6 ⟨Ii (Txt.slice_le z _ _) hz,λt' k=>fin t' k⟩)
  |int i ti=>
   cases pu with
   |none=>exact M5 (l:=some (i,ti)) (u:=none) (st:=none) ⟨os,hos,hcs,hds⟩ rfl (M6 ⟨Ii (Txt.slice_le z _ _) hz,λt' k=>fin t' k⟩)
   |int j tj=>exact M5 (l:=some (i,ti)) (u:=some (j,tj)) (st:=none) ⟨os,hos,hcs,hds⟩ rfl (M6 ⟨Ii (Txt.slice_le z _ _) hz,λt' k=>fin t' k⟩)
 |_=>cases hg
noncomputable def aD:ao->R (cf):=λ_=>.ok none
noncomputable def qN:D->Option (cf)
 |.int i=>some (some i)
 |_=>none
noncomputable def aO(f:FX):ao->R (cf):=λρ=>(f ρ).bind λd=>rO (qN d)
noncomputable def HX(X:Cx)(F:ao->R cf):TO:=λσ H Q=>∃O ρ,cy X.K O H ρ σ/\dU X σ O H (F ρ) λo=>∀H',aS H H'->Q o H'
noncomputable def FO(X:Cx)(e:Option LX)(F:ao->R cf):Prop:=PO X e (HX X F)
noncomputable def aK(f:FX)(l h:ao->R cf):FX:=λρ=>(f ρ).bind λa=>(l ρ).bind λlo=>(h ρ).bind λhi=>rO (eU a lo hi)
end
end TG
namespace TG
open PySem PySem.Spec L2
variable[ax]
noncomputable def C4(K:Ky)(g:List D->bi):aE->Hp->VK->Prop:=λxs H Q=>∃O ds d,cP H O/\aN K (hid H O) ds xs/\g ds=some d/\∀v H',aS H H'->bQ K (hid H' O) d v->Q v H'
theorem lR{K:Ky}{g:List D->bi}:sN K (C4 K g) g:=λds d xs O H Q hO hg hd q=>⟨O,ds,d,hO,hd,hg,q⟩
section
variable{X:Cx}{x:Str}{p pos:Pos}{e:LX}{es:aZ}{id T:String}{g:List D->bi}{f:aP}
noncomputable def b9:List D->bi
 |[.lst xs]=>some (.int xs.length)
 |[.tup xs]=>some (.int xs.length)
 |[.str x]=>if small x.length then some (.int x.length)else none
 |_=>none
theorem vg:eD X (.builtin "len") (C4 X.K b9):=by
 rintro pins s σ H xs us Q I r ⟨O,ds,d,hO,hd,hg,q⟩;unfold b9 at hg;split at hg
 ·rename_i ys;cases hg;obtain⟨v,ev,h1⟩:=hd.one;rw[bz]at h1;obtain⟨p,vs,ep,g1,g2⟩:=h1;exact iE pins s σ H xs us Q I r ⟨p,vs,by rw[ev,ep],.inl ((aB H O).seq g1),q _ H (aS.refl H) (dQ.mpr (by rw[g2.length]))⟩
 ·rename_i ys;cases hg;obtain⟨v,ev,h1⟩:=hd.one;rw[bA]at h1;obtain⟨p,vs,ep,g1,g2⟩:=h1;exact iE pins s σ H xs us Q I r ⟨p,vs,by rw[ev,ep],.inr (bH (aB H O) g1),q _ H (aS.refl H) (dQ.mpr (by rw[g2.length]))⟩
 ·rename_i z;obtain⟨h1,h2⟩:=bg hg;subst h2;obtain⟨v,ev,h1'⟩:=hd.one;exact oR pins s σ H xs us Q I r ⟨z,by rw[ev,dE.mp h1'],b8 h1,q _ H (aS.refl H) (dQ.mpr rfl)⟩
 ·cases hg
noncomputable def cg:List D->bi
 |[.lst xs]=>some (.tup xs)
 |[.tup xs]=>some (.tup xs)
 |_=>none
theorem pY:eD X (.type "tuple") (C4 X.K cg):=by
 rintro pins s σ H xs us Q I r ⟨O,ds,d,hO,hd,hg,q⟩;unfold cg at hg;split at hg
 ·rename_i ys;cases hg;obtain⟨v,ev,h1⟩:=hd.one;rw[bz]at h1;obtain⟨p,vs,ep,g1,g2⟩:=h1;exact ig pins s σ H xs us Q I r ⟨p,vs,by rw[ev,ep],.inl ⟨(aB H O).seq g1,λl hl=>q _ _ (bI hl _) (c7 hO hl g2)⟩⟩
 ·rename_i ys;cases hg;obtain⟨v,ev,h1⟩:=hd.one;have h0:=h1;rw[bA]at h1;obtain⟨p,vs,ep,g1,g2⟩:=h1;rw[ep]at h0;exact ig pins s σ H xs us Q I r ⟨p,vs,by rw[ev,ep],.inr ⟨bH (aB H O) g1,q _ H (aS.refl H) h0⟩⟩
 ·cases hg
noncomputable def iT:List D->bi
 |[.lst xs]=>some (.lst xs)
 |[.tup xs]=>some (.lst xs)
 |_=>none
theorem qW:eD X (.type "list") (C4 X.K iT):=by
 rintro pins s σ H xs us Q I r ⟨O,ds,d,hO,hd,hg,q⟩;unfold iT at hg;split at hg
 ·rename_i ys;cases hg;obtain⟨v,ev,h1⟩:=hd.one;rw[bz]at h1;obtain⟨p,vs,ep,g1,g2⟩:=h1;exact fX pins s σ H xs us Q I r ⟨p,vs,by rw[ev,ep],.inl ((aB H O).seq g1),λl hl=>q _ _ (bI hl _) (dH hO hl g2)⟩
 ·rename_i ys;cases hg;obtain⟨v,ev,h1⟩:=hd.one;rw[bA]at h1;obtain⟨p,vs,ep,g1,g2⟩:=h1;exact fX pins s σ H xs us Q I r ⟨p,vs,by rw[ev,ep],.inr (bH (aB H O) g1),λl hl=>q _ _ (bI hl _) (dH hO hl g2)⟩
 ·cases hg
noncomputable def Ef:List D->bi
 |[.int i,.int j]=>some (.int (if j>i then j else i))
 |_=>none
noncomputable def Ec:List D->bi
 |[.int i,.int j]=>some (.int (if j<i then j else i))
 |_=>none
noncomputable def Cb:D->String
 |.non=>"NoneType"
 |.bl _=>"bool"
 |.int _=>"int"
 |.str _=>"str"
 |.tup _=>"tuple"
 |.lst _=>"list"
 |.dct _ _=>"dict"
 |_=>""
noncomputable def yT(T:String)(d:D):Bool:=match d with
 |.bl _=>T=="bool"||T=="int"
 |.non=>T=="NoneType"
 |.int _=>T=="int"
 |.str _=>T=="str"
 |.tup _=>T=="tuple"
 |.lst _=>T=="list"
 |.dct _ _=>T=="dict"
 |_=>false
noncomputable def qD(K:Ky)(T:String):Prop:=∀d:D,top d=true->K4 K (.type (Cb d)) (.type T)=some (yT T d)
noncomputable def Gv(K:Ky)(T:String):aE->Hp->VK->Prop:=λxs H Q=>∃O x d,xs=[x,.ty T]/\top d=true/\bQ K (hid H O) d x/\Q (.bl (yT T d)) H
theorem ye(ok:qD X.K T):eD X (.builtin "isinstance") (Gv X.K T):=by
 rintro pins s σ H xs us Q I r ⟨O,x,d,ex,td,hd,q⟩;subst ex;obtain⟨u,w',rfl,rx,rt⟩:=vals2 r;cases rt;have e:=ok d td;have fin:∀tk,EP X pins σ Q (.bool (yT T d)) {s with toks:=tk}:=λtk=>⟨.bl _,H,I.tok _,rfl,q⟩
 cases cY I td (hd.mono (aB H O)) rx with
 |non=>exact K5 PySem.W.kitx_none I.kIn True.intro e (λz=>nomatch z) fin
 |bl b=>exact K5 PySem.W.kitx_bool I.kIn True.intro e (λz=>nomatch z) fin
 |int i t=>exact K5 PySem.W.kitx_int I.kIn True.intro e (λz=>nomatch z) fin
 |str y t=>exact K5 PySem.W.kitx_str I.kIn True.intro e (λz=>nomatch z) fin
 |tup h rv t=>
  obtain⟨o,h1,h2,_⟩:=t;exact K5 PySem.W.kitx_tuple I.kIn ⟨o,h1,h2⟩ e (λz=>nomatch z) fin
 |lst h rv t=>
  obtain⟨o,h1,h2,_⟩:=t;exact K5 PySem.W.kitx_list I.kIn ⟨o,h1,h2⟩ e (λz=>nomatch z) fin
theorem ji:Md "isinstance"=some (.builtin "isinstance"):=by first|rfl|decide +kernel
noncomputable def jP(T:String)(d:D):bi:=if top d then some (.bl (yT T d))else none
noncomputable def fe(T:String)(f:FX):FX:=f1 (jP T) f
end
section
variable{X:Cx}{a:LX}{f:FX}{pos:Pos}
noncomputable def isNon:D->Bool
 |.non=>true
 |_=>false
theorem ny{K:Ky}{H:Hp}{d:D}{v:V}(h:bQ K H d v):decide (v=.non)=isNon d:=by
 cases d with
 |non=>rw[fu.mp h];rfl
 |bl b=>rw[fN.mp h];rfl
 |int i=>rw[dQ.mp h];rfl
 |str x=>rw[dE.mp h];rfl
 |tup xs=>obtain⟨_,_,e,_⟩:=bA.mp h;rw[e];rfl
 |lst xs=>obtain⟨_,_,e,_⟩:=bz.mp h;rw[e];rfl
 |dct _ _=>obtain⟨_,_,e,_⟩:=EV.mp h;rw[e];rfl
 |obj _ _ _=>obtain⟨_,_,e,_⟩:=Fc.mp h;rw[e];rfl
 |exc _ _ _=>obtain⟨_,_,e,_⟩:=EC.mp h;rw[e];rfl
noncomputable def Gd(d:D):bi:=some (.bl (isNon d))
noncomputable def DQ(d:D):bi:=some (.bl (!isNon d))
noncomputable def pJ(f:FX):FX:=f1 Gd f
noncomputable def iQ(f:FX):FX:=f1 DQ f
theorem rX:∀σ H Q,tF X (pJ f) σ H Q->tF X f σ H λv H'=>Q (.bl (decide (v=.non))) H':=λσ H Q ⟨O,ρ,E,hF⟩=>⟨O,ρ,E,(dU.bind hF).imp λa hF v H1 s1 d1=>by
 obtain⟨d,e,q⟩:=dU.rO hF;cases e;rw[ny d1];exact q _ H1 s1 (fN.mpr rfl)⟩
theorem pL:∀σ H Q,tF X (iQ f) σ H Q->tF X f σ H λv H'=>Q (.bl (!decide (v=.non))) H':=λσ H Q ⟨O,ρ,E,hF⟩=>⟨O,ρ,E,(dU.bind hF).imp λa hF v H1 s1 d1=>by
 obtain⟨d,e,q⟩:=dU.rO hF;cases e;rw[ny d1];exact q _ H1 s1 (fN.mpr rfl)⟩
end
noncomputable def Walk(K:Ky)(Hd:Hp)(J:It)(ds:List D):Prop:=
 ∀(Hn:Hp)(O':aA)(i:Nat),cP Hn O'->aS Hd (hid Hn O')->(∀d,ds[i]?=some d->J.go i Hn/\∀x H2,J.yld i Hn x H2->aS Hn H2/\bQ K (hid H2 O') d x)/\(i=ds.length->J.stop i Hn)
noncomputable def GL(X:Cx)(G:aP):TI:=λσ H RR=>∃O ρ,cy X.K O H ρ σ/\dU X σ O H (G ρ) λds=>∀J H1,aS H H1->Walk X.K (hid H1 O) J ds->RR J H1
noncomputable def FI(X:Cx)(tg iter:LX)(G:aP):Prop:=PI X tg iter (GL X G)
noncomputable def lK:D->Option (List D)
 |.lst xs=>some xs
 |.tup xs=>some xs
 |_=>none
noncomputable def aY(f:FX):aP:=λρ=>(f ρ).bind λd=>rO (lK d)
section
variable{X:Cx}{tg:LX}
theorem tZ{K:Ky}{Hd:Hp}{a:LW}{ds:List D}{vs:aE}(h:ie K Hd a vs)(g:aN K Hd ds vs):Walk K Hd (GA K a) ds:=λHn O' i hO s=>
  have s':aS Hd Hn:=s.trans (aB Hn O')
  ⟨fun d e=>by
    obtain⟨v,ev,dv⟩:=g.get e;refine⟨⟨vs,v,s'.seq h,ev⟩,λx H2 ⟨e2,y⟩=>?_⟩;have q:=y vs (s'.seq h);rw[ev]at q;cases q;subst e2;exact⟨aS.refl _,dv.mono s⟩,
   λhl=>⟨vs,s'.seq h,by rw[<-g.length];exact II hl.symm⟩⟩
theorem yx{K:Ky}{Hd:Hp}{a:LW}{ds:List D}{vs:aE}(h:Hd a=some (.tup vs))(g:aN K Hd ds vs):Walk K Hd (F9 K a) ds:=λHn O' i hO s=>
  have s':aS Hd Hn:=s.trans (aB Hn O')
  ⟨fun d e=>by
    obtain⟨v,ev,dv⟩:=g.get e;refine⟨⟨vs,v,bH s' h,ev⟩,λx H2 ⟨e2,y⟩=>?_⟩;have q:=y vs (bH s' h);rw[ev]at q;cases q;subst e2;exact⟨aS.refl _,dv.mono s⟩,
   λhl=>⟨vs,bH s' h,by rw[<-g.length];exact II hl.symm⟩⟩
noncomputable def bq(lo:Int)(n:Nat):List D:=(List.range n).map λ(k:Nat)=>D.int (lo+(k:Int))
theorem my(lo:Int)(n:Nat):(bq lo n).length=n:=by unfold bq;rw[IH,JA]
theorem rC{K:Ky}{Hd:Hp}(lo:Int)(n:Nat):Walk K Hd (E6 lo n) (bq lo n):=λHn O' i hO s=>
  ⟨fun d e=>by
    unfold bq at e;rw[IV]at e;cases hi:(List.range n)[i]? with
    |none=>rw[hi]at e;cases e
    |some k=>
      rw[hi]at e;cases e;have hlt:i<n:=by
        have:=(List.getElem?_eq_some_iff.mp hi).1
        rwa [JA]at this
      have ek:k=i:=by
        rw[JC hlt]at hi;exact(Option.some.inj hi).symm
      subst ek;exact⟨hlt,λx H2 ⟨e1,e2⟩=>by subst e1;exact⟨aS.refl _,dQ.mpr e2⟩⟩,
   λhl=>by rw[my]at hl;exact II hl.symm⟩
noncomputable def okR(j:Int):Bool:=decide (-(2^62)<=j/\j<2^62)
noncomputable def cV:List D->Option (List D)
 |[.int j]=>if okR j then some (bq 0 j.toNat)else none
 |_=>none
noncomputable def sd:List D->Option (List D)
 |[.int i,.int j]=>if okR i&&okR j then some (bq i (j-i).toNat)else none
 |_=>none
noncomputable def aT(f:aP):aP:=λρ=>(f ρ).bind λds=>rO (cV ds)
noncomputable def zT(f:aP):aP:=λρ=>(f ρ).bind λds=>rO (sd ds)
end
noncomputable abbrev GF:=D->ao->Option ao
noncomputable def EQ(K:Ky)(g:GF):TG:=λv σ H Q=>∃O ρ d ρ',cy K O H ρ σ/\bQ K (hid H O) d v/\g d ρ=some ρ'/\∀σ',cy K O H ρ' σ'->(∀(i:Nat) x,ρ'[i]?=some (some x)->(∀d,x≠.val d)->σ'[i]?=σ[i]?/\ρ[i]?=some (some x))->Q σ' H
noncomputable def FG(X:Cx)(tg:LX)(g:GF):Prop:=PG X tg (EQ X.K g)
noncomputable def setV(i:Nat)(d:D)(ρ:ao):ao:=ρ.set i (some (.val d))
theorem aR{α:Type}{l:List α}{i j:Nat}{a b:α}(h:(l.set i a)[j]?=some b):(j=i/\b=a)\/(j≠i/\l[j]?=some b):=by
 by_cases e:j=i
 ·subst e;left;have hj:j<(l.set j a).length:=(List.getElem?_eq_some_iff.mp h).1;rw[List.length_set]at hj;rw[Iq hj]at h;exact⟨rfl,(Option.some.inj h).symm⟩
 ·right;rw[Ir (Ne.symm e)]at h;exact⟨e,h⟩
theorem cy.setV{K:Ky}{O:aA}{H:Hp}{ρ:ao}{σ:St}(E:cy K O H ρ σ){i:Nat}{d:D}{v:V}(hi:i<σ.length)(hd:bQ K (hid H O) d v):cy K O H (setV i d ρ) (σ.set i (some v)):=
  ⟨fun j d' e=>by
    rcases aR e with⟨hj,eq⟩|⟨ne,eq⟩
    ·cases eq;rw[hj];exact⟨v,Iq hi,hd⟩
    · obtain⟨w,e1,e2⟩:=E.val j d' eq
      exact⟨w,by rw[Ir (Ne.symm ne)];exact e1,e2⟩,
   λj xs e=>by
    rcases aR e with⟨_,eq⟩|⟨ne,eq⟩
    ·cases eq
    · obtain⟨a,e1,e2⟩:=E.own j xs eq
      exact⟨a,by rw[Ir (Ne.symm ne)];exact e1,e2⟩,
   λj k xs ys a e1 e2 e3 e4=>by
    rcases aR e1 with⟨_,q1⟩|⟨ne1,q1⟩
    ·cases q1
    · rcases aR e2 with⟨_,q2⟩|⟨ne2,q2⟩
      ·cases q2
      · rw[Ir (Ne.symm ne1)]at e3
        rw[Ir (Ne.symm ne2)]at e4;exact E.one j k xs ys a q1 q2 e3 e4,E.all⟩
section
variable{X:Cx}{pos:Pos}
noncomputable def gN(i:Nat):GF:=λd ρ=>some (setV i d ρ)
noncomputable abbrev yz:=List D->ao->Option ao
noncomputable def Ft(K:Ky)(g:yz):AO:=λvs σ H Q=>∃O ρ ds ρ',cy K O H ρ σ/\aN K (hid H O) ds vs/\g ds ρ=some ρ'/\∀σ',cy K O H ρ' σ'->(∀(i:Nat) x,ρ'[i]?=some (some x)->(∀d,x≠.val d)->σ'[i]?=σ[i]?/\ρ[i]?=some (some x))->Q σ' H
noncomputable def HJ(X:Cx)(ts:aZ)(g:yz):Prop:=DL X ts (Ft X.K g)
noncomputable def Bb:yz:=λds ρ=>match ds with
 |[]=>some ρ
 |_=>none
noncomputable def xY(g:GF)(h:yz):yz:=λds ρ=>match ds with
 |d::r=>(g d ρ).bind λρ1=>h r ρ1
 |_=>none
noncomputable def gT(n:Nat)(g:yz):GF:=λd ρ=>match d with
 |.tup xs=>if xs.length=n then g xs ρ else none
 |_=>none
end
noncomputable def zB{α:Type}(r:R α):R α:=match r with
 |.ok a=>.ok a
 |.error _=>un
theorem wv{α:Type}{r:R α}{a:α}(h:zB r=.ok a):r=.ok a:=by
 cases r with
 |ok b=>exact h
 |error z=>cases h
noncomputable def inB(ix:dL)(ρ:ao):ao:=ix.map λo=>match o with
 |some i=>match ρ[i]? with
  |some (some (.val d))=>some (.val d)
  |_=>none
 |none=>none
noncomputable def mD(ρ:ao)(g:GF)(C:bj)(Fe:FX):List D->R (List D)
 |[]=>.ok []
 |d::ds=>(rO (g d ρ)).bind λρ1=>(zB (C ρ1)).bind λc=>if c then(zB (Fe ρ1)).bind λv=>(mD ρ g C Fe ds).bind λr=>.ok (v::r)else mD ρ g C Fe ds
theorem iN(ρ:ao)(g:GF)(C:bj)(Fe:FX)(d:D)(ds:List D):mD ρ g C Fe (d::ds)=(rO (g d ρ)).bind λρ1=>(zB (C ρ1)).bind λc=>if c then(zB (Fe ρ1)).bind λv=>(mD ρ g C Fe ds).bind λr=>.ok (v::r)else mD ρ g C Fe ds:=rfl
noncomputable def cS(ix:dL)(G:aP)(g:GF)(C:bj)(Fe:FX):FX:=λρ=>(G ρ).bind λds=>if small ds.length then zB ((mD (inB ix ρ) g C Fe ds).bind λr=>.ok (.lst r))else un
noncomputable def G8(X:Cx)(ifs:aZ)(F:bj):Prop:=Cq X ifs (Fa X F)
noncomputable def aU:bj:=λ_=>.ok true
theorem iP{ix:dL}{ρ:ao}{j:Nat}{x:S}(e:(inB ix ρ)[j]?=some (some x)):∃i d,ix[j]?=some (some i)/\ρ[i]?=some (some (.val d))/\x=.val d:=by
 unfold inB at e;rw[IV]at e;cases q:ix[j]? with
 |none=>rw[q]at e;cases e
 |some o=>
  rw[q]at e;cases o with
  |none=>cases e
  |some i=>
   have e':(match ρ[i]? with|some (some (.val d))=>some (S.val d)|_=>none)=some x:=Option.some.inj e;split at e'
   ·rename_i d hd;cases e';exact⟨i,d,rfl,hd,rfl⟩
   ·cases e'
theorem AI{K:Ky}{O:aA}{H:Hp}{ρ:ao}{σ:St}(ix:dL)(E:cy K O H ρ σ):cy K O H (inB ix ρ) (inBlock ix σ):=by
 refine⟨λj d e=>?_,λj xs e=>?_,λj k xs ys a e=>?_,E.all⟩
 ·obtain⟨i,d',q1,q2,q3⟩:=iP e;cases q3;obtain⟨v,e1,e2⟩:=E.val i d q2;refine⟨v,?_,e2⟩;unfold inBlock;rw[IV,q1];show some ((σ[i]?).getD none)=some (some v);rw[e1];rfl
 ·obtain⟨_,_,_,_,q3⟩:=iP e;cases q3
 ·obtain⟨_,_,_,_,q3⟩:=iP e;cases q3
theorem qb{H:Hp}{O:aA}{p:LW}{o:HO}(hp:H p=none):aS (hid H O) (hid (upd H p o) (p::O)):=λb u h=>by
 unfold hid at h ⊢;by_cases hb:b∈O
 ·rw[if_pos hb]at h;cases h
 ·rw[if_neg hb]at h;have ne:=aM h hp;rw[if_neg (by intro z;rcases List.mem_cons.mp z with z|z;exact ne z;exact hb z),au ne];exact h
theorem cy.hideNew{K:Ky}{O:aA}{H:Hp}{ρ:ao}{σ:St}{p:LW}{o:HO}(m:ow o)(E:cy K O H ρ σ)(hp:H p=none):cy K (p::O) (upd H p o) ρ σ:=by
 have s:aS (hid H O) (hid (upd H p o) (p::O)):=qb hp;refine⟨λi d e=>let ⟨v,a,b⟩:=E.val i d e;⟨v,a,b.mono s⟩,λi xs e=>?_,E.one,(E.all.same (bI hp o)).cons az m⟩;obtain⟨a,e1,e2,e3⟩:=E.own i xs e;obtain⟨u,hu⟩:=e3.some;exact⟨a,e1,Im _ e2,e3.mono (by rw[au (aM hu hp)]) s⟩
theorem cy.rewrite{K:Ky}{O:aA}{H:Hp}{ρ:ao}{σ:St}{p:LW}{o:HO}(m:ow o)(E:cy K O H ρ σ)(hp:p∈O)(hs:∀(i:Nat) xs,ρ[i]?=some (some (.own xs))->σ[i]?≠some (some (.ref p))):cy K O (upd H p o) ρ σ:=by
 have s:aS (hid H O) (hid (upd H p o) O):=ki hp;refine⟨λi d e=>let ⟨v,a,b⟩:=E.val i d e;⟨v,a,b.mono s⟩,λi xs e=>?_,E.one,E.all.upd hp m⟩;obtain⟨a,e1,e2,e3⟩:=E.own i xs e;have ne:a≠p:=λz=>hs i xs e (by rw[<-z];exact e1);exact⟨a,e1,e2,e3.mono (by rw[au ne]) s⟩
theorem cy.forget{K:Ky}{O:aA}{H:Hp}{ρ ρ':ao}{σ:St}(E:cy K O H ρ σ)(h:∀(i:Nat) x,ρ'[i]?=some (some x)->ρ[i]?=some (some x)):cy K O H ρ' σ:=
 ⟨λi d e=>E.val i d (h i _ e),λi xs e=>E.own i xs (h i _ e),λi j xs ys a e1 e2=>E.one i j xs ys a (h i _ e1) (h j _ e2),E.all⟩
noncomputable def Fills(ρ:ao)(g:GF):Prop:=∀d ρ1,g d ρ=some ρ1->∀(i:Nat) x,ρ[i]?=some (some x)->ρ1[i]?=some (some x)
theorem nI(ix:dL)(ρ:ao):∀(i:Nat) xs,(inB ix ρ)[i]?≠some (some (.own xs)):=by
 intro j xs e;obtain⟨_,_,_,_,q3⟩:=iP e;cases q3
theorem Dt{α:Type}{o:Option α}{a:α}(h:rO o=.ok a):o=some a:=by
 cases o with
 |none=>cases h
 |some b=>cases h;rfl
end TG
namespace TG
open PySem PySem.Spec L2
variable[ax]
section
variable{X:Cx}{elt tg iter:LX}{ifs:aZ}{scope:Mg}{pos:Pos}{N:al}{ix:dL}{G:aP}{g:GF}{C:bj}{Fe:FX}
structure ka(ix:dL)(g:GF):Prop where
 fill:∀ρ,Fills (inB ix ρ) g
 own:∀ρ d ρ1,g d (inB ix ρ)=some ρ1->∀(i:Nat) xs,ρ1[i]?≠some (some (.own xs))
theorem pQ{ρ:ao}{i:Nat}(h:ix[i]?=some none):∀x,(inB ix ρ)[i]?≠some (some x):=λx e=>by
 obtain⟨_,_,q,_⟩:=iP e;rw[h]at q;cases q
theorem gV{i:Nat}(h:ix[i]?=some none):ka ix (gN i):=
  ⟨fun ρ d ρ1 e j x q=>by
    cases e;by_cases z:j=i
    ·subst z;exact absurd q (pQ h x)
    ·unfold setV;rw[Ir (Ne.symm z)];exact q,
   λρ d ρ1 e j xs q=>by
    cases e;rcases aR q with⟨_,z⟩|⟨_,z⟩
    ·cases z
    ·exact nI ix ρ j xs z⟩
noncomputable def yV(ix:dL)(is:List Nat):Bool:=is.all λi=>match ix[i]? with
 |some none=>true
 |_=>false
noncomputable def pj:List Nat->yz
 |[]=>Bb
 |i::is=>xY (gN i) (pj is)
theorem rZ:∀(is:List Nat)(ds:List D)(ρ ρ1:ao),pj is ds ρ=some ρ1->∀(k:Nat)(x:S),ρ1[k]?=some (some x)->(k∈is/\∃d,x=.val d)\/ρ[k]?=some (some x)
 |[],ds,ρ,ρ1,h,k,x,e=>by
  cases ds with
  |nil=>cases h;exact .inr e
  |cons _ _=>cases h
 |i::is,ds,ρ,ρ1,h,k,x,e=>by
  cases ds with
  |nil=>cases h
  |cons d ds=>
   rcases rZ is ds (setV i d ρ) ρ1 h k x e with⟨a,b⟩|q
   ·exact .inl ⟨Im _ a,b⟩
   ·rcases aR q with⟨z,w⟩|⟨_,w⟩
    ·exact .inl ⟨by rw[z];exact Il,d,Option.some.inj w⟩
    ·exact .inr w
theorem qc:∀(is:List Nat)(ds:List D)(ρ ρ1:ao),pj is ds ρ=some ρ1->∀(k:Nat)(x:S),k∉is->ρ[k]?=some (some x)->ρ1[k]?=some (some x)
 |[],ds,ρ,ρ1,h,k,x,_,e=>by
  cases ds with
  |nil=>cases h;exact e
  |cons _ _=>cases h
 |i::is,ds,ρ,ρ1,h,k,x,n,e=>by
  cases ds with
  |nil=>cases h
  |cons d ds=>
   refine qc is ds (setV i d ρ) ρ1 h k x (λz=>n (Im _ z)) ?_;unfold setV;rw[Ir (λz=>n (by rw[z];exact Il))];exact e
theorem fH{is:List Nat}{n:Nat}(h:yV ix is=true):ka ix (gT n (pj is)):=by
 have hn:∀i∈is,ix[i]?=some none:=λi hi=>by
  have:=List.all_eq_true.mp h i hi
  cases e:ix[i]? with
  |none=>rw[e]at this;cases this
  |some o=>cases o with
   |none=>rfl
   |some _=>rw[e]at this;cases this
 have shape:∀ρ d ρ1,gT n (pj is) d ρ=some ρ1->∃ds,pj is ds ρ=some ρ1:=λρ d ρ1 e=>by
  cases d with
  |tup xs=>
   have e':(if xs.length=n then pj is xs ρ else none)=some ρ1:=e;by_cases hl:xs.length=n
   ·rw[if_pos hl]at e';exact⟨xs,e'⟩
   ·rw[if_neg hl]at e';cases e'
  |_=>cases e
 refine⟨λρ d ρ1 e k x q=>?_,λρ d ρ1 e k xs q=>?_⟩
 ·obtain⟨ds,e⟩:=shape _ d ρ1 e;exact qc is ds _ ρ1 e k x (λz=>pQ (hn k z) x q) q
 ·obtain⟨ds,e⟩:=shape _ d ρ1 e;rcases rZ is ds _ ρ1 e k _ q with⟨_,d,z⟩|z
  ·cases z
  ·exact nI ix ρ k xs z
structure jq(X:Cx)(scope:Mg)(N:al)(ix:dL):Prop where
 cell:∀y∈scope.names,y.2≠.cell
 kind:scope.kind=.function
 names:∀y∈scope.names,y.2=.local->scope.names.lookup y.1=some .local
 free:∀y∈scope.names,y.2=.free->X.env.scope.names.lookup y.1=some .cell\/X.env.scope.names.lookup y.1=some .free
 ix:oF X.N N scope.names ix=true
noncomputable def gJ(XS:lP)(XN:al)(scope:Mg)(N:al)(ix:dL):Bool:=
 scope.names.all (λy=>decide (y.2≠.cell))&&decide (scope.kind=.function)&&scope.names.all (λy=>decide (y.2≠.local)||decide (scope.names.lookup y.1=some .local)) &&
  scope.names.all (λy=>decide (y.2≠.free)||(decide (XS.lookup y.1=some .cell)||decide (XS.lookup y.1=some .free)))&&oF XN N scope.names ix
theorem jq.of(h:gJ X.env.scope.names X.N scope N ix=true):jq X scope N ix:=by
 unfold gJ at h;simp only[Jb]at h;obtain⟨⟨⟨⟨h1,h2⟩,h3⟩,h4⟩,h5⟩:=h;refine⟨λy hy=>of_decide_eq_true (List.all_eq_true.mp h1 y hy),of_decide_eq_true h2,λy hy e=>?_,λy hy e=>?_,h5⟩
 ·rcases Jv _ _ ▸ List.all_eq_true.mp h3 y hy with q|q
  ·exact absurd e (of_decide_eq_true q)
  ·exact of_decide_eq_true q
 ·rcases Jv _ _ ▸ List.all_eq_true.mp h4 y hy with q|q
  ·exact absurd e (of_decide_eq_true q)
  ·rcases Jv _ _ ▸ q with q|q
   ·exact .inl (of_decide_eq_true q)
   ·exact .inr (of_decide_eq_true q)
noncomputable def G9(X:Cx)(scope:Mg)(N:al)(tg elt:LX)(ifs:aZ)(g:GF)(C:bj)(Fe:FX):Prop:=
 ∀cl C' fp s H E,FG (bF X scope N cl C' fp s H E) tg g/\G8 (bF X scope N cl C' fp s H E) ifs C/\FE (bF X scope N cl C' fp s H E) elt Fe
noncomputable def Cg(K:Ky)(F:bj):TT:=λσ H Q=>∃O ρ b,cy K O H ρ σ/\F ρ=.ok b/\∀H',aS H H'->Q b H'
noncomputable def F5(K:Ky)(F:FX):TE:=λσ H Q=>∃O ρ d,cy K O H ρ σ/\F ρ=.ok d/\∀v H',aS H H'->bQ K (hid H' O) d v->Q v H'
theorem G9.k(hb:G9 X scope N tg elt ifs g C Fe):∀cl C' fp s H E,PG (bF X scope N cl C' fp s H E) tg (EQ X.K g)/\Cq (bF X scope N cl C' fp s H E) ifs (Cg X.K C)/\PE (bF X scope N cl C' fp s H E) elt (F5 X.K Fe):=λcl C' fp s H E=>by
 obtain⟨h1,h2,h3⟩:=hb cl C' fp s H E;refine⟨h1,λpins s σ H Q I ⟨O,ρ,b,e1,e2,q⟩=>h2 pins s σ H Q I ⟨O,ρ,e1,by rw[e2];exact q⟩,λpins s σ H Q I ⟨O,ρ,d,e1,e2,q⟩=>h3 pins s σ H Q I ⟨O,ρ,e1,by rw[e2];exact q⟩⟩
noncomputable def Fv(X:Cx)(F:FX):TE:=λσ H Q=>∃O ρ,cy X.K O H ρ σ/\dU X σ O H (F ρ) λd=>∀D H' total acc,d=.lst total->aS H H'->H D=none->H' D=some (.lst acc)->aN X.K (hid H' (D::O)) total acc->Q (.ref D) H'
theorem GR{F:FX}:∀σ H Q,tF X F σ H Q->Fv X F σ H Q:=λσ H Q ⟨O,ρ,E,hF⟩=>⟨O,ρ,E,hF.imp λd q D H' total acc e sm hD hD' dn=>by
 subst e;have DO:D∉O:=E.all.not hD;exact q _ H' sm (bz.mpr ⟨D,acc,rfl,ie.of (by rw[iu DO];exact hD'),dn.mono (gF λa ha=>Im _ ha)⟩)⟩
theorem wr(tk:ka ix g):∀σ H Q,Fv X (cS ix G g C Fe) σ H Q->Ep (GL X G) (EQ X.K g) (Cg X.K C) (F5 X.K Fe) ix σ H Q:=λσ H Q ⟨O,ρ,E,hF⟩=>by
 refine⟨O,ρ,E,(dU.bind hF).imp λds hF=>?_⟩;have hz:small ds.length=true:=by
  cases e:small ds.length with
  |true=>rfl
  |false=>rw[e]at hF;exact hF.elim
 rw[hz,if_pos rfl]at hF;cases hL:mD (inB ix ρ) g C Fe ds with
 |error z=>rw[hL]at hF;exact hF.elim
 |ok total=>
 rw[hL]at hF;have q:∀D H' total' acc,TG.D.lst total=.lst total'->aS H H'->H D=none->H' D=some (.lst acc)->aN X.K (hid H' (D::O)) total' acc->Q (.ref D) H':=hF;have e2:=hL;have hfill:=tk.fill;have hown:=tk.own;refine λJ H1 s1 wk D hD=>?_;have E1:cy X.K (D::O) (upd H1 D (.lst [])) (inB ix ρ) (inBlock ix σ):=((AI ix E).same s1).hideNew trivial hD;have DO:D∉O:=(E.all.same s1).not hD;refine⟨λi m σ' H'=>m=ds.length-i/\i<=ds.length/\aS H1 H'/\cy X.K (D::O) H' (inB ix ρ) σ'/\∃acc dn rest,H' D=some (.lst acc)/\acc.length<=i/\aN X.K (hid H' (D::O)) dn acc/\mD (inB ix ρ) g C Fe (ds.drop i)=.ok rest/\dn++rest=total,
  ⟨ds.length,by rw[JB],IK _,bI hD _,E1,[],[],total,az,Iy _,bX.mpr rfl,by rw[Jm];exact e2,rfl⟩,?_⟩
 rintro i m σ' H' ⟨rfl,hi,sm,E',acc,dn,rest,hacc,hlen,hdn,hrest,htot⟩;have sH:aS (hid H1 O) (hid H' (D::O)):=λb o h=>by
  have h2:=sm b o (aB H1 O b o h);unfold hid at h ⊢;by_cases hb:b∈O
  ·rw[if_pos hb]at h;cases h
  ·rw[if_neg hb]at h;have ne:b≠D:=aM h hD;rw[if_neg (by intro z;rcases List.mem_cons.mp z with z|z;exact ne z;exact hb z)];exact h2
 by_cases hlt:i<ds.length
 ·right;obtain⟨go,yl⟩:=(wk H' (D::O) i E'.all sH).1 ds[i] (by simp[hlt]);refine⟨go,λx H2 y=>?_⟩;obtain⟨s2,dx'⟩:=yl x H2 y;have E':=E'.same s2;have sm:=sm.trans s2;have hacc:=s2 _ _ hacc;have hdn:=hdn.mono (bM s2);rw[JD hlt,iN]at hrest;obtain⟨ρ1,g1,hrest⟩:=kK hrest;have g1:=Dt g1;obtain⟨c,c1,hrest⟩:=kK hrest;have c1:=wv c1;refine⟨D::O,inB ix ρ,ds[i],ρ1,E',dx',g1,λσ3 E3 _=>?_⟩;refine⟨D::O,ρ1,c,E3,c1,λH4 s4=>?_⟩;have E4:=E3.same s4;have back:∀{H5:Hp},cy X.K (D::O) H5 ρ1 σ3->cy X.K (D::O) H5 (inB ix ρ) σ3:=λz=>z.forget λj x e=>hfill ρ _ _ g1 j x e;cases c with
  |true=>
   refine pD ?_;rw[if_pos rfl]at hrest;obtain⟨v,v1,hrest⟩:=kK hrest;have v1:=wv v1;obtain⟨r,r1,hrest⟩:=kK hrest;cases hrest;refine⟨D::O,ρ1,v,E4,v1,λw H5 s5 dw=>?_⟩;have s45:=s4.trans s5;have ha5:H5 D=some (.lst acc):=s45 _ _ hacc;have hzl:ds.length<L9:=Nat.lt_of_le_of_lt (of_decide_eq_true hz) (by decide);refine⟨acc,ha5,by omega,ds.length-(i+1),by omega,rfl,hlt,?_,?_,acc++[w],dn++[v],r,az,by rw[IZ,Jd];omega,?_,r1,by rw[JE];exact htot⟩
   ·intro b o h;rw[au (aM h hD)];exact s45 _ _ (sm _ _ h)
   ·exact back ((E3.same s45).rewrite trivial Il λj xs e=>absurd e (hown ρ _ _ g1 j xs))
   ·have s6:aS (hid H5 (D::O)) (hid (upd H5 D (.lst (acc++[w]))) (D::O)):=ki Il;exact(hdn.mono ((bM s45).trans s6)).snoc (dw.mono s6)
  |false=>
   refine o4 ?_;rw[if_neg Iu]at hrest;exact⟨ds.length-(i+1),by omega,rfl,hlt,sm.trans s4,back E4,acc,dn,rest,s4 _ _ hacc,by omega,hdn.mono (bM s4),hrest,htot⟩
 ·left;have ei:i=ds.length:=by omega
  subst ei;refine⟨(wk H' (D::O) ds.length E'.all sH).2 rfl,?_⟩;rw[List.drop_length]at hrest;cases hrest;rw[IL]at htot;subst htot;exact q D H' _ acc rfl (s1.trans sm) (s1.free hD) hacc hdn
theorem AJ(tk:ka ix g):∀σ H Q,tF X (cS ix G g C Fe) σ H Q->Ep (GL X G) (EQ X.K g) (Cg X.K C) (F5 X.K Fe) ix σ H Q:=λσ H Q h=>wr tk σ H Q (GR σ H Q h)
end
structure Ks where
 nx:ao->R D
 bk:ao->R D:=λ_=>un
 ct:ao->R D:=λ_=>un
 ex:Ex->ao->R D:=λx _=>.error (some x)
noncomputable abbrev bB:=Ks->ao->R D
noncomputable def kF{α:Type}(r:R α)(k:Ks)(ρ:ao)(f:α->R D):R D:=match r with
 |.ok a=>f a
 |.error (some x)=>k.ex x ρ
 |.error none=>un
structure Base(Hb:Hp)(Ob:aA)(H:Hp)(O:aA):Prop where
 same:aS Hb H
 sub:∀a∈Ob,a∈O
 new:∀a∈O,a∈Ob\/Hb a=none
noncomputable def xx(K:Ky)(H:Hp)(O:aA):aA->List D->Prop
 |[],[]=>True
 |b::bs,x::xs=>gB K H O b x/\xx K H O bs xs
 |_,_=>False
noncomputable def sC(K:Ky)(H:Hp)(O:aA)(a:LW)(bs:aA)(d:D):Prop:=
 ∃xs,xx K H O bs xs/\((d=.lst xs/\H a=some (.lst (bs.map .ref)))\/(∃kvs:List (List Key×V),d=.dct (kvs.map λp=>.tup (p.1.map oj)) xs/\H a=some (.dT kvs)/\kvs.map (·.2)=bs.map .ref)\/(d=.dct [] xs/\bs=[]/\H a=some (.dK [])))
noncomputable def yt(K:Ky)(Hb:Hp)(Ob O:aA)(H:Hp)(ρ:ao)(σ:St)(i:Nat)(d:D):Prop:=
 ∃a bs,σ[i]?=some (some (.ref a))/\sC K H O a bs d/\(a::bs).Nodup/\(∀b∈a::bs,b∈O/\Hb b=none/\b∉Ob/\∀(j:Nat) d',ρ[j]?=some (some (.own d'))->σ[j]?≠some (some (.ref b)))/\∀(j:Nat) d',ρ[j]?=some (some (.nest d'))->j=i
theorem xx.mono{K:Ky}{H H':Hp}{O O':aA}(s:aS (hid H O) (hid H' O')):∀{bs:aA}{xs:List D},xx K H O bs xs->(∀b∈bs,(∃o,H b=some o)->H' b=H b)->xx K H' O' bs xs
 |[],[],_,_=>trivial
 |b::bs,x::xs,h,e=>⟨h.1.mono (e b Il h.1.some).symm s,xx.mono s h.2 λb' hb=>e b' (Im _ hb)⟩
 |[],_::_,h,_=>h.elim
 |_::_,[],h,_=>h.elim
theorem xx.some{K:Ky}{H:Hp}{O:aA}:∀{bs:aA}{xs:List D},xx K H O bs xs->∀b∈bs,∃o,H b=some o
 |[],_,_,_,hb=>nomatch hb
 |b::bs,x::xs,h,b',hb=>by
  rcases List.mem_cons.mp hb with z|z
  ·rw[z];exact h.1.some
  ·exact xx.some h.2 b' z
 |_::_,[],h,_,_=>h.elim
theorem sC.some{K:Ky}{H:Hp}{O:aA}{a:LW}{bs:aA}{d:D}(h:sC K H O a bs d):∀b∈a::bs,∃o,H b=some o:=λb hb=>by
 obtain⟨xs,h1,h2⟩:=h;rcases List.mem_cons.mp hb with z|z
 ·rw[z];rcases h2 with⟨_,q⟩|⟨_,_,q,_⟩|⟨_,_,q⟩<;>exact⟨_,q⟩
 ·exact h1.some b z
theorem sC.mono{K:Ky}{H H':Hp}{O O':aA}{a:LW}{bs:aA}{d:D}(h:sC K H O a bs d)(s:aS (hid H O) (hid H' O'))(e:∀b∈a::bs,(∃o,H b=Option.some o)->H' b=H b):sC K H' O' a bs d:=by
 have ea:=e a Il (h.some a Il);obtain⟨xs,h1,h2⟩:=h;refine⟨xs,h1.mono s λb hb=>e b (Im _ hb),?_⟩;rw[ea];exact h2
theorem yt.to{K:Ky}{Hb Hb':Hp}{Ob O O':aA}{H H':Hp}{ρ ρ':ao}{σ σ':St}{i:Nat}{d:D}(h:yt K Hb Ob O H ρ σ i d)(hσ:σ'[i]?=σ[i]?)(s:aS (hid H O) (hid H' O'))
  (k:∀b,b∈O->Hb b=none->b∉Ob->(∀(j:Nat) d',ρ[j]?=some (some (.own d'))->σ[j]?≠some (some (.ref b)))->(∃o,H b=some o)->H' b=H b/\b∈O'/\Hb' b=none/\∀(j:Nat) d',ρ'[j]?=some (some (.own d'))->σ'[j]?≠some (some (.ref b)))
  (n:∀(j:Nat) d',ρ'[j]?=some (some (.nest d'))->∃d2,ρ[j]?=some (some (.nest d2))):yt K Hb' Ob O' H' ρ' σ' i d:=by
 obtain⟨a,bs,h1,h2,h3,h4,h5⟩:=h;refine⟨a,bs,hσ.trans h1,h2.mono s λb hb ho=>?_,h3,λb hb=>?_,λj d' q=>?_⟩
 ·obtain⟨q1,q2,q3,q4⟩:=h4 b hb;exact(k b q1 q2 q3 q4 ho).1
 ·obtain⟨q1,q2,q3,q4⟩:=h4 b hb;obtain⟨_,w2,w3,w4⟩:=k b q1 q2 q3 q4 (h2.some b hb);exact⟨w2,w3,q3,w4⟩
 ·obtain⟨d2,q⟩:=n j d' q;exact h5 j d2 q
structure cM(K:Ky)(Hb:Hp)(Ob O:aA)(H:Hp)(ρ:ao)(σ:St):Prop where
 env:cy K O H ρ σ
 base:Base Hb Ob H O
 mine:∀(i:Nat) xs a,ρ[i]?=some (some (.own xs))->σ[i]?=some (some (.ref a))->Hb a=none/\a∉Ob
 nst:∀(i:Nat) d,ρ[i]?=some (some (.nest d))->yt K Hb Ob O H ρ σ i d
theorem Base.same'{Hb:Hp}{Ob:aA}{H H':Hp}{O:aA}(b:Base Hb Ob H O)(s:aS H H'):Base Hb Ob H' O:=⟨b.same.trans s,b.sub,b.new⟩
theorem cM.same{K:Ky}{Hb:Hp}{Ob O:aA}{H H':Hp}{ρ:ao}{σ:St}(h:cM K Hb Ob O H ρ σ)(s:aS H H'):cM K Hb Ob O H' ρ σ:=⟨h.env.same s,h.base.same' s,h.mine,λi d q=>(h.nst i d q).to rfl (bM s) (λb q1 q2 q3 q4 ⟨o,ho⟩=>⟨by rw[ho,s _ _ ho],q1,q2,q4⟩) λj d' z=>⟨d',z⟩⟩
theorem cM.after{K:Ky}{Hb:Hp}{Ob O:aA}{H:Hp}{ρ ρ':ao}{σ σ':St}(S:cM K Hb Ob O H ρ σ)(E':cy K O H ρ' σ')(own:∀(i:Nat) x,ρ'[i]?=some (some x)->(∀d,x≠.val d)->σ'[i]?=σ[i]?/\ρ[i]?=some (some x)):cM K Hb Ob O H ρ' σ':=
 ⟨E',S.base,fun i xs a q1 q2=>by
  obtain⟨w1,w2⟩:=own i _ q1 (λ_ z=>nomatch z);rw[w1]at q2;exact S.mine i xs a w2 q2,λi d q=>by
  obtain⟨w1,w2⟩:=own i _ q (λ_ z=>nomatch z);refine(S.nst i d w2).to w1 (λ_ _ z=>z) (λb q1 q2 q3 q4 _=>⟨rfl,q1,q2,λl d' w=>?_⟩) λl d' w=>⟨d',(own l _ w (λ_ z=>nomatch z)).2⟩
  obtain⟨z1,z2⟩:=own l _ w (λ_ z=>nomatch z);rw[z1];exact q4 l d' z2⟩
structure Eo(X:Cx)(Hb:Hp)(Ob:aA)(E:Ends)(k:Ks)(r:R D):Prop where
 ne:r≠un
 nx:∀O ρ σ H,cM X.K Hb Ob O H ρ σ->k.nx ρ=r->E.nx σ H
 bk:∀O ρ σ H,cM X.K Hb Ob O H ρ σ->k.bk ρ=r->E.bk σ H
 ct:∀O ρ σ H,cM X.K Hb Ob O H ρ σ->k.ct ρ=r->E.ct σ H
 rt:∀d O v H,r=.ok d->Base Hb Ob H O->bQ X.K (hid H O) d v->E.rt v H
 ex:∀O ρ σ H x,cM X.K Hb Ob O H ρ σ->k.ex x ρ=r->CC X σ O H x
noncomputable def ED(X:Cx)(Hb:Hp)(Ob:aA)(F:bB):TS:=λE σ H=>∃O ρ k r,cM X.K Hb Ob O H ρ σ/\F k ρ=r/\Eo X Hb Ob E k r
noncomputable def FS(X:Cx)(st:LY)(F:bB):Prop:=∀Hb Ob,PS X st (ED X Hb Ob F)
noncomputable def E8(X:Cx)(st:cH)(F:bB):Prop:=∀Hb Ob,mR X st (ED X Hb Ob F)
theorem dU.on{X:Cx}{Hb:Hp}{Ob O:aA}{H:Hp}{ρ:ao}{σ:St}{E:Ends}{k:Ks}{r:R D}{α:Type}{fr:R α}{G:α->R D}{Q:α->Prop}(h:kF fr k ρ G=r)(hk:Eo X Hb Ob E k r)(S:cM X.K Hb Ob O H ρ σ)(q:∀a,G a=r->Q a):dU X σ O H fr Q:=by
 match fr,h with
 |.ok a,h=>exact q a h
 |.error (some x),h=>exact hk.ex O ρ σ H x S h
 |.error none,h=>exact absurd h.symm hk.ne
section
variable{X:Cx}{st:LY}{rest body:cH}{pos:Pos}
noncomputable def aX:bB:=λk ρ=>k.nx ρ
noncomputable def ak(F1 F2:bB):bB:=λk ρ=>F1 {k with nx:=F2 k} ρ
noncomputable def aL(f:FX):bB:=λk ρ=>kF (f ρ) k ρ .ok
noncomputable def DC:bB:=λ_ _=>.ok .non
noncomputable def pM(f:FX):bB:=λk ρ=>kF (f ρ) k ρ λ_=>k.nx ρ
noncomputable def cQ(c:bj)(A B:bB):bB:=λk ρ=>kF (c ρ) k ρ λb=>if b then A k ρ else B k ρ
noncomputable def aG(i:Nat)(f:FX):bB:=λk ρ=>kF (f ρ) k ρ λd=>k.nx (setV i d ρ)
theorem cM.setV{K:Ky}{Hb:Hp}{Ob O:aA}{H:Hp}{ρ:ao}{σ:St}(E:cM K Hb Ob O H ρ σ){i:Nat}{d:D}{v:V}(hi:i<σ.length)(hd:bQ K (hid H O) d v):cM K Hb Ob O H (setV i d ρ) (σ.set i (some v)):=
  ⟨E.env.setV hi hd,E.base,fun j xs a e1 e2=>by
    rcases aR e1 with⟨_,q⟩|⟨ne,q⟩
    ·cases q
    · rw[Ir (Ne.symm ne)]at e2
      exact E.mine j xs a q e2,
   λj dn e=>by
    rcases aR e with⟨_,q⟩|⟨ne,q⟩
    ·cases q
    · refine(E.nst j dn q).to (Ir (Ne.symm ne)) (λ_ _ z=>z) (λb q1 q2 q3 q4 _=>⟨rfl,q1,q2,λl d' w=>?_⟩) λl d' w=>?_
      · rcases aR w with⟨_,z⟩|⟨nl,z⟩
        ·cases z
        ·rw[Ir (Ne.symm nl)];exact q4 l d' z
      · rcases aR w with⟨_,z⟩|⟨_,z⟩
        ·cases z
        ·exact⟨d',z⟩⟩
theorem nM{f:FX}{i:Nat}(hi:i<X.N.length)(h:PS X st (zQ (tF X f) (mS i))):FS X st (aG i f):=λHb Ob pins s σ H E I ⟨O,ρ,k,r,S,hF,hk⟩=>
 h pins s σ H E I ⟨O,ρ,S.env,dU.on hF hk S λd e v H1 s1 d1=>hk.nx O _ _ H1 ((S.same s1).setV (by rw[I.len];exact hi) d1) e⟩
noncomputable def kill(is:List Nat)(ρ:ao):ao:=is.foldl (λρ i=>ρ.set i none) ρ
theorem eZ:∀(is:List Nat)(ρ:ao)(i:Nat)(x:S),(kill is ρ)[i]?=some (some x)->ρ[i]?=some (some x)
 |[],ρ,i,x,e=>e
 |j::is,ρ,i,x,e=>by
  rcases aR (eZ is (ρ.set j none) i x e)with⟨_,q⟩|⟨_,q⟩
  ·cases q
  ·exact q
theorem cM.kill{K:Ky}{Hb:Hp}{Ob O:aA}{H:Hp}{ρ:ao}{σ:St}(E:cM K Hb Ob O H ρ σ)(is:List Nat):cM K Hb Ob O H (kill is ρ) σ:=
 ⟨E.env.forget (eZ is ρ),E.base,λi xs a e1 e2=>E.mine i xs a (eZ is ρ i _ e1) e2,λi d q=>(E.nst i d (eZ is ρ i _ q)).to rfl (λ_ _ z=>z) (λb q1 q2 q3 q4 _=>⟨rfl,q1,q2,λl d' w=>q4 l d' (eZ is ρ l _ w)⟩) λl d' w=>⟨d',eZ is ρ l _ w⟩⟩
noncomputable def dN(is:List Nat)(F:bB):bB:=λk ρ=>F k (kill is ρ)
end
noncomputable def dg(g:GF)(B:bB)(k:Ks):List D->ao->R D
 |[],ρ=>k.nx ρ
 |d::ds,ρ=>(rO (g d ρ)).bind λρ1=>B ⟨dg g B k ds,k.nx,dg g B k ds,k.ex⟩ ρ1
noncomputable def lu(G:aP)(g:GF)(B:bB):bB:=λk ρ=>kF (G ρ) k ρ λds=>dg g B k ds ρ
noncomputable def lb(H:Hp)(O Ob:aA):Hp:=λb=>if b∈O/\b∉Ob then none else H b
theorem oZ{H:Hp}{O Ob:aA}{b:LW}(h1:b∈O)(h2:b∉Ob):lb H O Ob b=none:=by unfold lb;rw[if_pos ⟨h1,h2⟩]
theorem zL{H:Hp}{O Ob:aA}{b:LW}{o:HO}(h:lb H O Ob b=some o):H b=some o/\¬(b∈O/\b∉Ob):=by
 unfold lb at h;split at h
 ·cases h
 ·rename_i n;exact⟨h,n⟩
theorem wZ{H:Hp}{O Ob:aA}{b:LW}{o:HO}(h:H b=some o)(n:¬(b∈O/\b∉Ob)):lb H O Ob b=some o:=by unfold lb;rw[if_neg n];exact h
theorem Base.loop{Hb:Hp}{Ob:aA}{H:Hp}{O:aA}(b:Base Hb Ob H O):Base (lb H O Ob) Ob H O:=
 ⟨fun c o h=>(zL h).1,b.sub,fun a ha=>by
  by_cases h:a∈Ob
  ·exact .inl h
  ·exact .inr (oZ ha h)⟩
theorem Base.back{Hb:Hp}{Ob:aA}{H H':Hp}{O O':aA}(b:Base Hb Ob H O)(b':Base (lb H O Ob) Ob H' O'):Base Hb Ob H' O':=by
 have up:aS Hb (lb H O Ob):=λc o h=>wZ (b.same c o h) λ⟨z1,z2⟩=>by
  rcases b.new c z1 with z|z
  ·exact z2 z
  ·rw[z]at h;cases h
 exact⟨up.trans b'.same,b'.sub,λa ha=>(b'.new a ha).imp id up.free⟩
theorem cM.loop{K:Ky}{Hb:Hp}{Ob O:aA}{H:Hp}{ρ:ao}{σ:St}(E:cM K Hb Ob O H ρ σ):cM K (lb H O Ob) Ob O H ρ σ:=
 ⟨E.env,E.base.loop,fun i xs a e1 e2=>by
  obtain⟨_,n⟩:=E.mine i xs a e1 e2;obtain⟨a',e3,e4,_⟩:=E.env.own i xs e1;rw[e2]at e3;cases e3;exact⟨oZ e4 n,n⟩,λi d q=>(E.nst i d q).to rfl (λ_ _ z=>z) (λb q1 q2 q3 q4 _=>⟨rfl,q1,oZ q1 q3,q4⟩) λl d' w=>⟨d',w⟩⟩
theorem cM.back{K:Ky}{Hb:Hp}{Ob O O':aA}{H H':Hp}{ρ':ao}{σ':St}(b:Base Hb Ob H O)(E:cM K (lb H O Ob) Ob O' H' ρ' σ'):cM K Hb Ob O' H' ρ' σ':=
 have up:aS Hb (lb H O Ob):=λc o h=>wZ (b.same c o h) λ⟨z1,z2⟩=>by
  rcases b.new c z1 with z|z
  ·exact z2 z
  ·rw[z]at h;cases h
 ⟨E.env,b.back E.base,fun i xs a e1 e2=>by
  obtain⟨z,n⟩:=E.mine i xs a e1 e2;exact⟨up.free z,n⟩,λi d q=>(E.nst i d q).to rfl (λ_ _ z=>z) (λb q1 q2 q3 q4 _=>⟨rfl,q1,up.free q2,q4⟩) λl d' w=>⟨d',w⟩⟩
theorem wN{Hb:Hp}{Ob O O':aA}{H H':Hp}(b:Base Hb Ob H O)(b':Base (lb H O Ob) Ob H' O'):aS (hid H O) (hid H' O'):=λc o h=>by
 unfold hid at h ⊢;by_cases hc:c∈O
 ·rw[if_pos hc]at h;cases h
 ·rw[if_neg hc]at h;have h1:lb H O Ob c=some o:=wZ h λz=>hc z.1;rw[if_neg]
  ·exact b'.same _ _ h1
  ·intro z;rcases b'.new c z with z|z
   ·exact hc (b.sub c z)
   ·rw[h1]at z;cases z
theorem Eo.loop{X:Cx}{Hb:Hp}{Ob O:aA}{H:Hp}{E E':Ends}{k k':Ks}{r:R D}(hk:Eo X Hb Ob E k r)(b:Base Hb Ob H O)(hn:∀O' ρ' σ' H',cM X.K (lb H O Ob) Ob O' H' ρ' σ'->k'.nx ρ'=r->E'.nx σ' H')(hc:∀O' ρ' σ' H',cM X.K (lb H O Ob) Ob O' H' ρ' σ'->k'.ct ρ'=r->E'.ct σ' H')
    (eb:k'.bk=k.nx) (ee:k'.ex=k.ex) (Eb:E'.bk=E.nx) (Er:E'.rt=E.rt):Eo X (lb H O Ob) Ob E' k' r:=
  ⟨hk.ne,hn,fun O' ρ' σ' H' S e=>by rw [Eb]; exact hk.nx O' ρ' σ' H' (S.back b) (by rw [<- eb]; exact e),hc,fun d O' v H' e b' dv=>by rw [Er]; exact hk.rt d O' v H' e (b.back b') dv,
   λO' ρ' σ' H' x S e=>hk.ex O' ρ' σ' H' x (S.back b) (by rw[<-ee];exact e)⟩
section
variable{X:Cx}{st:LY}{rest body:cH}{pos:Pos}
noncomputable def fG(c:bj)(B:bB)(k:Ks):Nat->ao->R D
 |0,_=>un
 |n+1,ρ=>kF (c ρ) k ρ λb=>if b then B ⟨fG c B k n,k.nx,fG c B k n,k.ex⟩ ρ else k.nx ρ
noncomputable def rd(n:Nat)(c:bj)(B:bB):bB:=λk ρ=>fG c B k n ρ
end
end TG
namespace TG
open PySem PySem.Spec L2
variable[ax]
theorem cM.setO{K:Ky}{Hb:Hp}{Ob O:aA}{H:Hp}{ρ:ao}{σ:St}(E:cM K Hb Ob O H ρ σ){i:Nat}{d d':D}{a:LW}{o:HO}(hi:ρ[i]?=some (some (.own d)))(ha:σ[i]?=some (some (.ref a)))(m:ow o)(new:gB K (upd H a o) O a d'):
  cM K Hb Ob O (upd H a o) (ρ.set i (some (.own d'))) σ:=by
 obtain⟨a',ha',haO,hat⟩:=E.env.own i d hi;rw[ha]at ha';cases ha';obtain⟨m1,m2⟩:=E.mine i d a hi ha;have s:aS (hid H O) (hid (upd H a o) O):=ki haO;have own:∀(j:Nat) ys,(ρ.set i (some (.own d')))[j]?=some (some (.own ys))->∃ys',ρ[j]?=some (some (.own ys')):=λj ys q=>by
  rcases aR q with⟨hj,_⟩|⟨_,q⟩
  ·rw[hj];exact⟨d,hi⟩
  ·exact⟨ys,q⟩
 refine⟨⟨λj d1 e=>?_,λj ys e=>?_,λj l ys zs b q1 q2 q3 q4=>?_,E.env.all.upd haO m⟩,⟨λb u h=>?_,E.base.sub,E.base.new⟩,λj ys b q1 q2=>?_,λj dn q=>?_⟩
 ·rcases aR e with⟨_,q⟩|⟨ne,q⟩
  ·cases q
  ·obtain⟨w,q1,q2⟩:=E.env.val j d1 q;exact⟨w,q1,q2.mono s⟩
 ·rcases aR e with⟨hj,q⟩|⟨ne,q⟩
  ·cases q;rw[hj];exact⟨a,ha,haO,new⟩
  ·obtain⟨b,q1,q2,q3⟩:=E.env.own j ys q;have nb:b≠a:=λz=>ne (E.env.one j i ys d a q hi (by rw[<-z];exact q1) ha);exact⟨b,q1,q2,q3.mono (by rw[au nb]) s⟩
 ·obtain⟨_,q1'⟩:=own j ys q1;obtain⟨_,q2'⟩:=own l zs q2;exact E.env.one j l _ _ b q1' q2' q3 q4
 ·have nb:b≠a:=λz=>by rw[z,m1]at h;cases h
  rw[au nb];exact E.base.same b u h
 ·obtain⟨ys',q⟩:=own j ys q1;exact E.mine j ys' b q q2
 ·have q:ρ[j]?=some (some (.nest dn)):=by
   rcases aR q with⟨_,z⟩|⟨_,z⟩
   ·cases z
   ·exact z
  refine(E.nst j dn q).to rfl s (λb q1 q2 q3 q4 _=>⟨au λz=>q4 i d hi (by rw[z];exact ha),q1,q2,λl d1 w=>?_⟩) λl d1 w=>?_
  ·obtain⟨_,w'⟩:=own l d1 w;exact q4 l _ w'
  ·rcases aR w with⟨_,z⟩|⟨_,z⟩
   ·cases z
   ·exact⟨d1,z⟩
theorem cM.setNew{K:Ky}{Hb:Hp}{Ob O:aA}{H H':Hp}{ρ:ao}{σ:St}(E:cM K Hb Ob O H ρ σ){i:Nat}{d:D}{p:LW}(hi:i<σ.length)(sm:aS H H')(hp:H p=none)(m:∃o,H' p=some o/\ow o)(new:gB K H' (p::O) p d):
  cM K Hb Ob (p::O) H' (ρ.set i (some (.own d))) (σ.set i (some (.ref p))):=by
 have hpO:p∉O:=E.env.all.not hp;have s:aS (hid H O) (hid H' (p::O)):=λb o h=>by
  unfold hid at h ⊢;by_cases hb:b∈O
  ·rw[if_pos hb]at h;cases h
  ·rw[if_neg hb]at h;have ne:=aM h hp;rw[if_neg (by intro z;rcases List.mem_cons.mp z with z|z;exact ne z;exact hb z)];exact sm _ _ h
 have other:∀(j:Nat) xs,ρ[j]?=some (some (.own xs))->σ[j]?≠some (some (.ref p)):=λj xs e z=>by
  obtain⟨a,e1,e2,e3⟩:=E.env.own j xs e;rw[z]at e1;cases e1;obtain⟨o,e3⟩:=e3.some;rw[hp]at e3;cases e3
 refine⟨⟨λj d' e=>?_,λj xs e=>?_,λj k xs ys a e1 e2 e3 e4=>?_,⟨(E.env.all.same sm).1,λa ha=>?_⟩⟩,⟨E.base.same.trans sm,λa ha=>Im _ (E.base.sub a ha),λa ha=>?_⟩,λj xs a e1 e2=>?_,λj dn e=>?_⟩
 ·rcases aR e with⟨_,q⟩|⟨ne,q⟩
  ·cases q
  ·obtain⟨v,q1,q2⟩:=E.env.val j d' q;exact⟨v,by rw[Ir (Ne.symm ne)];exact q1,q2.mono s⟩
 ·rcases aR e with⟨hj,q⟩|⟨ne,q⟩
  ·cases q;rw[hj];exact⟨p,Iq hi,Il,new⟩
  ·obtain⟨a,q1,q2,q3⟩:=E.env.own j xs q;obtain⟨o,ho⟩:=q3.some;exact⟨a,by rw[Ir (Ne.symm ne)];exact q1,Im _ q2,q3.mono (sU sm ho) s⟩
 ·rcases aR e1 with⟨hj,q1⟩|⟨nj,q1⟩
  ·rcases aR e2 with⟨hk,q2⟩|⟨nk,q2⟩
   ·exact hj.trans hk.symm
   ·rw[hj,Iq hi]at e3;cases e3;rw[Ir (Ne.symm nk)]at e4;exact absurd e4 (other k ys q2)
  ·rcases aR e2 with⟨hk,q2⟩|⟨nk,q2⟩
   ·rw[hk,Iq hi]at e4;cases e4;rw[Ir (Ne.symm nj)]at e3;exact absurd e3 (other j xs q1)
   ·rw[Ir (Ne.symm nj)]at e3;rw[Ir (Ne.symm nk)]at e4;exact E.env.one j k xs ys a q1 q2 e3 e4
 ·rcases List.mem_cons.mp ha with rfl|ha
  ·exact m
  ·exact(E.env.all.same sm).2 a ha
 ·rcases List.mem_cons.mp ha with rfl|ha
  ·exact .inr (E.base.same.free hp)
  ·exact E.base.new a ha
 ·rcases aR e1 with⟨hj,q1⟩|⟨nj,q1⟩
  ·rw[hj,Iq hi]at e2;cases e2;exact⟨E.base.same.free hp,λz=>hpO (E.base.sub p z)⟩
  ·rw[Ir (Ne.symm nj)]at e2;exact E.mine j xs a q1 e2
 ·rcases aR e with⟨_,q⟩|⟨ne,q⟩
  ·cases q
  ·refine(E.nst j dn q).to (Ir (Ne.symm ne)) s (λb q1 q2 q3 q4 ⟨o,ho⟩=>⟨by rw[ho,sm _ _ ho],Im _ q1,q2,λl d1 w=>?_⟩) λl d1 w=>?_
   ·rcases aR w with⟨hl,z⟩|⟨nl,z⟩
    ·rw[hl,Iq hi];intro z;cases z;rw[hp]at ho;cases ho
    ·rw[Ir (Ne.symm nl)];exact q4 l d1 z
   ·rcases aR w with⟨_,z⟩|⟨_,z⟩
    ·cases z
    ·exact⟨d1,z⟩
noncomputable def FH(X:Cx)(F:FX):TE:=λσ H Q=>∃O ρ,cy X.K O H ρ σ/\dU X σ O H (F ρ) λd=>∀p H',aS H H'->H p=none->(∃o,H' p=some o/\ow o)->gB X.K H' (p::O) p d->Q (.ref p) H'
noncomputable def FN(X:Cx)(e:LX)(F:FX):Prop:=PE X e (FH X F)
section
variable{X:Cx}{pos:Pos}
theorem gf{K:Ky}{H:Hp}{O:aA}{p:LW}{ds:List D}{vs:aE}(hp:H p=none)(d:aN K (hid H O) ds vs):gB K (upd H p (.lst vs)) (p::O) p (.lst ds):=⟨_,vs,az,rfl,d.mono (qb hp)⟩
noncomputable def kd(i:Nat)(f:FX):bB:=λk ρ=>kF (f ρ) k ρ λd=>k.nx (ρ.set i (some (.own d)))
theorem m9{st:LY}{f:FX}{i:Nat}(hi:i<X.N.length)(h:PS X st (zQ (FH X f) (mS i))):FS X st (kd i f):=λHb Ob pins s σ H E I ⟨O,ρ,k,r,S,hF,hk⟩=>
 h pins s σ H E I ⟨O,ρ,S.env,dU.on hF hk S λd e p H1 s1 hp m o=>hk.nx _ _ _ H1 (S.setNew (by rw[I.len];exact hi) s1 hp m o) e⟩
end
theorem Be{X:Cx}{F:FX}:∀σ H Q,FH X F σ H Q->Fv X F σ H Q:=λσ H Q ⟨O,ρ,E,hF⟩=>⟨O,ρ,E,hF.imp λd q D H' total acc e sm hD hD' dn=>by
 subst e;exact q D H' sm hD ⟨_,hD',trivial⟩ ⟨_,acc,hD',rfl,dn⟩⟩
noncomputable def vt(i:Nat)(u:List D->List D->Option (List D))(f:aP):bB:=λk ρ=>match ρ[i]? with
 |some (some (.own (.lst xs)))=>kF (f ρ) k ρ λds=>(rO (u xs ds)).bind λys=>k.nx (ρ.set i (some (.own (.lst ys))))
 |_=>un
noncomputable def wM(K:Ky)(r:V->aE->Hp->VK->Prop)(u:List D->List D->Option (List D)):Prop:=
 ∀(H:Hp)(O:aA)(a:LW)(xs ys as:List D)(ws vs:aE)(Q:VK),cP H O->a∈O->H a=some (.lst ws)->aN K (hid H O) xs ws->aN K (hid H O) as vs->u xs as=some ys->(∀ws' v,aN K (hid H O) ys ws'->Q v (upd H a (.lst ws')))->r (.ref a) vs H Q
theorem p9{K:Ky}{H:Hp}{O:aA}{a:LW}{ys:List D}{ws:aE}(ha:a∈O)(h:aN K (hid H O) ys ws):gB K (upd H a (.lst ws)) O a (.lst ys):=⟨_,ws,az,rfl,h.mono (ki ha)⟩
noncomputable def oN(xs:List D)(ds:List D):Option (List D):=match ds with
 |[y]=>if small (xs.length+1)then some (xs++[y])else none
 |_=>none
theorem tX{K:Ky}:wM K sk oN:=λH O a xs ys as ws vs Q hO haO ha dx da hu q=>by
 unfold oN at hu;split at hu
 ·rename_i y;obtain⟨h1,h2⟩:=bg hu;subst h2;obtain⟨v,rfl,dv⟩:=da.one
  have:=b8 h1
  rw[dx.length]at this;exact⟨a,ws,v,rfl,rfl,ha,by omega,q _ _ (dx.snoc dv)⟩
 ·cases hu
noncomputable def Aa(xs:List D)(ds:List D):Option (List D):=match ds with
 |[.int i,y]=>if decide (0<=i/\i<=xs.length)&&small (xs.length+1)then some (xs.take i.toNat++y::xs.drop i.toNat)else none
 |_=>none
noncomputable def tD:V->aE->Hp->VK->Prop:=λx vs H Q=>∃l xs i y,x=.ref l/\vs=[.int i,y]/\H l=some (.lst xs)/\0<=i/\i<=xs.length/\xs.length<100001/\Q .non (upd H l (.lst (xs.take i.toNat++y::xs.drop i.toNat)))
theorem uB{X:Cx}:GH X "list.insert" tD:=by
 intro pins s σ H x vs v us Q I rx rv h;obtain⟨l,xs,i,y,rfl,rfl,hH,h0,h1,hz,q⟩:=h;cases rx;obtain⟨u1,u,rfl,r1,ru⟩:=rv.two;obtain⟨t,rfl⟩:=r1;obtain⟨z,its,n,r,hl,e⟩:=I.lstM hH;have hfit:¬(!Builtin.List.listFitsIndex i)=true:=by
  have e:Builtin.List.listFitsIndex i=true:=by
   unfold Builtin.List.listFitsIndex;rw[Jb];exact⟨decide_eq_true ‹0›,decide_eq_true ‹0›⟩
  rw[e];decide
 refine call_meets F.slot_list_insert ⟨_,e,rfl⟩ F.entry_list_insert (F.args_list_insert_3 _ _ _) (AutoSeq1.list_insert_list_int_val_1 l its.toArray n i t u hfit (by rw[IB];omega)) ⟨e,?_⟩;refine⟨.non,_,I.lset (its':=its.take i.toNat++u::its.drop i.toNat) hH e ?_ ((r.take _).append (.cons ru (r.drop _))) ?_,rfl,q⟩
 ·have e1:(if i<0 then(i+(its.toArray.size:Int)).toNat else min i.toNat its.toArray.size)=i.toNat:=by
   rw[if_neg ‹0›,IB];omega
  show(its.toArray.extract 0 (if i<0 then(i+(its.toArray.size:Int)).toNat else min i.toNat its.toArray.size)).push u++its.toArray.extract (if i<0 then(i+(its.toArray.size:Int)).toNat else min i.toNat its.toArray.size)=_;rw[e1];apply Array.ext';simp[JF]
 ·rw[IZ,IQ,IE,Ja,MA];omega
theorem t6{K:Ky}:wM K tD Aa:=λH O a xs ys as ws vs Q hO haO ha dx da hu q=>by
 unfold Aa at hu;split at hu
 ·rename_i i y;obtain⟨h1,h2⟩:=bg hu;subst h2;rw[Jb]at h1;obtain⟨i0,i1⟩:=of_decide_eq_true h1.1;have hz:xs.length+1<=100000:=of_decide_eq_true h1.2;obtain⟨v,w,rfl,dv,dw⟩:=da.two;have hl:=dx.length;refine⟨a,ws,i,w,rfl,by rw[dQ.mp dv],ha,i0,by omega,by omega,q _ _ ?_⟩;exact(dx.take _).append (bn.mpr ⟨w,_,rfl,dw,dx.drop _⟩)
 ·cases hu
noncomputable def frz(i:Nat)(ρ:ao):ao:=match ρ[i]? with
 |some (some (.own d))=>setV i d ρ
 |_=>ρ
theorem cy.frz{K:Ky}{O:aA}{H:Hp}{ρ:ao}{σ:St}(E:cy K O H ρ σ)(i:Nat):∃O',cy K O' H (frz i ρ) σ/\(∀b∈O',b∈O)/\∀b∈O,b∉O'->∃d,ρ[i]?=some (some (.own d))/\σ[i]?=some (some (.ref b)):=by
 unfold TG.frz;split
 ·rename_i d hd;obtain⟨a,ha,haO,hat⟩:=E.own i d hd;have sub:∀b∈O.filter (λb=>decide (b≠a)),b∈O:=λb hb=>(List.mem_filter.mp hb).1;have s:aS (hid H O) (hid H (O.filter λb=>decide (b≠a))):=gF sub;have na:a∉O.filter λb=>decide (b≠a):=λz=>absurd rfl (of_decide_eq_true (List.mem_filter.mp z).2);refine⟨O.filter λb=>decide (b≠a),⟨λj d' e=>?_,λj ys e=>?_,λj l ys zs b q1 q2 q3 q4=>?_,⟨E.all.1,λb hb=>E.all.2 b (sub b hb)⟩⟩,sub,λb hb nb=>?_⟩
  ·rcases aR e with⟨hj,q⟩|⟨ne,q⟩
   ·cases q;rw[hj];exact⟨.ref a,ha,hat.den s na⟩
   ·obtain⟨w,q1,q2⟩:=E.val j d' q;exact⟨w,q1,q2.mono s⟩
  ·rcases aR e with⟨_,q⟩|⟨ne,q⟩
   ·cases q
   ·obtain⟨b,q1,q2,q3⟩:=E.own j ys q;have nb:b≠a:=λz=>ne (E.one j i ys d a q hd (by rw[<-z];exact q1) ha);exact⟨b,q1,List.mem_filter.mpr ⟨q2,decide_eq_true nb⟩,q3.mono rfl s⟩
  ·rcases aR q1 with⟨_,q⟩|⟨_,q⟩
   ·cases q
   ·rcases aR q2 with⟨_,q'⟩|⟨_,q'⟩
    ·cases q'
    ·exact E.one j l ys zs b q q' q3 q4
  ·by_cases z:b=a
   ·exact⟨d,hd,by rw[z];exact ha⟩
   ·exact absurd (List.mem_filter.mpr ⟨hb,decide_eq_true z⟩) nb
 ·exact⟨O,E,λ_ z=>z,λb hb nb=>absurd hb nb⟩
theorem cM.frz{K:Ky}{Hb:Hp}{Ob O:aA}{H:Hp}{ρ:ao}{σ:St}(E:cM K Hb Ob O H ρ σ)(i:Nat):∃O',cM K Hb Ob O' H (frz i ρ) σ:=by
 obtain⟨O',E',sub,gone⟩:=E.env.frz i;refine⟨O',E',⟨E.base.same,λa ha=>?_,λa ha=>E.base.new a (sub a ha)⟩,λj xs a q1 q2=>?_,λj dn q1=>?_⟩
 ·by_cases z:a∈O'
  ·exact z
  ·obtain⟨d,e1,e2⟩:=gone a (E.base.sub a ha) z;exact absurd ha (E.mine i d a e1 e2).2
 ·have q:ρ[j]?=some (some (.own xs)):=by
   unfold TG.frz at q1;split at q1
   ·rcases aR q1 with⟨_,q⟩|⟨_,q⟩
    ·cases q
    ·exact q
   ·exact q1
  exact E.mine j xs a q q2
 ·have bk:∀(l:Nat) x,(TG.frz i ρ)[l]?=some (some x)->(∀d,x≠.val d)->ρ[l]?=some (some x):=λl x e nv=>by
   unfold TG.frz at e;split at e
   ·rcases aR e with⟨_,q⟩|⟨_,q⟩
    ·cases q;exact absurd rfl (nv _)
    ·exact q
   ·exact e
  refine(E.nst j dn (bk j _ q1 (λ_ z=>nomatch z))).to rfl (gF sub) (λb w1 w2 w3 w4 _=>⟨rfl,?_,w2,λl d1 w=>w4 l d1 (bk l _ w (λ_ z=>nomatch z))⟩) λl d1 w=>⟨d1,bk l _ w (λ_ z=>nomatch z)⟩
  by_cases z:b∈O'
  ·exact z
  ·obtain⟨d,e1,e2⟩:=gone b w1 z;exact absurd e2 (w4 i d e1)
noncomputable def mq(i:Nat)(F:bB):bB:=λk ρ=>F k (frz i ρ)
mutual
noncomputable def lf:D->Bool
 |.tup xs=>FR xs
 |.lst _=>false
 |.dct _ _=>false
 |.obj _ _ vs=>FR vs
 |.exc _ _ _=>false
 |_=>true
noncomputable def FR:List D->Bool
 |[]=>true
 |x::xs=>lf x&&FR xs
end
noncomputable def frzs(is:List Nat)(ρ:ao):ao:=is.foldl (λρ i=>frz i ρ) ρ
theorem cy.frzs{K:Ky}{H:Hp}{σ:St}:∀(is:List Nat){O:aA}{ρ:ao},cy K O H ρ σ->∃O',cy K O' H (frzs is ρ) σ
 |[],O,_,E=>⟨O,E⟩
 |i::is,_,_,E=>by
  obtain⟨O',E',_⟩:=E.frz i;exact cy.frzs is E'
noncomputable def jF(is:List Nat)(f:bj):bj:=λρ=>zB (f (frzs is ρ))
end TG
namespace TG
open PySem PySem.Spec L2
variable[ax]
noncomputable def vx(K:Ky)(n:Nat)(g:cB):Sp:=λvs H Q E=>∃O ds,vs.length=n/\cP H O/\aN K (hid H O) ds vs/\match g ds with
 |.ok d=>∀v H',aS H H'->bQ K (hid H' O) d v->Q v H'
 |.error (some x)=>Gr K H O x E
 |.error none=>False
section
variable{X:Cx}{k:Nat}{f C:LW}{fd:ML}{ps:al}{sp:Sp}{x m:Str}{p pos apos:Pos}{e o:LX}{es:aZ}{ta:TE}{t:TA}
theorem oA{pins:aV}{σ:St}{H:Hp}{s:LZ}{Q:VK}{E:XK}{us:aQ}{vs:aE}(F:eh X.prog X.w X.K X.mg X.base (jd X.prog X.w) k f fd ps sp)(hr:dI k X.A)(hb:Binds X.K fd ps [])(hx:gD (jd X.prog X.w) X σ E)
  (I:Inv X pins σ H s) (r:Vals vs us) (h:sp vs H Q E):Mi (model X.prog X.w) X.A (call (.ref f) us) (EP X pins σ Q) X.xe s:=by
 have hl:(us++[]).length=ps.length:=by rw[IL,<-r.length];exact F.len _ _ _ _ h
 have hb':=hb s us I.kIn hl;rw[IL]at hb';refine MN (MO (F.run X.A X.stack s H ⟨us,[]⟩ us vs Q E hr I.env0 hb' r h) λr s' hq=>?_);cases r with
 |error e=>exact hx pins H s e s' I hq
 |ok fl=>
  cases fl with
  |ret u=>exact I.after hq
  |next=>exact False.elim hq
  |brk=>exact False.elim hq
  |cont=>exact False.elim hq
noncomputable def wj(X:Cx)(sp:Sp)(t:TA):TE:=λσ H Q=>t σ H λvs H1=>∃E,gD (jd X.prog X.w) X σ E/\sp vs H1 Q E
theorem yn(F:eh X.prog X.w X.K X.mg X.base (jd X.prog X.w) k f fd ps sp)(hr:dI k X.A)(hg:Gl X x)(hm:X.mg x=some (.ref f))(hk:KS X.K (.ref f)=true)(hb:Binds X.K fd ps [])
  (ha:PA X (e::es) t) (hdb:(x==("__debug__":Str))=false:=by decide) (he:Mj (e::es) X.env=(false,eval e X.env)::Mj es X.env:=by rfl) (hpl:(backTo pos (Mj es X.env)).any (·.1)=false:=by rfl):
  PE X (.Call (.Name x p) (e::es) [] pos) (wj X sp t):=by
 intro pins s σ H Q I h;refine MP (hW I hg hm ?_ hdb);refine KU (h₀:=X.base) I.ok.mod.kin hk (ca (ha pos pins s σ H _ I h) λus s1 ⟨vs,H1,I1,r,E,hx,q⟩=>⟨I1.kIn,?_⟩) he hpl;exact oA F hr hb hx I1 r q
theorem uq{n:Nat}{g:cB}{f:aP}(hn:∀ds,g ds≠un->ds.length=n):∀σ H Q,tF X (fR g f) σ H Q->wj X (vx X.K n g) (FK X f) σ H Q:=λσ H Q ⟨O,ρ,E,hF⟩=>
 ⟨O,ρ,E,(dU.bind hF).imp fun ds hF vs H1 s1 d1=>by
  cases hg:g ds with
  |ok d=>
   rw[hg]at hF;refine⟨E0,tP,O,ds,by rw[<-d1.length];exact hn ds (by rw[hg];intro z;cases z),E.all.same s1,d1,?_⟩;rw[hg];exact λv H2 s2 d2=>hF v H2 (s1.trans s2) d2
  |error z=>
   rw[hg]at hF;cases z with
   |none=>exact hF.elim
   |some x=>
    refine⟨sf X O H1 x,sB (CC.mono hF s1),O,ds,by rw[<-d1.length];exact hn ds (by rw[hg];intro z;cases z),E.all.same s1,d1,?_⟩;rw[hg];exact qt⟩
end
noncomputable def Callee(P:L7)(w:L6)(K:Ky)(mg:bK)(base:L8)(k:Nat)(x:Str)(ps:al)(g:cB):Prop:=
 ∃f fd,eh P w K mg base (jd P w) k f fd ps (vx K ps.length g)/\Binds K fd ps []/\KS K (.ref f)=true/\mg x=some (.ref f)
noncomputable def Ar(n:Nat)(g:cB):Prop:=∀ds,g ds≠un->ds.length=n
noncomputable def K0:Ks:={nx:=λ_=>.ok .non}
noncomputable def env0(n:Nat)(ds:List D):ao:=ds.map (λd=>some (.val d))++List.replicate (n-ds.length) none
noncomputable def aC(B:bB)(np n:Nat):cB:=λds=>if ds.length=np then B K0 (env0 n ds)else un
theorem fv{B:bB}{np n:Nat}:Ar np (aC B np n):=λds h=>by
 unfold aC at h;split at h
 ·assumption
 ·exact absurd rfl h
theorem gj{n:Nat}{ds:List D}(i:Nat)(x:S)(e:(env0 n ds)[i]?=some (some x)):∃d,ds[i]?=some d/\x=.val d:=by
 unfold env0 at e;by_cases hi:i<ds.length
 ·rw[IU (by rw[IH];exact hi),IV,Jr hi]at e;have e':some (S.val ds[i])=some x:=Option.some.inj e;exact⟨ds[i],by rw[Jr hi],(Option.some.inj e').symm⟩
 ·rw[IR (by rw[IH];omega),IH,IT]at e;split at e
  ·cases e
  ·cases e
theorem qE{K:Ky}{O:aA}{H:Hp}{N:al}{ds:List D}{vs:aE}(hO:cP H O)(h:aN K (hid H O) ds vs):cy K O H (env0 N.length ds) (L2.start N vs):=by
 refine⟨λi d e=>?_,λi xs e=>?_,λi j xs ys a e=>?_,hO⟩
 ·obtain⟨d',e1,e2⟩:=gj i _ e;cases e2;obtain⟨v,e3,e4⟩:=h.get e1;refine⟨v,?_,e4⟩;unfold L2.start;have hi:i<vs.length:=(List.getElem?_eq_some_iff.mp e3).1;rw[IU (by rw[IH];exact hi),IV,e3];rfl
 ·obtain⟨d',_,e2⟩:=gj i _ e;cases e2
 ·obtain⟨d',_,e2⟩:=gj i _ e;cases e2
section
variable{P:L7}{w:L6}{K:Ky}{mg:bK}{base:L8}
structure BodyOk(P:L7)(w:L6)(K:Ky)(mg:bK)(base:L8)(k:Nat)(N:al)(qual:Str)(st:LY)(f:LW)(B:bB):Prop where
 h:∀(cdv:LU)(A:Mf)(outer:List Env)(s:LZ)(H:Hp)(E:XK),dI k (A.deeper (Ly qual (aH st) s.heap.objs.size f cdv))->Mt (model P w) (A.deeper (Ly qual (aH st) s.heap.objs.size f cdv)) (Ly qual (aH st) s.heap.objs.size f cdv) (gd (jd P w) P w K mg base N qual (aH st) f cdv A outer s H E).xe->
  E8 (gd (jd P w) P w K mg base N qual (aH st) f cdv A outer s H E) (cO st) B
theorem Gg{x qual:Str}{st:LY}{f:LW}{fd:ML}{N ps:al}{k:Nat}{sp:Sp}{CX:qM}(F:pZ K x qual st f fd)(S:cC N ps (aH st))(len:∀vs H Q E,sp vs H Q E->vs.length=ps.length)
  (hbody:∀ (cdv:LU) (A:Mf) (outer:List Env) (s:LZ) (H:Hp) (vs:aE) (Q:VK) (E:XK),dI k (A.deeper (Ly qual (aH st) s.heap.objs.size f cdv))->sp vs H Q E ->
   ∃t,mR (gd CX P w K mg base N qual (aH st) f cdv A outer s H E) (cO st) t/\t {nx:=λ_ H'=>Q .non H',rt:=Q} (L2.start N vs) H):eh P w K mg base CX (k+1) f fd ps sp:=by
 obtain⟨oc,od,kV,doc,pm,an,cdv,ct,osl,rfl,lk,hcd⟩:=F.ex;exact Bf lk hcd S len λA outer s H vs Q E hr hsp=>hbody cdv A outer s H vs Q E hr hsp
theorem eh.any{CX:qM}{k:Nat}{f:LW}{fd:ML}{ps:al}{sp:Sp}(F:eh P w K mg base DT k f fd ps sp):eh P w K mg base CX k f fd ps sp:=
 ⟨F.len,fun A outer s H args us vs Q E hr he hb hv hs=>MO (F.run A outer s H args us vs Q E hr he hb hv hs) fun r s' h=>by
  cases r with
  |error e=>exact False.elim h
  |ok fl=>cases fl<;>exact h⟩
theorem pA{x qual:Str}{st:LY}{f:LW}{fd:ML}{N ps:al}{k:Nat}{B:bB}(F:pZ K x qual st f fd)(SC:cC N ps (aH st))(hb:BodyOk P w K mg base k N qual st f B):
  eh P w K mg base (jd P w) (k+1) f fd ps (vx K ps.length (aC B ps.length N.length)):=by
 refine Gg F SC (λvs H Q E h=>?_) λcdv A outer s H vs Q E hr h=>?_
 ·obtain⟨O,ds,h1,_⟩:=h;exact h1
 ·obtain⟨O,ds,h1,h2,h3,h4⟩:=h;have hl:ds.length=ps.length:=h3.length.trans h1;have e4:aC B ps.length N.length ds=B K0 (env0 N.length ds):=by unfold aC;rw[if_pos hl]
  rw[e4]at h4;refine⟨_,hb.h cdv A outer s H E hr PassesOwn.leaving H O,O,env0 N.length ds,K0,_,⟨qE h2 h3,⟨aS.refl H,λ_ z=>z,λa z=>.inl z⟩,λi xs a e=>?_,λi d e=>by obtain⟨d',_,e2⟩:=gj i _ e;cases e2⟩,rfl,?_⟩
  ·obtain⟨d',_,e2⟩:=gj i _ e;cases e2
  ·generalize B K0 (env0 N.length ds)=r at h4;refine⟨λz=>by rw[z]at h4;exact h4,λO' ρ' σ' H' S e=>?_,λO' ρ' σ' H' S e=>?_,λO' ρ' σ' H' S e=>?_,λd O' v H' e b dv=>?_,λO' ρ' σ' H' x S e=>?_⟩
   ·have e:(.ok .non:R D)=r:=e;subst e;exact h4 .non H' S.base.same (fu.mpr rfl)
   ·have e:(un:R D)=r:=e;subst e;exact h4.elim
   ·have e:(un:R D)=r:=e;subst e;exact h4.elim
   ·subst e;exact h4 v H' b.same (dv.mono (gF b.sub))
   ·have e:(.error (some x):R D)=r:=e;subst e;exact Bu h4 S.base.same S.base.sub
theorem tW{x qual:Str}{st:LY}{f:LW}{fd:ML}{N ps:al}{k:Nat}{B:bB}(F:pZ K x qual st f fd)(b:Binds K fd ps [])(m:mg x=some (.ref f))(SC:cC N ps (aH st))(hb:BodyOk P w K mg base k N qual st f B):
  Callee P w K mg base (k+1) x ps (aC B ps.length N.length):=⟨f,fd,pA F SC hb,b,F.kp,m⟩
theorem pE{x qual:Str}{st:LY}{f:LW}{fd:ML}{ps:al}(k:Nat)(F:pZ K x qual st f fd)(b:Binds K fd ps [])(m:mg x=some (.ref f)):Callee P w K mg base k x ps (λ_=>un):=by
 have no:∀vs H Q E,¬vx K ps.length (λ_=>un) vs H Q E:=λvs H Q E ⟨O,ds,_,_,_,e⟩=>e;exact⟨f,fd,⟨λvs H Q E h=>absurd h (no vs H Q E),λA outer s H args us vs Q E _ _ _ _ h=>absurd h (no vs H Q E)⟩,b,F.kp,m⟩
end
theorem kq{K:Ky}{T:String}(h1:K4 K (.type "NoneType") (.type T)=some (T=="NoneType"))(h2:K4 K (.type "bool") (.type T)=some (T=="bool"||T=="int"))(h3:K4 K (.type "int") (.type T)=some (T=="int"))(h4:K4 K (.type "str") (.type T)=some (T=="str"))
  (h5:K4 K (.type "tuple") (.type T)=some (T=="tuple")) (h6:K4 K (.type "list") (.type T)=some (T=="list")):qD K T:=λd hd=>by
 cases d with
 |dct _ _=>cases hd
 |obj _ _ _=>cases hd
 |exc _ _ _=>cases hd
 |non=>exact h1
 |bl _=>exact h2
 |int _=>exact h3
 |str _=>exact h4
 |tup _=>exact h5
 |lst _=>exact h6
theorem xF{K:Ky}:qD K "int":=kq rfl rfl rfl rfl rfl rfl
theorem vi{K:Ky}:qD K "bool":=kq rfl rfl rfl rfl rfl rfl
theorem vF{K:Ky}:qD K "str":=kq rfl rfl rfl rfl rfl rfl
theorem rg{K:Ky}:qD K "tuple":=kq rfl rfl rfl rfl rfl rfl
end TG
namespace TG
open PySem PySem.Spec L2
variable[ax]
section
variable{X:Cx}{a b c:LX}{fa fb fc:FX}{pos:Pos}
theorem CH{r:V->Hp->VK->Prop}{g:D->bi}(s:zE X.K r g):∀σ H Q,tF X (f1 g fa) σ H Q->G7 r (tF X fa) σ H Q:=λσ H Q ⟨O,ρ,E,hF⟩=>⟨O,ρ,E,(dU.bind hF).imp λa hF x H1 s1 d1=>by
 obtain⟨d,e,q⟩:=dU.rO hF;exact s a d x O H1 Q (E.all.same s1) e d1 λv H2 s2 d2=>q v H2 (s1.trans s2) d2⟩
noncomputable def fW(g g':D->D->bi)(fa fb fc:FX):FX:=λρ=>(fa ρ).bind λx=>(fb ρ).bind λy=>(rO (g x y)).bind λz=>qF z ((fc ρ).bind λw=>rO (g' y w))
theorem nh{r r':R2}{g g':D->D->bi}(s:cp X.K r g)(s':cp X.K r' g'):∀σ H Q,tF X (fW g g' fa fb fc) σ H Q->qK r r' (tF X fa) (tF X fb) (tF X fc) σ H Q:=λσ H Q ⟨O,ρ,E,hF⟩=>
 ⟨O,ρ,E,(dU.bind hF).imp fun x hF v1 H1 s1 d1=>⟨O,ρ,E.same s1,((dU.bind hF).mono s1).imp fun y hF v2 H2 s2 d2=>by
  obtain⟨z,e3,hF⟩:=dU.rO (dU.bind hF);refine s x y z v1 v2 O H2 _ (E.all.same (s1.trans s2)) e3 (d1.mono (bM s2)) d2 λv3 H3 s3 d3=>?_;cases z with
  |bl k=>
   refine⟨k,fN.mp d3,?_⟩;cases k with
   |false=>exact o4 (hF _ H3 ((s1.trans s2).trans s3) (fN.mpr rfl))
   |true=>
    refine pD ⟨O,ρ,E.same ((s1.trans s2).trans s3),((dU.bind (show dU X σ O H ((fc ρ).bind λw=>rO (g' y w)) _ from hF)).mono ((s1.trans s2).trans s3)).imp λw hF v4 H4 s4 d4=>?_⟩;obtain⟨d,e5,q⟩:=dU.rO hF;exact s' y w d v2 v4 O H4 Q (E.all.same (((s1.trans s2).trans s3).trans s4)) e5 (d2.mono (bM (s3.trans s4))) d4 λv5 H5 s5 d5=>q v5 H5 ((((s1.trans s2).trans s3).trans s4).trans s5) d5
  |_=>exact hF.elim⟩⟩
noncomputable def Av:D->bi
 |.int i=>some (.int (-i))
 |_=>none
noncomputable def rq(f:FX):FX:=f1 Av f
noncomputable def HV:List D->bi
 |[.int i]=>if decide (i.natAbs.log2<1920)then some (.str (toString i))else none
 |_=>none
noncomputable def vz:D->bi
 |.str x=>if small x.length then some (.str (Txt.upper x))else none
 |_=>none
noncomputable def CN(f:FX):FX:=f1 vz f
noncomputable def CM:D->bi
 |.lst xs=>some (.lst xs.reverse)
 |.tup xs=>some (.tup xs.reverse)
 |_=>none
noncomputable def FV(f:FX):FX:=f1 CM f
noncomputable def allB:List D->Option Bool
 |[]=>some true
 |.bl b::r=>(allB r).bind λc=>some (b&&c)
 |_=>none
noncomputable def fS:List D->bi
 |[.lst xs]=>(allB xs).bind λb=>some (.bl b)
 |_=>none
theorem qi:∀{xs:List D}{b:Bool},allB xs=some b->∃bs:List Bool,xs=bs.map .bl/\b=bs.all id
 |[],b,h=>by cases h;exact⟨[],rfl,rfl⟩
 |.bl x::r,b,h=>by
  obtain⟨c,e1,e2⟩:=bind_some (show((allB r).bind λc=>some (x&&c))=some b from h);cases e2;obtain⟨bs,e3,e4⟩:=qi e1;exact⟨x::bs,by rw[IG,e3],by rw[Jp,e4];rfl⟩
 |.non::_,_,h=>by cases h
 |.int _::_,_,h=>by cases h
 |.str _::_,_,h=>by cases h
 |.tup _::_,_,h=>by cases h
 |.lst _::_,_,h=>by cases h
 |.dct _ _::_,_,h=>by cases h
 |.obj _ _ _::_,_,h=>by cases h
 |.exc _ _ _::_,_,h=>by cases h
theorem lX{K:Ky}{H:Hp}:∀{bs:List Bool}{vs:aE}{us:aQ},aN K H (bs.map .bl) vs->Vals vs us->us=bs.map Value.bool
 |[],vs,us,h,r=>by
  rw[Je,bX]at h;subst h;cases r;rfl
 |b::bs,vs,us,h,r=>by
  rw[IG,bn]at h;obtain⟨v,r',e,h1,h2⟩:=h;subst e;cases r with
  |cons q1 q2=>
   rw[fN]at h1;subst h1;cases q1;rw[IG,lX h2 q2]
theorem range_all(bs:List Bool):((List.range bs.length).all λi=>(bs[i]?).getD true)=bs.all id:=by
 induction bs with
 |nil=>rfl
 |cons b bs ih=>
  rw[IE,Jq,Jp,List.all_map,Jp,<-ih];rfl
theorem vf(hc:X.calm=true):eD X (.builtin "all") (C4 X.K fS):=by
 rintro pins s σ H xs us Q I r ⟨O,ds,d,hO,hd,hg,q⟩;unfold fS at hg;split at hg
 ·rename_i ys;obtain⟨bv,e1,e2⟩:=bind_some hg;cases e2;obtain⟨bs,eb,ev⟩:=qi e1;subst eb ev;obtain⟨v,evv,h1⟩:=hd.one;subst evv;obtain⟨p,vs,ep,g1,g2⟩:=bz.mp h1;subst ep;obtain⟨u,eu,ru⟩:=vals1 r;subst eu;cases ru;obtain⟨its,rv,pl,hz⟩:=I.list ((aB H O).seq g1);have ei:=lX g2 rv;have hl:=pl.isList;have hlt:p<s.heap.objs.size:=by obtain⟨_,e,_⟩:=hl;exact Lf e
  refine call_all_walk (Mx hl ?_);refine⟨s.heap.objs.size,[s.heap.objs.size,p],[s.heap.objs.size],its.toArray.size,_,_,λi=>(bs[i]?).getD true,rfl,Walks.list (A:=X.A.in1) (I.ok.hd hc) _ p (Ih hlt) its.toArray,
   ⟨⟨_,Lj _ rfl,rfl,rfl⟩,hl.push _⟩,λi v s' Q' E' hP hQ=>?_,λh' tk hk=>?_⟩
  ·have e:bs[i]?.map Value.bool=some v:=by
    rw[<-IV,<-ei]
    simpa using hP
   cases eb:bs[i]? with
   |none=>rw[eb]at e;cases e
   |some b=>
    rw[eb]at e;cases e;simp only[eb,JG]at hQ;exact Mr hQ
  ·have e:((List.range its.toArray.size).all λi=>(bs[i]?).getD true)=bs.all id:=by
    have:its.toArray.size=bs.length:=(by rw[IB,ei,IH]);rw[this];exact range_all bs
   rw[e];have k:∀b x,s.heap.get? b=some x->h'.get? b=some x:=λb x e=>hk b x (λhm=>by rw[List.mem_singleton.mp hm]at e;exact Ig _ (Lf e)) (Li _ e);exact⟨.bl _,H,I.kept k,rfl,q _ H (aS.refl H) (fN.mpr rfl)⟩
 ·cases hg
end
end TG
namespace ZI
open PySem PySem.Spec PyProof.Rows
section
variable{prog:L7}{w:L6}{A:Mf}{E:LU->LZ->Prop}{s:LZ}
theorem qz{it t:LW}{i:Nat}{its:Array LU}{x:LU}{Q:LU->LZ->Prop}(hit:s.heap.IsTupleIter it t i)(ht:s.heap.IsTuple t its)(hx:its[i]?=some x)
  (hQ:∀g,g.IsTupleIter it t (i+1)->Lh it s.heap g->Q x {s with heap:=g}):Mi (model prog w) A (Builtin.SmallTypes.nextOf (.ref it)) Q E s:=by
 obtain⟨ob,h1,h2,h3⟩:=id hit;obtain⟨ol,g1,_,n,g2⟩:=ht;unfold Builtin.SmallTypes.nextOf;refine Mw (MX (name:=Str.ofString "__next__") hit.typeIs F.slot_tuple_iterator_next (MY F.slot_tuple_iterator_next hit.typeIs F.entry_tuple_iterator_next ?_ (F.args_tuple_iterator_next_1 _)));show Mi _ _ (field (.ref it) 0 >>= _) _ _ s;refine Mw (MU h1 h3 (x:=.ref t) rfl ?_);show Mi _ _ (if(Value.ref t==Value.none)=true then _ else _) _ _ s;rw[if_neg (show¬((Value.ref t==Value.none)=true)from λz=>Iu z)];show Mi _ _ (field (.ref it) 1 >>= _) _ _ s;refine Mw (MU h1 h3 (x:=.int i 0) rfl ?_);show Mi _ _ (seqItems? (.ref t) >>= _) _ _ s;refine Mw (M7 g1 g2 ?_);simp only[I0,hx];refine Mw (wpAny_setField h1 h3 (by simp) (Mv ⟨x,rfl,Mv (hQ _ ⟨_,Lq _ h1 (Obj.isFreed_of_fields (Obj.data_mapFields h3 _)),(Obj.cls_mapFields ..).trans h2,by rw[Obj.data_mapFields h3];simp[rawInt]⟩ (Heap.SameBut.update ..))⟩))
theorem vd{it t:LW}{i:Nat}{its:Array LU}{Q:LU->LZ->Prop}(hh:A.handled=none)(hit:s.heap.IsTupleIter it t i)(ht:s.heap.IsTuple t its)(hx:its[i]?=none)
  (hE:∀g e,Heap.ExtBut it s.heap g->(∃o,g.get? e=some o/\o.cls=.type "StopIteration")->E (.ref e) {s with heap:=g}):Mi (model prog w) A (Builtin.SmallTypes.nextOf (.ref it)) Q E s:=by
 obtain⟨ob,h1,h2,h3⟩:=id hit;obtain⟨ol,g1,_,n,g2⟩:=ht;unfold Builtin.SmallTypes.nextOf;refine Mw (MX (name:=Str.ofString "__next__") hit.typeIs F.slot_tuple_iterator_next (MY F.slot_tuple_iterator_next hit.typeIs F.entry_tuple_iterator_next ?_ (F.args_tuple_iterator_next_1 _)));show Mi _ _ (field (.ref it) 0 >>= _) _ _ s;refine Mw (MU h1 h3 (x:=.ref t) rfl ?_);show Mi _ _ (if(Value.ref t==Value.none)=true then _ else _) _ _ s;rw[if_neg (show¬((Value.ref t==Value.none)=true)from λz=>Iu z)];show Mi _ _ (field (.ref it) 1 >>= _) _ _ s;refine Mw (MU h1 h3 (x:=.int i 0) rfl ?_);show Mi _ _ (seqItems? (.ref t) >>= _) _ _ s;refine Mw (M7 g1 g2 ?_);simp only[I0,hx];refine Mw (M4 (Mw (wpAny_setField h1 h3 (by simp) ?_)));show Mi _ _ (newExc (.type "StopIteration") [] >>= _) _ _ _;refine Mw ?_;simp only[newExc,newTuple];refine Mw (M0 ?_ (by size_fits));refine Mw (m:=firstArgMember _ _) (wpAny_of_eq (a:=Value.none) (by first|rfl|(simp only[firstArgMember];rfl)) ?_);refine M0 ?_ (by size_fits);simp only[raiseNew];refine Mw (wpAny_handled ?_)
 first|rw[show A.in1.handled=none from hh]|rw[hh]
 refine Mw (Mv (wpAny_throw ?_));exact hE _ _ (((Heap.SameBut.update ..).extBut.push _).push _) ⟨_,Lj _ rfl,rfl⟩
end
theorem Bm{prog:L7}{w:L6}{A:Mf}(hh:A.handled=none)(it t:LW)(hne:t≠it)(its:Array LU):Draws prog w A it [it,t] its.size (λi v=>its[i]?=some v) (λi h=>h.IsTupleIter it t i/\h.IsTuple t its)where
 live:=λi h ⟨⟨o,e,_⟩,_⟩=>⟨o,e⟩
 frame:=λi h h' ⟨x,y⟩ k=>⟨x.at λo e=>k it (by simp) o e,let ⟨o,e,r⟩:=y;⟨o,k t (by simp) o e,r⟩⟩
 item:=λi s Q E hi ⟨x,y⟩ hQ=>qz x y (Array.getElem?_eq_getElem hi) λg hg hs=>hQ _ g s.toks (Array.getElem?_eq_getElem hi) ⟨hg,let ⟨o,e,r⟩:=y;⟨o,(hs.2 t hne).trans e,r⟩⟩ hs
 done:=λs Q E ⟨x,y⟩ hE=>vd hh x y (by simp) hE
structure Apart(z TI TO i1 i2:LW)(fp1 fp2:List LW):Prop where
 a1:TI≠z
 a2:TO≠z
 a3:TI≠TO
 b1:z∉fp1
 b2:TO∉fp1
 b3:i2∉fp1
 c1:z∉fp2
 c2:TO∉fp2
 c3:i1∉fp2
 d1:TI≠i1
 d2:TI≠i2
 e1:i1∈fp1
 e2:i2∈fp2
section
variable{prog:L7}{w:L6}{A:Mf}{E:LU->LZ->Prop}{s:LZ}{z TI TO i1 i2:LW}{fp1 fp2:List LW}{n1 n2 i:Nat}{P1 P2:Nat->LU->Prop}{S1 S2:Nat->L8->Prop}{a b:LU}
theorem next_item{Q:LU->LZ->Prop}(Ap:Apart z TI TO i1 i2 fp1 fp2)(D1:Draws prog w A i1 fp1 n1 P1 S1)(D2:Draws prog w A i2 fp2 n2 P2 S2)(hz:M8 s.heap z TI TO .none)(hTI:M9 s.heap TI (.ref i1) (.ref i2))(hTO:M9 s.heap TO a b)(st1:S1 i s.heap)(st2:S2 i s.heap)(l1:i<n1)(l2:i<n2)
  (hQ:∀ x y g tk,P1 i x->P2 i y->M8 g z TI TO (rawInt s.heap.objs.size)->M9 g TO x y->S1 (i+1) g->S2 (i+1) g->M9 g s.heap.objs.size x y->g.objs.size=s.heap.objs.size+1 ->
   (∀c o,c≠z->c≠TO->c≠i1->c≠i2->s.heap.get? c=some o->g.get? c=some o)->Q (.ref s.heap.objs.size) {s with heap:=g,toks:=tk}):
  Mi (model prog w) A (Builtin.«zip.__next__» ⟨[.ref z],[]⟩) (λfin s'=>∃v,fin=.done (.ret v)/\Q v s') E s:=by
 have n1z:i1≠z:=λe=>Ap.b1 (e ▸ Ap.e1);have n2z:i2≠z:=λe=>Ap.c1 (e ▸ Ap.e2);have n1T:i1≠TO:=λe=>Ap.b2 (e ▸ Ap.e1);have n2T:i2≠TO:=λe=>Ap.c2 (e ▸ Ap.e2);show Mi _ _ (field (.ref z) 2 >>= _) _ _ _;refine Mw (MU hz rfl (x:=.bool false) rfl ?_);show Mi _ _ (field (.ref z) 3 >>= _) _ _ _;refine Mw (MU hz rfl (x:=.ref TI) rfl ?_);refine Mw (M7 hTI rfl ?_);show Mi _ _ (Builtin.SmallTypes.ownedTupleIsFree (.ref z) >>= _) _ _ _;refine Mw ?_;unfold Builtin.SmallTypes.ownedTupleIsFree;refine Mw (MU hz rfl (x:=.none) rfl (Mv ?_));simp only[if_true];refine Mw (M4 ?_);refine Mw (MU hz rfl (x:=.ref TO) rfl ?_);refine Mw (Nb hz (by simp) λg1 hz1 k1=>?_);have hz1:M8 g1 z TI TO .ellipsis:=hz1;refine Mw ?_;simp only[List.zipIdx_cons,List.zipIdx_nil,Jg,List.forIn_nil];refine Mw (Mw (Nc ?_));show Mi _ _ (Builtin.SmallTypes.nextOf (.ref i1) >>= _) _ _ _;have q1:S1 i g1:=D1.frame _ _ _ st1 λb hb o e=>k1.extBut _ _ (λz'=>Ap.b1 (z' ▸ hb)) e;refine Mw (D1.item i {s with heap:=g1} _ _ l1 q1 λx g2 tk2 p1 q2 k2=>Mv ?_);have t2:M9 g2 TO a b:=k2.extBut _ _ n1T.symm (k1.extBut _ _ Ap.a2 hTO);refine Mw (M7 t2 rfl ?_);refine Mw (Nf t2 λg3 t3 k3=>?_);have t3:M9 g3 TO x b:=t3;refine Mw (wpAny_letGo (Mv ?_));refine Mw (Mw (Nc ?_));show Mi _ _ (Builtin.SmallTypes.nextOf (.ref i2) >>= _) _ _ _;have q3:S2 i g3:=D2.frame _ _ _ st2 λb hb o e=>k3.extBut _ _ (λz'=>Ap.c2 (z' ▸ hb)) (k2.extBut _ _ (λz'=>Ap.c3 (z' ▸ hb)) (k1.extBut _ _ (λz'=>Ap.c1 (z' ▸ hb)) e));refine Mw (D2.item i {s with heap:=g3,toks:=tk2} _ _ l2 q3 λy g4 tk4 p2 q4 k4=>Mv ?_);have t4:M9 g4 TO x b:=k4.extBut _ _ n2T.symm t3;refine Mw (M7 t4 rfl ?_);refine Mw (Nf t4 λg5 t5 k5=>?_);have t5:M9 g5 TO x y:=t5;refine Mw (wpAny_letGo (Mv (Mv ?_)));refine Mw (M7 t5 rfl ?_);refine Mw (wpAny_newTuple ?_);have hsz:g5.objs.size=s.heap.objs.size:=by rw[k5.1,k4.1,k3.1,k2.1,k1.1]
 have hz5:M8 g5 z TI TO .ellipsis:=k5.extBut _ _ Ap.a2.symm (k4.extBut _ _ n2z.symm (k3.extBut _ _ Ap.a2.symm (k2.extBut _ _ n1z.symm hz1)));have k15:∀c o,c≠z->c≠TO->c≠i1->c≠i2->s.heap.get? c=some o->g5.get? c=some o:=λc o c1 c2 c3 c4 e=>k5.extBut _ _ c2 (k4.extBut _ _ c4 (k3.extBut _ _ c2 (k2.extBut _ _ c3 (k1.extBut _ _ c1 e))));have r1:S1 (i+1) g5:=D1.frame _ _ _ q2 λb hb o e=>k5.extBut _ _ (λz'=>Ap.b2 (z' ▸ hb)) (k4.extBut _ _ (λz'=>Ap.b3 (z' ▸ hb)) (k3.extBut _ _ (λz'=>Ap.b2 (z' ▸ hb)) e));have r2:S2 (i+1) g5:=D2.frame _ _ _ q4 λb hb o e=>k5.extBut _ _ (λz'=>Ap.c2 (z' ▸ hb)) e;have lz:z<g5.objs.size:=Lf hz5;show Mi _ _ (Builtin.SmallTypes.ownedTupleHandOut (.ref z) (.ref g5.objs.size) >>= _) _ _ _;refine Mw ?_;unfold Builtin.SmallTypes.ownedTupleHandOut;have hz6:M8 (g5.push {cls:=.type "tuple",data:=.seq #[x,y]}) z TI TO .ellipsis:=Li _ hz5;refine Mw (Nb hz6 (by simp) λg7 hz7 k7=>?_);have hz7:M8 g7 z TI TO (rawInt g5.objs.size):=hz7;refine Nb hz7 (by simp) λg8 hz8 k8=>?_;have hz8:M8 g8 z TI TO (rawInt g5.objs.size):=hz8;have up:∀c o,c≠z->g5.get? c=some o->g8.get? c=some o:=λc o c1 e=>k8.extBut _ _ c1 (k7.extBut _ _ c1 (Li _ e));have t8:M9 g8 g5.objs.size x y:=k8.extBut _ _ (Iw lz) (k7.extBut _ _ (Iw lz) (Lj _ rfl));have s8:g8.objs.size=g5.objs.size+1:=by rw[k8.1,k7.1,Ln]
 rw[hsz]at hz8 t8 s8;refine Mv ⟨_,rfl,?_⟩;show Q (.ref g5.objs.size) _;rw[hsz];exact hQ x y g8 tk4 p1 p2 hz8 (up _ _ Ap.a2 t5) (D1.frame _ _ _ r1 λb hb o e=>up b o (λz'=>Ap.b1 (z' ▸ hb)) e) (D2.frame _ _ _ r2 λb hb o e=>up b o (λz'=>Ap.c1 (z' ▸ hb)) e) t8 s8 λc o c1 c2 c3 c4 e=>up c o c1 (k15 c o c1 c2 c3 c4 e)
theorem next_end{Q:Fin->LZ->Prop}(Ap:Apart z TI TO i1 i2 fp1 fp2)(D1:Draws prog w A i1 fp1 n1 P1 S1)(D2:Draws prog w A i2 fp2 n2 P2 S2)(hz:M8 s.heap z TI TO .none)(hTI:M9 s.heap TI (.ref i1) (.ref i2))(hTO:M9 s.heap TO a b)(st1:S1 i s.heap)(st2:S2 i s.heap)(hend:i=n1\/(i<n1/\i=n2))
  (hE:∀g e tk,(∀c o,c≠z->c≠TO->c≠i1->c≠i2->s.heap.get? c=some o->g.get? c=some o)->(∃o,g.get? e=some o/\o.cls=.type "StopIteration")->E (.ref e) {s with heap:=g,toks:=tk}):
  Mi (model prog w) A (Builtin.«zip.__next__» ⟨[.ref z],[]⟩) Q E s:=by
 have n1z:i1≠z:=λe=>Ap.b1 (e ▸ Ap.e1);have n2z:i2≠z:=λe=>Ap.c1 (e ▸ Ap.e2);have n1T:i1≠TO:=λe=>Ap.b2 (e ▸ Ap.e1);show Mi _ _ (field (.ref z) 2 >>= _) _ _ _;refine Mw (MU hz rfl (x:=.bool false) rfl ?_);show Mi _ _ (field (.ref z) 3 >>= _) _ _ _;refine Mw (MU hz rfl (x:=.ref TI) rfl ?_);refine Mw (M7 hTI rfl ?_);show Mi _ _ (Builtin.SmallTypes.ownedTupleIsFree (.ref z) >>= _) _ _ _;refine Mw ?_;unfold Builtin.SmallTypes.ownedTupleIsFree;refine Mw (MU hz rfl (x:=.none) rfl (Mv ?_));simp only[if_true];refine Mw (M4 ?_);refine Mw (MU hz rfl (x:=.ref TO) rfl ?_);refine Mw (Nb hz (by simp) λg1 hz1 k1=>?_);have hz1:M8 g1 z TI TO .ellipsis:=hz1;refine Mw ?_;simp only[List.zipIdx_cons,List.zipIdx_nil,Jg,List.forIn_nil];refine Mw (Mw (Nc ?_));show Mi _ _ (Builtin.SmallTypes.nextOf (.ref i1) >>= _) _ _ _;have q1:S1 i g1:=D1.frame _ _ _ st1 λb hb o e=>k1.extBut _ _ (λz'=>Ap.b1 (z' ▸ hb)) e;rcases hend with hend|⟨l1,hend⟩
 ·subst hend;refine Mw (D1.done {s with heap:=g1} _ _ q1 λg2 e k2 he=>?_);obtain⟨oe,hoe,hce⟩:=he;have hz2:M8 g2 z TI TO .ellipsis:=k2 _ _ n1z.symm hz1;have hez:e≠z:=λx=>by rw[x,hz2]at hoe;cases hoe;simp at hce
  exact Nb hz2 (by simp) λg3 _ k3=>hE g3 e s.toks (λc o c1 _ c3 _ x=>k3.extBut _ _ c1 (k2 _ _ c3 (k1.extBut _ _ c1 x))) ⟨oe,k3.extBut _ _ hez hoe,hce⟩
 ·refine Mw (D1.item i {s with heap:=g1} _ _ l1 q1 λx g2 tk2 p1 q2 k2=>Mv ?_);have t2:M9 g2 TO a b:=k2.extBut _ _ n1T.symm (k1.extBut _ _ Ap.a2 hTO);refine Mw (M7 t2 rfl ?_);refine Mw (Nf t2 λg3 t3 k3=>?_);refine Mw (wpAny_letGo (Mv ?_));refine Mw (Mw (Nc ?_));show Mi _ _ (Builtin.SmallTypes.nextOf (.ref i2) >>= _) _ _ _;have q3:S2 i g3:=D2.frame _ _ _ st2 λb hb o e=>k3.extBut _ _ (λz'=>Ap.c2 (z' ▸ hb)) (k2.extBut _ _ (λz'=>Ap.c3 (z' ▸ hb)) (k1.extBut _ _ (λz'=>Ap.c1 (z' ▸ hb)) e));subst hend;refine Mw (D2.done {s with heap:=g3,toks:=tk2} _ _ q3 λg4 e k4 he=>?_);obtain⟨oe,hoe,hce⟩:=he;have hz4:M8 g4 z TI TO .ellipsis:=k4 _ _ n2z.symm (k3.extBut _ _ Ap.a2.symm (k2.extBut _ _ n1z.symm hz1));have hez:e≠z:=λx=>by rw[x,hz4]at hoe;cases hoe;simp at hce
  exact Nb hz4 (by simp) λg5 _ k5=>hE g5 e tk2 (λc o c1 c2 c3 c4 x=>k5.extBut _ _ c1 (k4 _ _ c4 (k3.extBut _ _ c2 (k2.extBut _ _ c3 (k1.extBut _ _ c1 x))))) ⟨oe,k5.extBut _ _ hez hoe,hce⟩
end
noncomputable def SQ(b:Bool)(h:L8)(l:LW)(xs:Array LU):Prop:=if b then h.IsList l xs else h.IsTuple l xs
noncomputable def SI(b:Bool)(h:L8)(i l:LW)(k:Nat):Prop:=if b then h.IsListIter i l k else h.IsTupleIter i l k
noncomputable def Ew(b:Bool):String:=if b then"list_iterator"else"tuple_iterator"
theorem SQ.keep{b:Bool}{h h':L8}{l:LW}{xs:Array LU}(x:SQ b h l xs)(k:∀o,h.get? l=some o->h'.get? l=some o):SQ b h' l xs:=by
 cases b with
 |true=>exact Heap.IsList.at x k
 |false=>obtain⟨o,e,r⟩:=(show h.IsTuple l xs from x);exact(show h'.IsTuple l xs from⟨o,k o e,r⟩)
theorem SI.keep{b:Bool}{h h':L8}{i l:LW}{n:Nat}(x:SI b h i l n)(k:∀o,h.get? i=some o->h'.get? i=some o):SI b h' i l n:=by
 cases b with
 |true=>exact Heap.IsListIter.at x k
 |false=>exact Heap.IsTupleIter.at x k
theorem SQ.lt{b:Bool}{h:L8}{l:LW}{xs:Array LU}(x:SQ b h l xs):l<h.objs.size:=by
 cases b with
 |true=>obtain⟨o,e,_⟩:=(show h.IsList l xs from x);exact Lf e
 |false=>obtain⟨o,e,_⟩:=(show h.IsTuple l xs from x);exact Lf e
theorem SI.get{b:Bool}{h:L8}{i l:LW}{n:Nat}(x:SI b h i l n):∃o,h.get? i=some o/\∀v,o.data≠.cell v:=by
 cases b with
 |true=>obtain⟨o,e,_,d⟩:=(show h.IsListIter i l n from x);exact⟨o,e,λv z=>by rw[d]at z;cases z⟩
 |false=>obtain⟨o,e,_,d⟩:=(show h.IsTupleIter i l n from x);exact⟨o,e,λv z=>by rw[d]at z;cases z⟩
theorem SI.new{b:Bool}{h:L8}{l:LW}:SI b (h.push {cls:=.type (Ew b),data:=.fields #[.ref l,.int 0 0]}) h.objs.size l 0:=by
 cases b with
 |true=>exact⟨_,Lj _ rfl,rfl,rfl⟩
 |false=>exact⟨_,Lj _ rfl,rfl,rfl⟩
theorem lC{b:Bool}{prog:L7}{w:L6}{A:Mf}{E:LU->LZ->Prop}{s:LZ}{l:LW}{xs:Array LU}{Q:LU->LZ->Prop}(h:SQ b s.heap l xs)
  (hQ:Q (.ref s.heap.objs.size) {s with heap:=s.heap.push {cls:=.type (Ew b),data:=.fields #[.ref l,.int 0 0]}}):Mi (model prog w) A (pyIter (.ref l)) Q E s:=by
 cases b with
 |true=>exact Mx h hQ
 |false=>exact wpAny_pyIter_tuple h hQ
theorem hJ{prog:L7}{w:L6}{A:Mf}(b:Bool)(hh:A.handled=none)(it l:LW)(hne:l≠it)(its:Array LU):Draws prog w A it [it,l] its.size (λi v=>its[i]?=some v) (λi h=>SI b h it l i/\SQ b h l its):=by
 cases b with
 |true=>exact Draws.list hh it l hne its
 |false=>exact Bm hh it l hne its
noncomputable abbrev vv(b1:Bool)(h:L8)(l1:LW):L8:=h.push {cls:=.type (Ew b1),data:=.fields #[.ref l1,.int 0 0]}
noncomputable abbrev D7(b1 b2:Bool)(h:L8)(l1 l2:LW):L8:=(vv b1 h l1).push {cls:=.type (Ew b2),data:=.fields #[.ref l2,.int 0 0]}
noncomputable abbrev EE(b1 b2:Bool)(h:L8)(l1 l2:LW):L8:=(D7 b1 b2 h l1 l2).push {cls:=.type "tuple",data:=.seq #[.ref h.objs.size,.ref (vv b1 h l1).objs.size]}
noncomputable abbrev EG(b1 b2:Bool)(h:L8)(l1 l2:LW):L8:=(EE b1 b2 h l1 l2).push {cls:=.type "tuple",data:=.seq #[.none,.none]}
noncomputable abbrev Bg(b1 b2:Bool)(h:L8)(l1 l2:LW):L8:=(EG b1 b2 h l1 l2).push {cls:=.type "zip",data:=.fields #[.none,.bool false,.bool false,.ref (D7 b1 b2 h l1 l2).objs.size,.ref (EE b1 b2 h l1 l2).objs.size]}
theorem wY(b1 b2:Bool)(l1 l2:LW)(xs ys:Array LU):Meets (Builtin.«zip.__new__» ⟨[.type "zip",.ref l1,.ref l2],[]⟩) (λ_ R s=>SQ b1 s.heap l1 xs/\SQ b2 s.heap l2 ys/\R (.ok (.ret (.ref (EG b1 b2 s.heap l1 l2).objs.size))) {s with heap:=Bg b1 b2 s.heap l1 l2}):=
 .of_wp λprog w A R s h=>by
  obtain⟨hp,g,d,tk,os⟩:=s;obtain⟨q1,q2,h⟩:=h;have hsub:=sub_zip;have e1:SQ b1 (Shared.heap ⟨hp,g,d,tk,os⟩) l1 xs:=q1;have e2:SQ b2 (Shared.heap ⟨vv b1 hp l1,g,d,tk,os⟩) l2 ys:=q2.keep λo e=>Li _ e
  wp_walk using lC e1,lC e2
  exact⟨_,rfl,h⟩
theorem xH{prog:L7}{w:L6}{A:Mf}{E:LU->LZ->Prop}{s:LZ}{b1 b2:Bool}{l1 l2:LW}{xs ys:Array LU}{Q:LU->LZ->Prop}(h1:SQ b1 s.heap l1 xs)(h2:SQ b2 s.heap l2 ys)
  (h:∀ g,M8 g (s.heap.objs.size+4) (s.heap.objs.size+2) (s.heap.objs.size+3) .none->M9 g (s.heap.objs.size+2) (.ref s.heap.objs.size) (.ref (s.heap.objs.size+1))->M9 g (s.heap.objs.size+3) .none .none->SI b1 g s.heap.objs.size l1 0->SI b2 g (s.heap.objs.size+1) l2 0 ->
   (∀c o,s.heap.get? c=some o->g.get? c=some o)->Q (.ref (s.heap.objs.size+4)) {s with heap:=g}):Mi (model prog w) A (call (.type "zip") [.ref l1,.ref l2]) Q E s:=by
 refine callType_new F.called_zip (by decide) (F.typeCall_zip_2 _ _) (F.newCall_zip_2 _ _) (λobj=>F.args_object_init_3 obj _ _) F.entry_zip_new (wY b1 b2 l1 l2 xs ys) ⟨h1,h2,?_⟩;have z1:(vv b1 s.heap l1).objs.size=s.heap.objs.size+1:=Ln ..
 have z2:(D7 b1 b2 s.heap l1 l2).objs.size=s.heap.objs.size+2:=by rw[Ln,z1]
 have z3:(EE b1 b2 s.heap l1 l2).objs.size=s.heap.objs.size+3:=by rw[Ln,z2]
 have z4:(EG b1 b2 s.heap l1 l2).objs.size=s.heap.objs.size+4:=by rw[Ln,z3]
 have u1:∀c o,(vv b1 s.heap l1).get? c=some o->(Bg b1 b2 s.heap l1 l2).get? c=some o:=λc o e=>Li _ (Li _ (Li _ (Li _ e)));have u2:∀c o,(D7 b1 b2 s.heap l1 l2).get? c=some o->(Bg b1 b2 s.heap l1 l2).get? c=some o:=λc o e=>Li _ (Li _ (Li _ e));have g5:(Bg b1 b2 s.heap l1 l2).get? (EG b1 b2 s.heap l1 l2).objs.size=some _:=Lj _ rfl;have g4:(Bg b1 b2 s.heap l1 l2).get? (EE b1 b2 s.heap l1 l2).objs.size=some _:=Li _ (Lj _ rfl);have g3:(Bg b1 b2 s.heap l1 l2).get? (D7 b1 b2 s.heap l1 l2).objs.size=some _:=Li _ (Li _ (Lj _ rfl));have g2:SI b2 (Bg b1 b2 s.heap l1 l2) (vv b1 s.heap l1).objs.size l2 0:=SI.keep (SI.new (h:=vv b1 s.heap l1)) λo e=>u2 _ o e;have g1:SI b1 (Bg b1 b2 s.heap l1 l2) s.heap.objs.size l1 0:=SI.keep SI.new λo e=>u1 _ o e;show _/\_;rw[z2,z3,z4]at g5;rw[z1,z2]at g3;rw[z3]at g4;rw[z1]at g2;rw[z4];exact⟨⟨_,g5,rfl⟩,h _ g5 g3 g4 g1 g2 λc o e=>u1 c o (Li _ e)⟩
theorem um(b : Bool)(l : LW)(xs : Array LU): Meets (Builtin.«enumerate.__new__» ⟨[.type "enumerate", .ref l], []⟩) (fun _ R s => SQ b s.heap l xs /\
      R (.ok (.ret (.ref (vv b s.heap l).objs.size))) {s with heap:=(vv b s.heap l).push {cls:=.type "enumerate",data:=.fields #[.none,.bool false,.ref s.heap.objs.size,rawInt 0,.none,.none]}}):=
  .of_wp λprog w A R s h=>by
    obtain⟨hp,g,d,tk,os⟩:=s;obtain⟨q1,h⟩:=h;have hsub:=sub_enumerate;have e1:SQ b (Shared.heap ⟨hp,g,d,tk,os⟩) l xs:=q1
    wp_walk using lC e1
    refine wpAny_stack_any λst=>Mv ?_;split
    · rename_i c _ _ _ _ _
      cases(c==Value.type "enumerate")<;>(wp_walk using lC e1;exact⟨_,rfl,h⟩)
    · wp_walk using lC e1
      exact⟨_,rfl,h⟩
end ZI
namespace TG
open PySem PySem.Spec L2 ZI
variable[ax]
section
variable{X:Cx}{pins:aV}{σ:St}{H:Hp}{s:LZ}{h':L8}
theorem Inv.turnedL{ch:aA}{p:LW}{o:HO}{t':Nat}(I:Inv X pins σ H s)(hf:∀b∈ch,mx X pins H b)(k:∀b u,b∉ch->s.heap.get? b=some u->h'.get? b=some u)(hp:s.heap.objs.size<=p)(new:cv X.prog X.w (upd H p o) h' p o):
  Inv X pins σ (upd H p o) {s with heap:=h',toks:=t'}:=by
 have hn:=I.hok.fresh hp;have nch:∀b u,H b=some u->b∉ch:=λb u e z=>by rw[(hf b z).1]at e;cases e
 refine I.step (g':=s.gens) (d':=s.drawn) (ch:=ch) (λb hb=>?_) (λb o _ _ hc e _=>k b o hc e) (λb o _ _ hc e _=>⟨o.slots,k b o hc e⟩) (λb u _ q n=>by rw[au (Ih (Ie (Lf q) hp))];exact n)
  (λb o hc e=>⟨o,k b o hc e⟩) (λb xs q=>by rw[au (aM q hn)];exact q) (λb u xs q=>by rw[au (aM q hn)];exact q) (λb ps q=>⟨#[],by rw[au (aM q hn),q];simp⟩) (λm hm=>?_) (λb u e=>?_) I.bare
 ·obtain⟨_,f1,_,f3,f4,f5⟩:=hf b hb;exact⟨f3,f1,f4,f5⟩
 ·obtain⟨o,es,ep,ho,r⟩:=hm;exact⟨o,es,ep,k _ o (λz=>(hf _ z).2.1 rfl) ho,r⟩
 ·by_cases hb:b=p
  ·subst hb;rw[az]at e;cases e;exact new
  ·rw[au hb]at e;refine(I.hok b u e).stay (λc v hc q=>k c v ?_ q) (λc q=>by rw[au (aM q hn)];exact q) λc xs q=>by rw[au (aM q hn)];exact q
   rcases hc with z|z
   ·rw[z];exact nch b u e
   ·exact nch c _ z
theorem Inv.turned0{ch:aA}{t':Nat}(I:Inv X pins σ H s)(hf:∀b∈ch,mx X pins H b)(k:∀b u,b∉ch->s.heap.get? b=some u->h'.get? b=some u):Inv X pins σ H {s with heap:=h',toks:=t'}:=by
 have nch:∀b u,H b=some u->b∉ch:=λb u e z=>by rw[(hf b z).1]at e;cases e
 refine I.step (g':=s.gens) (d':=s.drawn) (ch:=ch) (λb hb=>?_) (λb o _ _ hc e _=>k b o hc e) (λb o _ _ hc e _=>⟨o.slots,k b o hc e⟩) (λ_ _ _ _ n=>n)
  (λb o hc e=>⟨o,k b o hc e⟩) (λ_ _ e=>e) (λ_ _ _ e=>e) (λb ps e=>⟨#[],by rw[e];simp⟩) (λm hm=>?_) (λb u e=>?_) I.bare
 ·obtain⟨_,f1,_,f3,f4,f5⟩:=hf b hb;exact⟨f3,f1,f4,f5⟩
 ·obtain⟨o,es,ep,ho,r⟩:=hm;exact⟨o,es,ep,k _ o (λz=>(hf _ z).2.1 rfl) ho,r⟩
 ·refine(I.hok b u e).stay (λc v hc q=>k c v ?_ q) (λ_ q=>q) λ_ _ q=>q;rcases hc with z|z
  ·rw[z];exact nch b u e
  ·exact nch c _ z
end
noncomputable def SX(K:Ky)(b:Bool)(H:Hp)(a:LW)(xs:aE):Prop:=if b then ie K H a xs else jD K H a xs
theorem SX.same{K:Ky}{b:Bool}{H H':Hp}{a:LW}{xs:aE}(e:aS H H')(h:SX K b H a xs):SX K b H' a xs:=by
 cases b with
 |true=>exact e.seq (show ie K H a xs from h)
 |false=>exact uM e (show jD K H a xs from h)
section
variable{X:Cx}{pins:aV}{σ:St}{H:Hp}{s:LZ}
theorem Inv.sx(I:Inv X pins σ H s){b:Bool}{a:LW}{xs:aE}(h:SX X.K b H a xs):∃its:aQ,Vals xs its/\SQ b s.heap a its.toArray/\xs.length<=L9:=by
 cases b with
 |true=>obtain⟨its,r,p,z⟩:=I.list (show ie X.K H a xs from h);exact⟨its,r,p.isList,z⟩
 |false=>obtain⟨its,r,p,z⟩:=I.tuple (show jD X.K H a xs from h);exact⟨its,r,p,z⟩
theorem Inv.sx_inj(I:Inv X pins σ H s){b:Bool}{a:LW}{xs ys:aE}(h:SX X.K b H a xs)(h':SX X.K b H a ys):xs=ys:=by
 cases b with
 |true=>exact I.list_inj h h'
 |false=>exact I.tuple_inj h h'
end
noncomputable def Ha(K:Ky)(b1 b2:Bool)(a1 a2:LW):It:=
  ⟨fun i H=>∃ xs ys,SX K b1 H a1 xs/\SX K b2 H a2 ys/\i < xs.length/\i < ys.length,
   λi H v H'=>∃p x y,v=.ref p/\H p=none/\H'=upd H p (.tup [x,y])/\(∀xs,SX K b1 H a1 xs->xs[i]?=some x)/\∀ys,SX K b2 H a2 ys->ys[i]?=some y,
   λi H=>∃xs ys,SX K b1 H a1 xs/\SX K b2 H a2 ys/\(i=xs.length\/(i<xs.length/\i=ys.length))⟩
theorem xk{P:L7}{w:L6}{K:Ky}{es:aZ}{k:Nat}{pos:Pos}{b1 b2:Bool}{a1 a2 z TI TO i1 i2:LW}(Ap:Apart z TI TO i1 i2 [i1,a1] [i2,a2])(n1:a1≠i1)(n2:a2≠i2)(n3:z≠i1)(n4:z≠i2):Turn P w K (.Tuple es k pos) (Ha K b1 b2 a1 a2) [z,TI,TO,i1,i2] z
  (λi h=>M8 h z TI TO .none/\M9 h TI (.ref i1) (.ref i2)/\(∃a b,M9 h TO a b)/\SI b1 h i1 a1 i/\SI b2 h i2 a2 i)where
 mem:=by simp
 obj:=λi h ⟨hz,hI,⟨a,b,hO⟩,s1,s2⟩ c hc=>by
  simp only[JH,JI,or_false]at hc;rcases hc with rfl|rfl|rfl|rfl|rfl
  ·exact⟨_,hz,λv q=>by cases q⟩
  ·exact⟨_,hI,λv q=>by cases q⟩
  ·exact⟨_,hO,λv q=>by cases q⟩
  ·exact s1.get
  ·exact s2.get
 keep:=λi h h' ⟨hz,hI,⟨a,b,hO⟩,s1,s2⟩ kp=>⟨kp z (by simp) _ hz,kp TI (by simp) _ hI,⟨a,b,kp TO (by simp) _ hO⟩,s1.keep λo e=>kp i1 (by simp) o e,s2.keep λo e=>kp i2 (by simp) o e⟩
 item:=by
  rintro X hP hw hK hc i pins s σ H E I hf ⟨hz,hI,⟨a,b,hO⟩,s1,s2⟩ hg;subst hP hw hK;obtain⟨xs,ys,g1,g2,l1,l2⟩:=hg;obtain⟨its1,r1,q1,z1⟩:=Inv.sx I g1;obtain⟨its2,r2,q2,z2⟩:=Inv.sx I g2;have hh:X.A.in1.handled=none:=I.ok.hd hc;have hT:s.TypeIs (.ref z) "zip":=⟨_,hz,rfl⟩
  unfold pyNext;refine Mw (Ng (MX (name:=Str.ofString "__next__") hT F.slot_zip_next (MY F.slot_zip_next hT F.entry_zip_next
   (next_item Ap (hJ (A:=X.A.in1) b1 hh i1 a1 n1 its1.toArray) (hJ (A:=X.A.in1) b2 hh i2 a2 n2 its2.toArray) hz hI hO ⟨s1,q1⟩ ⟨s2,q2⟩ (by rw[IB,<-r1.length];exact l1) (by rw[IB,<-r2.length];exact l2) λu v g tk p1 p2 hz' hO' t1 t2 hp sz kp=>?_) (F.args_zip_next_1 _))))
  have e1:its1[i]?=some u:=by simpa using p1
  have e2:its2[i]?=some v:=by simpa using p2
  have hx:∃x,xs[i]?=some x/\RelV x u:=by
   obtain⟨u',hu,ru⟩:=r1.get (i:=i) (x:=xs[i]) (by simp[l1]);rw[e1]at hu;cases hu;exact⟨xs[i],by simp[l1],ru⟩
  have hy:∃y,ys[i]?=some y/\RelV y v:=by
   obtain⟨u',hu,ru⟩:=r2.get (i:=i) (x:=ys[i]) (by simp[l2]);rw[e2]at hu;cases hu;exact⟨ys[i],by simp[l2],ru⟩
  obtain⟨x,ex,rx⟩:=hx;obtain⟨y,ey,ry⟩:=hy;refine Mv ⟨_,rfl,?_⟩;refine wpAny_letOwnedTupleGo_zip hz' λg' hz2 sb=>?_;have hpz:s.heap.objs.size≠z:=Iw (Lf hz);have hp':M9 g' s.heap.objs.size u v:=sb.extBut _ _ hpz hp;have I':Inv X pins σ (upd H s.heap.objs.size (.tup [x,y])) {s with heap:=g',toks:=tk}:=Inv.turnedL (ch:=[z,TI,TO,i1,i2]) I hf (λc o hc e=>by
   simp only[JH,JI,or_false,not_or]at hc;exact sb.extBut _ _ hc.1 (kp c o hc.1 hc.2.2.1 hc.2.2.2.1 hc.2.2.2.2 e)) (Iy _) ⟨by show 2<=L9;decide,[u,v],.cons rx (.cons ry .nil),_,hp',rfl,_,rfl⟩
  have fr:H s.heap.objs.size=none:=I.fresh;have ne:∀c∈[z,TI,TO,i1,i2],c≠s.heap.objs.size:=λc hc e=>by
   simp only[JH,JI,or_false]at hc;rcases hc with rfl|rfl|rfl|rfl|rfl
   ·exact hpz e.symm
   ·exact absurd (Lf hI) (by rw[e];exact Ig _)
   ·exact absurd (Lf hO) (by rw[e];exact Ig _)
   ·obtain⟨o,q,_⟩:=s1.get;exact absurd (Lf q) (by rw[e];exact Ig _)
   ·obtain⟨o,q,_⟩:=s2.get;exact absurd (Lf q) (by rw[e];exact Ig _)
  refine⟨.ref s.heap.objs.size,_,I',rfl,⟨_,x,y,rfl,fr,rfl,λxs' h=>by rw[Inv.sx_inj I h g1];exact ex,λys' h=>by rw[Inv.sx_inj I h g2];exact ey⟩,⟨hz2,?_,⟨u,v,sb.extBut _ _ Ap.a2 hO'⟩,?_,?_⟩,λc hc=>by rw[au (ne c hc)];exact(hf c hc).1⟩
  ·exact sb.extBut _ _ Ap.a1 (kp TI _ Ap.a1 Ap.a3 Ap.d1 Ap.d2 hI)
  ·exact t1.1.keep λo e=>sb.extBut _ _ n3.symm e
  ·exact t2.1.keep λo e=>sb.extBut _ _ n4.symm e
 done:=by
  rintro X hP hw hK hc i pins s σ H E I hf ⟨hz,hI,⟨a,b,hO⟩,s1,s2⟩ hg;subst hP hw hK;obtain⟨xs,ys,g1,g2,hl⟩:=hg;obtain⟨its1,r1,q1,z1⟩:=Inv.sx I g1;obtain⟨its2,r2,q2,z2⟩:=Inv.sx I g2;have hh:X.A.in1.handled=none:=I.ok.hd hc;have hT:s.TypeIs (.ref z) "zip":=⟨_,hz,rfl⟩
  unfold pyNext;refine Mw (Ng (MX (name:=Str.ofString "__next__") hT F.slot_zip_next (MY F.slot_zip_next hT F.entry_zip_next
   (next_end (i:=i) Ap (hJ (A:=X.A.in1) b1 hh i1 a1 n1 its1.toArray) (hJ (A:=X.A.in1) b2 hh i2 a2 n2 its2.toArray) hz hI hO ⟨s1,q1⟩ ⟨s2,q2⟩ (by rw[IB,IB,<-r1.length,<-r2.length];exact hl) λg e tk kp he=>?_) (F.args_zip_next_1 _))))
  obtain⟨o,ho,hce⟩:=he;refine Mw (wpAny_isInstance (T:="StopIteration") (b:=true) ⟨o,ho,hce⟩ isSubtype_stop ?_);refine Mv ⟨rfl,Inv.turned0 (ch:=[z,TI,TO,i1,i2]) I hf λc o hc e=>?_⟩;simp only[JH,JI,or_false,not_or]at hc;exact kp c o hc.1 hc.2.2.1 hc.2.2.2.1 hc.2.2.2.2 e
 self:=λ_ _ _ _ _ ⟨hz,_⟩ h=>wpAny_pyIter_zip hz h
noncomputable def zG:D->Option (Bool×List D)
 |.lst xs=>some (true,xs)
 |.tup xs=>some (false,xs)
 |_=>none
theorem lN{K:Ky}{H:Hp}{d:D}{b:Bool}{xs:List D}{v:V}(e:zG d=some (b,xs))(h:bQ K H d v):∃a vs,v=.ref a/\SX K b H a vs/\aN K H xs vs:=by
 cases d with
 |lst ys=>cases e;exact bz.mp h
 |tup ys=>cases e;obtain⟨a,vs,e1,e2,e3⟩:=bA.mp h;exact⟨a,vs,e1,jD.of e2,e3⟩
 |_=>cases e
noncomputable def iz:List D->List D->List D
 |x::xs,y::ys=>.tup [x,y]::iz xs ys
 |_,_=>[]
theorem eN:∀xs ys:List D,(iz xs ys).length=min xs.length ys.length
 |[],_=>by simp[iz]
 |_::_,[]=>by simp[iz]
 |x::xs,y::ys=>by
  rw[iz,IE,eN xs ys,IE,IE];omega
theorem jo:∀{xs ys:List D}{i:Nat}{d:D},(iz xs ys)[i]?=some d->∃x y,xs[i]?=some x/\ys[i]?=some y/\d=.tup [x,y]
 |[],_,i,d,h=>by simp[iz]at h
 |_::_,[],i,d,h=>by simp[iz]at h
 |x::xs,y::ys,0,d,h=>by
  rw[iz,JK]at h;cases h;exact⟨x,y,rfl,rfl,rfl⟩
 |x::xs,y::ys,i+1,d,h=>by
  rw[iz,JL]at h;obtain⟨a,b,h1,h2,h3⟩:=jo h;exact⟨a,b,by rw[JL];exact h1,by rw[JL];exact h2,h3⟩
theorem wW{K:Ky}{Hd:Hp}{b1 b2:Bool}{a1 a2:LW}{ds es:List D}{vs ws:aE}(h1:SX K b1 Hd a1 vs)(g1:aN K Hd ds vs)(h2:SX K b2 Hd a2 ws)(g2:aN K Hd es ws):Walk K Hd (Ha K b1 b2 a1 a2) (iz ds es):=λHn O' i hO sm=>
  have s':aS Hd Hn:=sm.trans (aB Hn O')
  ⟨fun d e=>by
    obtain⟨x,y,e1,e2,rfl⟩:=jo e;have l1:i<ds.length:=(List.getElem?_eq_some_iff.mp e1).1;have l2:i<es.length:=(List.getElem?_eq_some_iff.mp e2).1;obtain⟨v,ev,dv⟩:=g1.get e1;obtain⟨w,ew,dw⟩:=g2.get e2;refine⟨⟨vs,ws,h1.same s',h2.same s',by rw[<-g1.length];exact l1,by rw[<-g2.length];exact l2⟩,λu H2 ⟨p,x',y',eu,hp,eH,q1,q2⟩=>?_⟩;have z1:=q1 vs (h1.same s');rw[ev]at z1;cases z1;have z2:=q2 ws (h2.same s');rw[ew]at z2;cases z2;subst eH eu;exact⟨bI hp _,c7 hO hp (bn.mpr ⟨v,_,rfl,dv.mono sm,bn.mpr ⟨w,_,rfl,dw.mono sm,bX.mpr rfl⟩⟩)⟩,
   λhl=>by
    rw[eN]at hl;refine⟨vs,ws,h1.same s',h2.same s',?_⟩;rw[<-g1.length,<-g2.length]
    omega⟩
noncomputable def uc:List D->Option (List D)
 |[a,b]=>(zG a).bind λx=>(zG b).bind λy=>some (iz x.2 y.2)
 |_=>none
noncomputable def qe(f:aP):aP:=λρ=>(f ρ).bind λds=>rO (uc ds)
section
variable{X:Cx}
theorem B9{a b c:LW}(h1:a≠b)(h2:a≠c):a∉[b,c]:=λh=>by
 rcases List.mem_cons.mp h with z|z
 ·exact h1 z
 ·exact h2 (List.mem_singleton.mp z)
theorem uX{n a1 a2:LW}(h1:a1<n)(h2:a2<n):Apart (n+4) (n+2) (n+3) n (n+1) [n,a1] [n+1,a2]:=by
 have lt:∀{a b:Nat},a<b->(b:LW)≠(a:LW):=λh=>Iw h;have lt':∀{a b:Nat},a<b->(a:LW)≠(b:LW):=λh=>Ih h;have g:∀k:Nat,a1<n+k:=λk=>Ie h1 (JM _ _);have g':∀k:Nat,a2<n+k:=λk=>Ie h2 (JM _ _);have p:∀{j k:Nat},j<k->n+j<n+k:=λh=>JN h n;have p0:∀{k:Nat},0<k->n<n+k:=λh=>JO h;exact⟨lt' (p (by decide)),lt' (p (by decide)),lt' (p (by decide)),B9 (lt (p0 (by decide))) (lt (g 4)),B9 (lt (p0 (by decide))) (lt (g 3)),B9 (lt (p0 (by decide))) (lt (g 1)),
  B9 (lt (p (by decide))) (lt (g' 4)),B9 (lt (p (by decide))) (lt (g' 3)),B9 (lt' (p0 (by decide))) (lt h2),lt (p0 (by decide)),lt (p (by decide)),Il,Il⟩
theorem Cm{pins:aV}{s:LZ}{σ:St}{H:Hp}{O:aA}{es:aZ}{k:Nat}{tpos:Pos}{ds r:List D}{vs:aE}{us:aQ}{RR:It->Hp->Prop}(I:Inv X pins σ H s)(hc:uc ds=some r)(d1:aN X.K (hid H O) ds vs)(rv:Vals vs us)(q:∀J,Walk X.K (hid H O) J r->RR J H):
  Mi (model X.prog X.w) X.A (call (.type "zip") us) (λv s1=>Mi (model X.prog X.w) X.A (pyIter v) (PIE X pins σ (.Tuple es k tpos) RR) X.xe s1) X.xe s:=by
 unfold uc at hc;split at hc
 ·rename_i a b;obtain⟨⟨b1,xs⟩,e1,hc⟩:=bind_some hc;obtain⟨⟨b2,ys⟩,e2,hc⟩:=bind_some hc;cases hc;obtain⟨va,vb,rfl,da,db⟩:=d1.two;obtain⟨u1,u2,rfl,r1,r2⟩:=vals2 rv;obtain⟨a1,ws1,rfl,x1,y1⟩:=lN e1 da;obtain⟨a2,ws2,rfl,x2,y2⟩:=lN e2 db;cases r1;cases r2;obtain⟨its1,rr1,q1,_⟩:=Inv.sx I (x1.same (aB H O));obtain⟨its2,rr2,q2,_⟩:=Inv.sx I (x2.same (aB H O));refine xH q1 q2 λg hz hI hO s1 s2 kp=>wpAny_pyIter_zip hz ?_;have Ap:=uX q1.lt q2.lt;refine⟨_,_,_,_,H,rfl,I.kept (t':=s.toks) kp,xk (b1:=b1) (b2:=b2) Ap (Ih q1.lt) (Ih (Ie q2.lt (JM _ 1))) (Iw (JO (by decide))) (Iw (JN (by decide) _)),⟨hz,hI,⟨_,_,hO⟩,s1,s2⟩,λb hb=>?_,q _ (wW x1 y1 x2 y2)⟩;have le:s.heap.objs.size<=b:=by
   simp only[JH,JI,or_false]at hb;rcases hb with rfl|rfl|rfl|rfl|rfl
   ·exact JM _ _
   ·exact JM _ _
   ·exact JM _ _
   ·exact Iy _
   ·exact JM _ _
  exact I.fpOk le (I.hok.fresh le)
 ·cases hc
end
noncomputable def G5(K:Ky)(b:Bool)(a:LW):It:=
  ⟨fun i H=>∃ xs,SX K b H a xs/\i < xs.length,
   λi H v H'=>∃p x,v=.ref p/\H p=none/\H'=upd H p (.tup [.int i,x])/\∀xs,SX K b H a xs->xs[i]?=some x,
   λi H=>∃xs,SX K b H a xs/\i=xs.length⟩
theorem ue{P:L7}{w:L6}{K:Ky}{es:aZ}{k:Nat}{pos:Pos}{b:Bool}{a e it:LW}(n1:a≠it)(n2:e≠it)(n3:e≠a):Turn P w K (.Tuple es k pos) (G5 K b a) [e,it] e (λi h=>(∃old,IsEnum h e it i old)/\SI b h it a i)where
 mem:=by simp
 obj:=λi h ⟨⟨old,he⟩,s1⟩ c hc=>by
  simp only[JH,JI,or_false]at hc;rcases hc with rfl|rfl
  ·exact⟨_,he,λv q=>by cases q⟩
  ·exact s1.get
 keep:=λi h h' ⟨⟨old,he⟩,s1⟩ kp=>⟨⟨old,kp e (by simp) _ he⟩,s1.keep λo q=>kp it (by simp) o q⟩
 item:=by
  rintro X hP hw hK hc i pins s σ H E I hf ⟨⟨old,he⟩,s1⟩ hg;subst hP hw hK;obtain⟨xs,g1,l1⟩:=hg;obtain⟨its,r1,q1,z1⟩:=Inv.sx I g1;have hh:X.A.in1.handled=none:=I.ok.hd hc;refine wpAny_pyNext_enum_itemD (hJ (A:=X.A.in1) b hh it a n1 its.toArray) he ⟨s1,q1⟩ (by rw[IB,<-r1.length];exact l1) n2 (B9 n2 n3) λu g tk p1 ho t1 hp sz kp=>?_;have e1:its[i]?=some u:=by simpa using p1
  obtain⟨u',hu,ru⟩:=r1.get (i:=i) (x:=xs[i]) (by simp[l1]);rw[e1]at hu;cases hu;refine⟨_,rfl,wpAny_letOwnedTupleGo_enum ho λg' he' sb=>?_⟩;have hpe:s.heap.objs.size≠e:=Iw (Lf he);have hp':=sb.extBut _ _ hpe hp;have I':Inv X pins σ (upd H s.heap.objs.size (.tup [.int i,xs[i]])) {s with heap:=g',toks:=tk+1}:=Inv.turnedL (ch:=[e,it]) I hf (λc o hc q=>by
   simp only[JH,JI,or_false,not_or]at hc;exact sb.extBut _ _ hc.1 (kp c o hc.1 hc.2 q)) (Iy _) ⟨by show 2<=L9;decide,[.int i tk,u],.cons ⟨_,rfl⟩ (.cons ru .nil),_,hp',rfl,_,rfl⟩
  have ne:∀c∈[e,it],c≠s.heap.objs.size:=λc hc q=>by
   simp only[JH,JI,or_false]at hc;rcases hc with rfl|rfl
   ·exact hpe q.symm
   ·obtain⟨o,q',_⟩:=s1.get;exact absurd (Lf q') (by rw[q];exact Ig _)
  refine⟨.ref s.heap.objs.size,_,I',rfl,⟨_,xs[i],rfl,I.fresh,rfl,λxs' h=>by rw[Inv.sx_inj I h g1];simp[l1]⟩,⟨⟨u,?_⟩,t1.1.keep λo q=>sb.extBut _ _ n2.symm q⟩,λc hc=>by rw[au (ne c hc)];exact(hf c hc).1⟩;have ei:((i+1:Nat):Int)=(i:Int)+1:=by omega
  rw[ei];exact he'
 done:=by
  rintro X hP hw hK hc i pins s σ H E I hf ⟨⟨old,he⟩,s1⟩ hg;subst hP hw hK;obtain⟨xs,g1,l1⟩:=hg;obtain⟨its,r1,q1,z1⟩:=Inv.sx I g1;have hh:X.A.in1.handled=none:=I.ok.hd hc;have el:i=its.toArray.size:=by rw[IB,<-r1.length];exact l1
  refine wpAny_pyNext_enum_endD (hJ (A:=X.A.in1) b hh it a n1 its.toArray) he ⟨by rw[<-el];exact s1,q1⟩ λg kp=>⟨rfl,Inv.turned0 (ch:=[e,it]) I hf λc o hc q=>?_⟩
  simp only[JH,JI,or_false,not_or]at hc;exact kp c o hc.2 q
 self:=λ_ _ _ _ _ ⟨⟨old,he⟩,_⟩ h=>wpAny_pyIter_enum he h
noncomputable def eA(i:Nat):List D->List D
 |[]=>[]
 |x::xs=>.tup [.int i,x]::eA (i+1) xs
theorem iL:∀(i:Nat)(xs:List D),(eA i xs).length=xs.length
 |_,[]=>rfl
 |i,x::xs=>by rw[eA,IE,iL (i+1) xs,IE]
theorem mJ:∀{xs:List D}{k i:Nat}{d:D},(eA k xs)[i]?=some d->∃x,xs[i]?=some x/\d=.tup [.int ((k+i:Nat):Int),x]
 |[],k,i,d,h=>by simp[eA]at h
 |x::xs,k,0,d,h=>by
  rw[eA,JK]at h;cases h;exact⟨x,rfl,rfl⟩
 |x::xs,k,i+1,d,h=>by
  rw[eA,JL]at h;obtain⟨y,h1,h2⟩:=mJ h;refine⟨y,by rw[JL];exact h1,?_⟩;rw[h2];congr 4;omega
theorem vk{K:Ky}{Hd:Hp}{b:Bool}{a:LW}{ds:List D}{vs:aE}(h1:SX K b Hd a vs)(g1:aN K Hd ds vs):Walk K Hd (G5 K b a) (eA 0 ds):=λHn O' i hO sm=>
  have s':aS Hd Hn:=sm.trans (aB Hn O')
  ⟨fun d e=>by
    obtain⟨x,e1,rfl⟩:=mJ e;have l1:i<ds.length:=(List.getElem?_eq_some_iff.mp e1).1;obtain⟨v,ev,dv⟩:=g1.get e1;refine⟨⟨vs,h1.same s',by rw[<-g1.length];exact l1⟩,λu H2 ⟨p,x',eu,hp,eH,q1⟩=>?_⟩;have z1:=q1 vs (h1.same s');rw[ev]at z1;cases z1;subst eH eu;rw[JP];exact⟨bI hp _,c7 hO hp (bn.mpr ⟨.int i,_,rfl,dQ.mpr rfl,bn.mpr ⟨v,_,rfl,dv.mono sm,bX.mpr rfl⟩⟩)⟩,
   λhl=>by
    rw[iL]at hl;exact⟨vs,h1.same s',by rw[<-g1.length];exact hl⟩⟩
noncomputable def mP:List D->Option (List D)
 |[a]=>(zG a).bind λx=>some (eA 0 x.2)
 |_=>none
noncomputable def fV(f:aP):aP:=λρ=>(f ρ).bind λds=>rO (mP ds)
section
variable{X:Cx}
theorem uK{prog:L7}{w:L6}{A:Mf}{E:bx}{s:LZ}{b:Bool}{l:LW}{xs:Array LU}{Q:bx}(h1:SQ b s.heap l xs)
  (h:∀g,IsEnum g (s.heap.objs.size+1) s.heap.objs.size 0 .none->SI b g s.heap.objs.size l 0->(∀c o,s.heap.get? c=some o->g.get? c=some o)->Q (.ref (s.heap.objs.size+1)) {s with heap:=g}):Mi (model prog w) A (call (.type "enumerate") [.ref l]) Q E s:=by
 refine callType_new F.called_enumerate (by decide) (F.typeCall_enumerate_1 _) (F.newCall_enumerate_1 _) (λobj=>F.args_object_init_2 obj _) F.entry_enumerate_new (um b l xs) ⟨h1,?_⟩;have z1:(vv b s.heap l).objs.size=s.heap.objs.size+1:=Ln ..
 have g2:=Lj (vv b s.heap l) (o:={cls:=.type "enumerate",data:=.fields #[.none,.bool false,.ref s.heap.objs.size,rawInt 0,.none,.none]}) rfl;have g1:SI b ((vv b s.heap l).push {cls:=.type "enumerate",data:=.fields #[.none,.bool false,.ref s.heap.objs.size,rawInt 0,.none,.none]}) s.heap.objs.size l 0:=SI.keep SI.new λo e=>Li _ e;show _/\_;rw[z1]at g2 ⊢;exact⟨⟨_,g2,rfl⟩,h _ g2 g1 λc o e=>Li _ (Li _ e)⟩
theorem Ab{pins:aV}{s:LZ}{σ:St}{H:Hp}{O:aA}{es:aZ}{k:Nat}{tpos:Pos}{ds r:List D}{vs:aE}{us:aQ}{RR:It->Hp->Prop}(I:Inv X pins σ H s)(hc:mP ds=some r)(d1:aN X.K (hid H O) ds vs)(rv:Vals vs us)(q:∀J,Walk X.K (hid H O) J r->RR J H):
  Mi (model X.prog X.w) X.A (call (.type "enumerate") us) (λv s1=>Mi (model X.prog X.w) X.A (pyIter v) (PIE X pins σ (.Tuple es k tpos) RR) X.xe s1) X.xe s:=by
 unfold mP at hc;split at hc
 ·rename_i a;obtain⟨⟨b1,xs⟩,e1,hc⟩:=bind_some hc;cases hc;obtain⟨va,rfl,da⟩:=d1.one;obtain⟨u1,rfl,r1⟩:=vals1 rv;obtain⟨a1,ws1,rfl,x1,y1⟩:=lN e1 da;cases r1;obtain⟨its1,rr1,q1,_⟩:=Inv.sx I (x1.same (aB H O));refine uK q1 λg he s1 kp=>wpAny_pyIter_enum he ?_;refine⟨_,_,_,_,H,rfl,I.kept (t':=s.toks) kp,ue (b:=b1) (Ih q1.lt) (Iw (JO (by decide))) (Iw (Ie q1.lt (JM _ 1))),⟨⟨_,he⟩,s1⟩,λb hb=>?_,q _ (vk x1 y1)⟩;have le:s.heap.objs.size<=b:=by
   simp only[JH,JI,or_false]at hb;rcases hb with rfl|rfl
   ·exact JM _ _
   ·exact Iy _
  exact I.fpOk le (I.hok.fresh le)
 ·cases hc
end
end TG
namespace TG
open PySem PySem.Spec L2
variable[ax]
theorem dZ{K:Ky}{c:Str}{C C':LW}(h:clsAt K c C)(h':clsAt K c C'):C=C':=by
 unfold clsAt at h h';rw[h]at h';cases h';rfl
theorem ir{K:Ky}{H:Hp}{f:Str}:∀{fs:al}{ds:List D}{vs:aE}{d:D},aN K H ds vs->(fs.zip ds).lookup f=some d->∃v,(fs.zip vs).lookup f=some v/\bQ K H d v
 |[],_,_,_,_,e=>by simp at e
 |_::_,[],_,_,_,e=>by simp at e
 |g::fs,x::ds,vs,d,h,e=>by
  rw[bn]at h;obtain⟨v,r,rfl,h1,h2⟩:=h;rw[JQ,Jf]at e ⊢;cases hg:f==g with
  |true=>rw[hg]at e;cases e;exact⟨v,rfl,h1⟩
  |false=>rw[hg]at e;exact ir h2 e
theorem nu{f:Str}:∀{fs:al}{vs:aE},fs.contains f=false->(fs.zip vs).lookup f=none
 |[],_,_=>by simp
 |_::_,[],_=>by simp
 |g::fs,x::vs,h=>by
  rw[JR,JS]at h;rw[JQ,Jf,h.1];exact nu h.2
noncomputable def uP(f:Str)(cs:al)(d:D):bi:=match d with
 |.obj c fs vs=>if cs.contains c then(fs.zip vs).lookup f else none
 |_=>none
noncomputable def pK(K:Ky)(f:Str)(cs:al):Prop:=∀c∈cs,∀C,clsAt K c C->qv K C/\cq K C f
section
variable{X:Cx}{a o e:LX}{es:aZ}{fa fo:FX}{fas:aP}{f m x:Str}{cs:al}{pos apos p:Pos}{k k':Nat}{ps:al}
noncomputable def MethAt(P:L7)(w:L6)(K:Ky)(mg:bK)(base:L8)(k:Nat)(c m:Str)(ps:al)(g:cB):Prop:=
 ∃C f fd,clsAt K c C/\qv K C/\Meth K C m f/\eh P w K mg base (jd P w) k f fd ps (vx K ps.length g)/\Binds K fd ps []
noncomputable def j8(m:Str)(tbl:List (Str×(cB)))(fo:FX)(fas:aP):FX:=λρ=>(fo ρ).bind λo=>match o with
 |.obj c fs vs=>match tbl.lookup c with
  |some g=>if fs.contains m then un else(fas ρ).bind λas=>g (o::as)
  |none=>un
 |_=>un
noncomputable def kY(P:L7)(w:L6)(K:Ky)(mg:bK)(base:L8)(k:Nat)(m:Str)(ps:al)(tbl:List (Str×(cB))):Prop:=
 ∀c g,tbl.lookup c=some g->MethAt P w K mg base k c m ps g/\Ar ps.length g
theorem yB{P:L7}{w:L6}{K:Ky}{mg:bK}{base:L8}:kY P w K mg base k m ps []:=λ_ _ h=>nomatch h
theorem yq{P:L7}{w:L6}{K:Ky}{mg:bK}{base:L8}{c:Str}{g:cB}{tbl:List (Str×(cB))}(h:MethAt P w K mg base k c m ps g)(hn:Ar ps.length g)(t:kY P w K mg base k m ps tbl):kY P w K mg base k m ps ((c,g)::tbl):=λc' g' e=>by
 rw[Jf]at e;cases hc:c'==c with
 |true=>
  rw[hc]at e;cases e
  have:c'=c:=by simpa using hc
  subst this;exact⟨h,hn⟩
 |false=>rw[hc]at e;exact t c' g' e
theorem MethAt.mono{P:L7}{w:L6}{K:Ky}{mg:bK}{base:L8}{c:Str}{g:cB}(h:MethAt P w K mg base k c m ps g)(hk:k<=k'):MethAt P w K mg base k' c m ps g:=by
 obtain⟨C,f,fd,h1,h2,h3,h4,h5⟩:=h;exact⟨C,f,fd,h1,h2,h3,h4.mono hk,h5⟩
theorem pN{tbl:List (Str×(cB))}{args:aZ}{pl:Sem Bool}(tb:kY X.prog X.w X.K X.mg X.base k m ps tbl)(hr:dI k X.A)(ho:FE X o fo)
  (hc:∀ (pins:aV) (s1:LZ) (σ:St) (H1:Hp) (O:aA) (ρ:ao) (a f:LW) (od:D) (Q:VK) (g:cB) (fd:ML) (w0:V),KS X.K (.ref f)=true->eh X.prog X.w X.K X.mg X.base (jd X.prog X.w) k f fd ps (vx X.K ps.length g)->Binds X.K fd ps []->Ar ps.length g->Inv X pins σ H1 s1->cy X.K O H1 ρ σ->bQ X.K (hid H1 O) od (.ref a) ->
   (dU X σ O H1 ((fas ρ).bind λas=>g (od::as)) λd=>∀v H',aS H1 H'->bQ X.K (hid H' O) d v->Q v H')->
   Mi (model X.prog X.w) X.A (MI pos (.ref f) [.ref a] (backTo pos (Mj args X.env)) (backToKw pos (MJ [] X.env))) (EP X pins σ Q) X.xe s1)
  (ht:eval (.Call (.Attribute o m apos) args [] pos) X.env=(do
   let ov<-eval o X.env
   standAt apos.atName
   let (f,first)<-holding [ov] (getMethod ov m pl)
   MI pos f first (backTo pos (Mj args X.env)) (backToKw pos (MJ [] X.env)))):
  FE X (.Call (.Attribute o m apos) args [] pos) (j8 m tbl fo fas):=by
 rintro pins s σ H Q I ⟨O,ρ,E,hF⟩;refine pT ho I ?_ ht;refine⟨O,ρ,E,(dU.bind hF).imp λd hF v H1 s1 d1=>?_⟩;cases d with
 |obj c fs vs=>
  have hF':dU X σ O H (match tbl.lookup c with|some g=>if fs.contains m then un else(fas ρ).bind λas=>g (.obj c fs vs::as)|none=>un) _:=hF;cases hg:tbl.lookup c with
  |none=>rw[hg]at hF';exact hF'.elim
  |some g=>
   rw[hg]at hF';have hF2:dU X σ O H (if fs.contains m then un else(fas ρ).bind λas=>g (.obj c fs vs::as)) _:=hF';cases hm:fs.contains m with
   |true=>rw[hm]at hF2;exact hF2.elim
   |false=>
    rw[hm]at hF2;have hF3:dU X σ O H ((fas ρ).bind λas=>g (.obj c fs vs::as)) _:=hF2;have d0:=d1;obtain⟨a,ws,ev,g1,g2,C,dx,g3,g4⟩:=Fc.mp d1;obtain⟨⟨C',f,fd,m1,m2,m3,m4,m5⟩,ar⟩:=tb c g hg;have eC:=dZ g3 m1;subst eC;subst ev;refine⟨a,C,dx,_,f,rfl,aB H1 O _ _ g4,m2,m3,nu hm,λs2 I2=>?_⟩;exact hc pins s2 σ H1 O ρ a f _ Q g fd (.ref a) m3.kp m4 m5 ar I2 (E.same s1) d0 ((hF3.mono s1).imp λd q v H2 s2 d2=>q v H2 (s1.trans s2) d2)
 |_=>exact hF.elim
theorem ly{σ:St}{O:aA}{H:Hp}{g:cB}{ds:List D}{vs:aE}{Q:VK}{n:Nat}(ar:Ar n g)(hO:cP H O)(d1:aN X.K (hid H O) ds vs)(h:dU X σ O H (g ds) λd=>∀v H',aS H H'->bQ X.K (hid H' O) d v->Q v H'):∃E,gD (jd X.prog X.w) X σ E/\vx X.K n g vs H Q E:=by
 cases hg:g ds with
 |ok d=>
  rw[hg]at h;refine⟨E0,tP,O,ds,by rw[<-d1.length];exact ar ds (by rw[hg];intro z;cases z),hO,d1,?_⟩;rw[hg];exact h
 |error z=>
  rw[hg]at h;cases z with
  |none=>exact h.elim
  |some x=>
   refine⟨sf X O H x,sB h,O,ds,by rw[<-d1.length];exact ar ds (by rw[hg];intro z;cases z),hO,d1,?_⟩;rw[hg];exact qt
theorem uS{P:L7}{w:L6}{K:Ky}{mg:bK}{base:L8}{c y qual:Str}{C f:LW}{fd:ML}{st:LY}{N:al}{B:bB}(h1:clsAt K c C)(h2:qv K C)(h3:Meth K C m f)(F:pZ K y qual st f fd)(b:Binds K fd ps [])(SC:cC N ps (aH st))(hb:BodyOk P w K mg base k N qual st f B):
  MethAt P w K mg base (k+1) c m ps (aC B ps.length N.length):=⟨C,f,fd,h1,h2,h3,pA F SC hb,b⟩
noncomputable def HC(C:LW)(fs:al):Sp:=λvs H Q _=>∃x dx as,vs=.ref x::as/\as.length=fs.length/\H x=some (.ins C dx [])/\Q .non (upd H x (.ins C dx (fs.zip as)))
noncomputable def oC(P:L7)(w:L6)(K:Ky)(mg:bK)(base:L8)(k:Nat)(c:Str)(ps fs:al):Prop:=
 ∃C f fd,clsAt K c C/\Mk K C f/\eh P w K mg base (jd P w) k f fd ps (HC C fs)/\Binds K fd ps []/\mg c=some (.ref C)
noncomputable def fNew(c:Str)(fs:al)(fas:aP):FX:=λρ=>(fas ρ).bind λas=>if as.length=fs.length then .ok (.obj c fs as)else un
theorem pW{K:Ky}{H1:Hp}{O:aA}{c:Str}{fs:al}{as:List D}{vs:aE}{C x dx:LW}(hc:clsAt K c C)(hl:as.length=fs.length)(d1:aN K (hid H1 O) as vs)(hO:cP H1 O)(hx:H1 x=none)(hd:H1 dx=none)(ne:dx≠x):
  aS H1 (upd (upd (upd H1 dx (.own x)) x (.ins C dx [])) x (.ins C dx (fs.zip vs)))/\bQ K (hid (upd (upd (upd H1 dx (.own x)) x (.ins C dx [])) x (.ins C dx (fs.zip vs))) O) (.obj c fs as) (.ref x):=by
 have sm:aS H1 (upd (upd (upd H1 dx (.own x)) x (.ins C dx [])) x (.ins C dx (fs.zip vs))):=λb o h=>by
  have n1:=aM h hx;have n2:=aM h hd;rw[au n1,au n1,au n2];exact h
 exact⟨sm,Fc.mpr ⟨x,vs,rfl,d1.mono (bM sm),by rw[<-d1.length,hl],C,dx,hc,by rw[iu (hO.not hx),az]⟩⟩
theorem AQ{X:Cx}:qU (jd X.prog X.w) X E0:=λ_ _ _ _ _ _ _ h=>by
 obtain⟨_,_,_,_,_,_,_,_,_,_,_,_,_,_,z⟩:=h;exact z.elim
theorem lO(f:Str)(v:V):∀{fs:List (Str×V)},(fs.map (·.1)).contains f=false->f9 f v fs=fs++[(f,v)]
 |[],_=>rfl
 |(g,w)::fs,h=>by
  rw[IG,JR,JS]at h;have ne:¬g=f:=λz=>by
   have:=h.1
   rw[z]at this;simp at this
  have:=lO f v (fs:=fs) h.2
  unfold f9;simp only[ne,if_false,this,Ji]
noncomputable def rT(X:Cx)(cs:al)(body:cH)(fs:al)(i:Nat):Prop:=
 ∃t,mR X body t/\∀(D:Ends)(σ:St)(H:Hp)(x dx C:LW)(done:List (Str×V))(as:aE),σ[0]?=some (some (.ref x))->(∀j v,as[j]?=some v->σ[i+j]?=some (some v))->as.length=fs.length->qv X.K C->(∀f∈fs,cq X.K C f)->done.length+fs.length<1000->(done.map (·.1)++fs).Nodup->H x=some (.ins C dx done)->
  D.nx σ (upd H x (.ins C dx (done++fs.zip as)))->t D σ H
theorem uD{st:LY}{f:Str}{i:Nat}{o v:LX}{p1 p2:Pos}(hst:st=.Assign [.Attribute o f p1] v p2)(ho:PE X o (lV 0))(hv:PE X v (lV i))(hs:swapsWith v (some (.Attribute o f p1)) p2.line X.env=pure false):rT X cs [st] [f] i:=by
 subst hst;refine⟨_,pq (vW ho hv hs),λD σ H x dx C done as h0 ha hl cl na hz nd hx q=>?_⟩;obtain⟨a,rfl⟩:∃a,as=[a]:=by
  match as,hl with
  |[a],_=>exact⟨a,rfl⟩
 refine⟨a,ha 0 a rfl,.ref x,h0,x,C,dx,done,rfl,hx,cl,na f (List.mem_singleton.mpr rfl),by simp at hz;omega,?_⟩;rw[lO f a (by
  have:=nd
  rw[JT]at this;have h3:=this.2.2;cases hc:(done.map (·.1)).contains f with
  |false=>rfl
  |true=>exact absurd rfl (h3 f (List.contains_iff_mem.mp hc) f (List.mem_singleton.mpr rfl)))]
 exact q
theorem rz{st:LY}{rest:cH}{f:Str}{fs:al}{i:Nat}{o v:LX}{p1 p2:Pos}(hst:st=.Assign [.Attribute o f p1] v p2)(ho:PE X o (lV 0))(hv:PE X v (lV i))(hs:swapsWith v (some (.Attribute o f p1)) p2.line X.env=pure false)(hr:rT X cs rest fs (i+1)):rT X cs (st::rest) (f::fs) i:=by
 subst hst;obtain⟨t,ht,hq⟩:=hr;refine⟨_,lJ (vW ho hv hs) ht,λD σ H x dx C done as h0 ha hl cl na hz nd hx q=>?_⟩;obtain⟨a,as,rfl⟩:∃a r,as=a::r:=by
  match as,hl with
  |a::r,_=>exact⟨a,r,rfl⟩
 have hno:(done.map (·.1)).contains f=false:=by
  have:=nd
  rw[JT]at this;have h3:=this.2.2;cases hc:(done.map (·.1)).contains f with
  |false=>rfl
  |true=>exact absurd rfl (h3 f (List.contains_iff_mem.mp hc) f Il)
 refine⟨a,ha 0 a rfl,.ref x,h0,x,C,dx,done,rfl,hx,cl,na f Il,by simp at hz;omega,?_⟩;rw[lO f a hno];refine hq D σ _ x dx C (done++[(f,a)]) as h0 (λj v e=>?_) (by simpa using hl) cl (λg hg=>na g (Im _ hg)) (by simp at hz ⊢;omega) (by simpa [JE]using nd) (by rw[az]) ?_
 ·have:=ha (j+1) v (by simpa using e)
  rw[show i+1+j=i+(j+1)by omega];exact this
 ·rw[kM,JE];exact q
theorem u5{P:L7}{w:L6}{K:Ky}{mg:bK}{base:L8}{c qual:Str}{C f:LW}{fd:ML}{st:LY}{fs:al}(h1:clsAt K c C)(hM:Mk K C f)(cl:qv K C)(na:∀g∈fs,cq K C g)(F:pZ K "__init__" qual st f fd)(b:Binds K fd ps [])(hmg:mg c=some (.ref C))(SC:cC ps ps (aH st))(hps:ps.length=fs.length+1)(hnd:fs.Nodup)(hlen:fs.length<1000)
  (hb:∀(cdv:LU)(A:Mf)(outer:List Env)(s:LZ)(H:Hp)(E:XK),rT (gd DT P w K mg base ps qual (aH st) f cdv A outer s H E).nox [] (cO st) fs 1):oC P w K mg base (k+1) c ps fs:=by
 refine⟨C,f,fd,h1,hM,?_,b,hmg⟩;refine eh.any (F.ok SC (λvs H Q E h=>?_) λcdv A outer s H vs Q E hr h=>?_)
 ·obtain⟨x,dx,as,rfl,hl,_⟩:=h;rw[IE,hl,hps]
 ·obtain⟨t,ht,hq⟩:=hb cdv A outer s H E;obtain⟨x,dx,as,rfl,hl,hx,q⟩:=h;have hst:L2.start ps (.ref x::as)=(.ref x::as).map some:=by
   unfold L2.start;rw[IE,hl,hps,JU,JV,IL]
  refine⟨t,ht,hq _ _ H x dx C [] as (by rw[hst];rfl) (λj v e=>?_) hl cl na (by simpa using hlen) (by simpa using hnd) hx q⟩;rw[hst,JW,IG,JL,IV,e];rfl
end
end TG
namespace TG
open PySem PySem.Spec L2
variable[ax]
section
variable{X:Cx}
noncomputable def ja:List D->Option (al)
 |[]=>some []
 |.str x::r=>(ja r).bind λys=>some (x::ys)
 |_=>none
theorem nB:∀{ds:List D}{ys:al},ja ds=some ys->ds=ys.map .str
 |[],ys,h=>by cases h;rfl
 |d::ds,ys,h=>by
  cases d with
  |str x=>
   have h':(ja ds).bind (λys=>some (x::ys))=some ys:=h;cases e:ja ds with
   |none=>rw[e]at h';cases h'
   |some zs=>
    rw[e]at h';cases h';rw[nB e];rfl
  |_=>cases h
theorem mX{K:Ky}{H:Hp}:∀{ys:al}{vs:aE},aN K H (ys.map .str) vs->vs=ys.map .str
 |[],vs,h=>bX.mp h
 |y::ys,vs,h=>by
  obtain⟨v,r,rfl,h1,h2⟩:=bn.mp h;rw[dE.mp h1,mX h2];rfl
theorem rW:∀{ys:al}{its:aQ},Vals (ys.map .str) its->PyProof.Rows.StrsAre its ys
 |[],_,.nil=>.nil
 |y::ys,_,.cons h t=>by
  obtain⟨t',rfl⟩:=h;exact .cons y t' (rW t)
noncomputable def rJoin(K:Ky):V->aE->Hp->VK->Prop:=λx xs H Q=>∃z l ys,x=.str z/\xs=[.ref l]/\ie K H l (ys.map V.str)/\(ys.map (λy=>y.length)).sum+ys.length*z.length<=100000/\Q (.str (Txt.join z ys)) H
theorem AF:Gq X "str.join" (rJoin X.K):=by
 rintro pins s σ H x xs v us Q I rx rs ⟨z,l,ys,ex,exs,hl,hz,q⟩;subst ex exs;obtain⟨t,rfl⟩:=rx;obtain⟨u,rfl⟩:∃u,us=[u]:=by
  cases rs with
  |cons _ t=>cases t;exact⟨_,rfl⟩
 have ru:RelV (.ref l) u:=by cases rs with|cons h _=>exact h
 cases ru;obtain⟨its,r,ht,_⟩:=I.list hl;exact PyProof.Rows.join_list ht.isList (rW r) ‹0› λt' k=>⟨.str _,H,I.tok _,⟨_,rfl⟩,q⟩
noncomputable def Es:D->Option Str
 |.str z=>some z
 |_=>none
theorem zp{K:Ky}{H:Hp}{d:D}{z:Str}{v:V}(e:Es d=some z)(h:bQ K H d v):v=.str z:=by
 cases d with
 |str y=>cases e;exact dE.mp h
 |_=>cases e
noncomputable def ll(z:Str)(as:List D):bi:=match as with
 |[.lst xs]=>(ja xs).bind λys=>if small ((ys.map (λy=>y.length)).sum+ys.length*z.length)then some (.str (Txt.join z ys))else none
 |_=>none
noncomputable def f7(f:FX)(g:aP):FX:=λρ=>(f ρ).bind λa=>(rO (Es a)).bind λz=>(g ρ).bind λds=>rO (ll z ds)
theorem nZ{K:Ky}{H:Hp}{O:aA}{z:Str}{ds:List D}{d:D}{vs:aE}{Q:VK}(hg:ll z ds=some d)(hd:aN K (hid H O) ds vs)(q:∀v,bQ K (hid H O) d v->Q v H):rJoin K (.str z) vs H Q:=by
 unfold ll at hg;split at hg
 ·rename_i xs;cases e:ja xs with
  |none=>rw[e]at hg;cases hg
  |some ys=>
   rw[e]at hg;obtain⟨h1,h2⟩:=bg hg;subst h2;obtain⟨v,ev,h1'⟩:=hd.one;obtain⟨l,ws,el,hl,hw⟩:=bz.mp h1';rw[nB e]at hw;rw[mX hw]at hl;exact⟨z,l,ys,rfl,by rw[ev,el],(aB H O).seq hl,of_decide_eq_true h1,q _ (dE.mpr rfl)⟩
 ·cases hg
noncomputable def Ga(a b:D):bi:=match a,b with
 |.bl c,.bl d=>some (.bl (c==d))
 |_,_=>none
noncomputable def zl(a b:D):bi:=match a,b with
 |.bl c,.bl d=>some (.bl (!(c==d)))
 |_,_=>none
end
section
variable{X:Cx}{C:LW}{pins:aV}{σ:St}{H:Hp}{s:LZ}{Q:VK}
end
end TG
namespace TG
open PySem PySem.Spec PyProof.Rows L2
variable[ax]
noncomputable def cA:List D->List D->Option Bool
 |[],[]=>some false
 |[],_::_=>some true
 |_::_,[]=>some false
 |a::as,b::bs=>match a,b with
  |.int i,.int j=>if i=j then cA as bs else some (decide (i<j))
  |.str x,.str y=>if x=y then cA as bs else some (decide (x.cps.toList<y.cps.toList))
  |_,_=>none
inductive eX:aQ->List D->Prop where
 |nil:eX [] []
 |int (i:Int) (t:Tok) {vs:aQ} {ds:List D} (h:eX vs ds):eX (.int i t::vs) (.int i::ds)
 |str (x:Str) (t:Tok) {vs:aQ} {ds:List D} (h:eX vs ds):eX (.str x t::vs) (.str x::ds)
theorem eX.length:∀{vs:aQ}{ds:List D},eX vs ds->vs.length=ds.length
 |_,_,.nil=>rfl
 |_,_,.int _ _ h=>by rw[IE,IE,h.length]
 |_,_,.str _ _ h=>by rw[IE,IE,h.length]
theorem D5(A:Mf)(s:LZ)(a:Int)(t:Tok)(c:Int)(u:Tok):∃e,SeqAt.EqAt A s (.int a t) (.int c u) e/\(e=true↔a=c):=
 ⟨(a==c),SeqAt.EqAt.int_int a t c u,by simp⟩
theorem Eh(A:Mf)(s:LZ)(a:Str)(t:Tok)(c:Str)(u:Tok):∃e,SeqAt.EqAt A s (.str a t) (.str c u) e/\(e=true↔a=c):=
 ⟨(a==c),SeqAt.EqAt.str_str a t c u,by simp⟩
theorem Dq(A:Mf)(s:LZ)(a:Str)(t:Tok)(c:Str)(u:Tok)(prog:L7)(w:L6)(E:bx)(Q:bx)(h:Q (.bool (decide (a.cps.toList<c.cps.toList))) s):
  Mi (model prog w) A (richCompare .Lt (.str a t) (.str c u)) Q E s:=
 (PySem.P.lt_str h:Mi (model prog w) A (Mp .Lt (.str a t) (.str c u)) Q E s)
section
open PySem.SeqAt
open PySem.AutoSeq1 (wpAny_loadPart')
open PySem.MeetsSeq PySem.MeetsSeq2 PySem.MeetsSeq3
set_option maxHeartbeats 1000000 in
theorem mi(l b:LW)(items items2:Array LU)(n n2:Nat)(dd dd2:Option LW)(sl sl2:Array (Option LU))(ns ms:List D)(r:Bool)(hi:eX items.toList ns)(hj:eX items2.toList ms)(hr:cA ns ms=some r):
  Meets (Builtin.«tuple.__lt__» ⟨[.ref l,.ref b],[]⟩)
   (fun _ R s=>s.heap.get? l=some { cls:=.type "tuple",dict:=dd,data:=.seq items n,slots:=sl }/\s.heap.get? b=some { cls:=.type "tuple",dict:=dd2,data:=.seq items2 n2,slots:=sl2 } /\
    R (.ok (.ret (.bool r))) s):=
 .of_wp λprog w A R s h=>by
  obtain⟨hp,g,d,tk,os⟩:=s;obtain⟨hl,hb,h⟩:=h;have f2:=AutoSeq1.sub_tuple_tuple;have z1:items.size=ns.length:=by rw[<-hi.length];simp
  have z2:items2.size=ms.length:=by rw[<-hj.length];simp
  wp_walk using wpAny_loadPart' hl,wpAny_loadPart' hb,wpAny_forIn_list _ (λrest b s'=>b.1=none/\s'=⟨hp,g,d,tk,os⟩/\∃(vs ws:aQ)(ns' ms':List D),rest=vs.zip ws/\
   eX vs ns'/\eX ws ms'/\ns'.length+items2.size=ms'.length+items.size/\cA ns' ms'=some r/\R (.ok (.ret (.bool r))) ⟨hp,g,d,tk,os⟩) _
  case turn=>
   rintro⟨y,x⟩ rest b s' ⟨hb',rfl,vs,ws,ns',ms',hz,hvi,hwi,hlen,hL,hR⟩;cases hvi with
   |nil=>rw[List.zip_nil_left]at hz;cases hz
   |int a t hvi'=>
    cases hwi with
    |nil=>rw[JX]at hz;cases hz
    |str c u hwi'=>cases hL
    |int c u hwi'=>
     rw[JQ]at hz;injection hz with hyx hrest;injection hyx with hy hx;subst hy hx;have hL':(if a=c then cA _ _ else some (decide (a<c)))=some r:=hL;simp only[IE]at hlen;obtain⟨e,he,hiff⟩:=D5 A.in1 ⟨hp,g,d,tk,os⟩ a t c u;refine Mw (he prog w _ _ ?_);cases e with
     |true=>
      rw[if_pos (hiff.mp rfl)]at hL'
      wp_walk
      exact⟨rfl,rfl,_,_,_,_,hrest,hvi',hwi',by omega,hL',hR⟩
     |false=>
      rw[if_neg (λq=>absurd (hiff.mpr q) Iu)]at hL';cases hL';have hri:=HT.DW A.in1 ⟨hp,g,d,tk,os⟩ a t c u prog w
      wp_walk using hri
      exact⟨_,rfl,by simpa using hR⟩
   |str a t hvi'=>
    cases hwi with
    |nil=>rw[JX]at hz;cases hz
    |int c u hwi'=>cases hL
    |str c u hwi'=>
     rw[JQ]at hz;injection hz with hyx hrest;injection hyx with hy hx;subst hy hx;have hL':(if a=c then cA _ _ else some (decide (a.cps.toList<c.cps.toList)))=some r:=hL;simp only[IE]at hlen;obtain⟨e,he,hiff⟩:=Eh A.in1 ⟨hp,g,d,tk,os⟩ a t c u;refine Mw (he prog w _ _ ?_);cases e with
     |true=>
      rw[if_pos (hiff.mp rfl)]at hL'
      wp_walk
      exact⟨rfl,rfl,_,_,_,_,hrest,hvi',hwi',by omega,hL',hR⟩
     |false=>
      rw[if_neg (λq=>absurd (hiff.mpr q) Iu)]at hL';cases hL';have hri:=Dq A.in1 ⟨hp,g,d,tk,os⟩ a t c u prog w
      wp_walk using hri
      exact⟨_,rfl,by simpa using hR⟩
  case fin=>
   rintro⟨b1,b2⟩ s' ⟨hb',rfl,vs,ws,ns',ms',hz,hvi,hwi,hlen,hL,hR⟩;simp only at hb';subst hb';have hv:r=decide (items.size<items2.size):=by
    have l1:=hvi.length;have l2:=hwi.length;cases ns' with
    |nil=>
     cases ms' with
     |nil=>
      simp only[JY]at hlen;cases hL;exact(decide_eq_false ‹0›).symm
     |cons c u=>
      simp only[JY,IE]at hlen;cases hL;exact(decide_eq_true ‹0›).symm
    |cons a t=>
     cases ms' with
     |nil=>
      simp only[JY,IE]at hlen;cases hL;exact(decide_eq_false ‹0›).symm
     |cons c u=>
      have:=congrArg List.length hz
      simp only[JY,List.length_zip,l1,l2,IE]at this;omega
   rw[hv]at hR
   wp_walk
   exact⟨_,rfl,by simpa [Builtin.Tuple.tupleCompareSizes]using hR⟩
  case h=>
   exact⟨rfl,rfl,items.toList,items2.toList,ns,ms,rfl,hi,hj,by omega,hr,h⟩
end
section
variable{X:Cx}
theorem uW{α:Type}{c:Bool}{o:Option α}{a:α}(h:(if c then o else none)=some a):c=true/\o=some a:=by
 cases c with
 |true=>exact⟨rfl,h⟩
 |false=>cases h
theorem qV{prog:L7}{w:L6}{A:Mf}{E:bx}{s:LZ}{l b:LW}{items items2:Array LU}{ns ms:List D}{r:Bool}{Q:bx}(hl:IsTup s.heap l items)(hb:IsTup s.heap b items2)(hi:eX items.toList ns)(hj:eX items2.toList ms)(hr:cA ns ms=some r)
  (hu:A.units<MK) (h:Q (.bool r) s):Mi (model prog w) A (Mp .Lt (.ref l) (.ref b)) Q E s:=by
 obtain⟨⟨cls,dd,data,sl⟩,ho,hc,n,hd⟩:=id hl;obtain⟨⟨cls2,dd2,data2,sl2⟩,ho2,hc2,n2,hd2⟩:=id hb;simp only at hc hd hc2 hd2;subst hc hd hc2 hd2;exact richCompare_meets_room (op:=.Lt) ⟨_,ho,rfl⟩ ⟨_,ho2,rfl⟩ PySem.F.slot_tuple_lt PySem.F.entry_tuple_lt (PySem.F.args_tuple_lt_2 _ _) (mi l b items items2 n n2 dd dd2 sl sl2 ns ms r hi hj hr)
  ⟨ho,ho2,show Value.bool r≠Value.notImplemented/\Q (.bool r) s from⟨(λx=>nomatch x),h⟩⟩ hu
noncomputable def iq:List D->Bool
 |[]=>true
 |.int _::r=>iq r
 |.str _::r=>iq r
 |_=>false
theorem iU{K:Ky}{H:Hp}:∀{ds:List D}{vs:aE}{us:aQ},iq ds=true->aN K H ds vs->Vals vs us->eX us ds
 |[],vs,us,_,h,r=>by
  rw[bX]at h;subst h;cases r;exact .nil
 |d::ds,vs,us,hf,h,r=>by
  obtain⟨v,r',e,h1,h2⟩:=bn.mp h;subst e;cases r with
  |cons q1 q2=>
   cases d with
   |int i=>
    rw[dQ]at h1;subst h1;obtain⟨t,rfl⟩:=q1;exact .int i t (iU hf h2 q2)
   |str x=>
    rw[dE]at h1;subst h1;obtain⟨t,rfl⟩:=q1;exact .str x t (iU hf h2 q2)
   |_=>cases hf
noncomputable def dm(a b:D):bi:=match a,b with
 |.int i,.int j=>some (.bl (decide (i<j)))
 |.str x,.str y=>some (.bl (decide (x.cps.toList<y.cps.toList)))
 |.tup xs,.tup ys=>if iq xs&&iq ys then(cA xs ys).bind λr=>some (.bl r)else none
 |_,_=>none
theorem xr(hu:X.A.units+64<MK):fO X (Mp .Lt) (rD X.K dm):=by
 rintro pins s σ H x y u v Q I rx ry ⟨O,a,b,d,hO,ha,hb,hg,q⟩;cases a with
 |int i=>
  cases b with
  |int j=>
   cases hg;exact Ek pins s σ H x y u v Q I rx ry ⟨i,j,dQ.mp ha,dQ.mp hb,q _ H (aS.refl H) (fN.mpr rfl)⟩
  |_=>cases hg
 |str i=>
  cases b with
  |str j=>
   cases hg;exact uF pins s σ H x y u v Q I rx ry ⟨i,j,dE.mp ha,dE.mp hb,q _ H (aS.refl H) (fN.mpr rfl)⟩
  |_=>cases hg
 |tup xs=>
  cases b with
  |tup ys=>
   obtain⟨h1,h2⟩:=uW hg;obtain⟨r,e1,e2⟩:=bind_some h2;cases e2;rw[Jb]at h1;obtain⟨p,vs,ex,g1,g2⟩:=bA.mp ha;obtain⟨p',vs',ey,g1',g2'⟩:=bA.mp hb;subst ex ey;cases rx;cases ry;obtain⟨its,r1,t1,_⟩:=I.tuple (bH (aB H O) g1);obtain⟨its2,r2,t2,_⟩:=I.tuple (bH (aB H O) g1');exact qV t1 t2 (iU h1.1 g2 r1) (iU h1.2 g2' r2) e1 ‹0› (vJ I (q _ H (aS.refl H) (fN.mpr rfl)) rfl)
  |_=>cases hg
 |_=>cases hg
end
end TG
namespace TG
open PySem PySem.Spec L2
variable[ax]
end TG
namespace TG
open PySem PySem.Spec PyProof.Rows PySem.W L2
variable[ax]
theorem rJ:∀a:List Nat,¬a<a
 |[]=>JZ _
 |x::xs=>λh=>by
  rcases List.cons_lt_cons_iff.mp h with h|⟨_,h⟩
  ·omega
  ·exact rJ xs h
theorem lL:∀{a b c:List Nat},a<b->b<c->a<c
 |_,_,[],_,h=>absurd h (JZ _)
 |_,[],_::_,h,_=>absurd h (JZ _)
 |[],_::_,_::_,_,_=>J0 _ _
 |x::xs,y::ys,z::zs,h,h'=>by
  rw[J1]at h h' ⊢;rcases h with h|⟨e,h⟩<;>rcases h' with h'|⟨e',h'⟩
  ·exact .inl ‹0›
  ·exact .inl ‹0›
  ·exact .inl ‹0›
  ·exact .inr ⟨by omega,lL h h'⟩
theorem wU:∀a b:List Nat,a<b\/a=b\/b<a
 |[],[]=>.inr (.inl rfl)
 |[],_::_=>.inl (J0 _ _)
 |_::_,[]=>.inr (.inr (J0 _ _))
 |x::xs,y::ys=>by
  rw[J1,J1];rcases Nat.lt_trichotomy x y with h|h|h
  ·exact .inl (.inl h)
  ·rcases wU xs ys with q|q|q
   ·exact .inl (.inr ⟨h,q⟩)
   ·exact .inr (.inl (by rw[h,q]))
   ·exact .inr (.inr (.inr ⟨h.symm,q⟩))
  ·exact .inr (.inr (.inl h))
theorem pI{x y:Str}(h:x.cps.toList=y.cps.toList):x=y:=by
 cases x;cases y;congr 1;exact Array.toList_inj.mp h
inductive Sh:List Bool->List D->Prop where
 |nil:Sh [] []
 |int (i:Int) {bs:List Bool} {ds:List D} (h:Sh bs ds):Sh (true::bs) (.int i::ds)
 |str (x:Str) {bs:List Bool} {ds:List D} (h:Sh bs ds):Sh (false::bs) (.str x::ds)
theorem kG:∀{σ:List Bool}{a:List D},Sh σ a->iq a=true
 |_,_,.nil=>rfl
 |_,_,.int i h=>by
  unfold iq;exact kG h
 |_,_,.str i h=>by
  unfold iq;exact kG h
theorem xS(i j:Int)(as bs:List D):cA (.int i::as) (.int j::bs)=if i=j then cA as bs else some (decide (i<j)):=by rw[cA]
theorem xq(x y:Str)(as bs:List D):cA (.str x::as) (.str y::bs)=if x=y then cA as bs else some (decide (x.cps.toList<y.cps.toList)):=by rw[cA]
theorem Cj:cA [] []=some false:=by rw[cA]
theorem kL:∀{σ:List Bool}{a:List D},Sh σ a->cA a a=some false
 |_,_,.nil=>Cj
 |_,_,.int i h=>by rw[xS,if_pos rfl];exact kL h
 |_,_,.str x h=>by rw[xq,if_pos rfl];exact kL h
theorem zr{σ:List Bool}{a b:List D}(h1:Sh σ a)(h2:Sh σ b):(cA a b=some true/\cA b a=some false/\a≠b)\/a=b\/(cA b a=some true/\cA a b=some false/\a≠b):=by
 induction h1 generalizing b with
 |nil=>cases h2;exact .inr (.inl rfl)
 |int i h ih=>
  cases h2 with|int j h'=>
  rw[xS,xS];by_cases e:i=j
  ·subst e;rw[if_pos rfl,if_pos rfl];rcases ih h' with⟨q1,q2,q3⟩|q|⟨q1,q2,q3⟩
   ·exact .inl ⟨q1,q2,λz=>q3 (by injection z)⟩
   ·exact .inr (.inl (by rw[q]))
   ·exact .inr (.inr ⟨q1,q2,λz=>q3 (by injection z)⟩)
  ·rw[if_neg e,if_neg (λz=>e z.symm)];rcases Int.lt_or_gt_of_ne e with q|q
   ·exact .inl ⟨by rw[decide_eq_true q],by rw[decide_eq_false ‹0›],λz=>e (by injection z with z1;injection z1)⟩
   ·exact .inr (.inr ⟨by rw[decide_eq_true q],by rw[decide_eq_false ‹0›],λz=>e (by injection z with z1;injection z1)⟩)
 |str x h ih=>
  cases h2 with|str y h'=>
  rw[xq,xq];by_cases e:x=y
  ·subst e;rw[if_pos rfl,if_pos rfl];rcases ih h' with⟨q1,q2,q3⟩|q|⟨q1,q2,q3⟩
   ·exact .inl ⟨q1,q2,λz=>q3 (by injection z)⟩
   ·exact .inr (.inl (by rw[q]))
   ·exact .inr (.inr ⟨q1,q2,λz=>q3 (by injection z)⟩)
  ·rw[if_neg e,if_neg (λz=>e z.symm)];rcases wU x.cps.toList y.cps.toList with q|q|q
   ·exact .inl ⟨by rw[decide_eq_true q],by rw[decide_eq_false λz=>rJ _ (lL q z)],λz=>e (by injection z with z1;injection z1)⟩
   ·exact absurd (pI q) e
   ·exact .inr (.inr ⟨by rw[decide_eq_true q],by rw[decide_eq_false λz=>rJ _ (lL q z)],λz=>e (by injection z with z1;injection z1)⟩)
noncomputable def kLt(a b:List D):Bool:=cA a b==some true
theorem EW{a b:List D}:kLt a b=true↔cA a b=some true:=by unfold kLt;simp
end TG
namespace TG
open PySem PySem.Spec L2
variable[ax]
section
variable{X:Cx}{tg:LX}
end
end TG
namespace TG
open PySem PySem.Spec L2
variable[ax]
end TG
namespace TG
open PySem PySem.Spec L2
variable[ax]
end TG
namespace TG
open PySem PySem.Spec L2
variable[ax]
end TG
namespace TG
open PySem PySem.Spec L2
variable[ax]
end TG
namespace TG
open PySem PySem.Spec PySem.W PySem.Calls PyProof.Rows Builtin Builtin.ObjectAttr Builtin.Getset_descriptor
variable[ax]
section
variable{prog:L7}{w:L6}{A:Mf}{E:LU->LZ->Prop}{s:LZ}{K:Frag}{x D:LW}{ox:Obj}{R:ME->LZ->Prop}
theorem wK{M:Mh}{h:L8}(X:K.In h)(q1:findIn K (.ref D) "__class__"=some (some (.builtin "object.__class__")))(q2:specialIn K (.builtin "object.__class__") "__get__"=some (some (.builtin "getset_descriptor.__get__")))(q3:takesIn K (.builtin "object.__class__")=some true):
  Nh M h (find (.ref x) (.ref D) "__class__") (.bind (.builtin "getset_descriptor.__get__") (.builtin "object.__class__")):=by
 have y1:=Ni (M:=M) X q1;have y2:Nh M h (getOf (some (.builtin "object.__class__"))) (some (.builtin "getset_descriptor.__get__")):=looks_specialIn X q2;have y3:=looks_takesIn (M:=M) X q3;refine y1.andThen (y2.andThen ?_);refine Looks.andThen (a:=some (.builtin "getset_descriptor.__get__",.builtin "object.__class__")) (y3.andThen .now) ?_;exact Looks.tag .now
theorem yW{tp:LU}(y0:Nh (model prog w) s.heap (typeOf (.ref x)) (.ref D))(y1:Nh (model prog w) s.heap (isSubtype (.ref D) (.type "object")) true)(h:R (.ok (.ret (.ref D))) s):
  MF (model prog w) A (.call (.builtin "getset_descriptor.__get__") ⟨[.builtin "object.__class__",.ref x,tp],[]⟩) R s:=by
 obtain⟨h₁,g₁,d₁,t₁,o₁⟩:=s;refine Nj KF.slot_gs.plain KF.entry_gs
  (KF.slot_gs.check _ _ _ _ _ _ _ _ KF.type_class (KF.args_gs _ _ _) ?_)
 unfold Builtin.«getset_descriptor.__get__»;unfold descrGet;rw[dga_obj];refine Mw (Mv ?_);unfold descrGetter descrCheckInstance;unfold descrNameAndClass isInstance;simp only[KF.owner_class]
 repeat lk
 refine⟨Code.quiet_builtin _ (by decide +kernel),
  codeAny_builtin KF.entry_class ?_⟩
 unfold Builtin.«object.__class__»;unfold shownTypeOf
 repeat lk
 exact h
structure iB(K:Frag)(D:LW):Prop where
 ga:findIn K (.ref D) "__getattribute__"=some (some (.builtin "BaseException.__getattribute__"))
 gn:findIn K (.ref D) "__getattr__"=some none
 fc:findIn K (.ref D) "__class__"=some (some (.builtin "object.__class__"))
 sg:specialIn K (.builtin "object.__class__") "__get__"=some (some (.builtin "getset_descriptor.__get__"))
 tk:takesIn K (.builtin "object.__class__")=some true
 ob:mroIn K D (.type "object")=some true
 be:mroIn K D (.type "BaseException")=some true
theorem uR{Q:Option LU->LZ->Prop}(Z:iB K D)(X:K.In s.heap)(y0:∀M,Nh M s.heap (typeOf (.ref x)) (.ref D))(h:Q (some (.ref D)) {s with toks:=s.toks+1}):Mi (model prog w) A (getAttr? (.ref x) "__class__") Q E s:=by
 obtain⟨hh,g,d,t,os⟩:=s;have L0:=y0 (model prog w);have L1:=Ni (M:=model prog w) X Z.ga;have L2:=Ni (M:=model prog w) X Z.gn;have L3:=Nk (M:=model prog w) X Z.be;have L4:=wK (M:=model prog w) (x:=x) X Z.fc Z.sg Z.tk;have L5:=Nk (M:=model prog w) X Z.ob;unfold getAttr? getAttrBy? getAttrBy;refine Mw (wpAny_mkText (Mw
  (Ng (MV (Mw (L0.at (Mw (L1.at ?_))))))))
 show Mi _ _ (getAttrByItsOwn _ _ _ _ _ _) _ _ _;unfold getAttrByItsOwn;refine Mw ?_;show Mi _ _ (typeLookup (Value.ref D) "__getattr__") _ _ _;refine L2.at ?_;refine Mw (Ng (MV ?_));show Mi _ _ (boundAndCalled _ _ _) _ _ _;unfold boundAndCalled;rw[PySem.F.attrBase_ValueError.ga.bind (.ref x)];refine Mw (Mv ?_);have ha:=F.args_bexc_ga (.ref x) (Value.str (Str.ofString "__class__") t);have hk:builtinKind "BaseException.__getattribute__"=some .slot:=by
  decide +kernel
 have hsplit:splitId "BaseException.__getattribute__"=some ("BaseException","__getattribute__"):=by
  decide +kernel
 refine MN (Nj PySem.F.attrBase_ValueError.ga.plain F.entry_bexc_ga ?_);have LI:Nh (model prog w) hh (isInstance (.ref x) (.type "BaseException")) true:=L0.andThen L3;have hT:∀A' (Q':Unit->LZ->Prop) E',Q' () ⟨hh,g,d,t+1,os⟩->Mi (model prog w) A' (checkBuiltinCall "BaseException.__getattribute__" ⟨[.ref x,Value.str (Str.ofString "__class__") t],[]⟩) Q' E' ⟨hh,g,d,t+1,os⟩:=λA' Q' E' hq=>by
  simp only[checkBuiltinCall,hk,hsplit];refine Mw (LI.at ?_)
  repeat (first|exact hq|wp_step)
 refine hT _ _ _ ?_;show Mi _ _ (Builtin.«object.__getattribute__» ⟨[.ref x,Value.str (Str.ofString "__class__") t],[]⟩) _ _ _;unfold Builtin.«object.__getattribute__»;refine Mw (Mv ?_);refine Mw (Mv ?_);refine Mw (L0.at ?_);refine Mw (L4.at ?_);show Mi _ _ (Builtin.ObjectAttr.bindTo (.builtin "getset_descriptor.__get__") (.builtin "object.__class__") (.ref x) (.ref D)) _ _ _;unfold Builtin.ObjectAttr.bindTo;dsimp only;refine Mw (MV (MN (yW (s:=⟨hh,g,d,t+1,os⟩) L0 L5 ?_)));exact Mv (handed_on rfl (Mv h))
theorem qp(F:iB K D):KitX K (.ref x) (.ref D) (λh=>∃o,h.get? x=some o/\o.cls=.ref D):=by
 have cl:∃c d cd sl,K.lookup D=some ⟨c,d,.cls cd,sl⟩:=by
  have z:=F.fc;unfold findIn at z;dsimp only at z;split at z
  ·rename_i ho;exact⟨_,_,_,_,ho⟩
  ·cases z
 have ty:∀(M:Mh)(h:L8),(∃o,h.get? x=some o/\o.cls=.ref D)->Nh M h (typeOf (.ref x)) (.ref D):=λM h ⟨o,e,c⟩=>c ▸ (Looks.ld e).andThen .now;refine⟨λM h _ I=>ty M h I,λM h X _=>?_,λh tp dd its n sl X htp=>?_,λX I k=>uR F X (λM=>ty M _ I) k⟩
 ·obtain⟨c,d,cd,sl,ho⟩:=cl;intro A' Q' E' s' k q;unfold isType loadHead;exact Mw (MB (k _ _ (X _ _ ho)) (Mv q))
 ·obtain⟨c,d,cd,sl,ho⟩:=cl;cases hb:(Value.ref D==Value.ref tp)with
  |false=>rfl
  |true=>
   have e:D=tp:=Value.ref.inj (beq_iff_eq.mp hb);subst e;cases(X _ _ ho).symm.trans htp
end
end TG
namespace TG
open PySem PySem.Spec PySem.W PySem.Calls PyProof.Rows Builtin Builtin.ObjectAttr Builtin.Getset_descriptor
section
variable{prog:L7}{w:L6}{A:Mf}{E:LU->LZ->Prop}{s:LZ}{K:Frag}{x D:LW}{ox:Obj}{od:Option Obj}{name:Str}{v:LU}
theorem yi{expr:Bool}{Q:LU->LZ->Prop}(Z:iB K D)(X:K.In s.heap)(I:InstAt s.heap x ox D od)(hf:findObj K D od name=some (.value v))(hh:handedIn v=true)(h:Q v {s with toks:=s.toks+1}):
  Mi (model prog w) A (getAttr (.ref x) name expr) Q E s:=by
 obtain⟨hp,g,d,t,os⟩:=s;have k0:=I.type (M:=model prog w);have k1:=Ni (M:=model prog w) X Z.ga;have k2:=Ni (M:=model prog w) X Z.gn;have k3:=Nk (M:=model prog w) X Z.be;have k4:=looks_find (M:=model prog w) X I hf;unfold getAttr getAttrBy;refine Mw (wpAny_mkText (MV (Mw (k0.at (Mw (k1.at ?_))))));show Mi _ _ (getAttrByItsOwn _ _ _ _ _ _) _ _ _;unfold getAttrByItsOwn;refine Mw (k2.at ?_);refine Mw (Ng (MV ?_));unfold callGetattribute;rw[if_neg (by cases expr<;>decide)];unfold boundAndCalled;rw[PySem.F.attrBase_ValueError.ga.bind (.ref x)];refine Mw (Mv ?_);have ha:=F.args_bexc_ga (.ref x) (Value.str name t);have e1:builtinKind "BaseException.__getattribute__"=some .slot:=by decide +kernel
 have e2:splitId "BaseException.__getattribute__"=some ("BaseException","__getattribute__"):=by decide +kernel
 refine MN (Nj PySem.F.attrBase_ValueError.ga.plain F.entry_bexc_ga ?_);have k5:Nh (model prog w) hp (isInstance (.ref x) (.type "BaseException")) true:=k0.andThen k3;refine@check_slot (model prog w) _ _ ⟨hp,g,d,t+1,os⟩ "BaseException.__getattribute__" "BaseException" "__getattribute__" (.ref x) [.str name t] [] _ e1 e2 k5 ha ?_;show Mi _ _ (Builtin.«object.__getattribute__» ⟨[.ref x,.str name t],[]⟩) _ _ _;unfold Builtin.«object.__getattribute__»;refine Mw (Mv (Mw (Mv (Mw (k0.at (Mw (k4.at ?_)))))));refine Mv ?_;show Mi _ _ (handedOut v) _ _ _;rw[handedOut_of hh];exact Mv h
end
noncomputable def rF:List LU->Bool
 |.ref _::r=>rF r
 |l=>l==[.type "ValueError",.type "Exception",.type "BaseException",.type "object"]
noncomputable def qy(K:Frag)(D:LW):Bool:=(clsIn K D).any λcd=>rF cd.mro
theorem nO(self:LU):∀{l:List LU},rF l=true->refuseLoop self "__setattr__" l=pure ()/\l.contains (.type "object")=true/\l.isEmpty=false
 |[],h=>by cases h
 |c::r,h=>by
  cases c with
  |ref C=>
   obtain⟨h1,h2,_⟩:=nO self (l:=r) h;exact⟨by rw[refuseLoop_ref];exact h1,by rw[JR,h2,J2],rfl⟩
  |_=>
   have e:=eq_of_beq (show(_==_)=true from h);rw[e];exact⟨PySem.F.store_ValueError.passes self,by decide +kernel,rfl⟩
section
variable{prog:L7}{w:L6}{A:Mf}{E:LU->LZ->Prop}{s:LZ}{K:Frag}{x D:LW}{ox:Obj}{od:Option Obj}{name:Str}{v:LU}{tk:Tok}{R:ME->LZ->Prop}
theorem tR(X:K.In s.heap)(I:InstAt s.heap x ox D od)(hp:qy K D=true)(ha:findIn K (.ref D) name=some none)
  (h:Mi (model prog w) A.in1 (storeInOwnDict (.ref x) (.ref D) (.str name tk) name v false) (λfin s'=>match fin with|.done f=>R (.ok f) s'|.again c'=>c'.quiet=true/\MF (model prog w) A c' R s') (λe s'=>R (.error e) s') s):
  MF (model prog w) A (.call (.builtin "object.__setattr__") ⟨[.ref x,.str name tk,v],[]⟩) R s:=by
 have SF:=PySem.F.store_object;obtain⟨cd,hc,ho⟩:=any_some hp;obtain⟨v1,v2,v3⟩:=nO (.ref x) ho;have k1:Nh (model prog w) s.heap (isInstance (.ref x) (.type "object")) true:=I.type.andThen (Nk X (by unfold mroIn;rw[hc,Option.bind_some,if_neg (by rw[v3];decide),v2]));have k2:Nh (model prog w) s.heap (mroOf (.ref D)) cd.mro:=(looks_clsIn X hc).andThen .now;refine Nj SF.slot.plain SF.entry (@check_slot (model prog w) _ _ s "object.__setattr__" "object" "__setattr__" (.ref x) [.str name tk,v] [] _ SF.kind SF.split k1 (SF.args (.ref x) (.str name tk) v) ?_);rw[osa_eq,refuse_eq];refine Mw (Mw (I.type.here (Mw (k2.here ?_))));rw[v1];refine Mv (Mw (I.type.here (Mw ((Ni X ha).here (Mw (Mv ?_))))));exact h
end
section
variable{prog:L7}{w:L6}{A:Mf}{E:LU->LZ->Prop}{s:LZ}{K:Frag}{x D dx:LW}{ox:Obj}{od:Option Obj}{name:Str}{v:LU}{tk:Tok}{R:ME->LZ->Prop}{mA:Str->Option LU}{ns:List Str}{Q:Unit->LZ->Prop}
structure AZ(K:Frag)(D:LW):Prop where
 sa:findIn K (.ref D) "__setattr__"=some (some (.builtin "object.__setattr__"))
 ov:qy K D=true
 hd:hasDictIn K D=true
theorem xB(Z:AZ K D)(X:K.In s.heap)(hx:s.heap.get? x=some ox)(hc:ox.cls=.ref D)(hn:notCls ox=true)(hd:ox.dict=some dx)(hns:s.heap.Ns1 dx mA)(ha:findIn K (.ref D) name=some none)(hw:PySem.Within mA ns)(hsz:ns.length<=L9)
  (h:∀h',h'.Ns1 dx (λy=>if y=name then some v else mA y)->Lh dx s.heap h'->Q () {s with heap:=h',toks:=s.toks+2}):Mi (model prog w) A (setAttr (.ref x) name v) Q E s:=by
 obtain⟨oD0,ho0,hl0⟩:=L2.mI hns;have I:InstAt s.heap x ox D (some oD0):=⟨hx,hc,hn,by rw[hd];exact ho0⟩
 refine set_plain X I Z.sa (tR (s:={s with toks:=s.toks+1}) X I Z.ov ha ?_);obtain⟨cd,c1,c2⟩:=any_some Z.hd;obtain⟨oc,odi,oda,osl⟩:=ox;dsimp only at hc hd;subst hc hd;refine Mw (Mv (Mw (Mw (MB hx (Mw (Looks.here (s:={s with toks:=s.toks+1}) (looks_clsIn X c1) ?_))))));rw[c2];refine Mv (a:=some dx) (Mw (Mv (Mw ?_)));refine wpAny_nsSet1 (s:={s with toks:=s.toks+1}) hns λh' n2 s2=>?_;obtain⟨o3,es3,ep3,q1,q2,q3⟩:=n2.count (PySem.Within.cons name v hw);refine Mw (MC q1 (by rw[q2];exact MD (Ii q3 (by rw[IE];omega))) ?_);exact Mv (h _ n2 s2)
theorem xG{vs:Array LU}(Z:AZ K D)(X:K.In s.heap)(hx:s.heap.get? x=some ox)(hc:ox.cls=.ref D)(hdat:ox.data=.fields vs)(hd:ox.dict=none)(ha:findIn K (.ref D) name=some none)
  (h:∀h',h'.Ns1 s.heap.objs.size (λy=>if y=name then some v else none)->Lh s.heap.objs.size ((s.heap.push {cls:=.type "dict",data:=.dict #[]}).update x λo=>{o with dict:=some s.heap.objs.size}) h'->Q () {s with heap:=h',toks:=s.toks+2}):Mi (model prog w) A (setAttr (.ref x) name v) Q E s:=by
 obtain⟨oc,odi,oda,osl⟩:=ox;dsimp only at hc hd hdat;subst hc hd hdat;have I:InstAt s.heap x ⟨.ref D,none,.fields vs,osl⟩ D none:=⟨hx,rfl,rfl,trivial⟩
 refine set_plain X I Z.sa (tR (s:={s with toks:=s.toks+1}) X I Z.ov ha ?_);obtain⟨cd,c1,c2⟩:=any_some Z.hd;refine Mw (Mv (Mw (Mw (MB hx (Mw (Looks.here (s:={s with toks:=s.toks+1}) (looks_clsIn X c1) ?_))))));rw[c2];have hx1:(s.heap.push {cls:=.type "dict",data:=.dict #[]}).get? x=some ⟨.ref D,none,.fields vs,osl⟩:=Li _ hx;have ne:x≠s.heap.objs.size:=Ih (Lf hx);rw[if_neg (by decide)];dsimp only;rw[if_neg (by simp[typeHasDict])];refine Mw (wpAny_alloc' (Mw (wpAny_update' hx1 (Mv ?_))));have g1:((s.heap.push {cls:=.type "dict",data:=.dict #[]}).update x λo=>{o with dict:=some s.heap.objs.size}).get? s.heap.objs.size=some {cls:=.type "dict",data:=.dict #[]}:=(Lr _ _ _ _ ne.symm).trans (Ls rfl rfl);have g3:((s.heap.push {cls:=.type "dict",data:=.dict #[]}).update x λo=>{o with dict:=some s.heap.objs.size}).Ns s.heap.objs.size (λ_=>none):=⟨_,#[],_,g1,rfl,λe he=>absurd he (by simp),λ_=>rfl⟩
 show Mi _ _ (storeInDict s.heap.objs.size (.str name s.toks) name v) _ _ _;unfold storeInDict newKeyGuard;refine Mw (Mv (Mw (wpAny_nsSet1 (Heap.Ns1.of_empty g3) λh' n2 s2=>?_)));obtain⟨o3,es3,ep3,q1,q2,q3⟩:=n2.count (PySem.Within.cons name v PySem.Within.nil);refine Mw (MC q1 (by rw[q2];exact MD (Ii q3 (by rw[IE,JY,MA];omega))) ?_);exact Mv (h h' n2 s2)
end
end TG
namespace TG
open PySem PySem.Spec L2
variable[ax]
open PyProof.Rows (AllBare OwnCls)
section
variable{X:Cx}{pins:aV}{σ:St}{H:Hp}{s:LZ}{h':L8}
theorem sR(I:Inv X pins σ H s)(hx:X.ex=[])(hst:X.stack=X.env::X.outer)(hf:X.env.frame=some X.env.locals)(hfn:∀x,X.fn x=true)(us:s.heap.UpToSlots h')(k:∀b o,s.heap.get? b=some o->fA X H b->b∉frs X.stack->h'.get? b=some o):
  Inv X [] σ H {s with heap:=h'}:=by
 have un:=xn I hx hst hf us k;have cellF:∀x c,X.env.cells.lookup x=some c->c∉frs X.stack:=λx c e z=>by
  obtain⟨v,o,q,d⟩:=I.cell x c e;rw[hst]at z;have z':c∈X.env.locals::frs X.outer:=by
   have:frs (X.env::X.outer)=X.env.locals::frs X.outer:=(by show List.filterMap _ (_::_)=_;rw[Ik,hf];rfl);rw[this]at z;exact z
  rcases List.mem_cons.mp z' with z|z
  ·obtain⟨m,⟨o2,es,ep,e2,d2,_⟩,_⟩:=I.loc;rw[<-z,q]at e2;cases e2;rw[d]at d2;cases d2
  ·obtain⟨_,o2,e2,_⟩:=I.ok.funs.mem z;exact Ig _ (Ie (Lf e2) (I.ok.cab x c (hfn x) e))
 have cellK:∀x c v,X.env.cells.lookup x=some c->s.heap.IsCell c v->h'.IsCell c v:=λx c v e ⟨o,q,d⟩=>⟨o,k c o q (.inr (.inr (.inr ⟨x,e⟩))) (cellF x c e),d⟩
 obtain⟨m,hn,hl⟩:=I.loc;refine⟨I.ok,I.os,I.bare,by rw[hx];exact un,⟨m,us.ns hn,λi x v e1 e2 e3=>?_⟩,λx c e=>?_,I.free,I.freeC,λp hp=>?_,rQ I k,I.len⟩
 ·obtain⟨u,r,q⟩:=hl i x v e1 e2 e3;refine⟨u,r,?_⟩;rcases q with q|⟨q1,c,q2,q3⟩
  ·exact .inl q
  ·exact .inr ⟨q1,c,q2,cellK x c _ q2 q3⟩
 ·obtain⟨v,q⟩:=I.cell x c e;exact⟨v,cellK x c v e q⟩
 ·rw[IL]at hp;obtain⟨e,n,ne,nf,d⟩:=I.pin p (Io _ hp);have nfs:p.1∉frs X.stack:=λz=>by
   have:frs X.stack=X.env.locals::frs X.outer:=(by rw[hst];show List.filterMap _ (_::_)=_;rw[Ik,hf];rfl);rw[this]at z;rcases List.mem_cons.mp z with z|z
   ·exact ne z
   ·exact nf z
  exact⟨k _ _ e (.inr (.inr (.inl ⟨p.2,hp⟩))) nfs,n,ne,nf,d⟩
theorem vq{e C:LW}{oe:Obj}(I:Inv X pins σ H s)(hx:X.ex=[])(hn:H e=none)(he:s.heap.get? e=some oe)(hc:oe.cls=.ref C)(hno:K3 oe=true)(h0:X.s₀.heap.get? e=none)(hL:e≠X.env.locals)(hcl:∀x,X.env.cells.lookup x≠some e)(hp:∀p∈X.pn++pins,p.1≠e):
  Inv X pins σ (upd H e (.ext (jL C e oe.dict))) s:=by
 have ne:∀b u,H b=some u->b≠e:=λb u q z=>by rw[z,hn]at q;cases q
 have U:=I.base;refine⟨I.ok,I.os,I.bare,⟨U.keep,U.slot,λb o q n nx=>?_,U.there,λb xs q=>?_,λb o u q=>?_,λb ps q=>?_⟩,I.loc,I.cell,?_,λx c q=>?_,λp q=>?_,λa o q=>?_,I.len⟩
 ·rw[au λz=>by rw[z,h0]at q;cases q];exact U.free b o q n nx
 ·have:=U.tups b xs q;rw[au (ne _ _ this)];exact this
 ·have:=U.frzs b o u q;rw[au (ne _ _ this)];exact this
 ·obtain⟨more,z⟩:=U.tbls b ps q;exact⟨more,by rw[au (ne _ _ z)];exact z⟩
 ·rw[au hL.symm];exact I.free
 ·rw[au λz=>hcl x (by rw[<-z];exact q)];exact I.freeC x c q
 ·obtain⟨a1,a2,a3⟩:=I.pin p q;exact⟨a1,by rw[au (hp p q)];exact a2,a3⟩
 ·by_cases z:a=e
  ·subst z;rw[az]at q;cases q;exact⟨⟨oe,he,hc,rfl,hno⟩,⟨oe,he⟩,λ_ _ h1 h2 ⟨o,q1,q2⟩ _ k=>⟨o,k _ o (.inl rfl) q1,q2⟩⟩
  ·rw[au z]at q;exact(I.hok a o q).stay (λb u _ q=>q) (λb q=>by rw[au (ne _ _ q)];exact q) λb xs q=>by rw[au (ne _ _ q)];exact q
end
abbrev Dc:aQ:=[.type "ValueError",.type "Exception",.type "BaseException",.type "object"]
theorem z8{K:Ky}{h:L8}{C:LW}{bmB:aQ}{newId:String}(X:K.In h)(q:K6 K C bmB newId=true)(x:Str):OwnCls x C bmB newId (λ_=>some (.ref C)) h:=by
 constructor
 ·rfl
 ·unfold K6 at q;split at q
  ·rename_i od data slots look;split at q
   ·rename_i C0 tl s0 s1 s2 s3 nid s5 e1 e2;simp only[Jb,beq_iff_eq,J3]at q;obtain⟨⟨⟨⟨⟨y1,y2⟩,y3⟩,y4⟩,y5⟩,y6⟩:=q;subst y1 y2;obtain⟨d1,d2,d3,d4,d5,d6,d7,d8,d9,d10,d11⟩:=data;dsimp only at e1 y3 y5 y6;subst e1 y3;have hs:slots=#[s0,s1,s2,s3,some (.builtin nid),s5]:=by
     cases slots with
     |mk l=>rw[show l=_ from e2]
    subst hs;exact⟨tl,d4,d1,d5,d2,d6,d7,d8,d9,d10,od,s0,s1,s2,s3,s5,_,X _ _ look,.of_isNs (K7 X y5),PySem.W.nsMap_none_of_in X y5 y6,K8 X y4⟩
   ·cases q
  ·cases q
noncomputable def ExcAt(K:Ky)(mg:bK)(x:Str):Prop:=∃C,clsAt K x C/\mg x=some (.ref C)/\K6 K C Dc "ValueError.__new__"=true
noncomputable def jJ(c:Str)(f:aP):bB:=λk ρ=>kF (f ρ) k ρ λds=>if small ds.length then k.ex ⟨c,[],[]⟩ ρ else un
theorem fj{base B h h':L8}(k:∀b o,h.get? b=some o->h'.get? b=some o):∀{l:List Env},(∀b∈frs l,B.get? b=none)->h.FunFrames base l->h'.FunFrames B l
 |[],_,_=>trivial
 |env::l,hb,⟨h1,⟨L,o,h2,_,h3,h4⟩,h5⟩=>by
  have mem:L∈frs (env::l):=by show L∈List.filterMap _ (_::_);rw[Ik,h2];exact Il
  refine⟨h1,⟨L,o,h2,hb L mem,k _ _ h3,h4⟩,fj k (λb z=>hb b ?_) h5⟩;show b∈List.filterMap _ (_::_);rw[Ik,h2];exact Im _ z
section
variable{X:Cx}{pos:Pos}
theorem wF{pins:aV}{σ:St}{H:Hp}{s:LZ}{h':L8}{e C:LW}{us:aQ}(I:Inv X pins σ H s)(m:Lv s.heap h' e (.ref C) us):qj X H {s with heap:=h'} e C none:=by
 have hd:∀b o,(hZ s.heap (λb=>if b∈frs X.stack then some (.tup [])else none)).get? b=some o->s.heap.get? b=some o/\b∉frs X.stack:=λb o q=>by
  obtain⟨q1,q2⟩:=i7 q;refine⟨q1,λz=>?_⟩;rw[if_pos z]at q2;cases q2
 obtain⟨t,m1,m2,m3⟩:=m.there;refine⟨λoe q=>by rw[m1]at q;cases q;rfl,hZ s.heap (λb=>if b∈frs X.stack then some (.tup [])else none),.ref t,λb o q=>m.keeps b o (hd b o q).1,?_,fj m.keeps (λb hb=>?_) I.stack,.inr ⟨_,_,m1,rfl,rfl,rfl,rfl⟩,λb o q kb nf=>?_⟩
 ·cases q:(hZ s.heap (λb=>if b∈frs X.stack then some (.tup [])else none)).get? e with
  |none=>rfl
  |some o=>have:=(hd e o q).1;rw[m.new]at this;cases this
 ·cases q:(hZ s.heap (λb=>if b∈frs X.stack then some (.tup [])else none)).get? b with
  |none=>rfl
  |some o=>exact absurd hb (hd b o q).2
 ·obtain⟨o1,e1⟩:∃o1,s.heap.get? b=some o1:=by
   rcases kb with⟨⟨o0,z⟩,nx⟩|z|⟨o0,z⟩|⟨y,z⟩
   ·exact I.base.there b o0 z nx
   ·cases q0:H b with
    |none=>exact absurd q0 z
    |some ob=>exact qS (I.hok b ob q0)
   ·exact⟨_,(I.pin _ (Io _ z)).1⟩
   ·obtain⟨v,o0,z0,_⟩:=I.cell y b z;exact⟨o0,z0⟩
  have:=m.keeps b o1 e1
  rw[show h'.get? b=some o from q]at this;cases this;exact lw e1 (if_neg nf)
end
end TG
namespace TG
open PySem PySem.Spec L2
variable[ax]
noncomputable abbrev p6(X:Cx)(E:bx)(pn:aV):Cx:={X with xe:=E,pn:=pn}
noncomputable abbrev me(X:Cx)(A:Mf)(pn:aV):Cx:={X with A:=A,xe:=λ_ _=>False,calm:=false,pn:=pn}
section
variable{X:Cx}{pins:aV}{σ:St}{H:Hp}{s:LZ}{E:bx}{A:Mf}
theorem Ad(I:L2.Inv X pins σ H s)(E:bx):L2.Inv (p6 X E (X.pn++pins)) [] σ H s:=
 ⟨⟨I.ok.mod,I.ok.kind,I.ok.glob,I.ok.blt,I.ok.above,I.ok.inj,I.ok.has,I.ok.cab,I.ok.hd,I.ok.frames,I.ok.stk,I.ok.exf,I.ok.bs,I.ok.bsz,I.ok.noex,I.ok.exfs,I.ok.funs,I.ok.frf⟩,
  I.os,I.bare,I.base,I.loc,I.cell,I.free,I.freeC,λp hp=>I.pin p (by simpa using hp),I.hok,I.len⟩
theorem gx{E':bx}{A':Mf}{c':Bool}(ok:X.Ok)(I:L2.Inv {X with A:=A',xe:=E',calm:=c',pn:=X.pn++pins} [] σ H s):L2.Inv X pins σ H s:=
 ⟨ok,I.os,I.bare,I.base,I.loc,I.cell,I.free,I.freeC,λp hp=>I.pin p (by simpa using hp),I.hok,I.len⟩
theorem pR{pn:aV}{ps:aV}(I:L2.Inv (p6 X E pn) ps σ H s)(hA:A.frames=X.A.frames):L2.Inv (me X A pn) ps σ H s:=
 ⟨⟨I.ok.mod,I.ok.kind,I.ok.glob,I.ok.blt,I.ok.above,I.ok.inj,I.ok.has,I.ok.cab,(fun z=>nomatch z),by rw [show (me X A pn).A=A from rfl,hA]; exact I.ok.frames,I.ok.stk,I.ok.exf,I.ok.bs,I.ok.bsz,I.ok.noex,I.ok.exfs,I.ok.funs,I.ok.frf⟩,
  I.os,I.bare,I.base,I.loc,I.cell,I.free,I.freeC,I.pin,I.hok,I.len⟩
theorem xc{i:Nat}{n:Str}{v:Option LU}{m:bK}{h9:L8}{t:Nat}(I:L2.Inv X pins σ H s)(hN:X.N.Nodup)(hi:X.N[i]?=some n)(hn:s.heap.Ns X.env.locals m)
  (hl:∀(i:Nat)(x:Str)(v:V),X.N[i]?=some x->σ[i]?=some (some v)->Bp X.env.scope x->∃u,RelV v u/\Look X.env s.heap m x u)
  (ns:h9.Ns X.env.locals (λx=>if x=n then v else m x)) (sb:Lh X.env.locals s.heap h9):L2.Inv X pins (σ.set i none) H {s with heap:=h9,toks:=t}:=by
 have old:∀b o,X.s₀.heap.get? b=some o->b≠X.env.locals:=λb o q z=>by
  have h1:=Lf q;rw[z]at h1;exact Ig _ (Ie h1 I.ok.above)
 have go:∀b o,b≠X.env.locals->s.heap.get? b=some o->h9.get? b=some o:=λb o ne q=>(sb.2 b ne).trans q;have cne:∀c w,s.heap.IsCell c w->c≠X.env.locals:=λc w ⟨o,q,d⟩ z=>by
  obtain⟨o2,es,ep,e2,d2,_⟩:=hn;rw[z,e2]at q;cases q;rw[d2]at d;cases d
 have U:=I.base;refine⟨I.ok,I.os,I.bare,⟨λb o q n nb nx=>go b o (old b o q) (U.keep b o q n nb nx),λb o q n nb nx=>?_,U.free,λb o q nx=>?_,U.tups,U.frzs,U.tbls⟩,⟨_,ns,λj y v' e1 e2 e3=>?_⟩,λx c q=>?_,I.free,I.freeC,λp hp=>?_,λa o q=>?_,by rw[List.length_set];exact I.len⟩
 ·obtain⟨sl,z⟩:=U.slot b o q n nb nx;exact⟨sl,go b _ (old b o q) z⟩
 ·obtain⟨o1,z⟩:=U.there b o q nx;exact⟨o1,go b _ (old b o q) z⟩
 ·by_cases hj:j=i
  ·subst hj;have hlt:j<σ.length:=(by rw[I.len];exact(List.getElem?_eq_some_iff.mp hi).1);rw[Iq hlt]at e2;cases e2
  ·rw[Ir (Ne.symm hj)]at e2;have hy:y≠n:=λz=>by
    subst z;obtain⟨l1,g1⟩:=List.getElem?_eq_some_iff.mp e1;obtain⟨l2,g2⟩:=List.getElem?_eq_some_iff.mp hi;exact hj (Ip hN |>.mp (g1.trans g2.symm))
   obtain⟨u,r,q⟩:=hl j y v' e1 e2 e3;refine⟨u,r,?_⟩;rcases q with⟨q1,q2⟩|⟨q1,c,q2,q3⟩
   ·exact .inl ⟨q1,by show(if y=n then v else m y)=some u;rw[if_neg hy];exact q2⟩
   ·obtain⟨o,z1,z2⟩:=id q3;exact .inr ⟨q1,c,q2,o,go c o (cne c _ q3) z1,z2⟩
 ·obtain⟨w,z⟩:=I.cell x c q;obtain⟨o,z1,z2⟩:=id z;exact⟨w,o,go c o (cne c _ z) z1,z2⟩
 ·obtain⟨e,n',ne,r⟩:=I.pin p hp;exact⟨go _ _ ne e,n',ne,r⟩
 ·refine(I.hok a o q).stay (λb u hb z=>go b u (λw=>?_) z) (λ_ q=>q) λ_ _ q=>q;have hz:=I.free;rw[<-w]at hz;rcases hb with e|e
  ·rw[e,q]at hz;cases hz
  ·rw[e]at hz;cases hz
theorem vh{e C:LW}{dx:Option LW}(fl:qj X H s e C dx):∃oe vs,s.heap.get? e=some oe/\oe.cls=.ref C/\oe.data=.fields vs:=by
 obtain⟨_,B,a0,_,_,_,b4,_⟩:=fl;rcases b4 with⟨oe,vs,T,oT,ts,h1,h2,h3,_⟩|⟨oe,vs,h1,h2,h3,_⟩
 ·exact⟨oe,vs,h1,h2.1,h3⟩
 ·exact⟨oe,vs,h1,h2,h3⟩
theorem vE{M:Mh}{e C:LW}{dx:Option LW}{Q:Unit->gb}(hfr:A.frames=some X.stack)(hst:X.stack=X.env::X.outer)(hf:X.env.frame=some X.env.locals)(fl:qj X H s e C dx)
  (hQ:∀B a0 h',Heap.HeldW B X.stack e (.ref C) a0 X.env.locals h'->s.heap.UpToSlots h'->(∀b o,s.heap.get? b=some o->fA X H b->b∉frs X.stack->B.get? b=some o)->DS s.heap h'->Q () {s with heap:=h'}):
  Mi M A (noteFrame (.ref e) X.env) Q E s:=by
 obtain⟨_,B,a0,b1,b2,b3,b4,b5⟩:=fl;rw[hst]at hfr b3;refine DP.go (sv _ _) (P:=λh'=>Heap.HeldW B X.stack e (.ref C) a0 X.env.locals h'/\s.heap.UpToSlots h') ?_ λh' z ds=>hQ B a0 h' z.1 z.2 b5 ds;rcases b4 with b4|⟨oe,vs,c1,c2,c3,c4,c5⟩
 ·exact wpAny_looks_onW hfr hf ⟨b1,b2,b3,b4⟩ λh' hd us=>⟨h',rfl,by rw[hst];exact hd,us⟩
 ·unfold noteFrame;simp only[hf];refine Mw (MU c1 c3 c4 ?_);rw[if_neg (by decide)];refine wpAny_entryW hfr b3 hf c1 b1 b2 c3 (Array.getElem?_eq_some_iff.mp c4).1 c5 λh' hN=>?_;obtain⟨k1,k2,k3,k4⟩:=hN;exact⟨h',rfl,⟨k1,b2,by rw[hst];exact k2,c2 ▸ k3⟩,k4⟩
end
theorem cM.unset{K:Ky}{Hb:Hp}{Ob O:aA}{H:Hp}{ρ:ao}{σ:St}(T:cM K Hb Ob O H ρ σ)(i:Nat):cM K Hb Ob O H (ρ.set i none) (σ.set i none):=by
 have key:∀(j:Nat)(x:S),(ρ.set i none)[j]?=some (some x)->j≠i/\ρ[j]?=some (some x):=λj x e=>by
  rcases aR e with⟨_,q⟩|⟨ne,q⟩
  ·cases q
  ·exact⟨ne,q⟩
 refine⟨⟨λj d e=>?_,λj d e=>?_,λj l xs ys a e1 e2 e3 e4=>?_,T.env.all⟩,T.base,λj xs a e1 e2=>?_,λj dn e=>?_⟩
 ·obtain⟨ne,q⟩:=key j _ e;obtain⟨v,q1,q2⟩:=T.env.val j d q;exact⟨v,by rw[Ir ne.symm];exact q1,q2⟩
 ·obtain⟨ne,q⟩:=key j _ e;obtain⟨a,q1,q2⟩:=T.env.own j d q;exact⟨a,by rw[Ir ne.symm];exact q1,q2⟩
 ·obtain⟨n1,q1⟩:=key j _ e1;obtain⟨n2,q2⟩:=key l _ e2;rw[Ir n1.symm]at e3;rw[Ir n2.symm]at e4;exact T.env.one j l xs ys a q1 q2 e3 e4
 ·obtain⟨ne,q⟩:=key j _ e1;rw[Ir ne.symm]at e2;exact T.mine j xs a q e2
 ·obtain⟨ne,q⟩:=key j _ e;refine(T.nst j dn q).to (Ir ne.symm) (λ_ _ z=>z) (λb q1 q2 q3 q4 _=>⟨rfl,q1,q2,λl d1 w=>?_⟩) λl d1 w=>⟨d1,(key l _ w).2⟩
  obtain⟨nl,z⟩:=key l _ w;rw[Ir nl.symm];exact q4 l d1 z
noncomputable def pS(K:Ky)(mg:bK)(g:Str)(cs:al):Prop:=∃G,mg g=some (.ref G)/\∀c∈cs,∀C,clsAt K c C->K9 K (.ref C) (.ref G)=some true
noncomputable def Dn(i:Nat)(k:Ks):Ks:=⟨λρ=>k.nx (ρ.set i none),λρ=>k.bk (ρ.set i none),λρ=>k.ct (ρ.set i none),λ_ _=>un⟩
noncomputable def wx(cs:al)(i:Nat)(F Fh:bB):bB:=λk ρ=>F {k with ex:=λx ρ1=>if cs.contains x.c=true then Fh (Dn i k) (setV i (.exc x.c x.fs x.vs) ρ1)else un} ρ
section
variable{X:Cx}{pos:Pos}
theorem Gj{body suite:cH}{b₀:LY}{g n:Str}{gp hpos:Pos}{F Fh:bB}{cs:al}{i:Nat}(hx:X.ex=[])(hst:X.stack=X.env::X.outer)(hf:X.env.frame=some X.env.locals)(hfn:∀x,X.fn x=true)
  (hT:pS X.K X.mg g cs) (hg:Gl X g) (hN:X.N.Nodup) (hi:X.N[i]?=some n) (hl:X.env.scope.names.lookup n=some .local)
  (hb:∀E pn,Mt (model X.prog X.w) X.A X.env E->E8 (p6 X E pn) body F) (hs:∀A pn,A.depth=X.A.depth->A.units=X.A.units->E8 (me X A pn) (b₀::suite) Fh) (hdb:(g==("__debug__":Str))=false:=by decide):
  FS X (.Try body [.ExceptHandler (some (.Name g gp)) (some n) (b₀::suite) hpos] [] [] pos) (wx cs i F Fh):=λHb Ob pins s σ H E I ⟨O,ρ,k,r,S,hF,hk⟩=>by
 obtain⟨G,hG,hcs⟩:=hT;refine wpAny_Try_except ?_;have land:∀O1 ρ1 σ1 H1 x,cM X.K Hb Ob O1 H1 ρ1 σ1->(if cs.contains x.c=true then Fh (Dn i k) (setV i (.exc x.c x.fs x.vs) ρ1)else un)=r->
   CC (p6 X (λe s₁=>Mi (model X.prog X.w) X.A (noteFrame e X.env) (λ_ s₂=>Mi (model X.prog X.w) X.A (setFlight e none) (λ_ s₃=>Mi (model X.prog X.w) X.A (handleBy e X.env [.ExceptHandler (some (.Name g gp)) (some n) (b₀::suite) hpos]) (SP X pins E) X.xe s₃) X.xe s₂) X.xe s₁) (X.pn++pins)) σ1 O1 H1 x:=by
  rintro O1 ρ1 σ1 H1 x S1 ex pins' s1 u H2 I1 sm ⟨e,C,dx,rfl,hd,fl⟩;have cond:cs.contains x.c=true:=by
   cases z:cs.contains x.c with
   |true=>rfl
   |false=>rw[z]at ex;exact absurd ex.symm hk.ne
  rw[if_pos cond]at ex;obtain⟨oe1,vs1,he1,hc1,hd1⟩:=vh fl;have nfr:e∉frs X.stack:=λz=>by
   obtain⟨_,o,q,nf⟩:=I1.stack.mem z;rw[he1]at q;cases q;exact nf _ hd1
  refine vE (X:=p6 X _ (X.pn++pins)) I1.ok.frames hst hf fl λB a0 h4 held us4 kb ds4=>?_;have nk:¬fA (p6 X _ (X.pn++pins)) H2 e:=λz=>by
   have:=kb e oe1 he1 z nfr
   rw[held.2.1]at this;cases this
  refine DP.go (jB _ _) (P:=λh'=>Lp B X.stack e (.ref C) a0 h'/\h4.UpToSlots h') (wpAny_landsW held λh' x y=>⟨h',rfl,x,y⟩) λh5 z5 ds5=>?_;obtain⟨fl5,us5⟩:=z5;have I5:=sR I1 hx hst hf hfn (us4.trans us5) λb o q kb' nf=>fl5.1 b o (kb b o q kb' nf);obtain⟨oe5,he5,hc5⟩:=fl5.there;have I5h:=pR (A:=X.A.mark (some (.ref e))) I5 rfl;refine wpAny_handleBy_cons (codeAny_handlers_test (hW (X:=me X (X.A.mark (some (.ref e))) (X.pn++pins)) I5h hg hG ?_ hdb)) (by intro z;cases z);refine(PySem.W.exm_one I5.kIn (show PySem.W.Looks _ h5 (typeOf (.ref e)) (.ref C)from hc5 ▸ (PySem.W.Looks.ld he5).andThen .now) (hcs x.c (by simpa using cond) C hd.1)).at ?_;refine codeAny_handlers_suite_as ?_;refine DP.go (jB _ _) (P:=λh'=>Lp B X.stack e (.ref C) a0 h'/\h5.UpToSlots h') (PyProof.Rows.lands_againW fl5 λh' x y=>⟨h',rfl,x,y⟩) λh6 z6 ds6=>?_;obtain⟨fl6,us6⟩:=z6;have I6:=sR I1 hx hst hf hfn ((us4.trans us5).trans us6) λb o q kb' nf=>fl6.1 b o (kb b o q kb' nf);obtain⟨oe6,ws6,he6,hc6,hd6,_⟩:=fl6.first;have hdx:oe6.dict=dx:=(((ds4.trans ds5).trans ds6).dict he1 he6).trans (fl.1 _ he1);have hn:H2 e=none:=by
   cases q:H2 e with
   |none=>rfl
   |some ob=>exact absurd (.inr (.inl (by rw[q];intro z;cases z))) nk
  have I6a:=vq (C:=C) I6 hx hn he6 hc6 (by unfold K3;rw[hd6]) (by
    cases q:X.s₀.heap.get? e with
    |none=>rfl
    |some o=>exact absurd (.inl ⟨⟨o,q⟩,by rw[show(p6 X _ (X.pn++pins)).ex=X.ex from rfl,hx];simp⟩) nk) (λz=>by
    apply nfr;rw[hst,z];show X.env.locals∈List.filterMap _ (_::_);rw[Ik,hf];exact Il)
   (λy q=>nk (.inr (.inr (.inr ⟨y,q⟩)))) (λp hp q=>by
    rw[IL]at hp;exact nk (.inr (.inr (.inl ⟨p.2,by rw[<-q];exact hp⟩))))
  have I6h:=pR (A:=X.A.mark (some (.ref e))) I6a rfl;have same26:aS H2 (upd H2 e (.ext (jL C e oe6.dict))):=λb o q=>by rw[au λz=>by rw[z,hn]at q;cases q];exact q
  have eO:e∉O1:=(S1.env.all.same sm).not hn;refine k6 (X:=me X (X.A.mark (some (.ref e))) (X.pn++pins)) I6h hN hi (.inl hl) (show RelV (.ref e) (.ref e)from rfl) (λs7 I7=>?_) (.inl (hfn n));have S7:=(S1.same (sm.trans same26)).setV (i:=i) (d:=.exc x.c x.fs x.vs) (v:=.ref e) (by rw[I1.len];exact(List.getElem?_eq_some_iff.mp hi).1)
   (by
    obtain⟨c1,ws,w1,w2,w3⟩:=hd;have sh:aS (hid H2 O1) (hid (upd H2 e (.ext (jL C e oe6.dict))) O1):=bM same26;exact EC.mpr ⟨e,ws,rfl,w1.mono sh,w2,C,oe6.dict,c1,by rw[iu eO];exact az,w3.imp id λ⟨d,q1,q2⟩=>⟨d,hdx.trans q1,sh _ _ q2⟩⟩)
  refine Ml (hs (X.A.mark (some (.ref e))) (X.pn++pins) rfl rfl Hb Ob [] s7 _ _ {nx:=λσ' H'=>E.nx (σ'.set i none) H',rt:=E.rt,bk:=λσ' H'=>E.bk (σ'.set i none) H',ct:=λσ' H'=>E.ct (σ'.set i none) H'} I7
   ⟨O1,_,Dn i k,r,S7,ex,hk.ne,λO' ρ' σ' H' S' q=>hk.nx O' _ _ H' (S'.unset i) q,λO' ρ' σ' H' S' q=>hk.bk O' _ _ H' (S'.unset i) q,λO' ρ' σ' H' S' q=>hk.ct O' _ _ H' (S'.unset i) q,hk.rt,λO' ρ' σ' H' y S' q=>absurd q.symm hk.ne⟩) (λf s8 h8=>?_) λ_ _ z=>z.elim
  have fin:∀σ' H',L2.Inv (me X (X.A.mark (some (.ref e))) (X.pn++pins)) [] σ' H' s8->∀Q:gb,(∀s9,L2.Inv X pins (σ'.set i none) H' s9->Q s9)->
    Mi (model X.prog X.w) X.A (do bindName X.env n .none;unbindBehindTheSuite X.env n hpos) (λ_ s₃=>Q s₃) X.xe s8:=λσ' H' I8 Q q=>by
   obtain⟨m,hm,hlk⟩:=I8.loc;exact wpAny_nameGoes_keeps hl hm (by rw[I8.ok.kind];rfl) λh9 v ns9 sb9=>q _ (gx I.ok (xc I8 hN hi hm hlk ns9 sb9))
  cases f with
  |next=>obtain⟨σ',H',I8,q⟩:=h8;exact fin σ' H' I8 _ λs9 I9=>⟨_,H',I9,q⟩
  |brk=>obtain⟨σ',H',I8,q⟩:=h8;exact fin σ' H' I8 _ λs9 I9=>⟨_,H',I9,q⟩
  |cont=>obtain⟨σ',H',I8,q⟩:=h8;exact fin σ' H' I8 _ λs9 I9=>⟨_,H',I9,q⟩
  |ret u=>obtain⟨v,σ',H',I8,rv,q⟩:=h8;exact fin σ' H' I8 _ λs9 I9=>⟨v,_,H',I9,rv,q⟩
 refine Ml (hb _ (X.pn++pins) PassesOwn.looking Hb Ob [] s σ H E (Ad I _) ⟨O,ρ,_,r,S,hF,hk.ne,hk.nx,hk.bk,hk.ct,hk.rt,land⟩) (λf s1 h1=>?_) λ_ _ z=>z;cases f with
 |next=>obtain⟨σ',H',I1,q⟩:=h1;exact rM pins s1 σ' H' E (gx I.ok I1) q
 |brk=>obtain⟨σ',H',I1,q⟩:=h1;exact⟨σ',H',gx I.ok I1,q⟩
 |cont=>obtain⟨σ',H',I1,q⟩:=h1;exact⟨σ',H',gx I.ok I1,q⟩
 |ret u=>obtain⟨v,σ',H',I1,rv,q⟩:=h1;exact⟨v,σ',H',gx I.ok I1,rv,q⟩
end
end TG
namespace TG
open PySem PySem.Spec L2
variable[ax]
noncomputable def qa(K:Ky)(T:LU)(tbl:ia):Prop:=∀c b,tbl.lookup c=some b->∀D,clsAt K c D->iB K D/\K4 K (.ref D) T=some b
noncomputable def dP(tbl:ia)(d:D):bi:=match d with
 |.exc c _ _=>(tbl.lookup c).map .bl
 |_=>none
noncomputable def ce(K:Ky)(mg:bK)(x:Str)(tbl:ia):Prop:=∃C,mg x=some (.ref C)/\qa K (.ref C) tbl
theorem bZ{K:Ky}{T:LU}:qa K T []:=λ_ _ h=>by cases h
theorem aj{K:Ky}{T:LU}{c:Str}{D:LW}{b:Bool}{tbl:ia}(ac:clsAt K c D)(F:iB K D)(k:K4 K (.ref D) T=some b)(r:qa K T tbl):qa K T ((c,b)::tbl):=λc' b' h D' hD=>by
 rw[Jf]at h;split at h
 ·rename_i e;have e:=beq_iff_eq.mp e;subst e;cases h;cases dZ hD ac;exact⟨F,k⟩
 ·exact r c' b' h D' hD
theorem pF{K:Ky}{C:LW}{v:LU}(h:La K C v=some true):(PySem.W.clsIn K C).isSome=true:=by
 unfold La at h;cases e:PySem.W.clsIn K C with
 |none=>rw[e]at h;cases h
 |some c=>rfl
theorem aw{K:Ky}{C D:LW}{b:Bool}(hs:Lb K (.ref D) (.ref C)=some b)(ho:La K C (.type "object")=some true)(ht:KQ K (.ref C)=some (.type "type"))(hn:b=true\/D≠C):K4 K (.ref D) (.ref C)=some b:=by
 unfold K4;by_cases e:D=C
 ·rcases hn with hn|hn
  ·rw[if_pos (by rw[e];simp),hn]
  ·exact absurd e hn
 ·rw[if_neg (by simpa using e)];unfold Lc;dsimp only;rw[if_pos (by rw[pF ho,ht];rfl)];exact hs
theorem oi{K:Ky}{D:LW}{b:Bool}(hs:Lb K (.ref D) (.type "ValueError")=some b):K4 K (.ref D) (.type "ValueError")=some b:=by
 unfold K4;rw[if_neg (by simp)];unfold Lc;dsimp only;rw[if_pos (by decide +kernel)];exact hs
theorem kB{K:Ky}{C G:LW}(hb:Lb K (.ref G) (.type "BaseException")=some true)(hs:Lb K (.ref C) (.ref G)=some true)(ho:La K G (.type "object")=some true)(ht:KQ K (.ref G)=some (.type "type")):K9 K (.ref C) (.ref G)=some true:=by
 unfold K9;rw[if_pos (by rw[hb];rfl)];unfold Lc;dsimp only;rw[if_pos (by rw[pF ho,ht];rfl)];exact hs
theorem vA{K:Ky}{mg:bK}{g:Str}{G:LW}{cs:al}(hm:mg g=some (.ref G))(h:∀c∈cs,∃C,clsAt K c C/\K9 K (.ref C) (.ref G)=some true):pS K mg g cs:=⟨G,hm,λc hc C hC=>by
 obtain⟨C',h1,h2⟩:=h c hc;cases dZ hC h1;exact h2⟩
section
variable{X:Cx}{p pos:Pos}{e:LX}
noncomputable def Bi(K:Ky)(tv:V)(T:LU):aE->Hp->VK->Prop:=λxs H Q=>∃a D dx b,xs=[.ref a,tv]/\H a=some (.ext (jL D a dx))/\iB K D/\K4 K (.ref D) T=some b/\Q (.bl b) H
theorem mV{tv:V}{T:LU}(hT:∀u,RelV tv u->u=T):eD X (.builtin "isinstance") (Bi X.K tv T):=by
 rintro pins s σ H xs us Q I r ⟨a,D,dx,b,ex,ha,F,hk,q⟩;subst ex;obtain⟨u,w',rfl,rx,rt⟩:=vals2 r;cases rx;cases hT _ rt;obtain⟨⟨o,e1,e2,_⟩,_⟩:=(show cv X.prog X.w H s.heap a (.ext (jL D a dx))from I.hok a _ ha)
 exact K5 (qp F) I.kIn ⟨o,e1,e2⟩ hk (λz=>nomatch z) λtk=>⟨.bl _,H,I.tok _,rfl,q⟩
theorem rA{tbl:ia}{a d:D}(h:dP tbl a=some d):∃c fs vs b,a=.exc c fs vs/\tbl.lookup c=some b/\d=.bl b:=by
 unfold dP at h;split at h
 ·rename_i c fs vs;cases e:tbl.lookup c with
  |none=>rw[e]at h;cases h
  |some b=>rw[e]at h;cases h;exact⟨c,fs,vs,b,rfl,e,rfl⟩
 ·cases h
theorem A4{tbl:ia}{tv:V}{T:LU}{f:FX}(h:qa X.K T tbl):∀σ H Q,tF X (f1 (dP tbl) f) σ H Q->E7 (Bi X.K tv T) (wH (tF X f) (wH (tC tv) Ee)) σ H Q:=λσ H Q ⟨O,ρ,E,hF⟩=>⟨O,ρ,E,(dU.bind hF).imp λa hF v H1 s1 d1=>by
  obtain⟨d,e,q⟩:=dU.rO hF;obtain⟨c,fs,vs,b,rfl,e2,rfl⟩:=rA e;obtain⟨a,ws,rfl,_,_,D,dx,hcl,ha,_⟩:=EC.mp d1;obtain⟨F,hk⟩:=h c b e2 D hcl;exact⟨a,D,dx,b,rfl,aB _ _ _ _ ha,F,hk,q _ H1 s1 (fN.mpr rfl)⟩⟩
end
end TG
namespace TG
open PySem PySem.Spec L2
variable[ax]
end TG
namespace TG
open PySem PySem.Spec L2
open PySem PySem.Spec PyProof.Rows PySem.W L2
variable[ax]
end TG
namespace TG
open PySem PySem.Spec PyProof.Rows PySem.W L2
variable[ax]
end TG
namespace TG
open PySem PySem.Spec PyProof.Rows PySem.W L2
variable[ax]
end TG
namespace TG
open PySem PySem.Spec PyProof.Rows PySem.W L2
end TG
namespace TG
open PySem PySem.Spec PySem.Calls L2
open PySem.SeqAt (EqAt list_indexAt)
variable[ax]
noncomputable def ur(c:Str):List (ia)->Option Bool
 |[]=>some false
 |t::r=>match t.lookup c with
  |some true=>some true
  |some false=>ur c r
  |none=>none
noncomputable def tI(tbls:List ia)(d:D):bi:=match d with
 |.exc c _ _=>(ur c tbls).map .bl
 |_=>none
inductive vR(X:Cx):aZ->List (ia)->Prop where
 |nil:vR X [] []
 |cons {x:Str} {p:Pos} {tbl:ia} {es:aZ} {tbls:List ia} (h:ce X.K X.mg x tbl) (hg:Gl X x) (hd:(x==("__debug__":Str))=false) (r:vR X es tbls):vR X (.Name x p::es) (tbl::tbls)
theorem An{X:Cx}{es:aZ}{tbls:List ia}(h:vR X es tbls):∃cs:aA,cs.length=es.length/\PA X es (λ_ H Q=>Q (cs.map V.ref) H)/\∀c b,ur c tbls=some b->∀D,clsAt X.K c D->Ld X.K (.ref D) (cs.map Value.ref)=some b:=by
 induction h with
 |nil=>
  refine⟨[],rfl,λpos pins s σ H Q I h=>jQ pos pins s σ H Q I h,λc b h D _=>?_⟩;cases h;rfl
 |cons h hg hd r ih=>
  obtain⟨C,hC,hk⟩:=h;obtain⟨cs,hl,hp,ha⟩:=ih;refine⟨C::cs,by rw[IE,IE,hl],λpos pins s σ H Q I q=>dF (sM (v:=.ref C) hg hC rfl hd) hp (bp rfl) pos pins s σ H Q I q,λc b h D hD=>?_⟩;unfold ur at h;show Ld X.K (.ref D) (.ref C::cs.map Value.ref)=some b;unfold Ld;split at h
  ·rename_i e;cases h;rw[(hk c true e D hD).2]
  ·rename_i e;rw[(hk c false e D hD).2];exact ha c b h D hD
  ·cases h
section
variable{X:Cx}{p pos:Pos}{e:LX}
noncomputable def DU(K:Ky)(cs:aA):aE->Hp->VK->Prop:=λxs H Q=>∃a t D dx b,xs=[.ref a,.ref t]/\H a=some (.ext (jL D a dx))/\H t=some (.tup (cs.map V.ref))/\iB K D/\Ld K (.ref D) (cs.map Value.ref)=some b/\Q (.bl b) H
theorem nz:∀{cs:aA}{us:aQ},Vals (cs.map V.ref) us->us=cs.map Value.ref
 |[],_,.nil=>rfl
 |c::cs,_,.cons h t=>by
  cases h;rw[nz t];rfl
theorem ve{cs:aA}:eD X (.builtin "isinstance") (DU X.K cs):=by
 rintro pins s σ H xs us Q I r ⟨a,t,D,dx,b,ex,ha,ht,F,hk,q⟩;subst ex;obtain⟨u,w',rfl,rx,rt⟩:=vals2 r;cases rx;cases rt;obtain⟨⟨o,e1,e2,_⟩,_⟩:=(show cv X.prog X.w H s.heap a (.ext (jL D a dx))from I.hok a _ ha)
 obtain⟨its,ri,⟨ot,h1,h2,n,h3⟩,_⟩:=I.tuple (jD.of ht);have ei:=nz ri;subst ei;obtain⟨oc,od,odt,osl⟩:=ot;cases h2;cases h3;exact PySem.W.kia_tup (qp F) I.kIn ⟨o,e1,e2⟩ h1 hk (λz=>nomatch z) λtk=>⟨.bl _,H,I.tok _,rfl,q⟩
theorem Bv{pins:aV}{σ:L2.St}{H:Hp}{s:LZ}(I:Inv X pins σ H s){xd:D}{x:V}{u:LU}{A:Mf}(px:pl xd=true)(hd:a9 8 xd=true)(hx:bQ X.K H xd x)(ru:RelV x u)(hA:A.units+8<MK){ys:List D}{vs:aE}{its:aQ}(py:dk ys=true)(hy:aN X.K H ys vs)(rv:Vals vs its):
  ∃e:LU->Bool,(∀y,y∈its.toArray->EqAt A s y u (e y))/\∀(j:Nat)(d:D)(w:LU),ys[j]?=some d->its[j]?=some w->e w=pyEq d xd:=by
 classical
 let e:LU->Bool:=λy=>decide (∃d w,pl d=true/\bQ X.K H d w/\RelV w y/\pyEq d xd=true)
 have he:∀d w y,pl d=true->bQ X.K H d w->RelV w y->e y=pyEq d xd:=λd w y h0 h1 h2=>by
  cases hq:pyEq d xd with
  |true=>exact decide_eq_true ⟨d,w,h0,h1,h2,hq⟩
  |false=>
   refine decide_eq_false ?_;rintro⟨d',w',g0,g1,g2,g3⟩;have ew:=RelV.inj h2 g2;subst ew;rw[Inv.den_inj I h0 g0 h1 g1,g3]at hq;cases hq
 refine⟨e,λy hy'=>?_,λj d w e1 e2=>?_⟩
 ·have hm:y∈its:=by simpa using hy'
  obtain⟨j,hj,rfl⟩:=Jw hm;obtain⟨w,e1,r1⟩:=gU rv (j:=j) (by simpa using hj);obtain⟨d,f1,g1⟩:=gM hy e1;have r1':RelV w its[j]:=by simpa using r1
  have pd:=eK py _ (IY f1);rw[he d w _ pd g1 r1'];exact qR I 8 d xd w x _ u A pd px (.inr hd) g1 hx r1' ru hA
 ·obtain⟨v,f1,f2⟩:=hy.get e1;obtain⟨w',f3,f4⟩:=rv.get f1;rw[e2]at f3;cases f3;exact he d v w (eK py _ (IY e1)) f2 f4
noncomputable def kc(x:D):List D->Option Nat
 |[]=>none
 |y::ys=>if pyEq y x then some 0 else(kc x ys).map (·+1)
theorem nA{x:D}:∀{ys:List D}{j:Nat},kc x ys=some j->∃h:j<ys.length,pyEq ys[j] x=true/\∀m (hm:m<ys.length),m<j->pyEq ys[m] x=false
 |[],_,h=>by cases h
 |y::ys,j,h=>by
  unfold kc at h;split at h
  ·rename_i e;cases h;exact⟨by simp,e,λm _ hm=>absurd hm (Nat.not_lt_zero _)⟩
  ·rename_i e;cases q:kc x ys with
   |none=>rw[q]at h;cases h
   |some i=>
    rw[q]at h;cases h;obtain⟨h1,h2,h3⟩:=nA q;refine⟨by simpa using h1,by simpa using h2,λm hm hlt=>?_⟩;cases m with
    |zero=>simpa using e
    |succ m=>
     have hlt:m+1<i+1:=hlt
     simpa using h3 m (by simpa using hm) ‹0›
noncomputable def jX(a b:D):bi:=match a with
 |.lst ys=>if(pl b&&dk ys)&&a9 8 b then(kc b ys).map (λ(j:Nat)=>D.int (j:Int))else none
 |_=>none
noncomputable def jH(f:FX)(g:aP):FX:=λρ=>(f ρ).bind λa=>match a with
 |.lst ys=>(g ρ).bind λds=>match ds with
  |[b]=>rO (jX (.lst ys) b)
  |_=>un
 |_=>un
noncomputable def By(K:Ky):V->aE->Hp->VK->Prop:=λx xs H Q=>∃Hd a ys vs b v d,aS Hd H/\x=.ref a/\xs=[v]/\ie K Hd a vs/\aN K H ys vs/\bQ K H b v/\jX (.lst ys) b=some d/\∀w,bQ K H d w->Q w H
theorem wg(hu:X.A.units+64<MK):Gq X "list.index" (By X.K):=by
 rintro pins s σ H x xs v us Q I rx rs ⟨Hd,a,ys,vs,b,y,d,sm,ex,exs,hl,dl,db,hg,q⟩;subst ex exs;cases rx;obtain⟨u,rfl,ru⟩:=vals1 rs;obtain⟨its,r,⟨o,n,ho,hc,hd',hdd⟩,hz⟩:=I.list (sm.seq hl);have hg':(if(pl b&&dk ys)&&a9 8 b then(kc b ys).map (λ(j:Nat)=>D.int (j:Int))else none)=some d:=hg;obtain⟨h1,h2⟩:((pl b&&dk ys)&&a9 8 b)=true/\(kc b ys).map (λ(j:Nat)=>D.int (j:Int))=some d:=by
  split at hg'
  ·rename_i z;exact⟨z,hg'⟩
  ·cases hg'
 rw[Jb,Jb]at h1;obtain⟨j,ej,ed⟩:=Option.map_eq_some_iff.mp h2;subst ed;obtain⟨hj,hit,hno⟩:=nA ej;obtain⟨e,he,hv⟩:=Bv (A:=X.A.in1) I h1.1.1 h1.2 db ru (by rw[in1_units];omega) h1.1.2 dl r;have l1:=dl.length;have l2:=r.length;have hj':j<its.length:=by omega
 obtain⟨oc,od,odt,osl⟩:=o;cases hc;cases hd';cases hdd;refine call_meets LQ ⟨_,ho,rfl⟩ PySem.F.entry_list_index (PySem.F.args_list_index_2 _ _)
  (list_indexAt a its.toArray n none osl u e j (by simpa using hj') (by rw[PySem.sizeLine_eq]at hz;omega) ?_ ?_) ⟨ho,he,?_⟩
 ·have:=hv j ys[j] its[j] (by simp[hj]) (by simp[hj'])
  rw[hit]at this
  simpa using this
 ·intro m hm hlt;have hm':m<its.length:=by simpa using hm
  have:=hv m (ys[m]'‹0›) its[m] (by simp[show m<ys.length by omega]) (by simp[hm'])
  rw[hno m ‹0› hlt]at this
  simpa using this
 ·exact⟨.int j,H,I.tok _,⟨_,rfl⟩,q _ (dQ.mpr rfl)⟩
end
end TG
namespace TG
open PySem PySem.Spec L2
variable[ax]
end TG
namespace TG
open PySem PySem.Spec PySem.Calls L2
open PySem.SeqAt (EqAt list_countAt)
variable[ax]
end TG
namespace TG
open PySem PySem.Spec L2
variable[ax]
end TG
namespace TG
open PySem PySem.Spec PySem.Calls L2
variable[ax]
end TG
namespace TG
open PySem PySem.Spec L2
variable[ax]
end TG
namespace TG
open PySem PySem.Spec L2
variable[ax]
end TG
namespace TG
open PySem PySem.Spec L2
variable[ax]
end TG
namespace TG
open PySem PySem.Spec PySem.Calls L2
variable[ax]
end TG
namespace TG
open PySem PySem.Spec L2
variable[ax]
end TG
namespace TG
open PySem PySem.Spec L2
variable[ax]
end TG
namespace TG
open PySem PySem.Spec L2
variable[ax]
end TG
namespace TG
open PySem PySem.Spec L2
variable[ax]
end TG
namespace TG
open PySem PySem.Spec PySem.Calls L2
variable[ax]
end TG
namespace L2
open PySem PySem.Spec PyProof.Rows
end L2
namespace TG
open PySem PySem.Spec L2
variable[ax]
end TG
namespace TG
open PySem PySem.Spec L2
variable[ax]
end TG
namespace TG
open PySem PySem.Spec L2
section
variable{prog:L7}{w:L6}{A:Mf}{E:bx}{h:L8}{g:Array GenState}{d:Drawn}{t:Nat}{os:OsState}
variable{nm q:Str}{C N:LW}{bs bm bmB:aQ}{hdct:Bool}{sn:al}{sub:aQ}{ab:Bool}{col:Option Bool}{dd:Option LW}{k0 k1 k2 k3 k5:Option LU}{B Bn newId nid initId inN:String}{bmN:aQ}{mN:bK}{us:aQ}{fI:LW}{oI:Obj}
theorem qm{Q:PySem.Fin->gb}(Fn:Nm Bn newId inN bmN)(hb:bmB.contains (.type Bn)=true)(F:Nm B nid initId bmB)(T:OwnTail h bmB bm)
  (hC:h.get? C=some (excClassObj nm q C N bs bm hdct sn sub ab col dd k0 k1 k2 k3 k5 newId)) (hn:h.Ns N mN) (hi:mN "__init__"=some (.ref fI)) (hf:h.get? fI=some oI) (hc:oI.cls=.type "function")
  (hq:∀h' e,Lv h h' e (.ref C) us->Mi (model prog w) A (call (.ref fI) (.ref e::us)) (λr s'=>r=.none/\Q (.done (.ret (.ref e))) s') E ⟨h',g,d,t,os⟩) (hl:us.length<=L9):
  Mi (model prog w) A (Builtin.«type.__call__» ⟨.ref C::us,[]⟩) Q E ⟨h,g,d,t,os⟩:=by
 repeat (first|with_reducible refine Nn hC ?_|with_reducible refine wpAny_madeBy_exc hC ?_|wp_step)
 refine codeAny_call_builtin_code (Code.quiet_builtin _ Fn.quiet) (wpAny_check_new_subU Fn hb T hC (codeAny_exc_new_subU Fn hb F T hC ?_ hl));show Mi _ _ _ _ _ _;obtain⟨o1,e1⟩:∃o:Obj,o={cls:=.type "tuple",data:=.seq us.toArray}:=⟨_,rfl⟩
 obtain⟨o2,e2⟩:∃o:Obj,o={cls:=.ref C,data:=.fields #[.ref h.objs.size,.none,.none,.none,.bool false,.none]}:=⟨_,rfl⟩
 rw[<-e1,<-e2];have up:∀b o,h.get? b=some o->((h.push o1).push o2).get? b=some o:=λb o z=>Li _ (Li _ z);have hC1:=up _ _ hC;have hf1:=up _ _ hf;have hn1:((h.push o1).push o2).Ns N mN:=let ⟨o,es,ep,z,r⟩:=hn;⟨o,es,ep,up _ _ z,r⟩
 have hg:((h.push o1).push o2).get? (h.objs.size+1)=some o2:=Ls (by simp only[Ln]) (by rw[e2];rfl);have hg1:((h.push o1).push o2).get? h.objs.size=some o1:=Li _ (Ls rfl (by rw[e1];rfl));have cc:(Value.ref C::bm).contains (.ref C)=true:=by simp
 have T1:=T.keeps (h':=(h.push o1).push o2) up;subst e2;unfold isInstance
 repeat (first|with_reducible refine Nn hg ?_|(with_reducible refine wpAny_isSubtype_exc hC1 ?_;rw[cc])|wp_step)
 show Mi _ _ (typeLookup (.ref C) _) _ _ _;refine wpAny_typeLookup_tail hC1 hn1 T1 F.mroIs F.init.lookup ?_;rw[hi];refine MV (Mw ?_);unfold bindSpecial;refine Mw (MZ (T:="function") ⟨_,hf1,hc⟩ ?_);rw[if_pos (by decide)];subst e1;refine Mv (Mw (Ml (hq _ (h.objs.size+1) ⟨up,Lg (IM _),h.objs.size,hg,Lg (Iy _),hg1⟩) (λr s' hr=>?_) λ_ _ x=>x));obtain⟨rfl,hQ⟩:=hr
 wp_walk
 exact hQ
theorem ml{Q:bx}(Fn:Nm Bn newId inN bmN)(hb:bmB.contains (.type Bn)=true)(F:Nm B nid initId bmB)(T:OwnTail h bmB bm)
  (hC:h.get? C=some (excClassObj nm q C N bs bm hdct sn sub ab col dd k0 k1 k2 k3 k5 newId)) (hn:h.Ns N mN) (hi:mN "__init__"=some (.ref fI)) (hf:h.get? fI=some oI) (hc:oI.cls=.type "function")
  (hq:∀h' e,Lv h h' e (.ref C) us->Mi (model prog w) (A.under (.builtin "type.__call__" ⟨.ref C::us,[]⟩)) (call (.ref fI) (.ref e::us)) (λr s'=>r=.none/\Q (.ref e) s') E ⟨h',g,d,t,os⟩) (hl:us.length<=L9):
  Mi (model prog w) A (call (.ref C) us) Q E ⟨h,g,d,t,os⟩:=by
 have f1:=tc_lookup;have f2:=tc_bind (.ref C);have hT:(⟨h,g,d,t,os⟩:LZ).TypeIs (.ref C) "type":=⟨_,hC,rfl⟩
 refine MN (codeAny_of_tree ?_);show Mi _ _ (callAny (.ref C) _) _ _ _
 repeat (any_goals (first|assumption|with_reducible refine Nn hC ?_|wp_step))
 exact⟨rfl,codeAny_call_builtin_at (Code.quiet_builtin _ (by decide +kernel)) entry_typeCall (wpAny_check_type_call_sub hC (qm Fn hb F T hC hn hi hf hc (λh' e hm=>hq h' e hm) hl))⟩
end
variable[ax]
noncomputable abbrev E5(a0:LW):Data:=.fields #[.ref a0,.none,.none,.none,.bool false,.none]
noncomputable def mB(C e a0:LW):(LW->Prop)->L8->Prop:=λ_ h=>∃o,h.get? e=some o/\o.cls=.ref C/\o.data=E5 a0/\o.dict=none
noncomputable def eQ(C e a0 d:LW)(fs:List (Str×V)):(LW->Prop)->L8->Prop:=λS h=>∃o mA,h.get? e=some o/\o.cls=.ref C/\o.data=E5 a0/\o.dict=some d/\S d/\d≠e/\h.Ns1 d mA/\∀f,qu (fs.lookup f) (mA f)
theorem B2{h h':L8}{d:LW}{mA:bK}(n:h.Ns1 d mA)(k:∀o,h.get? d=some o->h'.get? d=some o):h'.Ns1 d mA:=n.at k
theorem zi{P:L7}{w:L6}{H:Hp}{h:L8}{C e a0:LW}(x:mB C e a0 (λb=>H b=some (.own e)) h):cv P w H h e (.ext (mB C e a0)):=by
 refine⟨x,let ⟨o,q,_⟩:=x;⟨o,q⟩,λS1 S2 h1 h2 z s12 k=>?_⟩;obtain⟨o,q1,q2⟩:=z;exact⟨o,k _ _ (.inl rfl) q1,q2⟩
theorem tM{P:L7}{w:L6}{H:Hp}{h:L8}{C e a0 d:LW}{fs:List (Str×V)}(x:eQ C e a0 d fs (λb=>H b=some (.own e)) h):cv P w H h e (.ext (eQ C e a0 d fs)):=by
 refine⟨x,let ⟨o,_,q,_⟩:=x;⟨o,q⟩,λS1 S2 h1 h2 z s12 k=>?_⟩;obtain⟨o,mA,q1,q2,q3,q4,q5,q6,q7,q8⟩:=z;exact⟨o,mA,k _ _ (.inl rfl) q1,q2,q3,q4,s12 _ q5,q6,B2 q7 λo e=>k _ _ (.inr q5) e,q8⟩
section
variable{X:Cx}{pins:aV}{σ:St}{H:Hp}{s:LZ}{A:Mf}{E:bx}{C e a0:LW}{fs:List (Str×V)}{f:Str}{y:V}{u:LU}{Q:Unit->gb}
theorem qg{fs:List (Str×V)}{f:Str}(y:V)(h:(fs.map (·.1)).contains f=false)(g:Str):(fs++[(f,y)]).lookup g=if g=f then some y else fs.lookup g:=by
 induction fs with
 |nil=>
  show List.lookup g [(f,y)]=_;rw[Jf];by_cases z:g=f
  ·rw[if_pos z,z,beq_self_eq_true]
  ·rw[if_neg z,beq_eq_false_iff_ne.mpr z]
 |cons p r ih=>
  rw[IG,JR,JS]at h;rw[Ji,Jf,Jf,ih h.2];have ne:f≠p.1:=by simpa using h.1
  cases q:(g==p.1)with
  |false=>rfl
  |true=>
   have:=beq_iff_eq.mp q
   have nf:¬g=f:=λz=>ne (z.symm.trans this);show some p.2=if g=f then some y else some p.2
   rw[if_neg nf]
theorem lookup_mem{fs:List (Str×V)}{g:Str}{v:V}(h:fs.lookup g=some v):g∈fs.map (·.1):=by
 induction fs with
 |nil=>cases h
 |cons p r ih=>
  rw[Jf]at h;cases q:(g==p.1)with
  |true=>rw[IG,beq_iff_eq.mp q];exact Il
  |false=>rw[q]at h;exact Im _ (ih h)
theorem n6(I:Inv X pins σ H s)(e1:H e=some (.ext (mB C e a0)))(Z:AZ X.K C)(n:cq X.K C f)(ry:RelV y u)
  (h0:∀d s',H d=none->d≠e->Inv X pins σ (upd (upd H d (.own e)) e (.ext (eQ C e a0 d [(f,y)]))) s'->Q () s'):Mi (model X.prog X.w) A (setAttr (.ref e) f u) Q E s:=by
 obtain⟨⟨o,q1,q2,q3,q6⟩,_,_⟩:=(show cv X.prog X.w H s.heap e (.ext (mB C e a0))from I.hok e _ e1)
 refine xG Z I.kIn q1 q2 q3 q6 n λh' n2 s2=>h0 s.heap.objs.size _ (I.hok.fresh (Iy _)) (Ne.symm (Ih (Lf q1))) ?_;have ne:e≠s.heap.objs.size:=Ih (Lf q1);have I1:=I.laid (a:=s.heap.objs.size) (o:=.own e) (h':=s.heap.push {cls:=.type "dict",data:=.dict #[]}) (t':=s.toks) (λb o z=>Li _ z) (Iy _) ⟨_,Lj s.heap rfl⟩;have g1:(s.heap.push {cls:=.type "dict",data:=.dict #[]}).get? e=some o:=Li _ q1;have g2:((s.heap.push {cls:=.type "dict",data:=.dict #[]}).update e λo=>{o with dict:=some s.heap.objs.size}).get? e=some {o with dict:=some s.heap.objs.size}:=Lq (λo=>{o with dict:=some s.heap.objs.size}) g1 (Obj.isFreed_of_fields (o:={o with dict:=some s.heap.objs.size}) q3);have I2:=I1.write (x:=e) (e:=e) (o:=.ext (jL C e (some s.heap.objs.size))) (t':=s.toks) (h':=(s.heap.push {cls:=.type "dict",data:=.dict #[]}).update e λo=>{o with dict:=some s.heap.objs.size}) (by rw[au ne,e1];trivial) (.inl rfl) (λb u nb z=>(Lr _ _ _ _ nb).trans z) ⟨_,g2⟩
  ⟨⟨_,g2,q2,rfl,by unfold K3;rw[q3]⟩,⟨_,g2⟩,λ_ _ h1 h2 ⟨o,z1,z2⟩ _ k=>⟨o,k _ o (.inl rfl) z1,z2⟩⟩
 have g3:h'.get? e=some {o with dict:=some s.heap.objs.size}:=(s2.2 e ne).trans g2;have I3:=I2.write (x:=e) (e:=s.heap.objs.size) (o:=.ext (eQ C e a0 s.heap.objs.size [(f,y)])) (t':=s.toks+2) (h':=h') (by rw[az];trivial) (.inr (by rw[au ne.symm,az])) (λb u nb z=>(s2.2 b nb).trans z) (let ⟨o,_,_,z,_⟩:=n2;⟨o,z⟩)
  (tM ⟨_,_,g3,q2,q3,rfl,by dsimp only;rw[au ne.symm,au ne.symm,az],ne.symm,n2,λg=>?_⟩)
 ·rw[kM]at I3;exact I3
 ·rw[Jf];by_cases z:g=f
  ·rw[if_pos z,z];simpa [qu]using ry
  ·rw[if_neg z,beq_eq_false_iff_ne.mpr z];trivial
theorem oM{d:LW}(I:Inv X pins σ H s)(e1:H e=some (.ext (eQ C e a0 d fs)))(Z:AZ X.K C)(n:cq X.K C f)(hl:fs.length<1000)(hc:(fs.map (·.1)).contains f=false)(ry:RelV y u)
  (h1:∀s',Inv X pins σ (upd H e (.ext (eQ C e a0 d (fs++[(f,y)])))) s'->Q () s'):Mi (model X.prog X.w) A (setAttr (.ref e) f u) Q E s:=by
 obtain⟨⟨o,mA,q1,q2,q3,p1,p2,p3,p4,p5⟩,_,_⟩:=(show cv X.prog X.w H s.heap e (.ext (eQ C e a0 d fs))from I.hok e _ e1)
 have wi:PySem.Within mA (fs.map (·.1)):=λg hg=>by
  cases z:fs.lookup g with
  |none=>have:=p5 g;rw[z]at this;exact absurd (qu.none_of this) hg
  |some v=>exact lookup_mem z
 refine xB Z I.kIn q1 q2 (by unfold K3;rw[q3]) p1 p4 n wi (by rw[IH,MA];omega) λh' n2 s2=>h1 _ ?_;refine I.write (x:=e) (e:=d) (t':=s.toks+2) (by rw[e1];trivial) (.inr p2) (λb u nb z=>(s2.2 b nb).trans z) (let ⟨o,_,_,z,_⟩:=n2;⟨o,z⟩) (tM ⟨o,_,(s2.2 e p3.symm).trans q1,q2,q3,p1,by dsimp only;rw[au p3];exact p2,p3,n2,λg=>?_⟩);rw[qg y hc];by_cases z:g=f
 ·rw[if_pos z,if_pos z];exact ry
 ·rw[if_neg z,if_neg z];exact p5 g
end
noncomputable def Dx(K:Ky)(ta tv:TE)(f:Str):TS:=λD σ H=>tv σ H λy H1=>ta σ H1 λx H2=>∃e C a0,x=.ref e/\AZ K C/\cq K C f/\
  ((H2 e=some (.ext (mB C e a0))/\∀ d,H2 d=none->d≠e->D.nx σ (upd (upd H2 d (.own e)) e (.ext (eQ C e a0 d [(f,y)])))) \/
   ∃d fs,H2 e=some (.ext (eQ C e a0 d fs))/\fs.length<1000/\(fs.map (·.1)).contains f=false/\D.nx σ (upd H2 e (.ext (eQ C e a0 d (fs++[(f,y)])))))
section
variable{X:Cx}
theorem rS{o value:LX}{f:Str}{pos pos':Pos}{ta tv:TE}(ha:PE X o ta)(hv:PE X value tv)(hs:swapsWith value (some (.Attribute o f pos')) pos.line X.env=pure false):PS X (.Assign [.Attribute o f pos'] value pos) (Dx X.K ta tv f):=by
 intro pins s σ H D I h;refine MH (ca (hv pins s σ H _ I h) λu s1 h1=>?_) hs;obtain⟨y,H1,I1,ry,q⟩:=h1;refine ca (ha pins s1 σ H1 _ I1 q) λov s2 h2=>?_;obtain⟨x,H2,I2,rx,e,C,a0,ex,Z,n,q⟩:=h2;subst ex;obtain rfl:ov=Value.ref e:=rx;rcases q with⟨ea,q⟩|⟨d,fs,ea,l,nc,q⟩
 ·exact n6 I2 ea Z n ry λd s3 hd ne I3=>⟨σ,_,I3,q d hd ne⟩
 ·exact oM I2 ea Z n l nc ry λs3 I3=>⟨σ,_,I3,q⟩
noncomputable def sW(X:Cx)(body:cH)(fs:al)(i:Nat):Prop:=
 ∃t,mR X body t/\∀(D:Ends)(σ:St)(H:Hp)(e C a0:LW)(as:aE),σ[0]?=some (some (.ref e))->(∀j v,as[j]?=some v->σ[i+j]?=some (some v))->as.length=fs.length->AZ X.K C->(∀f∈fs,cq X.K C f)->
  (fs.length<1000->fs.Nodup->H e=some (.ext (mB C e a0))->(∀d,H d=none->d≠e->D.nx σ (upd (upd H d (.own e)) e (.ext (eQ C e a0 d (fs.zip as)))))->t D σ H)/\
  ∀d done,done.length+fs.length<1000->(done.map (·.1)++fs).Nodup->H e=some (.ext (eQ C e a0 d done))->D.nx σ (upd H e (.ext (eQ C e a0 d (done++fs.zip as))))->t D σ H
theorem A2{done:List (Str×V)}{f:Str}{fs:al}(nd:(done.map (·.1)++f::fs).Nodup):(done.map (·.1)).contains f=false:=by
 rw[JT]at nd;cases hc:(done.map (·.1)).contains f with
 |false=>rfl
 |true=>exact absurd rfl (nd.2.2 f (List.contains_iff_mem.mp hc) f Il)
theorem ux{st:LY}{f:Str}{i:Nat}{o v:LX}{p1 p2:Pos}(hst:st=.Assign [.Attribute o f p1] v p2)(ho:PE X o (lV 0))(hv:PE X v (lV i))(hs:swapsWith v (some (.Attribute o f p1)) p2.line X.env=pure false):sW X [st] [f] i:=by
 subst hst;refine⟨_,pq (rS ho hv hs),λD σ H e C a0 as h0 ha hl Z na=>?_⟩;obtain⟨a,rfl⟩:=List.length_eq_one_iff.mp hl;exact⟨λ_ _ hx q=>⟨a,ha 0 a rfl,.ref e,h0,e,C,a0,rfl,Z,na f Il,.inl ⟨hx,q⟩⟩,λd done hz nd hx q=>⟨a,ha 0 a rfl,.ref e,h0,e,C,a0,rfl,Z,na f Il,.inr ⟨d,done,hx,by simp at hz;omega,A2 nd,q⟩⟩⟩
theorem lq{st:LY}{rest:cH}{f:Str}{fs:al}{i:Nat}{o v:LX}{p1 p2:Pos}(hst:st=.Assign [.Attribute o f p1] v p2)(ho:PE X o (lV 0))(hv:PE X v (lV i))(hs:swapsWith v (some (.Attribute o f p1)) p2.line X.env=pure false)(hr:sW X rest fs (i+1)):sW X (st::rest) (f::fs) i:=by
 subst hst;obtain⟨t,ht,hq⟩:=hr;refine⟨_,lJ (rS ho hv hs) ht,λD σ H e C a0 as h0 ha hl Z na=>?_⟩;cases as with
 |nil=>cases hl
 |cons a as=>
  have nx:∀j v,as[j]?=some v->σ[i+1+j]?=some (some v):=λj v z=>by
   have:=ha (j+1) v z
   rw[show i+1+j=i+(j+1)by omega];exact this
  have na':∀g∈fs,cq X.K C g:=λg hg=>na g (Im _ hg);refine⟨λhz nd hx q=>⟨a,ha 0 a rfl,.ref e,h0,e,C,a0,rfl,Z,na f Il,.inl ⟨hx,λd hd ne=>?_⟩⟩,λd done hz nd hx q=>⟨a,ha 0 a rfl,.ref e,h0,e,C,a0,rfl,Z,na f Il,.inr ⟨d,done,hx,by omega,A2 nd,?_⟩⟩⟩
  ·exact(hq D σ _ e C a0 as h0 nx (Nat.succ.inj hl) Z na').2 d [(f,a)] (by rw[Jd];rw[IE]at hz;omega) nd az (by rw[kM];exact q d hd ne)
  ·exact(hq D σ _ e C a0 as h0 nx (Nat.succ.inj hl) Z na').2 d (done++[(f,a)]) (by rw[IZ,Jd];rw[IE]at hz;omega) (by rw[Jz,JE];exact nd) az (by rw[kM,JE];exact q)
end
noncomputable def G3(C:LW)(fs:al):Sp:=λvs H Q _=>∃e a0 as,vs=.ref e::as/\as.length=fs.length/\H e=some (.ext (mB C e a0))/\∀d,H d=none->d≠e->Q .non (upd (upd H d (.own e)) e (.ext (eQ C e a0 d (fs.zip as))))
structure Em(K:Ky)(C f:LW):Prop where
 cls:∃nm q N bs bm hdct sn sub ab col dd k0 k1 k2 k3 k5,∀h,K.In h->h.get? C=some (excClassObj nm q C N bs bm hdct sn sub ab col dd k0 k1 k2 k3 k5 "ValueError.__new__")/\(∃mN,h.Ns N mN/\mN "__init__"=some (.ref f))/\OwnTail h Dc bm
 fn:KQ K (.ref f)=some (.type "function")
 st:AZ K C
 kp:KS K (.ref C)=true
noncomputable def rk(K:Ky)(C:LW)(f:LW):Bool:=match K.lookup C with
 |some ⟨.type "type",_,.cls k,slots⟩=>(match k.mro,slots.toList with
  |.ref c0::tl,[_,_,_,_,some (.builtin j),_]=>c0==C&&(j=="ValueError.__new__"&&(!k.hasDel&&(PySem.W.tailIn K Dc tl&&(PySem.W.nsOkIn K k.ns&&K2 K k.ns "__init__"==some (some (.ref f))))))
  |_,_=>false)
 |_=>false
theorem Dz{K:Ky}{h:L8}{N:LW}{m:bK}{n:Str}{v:LU}(X:K.In h)(G:h.Ns N m)(e:K2 K N n=some (some v)):m n=some v:=by
 obtain⟨o,es,ep,g1,g2,_,g3⟩:=G;unfold K2 at e;split at e
 ·rename_i look;have z:=X _ _ look;rw[g1]at z;cases z;cases g2;rw[<-g3];unfold nsFind findBy;rw[<-Array.find?_toList];split at e
  ·rename_i y;rw[y];cases e;rfl
  ·split at e<;>cases e
 ·cases e
theorem CW{K:Ky}{C f:LW}(q:rk K C f=true)(fn:KQ K (.ref f)=some (.type "function"))(st:AZ K C)(kp:KS K (.ref C)=true):Em K C f:=by
 refine⟨?_,fn,st,kp⟩;unfold rk at q;split at q
 ·rename_i od data slots look;split at q
  ·rename_i C0 tl s0 s1 s2 s3 nid s5 e1 e2;simp only[Jb,beq_iff_eq,J3]at q;obtain⟨y1,y2,y3,y4,y5,y6⟩:=q;subst y1 y2;obtain⟨d1,d2,d3,d4,d5,d6,d7,d8,d9,d10,d11⟩:=data;dsimp only at e1 y3 y5 y6;subst e1 y3;have hs:slots=#[s0,s1,s2,s3,some (.builtin "ValueError.__new__"),s5]:=by
    cases slots with
    |mk l=>rw[show l=_ from e2]
   subst hs;exact⟨d1,d5,d4,d2,tl,d6,d7,d8,d9,d10,od,s0,s1,s2,s3,s5,λh X=>⟨X _ _ look,⟨_,.of_isNs (K7 X y5),Dz X (.of_isNs (K7 X y5)) y6⟩,K8 X y4⟩⟩
  ·cases q
 ·cases q
noncomputable def ku(P:L7)(w:L6)(K:Ky)(mg:bK)(base:L8)(k:Nat)(c:Str)(ps fs:al):Prop:=
 ∃C f fd,clsAt K c C/\Em K C f/\eh P w K mg base (jd P w) k f fd ps (G3 C fs)/\Binds K fd ps []/\mg c=some (.ref C)
theorem rH{P:L7}{w:L6}{K:Ky}{mg:bK}{base:L8}{k:Nat}{ps:al}{c qual:Str}{C f:LW}{fd:ML}{st:LY}{fs:al}(h1:clsAt K c C)(hM:Em K C f)(na:∀g∈fs,cq K C g)(F:pZ K "__init__" qual st f fd)(b:Binds K fd ps [])(hmg:mg c=some (.ref C))(SC:cC ps ps (aH st))(hps:ps.length=fs.length+1)(hnd:fs.Nodup)(hlen:fs.length<1000)
  (hb:∀(cdv:LU)(A:Mf)(outer:List Env)(s:LZ)(H:Hp)(E:XK),sW (gd DT P w K mg base ps qual (aH st) f cdv A outer s H E).nox (cO st) fs 1):ku P w K mg base (k+1) c ps fs:=by
 refine⟨C,f,fd,h1,hM,?_,b,hmg⟩;refine eh.any (F.ok SC (λvs H Q E h=>?_) λcdv A outer s H vs Q E hr h=>?_)
 ·obtain⟨e,a0,as,rfl,hl,_⟩:=h;rw[IE,hl,hps]
 ·obtain⟨t,ht,hq⟩:=hb cdv A outer s H E;obtain⟨e,a0,as,rfl,hl,hx,q⟩:=h;have hst:L2.start ps (.ref e::as)=(.ref e::as).map some:=by
   unfold L2.start;rw[IE,hl,hps,JU,JV,IL]
  refine⟨t,ht,(hq _ _ H e C a0 as (by rw[hst];rfl) (λj v z=>?_) hl hM.st na).1 hlen hnd hx q⟩;rw[hst,JW,IG,JL,IV,z];rfl
theorem qY{M:Mh}{A:Mf}{E:bx}{env:Env}{nm q:Str}{C N:LW}{bs bm:aQ}{hdct:Bool}{sn:al}{sub:aQ}{ab:Bool}{col:Option Bool}{dd:Option LW}{k0 k1 k2 k3 k5:Option LU}{newId:String}{s:LZ}{x:Sem LU}{Q:Flow->gb}(hb:bm.contains (.type "BaseException")=true)(hh:A.handled=none)
  (h:Mi M A x (λv s₁=>∃e t dx sl,v=.ref e/\s₁.heap.get? C=some (excClassObj nm q C N bs bm hdct sn sub ab col dd k0 k1 k2 k3 k5 newId)/\s₁.heap.get? e=some ⟨.ref C,dx,E5 t,sl⟩/\E (.ref e) s₁) E s):Mi M A (raiseStmt env (some x) none) Q E s:=by
 have hc:(Value.ref C::bm).contains (.type "BaseException")=true:=by rw[JR,hb,J2]
 unfold raiseStmt;refine Mw (Ml h (λv s₁ h₁=>?_) λ_ _ x=>x);obtain⟨e,t,dx,sl,rfl,hC,he,hE⟩:=h₁;obtain⟨hp,g,d,tk,os⟩:=s₁
 repeat (first|with_reducible refine Nn he ?_|with_reducible refine Nn hC ?_|(with_reducible refine wpAny_isSubtype_exc hC ?_;rw[hc])|wp_step)
 exact wpAny_raiseNew_none hh hE
section
variable{X:Cx}{pins:aV}{σ:St}{H:Hp}{s:LZ}
theorem adopt{e:LW}{ob:HO}(I:Inv X pins σ H s)(hn:H e=none)(h0:X.s₀.heap.get? e=none)(hL:e≠X.env.locals)(hcl:∀x,X.env.cells.lookup x≠some e)(hp:∀p∈X.pn++pins,p.1≠e)(new:cv X.prog X.w (upd H e ob) s.heap e ob):Inv X pins σ (upd H e ob) s:=by
 have ne:∀b u,H b=some u->b≠e:=λb u q z=>by rw[z,hn]at q;cases q
 have U:=I.base;refine⟨I.ok,I.os,I.bare,⟨U.keep,U.slot,λb o q n nx=>?_,U.there,λb xs q=>?_,λb o u q=>?_,λb ps q=>?_⟩,I.loc,I.cell,?_,λx c q=>?_,λp q=>?_,λa o q=>?_,I.len⟩
 ·rw[au λz=>by rw[z,h0]at q;cases q];exact U.free b o q n nx
 ·have:=U.tups b xs q;rw[au (ne _ _ this)];exact this
 ·have:=U.frzs b o u q;rw[au (ne _ _ this)];exact this
 ·obtain⟨more,z⟩:=U.tbls b ps q;exact⟨more,by rw[au (ne _ _ z)];exact z⟩
 ·rw[au hL.symm];exact I.free
 ·rw[au λz=>hcl x (by rw[<-z];exact q)];exact I.freeC x c q
 ·obtain⟨a1,a2,a3⟩:=I.pin p q;exact⟨a1,by rw[au (hp p q)];exact a2,a3⟩
 ·by_cases z:a=e
  ·subst z;rw[az]at q;cases q;exact new
  ·rw[au z]at q;exact(I.hok a o q).stay (λb u _ q=>q) (λb q=>by rw[au (ne _ _ q)];exact q) λb xs q=>by rw[au (ne _ _ q)];exact q
theorem nw{e:LW}(I:Inv X pins σ H s)(hx:X.ex=[])(n:s.heap.get? e=none):H e=none/\X.s₀.heap.get? e=none/\e≠X.env.locals/\(∀x,X.env.cells.lookup x≠some e)/\∀p∈X.pn++pins,p.1≠e:=by
 refine⟨?_,?_,λz=>?_,λx q=>?_,λp hp z=>?_⟩
 ·cases q:H e with
  |none=>rfl
  |some ob=>obtain⟨o,z⟩:=qS (I.hok e ob q);rw[n]at z;cases z
 ·cases q:X.s₀.heap.get? e with
  |none=>rfl
  |some o=>obtain⟨o',z⟩:=I.base.there e o q (by rw[hx];simp);rw[n]at z;cases z
 ·obtain⟨m,⟨o,es,ep,e2,_⟩,_⟩:=I.loc;rw[<-z,n]at e2;cases e2
 ·obtain⟨v,o,z,_⟩:=I.cell x e q;rw[n]at z;cases z
 ·have:=(I.pin p hp).1
  rw[z,n]at this;cases this
theorem Aj{s3:LZ}{C e a0 d:LW}{fs:List (Str×V)}(I:Inv X pins σ H s)(hx:X.ex=[])(n:s.heap.get? e=none)(hd:H d=none)(I3:Inv X pins σ (upd (upd H d (.own e)) e (.ext (eQ C e a0 d fs))) s3):
  Inv X pins σ (upd H d (.xd fs)) s3/\qj X (upd H d (.xd fs)) s3 e C (some d)/\∃sl,s3.heap.get? e=some ⟨.ref C,some d,E5 a0,sl⟩:=by
 obtain⟨hn,h0,hL,hcl,hp⟩:=nw I hx n;obtain⟨⟨o,mA,q1,q2,q3,q4,q5,q6,q7,q8⟩,_,_⟩:=(show cv X.prog X.w _ s3.heap e (.ext (eQ C e a0 d fs))from I3.hok e _ az)
 have He:upd H d (.xd fs) e=none:=by rw[au q6.symm];exact hn
 have d3:upd (upd H d (.own e)) e (.ext (eQ C e a0 d fs)) d=some (.own e):=by rw[au q6,az]
 have away:∀b,b≠e->b≠d->upd H d (.xd fs) b=upd (upd H d (.own e)) e (.ext (eQ C e a0 d fs)) b:=λb n1 n2=>by rw[au n2,au n1,au n2]
 have none3:∀b,upd (upd H d (.own e)) e (.ext (eQ C e a0 d fs)) b=none->b≠e/\b≠d:=λb z=>⟨λw=>(by rw[w,az]at z;cases z),λw=>(by rw[w,d3]at z;cases z)⟩
 have some3:∀b u,upd (upd H d (.own e)) e (.ext (eQ C e a0 d fs)) b=some u->(∀φ,u≠.ext φ)->(∀y,u≠.own y)->upd H d (.xd fs) b=some u:=λb u z n1 n2=>by
  rw[away b (λw=>by rw[w,az]at z;cases z;exact n1 _ rfl) λw=>by rw[w,d3]at z;cases z;exact n2 _ rfl];exact z
 have U:=I3.base;have I4:Inv X pins σ (upd H d (.xd fs)) s3:=by
  refine⟨I3.ok,I3.os,I3.bare,⟨U.keep,U.slot,λb o q n nx=>?_,U.there,λb xs q=>?_,λb o u q=>?_,λb ps q=>?_⟩,I3.loc,I3.cell,?_,λx c q=>?_,λp q=>?_,λa o q=>?_,I3.len⟩
  ·have z:=U.free b o q n nx;obtain⟨n1,n2⟩:=none3 b z;rw[away b n1 n2];exact z
  ·exact some3 _ _ (U.tups b xs q) (λ_ z=>nomatch z) λ_ z=>nomatch z
  ·exact some3 _ _ (U.frzs b o u q) (λ_ z=>nomatch z) λ_ z=>nomatch z
  ·obtain⟨more,z⟩:=U.tbls b ps q;exact⟨more,some3 _ _ z (λ_ z=>nomatch z) λ_ z=>nomatch z⟩
  ·obtain⟨n1,n2⟩:=none3 _ I3.free;rw[away _ n1 n2];exact I3.free
  ·obtain⟨n1,n2⟩:=none3 _ (I3.freeC x c q);rw[away _ n1 n2];exact I3.freeC x c q
  ·obtain⟨a1,a2,a3⟩:=I3.pin p q;obtain⟨n1,n2⟩:=none3 _ a2;exact⟨a1,by rw[away _ n1 n2];exact a2,a3⟩
  ·by_cases z:a=d
   ·subst z;rw[az]at q;cases q;exact⟨mA,q7,q8⟩
   ·have ae:a≠e:=λw=>by rw[w,He]at q;cases q
    rw[away a ae z]at q;refine(I3.hok a o q).stay (λb u _ q=>q) (λb w=>?_) λb xs w=>some3 _ _ w (λ_ z=>nomatch z) λ_ z=>nomatch z;rw[away b (λy=>by rw[y,az]at w;cases w) λy=>by rw[y,d3]at w;cases w;exact ae rfl];exact w
 obtain⟨oc,odi,oda,osl⟩:=o;dsimp only at q2 q3 q4;subst q2 q3 q4;have nk:¬fA X (upd H d (.xd fs)) e:=λz=>by
  rcases z with⟨⟨o,z⟩,_⟩|z|⟨o,z⟩|⟨x,z⟩
  ·rw[h0]at z;cases z
  ·exact z He
  ·exact hp _ (Io _ z) rfl
  ·exact hcl x z
 refine⟨I4,⟨λoe z=>by rw[q1]at z;cases z;rfl,hZ s3.heap (λb=>if b∈frs X.stack\/b=e then some (.tup [])else none),.ref a0,λb o z=>(i7 z).1,?_,fj (λ_ _ z=>z) (λb hb=>?_) I4.stack,.inr ⟨_,_,q1,rfl,rfl,rfl,rfl⟩,λb o z kb nf=>lw z (if_neg ?_)⟩,osl,q1⟩
 ·cases z:(hZ s3.heap (λb=>if b∈frs X.stack\/b=e then some (.tup [])else none)).get? e with
  |none=>rfl
  |some o=>have:=(i7 z).2;rw[if_pos (.inr rfl)]at this;cases this
 ·cases z:(hZ s3.heap (λb=>if b∈frs X.stack\/b=e then some (.tup [])else none)).get? b with
  |none=>rfl
  |some o=>have:=(i7 z).2;rw[if_pos (.inl hb)]at this;cases this
 ·rintro(w|w)
  ·exact nf w
  ·exact nk (w ▸ kb)
end
noncomputable def ky(c:Str)(fs:al)(f:aP):bB:=λk ρ=>kF (f ρ) k ρ λds=>if small ds.length&&ds.length==fs.length then k.ex ⟨c,fs,ds⟩ ρ else un
end TG
namespace TG
open PySem PySem.Spec L2
variable[ax]
noncomputable def mF(K:Ky)(f:Str)(cs:al):Prop:=∀c∈cs,∀C,clsAt K c C->iB K C/\cq K C f/\KC K C=true
theorem lD{K:Ky}{f:Str}:mF K f []:=λ_ h=>nomatch h
theorem jz{K:Ky}{f c:Str}{C:LW}{cs:al}(ac:clsAt K c C)(F:iB K C)(n:cq K C f)(hd:KC K C=true)(r:mF K f cs):mF K f (c::cs):=λc' h C' hC=>by
 rcases List.mem_cons.mp h with z|z
 ·subst z;cases dZ hC ac;exact⟨F,n,hd⟩
 ·exact r c' z C' hC
noncomputable def fZ(f:Str)(cs:al)(d:D):bi:=match d with
 |.exc c fs vs=>if cs.contains c then(fs.zip vs).lookup f else none
 |_=>none
section
variable{X:Cx}{pos:Pos}{a:LX}{fa:FX}{f:Str}{cs:al}
noncomputable def Dd(K:Ky)(ta:TE)(f:Str):TE:=λσ H Q=>ta σ H λx H1=>∃e C d fs v,x=.ref e/\H1 e=some (.ext (jL C e (some d)))/\H1 d=some (.xd fs)/\iB K C/\cq K C f/\KC K C=true/\fs.lookup f=some v/\Q v H1
theorem Am{e:LX}{ta:TE}(he:PE X e ta)(hb:MG e f X.env (eval e X.env)=eval e X.env):PE X (.Attribute e f pos) (Dd X.K ta f):=by
 intro pins s σ H Q I h;refine rP hb (ca (he pins s σ H _ I h) λu s1 h1=>?_);obtain⟨x,H1,I1,rx,e,C,d,fs,v,ex,ea,ed,F,n,hd,l,q⟩:=h1;subst ex;obtain rfl:u=Value.ref e:=rx;obtain⟨⟨o,q1,q2,q3,q4⟩,_,_⟩:=(show cv X.prog X.w H1 s1.heap e (.ext (jL C e (some d)))from I1.hok e _ ea)
 obtain⟨mA,n1,n2⟩:=(show cv X.prog X.w H1 s1.heap d (.xd fs)from I1.hok d _ ed)
 obtain⟨od,ho,hl⟩:=mI n1;obtain⟨u,hu,ru⟩:=qu.some_of (v:=v) (o:=mA f) (by rw[<-l];exact n2 f);refine yi F I1.kIn (od:=some od) ⟨q1,q2,q4,by rw[q3];exact ho⟩ (KJ hd n rfl (by rw[hl,hu])) (mU ru) ⟨v,H1,I1.tok _,ru,q⟩
end
end TG
namespace TX
open PySem PySem.Spec L2 TG
variable[ax]
structure XE(X:Cx)(e:LX)(F:FX):Prop where h:FE X e F
structure XT(X:Cx)(e:LX)(F:bj):Prop where h:FT X e F
structure XW(X:Cx)(e:LX)(F:bj):Prop where h:FW X e F
structure XA(X:Cx)(e:aZ)(F:aP):Prop where h:FA X e F
structure XS(X:Cx)(e:LY)(F:bB):Prop where h:FS X e F
structure mW(X:Cx)(e:cH)(F:bB):Prop where h:E8 X e F
structure XI(X:Cx)(t e:LX)(F:aP):Prop where h:FI X t e F
structure XG(X:Cx)(e:LX)(F:GF):Prop where h:FG X e F
structure BP(X:Cx)(e:aZ)(F:yz):Prop where h:HJ X e F
structure XO(X:Cx)(e:Option LX)(F:ao->R cf):Prop where h:FO X e F
structure XN(X:Cx)(e:LX)(F:FX):Prop where h:FN X e F
structure De(X:Cx)(e:aZ)(F:bj):Prop where h:G8 X e F
structure XV(X:Cx)(e:LX)(i:Nat):Prop where h:PE X e (lV i)
structure XB(X:Cx)(scope:Mg)(N:al)(tg elt:LX)(ifs:aZ)(g:GF)(C:bj)(Fe:FX)(cl:jA)(C':LW)(fp:aA)(s:LZ)(H:Hp)(E:bx):Prop where
 a:XG (bF X scope N cl C' fp s H E) tg g
 b:De (bF X scope N cl C' fp s H E) ifs C
 c:XE (bF X scope N cl C' fp s H E) elt Fe
structure mj(X:Cx)(scope:Mg)(N:al)(tg elt:LX)(ifs:aZ)(g:GF)(C:bj)(Fe:FX):Prop where
 q:∀cl C' fp s H E,XB X scope N tg elt ifs g C Fe cl C' fp s H E
theorem mj.h{X:Cx}{scope:Mg}{N:al}{tg elt:LX}{ifs:aZ}{g:GF}{C:bj}{Fe:FX}(x:mj X scope N tg elt ifs g C Fe):G9 X scope N tg elt ifs g C Fe:=λcl C' fp s H E=>⟨(x.q cl C' fp s H E).a.h,(x.q cl C' fp s H E).b.h,(x.q cl C' fp s H E).c.h⟩
theorem xv{X:Cx}(i:Nat){x:Str}{pos:Pos}(hN:X.N[i]?=some x:=by rfl)(hv:Bp X.env.scope x:=by first|exact Or.inl rfl|exact Or.inr (Or.inl rfl)|exact Or.inr (Or.inr rfl))(hd:(x==("__debug__":Str))=false:=by decide)
  (hcd:(x==("__classdict__":Str))=false:=by decide):XV X (.Name x pos) i:=⟨pv i hN hv hd hcd⟩
theorem Hf{X:Cx}{e:LX}{f:bj}(h:XW X e f):XT X e f:=⟨FW.ft h.h⟩
section
variable[ax]{X:Cx}
theorem zt{i:Nat}{x:Str}{pos:Pos}(h:XV X (.Name x pos) i):XE X (.Name x pos) (aa i):=⟨PE.weak h.h λσ H Q ⟨O,ρ,E,hF⟩=>by
  obtain⟨d,e,q⟩:=uY hF;obtain⟨v,e,dv⟩:=E.val i d e;exact⟨v,e,q v H (aS.refl H) dv⟩⟩
theorem zO{i j pos}:XE X (.Constant (.int i) j pos) (fC (.int i)):=⟨iI BR λ_ _=>dQ.mpr rfl⟩
theorem CA{b j pos}:XE X (.Constant (.bool b) j pos) (fC (.bl b)):=⟨iI Du λ_ _=>fN.mpr rfl⟩
theorem zj{j pos}:XE X (.Constant .none j pos) (fC .non):=⟨iI BW λ_ _=>fu.mpr rfl⟩
theorem zb{x j pos}:XE X (.Constant (.str x) j pos) (fC (.str x)):=⟨iI BG λ_ _=>dE.mpr rfl⟩
theorem sq:XA X [] ah:=⟨TG.FC ⟩
theorem lZ{e:LX}{es:aZ}{f:FX}{g:aP}(he:XE X e f)(hs:XA X es g)(hns:noStar e=true:=by rfl):XA X (e::es) (af f g):=⟨TG.EH he.h hs.h hns⟩
theorem yS{es:aZ}{g:aP}{k pos}(h:XA X es g):XE X (.Tuple es k pos) (cz g):=⟨PE.weak (wD h.h) λσ H Q ⟨O,ρ,E,hF⟩=>⟨O,ρ,E,(dU.bind hF).imp λxs hF vs H1 s1 d1=>by
  obtain⟨d,e,q⟩:=dU.rO hF;obtain⟨hz,e⟩:=bg e;subst e;refine⟨by rw[<-d1.length];exact b8 hz,λp hp=>?_⟩;exact q _ _ (s1.trans (bI hp _)) (c7 (E.all.same s1) hp d1)⟩⟩
theorem zA{es:aZ}{g:aP}{pos}(h:XA X es g):XE X (.List es pos) (fP g):=⟨PE.weak (vP h.h) λσ H Q ⟨O,ρ,E,hF⟩=>⟨O,ρ,E,(dU.bind hF).imp λxs hF vs H1 s1 d1=>by
  obtain⟨d,e,q⟩:=dU.rO hF;obtain⟨hz,e⟩:=bg e;subst e;refine⟨by rw[<-d1.length];exact b8 hz,λp hp=>?_⟩;exact q _ _ (s1.trans (bI hp _)) (dH (E.all.same s1) hp d1)⟩⟩
theorem hV{a b:LX}{op:Operator}{r:R2}{g:D->D->bi}{fa fb:FX}{pos:Pos}(ho:fO X (Mz op) r)(s:cp X.K r g)(ha:XE X a fa)(hb:XE X b fb):XE X (.BinOp a op b pos) (f2 g fa fb):=⟨PE.weak (Dg ho ha.h hb.h) (oY s)⟩
theorem eM{a b:LX}{op:Mo}{r:R2}{g:D->D->bi}{fa fb:FX}{pos:Pos}(ho:fO X (Mp op) r)(s:cp X.K r g)(ha:XE X a fa)(hb:XE X b fb)(hm:Mq op b=false):XE X (.Compare a [op] [b] pos) (f2 g fa fb):=⟨PE.weak (zF ho ha.h hb.h hm) (oY s)⟩
theorem eP{a b:LX}{op:Mo}{r:R2}{g:D->D->bi}{fa fb:FX}{pos:Pos}(ho:fO X (Mp op) r)(s:cp X.K r g)(ha:XE X a fa)(hb:XE X b fb)(hm:Mq op b=false):XT X (.Compare a [op] [b] pos) (fB (f2 g fa fb)):=⟨PT.weak (yI ho ha.h hb.h hm) (jb (oY s))⟩
end
section
variable[ax]{X:Cx}{a b c:LX}{rest:aZ}{pos:Pos}{f g:bj}
theorem yA(h:XT X a f):XT X (.UnaryOp .Not a pos) (eJ f):=⟨PT.weak (Cw h.h) λσ H Q ⟨O,ρ,E,hF⟩=>⟨O,ρ,E,(dU.bind hF).imp λb q H1 s1=>q H1 s1⟩⟩
theorem vG(h:XT X a f):XW X (.BoolOp .And [a] pos) f:=⟨zh h.h⟩
theorem Au(h:XT X a f):XW X (.BoolOp .Or [a] pos) f:=⟨BH h.h⟩
theorem zC(ha:XT X a f)(hb:XW X (.BoolOp .And (b::rest) pos) g):XW X (.BoolOp .And (a::b::rest) pos) (jn f g):=⟨PW.weak (CV ha.h hb.h) λσ H Q ⟨O,ρ,E,hF⟩=>⟨O,ρ,E,(dU.bind hF).imp λc hF H1 s1=>by
 cases c with
 |true=>exact pD ⟨O,ρ,E.same s1,(hF.mono s1).imp λb q H2 s2=>q H2 (s1.trans s2)⟩
 |false=>exact o4 (hF H1 s1)⟩⟩
theorem BM(ha:XT X a f)(hb:XW X (.BoolOp .Or (b::rest) pos) g):XW X (.BoolOp .Or (a::b::rest) pos) (vw f g):=⟨PW.weak (D9 ha.h hb.h) λσ H Q ⟨O,ρ,E,hF⟩=>⟨O,ρ,E,(dU.bind hF).imp λc hF H1 s1=>by
 cases c with
 |false=>exact o4 ⟨O,ρ,E.same s1,(hF.mono s1).imp λb q H2 s2=>q H2 (s1.trans s2)⟩
 |true=>exact pD (hF H1 s1)⟩⟩
end
section
variable[ax]{X:Cx}{a b c:LX}{rest:aZ}{pos:Pos}{f g:bj}{fa fb:FX}
theorem Af{op}(h:XE X a fa):XE X (.BoolOp op [a] pos) fa:=⟨CL h.h⟩
theorem Al(ha:XE X a fa)(hb:XE X (.BoolOp .And (b::rest) pos) fb):XE X (.BoolOp .And (a::b::rest) pos) (df fa fb):=⟨PE.weak (CY ha.h hb.h) λσ H Q ⟨O,ρ,E,hF⟩=>⟨O,ρ,E,(dU.bind hF).imp λd hF x H1 s1 d1=>by
 cases d with
 |bl c=>
  refine⟨c,fN.mp d1,?_⟩;cases c with
  |true=>exact pD ⟨O,ρ,E.same s1,(hF.mono s1).imp λd q v H2 s2 d2=>q v H2 (s1.trans s2) d2⟩
  |false=>exact o4 (hF _ H1 s1 (fN.mpr rfl))
 |_=>exact hF.elim⟩⟩
theorem Cd(ha:XE X a fa)(hb:XE X (.BoolOp .Or (b::rest) pos) fb):XE X (.BoolOp .Or (a::b::rest) pos) (qO fa fb):=⟨PE.weak (Ej ha.h hb.h) λσ H Q ⟨O,ρ,E,hF⟩=>⟨O,ρ,E,(dU.bind hF).imp λd hF x H1 s1 d1=>by
 cases d with
 |bl c=>
  refine⟨c,fN.mp d1,?_⟩;cases c with
  |false=>exact o4 ⟨O,ρ,E.same s1,(hF.mono s1).imp λd q v H2 s2 d2=>q v H2 (s1.trans s2) d2⟩
  |true=>exact pD (hF _ H1 s1 (fN.mpr rfl))
 |_=>exact hF.elim⟩⟩
theorem zq(ha:XE X a fa):XE X (.UnaryOp .Not a pos) (iJ fa):=⟨PE.weak (CB ha.h) λσ H Q ⟨O,ρ,E,hF⟩=>⟨O,ρ,E,(dU.bind hF).imp λd hF x H1 s1 d1=>by
 obtain⟨d',e,q⟩:=dU.rO hF;cases d with
 |bl c=>
  cases e;exact⟨c,fN.mp d1,q _ H1 s1 (fN.mpr rfl)⟩
 |_=>cases e⟩⟩
theorem Cr(hc:XT X c f)(ha:XE X a fa)(hb:XE X b fb):XE X (.IfExp c a b pos) (EK f fa fb):=⟨PE.weak (yf hc.h ha.h hb.h) λσ H Q ⟨O,ρ,E,hF⟩=>⟨O,ρ,E,(dU.bind hF).imp λd hF H1 s1=>by
 cases d with
 |true=>exact pD ⟨O,ρ,E.same s1,(hF.mono s1).imp λd q v H2 s2 d2=>q v H2 (s1.trans s2) d2⟩
 |false=>exact o4 ⟨O,ρ,E.same s1,(hF.mono s1).imp λd q v H2 s2 d2=>q v H2 (s1.trans s2) d2⟩⟩⟩
end
section
variable[ax]{X:Cx}
theorem B4{a b:LX}{fa fb:FX}{pos:Pos}(ha:XE X a fa)(hb:XE X b fb)(hs:og b):XE X (.Subscript a b pos) (f2 ai fa fb):=⟨PE.weak (DV FP ha.h hb.h hs) (oY bU)⟩
theorem vT:XO X none aD:=⟨λpins s σ H Q I ⟨O,ρ,E,q⟩=>AB pins s σ H Q I (q H (aS.refl H))⟩
theorem wf{e:LX}{f:FX}(h:XE X e f):XO X (some e) (aO f):=⟨λpins s σ H Q I ⟨O,ρ,E,hF⟩=>
 zY h.h pins s σ H Q I ⟨O,ρ,E,(dU.bind hF).imp λd hF v H1 s1 d1=>by
  obtain⟨o,e,q⟩:=dU.rO hF;cases d with
  |int i=>
   cases e;exact⟨i,dQ.mp d1,q H1 s1⟩
  |_=>cases e⟩⟩
theorem uT{e:LX}{f:FX}{l h:ao->R cf}{lo hi:Option LX}{p2 pos:Pos}(he:XE X e f)(hl:XO X lo l)(hh:XO X hi h):XE X (.Subscript e (.Slice lo hi none p2) pos) (aK f l h):=⟨PE.weak (wm Fj he.h hl.h hh.h) λσ H Q ⟨O,ρ,E,hF⟩=>⟨O,ρ,E,(dU.bind hF).imp λa hF x H1 s1 d1=>⟨O,ρ,E.same s1,((dU.bind hF).mono s1).imp λlo' hF H2 s2=>⟨O,ρ,E.same (s1.trans s2),((dU.bind hF).mono (s1.trans s2)).imp λhi' hF H3 s3=>by
  obtain⟨d,e,q⟩:=dU.rO hF;exact⟨O,a,d,E.all.same ((s1.trans s2).trans s3),d1.mono (bM (s2.trans s3)),e,λv H4 s4 d4=>q v H4 (((s1.trans s2).trans s3).trans s4) d4⟩⟩⟩⟩⟩
end
section
variable[ax]{X:Cx}{x:Str}{p pos:Pos}{e:LX}{es:aZ}{id T:String}{g:List D->bi}{f:aP}
theorem mY(hc:eD X (.builtin id) (C4 X.K g))(hg:Gl X x)(hm:X.mg x=none)(hv:Md x=some (.builtin id))(ha:XA X (e::es) f)(hn:x≠"__name__":=by decide)(hdb:(x==("__debug__":Str))=false:=by decide)(hns:(e::es).all noStar=true:=by rfl):XE X (.Call (.Name x p) (e::es) [] pos) (fL g f):=⟨PE.weak (gu hc hg hm hv ha.h hn hdb (bp (Jb _ _ ▸ hns).1) (cj (Jb _ _ ▸ hns).2)) (v8 lR)⟩
theorem lS(hc:eD X (.type T) (C4 X.K g))(hg:Gl X x)(hm:X.mg x=none)(hv:Md x=some (.type T))(ha:XA X (e::es) f)(hn:x≠"__name__":=by decide)(hdb:(x==("__debug__":Str))=false:=by decide)(hns:(e::es).all noStar=true:=by rfl):XE X (.Call (.Name x p) (e::es) [] pos) (fL g f):=⟨PE.weak (nQ hc hg hm hv ha.h hn hdb (bp (Jb _ _ ▸ hns).1) (cj (Jb _ _ ▸ hns).2)) (v8 lR)⟩
theorem kr{f:FX}{xT:Str}{p2:Pos}(ok:qD X.K T)(hg:Gl X "isinstance")(hm:X.mg "isinstance"=none)(hgT:Gl X xT)(hmT:X.mg xT=none)(hvT:Md xT=some (.type T))(he:XE X e f)(hn2:xT≠"__name__":=by decide)(hd2:(xT==("__debug__":Str))=false:=by decide)(hns:noStar e=true:=by rfl):XE X (.Call (.Name "isinstance" p) [e,.Name xT p2] [] pos) (fe T f):=⟨PE.weak (gu (ye ok) hg hm ji (dF he.h (dF (sJ (v:=.ty T) hgT hmT hvT rfl hn2 hd2) jQ (bp rfl)) (bp hns)) (by decide) (by decide) (bp hns) (cj rfl)) λσ H Q ⟨O,ρ,E,hF⟩=>⟨O,ρ,E,(dU.bind hF).imp λa hF v H1 s1 d1=>by
  obtain⟨d,e,q⟩:=dU.rO hF;obtain⟨h1,h2⟩:=bg e;subst h2;exact⟨O,v,a,rfl,h1,d1,q _ H1 s1 (fN.mpr rfl)⟩⟩⟩
end
section
variable[ax]{X:Cx}{a:LX}{f:FX}{pos:Pos}
theorem yH{j pos'}(h:XE X a f):XE X (.Compare a [.Is] [.Constant .none j pos'] pos) (pJ f):=⟨PE.weak (xu (v0 h.h)) λσ H Q q=>rX σ H Q q⟩
theorem v7{j pos'}(h:XE X a f):XE X (.Compare a [.IsNot] [.Constant .none j pos'] pos) (iQ f):=⟨PE.weak (xu (tN h.h)) λσ H Q q=>pL σ H Q q⟩
theorem zx{j pos'}(h:XE X a f):XT X (.Compare a [.Is] [.Constant .none j pos'] pos) (fB (pJ f)):=⟨PT.weak (xj (v0 h.h)) λσ H Q q=>jb (t:=λσ H Q=>tF X f σ H λv H'=>Q (.bl (decide (v=.non))) H') rX σ H Q q⟩
theorem wV{j pos'}(h:XE X a f):XT X (.Compare a [.IsNot] [.Constant .none j pos'] pos) (fB (iQ f)):=⟨PT.weak (xj (tN h.h)) λσ H Q q=>jb (t:=λσ H Q=>tF X f σ H λv H'=>Q (.bl (!decide (v=.non))) H') pL σ H Q q⟩
theorem uf(h:XE X a f)(he:∀whole,isTrue a X.env whole=(do let v<-whole;standAt a.pos;holding [v] (truthy v)):=by intro _;rfl):XT X a (bD f):=⟨PT.weak (yr h.h he) λσ H Q ⟨O,ρ,E,hF⟩=>⟨O,ρ,E,(dU.bind hF).imp λd hF x H1 s1 d1=>by
 obtain⟨r,hF,q⟩:=dU.rO hF;refine⟨r,?_,q H1 s1⟩;cases d with
 |non=>cases hF;rw[fu.mp d1];rfl
 |bl b=>cases hF;rw[fN.mp d1];rfl
 |int i=>cases hF;rw[dQ.mp d1];rfl
 |str y=>
  obtain⟨hz,e⟩:=bg hF;subst e;rw[dE.mp d1];refine⟨b8 hz,?_⟩;show(y.length !=0)=((y.length:Int) !=0)
  cases y.length<;>rfl
 |tup xs=>
  cases hF;obtain⟨p,vs,e,g1,g2⟩:=bA.mp d1;rw[e];refine .inr (.inl ⟨vs,bH (aB H1 O) g1,?_⟩);have l:=g2.length;cases xs<;>cases vs<;>first|rfl|(simp at l)
 |lst xs=>
  cases hF;obtain⟨p,vs,e,g1,g2⟩:=bz.mp d1;rw[e];refine .inl ⟨vs,(aB H1 O).seq g1,?_⟩;have l:=g2.length;cases xs<;>cases vs<;>first|rfl|(simp at l)
 |_=>cases hF⟩⟩
end
section
variable[ax]{X:Cx}{tg:LX}
theorem y9{e:LX}{f:FX}(h:XE X e f):XI X tg e (aY f):=by
 refine⟨?_⟩;rintro pins s σ H R I ⟨O,ρ,E,hG⟩;have hG':=dU.bind hG;cases hf:f ρ with
 |error z=>exact tG h.h pins s σ H R I ⟨O,ρ,E,by rw[hf]at hG' ⊢;cases z with|none=>exact hG'.elim|some x=>exact hG'⟩
 |ok d=>
  rw[hf]at hG';obtain⟨ds,e1,q⟩:=dU.rO (α:=List D) (o:=lK d) hG';cases d with
  |lst xs=>
   cases e1;refine tG h.h pins s σ H R I ⟨O,ρ,E,?_⟩;rw[hf];refine λv H1 s1 d1=>?_;obtain⟨p,vs,ev,g1,g2⟩:=bz.mp d1;exact⟨p,ev,⟨vs,(aB H1 O).seq g1⟩,q _ H1 s1 (tZ g1 g2)⟩
  |tup xs=>
   cases e1;refine C6 h.h pins s σ H R I ⟨O,ρ,E,?_⟩;rw[hf];refine λv H1 s1 d1=>?_;obtain⟨p,vs,ev,g1,g2⟩:=bA.mp d1;exact⟨p,ev,⟨vs,bH (aB H1 O) g1⟩,q _ H1 s1 (yx g1 g2)⟩
  |_=>cases e1
theorem rh{a:LX}{f:aP}{p pos:Pos}(hg:Gl X "range")(hm:X.mg "range"=none)(ha:XA X [a] f)(hs:Mj [a] X.env=[(false,eval a X.env)]:=by rfl):XI X tg (.Call (.Name "range" p) [a] [] pos) (aT f):=by
 refine⟨?_⟩;rintro pins s σ H R I ⟨O,ρ,E,hG⟩;refine uJ hg hm ha.h hs pins s σ H R I ⟨O,ρ,E,(dU.bind hG).imp λes hG' vs H1 s1 d1=>?_⟩;clear hG;obtain⟨ds,hG,q⟩:=dU.rO hG';clear hG';unfold cV at hG;split at hG
 ·rename_i j;obtain⟨h1,h2⟩:=bg hG;subst h2;obtain⟨j1,j2⟩:=of_decide_eq_true h1;obtain⟨v,ev,dv⟩:=d1.one;exact⟨j,by rw[ev,dQ.mp dv],j1,j2,q _ H1 s1 (rC 0 _)⟩
 ·cases hG
end
section
variable[ax]{X:Cx}{pos:Pos}
theorem xP{i:Nat}{x:Str}(hN:X.N.Nodup)(hi:X.N[i]?=some x)(hx:Loc X.env.scope x)(hf:X.fn x=true\/X.env.scope.names.lookup x=some .local:=by first|exact .inl rfl|exact .inr rfl|assumption):XG X (.Name x pos) (gN i):=by
 refine⟨?_⟩;rintro pins s σ H v u Q I r ⟨O,ρ,d,ρ',E,hd,hg,q⟩;cases hg;have hiσ:i<σ.length:=by rw[I.len];exact(List.getElem?_eq_some_iff.mp hi).1
 refine yQ hN hi hx hf pins s σ H v u Q I r (q _ (E.setV hiσ hd) λj x e nv=>?_);rcases aR e with⟨_,eq⟩|⟨ne,eq⟩
 ·cases eq;exact absurd rfl (nv _)
 ·exact⟨Ir (Ne.symm ne),eq⟩
theorem wC:BP X [] Bb:=by
 refine⟨?_⟩;rintro pins s σ H vs us Q I r ⟨O,ρ,ds,ρ',E,hd,hg,q⟩;cases ds with
 |nil=>
  cases hg;rw[bX]at hd;exact Az pins s σ H vs us Q I r ⟨hd,q _ E λi x e _=>⟨rfl,e⟩⟩
 |cons _ _=>cases hg
theorem tY{e:LX}{es:aZ}{g:GF}{h:yz}(h1:XG X e g)(h2:BP X es h)(hs:(assignEach (e::es) X.env).map (·.2)=assign e X.env::(assignEach es X.env).map (·.2):=by rfl):BP X (e::es) (xY g h):=by
 refine⟨?_⟩;rintro pins s σ H vs us Q I r ⟨O,ρ,ds,ρ',E,hd,hg,q⟩;cases ds with
 |nil=>cases hg
 |cons d ds=>
  obtain⟨ρ1,e1,e2⟩:=bind_some hg;rw[bn]at hd;obtain⟨v,vr,ev,d1,d2⟩:=hd;exact xA h1.h h2.h hs pins s σ H vs us Q I r ⟨v,vr,ev,O,ρ,d,ρ1,E,d1,e1,λσ1 E1 k1=>⟨O,ρ1,ds,ρ',E1,d2,e2,λσ2 E2 k2=>q σ2 E2 λi x e nv=>by
   obtain⟨a1,a2⟩:=k2 i x e nv;obtain⟨b1,b2⟩:=k1 i x a2 nv;exact⟨a1.trans b1,b2⟩⟩⟩
theorem yJ{es:aZ}{k:Nat}{g:yz}{n:Nat}(hc:X.calm=true)(h:BP X es g)(hn:(assignEach es X.env).length=n:=by rfl)(hst:(assignEach es X.env).findIdx? (·.1)=none:=by rfl):XG X (.Tuple es k pos) (gT n g):=by
 refine⟨?_⟩;rintro pins s σ H v u Q I r ⟨O,ρ,d,ρ',E,hd,hg,q⟩;cases d with
 |tup xs=>
  obtain⟨p,vs,ev,g1,g2⟩:=bA.mp hd;have hg':(if xs.length=n then g xs ρ else none)=some ρ':=hg;by_cases hl:xs.length=n
  ·rw[if_pos hl]at hg';exact Bx hc h.h hn hst pins s σ H v u Q I r ⟨p,vs,ev,bH (aB H O) g1,by rw[<-g2.length];exact hl,O,ρ,xs,ρ',E,g2,hg',q⟩
  ·rw[if_neg hl]at hg';cases hg'
 |_=>cases hg
end
section
variable[ax]
theorem xZ{X:Cx}:De X [] aU:=⟨λpins s σ H Q I ⟨O,ρ,E,q⟩=>As pins s σ H Q I (q H (aS.refl H))⟩
theorem vO{X:Cx}{c:LX}{F:bj}(h:XT X c F):De X [c] F:=⟨Ak h.h⟩
end
section
variable[ax]{X:Cx}{elt tg iter:LX}{ifs:aZ}{scope:Mg}{pos:Pos}{N:al}{ix:dL}{G:aP}{g:GF}{C:bj}{Fe:FX}
theorem BL(hc:X.calm=true)(ok:jq X scope N ix)(tk:ka ix g)(hi:XI X tg iter G)(hb:mj X scope N tg elt ifs g C Fe)(hs:∀x,My iter X.env x=pure x:=by intro _;rfl):XE X (.ListComp elt [⟨tg,iter,ifs,0⟩] scope pos) (cS ix G g C Fe):=⟨PE.weak (Bh hc ok.cell ok.kind ok.names ok.free ok.ix hi.h hb.h.k hs) (AJ tk)⟩
end
section
variable[ax]{X:Cx}{st:LY}{rest body:cH}{pos:Pos}
theorem xm:mW X [] aX:=⟨λHb Ob=>mR.weak rM λE σ H ⟨O,ρ,k,r,S,hF,hk⟩=>hk.nx O ρ σ H S hF⟩
theorem vp{F1 F2:bB}(h1:XS X st F1)(h2:mW X rest F2):mW X (st::rest) (ak F1 F2):=⟨λHb Ob=>mR.weak (lJ (h1.h Hb Ob) (h2.h Hb Ob)) λE σ H ⟨O,ρ,k,r,S,hF,hk⟩=>
 ⟨O,ρ,{k with nx:=F2 k},r,S,hF,hk.ne,λO' ρ' σ' H' S' e=>⟨O',ρ',k,r,S',e,hk⟩,hk.bk,hk.ct,hk.rt,hk.ex⟩⟩
theorem v6{F1:bB}(h1:XS X st F1):mW X [st] F1:=⟨λHb Ob=>pq (h1.h Hb Ob)⟩
theorem Ac{e:LX}{f:FX}(h:XE X e f):XS X (.Return (some e) pos) (aL f):=⟨λHb Ob=>PS.weak (CD h.h) λE σ H ⟨O,ρ,k,r,S,hF,hk⟩=>
 ⟨O,ρ,S.env,dU.on hF hk S λd e v H' s' d'=>hk.rt d O v H' e.symm (S.base.same' s') d'⟩⟩
theorem yh:XS X (.Pass pos) aX:=⟨λHb Ob=>PS.weak zg λE σ H ⟨O,ρ,k,r,S,hF,hk⟩=>hk.nx O ρ σ H S hF⟩
theorem AC{x j pos'}:XS X (.Expr (.Constant (.str x) j pos) pos') aX:=⟨λHb Ob=>PS.weak Cz λE σ H ⟨O,ρ,k,r,S,hF,hk⟩=>hk.nx O ρ σ H S hF⟩
theorem wc{e:LX}{f:FX}(h:XE X e f)(hs:swapsWith e none pos.line X.env=pure false:=by rfl):XS X (.Expr e pos) (pM f):=⟨λHb Ob=>PS.weak (sL h.h hs) λE σ H ⟨O,ρ,k,r,S,hF,hk⟩=>
 ⟨O,ρ,S.env,dU.on hF hk S λd e v H' s' d'=>hk.nx O ρ σ H' (S.same s') e⟩⟩
theorem Bz{c:LX}{a b:cH}{tc:bj}{A B:bB}(hc:XT X c tc)(ha:mW X a A)(hb:mW X b B):XS X (.If c a b pos) (cQ tc A B):=⟨λHb Ob=>PS.weak (Dj hc.h (ha.h Hb Ob) (hb.h Hb Ob)) λE σ H ⟨O,ρ,k,r,S,hF,hk⟩=>
 ⟨O,ρ,S.env,dU.on hF hk S fun z e H1 s1=>by
  cases z with
  |true=>exact pD ⟨O,ρ,k,r,S.same s1,e,hk⟩
  |false=>exact o4 ⟨O,ρ,k,r,S.same s1,e,hk⟩⟩⟩
theorem zy{i:Nat}{x:Str}{e:LX}{f:FX}{pos':Pos}(hN:X.N.Nodup)(hi:X.N[i]?=some x)(hx:Loc X.env.scope x)(he:XE X e f)(hs:swapsWith e (some (.Name x pos')) pos.line X.env=pure false:=by rfl)(hf:X.fn x=true\/X.env.scope.names.lookup x=some .local:=by first|exact .inl rfl|exact .inr rfl|assumption):XS X (.Assign [.Name x pos'] e pos) (aG i f):=⟨nM (List.getElem?_eq_some_iff.mp hi).1 (xt hN hi hx he.h hs hf)⟩
theorem C2{elt tg iter:LX}{ifs:aZ}{scope:Mg}{N:al}{ix:dL}{G:aP}{g:GF}{C:bj}{Fe:FX}{i:Nat}{y:Str}{lpos py spos:Pos}(hN:X.N.Nodup)(hi':X.N[i]?=some y)(hx:Loc X.env.scope y)(hc:X.calm=true)(ok:jq X scope N ix)(tk:ka ix g)(hi:XI X tg iter G)(hb:mj X scope N tg elt ifs g C Fe)(hsw:swapsWith (.ListComp elt [⟨tg,iter,ifs,0⟩] scope lpos) (some (.Name y py)) spos.line X.env=pure true:=by rfl)(hs:∀x,My iter X.env x=pure x:=by intro _;rfl)(hf:X.fn y=true\/X.env.scope.names.lookup y=some .local:=by first|exact .inl rfl|exact .inr rfl|assumption):XS X (.Assign [.Name y py] (.ListComp elt [⟨tg,iter,ifs,0⟩] scope lpos) spos) (aG i (cS ix G g C Fe)):=⟨nM (List.getElem?_eq_some_iff.mp hi').1 (PS.weak (Bc hN hi' hx hc ok.cell ok.kind ok.names ok.free ok.ix hi.h hb.h.k hsw hs hf) λE σ H q=>AJ tk σ H _ q)⟩
theorem uo{st:cH}{F:bB}(is:List Nat)(h:mW X st F):mW X st (dN is F):=⟨λHb Ob=>mR.weak (h.h Hb Ob) λE σ H ⟨O,ρ,k,r,S,hF,hk⟩=>⟨O,TG.kill is ρ,k,r,S.kill is,hF,hk⟩⟩
theorem yZ{tg iter:LX}{G:aP}{g:GF}{B:bB}(hp:Mt (model X.prog X.w) X.A X.env X.xe)(hc:X.calm=true)(hi:XI X tg iter G)(hg:XG X tg g)(hb:mW X body B)(hs:∀x,My iter X.env x=pure x:=by intro _;rfl):XS X (.For tg iter body [] pos) (lu G g B):=⟨λHb Ob pins s σ H E I ⟨O,ρ,k,r,S,hF,hk⟩=>by
 have hall:mR X body (λE σ H=>∃Hb',ED X Hb' Ob B E σ H):=λpins s σ H E I ⟨Hb',q⟩=>hb.h Hb' Ob pins s σ H E I q;refine CK hp hc hi.h hg.h hall hs pins s σ H E I ⟨O,ρ,S.env,dU.on hF hk S λds hF J H1 s1 wk=>?_⟩;have E1:=S.same s1;refine⟨λi m σ H=>m=ds.length-i/\i<=ds.length/\∃O' ρ',cM X.K (lb H1 O Ob) Ob O' H ρ' σ/\dg g B k (ds.drop i) ρ'=r,
  ⟨ds.length,by rw[JB],IK _,O,ρ,E1.loop,by rw[Jm];exact hF⟩,?_⟩
 rintro i m σ' H' ⟨rfl,hi',O',ρ',E',hr⟩;have sD:=wN E1.base E'.base;by_cases hlt:i<ds.length
 ·right;obtain⟨go,yl⟩:=(wk H' O' i E'.env.all sD).1 ds[i] (by simp[hlt]);refine⟨go,λσ2 H2=>ds.length-(i+1)=ds.length-(i+1)/\i+1<=ds.length/\∃O' ρ',cM X.K (lb H1 O Ob) Ob O' H2 ρ' σ2/\dg g B k (ds.drop (i+1)) ρ'=r,λσ2 H2 z=>⟨ds.length-(i+1),by omega,z⟩,λx H2 y=>?_⟩;obtain⟨s2,dx⟩:=yl x H2 y;have E':=E'.same s2;rw[JD hlt]at hr;cases hg':g ds[i] ρ' with
  |none=>
   have hr':(rO (g ds[i] ρ')).bind (λρ1=>B ⟨dg g B k (ds.drop (i+1)),k.nx,dg g B k (ds.drop (i+1)),k.ex⟩ ρ1)=r:=hr;rw[hg']at hr';exact absurd hr'.symm hk.ne
  |some ρ1=>
   have hr':(rO (g ds[i] ρ')).bind (λρ1=>B ⟨dg g B k (ds.drop (i+1)),k.nx,dg g B k (ds.drop (i+1)),k.ex⟩ ρ1)=r:=hr;rw[hg']at hr';refine⟨O',ρ',ds[i],ρ1,E'.env,dx,hg',λσ3 E3 own=>?_⟩;have E3':cM X.K (lb H1 O Ob) Ob O' H2 ρ1 σ3:=E'.after E3 own;exact⟨lb H1 O Ob,O',ρ1,⟨dg g B k (ds.drop (i+1)),k.nx,dg g B k (ds.drop (i+1)),k.ex⟩,r,E3',hr',hk.loop E1.base (λO4 ρ4 σ4 H4 E4 z=>⟨rfl,hlt,O4,ρ4,E4,z⟩) (λO4 ρ4 σ4 H4 E4 z=>⟨rfl,hlt,O4,ρ4,E4,z⟩) rfl rfl rfl rfl⟩
 ·left;have ei:i=ds.length:=by omega
  subst ei;refine⟨(wk H' O' ds.length E'.env.all sD).2 rfl,?_⟩;rw[List.drop_length]at hr;exact hk.nx O' ρ' σ' H' (E'.back E1.base) hr⟩
theorem uk{c:LX}{tc:bj}{B:bB}(n:Nat)(hp:Mt (model X.prog X.w) X.A X.env X.xe)(hc:XT X c tc)(hb:mW X body B):XS X (.While c body [] pos) (rd n tc B):=⟨λHb Ob pins s σ H E I ⟨O,ρ,k,r,S,hF,hk⟩=>by
 have hall:mR X body (λE σ H=>∃Hb',ED X Hb' Ob B E σ H):=λpins s σ H E I ⟨Hb',q⟩=>hb.h Hb' Ob pins s σ H E I q;refine we hp hc.h hall pins s σ H E I ⟨λm σ H'=>∃O' ρ',cM X.K (lb H O Ob) Ob O' H' ρ' σ/\fG tc B k m ρ'=r,⟨n,O,ρ,S.loop,hF⟩,?_⟩;rintro m σ' H' ⟨O',ρ',E',hr⟩;cases m with
 |zero=>exact absurd hr.symm hk.ne
 |succ m=>
  refine⟨O',ρ',E'.env,?_⟩;have hr':kF (tc ρ') k ρ' (λb=>if b then B ⟨fG tc B k m,k.nx,fG tc B k m,k.ex⟩ ρ' else k.nx ρ')=r:=hr;refine dU.on hr' hk (E'.back S.base) λb hr H1 s1=>?_;cases b with
  |true=>
   refine pD ⟨λσ2 H2=>∃O' ρ',cM X.K (lb H O Ob) Ob O' H2 ρ' σ2/\fG tc B k m ρ'=r,λσ2 H2 z=>⟨m,IJ m,z⟩,?_⟩;exact⟨lb H O Ob,O',ρ',⟨fG tc B k m,k.nx,fG tc B k m,k.ex⟩,r,E'.same s1,hr,hk.loop S.base (λO4 ρ4 σ4 H4 E4 z=>⟨O4,ρ4,E4,z⟩) (λO4 ρ4 σ4 H4 E4 z=>⟨O4,ρ4,E4,z⟩) rfl rfl rfl rfl⟩
  |false=>exact o4 (hk.nx O' ρ' σ' H1 ((E'.back S.base).same s1) hr)⟩
end
section
variable[ax]{X:Cx}{pos:Pos}
theorem zS{es:aZ}{g:aP}(h:XA X es g):XN X (.List es pos) (fP g):=⟨PE.weak (vP h.h) λσ H Q ⟨O,ρ,E,hF⟩=>⟨O,ρ,E,(dU.bind hF).imp λxs hF vs H1 s1 d1=>by
  obtain⟨d,e,q⟩:=dU.rO hF;obtain⟨hz,e⟩:=bg e;subst e;refine⟨by rw[<-d1.length];exact b8 hz,λp hp=>?_⟩;exact q p _ (s1.trans (bI hp _)) (s1.free hp) ⟨_,az,trivial⟩ (gf hp d1)⟩⟩
theorem xK{x:Str}{p:Pos}{e:LX}{f:aP}(hg:Gl X x)(hm:X.mg x=none)(hv:Md x=some (.type "list"))(ha:XA X [e] f)(hn:x≠"__name__":=by decide)(hdb:(x==("__debug__":Str))=false:=by decide)(hns:noStar e=true:=by rfl):XN X (.Call (.Name x p) [e] [] pos) (fL iT f):=⟨PE.weak (nQ fX hg hm hv ha.h hn hdb (bp hns) (cj rfl)) λσ H Q ⟨O,ρ,E,hF⟩=>⟨O,ρ,E,(dU.bind hF).imp λds hF vs H1 s1 d1=>by
  obtain⟨d,hg,q⟩:=dU.rO hF;unfold iT at hg;split at hg
  ·rename_i ys;cases hg;obtain⟨v,ev,h1⟩:=d1.one;rw[bz]at h1;obtain⟨p,ws,ep,g1,g2⟩:=h1;exact⟨p,ws,by rw[ev,ep],.inl ((aB H1 O).seq g1),λl hl=>q l _ (s1.trans (bI hl _)) (s1.free hl) ⟨_,az,trivial⟩ (gf hl g2)⟩
  ·rename_i ys;cases hg;obtain⟨v,ev,h1⟩:=d1.one;rw[bA]at h1;obtain⟨p,ws,ep,g1,g2⟩:=h1;exact⟨p,ws,by rw[ev,ep],.inr (bH (aB H1 O) g1),λl hl=>q l _ (s1.trans (bI hl _)) (s1.free hl) ⟨_,az,trivial⟩ (gf hl g2)⟩
  ·cases hg⟩⟩
theorem zH{i:Nat}{x:Str}{e:LX}{f:FX}{pos':Pos}(hN:X.N.Nodup)(hi:X.N[i]?=some x)(hx:Loc X.env.scope x)(he:XN X e f)(hs:swapsWith e (some (.Name x pos')) pos.line X.env=pure false:=by rfl)(hf:X.fn x=true\/X.env.scope.names.lookup x=some .local:=by first|exact .inl rfl|exact .inr rfl|assumption):XS X (.Assign [.Name x pos'] e pos) (kd i f):=⟨m9 (List.getElem?_eq_some_iff.mp hi).1 (xt hN hi hx he.h hs hf)⟩
end
section
variable[ax]
theorem uy{X:Cx}{elt tg iter:LX}{ifs:aZ}{scope:Mg}{N:al}{ix:dL}{G:aP}{g:GF}{C:bj}{Fe:FX}{i:Nat}{y:Str}{lpos py spos:Pos}(hN:X.N.Nodup)(hi':X.N[i]?=some y)(hx:Loc X.env.scope y)(hc:X.calm=true)(ok:jq X scope N ix)(tk:ka ix g)(hi:XI X tg iter G)(hb:mj X scope N tg elt ifs g C Fe)(hsw:swapsWith (.ListComp elt [⟨tg,iter,ifs,0⟩] scope lpos) (some (.Name y py)) spos.line X.env=pure true:=by rfl)(hs:∀x,My iter X.env x=pure x:=by intro _;rfl)(hf:X.fn y=true\/X.env.scope.names.lookup y=some .local:=by first|exact .inl rfl|exact .inr rfl|assumption):XS X (.Assign [.Name y py] (.ListComp elt [⟨tg,iter,ifs,0⟩] scope lpos) spos) (kd i (cS ix G g C Fe)):=⟨m9 (List.getElem?_eq_some_iff.mp hi').1 (PS.weak (Bc hN hi' hx hc ok.cell ok.kind ok.names ok.free ok.ix hi.h hb.h.k hsw hs hf) λE σ H q=>wr tk σ H _ (Be σ H _ q))⟩
theorem CJ{X:Cx}{elt tg iter:LX}{ifs:aZ}{scope:Mg}{pos:Pos}{N:al}{ix:dL}{G:aP}{g:GF}{C:bj}{Fe:FX}(hc:X.calm=true)(ok:jq X scope N ix)(tk:ka ix g)(hi:XI X tg iter G)(hb:mj X scope N tg elt ifs g C Fe)(hs:∀x,My iter X.env x=pure x:=by intro _;rfl):XN X (.ListComp elt [⟨tg,iter,ifs,0⟩] scope pos) (cS ix G g C Fe):=⟨PE.weak (Bh hc ok.cell ok.kind ok.names ok.free ok.ix hi.h hb.h.k hs) λσ H Q q=>wr tk σ H _ (Be σ H _ q)⟩
theorem wJ{X : Cx}{i : Nat}{x m : Str}{id : String}{r : V -> aE -> Hp -> VK -> Prop}{u : List D -> List D -> Option (List D)}{e : LX}{es : aZ}{f : aP}{npos apos cpos pos : Pos}(slot : Slot "list" m id)(hty : typeOf (.builtin id) = pure (.type "method_descriptor"))(hm : GH X id r)(ok : wM X.K r u)(hx : XV X (.Name x npos) i)(he : XA X (e :: es) f)(hbase : MG (.Name x npos) m X.env (eval (.Name x npos) X.env) = eval (.Name x npos) X.env := by rfl)(hfew : ((backTo cpos (Mj (e :: es) X.env)).all (fun x => !x.1) && (backToKw cpos (MJ [] X.env)).all (fun x => x.1.isSome)
      && decide ((e::es:aZ).length+([]:List M1).length+(if([]:List M1).isEmpty then 0 else 1)<30))=true:=by rfl)(hline:(apos.endLine==cpos.line)=true:=by rfl)(hs:Mj (e::es) X.env=(false,eval e X.env)::Mj es X.env:=by rfl)(hplain:(backTo cpos (Mj es X.env)).any (·.1)=false:=by rfl)(hsw:swapsWith (.Call (.Attribute (.Name x npos) m apos) (e::es) [] cpos) none pos.line X.env=pure false:=by rfl):XS X (.Expr (.Call (.Attribute (.Name x npos) m apos) (e::es) [] cpos) pos) (vt i u f):=⟨λHb Ob pins s σ H E I ⟨O,ρ,k,rr,S,hF,hk⟩=>by
  unfold vt at hF;split at hF
  · rename_i xs hxs
    obtain⟨a,ha,haO,hat⟩:=S.env.own i _ hxs;obtain⟨o,vs0,ho,eo,dn⟩:=hat;subst eo;refine sL (wt F.plainAttrs_list slot hty hm hx.h he.h hbase hfew hline hs hplain) hsw pins s σ H E I ⟨.ref a,ha,.inl ⟨rfl,vs0,ie.of ho⟩,O,ρ,S.env,dU.on hF hk S λds hr vs H1 s1 d1=>?_⟩;have S1:=S.same s1;cases hu1:u xs ds with
    |none=>rw[hu1]at hr;exact absurd hr.symm hk.ne
    |some ys=>
      rw[hu1]at hr;exact ok H1 O a xs ys ds vs0 vs _ S1.env.all haO (s1 _ _ ho) (dn.mono (bM s1)) d1 hu1 λws' v new=>hk.nx O _ σ _ (S1.setO hxs ha trivial (p9 haO new)) hr
  ·exact absurd hF.symm hk.ne⟩
theorem vB{X:Cx}{st:cH}{F:bB}(i:Nat)(h:mW X st F):mW X st (mq i F):=⟨λHb Ob=>mR.weak (h.h Hb Ob) λE σ H ⟨O,ρ,k,r,S,hF,hk⟩=>by
 obtain⟨O',S'⟩:=S.frz i;exact⟨O',TG.frz i ρ,k,r,S',hF,hk⟩⟩
theorem vC{X:Cx}{e:LX}{f:bj}(is:List Nat)(h:XT X e f):XT X e (jF is f):=⟨PT.weak h.h λσ H Q ⟨O,ρ,E,hF⟩=>by
 obtain⟨O',E'⟩:=E.frzs is;refine⟨O',TG.frzs is ρ,E',?_⟩;unfold jF at hF;cases hf:f (TG.frzs is ρ)with
 |error z=>rw[hf]at hF;exact hF.elim
 |ok d=>rw[hf]at hF;exact hF⟩
theorem qP{X:Cx}{k k':Nat}{ps:al}{g:cB}{h:aP}{x:Str}{p pos:Pos}{e:LX}{es:aZ}(C:Callee X.prog X.w X.K X.mg X.base k x ps g)(hn:Ar ps.length g)(hr:dI k' X.A)(hk:k<=k')(ha:XA X (e::es) h)(hg:Gl X x:=by rfl)(hdb:(x==("__debug__":Str))=false:=by decide)(hns:(e::es).all noStar=true:=by rfl):XE X (.Call (.Name x p) (e::es) [] pos) (fR g h):=by
 refine⟨?_⟩;obtain⟨f,fd,F,b,kp,m⟩:=C;exact PE.weak (yn F (hr.mono hk) hg m kp b ha.h hdb (bp (Jb _ _ ▸ hns).1) (cj (Jb _ _ ▸ hns).2)) (uq hn)
end
section
variable[ax]{X:Cx}{a b c:LX}{fa fb fc:FX}{pos:Pos}
theorem u9{op op':Mo}{r r':R2}{g g':D->D->bi}(ho:fO X (Mp op) r)(s:cp X.K r g)(ho':fO X (Mp op') r')(s':cp X.K r' g')(ha:XE X a fa)(hb:XE X b fb)(hc:XE X c fc)(hm:lastMarks [op,op'] [b,c]=false:=by with_unfolding_all rfl):XE X (.Compare a [op,op'] [b,c] pos) (fW g g' fa fb fc):=⟨PE.weak (vH ho ho' ha.h hb.h hc.h hm) (nh s s')⟩
theorem vc{op op':Mo}{r r':R2}{g g':D->D->bi}(ho:fO X (Mp op) r)(s:cp X.K r g)(ho':fO X (Mp op') r')(s':cp X.K r' g')(ha:XE X a fa)(hb:XE X b fb)(hc:XE X c fc)(hm:lastMarks [op,op'] [b,c]=false:=by with_unfolding_all rfl):XT X (.Compare a [op,op'] [b,c] pos) (fB (fW g g' fa fb fc)):=⟨PT.weak (xO ho ho' ha.h hb.h hc.h hm) (jb (nh s s'))⟩
theorem y8(ha:XE X a fa):XE X (.UnaryOp .USub a pos) (rq fa):=⟨PE.weak (Dv Ck ha.h) (CH λx d v O H Q _ e dv q=>by
 cases x with
 |int i=>cases e;exact⟨i,dQ.mp dv,q _ H (aS.refl H) (dQ.mpr rfl)⟩
 |_=>cases e)⟩
end
section
variable[ax]{X:Cx}
theorem Ae{a b:LX}{es:aZ}{k:Nat}{tpos:Pos}{f:aP}{p pos:Pos}(hg:Gl X "zip")(hm:X.mg "zip"=none)(ha:XA X [a,b] f)(hs:Mj [a,b] X.env=(false,eval a X.env)::Mj [b] X.env:=by rfl)(hpl:(backTo pos (Mj [b] X.env)).any (·.1)=false:=by rfl):XI X (.Tuple es k tpos) (.Call (.Name "zip" p) [a,b] [] pos) (qe f):=by
 refine⟨?_⟩;rintro pins s σ H RR I ⟨O,ρ,E,hG⟩;have hA:=ha.h pos pins s σ H (λvs H1=>∃ds r,uc ds=some r/\aN X.K (hid H1 O) ds vs/\∀J,Walk X.K (hid H1 O) J r->RR J H1) I ⟨O,ρ,E,(dU.bind hG).imp λds hG vs H1 s1 d1=>by
  obtain⟨r,e,q⟩:=dU.rO hG;exact⟨ds,r,e,d1,λJ wk=>q J H1 s1 wk⟩⟩
 refine LA (jx I hg hm PyProof.Rows.boot_zip (Lw (ca hA λus s1 ⟨vs,H1,I1,r1,ds,r,er,d1,q⟩=>?_) hs hpl));exact Cm I1 er d1 r1 q
theorem mC{a:LX}{es:aZ}{k:Nat}{tpos:Pos}{f:aP}{p pos:Pos}(hg:Gl X "enumerate")(hm:X.mg "enumerate"=none)(ha:XA X [a] f)(hs:Mj [a] X.env=(false,eval a X.env)::Mj [] X.env:=by rfl)(hpl:(backTo pos (Mj [] X.env)).any (·.1)=false:=by rfl):XI X (.Tuple es k tpos) (.Call (.Name "enumerate" p) [a] [] pos) (fV f):=by
 refine⟨?_⟩;rintro pins s σ H RR I ⟨O,ρ,E,hG⟩;have hA:=ha.h pos pins s σ H (λvs H1=>∃ds r,mP ds=some r/\aN X.K (hid H1 O) ds vs/\∀J,Walk X.K (hid H1 O) J r->RR J H1) I ⟨O,ρ,E,(dU.bind hG).imp λds hG vs H1 s1 d1=>by
  obtain⟨r,e,q⟩:=dU.rO hG;exact⟨ds,r,e,d1,λJ wk=>q J H1 s1 wk⟩⟩
 refine LA (jx I hg hm PyProof.Rows.boot_enumerate (Lw (ca hA λus s1 ⟨vs,H1,I1,r1,ds,r,er,d1,q⟩=>?_) hs hpl));exact Ab I1 er d1 r1 q
end
section
variable[ax]{X:Cx}{a o e:LX}{es:aZ}{fa fo:FX}{fas:aP}{f m x:Str}{cs:al}{pos apos p:Pos}{k k':Nat}{ps:al}
theorem yG(ok:pK X.K f cs)(h:XE X a fa)(hb:MG a f X.env (eval a X.env)=eval a X.env:=by rfl):XE X (.Attribute a f pos) (f1 (uP f cs) fa):=⟨PE.weak (CF h.h hb) λσ H Q ⟨O,ρ,E,hF⟩=>⟨O,ρ,E,(dU.bind hF).imp λd hF v H1 s1 d1=>by
  obtain⟨r,e,q⟩:=dU.rO hF;cases d with
  |obj c fs vs=>
   have e':(if cs.contains c then(fs.zip vs).lookup f else none)=some r:=e;cases hc:cs.contains c with
   |false=>rw[hc]at e';cases e'
   |true=>
    rw[hc]at e';obtain⟨a,ws,ev,g1,g2,C,dx,g3,g4⟩:=Fc.mp d1;obtain⟨w,l1,l2⟩:=ir g1 e';obtain⟨cl,na⟩:=ok c (List.contains_iff_mem.mp hc) C g3;exact⟨a,C,dx,_,w,ev,aB H1 O _ _ g4,cl,na,l1,q w H1 s1 l2⟩
  |_=>cases e⟩⟩
theorem wa{tbl : List (Str × (cB))}{pl : Sem Bool}(tb : kY X.prog X.w X.K X.mg X.base k m ps tbl)(hr : dI k' X.A)(hk : k <= k')(ho : XE X o fo)(ha : XA X (e :: es) fas)(hns : (e :: es).all noStar = true := by rfl)(ht : eval (.Call (.Attribute o m apos) (e :: es) [] pos) X.env = (do
      let ov<-eval o X.env
      standAt apos.atName
      let (f,first)<-holding [ov] (getMethod ov m pl)
      MI pos f first (backTo pos (Mj (e::es) X.env)) (backToKw pos (MJ [] X.env))):=by rfl):XE X (.Call (.Attribute o m apos) (e::es) [] pos) (j8 m tbl fo fas):=⟨pN tb (hr.mono hk) ho.h (λpins s1 σ H1 O ρ a f od Q g fd _ kp F b ar I1 E1 dO hP=>by
    refine KU (first:=[.ref a]) (h₀:=X.base) I1.ok.mod.kin kp (ca (ha.h pos pins s1 σ H1 _ I1 ⟨O,ρ,E1,(dU.bind hP).imp λas hP vs H2 s2 d2=>ly (vs:=.ref a::vs) ar (E1.all.same s2) (bn.mpr ⟨_,_,rfl,dO.mono (bM s2),d2⟩) ((hP.mono s2).imp λd q v H3 s3 d3=>q v H3 (s2.trans s3) d3)⟩) λus s2 ⟨vs,H2,I2,r,Ex,hx,q2⟩=>⟨I2.kIn,?_⟩) (bp (Jb _ _ ▸ hns).1) (cj (Jb _ _ ▸ hns).2);exact oA (us:=.ref a::us) (vs:=.ref a::vs) F (hr.mono hk) b hx I2 (.cons rfl r) q2) ht⟩
theorem uA{tbl : List (Str × (cB))}{pl : Sem Bool}(tb : kY X.prog X.w X.K X.mg X.base k m ps tbl)(hr : dI k' X.A)(hk : k <= k')(ho : XE X o fo)(ht : eval (.Call (.Attribute o m apos) [] [] pos) X.env = (do
      let ov<-eval o X.env
      standAt apos.atName
      let (f,first)<-holding [ov] (getMethod ov m pl)
      MI pos f first (backTo pos (Mj [] X.env)) (backToKw pos (MJ [] X.env))):=by rfl):XE X (.Call (.Attribute o m apos) [] [] pos) (j8 m tbl fo ah):=⟨pN tb (hr.mono hk) ho.h (λpins s1 σ H1 O ρ a f od Q g fd _ kp F b ar I1 E1 dO hP=>by
    have hP':dU X σ O H1 (g [od]) λd=>∀v H',aS H1 H'->bQ X.K (hid H' O) d v->Q v H':=hP;obtain⟨Ex,hx,q2⟩:=ly (vs:=[.ref a]) ar E1.all (bn.mpr ⟨_,_,rfl,dO,bX.mpr rfl⟩) hP';exact PySem.W.callWith_K0 (first:=[.ref a]) I1.kIn kp (oA (us:=[.ref a]) (vs:=[.ref a]) F (hr.mono hk) b hx I1 (.cons rfl .nil) q2)) ht⟩
theorem yF{c:Str}{fs:al}(IA:oC X.prog X.w X.K X.mg X.base k c ps fs)(hr:dI k' X.A)(hk:k+1<=k')(hg:Gl X c)(ha:XA X (e::es) fas)(hdb:(c==("__debug__":Str))=false:=by decide)(hns:(e::es).all noStar=true:=by rfl):XE X (.Call (.Name c p) (e::es) [] pos) (fNew c fs fas):=by
 refine⟨?_⟩;obtain⟨C,f,fd,h1,h2,h3,h4,h5⟩:=IA;refine PE.weak (Ao (dvs:=[]) (E:=E0) h2 h3 (hr.mono hk) hg h5 h4 .nil AQ ha.h hdb (bp (Jb _ _ ▸ hns).1) (cj (Jb _ _ ▸ hns).2)) λσ H Q ⟨O,ρ,E,hF⟩=>⟨O,ρ,E,(dU.bind hF).imp λas hF vs H1 s1 d1 x dx hx hd ne=>?_⟩
 by_cases hl:as.length=fs.length
 ·rw[if_pos hl]at hF;rw[IL];refine⟨x,dx,vs,rfl,by rw[<-d1.length,hl],by rw[az],rfl,?_⟩;obtain⟨sm,dn⟩:=pW h1 hl d1 (E.all.same s1) hx hd ne;exact hF _ _ (s1.trans sm) dn
 ·rw[if_neg hl]at hF;exact hF.elim
end
section
variable[ax]{X:Cx}
theorem yo{a e : LX}{es : aZ}{fa : FX}{fs : aP}{apos cpos : Pos}(ha : XE X a fa)(hs : XA X (e :: es) fs)(hbase : MG a "join" X.env (eval a X.env) = eval a X.env := by rfl)(hfew : ((backTo cpos (Mj (e :: es) X.env)).all (fun x => !x.1) && (backToKw cpos (MJ [] X.env)).all (fun x => x.1.isSome)
      && decide ((e::es).length+([]:List M1).length+(if([]:List M1).isEmpty then 0 else 1)<30))=true:=by rfl)(hline:(apos.endLine==cpos.line)=true:=by rfl)(hst:Mj (e::es) X.env=(false,eval e X.env)::Mj es X.env:=by rfl)(hplain:(backTo cpos (Mj es X.env)).any (·.1)=false:=by rfl):XE X (.Call (.Attribute a "join" apos) (e::es) [] cpos) (f7 fa fs):=⟨PE.weak (wt F.plainAttrs_str F.slot_str_join F.type_str_join AF ha.h hs.h hbase hfew hline hst hplain) λσ H Q ⟨O,ρ,E,hF⟩=>⟨O,ρ,E,(dU.bind hF).imp λx hF v H1 s1 d1=>by
    obtain⟨z,ez,hF⟩:=dU.rO (dU.bind hF);rw[zp ez d1];exact⟨rfl,O,ρ,E.same s1,((dU.bind hF).mono s1).imp λds hF vs H2 s2 d2=>by
      obtain⟨d,e,q⟩:=dU.rO hF;exact nZ e d2 λw dw=>q w H2 (s1.trans s2) dw⟩⟩⟩
end
section
variable[ax]{X:Cx}{pos:Pos}
theorem uC{x:Str}{e:LX}{es:aZ}{f:aP}{np cpos:Pos}(hc:X.calm=true)(hx:ExcAt X.K X.mg x)(hg:Gl X x)(ha:XA X (e::es) f)(hdb:(x==("__debug__":Str))=false:=by decide)(hns:(e::es).all noStar=true:=by rfl):XS X (.Raise (some (.Call (.Name x np) (e::es) [] cpos)) none pos) (jJ x f):=⟨λHb Ob pins s σ H E I ⟨O,ρ,k,r,S,hF,hk⟩=>by
 obtain⟨C,cl,hm,hi⟩:=hx;obtain⟨tl,N,nm,q,bs,hdct,sn,sub,ab,col,dd,k0,k1,k2,k3,k5,mN,hC,hN,hni,T⟩:=(z8 I.mod.kin hi x).obj;have st:Mj (e::es) X.env=_:=bp (Jb _ _ ▸ hns).1;have plain:(backTo cpos (Mj (e::es) X.env)).any (·.1)=false:=cj hns;refine wpAny_Raise_call_subT (k5:=k5) (k3:=k3) (k2:=k2) (k1:=k1) (k0:=k0) (dd:=dd) (col:=col) (ab:=ab) (sub:=sub) (sn:=sn) (hdct:=hdct) (bs:=bs) (N:=N) (q:=q) (nm:=nm) LR (mN:=mN) (T.hasType PySem.F.excBase_ValueError.hasBase) (I.ok.hd hc) plain hni (hW I hg hm ⟨rfl,?_⟩ hdb);have A1:=ha.h cpos pins s σ H (λvs H1=>vs.length<=L9/\aS H H1/\k.ex ⟨x,[],[]⟩ ρ=r) I ⟨O,ρ,S.env,dU.on hF hk S λds e vs H' s' d'=>by
  have z:small ds.length=true:=by
   cases z:small ds.length with
   |true=>rfl
   |false=>rw[z]at e;exact absurd e.symm hk.ne
  rw[z]at e;exact⟨by rw[<-d'.length];exact b8 z,s',e⟩⟩
 rw[st]at A1 ⊢;refine Calls.evalArgs_plain (ca A1 λus s2 ⟨vs,H1,I1,rv,q1,q2,q3⟩=>⟨rfl,by rw[<-rv.length];exact q1,I1.bk _ _ hC,hN.keeps I1.bk,T.keeps I1.bk,λh' a m=>?_⟩);exact hk.ex O ρ σ H1 _ (S.same q2) q3 pins _ _ H1 (I1.kept (t':=s2.toks) m.keeps) (aS.refl H1) ⟨a,C,none,rfl,⟨cl,[],bX.mpr rfl,rfl,.inl rfl⟩,wF I1 m⟩⟩
end
section
variable[ax]{X:Cx}{p pos:Pos}{e:LX}
theorem wd{f:FX}{x:Str}{p2:Pos}{tbl:ia}(h:ce X.K X.mg x tbl)(hg:Gl X "isinstance")(hm:X.mg "isinstance"=none)(hgx:Gl X x)(he:XE X e f)(hd2:(x==("__debug__":Str))=false:=by decide)(hns:noStar e=true:=by rfl):XE X (.Call (.Name "isinstance" p) [e,.Name x p2] [] pos) (f1 (dP tbl) f):=by
 refine⟨?_⟩;obtain⟨C,hC,h⟩:=h;exact PE.weak (gu (mV (tv:=.ref C) (T:=.ref C) λu r=>r) hg hm ji (dF he.h (dF (sM (v:=.ref C) hgx hC rfl hd2) jQ (bp rfl)) (bp hns)) (by decide) (by decide) (bp hns) (cj rfl)) (A4 h)
theorem uL{f:FX}{x:Str}{T:String}{p2:Pos}{tbl:ia}(h:qa X.K (.type T) tbl)(hg:Gl X "isinstance")(hm:X.mg "isinstance"=none)(hgx:Gl X x)(hmx:X.mg x=none)(hv:Md x=some (.type T))(he:XE X e f)(hn2:x≠"__name__":=by decide)(hd2:(x==("__debug__":Str))=false:=by decide)(hns:noStar e=true:=by rfl):XE X (.Call (.Name "isinstance" p) [e,.Name x p2] [] pos) (f1 (dP tbl) f):=⟨PE.weak (gu (mV (tv:=.ty T) (T:=.type T) λu r=>r) hg hm ji (dF he.h (dF (sJ (v:=.ty T) hgx hmx hv rfl hn2 hd2) jQ (bp rfl)) (bp hns)) (by decide) (by decide) (bp hns) (cj rfl)) (A4 h)⟩
theorem xL{f:FX}{k:_}{p2:Pos}{es:aZ}{tbl:ia}{tbls:List ia}(hl:vR X es (tbl::tbls))(hs:es.length<=1000)(hg:Gl X "isinstance")(hm:X.mg "isinstance"=none)(he:XE X e f)(hns:noStar e=true:=by rfl):XE X (.Call (.Name "isinstance" p) [e,.Tuple es k p2] [] pos) (f1 (tI (tbl::tbls)) f):=by
 refine⟨?_⟩;obtain⟨cs,hlen,hp,ha⟩:=An hl;refine PE.weak (gu (ve (cs:=cs)) hg hm ji (dF he.h (dF (wD hp) jQ (bp rfl)) (bp hns)) (by decide) (by decide) (bp hns) (cj rfl)) λσ H Q ⟨O,ρ,E,hF⟩=>⟨O,ρ,E,(dU.bind hF).imp λa hF v H1 s1 d1=>?_⟩
 obtain⟨d,e,q⟩:=dU.rO hF;unfold tI at e;split at e
 ·rename_i c fs0 vs0;cases e2:ur c (tbl::tbls)with
  |none=>rw[e2]at e;cases e
  |some b=>
   rw[e2]at e;cases e;obtain⟨a,ws,rfl,_,_,D,dx,hcl,hx,_⟩:=EC.mp d1;have F:iB X.K D:=by
    cases hl with
    |cons h _ _ _=>
     obtain⟨C,_,hk⟩:=h;unfold ur at e2;split at e2
     ·rename_i z;exact(hk c _ z D hcl).1
     ·rename_i z;exact(hk c _ z D hcl).1
     ·cases e2
   have hx':H1 a=some (.ext (jL D a dx)):=aB _ _ _ _ hx;refine⟨by rw[IH,hlen];exact b8 (cI ‹0›),λt ht=>⟨a,t,D,dx,b,rfl,?_,az,F,ha c b e2 D hcl,q _ _ (s1.trans (bI ht _)) (fN.mpr rfl)⟩⟩;rw[au (aM hx' ht)];exact hx'
 ·cases e
theorem u6{a e : LX}{fa : FX}{fs : aP}{apos cpos : Pos}(hu : X.A.units + 64 < MK)(ha : XE X a fa)(hs : XA X [e] fs)(hbase : MG a "index" X.env (eval a X.env) = eval a X.env := by rfl)(hfew : ((backTo cpos (Mj [e] X.env)).all (fun x => !x.1) && (backToKw cpos (MJ [] X.env)).all (fun x => x.1.isSome)
      && decide (([e]:aZ).length+([]:List M1).length+(if([]:List M1).isEmpty then 0 else 1)<30))=true:=by rfl)(hline:(apos.endLine==cpos.line)=true:=by rfl)(hst:Mj [e] X.env=(false,eval e X.env)::Mj [] X.env:=by rfl)(hplain:(backTo cpos (Mj [] X.env)).any (·.1)=false:=by rfl):XE X (.Call (.Attribute a "index" apos) [e] [] cpos) (jH fa fs):=⟨PE.weak (wt PySem.F.plainAttrs_list LQ PySem.F.type_list_index (wg hu) ha.h hs.h hbase hfew hline hst hplain) λσ H Q ⟨O,ρ,E,hF⟩=>⟨O,ρ,E,(dU.bind hF).imp λx hF v H1 s1 d1=>by
    cases x with
    |lst ys=>
      obtain⟨p,vs,rfl,g1,g2⟩:=bz.mp d1;have g1':=(aB H1 O).seq g1;refine⟨.inl ⟨rfl,vs,g1'⟩,O,ρ,E.same s1,((dU.bind hF).mono s1).imp λds hF ws H2 s2 d2=>?_⟩
      match ds,hF,d2 with
      |[b],hF,d2=>
        obtain⟨w,rfl,db⟩:=d2.one;obtain⟨d,e,q⟩:=dU.rO hF;refine⟨H1,p,ys,vs,b,w,d,s2,rfl,rfl,g1',(g2.mono (aB H1 O)).mono s2,db.mono (aB H2 O),e,λw' dw=>q w' H2 (s1.trans s2) ?_⟩;have hg':(if(pl b&&dk ys)&&a9 8 b then(kc b ys).map (λ(j:Nat)=>D.int (j:Int))else none)=some d:=e;split at hg'
        · obtain⟨j,_,ed⟩:=Option.map_eq_some_iff.mp hg'
          subst ed;exact dQ.mpr (dQ.mp dw)
        ·cases hg'
      |[],hF,_=>exact hF.elim
      |_::_::_,hF,_=>exact hF.elim
    |_=>exact hF.elim⟩⟩
end
section
variable[ax]
theorem rG{X:Cx}{pos:Pos}{x:Str}{e:LX}{es:aZ}{f:aP}{np cpos:Pos}{k k':Nat}{ps fs:al}(hc:X.calm=true)(hx:X.ex=[])(RA:ku X.prog X.w X.K X.mg X.base k x ps fs)(hr:dI k' X.A)(hk':k+1<=k')(hg:Gl X x)(ha:XA X (e::es) f)(hdb:(x==("__debug__":Str))=false:=by decide)(hns:(e::es).all noStar=true:=by rfl):XS X (.Raise (some (.Call (.Name x np) (e::es) [] cpos)) none pos) (ky x fs f):=⟨λHb Ob pins s σ H D I h=>by
 obtain⟨O,ρ,k1,r,S,hF,hk⟩:=h;obtain⟨C,fI,fd,cl,EI,F,hb,hm⟩:=RA;obtain⟨nm,q,N,bs,bm,hdct,sn,sub,ab,col,dd,l0,l1,l2,l3,l5,hcls⟩:=EI.cls;have st:Mj (e::es) X.env=_:=bp (Jb _ _ ▸ hns).1;rw[arm_exec_Raise];have hT:=(hcls _ I.kIn).2.2;refine Mw (M2 (qY (C:=C) (nm:=nm) (q:=q) (N:=N) (bs:=bs) (bm:=bm) (hdct:=hdct) (sn:=sn) (sub:=sub) (ab:=ab) (col:=col) (dd:=dd) (k0:=l0) (k1:=l1) (k2:=l2) (k3:=l3) (k5:=l5) (newId:="ValueError.__new__") (hT.hasType PySem.F.excBase_ValueError.hasBase) (I.ok.hd hc) ?_));refine Mw (Ml ?_ (λv s' z=>Mw (M2 (Mv z))) λ_ _ z=>z);refine MP (hW I hg hm ?_ hdb);have A1:=ha.h cpos pins s σ H (λvs H1=>∃ds,vs.length=fs.length/\vs.length<=L9/\aS H H1/\aN X.K (hid H1 O) ds vs/\k1.ex ⟨x,fs,ds⟩ ρ=r) I ⟨O,ρ,S.env,dU.on hF hk S λds e vs H' s' d'=>by
  cases z:(small ds.length&&ds.length==fs.length)with
  |false=>rw[z]at e;exact absurd e.symm hk.ne
  |true=>
   rw[z]at e;rw[Jb,beq_iff_eq]at z;exact⟨ds,by rw[<-d'.length];exact z.2,by rw[<-d'.length];exact b8 z.1,s',d',e⟩⟩
 refine KU (h₀:=X.base) I.ok.mod.kin EI.kp (ca A1 λus s1 h1=>?_) st (cj (Jb _ _ ▸ hns).2);obtain⟨vs,H1,I1,rv,ds,hl,hz,sm,dn,hex⟩:=h1;refine⟨I1.kIn,?_⟩;obtain⟨hC,⟨mN,hN,hi⟩,T⟩:=hcls _ I1.kIn;obtain⟨oI,hoI,hcI⟩:∃o,s1.heap.get? fI=some o/\o.cls=.type "function":=by
  have z:(X.K.lookup fI).map (·.cls)=some (.type "function"):=EI.fn;cases y:X.K.lookup fI with
  |none=>rw[y]at z;cases z
  |some o=>rw[y]at z;exact⟨o,I1.kIn _ _ y,Option.some.inj z⟩
 refine ml (h:=s1.heap) (g:=s1.gens) (d:=s1.drawn) (t:=s1.toks) (os:=s1.os) LR (by decide +kernel) LR T hC hN hi hoI hcI (λh' ee m=>?_) (show us.length<=L9 by rw[<-rv.length];exact hz);obtain⟨t,m1,m2,m3⟩:=m.there;have nf:=nw I1 hx m.new;have I2:=adopt (ob:=.ext (mB C ee t)) (I1.kept (t':=s1.toks) m.keeps) nf.1 nf.2.1 nf.2.2.1 nf.2.2.2.1 nf.2.2.2.2 (zi ⟨_,m1,rfl,rfl,rfl⟩);have r2:Vals (V.ref ee::vs) (Value.ref ee::us):=.cons rfl rv;have dne:∀d,upd H1 ee (.ext (mB C ee t)) d=none->d≠ee:=λd z w=>by rw[w,az]at z;cases z
 have spec:G3 C fs (V.ref ee::vs) (upd H1 ee (.ext (mB C ee t))) (λv H3=>v=.non/\∃d,H1 d=none/\d≠ee/\H3=upd (upd H1 d (.own ee)) ee (.ext (eQ C ee t d (fs.zip vs)))) E0:=⟨ee,t,vs,rfl,hl,az,λd hd ne=>⟨rfl,d,by rw[au ne]at hd;exact hd,ne,by
  funext b;by_cases z:b=ee
  ·rw[z,az,az]
  ·rw[au z,au z];by_cases y:b=d
   ·rw[y,az,az]
   ·rw[au y,au z,au y]⟩⟩
 have hlen:(Value.ref ee::us++[]).length=ps.length:=by
  have:=r2.length
  rw[F.len _ _ _ _ spec]at this;rw[IL];exact this.symm
 have hb':=hb {s1 with heap:=h'} (Value.ref ee::us) I2.kIn hlen;rw[IL]at hb';refine MN (MO (F.run _ X.stack _ _ ⟨Value.ref ee::us,[]⟩ (Value.ref ee::us) _ _ E0 ((hr.mono hk').make C us []) (I2.env0.make C us []) hb' r2 spec) λr s' hq'=>?_);cases r with
 |error e=>exact AQ pins σ _ _ e s' I2 hq'
 |ok fl=>
  cases fl with
  |ret u=>
   obtain⟨v,H',I3,rv',⟨ev,d,hd,ne,eH⟩⟩:=I2.after hq';subst ev eH;refine⟨rv',?_⟩;obtain⟨I4,fl,sl,he⟩:=Aj I1 hx m.new hd I3;have s14:aS H1 (upd H1 d (.xd (fs.zip vs))):=λb o z=>by rw[au (aM z hd)];exact z
   have dO:d∉O:=(S.env.all.same sm).not hd;exact⟨ee,t,some d,sl,rfl,(hcls _ I4.kIn).1,he,hk.ex O ρ σ _ _ (S.same (sm.trans s14)) hex pins s' _ _ I4 (aS.refl _) ⟨ee,C,some d,rfl,⟨cl,vs,dn.mono (bM s14),hl.symm,.inr ⟨d,rfl,by rw[iu dO];exact az⟩⟩,fl⟩⟩
  |next=>exact False.elim hq'
  |brk=>exact False.elim hq'
  |cont=>exact False.elim hq'⟩
end
section
variable[ax]{X:Cx}{pos:Pos}{a:LX}{fa:FX}{f:Str}{cs:al}
theorem yw(ok:mF X.K f cs)(h:XE X a fa)(hb:MG a f X.env (eval a X.env)=eval a X.env:=by rfl):XE X (.Attribute a f pos) (f1 (fZ f cs) fa):=⟨PE.weak (Am h.h hb) λσ H Q q=>by
  obtain⟨O,ρ,E,hF⟩:=q;refine⟨O,ρ,E,(dU.bind hF).imp λdd hF v H1 s1 d1=>?_⟩;obtain⟨d,e,q⟩:=dU.rO hF;unfold fZ at e;split at e
  ·rename_i c fs vs;obtain⟨hc,e⟩:cs.contains c=true/\(fs.zip vs).lookup f=some d:=by
    cases z:cs.contains c with
    |true=>rw[z]at e;exact⟨rfl,e⟩
    |false=>rw[z]at e;cases e
   obtain⟨ea,ws,rfl,d2,d3,C,dx,cl,he,hx⟩:=EC.mp d1;obtain⟨F,n,hd⟩:=ok c (List.contains_iff_mem.mp hc) C cl;obtain⟨w,l,dw⟩:=ir d2 e;rcases hx with hx|⟨dd,rfl,hxd⟩
   ·subst hx;cases e
   ·exact⟨ea,C,dd,fs.zip ws,w,rfl,aB _ _ _ _ he,aB _ _ _ _ hxd,F,n,hd,l,q w H1 s1 dw⟩
  ·cases e⟩
end
theorem z7{X:Cx}{pos:Pos}{body suite:cH}{b₀:LY}{g n:Str}{gp hpos:Pos}{F Fh:bB}{cs:al}{i:Nat}(hx:X.ex=[])(hst:X.stack=X.env::X.outer)(hf:X.env.frame=some X.env.locals)(hfn:∀x,X.fn x=true)
  (hT:pS X.K X.mg g cs) (hg:Gl X g) (hN:X.N.Nodup) (hi:X.N[i]?=some n) (hl:X.env.scope.names.lookup n=some .local)
  (hb:∀E pn,Mt (model X.prog X.w) X.A X.env E->mW (p6 X E pn) body F) (hs:∀A pn,A.depth=X.A.depth->A.units=X.A.units->mW (me X A pn) (b₀::suite) Fh) (hdb:(g==("__debug__":Str))=false:=by decide):
  XS X (.Try body [.ExceptHandler (some (.Name g gp)) (some n) (b₀::suite) hpos] [] [] pos) (wx cs i F Fh):=⟨TG.Gj hx hst hf hfn hT hg hN hi hl (λE pn hp=>(hb E pn hp).h) (λA pn h1 h2=>(hs A pn h1 h2).h) hdb⟩
noncomputable abbrev Lk(K:Ky)(f:LW)(nm qual:Str)(st:LY)(oc:LU)(od:Option LW)(kV dc pm:LU)(an:Option LW)(cd ct:LU)(sl:Array (Option LU)):Prop:=K.lookup f=some ⟨oc,od,.func (KY nm qual (fE st) (cO st) (aH st) .none kV dc pm an cd ct),sl⟩
structure sI(P:L7)(w:L6)(K:Ky)(mg:bK)(base:L8)(k:Nat)(N:al)(qual:Str)(st:LY)(f:LW)(B:bB):Prop where
 h:∀(cdv:LU)(A:Mf)(outer:List Env)(s:LZ)(H:Hp)(E:XK),dI k (A.deeper (Ly qual (aH st) s.heap.objs.size f cdv))->Mt (model P w) (A.deeper (Ly qual (aH st) s.heap.objs.size f cdv)) (Ly qual (aH st) s.heap.objs.size f cdv) (gd (jd P w) P w K mg base N qual (aH st) f cdv A outer s H E).xe->
  mW (gd (jd P w) P w K mg base N qual (aH st) f cdv A outer s H E) (cO st) B
theorem sI.ok{P:L7}{w:L6}{K:Ky}{mg:bK}{base:L8}{k:Nat}{N:al}{qual:Str}{st:LY}{f:LW}{B:bB}(h:sI P w K mg base k N qual st f B):BodyOk P w K mg base k N qual st f B:=⟨λcdv A outer s H E hr hp=>(h.h cdv A outer s H E hr hp).h⟩
section
variable{X:Cx}{x:Str}{pos:Pos}
theorem xw(i:Nat)(hN:X.N[i]?=some x:=by rfl)(hv:Bp X.env.scope x:=by first|exact Or.inl rfl|exact Or.inr (Or.inl rfl)|exact Or.inr (Or.inr rfl))(hd:(x==("__debug__":Str))=false:=by decide)(hcd:(x==("__classdict__":Str))=false:=by decide):XE X (.Name x pos) (aa i):=zt (xv i hN hv hd hcd)
theorem xi{a b:LX}{fa fb:FX}(ha:XE X a fa)(hb:XE X b fb)(hs:og b:=by exact λ_ _=>rfl):XE X (.Subscript a b pos) (f2 ai fa fb):=B4 ha hb hs
theorem xa1{e:LX}{f:FX}(he:XE X e f)(h:noStar e=true:=by rfl):XA X [e] (af f ah):=lZ he sq h
theorem xa2{e e':LX}{f f':FX}(he:XE X e f)(he':XE X e' f')(h:noStar e=true:=by rfl)(h':noStar e'=true:=by rfl):XA X [e,e'] (af f (af f' ah)):=lZ he (xa1 he' h') h
theorem xs(i:Nat){e:LX}{f:FX}{pos':Pos}(hN:X.N.Nodup)(he:XE X e f)(hi:X.N[i]?=some x:=by rfl)(hx:Loc X.env.scope x:=by first|exact Or.inl rfl|exact Or.inr rfl)(hs:swapsWith e (some (.Name x pos')) pos.line X.env=pure false:=by rfl)(hf:X.fn x=true\/X.env.scope.names.lookup x=some .local:=by first|exact .inl rfl|exact .inr rfl|assumption):XS X (.Assign [.Name x pos'] e pos) (aG i f):=zy hN hi hx he hs hf
end
noncomputable def GZ:al->Bool
 |[]=>true
 |x::r=>!(r.contains x)&&GZ r
theorem nE{l:al}(h:GZ l=true):l.Nodup:=by
 induction l with
 |nil=>exact List.nodup_nil
 |cons x r ih=>
  simp only[GZ,Jb,J3]at h;exact List.nodup_cons.mpr ⟨λm=>by rw[List.contains_iff_mem.mpr m]at h;exact absurd h.1 (by decide),ih h.2⟩
noncomputable def AX:LX->al
 |.Name x _=>[x]
 |.Tuple es _ _=>es.filterMap λe=>match e with
  |.Name x _=>some x
  |_=>none
 |_=>[]
noncomputable def wB(N:al):dL->al->al
 |[],_=>[]
 |some j::r,t=>N.getD j ""::wB N r t
 |none::r,x::t=>x::wB N r t
 |none::r,[]=>""::wB N r []
section
variable{X:Cx}{elt tg iter:LX}{ifs:aZ}{scope:Mg}{ix:dL}{G:aP}{g:GF}{C:bj}{Fe:FX}{i:Nat}{y:Str}{lpos py pos:Pos}
theorem xl(hc:X.calm=true)(tk:ka ix g)(hi:XI X tg iter G)(hb:mj X scope (wB X.N ix (AX tg)) tg elt ifs g C Fe)(ok:gJ X.env.scope.names X.N scope (wB X.N ix (AX tg)) ix=true:=by rfl)(hs:∀x,My iter X.env x=pure x:=by intro _;rfl):XE X (.ListComp elt [⟨tg,iter,ifs,0⟩] scope pos) (cS ix G g C Fe):=BL hc (.of ok) tk hi hb hs
theorem HS(hc:X.calm=true)(tk:ka ix g)(hi:XI X tg iter G)(hb:mj X scope (wB X.N ix (AX tg)) tg elt ifs g C Fe)(ok:gJ X.env.scope.names X.N scope (wB X.N ix (AX tg)) ix=true:=by rfl)(hs:∀x,My iter X.env x=pure x:=by intro _;rfl):XN X (.ListComp elt [⟨tg,iter,ifs,0⟩] scope pos) (cS ix G g C Fe):=CJ hc (.of ok) tk hi hb hs
theorem H0(hN:X.N.Nodup)(hc:X.calm=true)(tk:ka ix g)(hi:XI X tg iter G)(hb:mj X scope (wB X.N ix (AX tg)) tg elt ifs g C Fe)(hi':X.N[i]?=some y:=by rfl)(hx:Loc X.env.scope y:=by first|exact Or.inl rfl|exact Or.inr rfl)(ok:gJ X.env.scope.names X.N scope (wB X.N ix (AX tg)) ix=true:=by rfl)(hsw:swapsWith (.ListComp elt [⟨tg,iter,ifs,0⟩] scope lpos) (some (.Name y py)) pos.line X.env=pure true:=by rfl)(hs:∀x,My iter X.env x=pure x:=by intro _;rfl)(hf:X.fn y=true\/X.env.scope.names.lookup y=some .local:=by first|exact .inl rfl|exact .inr rfl|assumption):XS X (.Assign [.Name y py] (.ListComp elt [⟨tg,iter,ifs,0⟩] scope lpos) pos) (aG i (cS ix G g C Fe)):=C2 hN hi' hx hc (.of ok) tk hi hb hsw hs hf
theorem Hw(hN:X.N.Nodup)(hc:X.calm=true)(tk:ka ix g)(hi:XI X tg iter G)(hb:mj X scope (wB X.N ix (AX tg)) tg elt ifs g C Fe)(hi':X.N[i]?=some y:=by rfl)(hx:Loc X.env.scope y:=by first|exact Or.inl rfl|exact Or.inr rfl)(ok:gJ X.env.scope.names X.N scope (wB X.N ix (AX tg)) ix=true:=by rfl)(hsw:swapsWith (.ListComp elt [⟨tg,iter,ifs,0⟩] scope lpos) (some (.Name y py)) pos.line X.env=pure true:=by rfl)(hs:∀x,My iter X.env x=pure x:=by intro _;rfl)(hf:X.fn y=true\/X.env.scope.names.lookup y=some .local:=by first|exact .inl rfl|exact .inr rfl|assumption):XS X (.Assign [.Name y py] (.ListComp elt [⟨tg,iter,ifs,0⟩] scope lpos) pos) (kd i (cS ix G g C Fe)):=uy hN hi' hx hc (.of ok) tk hi hb hsw hs hf
end
structure U where
 P:L7
 w:L6
 K:Ky
 mg:bK
 base:L8
 cL:LW
 T:LW
noncomputable abbrev Ca(u:U)(k:Nat)(x:Str)(ps:al)(g:cB):Prop:=Callee u.P u.w u.K u.mg u.base k x ps g
noncomputable abbrev Ma(u:U)(k:Nat)(c m:Str)(ps:al)(g:cB):Prop:=MethAt u.P u.w u.K u.mg u.base k c m ps g
noncomputable abbrev Ta(u:U)(k:Nat)(m:Str)(ps:al)(t:List (Str×(cB))):Prop:=kY u.P u.w u.K u.mg u.base k m ps t
noncomputable def Df(u:U)(x:Str)(st:LY):Prop:=∃f fd,pZ u.K x x st f fd/\u.mg x=some (.ref f)
noncomputable def Dm(u:U)(c m qual:Str)(st:LY):Prop:=∃C f fd,clsAt u.K c C/\qv u.K C/\Meth u.K C m f/\pZ u.K m qual st f fd
noncomputable def Bd(x qual:Str)(st:LY)(ps:al):Prop:=∀us:aQ,us.length=ps.length->∀(kV doc pm:LU)(an:Option LW)(cdv ct:LU),bindArgs (KY x qual (fE st) (cO st) (aH st) .none kV doc pm an cdv ct) ⟨us,[]⟩=pure (ps.zip us)
theorem pZ.bd{K:Ky}{x qual:Str}{st:LY}{f:LW}{fd:ML}{ps:al}(F:pZ K x qual st f fd)(h:Bd x qual st ps):Binds K fd ps []:=F.binds λkV doc pm an cdv ct us e=>h us e kV doc pm an cdv ct
section
variable{u:U}{x c m qual:Str}{st:LY}{ps:al}{k:Nat}{B:bB}
theorem AY(M:al)(d:Df u x st)(b:Bd x x st ps)(sc:cC (ps++M) ps (aH st))(h:(ps++M).Nodup->∀f,sI u.P u.w u.K u.mg u.base k (ps++M) x st f B):Ca u (k+1) x ps (aC B ps.length (ps++M).length):=by
 obtain⟨f,fd,F,e⟩:=d;exact tW F (pZ.bd F b) e sc (h sc.nd f).ok
theorem Bw(d:Df u x st)(b:Bd x x st ps):Ca u k x ps λ_=>un:=by
 obtain⟨f,fd,F,e⟩:=d;exact pE k F (pZ.bd F b) e
theorem Hy(M:al)(d:Dm u c m qual st)(b:Bd m qual st ps)(sc:cC (ps++M) ps (aH st))(h:(ps++M).Nodup->∀f,sI u.P u.w u.K u.mg u.base k (ps++M) qual st f B):Ma u (k+1) c m ps (aC B ps.length (ps++M).length):=by
 obtain⟨C,f,fd,h1,h2,h3,F⟩:=d;exact uS h1 h2 h3 F (pZ.bd F b) sc (h sc.nd f).ok
theorem Hj(M:al){f:LW}{fd:ML}(F:pZ u.K x x st f fd)(sc:cC (ps++M) ps (aH st))(h:(ps++M).Nodup->sI u.P u.w u.K u.mg u.base k (ps++M) x st f B):eh u.P u.w u.K u.mg u.base (jd u.P u.w) (k+1) f fd ps (vx u.K ps.length (aC B ps.length (ps++M).length)):=pA F sc (h sc.nd).ok
end
noncomputable def KD(K:Ky)(x:Str)(st:LY):Prop:=∃f oc od kV dc pm an cd ct sl,K2 K Mb x=some (some (.ref f))/\Lk K f x x st oc od kV dc pm an cd ct sl/\KZ K cd x=true/\KS K (.ref f)=true
theorem KD.mk{K:Ky}{x:Str}{st:LY}{f:LW}{oc:LU}{od:Option LW}{kV dc pm:LU}{an:Option LW}{cd ct:LU}{sl:Array (Option LU)}(a:K2 K Mb x=some (some (.ref f)))(l:Lk K f x x st oc od kV dc pm an cd ct sl)(c:KZ K cd x=true)(k:KS K (.ref f)=true):KD K x st:=⟨f,oc,od,kV,dc,pm,an,cd,ct,sl,a,l,c,k⟩
noncomputable def KDs(K:Ky):List (Str×LY)->Prop
 |[]=>True
 |p::r=>KD K p.1 p.2/\KDs K r
theorem KDs.mk{K:Ky}{x:Str}{st:LY}{r:List (Str×LY)}(h:KD K x st)(t:KDs K r):KDs K ((x,st)::r):=⟨h,t⟩
noncomputable def EF(u:U)(Z:Prop):List (Str×LY)->Prop
 |[]=>Z
 |p::r=>EF u Z r/\Df u p.1 p.2
noncomputable def KZs(K:Ky):al->Prop
 |[]=>True
 |x::r=>K2 K Mb x=some none/\KZs K r
theorem KZs.mk{K:Ky}{x:Str}{r:al}(h:K2 K Mb x=some none)(t:KZs K r):KZs K (x::r):=⟨h,t⟩
noncomputable def Zs(u:U):al->Prop
 |[]=>True
 |x::r=>Zs u r/\u.mg x=none
section
variable{u:U}{h:L8}
theorem EF.of{Z:Prop}(X:u.K.In h)(G:h.Ns Mb u.mg)(z:Z):∀{l:List (Str×LY)},KDs u.K l->EF u Z l
 |[],_=>z
 |_::_,h=>by
  obtain⟨⟨_,_,_,_,_,_,_,_,_,_,a,l,c,k⟩,r⟩:=h;exact⟨EF.of X G z r,_,_,jV l c k,Le X G a⟩
theorem Zs.of(X:u.K.In h)(G:h.Ns Mb u.mg):∀{l:al},KZs u.K l->Zs u l
 |[],_=>trivial
 |_::_,⟨a,r⟩=>⟨Zs.of X G r,PySem.W.mg_none_of X G a⟩
end
theorem zn{us:aQ}{n:Nat}(h:us.length=n+1):∃a r,us=a::r/\r.length=n:=by
 cases us with
 |nil=>cases h
 |cons a r=>exact⟨a,r,rfl,Nat.succ.inj h⟩
theorem Ed{us:aQ}(h:us.length=1):∃a,us=[a]:=List.length_eq_one_iff.mp h
theorem Eg{us:aQ}(h:us.length=2):∃a b,us=[a,b]:=by
 obtain⟨a,r,rfl,k⟩:=zn h;obtain⟨b,rfl⟩:=Ed k;exact⟨a,b,rfl⟩
theorem CQ{us:aQ}(h:us.length=3):∃a b c,us=[a,b,c]:=by
 obtain⟨a,r,rfl,k⟩:=zn h;obtain⟨b,c,rfl⟩:=Eg k;exact⟨a,b,c,rfl⟩
theorem Dh{us:aQ}(h:us.length=4):∃a b c d,us=[a,b,c,d]:=by
 obtain⟨a,r,rfl,k⟩:=zn h;obtain⟨b,c,d,rfl⟩:=CQ k;exact⟨a,b,c,d,rfl⟩
theorem G0{us:aQ}(h:us.length=5):∃a b c d e,us=[a,b,c,d,e]:=by
 obtain⟨a,r,rfl,k⟩:=zn h;obtain⟨b,c,d,e,rfl⟩:=Dh k;exact⟨a,b,c,d,e,rfl⟩
end TX
namespace TG
open L2
instance(priority:=low) noTabs:ax:=⟨λ_=>True,λ_ _=>trivial,λ_ _ _=>trivial⟩
open PySem PySem.Spec L2
theorem nr{α:Sort _}{a b:α}(h:a=b):a=b:=h
theorem dj{α β:Type}(a:α)(f:α->R β):Except.bind (Except.ok a:R α) f=f a:=nr rfl
theorem sy{α β:Type}(x:Option Ex)(f:α->R β):Except.bind (Except.error x:R α) f=.error x:=nr rfl
theorem tL{α:Type}(a:α)(k:Ks)(ρ:ao)(f:α->R D):kF (.ok a) k ρ f=f a:=nr rfl
theorem rR{α:Type}(x:Ex)(k:Ks)(ρ:ao)(f:α->R D):kF (.error (some x)) k ρ f=k.ex x ρ:=nr rfl
theorem ic{α:Type}(a:α):zB (.ok a:R α)=.ok a:=nr rfl
theorem de{α:Type}(a:α):rO (some a)=.ok a:=nr rfl
theorem ge_0(d:D)(ρ:ao):lB (some (.val d)::ρ) 0=.ok d:=rfl
theorem Aw(x:Option S)(ρ:ao)(i:Nat):lB (x::ρ) (i+1)=lB ρ i:=rfl
theorem nY(i:Nat)(ρ:ao):aa i ρ=lB ρ i:=rfl
theorem zR(d:D)(ρ:ao):fC d ρ=.ok d:=rfl
theorem lF(ρ:ao):ah ρ=.ok []:=rfl
theorem iM(f:FX)(g:aP)(ρ:ao):af f g ρ=(f ρ).bind λx=>(g ρ).bind λxs=>.ok (x::xs):=rfl
theorem o9(g:aP)(ρ:ao):cz g ρ=(g ρ).bind λxs=>rO (nH xs):=rfl
theorem lm(g:aP)(ρ:ao):fP g ρ=(g ρ).bind λxs=>rO (j0 xs):=rfl
theorem zZ(g:D->bi)(f:FX)(ρ:ao):f1 g f ρ=(f ρ).bind λa=>rO (g a):=rfl
theorem zD(g:D->D->bi)(f h:FX)(ρ:ao):f2 g f h ρ=(f ρ).bind λa=>(h ρ).bind λb=>rO (g a b):=rfl
theorem zu(f:FX)(ρ:ao):fB f ρ=(f ρ).bind λd=>rO (Gu d):=rfl
theorem yM(g:List D->bi)(f:aP)(ρ:ao):fL g f ρ=(f ρ).bind λds=>rO (g ds):=rfl
theorem Ax(g:cB)(f:aP)(ρ:ao):fR g f ρ=(f ρ).bind g:=nr rfl
theorem oo(f:bj)(ρ:ao):eJ f ρ=(f ρ).bind λb=>.ok (!b):=rfl
theorem oE(f g:bj)(ρ:ao):jn f g ρ=(f ρ).bind λb=>if b then g ρ else .ok false:=rfl
theorem tS(f g:bj)(ρ:ao):vw f g ρ=(f ρ).bind λb=>if b then .ok true else g ρ:=rfl
theorem i6(f:FX)(ρ:ao):bD f ρ=(f ρ).bind λd=>rO (truth d):=rfl
theorem kQ(f g:FX)(ρ:ao):df f g ρ=(f ρ).bind λd=>qF d (g ρ):=rfl
theorem oJ(f g:FX)(ρ:ao):qO f g ρ=(f ρ).bind λd=>DK d (g ρ):=rfl
theorem kO(f:FX)(ρ:ao):iJ f ρ=(f ρ).bind λa=>rO (C5 a):=rfl
theorem sr(t:bj)(f g:FX)(ρ:ao):EK t f g ρ=(t ρ).bind λc=>if c then f ρ else g ρ:=rfl
theorem oX(T:String)(f:FX)(ρ:ao):fe T f ρ=(f ρ).bind λa=>rO (jP T a):=rfl
theorem oK(f:FX)(ρ:ao):pJ f ρ=(f ρ).bind λa=>.ok (.bl (isNon a)):=rfl
theorem kA(f:FX)(ρ:ao):iQ f ρ=(f ρ).bind λa=>.ok (.bl (!isNon a)):=rfl
theorem lG(f:FX)(ρ:ao):rq f ρ=(f ρ).bind λa=>rO (Av a):=rfl
theorem jl(f:FX)(ρ:ao):CN f ρ=(f ρ).bind λa=>rO (vz a):=rfl
theorem om(f:FX)(ρ:ao):FV f ρ=(f ρ).bind λa=>rO (CM a):=rfl
theorem jw(g g':D->D->bi)(fa fb fc:FX)(ρ:ao):fW g g' fa fb fc ρ=(fa ρ).bind λx=>(fb ρ).bind λy=>(rO (g x y)).bind λz=>qF z ((fc ρ).bind λw=>rO (g' y w)):=rfl
theorem gh(f:FX)(ρ:ao):aY f ρ=(f ρ).bind λd=>rO (lK d):=rfl
theorem gQ(f:aP)(ρ:ao):aT f ρ=(f ρ).bind λds=>rO (cV ds):=rfl
theorem gL(f:aP)(ρ:ao):zT f ρ=(f ρ).bind λds=>rO (sd ds):=rfl
theorem oH(f:aP)(ρ:ao):qe f ρ=(f ρ).bind λds=>rO (uc ds):=rfl
theorem kj(f:aP)(ρ:ao):fV f ρ=(f ρ).bind λds=>rO (mP ds):=rfl
theorem kP(f:FX)(g:aP)(ρ:ao):f7 f g ρ=(f ρ).bind λa=>(rO (Es a)).bind λz=>(g ρ).bind λds=>rO (ll z ds):=rfl
theorem oO(z:Str):Es (.str z)=some z:=rfl
theorem gY(ρ:ao):aD ρ=.ok none:=rfl
theorem kJ(f:FX)(ρ:ao):aO f ρ=(f ρ).bind λd=>rO (qN d):=rfl
theorem jt(f:FX)(l h:ao->R cf)(ρ:ao):aK f l h ρ=(f ρ).bind λa=>(l ρ).bind λlo=>(h ρ).bind λhi=>rO (eU a lo hi):=rfl
theorem kI(ρ:ao):aU ρ=.ok true:=rfl
theorem kC(k:Ks)(ρ:ao):aX k ρ=k.nx ρ:=nr rfl
theorem dR(A B:bB)(k:Ks)(ρ:ao):ak A B k ρ=A {k with nx:=B k} ρ:=nr rfl
theorem kE(f:FX)(k:Ks)(ρ:ao):aL f k ρ=kF (f ρ) k ρ .ok:=nr rfl
theorem jv(k:Ks)(ρ:ao):DC k ρ=.ok .non:=nr rfl
theorem o7(c:bj)(A B:bB)(k:Ks)(ρ:ao):cQ c A B k ρ=kF (c ρ) k ρ λb=>if b then A k ρ else B k ρ:=nr rfl
theorem iK(i:Nat)(f:FX)(k:Ks)(ρ:ao):aG i f k ρ=kF (f ρ) k ρ λd=>k.nx (setV i d ρ):=nr rfl
theorem ju(is:List Nat)(F:bB)(k:Ks)(ρ:ao):dN is F k ρ=F k (kill is ρ):=nr rfl
theorem eL(G:aP)(g:GF)(B:bB)(k:Ks)(ρ:ao):lu G g B k ρ=kF (G ρ) k ρ λds=>dg g B k ds ρ:=nr rfl
theorem yR(d:D)(x:Option S)(ρ:ao):setV 0 d (x::ρ)=some (.val d)::ρ:=rfl
theorem yK(i:Nat)(d:D)(x:Option S)(ρ:ao):setV (i+1) d (x::ρ)=x::setV i d ρ:=rfl
theorem nX(ρ:ao):kill [] ρ=ρ:=rfl
theorem km(i:Nat)(is:List Nat)(ρ:ao):kill (i::is) ρ=kill is (ρ.set i none):=rfl
theorem du(B:bB)(n:Nat)(a:D):aC B 1 n [a]=B K0 (env0 n [a]):=nr rfl
theorem bc(B:bB)(n:Nat)(a b:D):aC B 2 n [a,b]=B K0 (env0 n [a,b]):=nr rfl
theorem iA(B:bB)(n:Nat)(a b c:D):aC B 3 n [a,b,c]=B K0 (env0 n [a,b,c]):=nr rfl
theorem B8(B:bB)(n:Nat)(a b c d e:D):aC B 5 n [a,b,c,d,e]=B K0 (env0 n [a,b,c,d,e]):=nr rfl
theorem pB(ρ:ao):inB [] ρ=[]:=rfl
theorem kz(ix:dL)(ρ:ao):inB (none::ix) ρ=none::inB ix ρ:=rfl
noncomputable def pick(ρ:ao)(i:Nat):Option S:=match ρ[i]? with
 |some (some (.val d))=>some (.val d)
 |_=>none
theorem kD(i:Nat)(ix:dL)(ρ:ao):inB (some i::ix) ρ=pick ρ i::inB ix ρ:=rfl
theorem Ay(d:D)(ρ:ao):pick (some (.val d)::ρ) 0=some (.val d):=rfl
theorem zI(x:Option S)(ρ:ao)(i:Nat):pick (x::ρ) (i+1)=pick ρ i:=rfl
theorem kx(i:Nat)(f:FX)(k:Ks)(ρ:ao):kd i f k ρ=kF (f ρ) k ρ λd=>k.nx (ρ.set i (some (.own d))):=nr rfl
theorem kR(i:Nat)(F:bB)(k:Ks)(ρ:ao):mq i F k ρ=F k (frz i ρ):=nr rfl
theorem Aq(d:D)(ρ:ao):frz 0 (some (.own d)::ρ)=some (.val d)::ρ:=rfl
theorem tQ(d:D)(ρ:ao):frz 0 (some (.val d)::ρ)=some (.val d)::ρ:=rfl
theorem zX(i:Nat)(x:Option S)(ρ:ao):frz (i+1) (x::ρ)=x::frz i ρ:=by
 unfold frz;rw[JL];split<;>rename_i h
 ·rw[h];rfl
 ·rfl
theorem lU(i:Nat)(u:List D->List D->Option (List D))(f:aP)(k:Ks)(ρ:ao){xs:List D}(h:ρ[i]?=some (some (.own (.lst xs)))):vt i u f k ρ=kF (f ρ) k ρ λds=>(rO (u xs ds)).bind λys=>k.nx (ρ.set i (some (.own (.lst ys)))):=by
 unfold vt;rw[h]
theorem qZ{xs:List D}{y:D}(h:xs.length<100000):oN xs [y]=some (xs++[y]):=by
 show(if small (xs.length+1)then some (xs++[y])else none)=_;rw[cI ‹0›];rfl
theorem oV(i j:Int):aJ (.int i) (.int j)=some (.int (i+j)):=nr rfl
theorem pC(i j:Int):TG.eB (.int i) (.int j)=some (.int (i-j)):=nr rfl
theorem tx(i j:Int):Ib (.int i) (.int j)=some (.bl (decide (i<j))):=nr rfl
theorem pp(i j:Int):dm (.int i) (.int j)=some (.bl (decide (i<j))):=nr rfl
theorem pf(x y:Str):dm (.str x) (.str y)=some (.bl (decide (x.cps.toList<y.cps.toList))):=nr rfl
theorem oU(c d:Bool):Ga (.bl c) (.bl d)=some (.bl (c==d)):=nr rfl
theorem gP(c d:Bool):zl (.bl c) (.bl d)=some (.bl (!(c==d))):=nr rfl
theorem sY(i j:Int):uH (.int i) (.int j)=some (.bl (decide (i<=j))):=nr rfl
theorem se(i j:Int):EZ (.int i) (.int j)=some (.bl (decide (j<i))):=nr rfl
theorem sS(i j:Int):DJ (.int i) (.int j)=some (.bl (decide (j<=i))):=nr rfl
theorem o8(i:Int):Av (.int i)=some (.int (-i)):=nr rfl
theorem aI{i j:Int}(h:0<j):aW (.int i) (.int j)=some (.int (i%j)):=by
 show(if decide (0<j)then some (D.int (i%j))else none)=_;rw[decide_eq_true h];rfl
theorem a8{i j:Int}(h:0<j)(h':j<10^200):bE (.int i) (.int j)=some (.int (i/j)):=by
 show(if decide (0<j/\j<10^200)then some (D.int (i/j))else none)=_;rw[decide_eq_true ⟨h,h'⟩];rfl
theorem gK{i j:Int}(h:-(2^64)<i)(h':i<2^64):hX (.int i) (.int j)=some (.int (i*j)):=by
 show(if decide ((-(2^64)<i/\i<2^64)\/(-(2^64)<j/\j<2^64))then some (D.int (i*j))else none)=_;rw[decide_eq_true (.inl ⟨h,h'⟩)];rfl
theorem kU{i j:Int}(h:-(2^64)<j)(h':j<2^64):hX (.int i) (.int j)=some (.int (i*j)):=by
 show(if decide ((-(2^64)<i/\i<2^64)\/(-(2^64)<j/\j<2^64))then some (D.int (i*j))else none)=_;rw[decide_eq_true (.inr ⟨h,h'⟩)];rfl
theorem xW(i:Int)(n:Nat)(h:n<=1000000)(h':i.natAbs<2^64):jS (.int i) (.int n)=some (.int (i^n)):=by
 show(if decide (0<=(n:Int)/\(n:Int)<=1000000/\i.natAbs<2^64)then some (D.int (i^(n:Int).toNat))else none)=_;rw[decide_eq_true ⟨by omega,by omega,h'⟩];rfl
theorem wo:jS (.int 10) (.int 59)=some (.int (10^59)):=xW 10 59 (by decide) (by decide)
noncomputable def jE:Int:=10^59
noncomputable def Ba:Int:=10^60
theorem A6:1000000<jE/\jE*10=Ba:=by decide +kernel
theorem A7:1000000<Ba/\Ba<10^199/\Ba<10^69:=by decide +kernel
theorem vD:jS (.int 10) (.int 59)=some (.int jE):=wo
theorem i5(i j:Int):cD (.int i) (.int j)=some (.bl (i==j)):=by unfold cD pyEq;rfl
theorem iZ(i j:Str):cD (.str i) (.str j)=some (.bl (i==j)):=by unfold cD pyEq;rfl
theorem iF(i j:Bool):cD (.bl i) (.bl j)=some (.bl (i==j)):=by unfold cD pyEq;rfl
theorem iW(i j:Int):j3 (.int i) (.int j)=some (.bl (!(i==j))):=by unfold j3 pyEq;rfl
theorem jf(i j:Str):j3 (.str i) (.str j)=some (.bl (!(i==j))):=by unfold j3 pyEq;rfl
theorem i9(i j:Bool):j3 (.bl i) (.bl j)=some (.bl (!(i==j))):=by unfold j3 pyEq;rfl
theorem oq{α:Type}(xs:List α)(n:Nat):iC xs (n:Int)=xs[n]?:=by
 unfold iC A5;rw[if_pos ‹0›];by_cases h:n<xs.length
 ·rw[if_pos ‹0›];rfl
 ·rw[if_neg ‹0›,J4 ‹0›];rfl
theorem tU{α:Type}(a:α)(xs:List α):iC (a::xs) 0=some a:=oq (a::xs) 0
theorem tV{α:Type}(a:α)(xs:List α)(n:Nat):iC (a::xs) ((n+1:Nat):Int)=iC xs (n:Int):=by
 rw[oq,oq,JL]
theorem vS(xs:List D)(i:Int):ai (.tup xs) (.int i)=iC xs i:=nr rfl
theorem Cy(xs:List D)(i:Int):ai (.lst xs) (.int i)=iC xs i:=nr rfl
theorem qf(a:D)(xs:List D):ai (.tup (a::xs)) (.int 0)=some a:=tU a xs
theorem si(a b:D)(xs:List D):ai (.tup (a::b::xs)) (.int 1)=some b:=(tV a _ 0).trans (tU b xs)
theorem su(a b c:D)(xs:List D):ai (.tup (a::b::c::xs)) (.int 2)=some c:=(tV a _ 1).trans ((tV b _ 0).trans (tU c xs))
theorem tq(a:D)(xs:List D):ai (.lst (a::xs)) (.int 0)=some a:=tU a xs
theorem tK(a b:D)(xs:List D):ai (.lst (a::b::xs)) (.int 1)=some b:=(tV a _ 0).trans (tU b xs)
theorem sj(a b c:D)(xs:List D):ai (.lst (a::b::c::xs)) (.int 2)=some c:=(tV a _ 1).trans ((tV b _ 0).trans (tU c xs))
theorem jg(xs:List D):b9 [.lst xs]=some (.int xs.length):=nr rfl
theorem iS(xs:List D):b9 [.tup xs]=some (.int xs.length):=nr rfl
theorem fm(xs:List D):cg [.lst xs]=some (.tup xs):=nr rfl
theorem fq(xs:List D):cg [.tup xs]=some (.tup xs):=nr rfl
theorem oB(b:Bool):Gu (.bl b)=some b:=nr rfl
theorem gX(i:Int):qN (.int i)=some (some i):=nr rfl
theorem fF(b:Bool):truth (.bl b)=some b:=nr rfl
theorem fU(xs:List D):truth (.tup xs)=some (!xs.isEmpty):=nr rfl
theorem fK(xs:List D):truth (.lst xs)=some (!xs.isEmpty):=nr rfl
theorem oy(i j:Int):Ef [.int i,.int j]=some (.int (if j>i then j else i)):=nr rfl
theorem n5(i j:Int):Ec [.int i,.int j]=some (.int (if j<i then j else i)):=nr rfl
theorem eF(xs:List D):lK (.lst xs)=some xs:=nr rfl
theorem fM(xs:List D):lK (.tup xs)=some xs:=nr rfl
theorem iV(k:R D):qF (.bl true) k=k:=nr rfl
theorem iY(k:R D):qF (.bl false) k=.ok (.bl false):=nr rfl
theorem kh(k:R D):DK (.bl true) k=.ok (.bl true):=nr rfl
theorem kN(k:R D):DK (.bl false) k=k:=nr rfl
theorem je(a b:Bool):qF (.bl a) (.ok (.bl b))=.ok (.bl (a&&b)):=by cases a<;>rfl
theorem kt(a b:Bool):DK (.bl a) (.ok (.bl b))=.ok (.bl (a||b)):=by cases a<;>rfl
theorem ph(b:Bool):C5 (.bl b)=some (.bl (!b)):=nr rfl
theorem oQ(xs:List D):CM (.lst xs)=some (.lst xs.reverse):=nr rfl
theorem dz(n:Nat)(h:n<2^62):cV [.int n]=some (bq 0 n):=by
 show(if okR (n:Int)then some (bq 0 ((n:Int).toNat))else none)=_
 have:okR (n:Int)=true:=decide_eq_true ⟨by omega,by omega⟩
 rw[this];rfl
theorem iO{α:Type}(f:α->D)(h:∀a,pl (f a)=true):∀xs:List α,dk (xs.map f)=true
 |[]=>rfl
 |x::xs=>by
  show(pl (f x)&&dk (xs.map f))=true;rw[h,iO f h xs];rfl
theorem zJ(f:Str->D)(hf:f=D.str)(w:Str)(ws:al):inD (.str w) (ws.map f)=ws.any λy=>y==w:=by
 subst hf;unfold inD;rw[List.any_map];congr 1
theorem pz(w:Str)(ws:al):sF (.str w) (.tup (ws.map .str))=some (.bl (ws.contains w)):=by
 show(if(pl (.str w)&&dk (ws.map .str))&&a9 8 (.str w)then some (D.bl (inD (.str w) (ws.map .str)))else none)=_;rw[zJ _ rfl,iO _ λ_=>rfl];show some (D.bl _)=_;congr 2
 induction ws with
 |nil=>rfl
 |cons x xs ih=>rw[Jx,JR,ih,Bool.beq_comm]
theorem cu(xs ys:List D)(h:xs.length+ys.length<=100000):aJ (.tup xs) (.tup ys)=some (.tup (xs++ys)):=by
 show(if small (xs.length+ys.length)then some (D.tup (xs++ys))else none)=_;rw[cI h];rfl
theorem kS(xs:List D)(lo hi:cf):eU (.lst xs) lo hi=some (.lst (cutD xs lo hi)):=nr rfl
theorem kH(xs:List D)(lo hi:cf):eU (.tup xs) lo hi=some (.tup (cutD xs lo hi)):=nr rfl
theorem bh{ix:dL}{G:aP}{g:GF}{C:bj}{Fe:FX}{ρ:ao}{ds r:List D}(h1:G ρ=.ok ds)(h2:ds.length<=100000)(h3:mD (inB ix ρ) g C Fe ds=.ok r):cS ix G g C Fe ρ=.ok (.lst r):=by
 unfold cS;rw[h1,dj,cI h2,h3];rfl
theorem dA{α:Type}{ρ:ao}{g:GF}{C:bj}{Fe:FX}(mk:α->D)(p:α->Bool)(v:α->D):∀xs:List α,(∀a∈xs,∃ρ1,g (mk a) ρ=some ρ1/\C ρ1=.ok (p a)/\Fe ρ1=.ok (v a))->
  mD ρ g C Fe (xs.map mk)=.ok ((xs.filter p).map v)
 |[],_=>rfl
 |a::xs,h=>by
  obtain⟨ρ1,h1,h2,h3⟩:=h a Il;rw[IG,iN,h1,de,dj,h2,ic,dj,h3,ic,dj,dA mk p v xs λb hb=>h b (Im _ hb)];cases e:p a with
  |true=>rw[if_pos rfl,J5 e];rfl
  |false=>rw[if_neg Iu,J6 (by simp[e])]
theorem cU{α:Type}{ρ:ao}{g:GF}{C:bj}{Fe:FX}(mk:α->D)(v:α->D)(xs:List α)(h:∀a∈xs,∃ρ1,g (mk a) ρ=some ρ1/\C ρ1=.ok true/\Fe ρ1=.ok (v a)):mD ρ g C Fe (xs.map mk)=.ok (xs.map v):=by
 rw[dA mk (λ_=>true) v xs h,List.filter_eq_self.mpr λ_ _=>rfl]
theorem gg{ρ:ao}{g:GF}{C:bj}{Fe:FX}(P:D->Prop):∀ds:List D,(∀d∈ds,∃ρ1 v,g d ρ=some ρ1/\C ρ1=.ok true/\Fe ρ1=.ok v/\P v)->∃vs:List D,vs.length=ds.length/\(∀v∈vs,P v)/\mD ρ g C Fe ds=.ok vs
 |[],_=>⟨[],rfl,(λ_ h=>nomatch h),rfl⟩
 |d::ds,h=>by
  obtain⟨ρ1,w,h1,h2,h3,h4⟩:=h d Il;obtain⟨ws,e1,e2,e3⟩:=gg P ds λd' hd=>h d' (Im _ hd);refine⟨w::ws,by rw[IE,IE,e1],λw' hw=>?_,?_⟩
  ·rcases List.mem_cons.mp hw with z|z
   ·rw[z];exact h4
   ·exact e2 w' z
  ·rw[iN,h1,de,dj,h2,ic,dj,h3,ic,dj,e3];rfl
theorem tE{g:GF}{B:bB}{k:Ks}(Iv:Nat->ao->Prop):∀(ds:List D)(i:Nat)(ρ:ao),(∀j d ρ (k':Ks),i<=j->ds[j-i]?=some d->Iv j ρ->∃ρ1 ρ2,g d ρ=some ρ1/\Iv (j+1) ρ2/\B k' ρ1=k'.nx ρ2)->Iv i ρ->∃ρ',Iv (i+ds.length) ρ'/\dg g B k ds ρ=k.nx ρ'
 |[],i,ρ,_,h=>⟨ρ,h,rfl⟩
 |d::ds,i,ρ,st,h=>by
  obtain⟨ρ1,ρ2,e1,h2,e2⟩:=st i d ρ ⟨dg g B k ds,k.nx,dg g B k ds,k.ex⟩ (Iy _) (by rw[JU];rfl) h;obtain⟨ρ',h3,e3⟩:=tE (g:=g) (B:=B) (k:=k) Iv ds (i+1) ρ2 (λj d' ρ k' hj hd=>st j d' ρ k' ‹0› (by rw[show j-i=(j-(i+1))+1 by omega,JL];exact hd)) h2;refine⟨ρ',?_,?_⟩
  ·rw[IE]
   have:i+(ds.length+1)=i+1+ds.length:=(by omega);rw[this];exact h3
  ·show((rO (g d ρ)).bind λρ1=>B ⟨dg g B k ds,k.nx,dg g B k ds,k.ex⟩ ρ1)=_;rw[e1,de,dj,e2];exact e3
theorem gZ{g:GF}{B:bB}{k:Ks}{ds:List D}{ρ:ao}{Q:R D->Prop}(Iv:Nat->ao->Prop)(st:∀i d ρ (k':Ks),ds[i]?=some d->Iv i ρ->∃ρ1 ρ2,g d ρ=some ρ1/\Iv (i+1) ρ2/\B k' ρ1=k'.nx ρ2)(h:Iv 0 ρ)(q:∀ρ',Iv ds.length ρ'->Q (k.nx ρ')):Q (dg g B k ds ρ):=by
 obtain⟨ρ',h1,e⟩:=tE (k:=k) Iv ds 0 ρ (λj d ρ k' _ hd=>st j d ρ k' hd) h;rw[e];rw[JP]at h1;exact q ρ' h1
theorem c6{α:Type}{xs:List α}{i:Nat}{a:α}(h:xs[i]?=some a):i<xs.length:=by
 rcases J7 i xs.length with z|z
 ·exact z
 ·rw[J4 z]at h;cases h
theorem tu{α β:Type}(f:α->β)(xs:List α)(i:Int):iC (xs.map f) i=(iC xs i).map f:=by
 unfold iC;rw[IH];cases A5 xs.length i with
 |none=>rfl
 |some j=>simp
theorem qd{α:Type}{xs:List α}{k:Nat}(h:k<xs.length):iC xs (k:Int)=some xs[k]:=by
 unfold iC A5;rw[if_pos ‹0›,if_pos ‹0›];simp[h]
theorem nU{α:Type}{xs:List α}{i:Int}(h0:0<=i)(h:i<xs.length):iC xs i=some (xs[i.toNat]'‹0›):=by
 have e:i=((i.toNat:Nat):Int):=by omega
 conv=>lhs;rw[e]
 exact qd ‹0›
noncomputable def AR:bB:=ak (cQ (fB (f2 dm (aa 1) (fL b9 (af (aa 0) ah)))) (aL (f2 ai (aa 0) (aa 1))) aX) (aL (fC (.int 0)))
theorem Ah(ns:List Int)(k:Nat):aC AR 2 2 [.lst (ns.map .int),.int k]=.ok (.int (ns.getD k 0)):=by
 show(if decide ((k:Int)<((ns.map D.int).length:Int))then kF (rO (iC (ns.map D.int) (k:Int))) _ _ .ok else .ok (.int 0))=_;rw[IH];by_cases h:k<ns.length
 ·rw[if_pos (by simpa using h),tu,qd h,Option.map_some,J8,Jr h];rfl
 ·rw[if_neg (by simpa using h),J8,J4 ‹0›];rfl
theorem wz(ns:List Int)(i:Int)(h:0<=i):∃c:Int,aC AR 2 2 [.lst (ns.map .int),.int i]=.ok (.int c):=by
 have e:i=((i.toNat:Nat):Int):=by omega
 exact⟨ns.getD i.toNat 0,by rw[e];exact Ah ns i.toNat⟩
theorem eV(x:Str)(h:x.length<=1000)(lo hi:cf):∃y:Str,y.length<=x.length/\eU (.str x) lo hi=some (.str y):=by
 refine⟨⟨(cutD x.cps.toList lo hi).toArray⟩,?_,?_⟩
 ·show(cutD x.cps.toList lo hi).toArray.size<=x.cps.size;rw[IB]
  have:=jZ x.cps.toList lo hi
  rw[Array.length_toList]at this;exact this
 ·show(if small x.length then some (D.str ⟨(cutD x.cps.toList lo hi).toArray⟩)else none)=_;rw[cI ‹0›];rfl
theorem dD(x y:Str):(x++y).length=x.length+y.length:=by
 show(x.cps++y.cps).size=_;rw[Array.size_append];rfl
theorem eE(x y:Str)(h:x.length<=1000)(h':y.length<=1000):aJ (.str x) (.str y)=some (.str (x++y)):=by
 show(if small (x.length+y.length)then some (D.str (x++y))else none)=_;rw[cI ‹0›];rfl
theorem oz(x:Str)(h:x.length<=1000)(i:Int)(h0:0<=i)(h1:i<x.length):∃y:Str,y.length=1/\ai (.str x) (.int i)=some (.str y):=by
 have hl:x.cps.toList.length=x.length:=by simp[Str.length]
 have hi:i<x.cps.toList.length:=by omega
 refine⟨⟨#[x.cps.toList[i.toNat]'‹0›]⟩,rfl,?_⟩;show(if small x.length then(iC x.cps.toList i).bind λc=>some (D.str ⟨#[c]⟩)else none)=_;rw[cI ‹0›,if_pos rfl,nU h0 hi];rfl
theorem fJ{lo:Int}{n:Nat}{d:D}(h:d∈bq lo n):∃k:Nat,k<n/\d=.int (lo+k):=by
 unfold bq at h;obtain⟨k,h1,h2⟩:=List.mem_map.mp h;exact⟨k,List.mem_range.mp h1,h2.symm⟩
theorem dY(lo:Int)(n:Nat):bq lo n=(List.range n).map λ(k:Nat)=>D.int (lo+(k:Int)):=nr rfl
theorem bb(lo:Int)(n:Nat):(bq lo n).length=n:=by unfold bq;rw[IH,JA]
theorem w8{α:Type}{xs:List α}{lo hi:cf}{a:α}(h:a∈cutD xs lo hi):a∈xs:=J9 (Ka h)
theorem yN{α β:Type}(f:α->β)(xs:List α)(lo hi:cf):cutD (xs.map f) lo hi=(cutD xs lo hi).map f:=by
 unfold cutD;rw[IH,<-List.map_drop,<-Kb]
theorem nD(g:Array Nat):∀(ps:al)(a:Array Nat),(ps.foldl (λacc p=>acc++g++p.cps) a).size=a.size+ps.length*g.size+(ps.map (λy=>y.length)).sum
 |[],a=>by simp
 |p::ps,a=>by
  rw[List.foldl_cons,nD g ps,Array.size_append,Array.size_append,IE,IG,Kc,Nat.succ_mul];show _=a.size+(ps.length*g.size+g.size)+(p.cps.size+_);omega
theorem xD(ys:al):(Txt.join "" ys).length=(ys.map (λy=>y.length)).sum:=by
 have e0:(("":Str)).cps.size=0:=by decide +kernel
 cases ys with
 |nil=>show(List.foldl _ _ _:Array Nat).size=_;simp[Str.empty]
 |cons y ys=>
  show(List.foldl (λacc p=>acc++(("":Str)).cps++p.cps) y.cps ys).size=_;rw[nD,e0];simp[Str.length]
theorem lT:∀ys:al,ja (ys.map .str)=some ys
 |[]=>rfl
 |y::ys=>by
  show(ja (ys.map .str)).bind (λzs=>some (y::zs))=_;rw[lT ys];rfl
theorem o6(ys:al)(h:(ys.map (λy=>y.length)).sum<=1000):∃x:Str,x.length=(ys.map (λy=>y.length)).sum/\ll "" [.lst (ys.map .str)]=some (.str x):=by
 refine⟨Txt.join "" ys,xD ys,?_⟩;have e0:(("":Str)).length=0:=by decide +kernel
 have e:ll "" [.lst (ys.map .str)]=(ja (ys.map .str)).bind λys=>if small ((ys.map (λy=>y.length)).sum+ys.length*(("":Str)).length)then some (.str (Txt.join "" ys))else none:=rfl
 rw[e,lT];show(if small _ then _ else _)=_;rw[e0,cI ‹0›];rfl
theorem oW(n:Nat):∀vs:List D,(∀v∈vs,∃w:Str,v=.str w/\w.length<=n)->∃ws:al,vs=ws.map .str/\∀w∈ws,w.length<=n
 |[],_=>⟨[],rfl,λ_ h=>nomatch h⟩
 |v::vs,h=>by
  obtain⟨w,rfl,hw⟩:=h v Il;obtain⟨ws,rfl,h2⟩:=oW n vs λv' hv=>h v' (Im _ hv);refine⟨w::ws,rfl,λw' hw'=>?_⟩;rcases List.mem_cons.mp hw' with z|z
  ·rw[z];exact hw
  ·exact h2 w' z
theorem vN(n:Nat):∀ws:al,(∀w∈ws,w.length<=n)->(ws.map (λy=>y.length)).sum<=ws.length*n
 |[],_=>by simp
 |w::ws,h=>by
  have:=vN n ws λw' h'=>h w' (Im _ h')
  have h1:=h w Il;rw[IG,Kc,IE,Nat.succ_mul];omega
theorem eT{α:Type}(xs:List α)(m:Nat):cutD xs none (some (m:Int))=xs.take m:=by
 unfold cutD;rw[HT.DH,HT.EL,Jm,JB];rcases Nat.le_total m xs.length with h|h
 ·rw[Kd h]
 ·rw[Nat.min_eq_right h,JF h,JF (Iy _)]
theorem iH{α:Type}(xs:List α)(m:Nat):cutD xs (some (m:Int)) none=xs.drop m:=by
 unfold cutD;rw[HT.DH,HT.EL];rcases Nat.le_total m xs.length with h|h
 ·rw[Kd h];exact JF (by rw[Ja];exact Iy _)
 ·rw[Nat.min_eq_right h,JU,Jj,List.drop_eq_nil_of_le h]
theorem yY{α:Type}(xs:List α)(a:α):iC (xs++[a]) (-1)=some a:=by
 unfold iC A5;rw[if_neg (by decide),IZ,Jd];simp;rw[if_pos ‹0›];show(xs++[a])[(-1+((xs.length:Int)+1)).toNat]?=some a;rw[show(-1+((xs.length:Int)+1)).toNat=xs.length by omega];simp
local macro_rules
 |`(tactic| simp! only[$xs,*])=>`(tactic| simp only[dj,sy,tL,rR,ic,de,ge_0,Aw,nY,zR,lF,iM,o9,lm,zZ,zD,zu,yM,Ax,oo,oE,tS,i6,kQ,oJ,kO,sr,oX,oK,kA,lG,jl,om,jw,gh,gQ,gL,oH,kj,gY,kJ,jt,kI,kC,dR,kE,jv,o7,iK,ju,eL,kx,kR,Aq,tQ,zX,yR,yK,nX,km,pB,kz,kD,Ay,zI,Ke,Kf,IG,Je,Ji,Jy,K0,env0,List.replicate,JV,IL,JP,Nat.reduceAdd,Nat.reduceSub,IE,JY,oV,pC,tx,pp,pf,oU,gP,oO,sY,se,sS,o8,i5,iZ,iF,iW,jf,i9,qf,si,su,tq,tK,sj,jg,iS,fm,fq,oB,gX,fF,fU,fK,oy,n5,eF,fM,iV,iY,kh,kN,je,kt,ph,oQ,kS,kH,gN,if_true,if_false,Kg,Kh,Jh,$xs,*])
theorem yy(a b c:D):nH [a,b,c]=some (.tup [a,b,c]):=nr rfl
theorem vy(a b:D):nH [a,b]=some (.tup [a,b]):=nr rfl
theorem EJ(a:D):nH [a]=some (.tup [a]):=nr rfl
theorem B7:nH []=some (.tup []):=nr rfl
theorem DZ:j0 []=some (.lst []):=nr rfl
theorem gm:((("word":Str))==(("number":Str)))=false:=by decide +kernel
theorem jK:((("rows":Str))==(("number":Str)))=false:=by decide +kernel
theorem iG:((("rows":Str))==(("word":Str)))=false:=by decide +kernel
noncomputable def ya:bB:=aL (fL cg (af (cS [none] (aY (f2 aJ (f2 ai (aa 0) (fC (.int 0))) (f2 ai (aa 0) (fC (.int 1))))) (gN 0) aU (f2 ai (aa 0) (fC (.int 1)))) ah))
theorem kinds_ok(kf rf:List D)(ps:dq)(hl:kf.length+rf.length<=100)(e:kf++rf=ps.map (λp=>.tup [.str p.1,p.2])):aC ya 1 1 [.tup [.tup kf,.tup rf]]=.ok (.tup (ps.map (·.2))):=by
 have hl':ps.length<=100:=by have:=congrArg List.length e;rw[IZ,IH]at this;omega
 have f0:cS [none] (aY (f2 aJ (f2 ai (aa 0) (fC (.int 0))) (f2 ai (aa 0) (fC (.int 1))))) (gN 0) aU (f2 ai (aa 0) (fC (.int 1))) [some (.val (.tup [.tup kf,.tup rf]))]=.ok (.lst (ps.map (·.2))):=by
  refine bh (ds:=ps.map (λp=>.tup [.str p.1,p.2])) ?_ (by rw[IH];omega) ?_
  ·simp! only[];rw[cu _ _ ‹0›,e];simp! only[]
  ·refine cU _ _ ps λp _=>⟨_,rfl,rfl,?_⟩
   simp! only[]
 rw[du];unfold ya;simp! only[f0]
inductive F2{α β:Type}(R:α->β->Prop):List α->List β->Prop where
 |nil:F2 R [] []
 |cons {a:α} {b:β} {as:List α} {bs:List β} (h:R a b) (t:F2 R as bs):F2 R (a::as) (b::bs)
theorem F2.length{α β:Type}{R:α->β->Prop}:∀{as:List α}{bs:List β},F2 R as bs->as.length=bs.length
 |_,_,.nil=>rfl
 |_,_,.cons _ t=>by rw[IE,IE,t.length]
theorem F2.imp{α β:Type}{R S:α->β->Prop}(f:∀a b,R a b->S a b):∀{as:List α}{bs:List β},F2 R as bs->F2 S as bs
 |_,_,.nil=>.nil
 |_,_,.cons h t=>.cons (f _ _ h) (t.imp f)
theorem F2.take{α β:Type}{R:α->β->Prop}:∀(m:Nat){as:List α}{bs:List β},F2 R as bs->F2 R (as.take m) (bs.take m)
 |0,_,_,_=>by rw[Jj,Jj];exact .nil
 |m+1,_,_,.nil=>by rw[Jk,Jk];exact .nil
 |m+1,_,_,.cons h t=>by rw[Jl,Jl];exact .cons h (t.take m)
theorem F2.drop{α β:Type}{R:α->β->Prop}:∀(m:Nat){as:List α}{bs:List β},F2 R as bs->F2 R (as.drop m) (bs.drop m)
 |0,_,_,h=>by rw[Jm,Jm];exact h
 |m+1,_,_,.nil=>by rw[Jn,Jn];exact .nil
 |m+1,_,_,.cons h t=>by rw[Jo,Jo];exact t.drop m
theorem F2.get{α β:Type}{R:α->β->Prop}:∀{as:List α}{bs:List β}{i:Nat}{a:α}{b:β},F2 R as bs->as[i]?=some a->bs[i]?=some b->R a b
 |_,_,0,_,_,.cons h _,e1,e2=>by cases e1;cases e2;exact h
 |_,_,i+1,_,_,.cons _ t,e1,e2=>by rw[JL]at e1 e2;exact t.get e1 e2
theorem F2.of{α β:Type}{R:α->β->Prop}:∀{as:List α}{bs:List β},as.length=bs.length->(∀(i:Nat)(a:α)(b:β),as[i]?=some a->bs[i]?=some b->R a b)->F2 R as bs
 |[],[],_,_=>.nil
 |a::as,b::bs,l,h=>.cons (h 0 a b rfl rfl) (F2.of (by simpa using l) λi x y e1 e2=>h (i+1) x y (by rw[JL];exact e1) (by rw[JL];exact e2))
theorem F2.append{α β:Type}{R:α->β->Prop}:∀{as cs:List α}{bs ds:List β},F2 R as bs->F2 R cs ds->F2 R (as++cs) (bs++ds)
 |_,_,_,_,.nil,h=>h
 |_,_,_,_,.cons h t,h'=>.cons h (t.append h')
theorem F2.mem{α β:Type}{R:α->β->Prop}{b:β}:∀{as:List α}{bs:List β},F2 R as bs->b∈bs->∃a∈as,R a b
 |_,_,.nil,h=>nomatch h
 |_,_,.cons h t,hb=>by
  rcases List.mem_cons.mp hb with rfl|z
  ·exact⟨_,Il,h⟩
  ·obtain⟨a,h1,h2⟩:=t.mem z;exact⟨a,Im _ h1,h2⟩
theorem qT{ρ:ao}{g:GF}{C:bj}{Fe:FX}:∀(ds:List D)(P:Nat->D->Prop),(∀i d,ds[i]?=some d->∃ρ1 v,g d ρ=some ρ1/\C ρ1=.ok true/\Fe ρ1=.ok v/\P i v)->∃vs:List D,vs.length=ds.length/\(∀i v,vs[i]?=some v->P i v)/\mD ρ g C Fe ds=.ok vs
 |[],_,_=>⟨[],rfl,(λ_ _ h=>nomatch h),rfl⟩
 |d::ds,P,h=>by
  obtain⟨ρ1,w,h1,h2,h3,h4⟩:=h 0 d rfl;obtain⟨ws,e1,e2,e3⟩:=qT (ρ:=ρ) (g:=g) (C:=C) (Fe:=Fe) ds (λi v=>P (i+1) v) λi d' hd=>h (i+1) d' (by rw[JL];exact hd);refine⟨w::ws,by rw[IE,IE,e1],λi v hv=>?_,?_⟩
  ·cases i with
   |zero=>cases hv;exact h4
   |succ i=>rw[JL]at hv;exact e2 i v hv
  ·rw[iN,h1,de,dj,h2,ic,dj,h3,ic,dj,e3];rfl
theorem qx:∀{σ:List Bool}{a b:List D},Sh σ a->Sh σ b->(pyEqL a b=true↔a=b)
 |_,_,_,.nil,.nil=>by unfold pyEqL;simp
 |_,_,_,.int i h,.int j h'=>by
  unfold pyEqL pyEq;rw[Jb,qx h h'];simp
 |_,_,_,.str i h,.str j h'=>by
  unfold pyEqL pyEq;rw[Jb,qx h h'];simp
theorem sA:∀{σ:List Bool}{a:List D},Sh σ a->dk a=true
 |_,_,.nil=>rfl
 |_,_,.int i h=>by
  show(pl (.int i)&&dk _)=true;rw[sA h];rfl
 |_,_,.str i h=>by
  show(pl (.str i)&&dk _)=true;rw[sA h];rfl
theorem rL:∀{σ:List Bool}{a:List D}(n:Nat),Sh σ a->a.all (a9 (n+1))=true
 |_,_,_,.nil=>rfl
 |_,_,n,.int i h=>by rw[Jp,rL n h];rfl
 |_,_,n,.str i h=>by rw[Jp,rL n h];rfl
theorem BK{σ:List Bool}{a b:List D}(h:Sh σ a)(h':Sh σ b):dm (.tup a) (.tup b)=some (.bl (kLt a b)):=by
 show(if iq a&&iq b then(cA a b).bind λr=>some (D.bl r)else none)=_;rw[kG h,kG h'];show((cA a b).bind λr=>some (D.bl r))=_;unfold kLt;rcases zr h h' with⟨e,_⟩|e|⟨_,e,_⟩
 ·rw[e];rfl
 ·subst e;rw[kL h];rfl
 ·rw[e];rfl
theorem xo{σ:List Bool}{a b:List D}(h:Sh σ a)(h':Sh σ b):j3 (.tup a) (.tup b)=some (.bl (!pyEqL a b)):=by
 have e:j3 (.tup a) (.tup b)=if(pl (.tup a)&&pl (.tup b))&&(a9 8 (.tup a)||a9 8 (.tup b))then some (.bl (!pyEq (.tup a) (.tup b)))else none:=rfl
 have d:a9 8 (.tup a)=true:=by show a.all (a9 7)=true;exact rL 6 h
 rw[e,a7,a7,sA h,sA h',d];show some (D.bl (!pyEq (.tup a) (.tup b)))=_;rw[pyEq]
end TG
namespace TD
open PySem PySem.Spec L2 TG TX
noncomputable def a5:bB:=ak (aG 2 (f2 aW (f2 aJ (f2 aJ (f2 aJ (f2 hX (f2 aW (aa 0) (fC (.int 2147483647))) (fC (.int 48271))) (f2 hX (f2 hX (fC (.int 7919)) (aa 1)) (aa 1))) (f2 hX (fC (.int 101)) (aa 1))) (fC (.int 11))) (fC (.int 2147483629)))) (ak (aG 2 (f2 aW (f2 aJ (f2 hX (aa 2) (fC (.int 69621))) (f2 hX (fC (.int 7)) (aa 1))) (fC (.int 2147483587)))) (aL (f2 aJ (aa 2) (f2 hX (fC (.int 2147483587)) (f2 aW (f2 bE (aa 0) (f2 aJ (aa 1) (fC (.int 2)))) (f2 jS (fC (.int 10)) (fC (.int 61))))))))
noncomputable def bu:bB:=ak (aG 1 (fC (.str "abcdefghijklmnopqrstuvwxyz"))) (ak (aG 2 (f2 aJ (fC (.int 1)) (f2 aW (f2 bE (aa 0) (fC (.int 4))) (fC (.int 3))))) (ak (cQ (fB (f2 cD (f2 aW (aa 0) (fC (.int 4))) (fC (.int 1)))) (aG 2 (f2 aJ (fC (.int 1)) (f2 aW (f2 bE (aa 0) (fC (.int 4))) (fC (.int 12))))) aX) (ak (aG 3 (f7 (fC (.str "")) (af (cS [none,some 1,some 0] (aT (af (fC (.int 8)) ah)) (gN 0) aU (f2 ai (aa 1) (f2 aW (fR (aC a5 2 3) (af (aa 2) (af (f2 aJ (fC (.int 20)) (aa 0)) ah))) (fC (.int 26))))) ah))) (ak (cQ (jn (fB (f2 cD (f2 aW (f2 bE (aa 0) (fC (.int 48))) (fC (.int 4))) (fC (.int 1)))) (fB (f2 dm (aa 2) (fC (.int 10))))) (aL (fL cg (af (cS [none,some 3] (aT (af (aa 2) ah)) (gN 0) aU (aK (aa 1) aD (aO (aa 0)))) ah))) aX) (ak (aG 4 (f2 aW (f2 bE (aa 0) (fC (.int 192))) (fC (.int 8)))) (ak (aG 5 (f2 aW (f2 bE (aa 0) (fC (.int 1536))) (f2 eB (fC (.int 27)) (aa 2)))) (ak (aG 6 (f2 aJ (f2 aJ (aa 4) (fC (.int 1))) (f2 aW (f2 bE (aa 0) (fC (.int 7))) (f2 eB (fC (.int 8)) (aa 4))))) (aL (fL cg (af (cS [none,some 3,some 4,some 1,some 5,some 6] (aT (af (aa 2) ah)) (gN 0) aU (f2 aJ (f2 aJ (aK (aa 1) aD (aO (aa 2))) (f2 ai (aa 3) (f2 aJ (aa 4) (aa 0)))) (aK (aa 1) (aO (f2 aJ (aa 2) (fC (.int 1)))) (aO (aa 5))))) ah))))))))))
noncomputable def bO:bB:=ak (aG 2 (fC (.str "abcdefghijklmnopqrstuvwxyz"))) (ak (aG 3 (cS [none,some 2,some 0] (aT (af (fC (.int 8)) ah)) (gN 0) aU (f2 ai (aa 1) (f2 aW (fR (aC a5 2 3) (af (aa 2) (af (aa 0) ah))) (fC (.int 26)))))) (ak (cQ (jn (fB (f2 cD (f2 aW (f2 bE (aa 0) (fC (.int 5))) (fC (.int 4))) (fC (.int 1)))) (fB (f2 dm (aa 1) (fC (.int 9))))) (aL (cS [none,some 3] (aT (af (aa 1) ah)) (gN 0) aU (f7 (fC (.str "")) (af (aK (aa 1) aD (aO (f2 aJ (aa 0) (fC (.int 1))))) ah)))) aX) (ak (aG 4 (f2 aJ (fC (.int 1)) (f2 aW (aa 0) (fC (.int 8))))) (ak (aG 5 (f2 aW (f2 bE (aa 0) (fC (.int 8))) (aa 4))) (ak (aG 6 (f2 ai (fP (af (fC (.int 1)) (af (fC (.int 5)) (af (fC (.int 7)) (af (fC (.int 11)) (af (fC (.int 17)) (af (fC (.int 25)) ah))))))) (f2 aW (fR (aC a5 2 3) (af (aa 0) (af (fC (.int 9)) ah))) (fC (.int 6))))) (ak (kd 7 (fP ah)) (ak (lu (aT (af (aa 1) ah)) (gN 8) (ak (aG 9 (f2 ai (aa 2) (f2 aW (f2 aJ (f2 bE (aa 0) (fC (.int 64))) (f2 hX (aa 8) (aa 6))) (fC (.int 26))))) (ak (vt 7 oN (af (f2 aJ (f2 aJ (f7 (fC (.str "")) (af (aK (aa 3) aD (aO (aa 5))) ah)) (aa 9)) (f7 (fC (.str "")) (af (aK (aa 3) (aO (f2 aJ (aa 5) (fC (.int 1)))) (aO (aa 4))) ah))) ah)) (dN [8,9] aX)))) (mq 7 (aL (aa 7))))))))))
noncomputable def c9:bB:=ak (aG 1 (fR (aC bO 2 10) (af (aa 0) (af (fC (.int 2)) ah)))) (ak (aG 2 (f2 eB (f2 aW (f2 bE (aa 0) (fC (.int 9))) (fC (.int 5))) (fC (.int 2)))) (ak (aG 3 (cz (af (cz (af (f2 ai (aa 1) (fC (.int 0))) (af (cz (af (fC (.str "number")) (af (aa 2) (af (f2 aJ (aa 2) (f2 aW (f2 bE (aa 0) (fC (.int 45))) (fC (.int 4)))) ah)))) ah))) ah))) (ak (cQ (fB (f2 cD (f2 aW (aa 0) (fC (.int 2))) (fC (.int 1)))) (aL (cz (af (aa 3) (af (cz ah) ah)))) aX) (aL (cz (af (aa 3) (af (cz (af (cz (af (f2 ai (aa 1) (fC (.int 1))) (af (cz (af (fC (.str "word")) (af (fR (aC bu 1 7) (af (f2 bE (aa 0) (fC (.int 2))) ah)) ah))) ah))) ah)) ah)))))))
noncomputable def bw:bB:=ak (aG 2 (f2 bE (aa 0) (fC (.int 6)))) (ak (cQ (fB (f2 dm (f2 aW (aa 0) (fC (.int 6))) (fC (.int 2)))) (ak (aG 3 (f2 eB (f2 aW (aa 2) (fC (.int 25))) (fC (.int 12)))) (aL (cz (af (fC (.str "number")) (af (aa 3) (af (f2 aJ (aa 3) (f2 aW (f2 bE (aa 2) (fC (.int 25))) (fC (.int 10)))) ah)))))) aX) (ak (cQ (fB (f2 cD (f2 aW (aa 0) (fC (.int 6))) (fC (.int 2)))) (ak (aG 3 (f2 eB (f2 aW (aa 2) (f2 hX (fC (.int 2)) (f2 jS (fC (.int 10)) (fC (.int 59))))) (f2 jS (fC (.int 10)) (fC (.int 59))))) (aL (cz (af (fC (.str "number")) (af (aa 3) (af (f2 aJ (aa 3) (f2 aW (f2 bE (aa 2) (fC (.int 3))) (f2 jS (fC (.int 10)) (fC (.int 59))))) ah)))))) aX) (ak (cQ (jn (fB (f2 cD (f2 aW (aa 0) (fC (.int 6))) (fC (.int 5)))) (bD (aa 1))) (aL (cz (af (fC (.str "rows")) (af (fR (aC c9 1 4) (af (aa 2) ah)) (af (f2 cD (f2 aW (aa 2) (fC (.int 2))) (fC (.int 1))) ah))))) aX) (aL (cz (af (fC (.str "word")) (af (fR (aC bu 1 7) (af (aa 2) ah)) ah)))))))
noncomputable def aF:bB:=ak (cQ (fB (f2 dm (aa 1) (fL b9 (af (aa 0) ah)))) (aL (f2 ai (aa 0) (aa 1))) aX) (aL (fC (.int 0)))
noncomputable def eG:bB:=aL (fL cg (af (cS [none] (aY (f2 aJ (f2 ai (aa 0) (fC (.int 0))) (f2 ai (aa 0) (fC (.int 1))))) (gN 0) aU (f2 ai (aa 0) (fC (.int 0)))) ah))
noncomputable def cG:bB:=aL (f2 aJ (f2 aJ (aK (aa 0) aD (aO (aa 1))) (aa 2)) (aK (aa 0) (aO (f2 aJ (aa 1) (fC (.int 1)))) aD))
noncomputable def eY:bB:=aL (f2 dm (aa 1) (fL b9 (af (f2 ai (aa 0) (fC (.int 0))) ah)))
noncomputable def cx:bB:=ak (cQ (bD (fR (aC eY 2 2) (af (aa 0) (af (aa 1) ah)))) (aL (cz (af (fR (aC cG 3 3) (af (f2 ai (aa 0) (fC (.int 0))) (af (aa 1) (af (aa 2) ah)))) (af (f2 ai (aa 0) (fC (.int 1))) ah)))) aX) (aL (cz (af (f2 ai (aa 0) (fC (.int 0))) (af (fR (aC cG 3 3) (af (f2 ai (aa 0) (fC (.int 1))) (af (f2 eB (aa 1) (fL b9 (af (f2 ai (aa 0) (fC (.int 0))) ah))) (af (aa 2) ah)))) ah))))
noncomputable def cX:bB:=aL (fL cg (af (cS [none] (aY (f2 aJ (f2 ai (aa 0) (fC (.int 0))) (f2 ai (aa 0) (fC (.int 1))))) (gN 0) aU (f2 ai (aa 0) (fC (.int 1)))) ah))
noncomputable def jr(bS:cB):bB:=ak (cQ (fB (f2 cD (f2 ai (aa 0) (fC (.int 0))) (fC (.str "number")))) (aL (f2 ai (aa 0) (fC (.int 1)))) aX) (ak (cQ (fB (f2 cD (f2 ai (aa 0) (fC (.int 0))) (fC (.str "word")))) (aL (f2 ai (f2 ai (aa 0) (fC (.int 1))) (fC (.int 0)))) aX) (ak (cQ (eJ (bD (f2 ai (aa 0) (fC (.int 2))))) (aL (cz ah)) aX) (aL (cz (af (fL cg (af (cS [none] (aY (fR (aC cX 1 1) (af (f2 ai (aa 0) (fC (.int 1))) ah))) (gN 0) aU (fR bS (af (aa 0) ah))) ah)) ah)))))
noncomputable def bS:Nat->cB
 |0=>λ_=>un
 |n+1=>aC (jr (bS n)) 1 1
theorem dS(n:Nat):bS (n+1)=aC (jr (bS n)) 1 1:=by rw[bS]
theorem k9:∀n:Nat,Ar 1 (bS n)
 |0=>λ_ h=>absurd (by rw[bS]) h
 |n+1=>by rw[dS];exact fv
noncomputable def dJ:bB:=aL (f2 ai (fR (bS 12) (af (cz (af (fC (.str "rows")) (af (aa 0) (af (fC (.bl true)) ah)))) ah)) (fC (.int 0)))
noncomputable def dX:bB:=aL (f2 ai (f2 ai (f2 aJ (f2 ai (aa 0) (fC (.int 0))) (f2 ai (aa 0) (fC (.int 1)))) (aa 1)) (fC (.int 1)))
end TD
namespace TD
open PySem PySem.Spec L2 TG
local macro_rules
 |`(tactic| simp! only[$xs,*])=>`(tactic| simp only[dj,sy,tL,rR,ic,de,ge_0,Aw,nY,zR,lF,iM,o9,lm,zZ,zD,zu,yM,Ax,oo,oE,tS,i6,kQ,oJ,kO,sr,oX,oK,kA,lG,jl,om,jw,gh,gQ,gL,oH,kj,gY,kJ,jt,kI,kC,dR,kE,jv,o7,iK,ju,eL,kx,kR,Aq,tQ,zX,yR,yK,nX,km,pB,kz,kD,Ay,zI,Ke,Kf,IG,Je,Ji,Jy,K0,env0,List.replicate,JV,IL,JP,Nat.reduceAdd,Nat.reduceSub,IE,JY,oV,pC,tx,pp,pf,oU,gP,oO,sY,se,sS,o8,i5,iZ,iF,iW,jf,i9,qf,si,su,tq,tK,sj,jg,iS,fm,fq,oB,gX,fF,fU,fK,oy,n5,eF,fM,iV,iY,kh,kN,je,kt,ph,oQ,kS,kH,gN,if_true,if_false,Kg,Kh,Jh,$xs,*])
theorem Fd(ns:List Int)(i:Int)(h:0<=i):∃c:Int,aC aF 2 2 [.lst (ns.map .int),.int i]=.ok (.int c):=wz ns i h
noncomputable def Ez:Int:=10^61
theorem CO:jS (.int 10) (.int 61)=some (.int Ez):=xW 10 61 (by decide) (by decide)
theorem DA:1000000<Ez:=by decide +kernel
theorem gR(c j:Int)(h0:0<=j)(h1:j<=1000):∃r:Int,0<=r/\aC a5 2 3 [.int c,.int j]=.ok (.int r):=by
 have p:=DA;have m1:=λi=>kU (i:=i) (j:=48271) (by decide) (by decide);have m2:=λi=>gK (i:=7919) (j:=i) (by decide) (by decide);have m3:=λi=>kU (i:=i) (j:=j) ‹0› ‹0›;have m4:=λi=>gK (i:=101) (j:=i) (by decide) (by decide);have m5:=λi=>kU (i:=i) (j:=69621) (by decide) (by decide);have m6:=λi=>gK (i:=7) (j:=i) (by decide) (by decide);have m7:=λi=>gK (i:=2147483587) (j:=i) (by decide) (by decide);have g1:=λi=>aI (i:=i) (show(0:Int)<2147483647 by decide);have g2:=λi=>aI (i:=i) (show(0:Int)<2147483629 by decide);have g3:=λi=>aI (i:=i) (show(0:Int)<2147483587 by decide);have g4:=λi=>aI (i:=i) (show(0:Int)<Ez by omega);have d1:=λi=>a8 (i:=i) (j:=j+2) ‹0› (by
  have:(10:Int)^200>1000000:=by decide +kernel
  omega)
 rw[bc];unfold a5;simp! only[m1,m2,m3,m4,m5,m6,m7,g1,g2,g3,g4,d1,CO];refine⟨_,?_,rfl⟩;have q1:=Ki (((c%2147483647*48271+7919*j*j+101*j+11)%2147483629)*69621+7*j) (show(2147483587:Int)≠0 by decide);have q2:=Ki (c/(j+2)) (show Ez≠0 by omega);omega
theorem sP:∀bs:List Bool,allB (bs.map .bl)=some (bs.all id)
 |[]=>rfl
 |b::bs=>by
  show(allB (bs.map .bl)).bind (λc=>some (b&&c))=_;rw[sP bs];rfl
theorem zU(bs:List Bool):fS [.lst (bs.map .bl)]=some (.bl (bs.all id)):=by
 have e:fS [.lst (bs.map .bl)]=(allB (bs.map .bl)).bind λb=>some (D.bl b):=rfl;rw[e,sP];rfl
theorem lY(x:Str)(h:x.length<=1000)(i:Int)(h0:0<=i)(h1:i<x.length):ai (.str x) (.int i)=some (.str ⟨#[x.cps.toList.getD i.toNat 0]⟩):=by
 have hl:x.cps.toList.length=x.length:=by simp[Str.length]
 have hi:i<x.cps.toList.length:=by omega
 show(if small x.length then(iC x.cps.toList i).bind λc=>some (D.str ⟨#[c]⟩)else none)=_;have e:x.cps.toList.getD i.toNat 0=x.cps.toList[i.toNat]'‹0›:=by
  rw[J8,Jr ‹0›];rfl
 rw[cI ‹0›,if_pos rfl,nU h0 hi,e];rfl
theorem sZ{a b x y:Str}(h:a++x++b=a++y++b):x=y:=by
 have h1:(a.cps++x.cps)++b.cps=(a.cps++y.cps)++b.cps:=congrArg Str.cps h;have h2:=congrArg Array.toList h1;rw[Array.toList_append,Array.toList_append,Array.toList_append,Array.toList_append]at h2;have h3:=List.append_cancel_left (List.append_cancel_right h2);exact pI h3
theorem oS(n:Nat):∀vs:List D,(∀v∈vs,∃w:Str,v=.str w/\w.length=n)->∃ws:al,vs=ws.map .str/\(ws.map λy=>y.length).sum=n*ws.length
 |[],_=>⟨[],rfl,rfl⟩
 |v::vs,h=>by
  obtain⟨w,rfl,hw⟩:=h v Il;obtain⟨ws,rfl,h2⟩:=oS n vs λv' hv=>h v' (Im _ hv);refine⟨w::ws,rfl,?_⟩;rw[IG,Kc,h2,hw,IE,Nat.mul_succ,JW]
theorem yp(c:Int):∃ws:al,ws≠[]/\ws.length<=12/\(∀w∈ws,w.length<=20)/\ws.Nodup/\aC bu 1 7 [.int c]=.ok (.tup (ws.map .str)):=by
 have LL:(("abcdefghijklmnopqrstuvwxyz":Str)).length=26:=by decide +kernel
 have LN:(("abcdefghijklmnopqrstuvwxyz":Str)).cps.toList.Nodup:=by decide +kernel
 generalize hL:("abcdefghijklmnopqrstuvwxyz":Str)=L at LL LN;have r8:cV [.int 8]=some (bq 0 8):=dz 8 (by decide);have g3:=λi=>aI (i:=i) (show(0:Int)<3 by decide);have g4:=λi=>aI (i:=i) (show(0:Int)<4 by decide);have g8:=λi=>aI (i:=i) (show(0:Int)<8 by decide);have g12:=λi=>aI (i:=i) (show(0:Int)<12 by decide);have g26:=λi=>aI (i:=i) (show(0:Int)<26 by decide);have d4:=λi=>a8 (i:=i) (show(0:Int)<4 by decide) (show(4:Int)<10^200 by decide);have d7:=λi=>a8 (i:=i) (show(0:Int)<7 by decide) (show(7:Int)<10^200 by decide);have d48:=λi=>a8 (i:=i) (show(0:Int)<48 by decide) (show(48:Int)<10^200 by decide);have d192:=λi=>a8 (i:=i) (show(0:Int)<192 by decide) (show(192:Int)<10^200 by decide);have d1536:=λi=>a8 (i:=i) (show(0:Int)<1536 by decide) (show(1536:Int)<10^200 by decide);have full:∀r:Int,∃x:Str,x.length=8/\f7 (fC (.str "")) (af (cS [none,some 1,some 0] (aT (af (fC (.int 8)) ah)) (gN 0) aU (f2 ai (aa 1) (f2 aW (fR (aC a5 2 3) (af (aa 2) (af (f2 aJ (fC (.int 20)) (aa 0)) ah))) (fC (.int 26))))) ah) [some (.val (.int c)),some (.val (.str L)),some (.val (.int r)),none,none,none,none]=.ok (.str x):=by
  intro r;obtain⟨vs,v1,v2,v3⟩:∃vs:List D,vs.length=(bq 0 8).length/\(∀v∈vs,∃w:Str,v=.str w/\w.length=1)/\mD (inB [none,some 1,some 0] [some (.val (.int c)),some (.val (.str L)),some (.val (.int r)),none,none,none,none]) (gN 0) aU (f2 ai (aa 1) (f2 aW (fR (aC a5 2 3) (af (aa 2) (af (f2 aJ (fC (.int 20)) (aa 0)) ah))) (fC (.int 26)))) (bq 0 8)=.ok vs:=by
   refine gg (λv=>∃w:Str,v=.str w/\w.length=1) _ λd hd=>?_;obtain⟨k,hk,rfl⟩:=fJ hd;obtain⟨q,hq,eq⟩:=gR c (20+(0+(k:Int))) ‹0› ‹0›;obtain⟨y,hy,e1⟩:=oz L ‹0› (q%26) ‹0› ‹0›;refine⟨_,_,rfl,rfl,?_,y,rfl,hy⟩;simp! only[eq,g26,e1]
  obtain⟨ws,rfl,s1⟩:=oS 1 vs v2;rw[IH,bb]at v1;obtain⟨x,hx,ex⟩:=o6 ws ‹0›;refine⟨x,by omega,?_⟩;have f0:=bh (ix:=[none,some 1,some 0]) (G:=aT (af (fC (.int 8)) ah)) (ρ:=[some (.val (.int c)),some (.val (.str L)),some (.val (.int r)),none,none,none,none]) (by simp! only[r8]) (by rw[bb];decide) v3;simp! only[kP,f0,ex]
 obtain⟨r,r1,r2,er⟩:∃r:Nat,1<=r/\r<=12/\(if c%4=1 then 1+c/4%12 else 1+c/4%3)=(r:Int):=by
  by_cases h:c%4=1
  ·exact⟨(1+c/4%12).toNat,by omega,by omega,by rw[if_pos h];omega⟩
  ·exact⟨(1+c/4%3).toNat,by omega,by omega,by rw[if_neg h];omega⟩
 obtain⟨x,hx,ex⟩:=full r;have er1:=dz r ‹0›;obtain⟨T,hT⟩:∃T:bB,T=(ak (cQ (jn (fB (f2 cD (f2 aW (f2 bE (aa 0) (fC (.int 48))) (fC (.int 4))) (fC (.int 1)))) (fB (f2 dm (aa 2) (fC (.int 10))))) (aL (fL cg (af (cS [none,some 3] (aT (af (aa 2) ah)) (gN 0) aU (aK (aa 1) aD (aO (aa 0)))) ah))) aX) (ak (aG 4 (f2 aW (f2 bE (aa 0) (fC (.int 192))) (fC (.int 8)))) (ak (aG 5 (f2 aW (f2 bE (aa 0) (fC (.int 1536))) (f2 eB (fC (.int 27)) (aa 2)))) (ak (aG 6 (f2 aJ (f2 aJ (aa 4) (fC (.int 1))) (f2 aW (f2 bE (aa 0) (fC (.int 7))) (f2 eB (fC (.int 8)) (aa 4))))) (aL (fL cg (af (cS [none,some 3,some 4,some 1,some 5,some 6] (aT (af (aa 2) ah)) (gN 0) aU (f2 aJ (f2 aJ (aK (aa 1) aD (aO (aa 2))) (f2 ai (aa 3) (f2 aJ (aa 4) (aa 0)))) (aK (aa 1) (aO (f2 aJ (aa 2) (fC (.int 1)))) (aO (aa 5))))) ah))))))):=⟨_,rfl⟩
 have rest:∃ws:al,ws≠[]/\ws.length<=12/\(∀w∈ws,w.length<=20)/\ws.Nodup/\T K0 [some (.val (.int c)),some (.val (.str L)),some (.val (.int r)),some (.val (.str x)),none,none,none]=.ok (.tup (ws.map .str)):=by
  rw[hT];by_cases hb:(c/48%4==1&&decide ((r:Int)<10))=true
  ·obtain⟨y,hy⟩:∃y:Nat->Str,y=λk=>(⟨(x.cps.toList.take k).toArray⟩:Str):=⟨_,rfl⟩
   have yl:∀k,(y k).length=min k 8:=λk=>by
    rw[hy];show(x.cps.toList.take k).toArray.size=_
    have:x.cps.size=8:=hx
    rw[IB,IQ,Array.length_toList,this]
   have v3:mD (inB [none,some 3] [some (.val (.int c)),some (.val (.str L)),some (.val (.int r)),some (.val (.str x)),none,none,none]) (gN 0) aU (aK (aa 1) aD (aO (aa 0))) (bq 0 r)=.ok ((List.range r).map λk=>.str (y k)):=by
    rw[dY];refine cU (λk:Nat=>D.int (0+(k:Int))) (λk=>.str (y k)) (List.range r) λk hk=>⟨_,rfl,rfl,?_⟩
    have e1:eU (.str x) none (some (0+(k:Int)))=some (.str (y k)):=by
     have z:eU (.str x) none (some (0+(k:Int)))=if small x.length then some (.str ⟨(cutD x.cps.toList none (some (0+(k:Int)))).toArray⟩)else none:=rfl
     rw[z,cI ‹0›,Int.zero_add,eT,hy];rfl
    simp! only[e1]
   have hr:decide ((r:Int)<10)=true:=(by rw[Jb]at hb;exact hb.2);have hr:=of_decide_eq_true hr;have f0:=bh (ix:=[none,some 3]) (G:=aT (af (aa 2) ah)) (ρ:=[some (.val (.int c)),some (.val (.str L)),some (.val (.int r)),some (.val (.str x)),none,none,none]) (by simp! only[er1]) (by rw[bb];omega) v3;have em:((List.range r).map y).map D.str=(List.range r).map λk=>.str (y k):=(by rw[Kj];rfl);refine⟨(List.range r).map y,λh=>?_,by rw[IH,JA];omega,λw hw'=>?_,?_,?_⟩
   ·have:=congrArg List.length h
    rw[IH,JA]at this;simp at this;omega
   ·obtain⟨k,_,rfl⟩:=List.mem_map.mp hw';rw[yl];omega
   ·refine List.pairwise_map.mpr (List.nodup_range.imp_of_mem λ{i j} hi hj hne e=>hne ?_)
    have:=congrArg Str.length e
    rw[yl,yl]at this
    have:=List.mem_range.mp hi
    have:=List.mem_range.mp hj
    omega
   rw[em];rw[Jb]at hb;simp! only[d48,g4,hb.1,hb.2,f0]
  ·have hb':(c/48%4==1&&decide ((r:Int)<10))=false:=(by simpa using hb);generalize ha:c/192%8=a;have ha1:0<=a/\a<=7:=(by omega);have m1:=λi=>aI (i:=i) (show(0:Int)<27-r by omega);have m2:=λi=>aI (i:=i) (show(0:Int)<8-a by omega);have b1:=Ki (c/1536) (show 27-(r:Int)≠0 by omega);have b2:=Kk (c/1536) (show 0<27-(r:Int)by omega);generalize hfi:c/1536%(27-(r:Int))=fi at b1 b2;generalize he:a+1+c/7%(8-a)=en;obtain⟨y1,hy1,e1⟩:=eV x ‹0› none (some a);obtain⟨y3,hy3,e3⟩:=eV x ‹0› (some (a+1)) (some en);obtain⟨sg,hsg⟩:∃sg:Nat->Str,sg=λ(j:Nat)=>(⟨#[L.cps.toList.getD (fi+(0+(j:Int))).toNat 0]⟩:Str):=⟨_,rfl⟩
   have sg_len:∀j,(sg j).length=1:=λj=>by rw[hsg];rfl
   have sg_ne:∀i j:Nat,i<r->j<r->sg i=sg j->i=j:=λi j hi hj e=>by
    rw[hsg]at e;have hl:L.cps.toList.length=26:=(by rw[Array.length_toList];exact LL);have e1:L.cps.toList.getD (fi+(0+(i:Int))).toNat 0=L.cps.toList.getD (fi+(0+(j:Int))).toNat 0:=by
     have:=congrArg (λz:Str=>z.cps.toList) e
     simpa using this
    have ha:(fi+(0+(i:Int))).toNat<L.cps.toList.length:=(by omega);have hb:(fi+(0+(j:Int))).toNat<L.cps.toList.length:=(by omega);rw[J8,J8,Jr ha,Jr hb,JG,JG]at e1;have pw:=List.pairwise_iff_getElem.mp LN;rcases Nat.lt_trichotomy i j with q|q|q
    ·exact absurd e1 (pw _ _ ha hb ‹0›)
    ·exact q
    ·exact absurd e1.symm (pw _ _ hb ha ‹0›)
   have v3:mD (inB [none,some 3,some 4,some 1,some 5,some 6] [some (.val (.int c)),some (.val (.str L)),some (.val (.int r)),some (.val (.str x)),some (.val (.int a)),some (.val (.int fi)),some (.val (.int en))]) (gN 0) aU (f2 aJ (f2 aJ (aK (aa 1) aD (aO (aa 2))) (f2 ai (aa 3) (f2 aJ (aa 4) (aa 0)))) (aK (aa 1) (aO (f2 aJ (aa 2) (fC (.int 1)))) (aO (aa 5)))) (bq 0 r)=.ok ((List.range r).map λk=>.str (y1++sg k++y3)):=by
    rw[dY];refine cU (λk:Nat=>D.int (0+(k:Int))) (λk=>.str (y1++sg k++y3)) (List.range r) λk hk=>⟨_,rfl,rfl,?_⟩
    have hk:=List.mem_range.mp hk;have e2:ai (.str L) (.int (fi+(0+(k:Int))))=some (.str (sg k)):=(by rw[hsg];exact lY L ‹0› _ ‹0› ‹0›);have sl:=sg_len k;have a1:=eE y1 (sg k) ‹0› ‹0›;have a2:=eE (y1++sg k) y3 (by rw[dD];omega) ‹0›;simp! only[e1,e2,e3,a1,a2]
   have f0:=bh (ix:=[none,some 3,some 4,some 1,some 5,some 6]) (G:=aT (af (aa 2) ah)) (ρ:=[some (.val (.int c)),some (.val (.str L)),some (.val (.int r)),some (.val (.str x)),some (.val (.int a)),some (.val (.int fi)),some (.val (.int en))]) (by simp! only[er1]) (by rw[bb];omega) v3;have em:((List.range r).map λk=>y1++sg k++y3).map D.str=(List.range r).map λk=>.str (y1++sg k++y3):=(by rw[Kj];rfl);refine⟨(List.range r).map λk=>y1++sg k++y3,λh=>?_,by rw[IH,JA];omega,λw hw'=>?_,?_,?_⟩
   ·have:=congrArg List.length h
    rw[IH,JA]at this;simp at this;omega
   ·obtain⟨k,_,rfl⟩:=List.mem_map.mp hw';rw[dD,dD,sg_len];omega
   ·refine List.pairwise_map.mpr (List.nodup_range.imp_of_mem λ{i j} hi hj hne e=>hne ?_);exact sg_ne i j (List.mem_range.mp hi) (List.mem_range.mp hj) (sZ e)
   rw[em];cases hx1:(c/48%4==1)with
   |false=>simp! only[d48,g4,hx1,d192,g8,ha,d1536,m1,hfi,m2,d7,he,f0]
   |true=>
    rw[hx1,Kl]at hb';simp! only[d48,g4,hx1,hb',d192,g8,ha,d1536,m1,hfi,m2,d7,he,f0]
 obtain⟨ws,w1,w2,wl,wn,w3⟩:=rest;refine⟨ws,w1,w2,wl,wn,?_⟩;rw[du];unfold bu;rw[<-hT];simp only[K0]at w3;by_cases h4:c%4=1
 ·rw[if_pos h4]at er;simp! only[hL,d4,g3,g4,g12,h4,BEq.rfl,er,ex,w3]
 ·rw[if_neg h4]at er;have h4':(c%4==1)=false:=by simp[h4]
  simp! only[hL,d4,g3,g4,g12,h4',er,ex,w3]
theorem uw(c:Int):∃ws:al,ws≠[]/\ws.length<=12/\(∀w∈ws,w.length<=20)/\aC bu 1 7 [.int c]=.ok (.tup (ws.map .str)):=
 let ⟨ws,w1,w2,wl,_,w3⟩:=yp c;⟨ws,w1,w2,wl,w3⟩
theorem wO(c:Int):∃ws:al,ws≠[]/\ws.length<=12/\aC bu 1 7 [.int c]=.ok (.tup (ws.map .str)):=
 let ⟨ws,w1,w2,_,w3⟩:=uw c;⟨ws,w1,w2,w3⟩
theorem xU(c:Int)(n:Nat)(hn:n<=20):∃ws:al,ws.length=n/\(∀w∈ws,w.length<=20)/\(9<=n->ws.Nodup)/\aC bO 2 10 [.int c,.int n]=.ok (.lst (ws.map .str)):=by
 have LL:(("abcdefghijklmnopqrstuvwxyz":Str)).length=26:=by decide +kernel
 have LN:(("abcdefghijklmnopqrstuvwxyz":Str)).cps.toList.Nodup:=by decide +kernel
 generalize hL:("abcdefghijklmnopqrstuvwxyz":Str)=L at LL LN;have r8:cV [.int 8]=some (bq 0 8):=dz 8 (by decide);have rn:=dz n ‹0›;have g4:=λi=>aI (i:=i) (show(0:Int)<4 by decide);have g6:=λi=>aI (i:=i) (show(0:Int)<6 by decide);have g8:=λi=>aI (i:=i) (show(0:Int)<8 by decide);have g26:=λi=>aI (i:=i) (show(0:Int)<26 by decide);have d5:=λi=>a8 (i:=i) (show(0:Int)<5 by decide) (show(5:Int)<10^200 by decide);have d8:=λi=>a8 (i:=i) (show(0:Int)<8 by decide) (show(8:Int)<10^200 by decide);have d64:=λi=>a8 (i:=i) (show(0:Int)<64 by decide) (show(64:Int)<10^200 by decide);obtain⟨vs,v1,v2,v3⟩:∃vs:List D,vs.length=(bq 0 8).length/\(∀v∈vs,∃w:Str,v=.str w/\w.length<=1)/\mD (inB [none,some 2,some 0] [some (.val (.int c)),some (.val (.int n)),some (.val (.str L)),none,none,none,none,none,none,none]) (gN 0) aU (f2 ai (aa 1) (f2 aW (fR (aC a5 2 3) (af (aa 2) (af (aa 0) ah))) (fC (.int 26)))) (bq 0 8)=.ok vs:=by
  refine gg (λv=>∃w:Str,v=.str w/\w.length<=1) _ λd hd=>?_;obtain⟨k,hk,rfl⟩:=fJ hd;obtain⟨q,hq,eq⟩:=gR c (0+(k:Int)) ‹0› ‹0›;obtain⟨y,hy,e1⟩:=oz L ‹0› (q%26) ‹0› ‹0›;refine⟨_,_,rfl,rfl,?_,y,rfl,by omega⟩;simp! only[eq,g26,e1]
 obtain⟨bs,rfl,hb⟩:=oW 1 vs v2;rw[IH,bb]at v1;have f0:=bh (ix:=[none,some 2,some 0]) (G:=aT (af (fC (.int 8)) ah)) (ρ:=[some (.val (.int c)),some (.val (.int n)),some (.val (.str L)),none,none,none,none,none,none,none]) (by simp! only[r8]) (by rw[bb];decide) v3;have part:∀lo hi:cf,∃x:Str,x.length<=8/\ll "" [.lst (cutD (bs.map D.str) lo hi)]=some (.str x):=λlo hi=>by
  have l:=jZ bs lo hi;have s1:=vN 1 (cutD bs lo hi) λw hw=>hb w (w8 hw);obtain⟨x,hx,ex⟩:=o6 (cutD bs lo hi) ‹0›;exact⟨x,by omega,by rw[yN];exact ex⟩
 rw[bc];unfold bO;by_cases hc:(c/5%4==1&&decide ((n:Int)<9))=true
 ·obtain⟨us,u1,u2,u3⟩:∃vs:List D,vs.length=(bq 0 n).length/\(∀v∈vs,∃w:Str,v=.str w/\w.length<=20)/\mD (inB [none,some 3] [some (.val (.int c)),some (.val (.int n)),some (.val (.str L)),some (.val (.lst (bs.map .str))),none,none,none,none,none,none]) (gN 0) aU (f7 (fC (.str "")) (af (aK (aa 1) aD (aO (f2 aJ (aa 0) (fC (.int 1))))) ah)) (bq 0 n)=.ok vs:=by
   refine gg (λv=>∃w:Str,v=.str w/\w.length<=20) _ λd hd=>?_;obtain⟨k,hk,rfl⟩:=fJ hd;obtain⟨x,hx,ex⟩:=part none (some (0+(k:Int)+1));refine⟨_,_,rfl,rfl,?_,x,rfl,by omega⟩;simp! only[kP,ex]
  obtain⟨ws,rfl,hw⟩:=oW 20 us u2;rw[IH,bb]at u1;have f1:=bh (ix:=[none,some 3]) (G:=aT (af (aa 1) ah)) (ρ:=[some (.val (.int c)),some (.val (.int n)),some (.val (.str L)),some (.val (.lst (bs.map .str))),none,none,none,none,none,none]) (by simp! only[rn]) (by rw[bb];omega) u3;rw[Jb]at hc;refine⟨ws,u1,hw,(λh9=>by have:=of_decide_eq_true hc.2;omega),?_⟩;simp! only[hL,f0,d5,g4,hc.1,hc.2,f1]
 ·have hc':(c/5%4==1&&decide ((n:Int)<9))=false:=by simpa using hc
  have lg:0<1+c%8:=by omega
  have gl:=λi=>aI (i:=i) lg;obtain⟨q,hq,eq⟩:=gR c 9 (by decide) (by decide);obtain⟨st,hst,est⟩:∃st:Int,(st=1\/st=5\/st=7\/st=11\/st=17\/st=25)/\ai (.lst [.int 1,.int 5,.int 7,.int 11,.int 17,.int 25]) (.int (q%6))=some (.int st):=by
   rcases(show q%6=0\/q%6=1\/q%6=2\/q%6=3\/q%6=4\/q%6=5 by omega)with z|z|z|z|z|z<;>rw[z]
   ·exact⟨1,by simp,rfl⟩
   ·exact⟨5,by simp,rfl⟩
   ·exact⟨7,by simp,rfl⟩
   ·exact⟨11,by simp,rfl⟩
   ·exact⟨17,by simp,rfl⟩
   ·exact⟨25,by simp,rfl⟩
  have l6:∀a b c d e f:D,j0 [a,b,c,d,e,f]=some (.lst [a,b,c,d,e,f]):=λ_ _ _ _ _ _=>rfl;have ms:=λi=>kU (i:=i) (j:=st) ‹0› ‹0›;generalize hat:c/8%(1+c%8)=at';obtain⟨y1,hy1,e1⟩:=part none (some at');obtain⟨y3,hy3,e3⟩:=part (some (at'+1)) (some (1+c%8));obtain⟨T,hT⟩:∃T:bB,T=(ak (lu (aT (af (aa 1) ah)) (gN 8) (ak (aG 9 (f2 ai (aa 2) (f2 aW (f2 aJ (f2 bE (aa 0) (fC (.int 64))) (f2 hX (aa 8) (aa 6))) (fC (.int 26))))) (ak (vt 7 oN (af (f2 aJ (f2 aJ (f7 (fC (.str "")) (af (aK (aa 3) aD (aO (aa 5))) ah)) (aa 9)) (f7 (fC (.str "")) (af (aK (aa 3) (aO (f2 aJ (aa 5) (fC (.int 1)))) (aO (aa 4))) ah))) ah)) (dN [8,9] aX)))) (mq 7 (aL (aa 7)))):=⟨_,rfl⟩
  obtain⟨sgn,hsgn⟩:∃sgn:Nat->Str,sgn=λ(j:Nat)=>(⟨#[L.cps.toList.getD ((c/64+(0+(j:Int))*st)%26).toNat 0]⟩:Str):=⟨_,rfl⟩
  have sgn_len:∀j,(sgn j).length=1:=λj=>by rw[hsgn];rfl
  have sgn_ne:∀i j:Nat,i<j->j<20->sgn i≠sgn j:=λi j hij hj e=>by
   rw[hsgn]at e;have hl:L.cps.toList.length=26:=(by rw[Array.length_toList];exact LL);have e1:L.cps.toList.getD ((c/64+(0+(i:Int))*st)%26).toNat 0=L.cps.toList.getD ((c/64+(0+(j:Int))*st)%26).toNat 0:=by
    have:=congrArg (λz:Str=>z.cps.toList) e
    simpa using this
   have ha:((c/64+(0+(i:Int))*st)%26).toNat<L.cps.toList.length:=(by omega);have hb:((c/64+(0+(j:Int))*st)%26).toNat<L.cps.toList.length:=(by omega);rw[J8,J8,Jr ha,Jr hb,JG,JG]at e1;have ne:((c/64+(0+(i:Int))*st)%26).toNat≠((c/64+(0+(j:Int))*st)%26).toNat:=by
    rcases hst with rfl|rfl|rfl|rfl|rfl|rfl<;>omega
   have pw:=List.pairwise_iff_getElem.mp LN;rcases Nat.lt_or_gt_of_ne ne with q|q
   ·exact pw _ _ ha hb q e1
   ·exact pw _ _ hb ha q e1.symm
  have key:∃ws:al,ws.length=n/\(∀w∈ws,w.length<=20)/\ws.Nodup/\(T K0 [some (.val (.int c)),some (.val (.int n)),some (.val (.str L)),some (.val (.lst (bs.map .str))),some (.val (.int (1+c%8))),some (.val (.int at')),some (.val (.int st)),some (.own (.lst [])),none,none])=.ok (.lst (ws.map .str)):=by
   rw[hT,dR,eL];simp! only[rn];refine gZ (Q:=λr=>∃ws:al,ws.length=n/\(∀w∈ws,w.length<=20)/\ws.Nodup/\r=.ok (.lst (ws.map .str))) (λi ρ=>∃us:al,us.length=i/\(∀w∈us,w.length<=20)/\(∀(j:Nat)(w:Str),us[j]?=some w->w=y1++sgn j++y3)/\ρ=[some (.val (.int c)),some (.val (.int n)),some (.val (.str L)),some (.val (.lst (bs.map .str))),some (.val (.int (1+c%8))),some (.val (.int at')),some (.val (.int st)),some (.own (.lst (us.map .str))),none,none]) ?_ ?_ ?_
   ·rintro i d ρ k' hd ⟨us,u1,u2,u3,rfl⟩;have hi:=c6 hd;rw[bb]at hi;have hdi:d=.int (0+(i:Int)):=by
     rw[dY,IV,JC hi]at hd;cases hd;rfl
    subst hdi;have e2:ai (.str L) (.int ((c/64+(0+(i:Int))*st)%26))=some (.str (sgn i)):=(by rw[hsgn];exact lY L ‹0› _ ‹0› ‹0›);have hy2:=sgn_len i;generalize hsg:sgn i=y2 at e2 hy2;have a1:=eE y1 y2 ‹0› ‹0›;have a2:=eE (y1++y2) y3 (by rw[dD];omega) ‹0›;refine⟨_,_,rfl,⟨us++[y1++y2++y3],by simp;omega,?_,?_,rfl⟩,?_⟩
    ·intro w hw;rcases List.mem_append.mp hw with z|z
     ·exact u2 w z
     ·rw[List.mem_singleton.mp z,dD,dD];omega
    ·intro j w hw;rcases J7 j us.length with z|z
     ·rw[IU z]at hw;exact u3 j w hw
     ·have ej:j=i:=by
       have:=c6 hw
       simp at this;omega
      rw[IR z,ej,u1,JU]at hw;cases hw;rw[ej,hsg]
    ·simp only[dR,iK];simp! only[d64,ms,g26,e2];rw[lU _ _ _ _ _ (xs:=us.map .str) rfl];simp! only[kP,e1,e3,a1,a2,qZ (xs:=us.map D.str) (y:=.str (y1++y2++y3)) (by rw[IH];omega),Jz]
   ·exact⟨[],rfl,(λ_ h=>nomatch h),(λ_ _ h=>nomatch h),rfl⟩
   ·rintro ρ' ⟨us,u1,u2,u3,rfl⟩;rw[bb]at u1;refine⟨us,u1,u2,?_,by simp! only[]⟩;refine List.pairwise_iff_getElem.mpr λi j hi hj hij e=>?_;have ei:=u3 i _ (Jr hi);have ej:=u3 j _ (Jr hj);rw[e,ej]at ei;exact sgn_ne i j hij ‹0› (sZ ei.symm)
  obtain⟨ws,w1,w2,wn,w3⟩:=key;refine⟨ws,w1,w2,(λ_=>wn),?_⟩;rw[<-hT];simp only[K0]at w3;cases hx1:(c/5%4==1)with
  |false=>simp! only[hL,f0,d5,g4,hx1,g8,d8,gl,hat,l6,eq,g6,est,DZ,w3]
  |true=>
   rw[hx1,Kl]at hc';simp! only[hL,f0,d5,g4,hx1,hc',g8,d8,gl,hat,l6,eq,g6,est,DZ,w3]
noncomputable def ii(d:D):Prop:=(∃lo hi:Int,lo<=hi/\-Ba<lo/\hi<Ba/\d=.tup [.str "number",.int lo,.int hi])\/∃ws:al,ws≠[]/\ws.length<=12/\d=.tup [.str "word",.tup (ws.map .str)]
noncomputable def mh:Nat->D->Prop
 |0,d=>ii d
 |n+1,d=>ii d\/∃(kf rf:List D)(b:Bool),d=.tup [.str "rows",.tup [.tup kf,.tup rf],.bl b]/\1<=kf.length/\kf.length+rf.length<=20/\(∀f∈kf,∃nm k,f=.tup [.str nm,k]/\ii k)/\∀f∈rf,∃nm k,f=.tup [.str nm,k]/\mh n k
noncomputable def HM(n:Nat)(d:D):Prop:=∃kf rf:List D,d=.tup [.tup kf,.tup rf]/\1<=kf.length/\kf.length+rf.length<=20/\(∀f∈kf,∃nm k,f=.tup [.str nm,k]/\ii k)/\∀f∈rf,∃nm k,f=.tup [.str nm,k]/\mh n k
theorem ii.kin{n:Nat}{d:D}(h:ii d):mh n d:=by
 cases n with
 |zero=>exact h
 |succ n=>exact .inl h
theorem xf(c:Int):∃f,HM 0 f/\aC c9 1 4 [.int c]=.ok f:=by
 have p2:=A7;obtain⟨ns,n1,n2,_,en⟩:=xU c 2 (by decide);obtain⟨a,b,rfl⟩:∃a b,ns=[a,b]:=by
  match ns,n1 with
  |[a,b],_=>exact⟨a,b,rfl⟩
 have en':aC bO 2 10 [.int c,.int 2]=.ok (.lst [.str a,.str b]):=en;obtain⟨ws,w1,w2,ew⟩:=wO (c/2);have g2:=λi=>aI (i:=i) (show(0:Int)<2 by decide);have g4:=λi=>aI (i:=i) (show(0:Int)<4 by decide);have g5:=λi=>aI (i:=i) (show(0:Int)<5 by decide);have d2:=λi=>a8 (i:=i) (show(0:Int)<2 by decide) (show(2:Int)<10^200 by decide);have d9:=λi=>a8 (i:=i) (show(0:Int)<9 by decide) (show(9:Int)<10^200 by decide);have d45:=λi=>a8 (i:=i) (show(0:Int)<45 by decide) (show(45:Int)<10^200 by decide);have hk:∀f∈[D.tup [.str a,.tup [.str "number",.int (c/9%5-2),.int (c/9%5-2+c/45%4)]]],∃nm k,f=.tup [.str nm,k]/\ii k:=λf hf=>by
  rw[List.mem_singleton.mp hf];exact⟨_,_,rfl,.inl ⟨_,_,by omega,by omega,by omega,rfl⟩⟩
 rw[du];unfold c9;by_cases h:c%2=1
 ·refine⟨_,⟨_,[],rfl,by simp,by simp,hk,λ_ h=>nomatch h⟩,?_⟩;simp! only[en',d9,g5,d45,g4,g2,h,BEq.rfl,B7,EJ,vy,yy]
 ·have h':(c%2==1)=false:=by simp[h]
  refine⟨_,⟨_,[.tup [.str b,.tup [.str "word",.tup (ws.map .str)]]],rfl,by simp,by simp,hk,λf hf=>?_⟩,?_⟩
  ·rw[List.mem_singleton.mp hf];exact⟨_,_,rfl,.inr ⟨ws,w1,w2,rfl⟩⟩
  ·simp! only[en',d9,g5,d45,g4,g2,d2,h',ew,B7,EJ,vy,yy]
noncomputable def ke(k v:D):Prop:=(∃lo hi i:Int,k=.tup [.str "number",.int lo,.int hi]/\lo<=i/\i<=hi/\v=.int i)\/∃(ws:al)(w:Str),k=.tup [.str "word",.tup (ws.map .str)]/\w∈ws/\v=.str w
theorem F2.keySh{kf:List D}:∀{ks:List D},(∀k∈ks,ii k)->∃σ:List Bool,∀vs,F2 ke ks vs->Sh σ vs
 |[],_=>⟨[],λvs h=>by cases h;exact .nil⟩
 |k::ks,h=>by
  obtain⟨σ,hσ⟩:=F2.keySh (kf:=kf) (ks:=ks) λx hx=>h x (Im _ hx);rcases h k Il with⟨lo,hi,h1,h2,h3,rfl⟩|⟨ws,w1,w2,rfl⟩
  ·refine⟨true::σ,λvs hv=>?_⟩;cases hv with
   |cons q t=>
    rcases q with⟨_,_,i,_,_,_,rfl⟩|⟨_,_,e,_⟩
    ·exact .int i (hσ _ t)
    ·cases e
  ·refine⟨false::σ,λvs hv=>?_⟩;cases hv with
   |cons q t=>
    rcases q with⟨_,_,i,e,_⟩|⟨_,w,_,_,rfl⟩
    ·cases e
    ·exact .str w (hσ _ t)
theorem jR{n:Nat}:∀(fs:List D),(∀f∈fs,∃nm k,f=.tup [.str nm,k]/\mh n k)->∃ps:dq,fs=ps.map (λp=>.tup [.str p.1,p.2])/\∀p∈ps,mh n p.2
 |[],_=>⟨[],rfl,λ_ h=>nomatch h⟩
 |f::fs,h=>by
  obtain⟨nm,k,rfl,q⟩:=h f Il;obtain⟨ps,rfl,q2⟩:=jR (n:=n) fs λx hx=>h x (Im _ hx);refine⟨(nm,k)::ps,rfl,λp hp=>?_⟩;rcases List.mem_cons.mp hp with rfl|z
  ·exact q
  ·exact q2 p z
theorem xJ{n:Nat}{kf rf:List D}(hk:∀f∈kf,∃nm k,f=.tup [.str nm,k]/\ii k)(hr:∀f∈rf,∃nm k,f=.tup [.str nm,k]/\mh n k):
  ∃ps:dq,kf++rf=ps.map (λp=>.tup [.str p.1,p.2])/\ps.length=kf.length+rf.length/\(∀p∈ps,mh n p.2)/\∀k∈(ps.map (·.2)).take kf.length,ii k:=by
 obtain⟨p1,e1,q1⟩:=jR (n:=n) kf λf hf=>by
  obtain⟨nm,k,e,q⟩:=hk f hf;exact⟨nm,k,e,q.kin⟩
 obtain⟨p2,e2,q2⟩:=jR (n:=n) rf hr;have l1:p1.length=kf.length:=by rw[e1,IH]
 have l2:p2.length=rf.length:=by rw[e2,IH]
 refine⟨p1++p2,by rw[Jz,<-e1,<-e2],by rw[IZ,l1,l2],λp hp=>?_,λk hk'=>?_⟩
 ·rcases List.mem_append.mp hp with z|z
  ·exact q1 p z
  ·exact q2 p z
 ·rw[<-Kb,<-l1,List.take_left'  rfl]at hk';obtain⟨p,hp,rfl⟩:=List.mem_map.mp hk';obtain⟨nm,k,e,q⟩:=hk (.tup [.str p.1,p.2]) (by rw[e1];exact List.mem_map.mpr ⟨p,hp,rfl⟩);cases e;exact q
local macro_rules
 |`(tactic| simp! only[$xs,*])=>`(tactic| simp only[dj,sy,tL,rR,ic,de,ge_0,Aw,nY,zR,lF,iM,o9,lm,zZ,zD,zu,yM,Ax,oo,oE,tS,i6,kQ,oJ,kO,sr,oX,oK,kA,lG,jl,om,jw,gh,gQ,gL,oH,kj,gY,kJ,jt,kI,kC,dR,kE,jv,o7,iK,ju,eL,kx,kR,Aq,tQ,zX,yR,yK,nX,km,pB,kz,kD,Ay,zI,Ke,Kf,IG,Je,Ji,Jy,K0,env0,List.replicate,JV,IL,JP,Nat.reduceAdd,Nat.reduceSub,IE,JY,oV,pC,tx,pp,pf,oU,gP,oO,sY,se,sS,o8,i5,iZ,iF,iW,jf,i9,qf,si,su,tq,tK,sj,jg,iS,fm,fq,oB,gX,fF,fU,fK,oy,n5,eF,fM,iV,iY,kh,kN,je,kt,ph,oQ,kS,kH,gN,if_true,if_false,Kg,Kh,Jh,$xs,*])
theorem nF{g:GF}{B:bB}{k:Ks}{Q:R D->Prop}(Iv:Nat->ao->Prop):∀(ds:List D)(o i:Nat)(ρ:ao)(d:D),ds[i]?=some d->(∀j d ρ (k':Ks),j<i->ds[j]?=some d->Iv (o+j) ρ->∃ρ1 ρ2,g d ρ=some ρ1/\Iv (o+j+1) ρ2/\B k' ρ1=k'.nx ρ2)->Iv o ρ->
  (∀ρ (k':Ks),Iv (o+i) ρ->∃ρ1,g d ρ=some ρ1/\Q (B k' ρ1))->Q (dg g B k ds ρ)
 |[],_,_,_,_,h,_,_,_=>nomatch h
 |x::ds,o,0,ρ,d,h,_,hI,q=>by
  cases h;obtain⟨ρ1,e1,q1⟩:=q ρ ⟨dg g B k ds,k.nx,dg g B k ds,k.ex⟩ hI;show Q ((rO (g x ρ)).bind λρ1=>B ⟨dg g B k ds,k.nx,dg g B k ds,k.ex⟩ ρ1);rw[e1,de,dj];exact q1
 |x::ds,o,i+1,ρ,d,h,st,hI,q=>by
  obtain⟨ρ1,ρ2,e1,h2,e2⟩:=st 0 x ρ ⟨dg g B k ds,k.nx,dg g B k ds,k.ex⟩ ‹0› rfl hI;show Q ((rO (g x ρ)).bind λρ1=>B ⟨dg g B k ds,k.nx,dg g B k ds,k.ex⟩ ρ1);rw[e1,de,dj,e2];refine nF Iv ds (o+1) i ρ2 d (by rw[JL]at h;exact h) (λj d' ρ' k' hj hd hI'=>?_) h2 (λρ' k' hI'=>q ρ' k' (by rw[show o+(i+1)=o+1+i by omega];exact hI'));obtain⟨a,b,c1,c2,c3⟩:=st (j+1) d' ρ' k' ‹0› (by rw[JL];exact hd) (by rw[show o+(j+1)=o+1+j by omega];exact hI');exact⟨a,b,c1,by rw[show o+1+j+1=o+(j+1)+1 by omega];exact c2,c3⟩
noncomputable abbrev fld(p:Str×D):D:=.tup [.str p.1,p.2]
theorem lj(kf rf:List D)(ps:dq)(hl:ps.length<=100)(e:kf++rf=ps.map fld):aC eG 1 1 [.tup [.tup kf,.tup rf]]=.ok (.tup (ps.map λp=>.str p.1)):=by
 have hl':kf.length+rf.length<=100:=by have:=congrArg List.length e;rw[IZ,IH]at this;omega
 have f0:cS [none] (aY (f2 aJ (f2 ai (aa 0) (fC (.int 0))) (f2 ai (aa 0) (fC (.int 1))))) (gN 0) aU (f2 ai (aa 0) (fC (.int 0))) [some (.val (.tup [.tup kf,.tup rf]))]=.ok (.lst (ps.map λp=>.str p.1)):=by
  refine bh (ds:=ps.map fld) ?_ (by rw[IH];omega) ?_
  ·simp! only[];rw[cu _ _ ‹0›,e];simp! only[]
  ·refine cU _ _ ps λp _=>⟨_,rfl,rfl,?_⟩
   simp! only[]
 rw[du];unfold eG;simp! only[f0]
theorem nJ(xs:List D):mP [.tup xs]=some (eA 0 xs):=nr rfl
theorem js:∀(xs:List D)(k i:Nat),(eA k xs)[i]?=(xs[i]?).map λx=>.tup [.int ((k+i:Nat):Int),x]
 |[],k,i=>by simp[eA]
 |x::xs,k,0=>by simp[eA]
 |x::xs,k,i+1=>by
  rw[eA,JL,js xs (k+1) i,JL];congr 1;funext y;rw[show k+1+i=k+(i+1)by omega]
theorem jy(kf rf:List D)(ps:dq)(hl:ps.length<=100)(e:kf++rf=ps.map fld)(i:Nat)(nm:Str)(k:D)(hi:ps[i]?=some (nm,k)):aC dX 2 2 [.tup [.tup kf,.tup rf],.int i]=.ok k:=by
 have hl':kf.length+rf.length<=100:=by have:=congrArg List.length e;rw[IZ,IH]at this;omega
 have g:ai (.tup (ps.map fld)) (.int (i:Int))=some (.tup [.str nm,k]):=by
  rw[vS,oq,IV,hi];rfl
 rw[bc];unfold dX;simp! only[cu kf rf ‹0›,e,g]
theorem iv(kf rf:List D)(i:Nat):aC eY 2 2 [.tup [.tup kf,.tup rf],.int i]=.ok (.bl (decide (i<kf.length))):=by
 rw[bc];unfold eY
 have:decide ((i:Int)<(kf.length:Int))=decide (i<kf.length):=by
  by_cases h:i<kf.length
  ·rw[decide_eq_true h,decide_eq_true ‹0›]
  ·rw[decide_eq_false h,decide_eq_false ‹0›]
 simp! only[this]
theorem jG(vs os:List D)(i:Nat)(h:vs.length+os.length<=10000):aC cG 3 3 [.tup vs,.int i,.tup os]=.ok (.tup (vs.take i++os++vs.drop (i+1))):=by
 have l1:(vs.take i).length<=vs.length:=by rw[IQ];omega
 have l2:(vs.drop (i+1)).length<=vs.length:=by rw[Ja];omega
 have c:((i:Int)+1)=((i+1:Nat):Int):=by omega
 have a1:=cu (vs.take i) os ‹0›;have a2:=cu (vs.take i++os) (vs.drop (i+1)) (by rw[IZ];omega);rw[iA];unfold cG;simp! only[c,eT,iH,a1,a2]
theorem vn(kf rf os:List D)(i:Nat)(h:kf.length+rf.length+os.length<=10000):aC cx 3 3 [.tup [.tup kf,.tup rf],.int i,.tup os]=.ok (if i<kf.length then .tup [.tup (kf.take i++os++kf.drop (i+1)),.tup rf]else .tup [.tup kf,.tup (rf.take (i-kf.length)++os++rf.drop (i-kf.length+1))]):=by
 rw[iA];unfold cx;by_cases hi:i<kf.length
 ·rw[if_pos hi];simp! only[iv,decide_eq_true hi,jG kf os i ‹0›,vy]
 ·rw[if_neg hi];have c:((i:Int)-(kf.length:Int))=((i-kf.length:Nat):Int):=by omega
  simp! only[iv,decide_eq_false hi,c,jG rf os (i-kf.length) ‹0›,vy]
end TD
namespace Tk31
open PySem PySem.Spec L2 TG TX TD
noncomputable def top(i:Nat):LY:=PySem.Challenge.pw_twoglass_k31_drops_refused.main.body.getD i (.Pass ⟨0,0,0,0⟩)
noncomputable abbrev fY:LY:=inClass (top 39) 0
theorem jO:cC ["self","name","value"] ["self","name","value"] (aH fY):=⟨rfl,rfl,rfl,by decide +kernel,rfl,by decide +kernel,by decide +kernel⟩
noncomputable abbrev fg:LY:=inClass (top 11) 0
theorem jj:cC ["self","one","other","change"] ["self","one","other","change"] (aH fg):=⟨rfl,rfl,rfl,by decide +kernel,rfl,by decide +kernel,by decide +kernel⟩
noncomputable def a6:bB:=ak (kd 2 (fP ah)) (ak (lu (aY (aa 0)) (gN 3) (ak (aG 4 (f2 aJ (aK (aa 3) aD (aO (aa 1))) (aK (aa 3) (aO (f2 aJ (aa 1) (fC (.int 1)))) aD))) (ak (cQ (jF [2] (fB (f2 eI (aa 4) (aa 2)))) (vt 2 oN (af (aa 4) ah)) aX) (dN [3,4] aX)))) (mq 2 (aL (aa 2))))
noncomputable def bf:bB:=ak (aG 3 (fR (aC a6 2 5) (af (aa 0) (af (aa 2) ah)))) (ak (aG 4 (fR (aC a6 2 5) (af (aa 1) (af (aa 2) ah)))) (aL (df (f2 cD (fL b9 (af (aa 3) ah)) (fL b9 (af (aa 4) ah))) (f2 cD (fL b9 (af (cS [none,some 4] (aY (aa 3)) (gN 0) (fB (f2 sF (aa 0) (aa 1))) (aa 0)) ah)) (fL b9 (af (aa 3) ah))))))
noncomputable def dG(ay av:cB):bB:=ak (cQ (fB (f2 cD (f2 ai (aa 0) (fC (.int 0))) (fC (.str "number")))) (aL (df (fe "int" (aa 1)) (df (iJ (fe "bool" (aa 1))) (fW uH uH (f2 ai (aa 0) (fC (.int 1))) (aa 1) (f2 ai (aa 0) (fC (.int 2))))))) aX) (ak (cQ (fB (f2 cD (f2 ai (aa 0) (fC (.int 0))) (fC (.str "word")))) (aL (df (fe "str" (aa 1)) (f2 sF (aa 1) (f2 ai (aa 0) (fC (.int 1)))))) aX) (aL (df (fR av (af (f2 ai (aa 0) (fC (.int 1))) (af (aa 1) ah))) (qO (f2 j3 (aa 1) (cz ah)) (iJ (f2 ai (aa 0) (fC (.int 2))))))))
noncomputable def cJ(ay av:cB):bB:=ak (aG 2 (cS [none,none] (aY (f2 aJ (f2 ai (aa 0) (fC (.int 0))) (f2 ai (aa 0) (fC (.int 1))))) (gT 2 (pj [0,1])) aU (aa 1))) (ak (aG 3 (fL b9 (af (f2 ai (aa 0) (fC (.int 0))) ah))) (ak (cQ (eJ (bD (fe "tuple" (aa 1)))) (aL (fC (.bl false))) aX) (dN [0] (ak (lu (aY (aa 1)) (gN 4) (ak (cQ (vw (eJ (bD (fe "tuple" (aa 4)))) (fB (f2 j3 (fL b9 (af (aa 4) ah)) (fL b9 (af (aa 2) ah))))) (aL (fC (.bl false))) aX) (ak (cQ (eJ (bD (fL fS (af (cS [none,none] (qe (af (aa 2) (af (aa 4) ah))) (gT 2 (pj [0,1])) aU (fR ay (af (aa 0) (af (aa 1) ah)))) ah)))) (aL (fC (.bl false))) aX) (dN [4] aX)))) (aL (fL fS (af (cS [none,some 1,some 3] (aT (af (f2 eB (fL b9 (af (aa 1) ah)) (fC (.int 1))) ah)) (gN 0) aU (f2 dm (aK (f2 ai (aa 1) (aa 0)) aD (aO (aa 2))) (aK (f2 ai (aa 1) (f2 aJ (aa 0) (fC (.int 1)))) aD (aO (aa 2))))) ah)))))))
mutual
noncomputable def ay:Nat->cB
 |0=>λ_=>un
 |n+1=>aC (dG (ay n) (av n)) 2 2
noncomputable def av:Nat->cB
 |0=>λ_=>un
 |n+1=>aC (cJ (ay n) (av n)) 2 5
end
theorem cK(n:Nat):ay (n+1)=aC (dG (ay n) (av n)) 2 2:=by rw[ay]
theorem gE:∀n:Nat,Ar 2 (ay n)
 |0=>λ_ h=>absurd (by rw[ay]) h
 |n+1=>by rw[cK];exact fv
theorem bW(n:Nat):av (n+1)=aC (cJ (ay n) (av n)) 2 5:=by rw[av]
theorem f6:∀n:Nat,Ar 2 (av n)
 |0=>λ_ h=>absurd (by rw[av]) h
 |n+1=>by rw[bW];exact fv
noncomputable def bG:bB:=ak (aG 3 (fL b9 (af (f2 ai (aa 0) (fC (.int 0))) ah))) (ak (aG 4 (fL iT (af (aa 1) ah))) (dN [0,1] (ak (lu (aY (aa 2)) (gT 3 (pj [5,6,7])) (mq 4 (ak (aG 8 (cS [none,some 3,some 5] (aY (aa 4)) (gN 0) (fB (f2 cD (aK (aa 0) aD (aO (aa 1))) (aa 2))) (aa 0))) (ak (cQ (vw (fB (f2 cD (aa 6) (aa 7))) (fB (f2 j3 (aa 8) (cS [none] (aY (fP (af (aa 6) ah))) (gN 0) (fB (iQ (aa 0))) (aa 0))))) (aL (fC .non)) aX) (ak (kd 4 (cS [none,some 3,some 5] (aY (aa 4)) (gN 0) (fB (f2 j3 (aK (aa 0) aD (aO (aa 1))) (aa 2))) (aa 0))) (ak (cQ (fB (iQ (aa 7))) (ak (aG 9 (fC (.int 0))) (dN [0,1,2,5,6,8] (ak (rd 200 (jF [4] (jn (fB (f2 dm (aa 9) (fL b9 (af (aa 4) ah)))) (fB (f2 dm (aK (f2 ai (aa 4) (aa 9)) aD (aO (aa 3))) (aK (aa 7) aD (aO (aa 3))))))) (aG 9 (f2 aJ (aa 9) (fC (.int 1))))) (vt 4 Aa (af (aa 9) (af (aa 7) ah)))))) aX) (dN [5,6,7,8,9] aX))))))) (mq 4 (aL (fL cg (af (aa 4) ah)))))))
noncomputable def cN:bB:=ak (cQ (vw (eJ (bD (fR (av 12) (af (aa 0) (af (aa 2) ah))))) (vw (eJ (bD (fR (av 12) (af (aa 0) (af (aa 3) ah))))) (fB (f2 cD (aa 2) (aa 3))))) (aL (fC (.bl false))) aX) (ak (cQ (vw (eJ (bD (fR (aC bf 3 5) (af (aa 2) (af (aa 3) (af (aa 1) ah)))))) (eJ (bD (fe "tuple" (aa 4))))) (aL (fC (.bl false))) aX) (ak (cQ (eJ (bD (fL fS (af (cS [none] (aY (aa 4)) (gN 0) aU (df (fe "tuple" (aa 0)) (f2 cD (fL b9 (af (aa 0) ah)) (fC (.int 3))))) ah)))) (aL (fC (.bl false))) aX) (ak (aG 5 (cS [none] (aY (aa 4)) (gN 0) aU (f2 ai (aa 0) (fC (.int 0))))) (ak (cQ (eJ (bD (fL fS (af (cS [none,some 5] (aT (af (f2 eB (fL b9 (af (aa 5) ah)) (fC (.int 1))) ah)) (gN 0) aU (f2 dm (f2 ai (aa 1) (aa 0)) (f2 ai (aa 1) (f2 aJ (aa 0) (fC (.int 1)))))) ah)))) (aL (fC (.bl false))) aX) (ak (aG 6 (fR (aC bG 3 10) (af (aa 0) (af (aa 2) (af (aa 4) ah))))) (ak (aG 7 (fR (aC bG 3 10) (af (aa 0) (af (aa 3) (af (aa 4) ah))))) (ak (cQ (vw (eJ (bD (fR (av 12) (af (aa 0) (af (aa 6) ah))))) (eJ (bD (fR (av 12) (af (aa 0) (af (aa 7) ah)))))) (aL (fC (.bl false))) aX) (aL (iJ (fR (aC bf 3 5) (af (aa 6) (af (aa 7) (af (aa 1) ah)))))))))))))
noncomputable def b7:bB:=ak (aG 1 (fP (af (f1 (dP [("NoField",true),("NoKind",false),("NoKey",false),("Blind",false)]) (aa 0)) (af (f1 (dP [("NoField",false),("NoKind",true),("NoKey",false),("Blind",false)]) (aa 0)) (af (f1 (dP [("NoField",false),("NoKind",false),("NoKey",false),("Blind",false)]) (aa 0)) ah))))) (ak (aG 1 (f2 aJ (aa 1) (fP (af (f1 (dP [("NoField",false),("NoKind",false),("NoKey",false),("Blind",false)]) (aa 0)) (af (f1 (dP [("NoField",false),("NoKind",false),("NoKey",true),("Blind",false)]) (aa 0)) (af (f1 (dP [("NoField",false),("NoKind",false),("NoKey",false),("Blind",false)]) (aa 0)) ah)))))) (ak (aG 1 (f2 aJ (aa 1) (fP (af (f1 (dP [("NoField",false),("NoKind",false),("NoKey",false),("Blind",true)]) (aa 0)) (af (f1 (dP [("NoField",false),("NoKind",false),("NoKey",false),("Blind",false)]) (aa 0)) ah))))) (ak (cQ (vw (bD (f1 (tI [[("NoField",false),("NoKind",false),("NoKey",false),("Blind",false)],[("NoField",false),("NoKind",false),("NoKey",false),("Blind",false)],[("NoField",false),("NoKind",false),("NoKey",false),("Blind",false)],[("NoField",false),("NoKind",false),("NoKey",false),("Blind",false)],[("NoField",false),("NoKind",false),("NoKey",false),("Blind",false)]]) (aa 0))) (eJ (bD (f1 (dP [("NoField",true),("NoKind",true),("NoKey",true),("Blind",true)]) (aa 0))))) (aL (rq (fC (.int 1)))) aX) (ak (cQ (fB (f2 j3 (fL b9 (af (cS [none] (aY (aa 1)) (gN 0) (bD (aa 0)) (aa 0)) ah)) (fC (.int 1)))) (aL (rq (fC (.int 1)))) aX) (aL (jH (aa 1) (af (fC (.bl true)) ah)))))))
noncomputable def cT:bB:=ak (cQ (fB (f2 cD (f2 ai (aa 0) (fC (.int 0))) (fC (.str "number")))) (aL (f2 cD (f2 ai (aa 0) (fC (.int 1))) (f2 ai (aa 0) (fC (.int 2))))) aX) (aL (f2 cD (fL b9 (af (f2 ai (aa 0) (fC (.int 1))) ah)) (fC (.int 1))))
noncomputable def bN:bB:=ak (cQ (fB (f2 cD (f2 ai (aa 0) (fC (.int 0))) (fC (.str "number")))) (aL (df (iJ (fe "str" (aa 1))) (fW uH uH (f2 ai (aa 0) (fC (.int 1))) (aa 1) (f2 ai (aa 0) (fC (.int 2)))))) aX) (aL (df (f2 cD (f2 ai (aa 0) (fC (.int 0))) (fC (.str "word"))) (f2 sF (aa 1) (f2 ai (aa 0) (fC (.int 1))))))
noncomputable def cF:bB:=ak (aG 3 (fL iT (af (f2 aJ (f2 ai (aa 0) (fC (.int 0))) (f2 ai (aa 0) (fC (.int 1)))) ah))) (ak (aG 4 (cS [none] (aY (aa 3)) (gN 0) aU (f2 ai (aa 0) (fC (.int 0))))) (ak (cQ (fB (f2 eI (aa 1) (aa 4))) (aL (fC (.int 0))) aX) (ak (aG 5 (jH (aa 4) (af (aa 1) ah))) (ak (cQ (eJ (bD (fR (aC bN 2 2) (af (f2 ai (f2 ai (aa 3) (aa 5)) (fC (.int 1))) (af (aa 2) ah))))) (aL (fC (.int 1))) aX) (ak (cQ (jn (fB (f2 dm (aa 5) (fL b9 (af (f2 ai (aa 0) (fC (.int 0))) ah)))) (fB (f2 cD (fL b9 (af (f2 ai (aa 0) (fC (.int 0))) ah)) (fC (.int 1))))) (aL (fC (.int 4))) aX) (ak (cQ (jn (fB (f2 dm (aa 5) (fL b9 (af (f2 ai (aa 0) (fC (.int 0))) ah)))) (eJ (bD (fR (aC cT 1 1) (af (f2 ai (f2 ai (aa 3) (aa 5)) (fC (.int 1))) ah))))) (aL (fC (.int 6))) aX) (aL (fC (.int 8)))))))))
noncomputable def bP:bB:=aL (aa 1)
noncomputable def cE:bB:=aL (EK (fB (f2 cD (f2 ai (aa 0) (fC (.int 0))) (fC (.str "number")))) (f2 aJ (f2 ai (aa 0) (fC (.int 1))) (fC (.int 1))) (f2 ai (f2 ai (aa 0) (fC (.int 1))) (fC (.int 1))))
noncomputable def jp(bV:cB):bB:=ak (cQ (fB (f2 cD (f2 ai (aa 0) (fC (.int 0))) (fC (.str "number")))) (aL (f2 cD (f2 ai (aa 0) (fC (.int 1))) (f2 ai (aa 0) (fC (.int 2))))) aX) (ak (cQ (fB (f2 cD (f2 ai (aa 0) (fC (.int 0))) (fC (.str "word")))) (aL (f2 cD (fL b9 (af (f2 ai (aa 0) (fC (.int 1))) ah)) (fC (.int 1)))) aX) (aL (df (f2 ai (aa 0) (fC (.int 2))) (fL fS (af (cS [none] (aY (fR (aC cX 1 1) (af (f2 ai (aa 0) (fC (.int 1))) ah))) (gN 0) aU (fR bV (af (aa 0) ah))) ah)))))
noncomputable def bV:Nat->cB
 |0=>λ_=>un
 |n+1=>aC (jp (bV n)) 1 1
theorem eS(n:Nat):bV (n+1)=aC (jp (bV n)) 1 1:=by rw[bV]
theorem j6:∀n:Nat,Ar 1 (bV n)
 |0=>λ_ h=>absurd (by rw[bV]) h
 |n+1=>by rw[eS];exact fv
noncomputable def b6:bB:=ak (aG 2 (fL b9 (af (f2 ai (aa 0) (fC (.int 0))) ah))) (ak (cQ (fB (f2 cD (aa 2) (fC (.int 1)))) (jJ "NoKey" (af (fC (.str "no key would be left")) ah)) aX) (ak (aG 3 (fR (aC dX 2 2) (af (aa 0) (af (aa 1) ah)))) (cQ (eJ (bD (fR (bV 12) (af (aa 3) ah)))) (ak (aG 4 (fR (aC dJ 1 1) (af (aa 0) ah))) (ak (aG 5 (fR (aC cG 3 3) (af (aa 4) (af (aa 1) (af (cz (af (fR (aC cE 1 1) (af (aa 3) ah)) ah)) ah))))) (ky "Blind" ["one","other","change"] (af (cz (af (aa 4) (af (aa 5) ah))) (af (cz (af (aa 4) ah)) (af (cz (af (cz (af (aK (aa 4) aD (aO (aa 2))) (af (aa 4) (af (fC .non) ah)))) ah)) ah)))))) aX)))
noncomputable def et:bB:=aL (df (fe "int" (aa 0)) (iJ (fe "bool" (aa 0))))
noncomputable def gq:bB:=aL (df (fe "tuple" (aa 0)) (f2 cD (fL b9 (af (aa 0) ah)) (aa 1)))
noncomputable def gz:bB:=ak (aG 2 (cS [none,some 0] (aY (aa 1)) (gN 0) aU (aK (aa 0) aD (aO (aa 1))))) (aL (fL fS (af (cS [none,some 2] (aT (af (f2 eB (fL b9 (af (aa 2) ah)) (fC (.int 1))) ah)) (gN 0) aU (f2 dm (f2 ai (aa 1) (aa 0)) (f2 ai (aa 1) (f2 aJ (aa 0) (fC (.int 1)))))) ah)))
noncomputable def oa(bT bR bC:cB):bB:=ak (cQ (fB (f2 cD (f2 ai (aa 0) (fC (.int 0))) (fC (.str "number")))) (aL (df (fR (aC et 1 1) (af (aa 1) ah)) (fW uH uH (f2 ai (aa 0) (fC (.int 1))) (aa 1) (f2 ai (aa 0) (fC (.int 2)))))) aX) (ak (cQ (fB (f2 cD (f2 ai (aa 0) (fC (.int 0))) (fC (.str "word")))) (aL (df (fe "str" (aa 1)) (f2 sF (aa 1) (f2 ai (aa 0) (fC (.int 1)))))) aX) (aL (df (fR bR (af (f2 ai (aa 0) (fC (.int 1))) (af (aa 1) ah))) (qO (f2 EZ (fL b9 (af (aa 1) ah)) (fC (.int 0))) (iJ (f2 ai (aa 0) (fC (.int 2))))))))
noncomputable def o5(bT bR bC:cB):bB:=ak (cQ (eJ (bD (fe "tuple" (aa 1)))) (aL (fC (.bl false))) aX) (ak (aG 2 (fR (aC cX 1 1) (af (aa 0) ah))) (aL (df (fL fS (af (cS [none,some 2] (aY (aa 1)) (gN 0) aU (fR bC (af (aa 1) (af (aa 0) ah)))) ah)) (fR (aC gz 2 3) (af (fL b9 (af (f2 ai (aa 0) (fC (.int 0))) ah)) (af (aa 1) ah))))))
noncomputable def kX(bT bR bC:cB):bB:=ak (cQ (eJ (bD (fR (aC gq 2 2) (af (aa 1) (af (fL b9 (af (aa 0) ah)) ah))))) (aL (fC (.bl false))) aX) (aL (fL fS (af (cS [none,none] (qe (af (aa 0) (af (aa 1) ah))) (gT 2 (pj [0,1])) aU (fR bT (af (aa 0) (af (aa 1) ah)))) ah)))
mutual
noncomputable def bT:Nat->cB
 |0=>λ_=>un
 |n+1=>aC (oa (bT n) (bR n) (bC n)) 2 2
noncomputable def bR:Nat->cB
 |0=>λ_=>un
 |n+1=>aC (o5 (bT n) (bR n) (bC n)) 2 3
noncomputable def bC:Nat->cB
 |0=>λ_=>un
 |n+1=>aC (kX (bT n) (bR n) (bC n)) 2 2
end
theorem gA(n:Nat):bT (n+1)=aC (oa (bT n) (bR n) (bC n)) 2 2:=by rw[bT]
theorem mM:∀n:Nat,Ar 2 (bT n)
 |0=>λ_ h=>absurd (by rw[bT]) h
 |n+1=>by rw[gA];exact fv
theorem jm(n:Nat):bR (n+1)=aC (o5 (bT n) (bR n) (bC n)) 2 3:=by rw[bR]
theorem kW:∀n:Nat,Ar 2 (bR n)
 |0=>λ_ h=>absurd (by rw[bR]) h
 |n+1=>by rw[jm];exact fv
theorem ib(n:Nat):bC (n+1)=aC (kX (bT n) (bR n) (bC n)) 2 2:=by rw[bC]
theorem j9:∀n:Nat,Ar 2 (bC n)
 |0=>λ_ h=>absurd (by rw[bC]) h
 |n+1=>by rw[ib];exact fv
noncomputable def cW:bB:=ak (lu (fV (af (fR (aC eG 1 1) (af (aa 0) ah)) ah)) (gT 2 (pj [2,3])) (ak (cQ (fB (f2 cD (aa 3) (aa 1))) (aL (aa 2)) aX) (dN [2,3] aX))) (jJ "NoField" (af (fC (.str "no field has this name")) ah))
noncomputable def aq:bB:=ak (aG 2 (fR (aC cW 2 4) (af (aa 1) (af (f1 (uP "name" ["Drop"]) (aa 0)) ah)))) (ak (aG 3 (fR (aC dX 2 2) (af (aa 1) (af (aa 2) ah)))) (ak (cQ (vw (fB (f2 cD (f2 ai (aa 3) (fC (.int 0))) (fC (.str "rows")))) (eJ (bD (fR (bT 12) (af (aa 3) (af (f1 (uP "value" ["Drop"]) (aa 0)) ah)))))) (jJ "NoKind" (af (fC (.str "it is a field of rows, or the value is not of its kind")) ah)) aX) (ak (cQ (bD (fR (aC eY 2 2) (af (aa 1) (af (aa 2) ah)))) (pM (fR (aC b6 2 6) (af (aa 1) (af (aa 2) ah)))) aX) (aL (fR (aC cx 3 3) (af (aa 1) (af (aa 2) (af (cz ah) ah))))))))
noncomputable def bJ:bB:=ak (aG 2 (fC .non)) (ak (wx ["NoField","NoKind","NoKey","Blind"] 3 (pM (j8 "view_form" [("Step",(aC bP 2 2)),("Drop",(aC aq 2 4))] (aa 0) (af (aa 1) ah))) (aG 2 (aa 3))) (aL (aa 2)))
noncomputable def cn:bB:=ak (cQ (fB (f2 cD (f2 ai (aa 0) (fC (.int 0))) (fC (.str "rows")))) (aL (f2 ai (fP (af (fC (.int 0)) (af (fC (.str "a")) (af (fC (.str "")) ah)))) (f2 aW (aa 1) (fC (.int 3))))) aX) (ak (cQ (fB (f2 cD (f2 ai (aa 0) (fC (.int 0))) (fC (.str "number")))) (ak (aG 2 (f2 aJ (f2 ai (aa 0) (fC (.int 1))) (f2 aW (f2 bE (aa 1) (fC (.int 8))) (f2 aJ (f2 eB (f2 ai (aa 0) (fC (.int 2))) (f2 ai (aa 0) (fC (.int 1)))) (fC (.int 1)))))) (aL (f2 ai (fP (af (aa 2) (af (aa 2) (af (aa 2) (af (aa 2) (af (f2 eB (f2 ai (aa 0) (fC (.int 1))) (fC (.int 1))) (af (f2 aJ (f2 ai (aa 0) (fC (.int 2))) (fC (.int 1))) (af (f2 ai (aa 0) (fC (.int 2))) (af (fC (.str "a")) ah))))))))) (f2 aW (aa 1) (fC (.int 8)))))) aX) (ak (aG 3 (f2 ai (aa 0) (fC (.int 1)))) (aL (f2 ai (fP (af (f2 ai (aa 3) (f2 aW (f2 bE (aa 1) (fC (.int 8))) (fL b9 (af (aa 3) ah)))) (af (f2 ai (aa 3) (fC (.int 0))) (af (f2 ai (aa 3) (rq (fC (.int 1)))) (af (f2 ai (aa 3) (fC (.int 0))) (af (aK (f2 aJ (f2 ai (aa 3) (rq (fC (.int 1)))) (fC (.str "a"))) aD (aO (fC (.int 8)))) (af (fC (.int 0)) (af (fC (.str "")) (af (fC (.int 1)) ah))))))))) (f2 aW (aa 1) (fC (.int 8)))))))
noncomputable def bL:bB:=ak (cQ (fB (f2 cD (f2 aW (aa 0) (fC (.int 4))) (fC (.int 1)))) (ak (aG 1 (f2 eB (f2 aW (f2 bE (aa 0) (fC (.int 4))) (f2 hX (fC (.int 2)) (f2 jS (fC (.int 10)) (fC (.int 59))))) (f2 jS (fC (.int 10)) (fC (.int 59))))) (aL (cz (af (fC (.str "number")) (af (aa 1) (af (f2 aJ (aa 1) (f2 aW (f2 bE (aa 0) (fC (.int 7))) (f2 ai (fP (af (fC (.int 1)) (af (fC (.int 3)) (af (f2 jS (fC (.int 10)) (fC (.int 59))) ah)))) (f2 aW (f2 bE (aa 0) (fC (.int 4))) (fC (.int 3)))))) ah)))))) aX) (ak (cQ (fB (f2 cD (f2 aW (aa 0) (fC (.int 2))) (fC (.int 0)))) (ak (aG 1 (f2 eB (f2 aW (f2 bE (aa 0) (fC (.int 2))) (fC (.int 11))) (fC (.int 5)))) (aL (cz (af (fC (.str "number")) (af (aa 1) (af (f2 aJ (aa 1) (f2 aW (f2 bE (aa 0) (fC (.int 22))) (fC (.int 6)))) ah)))))) aX) (aL (cz (af (fC (.str "word")) (af (fR (aC bu 1 7) (af (f2 bE (aa 0) (fC (.int 4))) ah)) ah)))))
noncomputable def cZ:bB:=ak (aG 2 (fR (aC aF 2 2) (af (aa 0) (af (fC (.int 1)) ah)))) (ak (aG 3 (f2 aJ (fC (.int 1)) (f2 aW (aa 2) (fC (.int 3))))) (ak (aG 4 (f2 aW (f2 bE (aa 2) (fC (.int 3))) (fC (.int 4)))) (ak (cQ (fB (f2 cD (f2 aW (f2 bE (aa 2) (fC (.int 12))) (fC (.int 8))) (fC (.int 1)))) (ak (aG 3 (f2 aJ (fC (.int 1)) (f2 aW (f2 bE (aa 2) (fC (.int 96))) (fC (.int 8))))) (aG 4 (f2 aW (f2 bE (aa 2) (fC (.int 768))) (fC (.int 9))))) aX) (ak (kd 5 (fP ah)) (dN [2] (ak (lu (aT (af (f2 aJ (aa 3) (aa 4)) ah)) (gN 6) (ak (aG 7 (fR (aC a5 2 3) (af (fR (aC aF 2 2) (af (aa 0) (af (fC (.int 2)) ah))) (af (aa 6) ah)))) (ak (aG 8 (fR (aC bw 2 4) (af (aa 7) (af (f2 DJ (aa 6) (aa 3)) ah)))) (ak (cQ (fB (f2 cD (f2 aW (f2 bE (aa 7) (fC (.int 11))) (fC (.int 4))) (fC (.int 1)))) (aG 8 (fR (aC bL 1 2) (af (f2 bE (aa 7) (fC (.int 13))) ah))) aX) (ak (cQ (jn (fB (f2 cD (f2 aW (f2 bE (aa 7) (fC (.int 17))) (fC (.int 4))) (fC (.int 1)))) (fB (f2 cD (f2 ai (aa 8) (fC (.int 0))) (fC (.str "number"))))) (aG 8 (cz (af (fC (.str "number")) (af (f2 ai (aa 8) (fC (.int 1))) (af (f2 ai (aa 8) (fC (.int 1))) ah))))) aX) (ak (vt 5 oN (af (cz (af (f2 ai (aa 1) (aa 6)) (af (aa 8) ah))) ah)) (dN [6,7,8] aX))))))) (mq 5 (aL (cz (af (fL cg (af (aK (aa 5) aD (aO (aa 3))) ah)) (af (fL cg (af (aK (aa 5) (aO (aa 3)) aD) ah)) ah)))))))))))
noncomputable def j7:bB:=ak (aG 1 (fR (aC bO 2 10) (af (fR (aC aF 2 2) (af (aa 0) (af (fC (.int 0)) ah))) (af (fC (.int 20)) ah)))) (ak (aG 2 (fR (aC cZ 2 9) (af (aa 0) (af (aa 1) ah)))) (ak (aG 3 (cS [none] (aY (f2 aJ (f2 ai (aa 2) (fC (.int 0))) (f2 ai (aa 2) (fC (.int 1))))) (gN 0) aU (f2 ai (aa 0) (fC (.int 0))))) (ak (aG 4 (f2 aW (fR (aC aF 2 2) (af (aa 0) (af (fC (.int 3)) ah))) (fL b9 (af (aa 3) ah)))) (ak (cQ (fB (f2 cD (f2 aW (f2 bE (fR (aC aF 2 2) (af (aa 0) (af (fC (.int 3)) ah))) (fC (.int 16))) (fC (.int 2))) (fC (.int 1)))) (aG 4 (f2 aW (aa 4) (fL b9 (af (f2 ai (aa 2) (fC (.int 0))) ah)))) aX) (ak (aG 5 (fR (aC cn 2 4) (af (f2 ai (f2 ai (f2 aJ (f2 ai (aa 2) (fC (.int 0))) (f2 ai (aa 2) (fC (.int 1)))) (aa 4)) (fC (.int 1))) (af (fR (aC a5 2 3) (af (fR (aC aF 2 2) (af (aa 0) (af (fC (.int 4)) ah))) (af (fC (.int 6)) ah))) ah)))) (ak (aG 6 (f2 ai (aa 3) (aa 4))) (ak (cQ (fB (f2 cD (f2 aW (f2 bE (fR (aC aF 2 2) (af (aa 0) (af (fC (.int 3)) ah))) (fC (.int 32))) (fC (.int 8))) (fC (.int 1)))) (aG 6 (f2 ai (aa 1) (fC (.int 17)))) aX) (ak (aG 7 (fR (aC bJ 2 4) (af (fNew "Drop" ["name","value"] (af (aa 6) (af (aa 5) ah))) (af (aa 2) ah)))) (ak (aG 8 (fR (aC cF 3 6) (af (aa 2) (af (aa 6) (af (aa 5) ah))))) (ak (cQ (fB (f2 cD (aa 8) (fC (.int 8)))) (aL (pJ (aa 7))) aX) (ak (cQ (fB (f2 j3 (fR (aC b7 1 2) (af (aa 7) ah)) (aa 8))) (aL (fC (.bl false))) aX) (aL (qO (f2 dm (aa 8) (fC (.int 6))) (fR (aC cN 5 8) (af (aa 2) (af (aa 4) (af (f1 (fZ "one" ["Blind"]) (aa 7)) (af (f1 (fZ "other" ["Blind"]) (aa 7)) (af (f1 (fZ "change" ["Blind"]) (aa 7)) ah)))))))))))))))))))
set_option hygiene false
local macro_rules|`(tactic|ktr_call $p $e)=>`(tactic|((with_reducible show $p);refine $e))
local macro_rules|`(tactic|walk_at "A")=>`(tactic|first|ktr_call (mW _ _ (ak _ _)) (vp ?_ ?_)|ktr_call (mW _ _ (dN _ _)) (uo _ ?_)|ktr_call (mW _ _ (mq _ _)) (vB _ ?_)|ktr_call (mW _ _ aX) xm|refine v6 ?_)
local macro_rules|`(tactic|walk_at "B")=>`(tactic|first|ktr_call (XS _ _ (cQ _ _ _)) (Bz ?_ ?_ ?_)|ktr_call (XS _ _ (aL _)) (Ac ?_)|ktr_call (XS _ _ (aG _ (cS _ _ _ _ _))) (H0 (by first|assumption|exact nE rfl) rfl (by first|exact gV rfl|exact fH rfl) ?_ ?_)|ktr_call (XS _ _ (aG _ _)) (xs _ (by first|assumption|exact nE rfl) ?_)|ktr_call (XS _ _ aX) yh|ktr_call (XS _ _ aX) AC|ktr_call (XS _ _ (pM _)) (wc ?_)|ktr_call (XS _ _ (lu _ _ _)) (yZ hp rfl ?_ ?_ ?_)|ktr_call (XS _ _ (rd _ _ _)) (uk _ hp ?_ ?_)|ktr_call (XS _ _ (kd _ (cS _ _ _ _ _))) (Hw (by first|assumption|exact nE rfl) rfl (by first|exact gV rfl|exact fH rfl) ?_ ?_)|ktr_call (XS _ _ (kd _ _)) (zH (by first|assumption|exact nE rfl) rfl (by first|exact Or.inl rfl|exact Or.inr rfl) ?_)|ktr_call (XS _ _ (vt _ oN _)) (wJ PySem.F.slot_list_append PySem.F.type_list_append mG tX (xv _) ?_)|ktr_call (XS _ _ (vt _ Aa _)) (wJ PySem.F.slot_list_insert PySem.F.type_list_insert uB t6 (xv _) ?_)|ktr_call (XS _ _ (jJ _ _)) (uC rfl (by walk_at "a") rfl ?_)|ktr_call (XS _ _ (ky _ _ _)) (rG rfl rfl (by walk_at "a") hr ‹0› rfl ?_)|ktr_call (XS _ _ (wx _ _ _ _)) (z7 rfl rfl rfl (fun _=>rfl) (by walk_at "a") rfl (by first|assumption|exact nE rfl) rfl rfl (fun E' pn hp=>?_) (fun A' pn hA hU=>?_)))
local macro_rules|`(tactic|walk_at "C")=>`(tactic|first|ktr_call (XT _ _ (fB (f2 cD _ _))) (eP (vI hr.units) bU ?_ ?_ (dM _))|ktr_call (XT _ _ (fB (f2 j3 _ _))) (eP (xg hr.units) bU ?_ ?_ (dM _))|ktr_call (XT _ _ (fB (f2 dm _ _))) (eP (xr hr.units) bU ?_ ?_ (dM _))|ktr_call (XT _ _ (fB (f2 uH _ _))) (eP nK cw ?_ ?_ (dM _))|ktr_call (XT _ _ (fB (f2 EZ _ _))) (eP AU cw ?_ ?_ (dM _))|ktr_call (XT _ _ (fB (f2 DJ _ _))) (eP AK cw ?_ ?_ (dM _))|ktr_call (XT _ _ (fB (f2 sF _ _))) (eP (wA hr.units) bU ?_ ?_ rfl)|ktr_call (XT _ _ (fB (f2 eI _ _))) (eP (nR hr.units) bU ?_ ?_ rfl)|ktr_call (XT _ _ (fB (pJ _))) (zx ?_)|ktr_call (XT _ _ (fB (iQ _))) (wV ?_)|ktr_call (XT _ _ (fB (fW uH uH _ _ _))) (vc nK cw nK cw ?_ ?_ ?_)|ktr_call (XT _ _ (eJ _)) (yA ?_)|ktr_call (XT _ _ (jn _ _)) (Hf ?_)|ktr_call (XT _ _ (vw _ _)) (Hf ?_)|ktr_call (XT _ _ (bD _)) (uf ?_)|ktr_call (XT _ _ (jF _ _)) (vC _ ?_))
local macro_rules|`(tactic|walk_at "D")=>`(tactic|first|ktr_call (XW _ _ (jn _ _)) (zC ?_ ?_)|ktr_call (XW _ _ (vw _ _)) (BM ?_ ?_)|refine vG ?_|refine Au ?_)
local macro_rules|`(tactic|walk_at "F")=>`(tactic|first|ktr_call (XI _ _ _ (aT _)) (rh rfl (by walk_at "a") ?_)|ktr_call (XI _ _ _ (qe _)) (Ae rfl (by walk_at "a") ?_)|ktr_call (XI _ _ _ (fV _)) (mC rfl (by walk_at "a") ?_)|ktr_call (XI _ _ _ (aY _)) (y9 ?_))
local macro_rules|`(tactic|walk_at "L")=>`(tactic|first|ktr_call (XN _ _ (fP _)) (zS ?_)|ktr_call (XN _ _ (fL iT _)) (xK rfl (by walk_at "a") LC ?_)|ktr_call (XN _ _ (cS _ _ _ _ _)) (HS rfl (by first|exact gV rfl|exact fH rfl) ?_ ?_))
local macro_rules|`(tactic|walk_at "M")=>`(tactic|first|with_reducible refine Af ?_|ktr_call (XE _ _ (aa _)) (xw _)|ktr_call (XE _ _ (fC (.int _))) zO|ktr_call (XE _ _ (fC (.str _))) zb|ktr_call (XE _ _ (fC (.bl _))) CA|ktr_call (XE _ _ (fC .non)) zj|ktr_call (XE _ _ (f2 ai _ _)) (xi ?_ ?_)|ktr_call (XE _ _ (cz _)) (yS ?_)|ktr_call (XE _ _ (fP _)) (zA ?_)|ktr_call (XE _ _ (f2 aJ _ _)) (hV yO bU ?_ ?_)|ktr_call (XE _ _ (f2 eB _ _)) (hV CT CZ ?_ ?_)|ktr_call (XE _ _ (f2 hX _ _)) (hV Bt B6 ?_ ?_)|ktr_call (XE _ _ (f2 bE _ _)) (hV xh Cv ?_ ?_)|ktr_call (XE _ _ (f2 aW _ _)) (hV BU Ct ?_ ?_)|ktr_call (XE _ _ (f2 jS _ _)) (hV C7 B3 ?_ ?_)|ktr_call (XE _ _ (f2 cD _ _)) (eM (vI hr.units) bU ?_ ?_ (dM _))|ktr_call (XE _ _ (f2 j3 _ _)) (eM (xg hr.units) bU ?_ ?_ (dM _))|ktr_call (XE _ _ (f2 dm _ _)) (eM (xr hr.units) bU ?_ ?_ (dM _))|ktr_call (XE _ _ (f2 uH _ _)) (eM nK cw ?_ ?_ (dM _))|ktr_call (XE _ _ (f2 EZ _ _)) (eM AU cw ?_ ?_ (dM _))|ktr_call (XE _ _ (f2 DJ _ _)) (eM AK cw ?_ ?_ (dM _))|ktr_call (XE _ _ (f2 sF _ _)) (eM (wA hr.units) bU ?_ ?_ rfl)|ktr_call (XE _ _ (f2 eI _ _)) (eM (nR hr.units) bU ?_ ?_ rfl)|ktr_call (XE _ _ (pJ _)) (yH ?_)|ktr_call (XE _ _ (iQ _)) (v7 ?_)|ktr_call (XE _ _ (fW uH uH _ _ _)) (u9 nK cw nK cw ?_ ?_ ?_)|ktr_call (XE _ _ (iJ _)) (zq ?_)|ktr_call (XE _ _ (rq _)) (y8 ?_)|ktr_call (XE _ _ (df _ _)) (Al ?_ ?_)|ktr_call (XE _ _ (qO _ _)) (Cd ?_ ?_)|ktr_call (XE _ _ (EK _ _ _)) (Cr ?_ ?_ ?_)|ktr_call (XE _ _ (aK _ _ _)) (uT ?_ ?_ ?_)|ktr_call (XE _ _ (f1 (fZ _ _) _)) (yw (by walk_at "a") ?_)|ktr_call (XE _ _ (f1 (uP _ _) _)) (yG (by walk_at "a") ?_)|ktr_call (XE _ _ (cS _ _ _ _ _)) (xl rfl (by first|exact gV rfl|exact fH rfl) ?_ ?_)|ktr_call (XE _ _ (fR _ _)) (qP (by walk_at "a") (by first|exact fv|walk_at "a") hr ‹0› ?_)|ktr_call (XE _ _ (fNew _ _ _)) (yF (by walk_at "a") hr ‹0› rfl ?_)|ktr_call (XE _ _ (fe "int" _)) (kr xF rfl (by walk_at "a") rfl (by walk_at "a") PyProof.Rows.boot_int ?_)|ktr_call (XE _ _ (fe "bool" _)) (kr vi rfl (by walk_at "a") rfl (by walk_at "a") PyProof.Rows.boot_bool ?_)|ktr_call (XE _ _ (fe "str" _)) (kr vF rfl (by walk_at "a") rfl (by walk_at "a") PyProof.Rows.boot_str ?_)|ktr_call (XE _ _ (fe "tuple" _)) (kr rg rfl (by walk_at "a") rfl (by walk_at "a") LD ?_)|ktr_call (XE _ _ (f1 (dP _) _)) (wd (by walk_at "a") rfl (by walk_at "a") rfl ?_)|ktr_call (XE _ _ (f1 (dP _) _)) (uL (by walk_at "a") rfl (by walk_at "a") rfl (by walk_at "a") PyProof.Rows.Boot.«ValueError» ?_)|ktr_call (XE _ _ (f1 (tI _) _)) (xL (by walk_at "y") (by decide) rfl (by walk_at "a") ?_)|ktr_call (XE _ _ (fL b9 _)) (mY vg rfl (by walk_at "a") PySem.boot_len ?_)|ktr_call (XE _ _ (fL cg _)) (lS pY rfl (by walk_at "a") LD ?_)|ktr_call (XE _ _ (fL iT _)) (lS qW rfl (by walk_at "a") LC ?_)|ktr_call (XE _ _ (fL fS _)) (mY (vf rfl) rfl (by walk_at "a") PyProof.Rows.boot_all ?_)|ktr_call (XE _ _ (jH _ _)) (u6 hr.units ?_ ?_)|ktr_call (XE _ _ (f7 _ _)) (yo ?_ ?_)|ktr_call (XE _ _ (j8 _ _ _ (af _ _))) (wa (by walk_at "a") hr ‹0› ?_ ?_)|ktr_call (XE _ _ (j8 _ _ _ ah)) (uA (by walk_at "a") hr ‹0› ?_))
local macro_rules|`(tactic|walk_at "d")=>`(tactic|((first|((with_reducible show mW _ _ _);walk_at "A")|((with_reducible show XS _ _ _);walk_at "B")|((with_reducible show XT _ _ _);walk_at "C")|((with_reducible show XW _ _ _);walk_at "D")|((with_reducible show XA _ _ _);first|ktr_call (XA _ _ (af _ _)) (lZ ?_ ?_)|ktr_call (XA _ _ ah) sq)|((with_reducible show XI _ _ _ _);walk_at "F")|((with_reducible show XG _ _ _);first|ktr_call (XG _ _ (gN _)) (xP (by first|assumption|exact nE rfl) rfl (by first|exact Or.inl rfl|exact Or.inr rfl))|ktr_call (XG _ _ (gT _ _)) (yJ rfl ?_))|((with_reducible show BP _ _ _);first|ktr_call (BP _ _ (pj (_ :: _))) (tY ?_ ?_)|ktr_call (BP _ _ (pj [])) wC)|((with_reducible show XO _ _ _);first|ktr_call (XO _ _ aD) vT|ktr_call (XO _ _ (aO _)) (wf ?_))|((with_reducible show De _ _ _);first|ktr_call (De _ _ aU) xZ|refine vO ?_)|((with_reducible show mj _ _ _ _ _ _ _ _ _);first|refine ⟨fun _ _ _ _ _ _=>⟨?_, ?_, ?_⟩⟩)|((with_reducible show XN _ _ _);walk_at "L")|((with_reducible show XE _ _ _);walk_at "M"))<;>walk_at "d"))
local macro_rules|`(tactic|walk_at "y")=>`(tactic|first|exact vR.nil|(refine vR.cons (by walk_at "a") rfl (by decide) ?_;walk_at "y"))
local macro_rules | `(tactic| walk_at "a") => `(tactic| first | assumption | exact q.2 | (replace q := q.1; walk_at "a"))
local macro_rules | `(tactic| walk_at "b") => `(tactic| (intro us hl _ _ _ _ _ _; first | (obtain ⟨a, rfl⟩ := Ed hl; rfl) | (obtain ⟨a, b, rfl⟩ := Eg hl; rfl) | (obtain ⟨a, b, c, rfl⟩ := CQ hl; rfl) | (obtain ⟨a, b, c, d, e, rfl⟩ := G0 hl; rfl)))
local macro_rules | `(tactic| walk_at "m") => `(tactic| ((· walk_at "a"); (· walk_at "b"); (· exact ⟨rfl, rfl, rfl, by decide +kernel, rfl, by decide +kernel, by decide +kernel⟩); first | refine fun nd f => ⟨fun cdv A outer s H E hr hp => ?_⟩ | intro nd f A outer s H E hr hp))
local macro_rules | `(tactic| ktn_call $m $b:ident) => `(tactic| ((first | (apply AY $m; walk_at "m") | (apply Hy $m; walk_at "m")); unfold $b; walk_at "d"))
local macro_rules | `(tactic| walk_at "t") => `(tactic| first | exact yB | (refine yq (MethAt.mono (by walk_at "a") (by decide)) fv ?_; walk_at "t"))
section
variable{u:U}
noncomputable def Q0(u:U):Prop:=((((((((((((((((((((((((((((EF u (EF u (Zs u ["len","isinstance","int","bool","str","tuple","all","zip","range","list","ValueError","enumerate"]) [("_law_looks",top 59),("_law_look_alike",top 60),("_law_fits",top 49),("_law_keeps",top 50),("_law_changed",top 61),("_law_blind",top 62),("_law_class",top 51),("_law_single",top 53),("_law_is_of",top 57),("_law_due",top 58),("replaced",top 34),("in_key",top 33),("with_fields",top 35),("second_value",top 41),("kinds_of",top 19),("least",top 21),("least_row",top 30),("single",top 20),("kind_at",top 32),("check_key",top 40),("is_whole",top 17),("has_parts",top 18),("keys_rise",top 29),("fits",top 26),("keeps",top 27),("is_row",top 28),("names_of",top 23),("place_of",top 24),("_law_refused",top 52),("_law_cell_at",top 43)]) [("_law_value",top 56),("_law_draw",top 44),("_law_words",top 46),("_law_plain_kind",top 54),("_law_names",top 45),("_law_inner",top 47),("_law_kind",top 48),("_law_form",top 55)])/\pK u.K "name" ["Drop"])/\pK u.K "value" ["Drop"])/\oC u.P u.w u.K u.mg u.base 1 "Drop" ["self","name","value"] ["name","value"])/\ku u.P u.w u.K u.mg u.base 1 "Blind" ["self","one","other","change"] ["one","other","change"])/\mF u.K "change" ["Blind"])/\mF u.K "other" ["Blind"])/\mF u.K "one" ["Blind"])/\ExcAt u.K u.mg "NoKey")/\ExcAt u.K u.mg "NoField")/\ExcAt u.K u.mg "NoKind")/\pS u.K u.mg "GlassError" ["NoField","NoKind","NoKey","Blind"])/\ce u.K u.mg "Twice" [("NoField",false),("NoKind",false),("NoKey",false),("Blind",false)])/\ce u.K u.mg "NoKind" [("NoField",false),("NoKind",true),("NoKey",false),("Blind",false)])/\ce u.K u.mg "NoField" [("NoField",true),("NoKind",false),("NoKey",false),("Blind",false)])/\ce u.K u.mg "Nothing" [("NoField",false),("NoKind",false),("NoKey",false),("Blind",false)])/\ce u.K u.mg "NoKey" [("NoField",false),("NoKind",false),("NoKey",true),("Blind",false)])/\ce u.K u.mg "TooMany" [("NoField",false),("NoKind",false),("NoKey",false),("Blind",false)])/\ce u.K u.mg "Torn" [("NoField",false),("NoKind",false),("NoKey",false),("Blind",false)])/\ce u.K u.mg "Blind" [("NoField",false),("NoKind",false),("NoKey",false),("Blind",true)])/\ce u.K u.mg "NoForm" [("NoField",false),("NoKind",false),("NoKey",false),("Blind",false)])/\ce u.K u.mg "NoTable" [("NoField",false),("NoKind",false),("NoKey",false),("Blind",false)])/\ce u.K u.mg "Stale" [("NoField",false),("NoKind",false),("NoKey",false),("Blind",false)])/\ce u.K u.mg "NoPane" [("NoField",false),("NoKind",false),("NoKey",false),("Blind",false)])/\ce u.K u.mg "NoText" [("NoField",false),("NoKind",false),("NoKey",false),("Blind",false)])/\qa u.K (.type "ValueError") [("NoField",true),("NoKind",true),("NoKey",true),("Blind",true)])/\Dm u "Step" "view_form" "Step.view_form" (inClass (top 37) 1))/\Dm u "Drop" "view_form" "Drop.view_form" (inClass (top 39) 2))
noncomputable def Q1(u:U):Prop:=Q0 u/\Ca u 1 "_law_looks" ["_law_table","_law_at"] (aC a6 2 5)
theorem e1(q:Q0 u):Q1 u:=⟨q,(by ktn_call ["_law_found","_law_row","_law_left"] a6)⟩
noncomputable def Q2(u:U):Prop:=Q1 u/\Ca u 2 "_law_look_alike" ["_law_one","_law_other","_law_at"] (aC bf 3 5)
theorem e2(q:Q1 u):Q2 u:=⟨q,(by ktn_call ["_law_ones","_law_others"] bf)⟩
theorem eR(q:Q2 u):∀n:Nat,Ca u (0+n) "_law_fits" ["_law_kind_here","_law_value_here"] (ay n)/\Ca u (0+n) "_law_keeps" ["_law_form_here","_law_table"] (av n)
 |0=>by
  rw[ay];rw[av];exact⟨Bw (by walk_at "a") (by walk_at "b"),Bw (by walk_at "a") (by walk_at "b")⟩
 |n+1=>by
  have ih:=eR q n;have c0:=ih.1;have a0:=gE n;have c1:=ih.2;have a1:=f6 n;rw[cK];rw[bW];refine⟨?_,?_⟩
  ·apply AY (k:=0+n) [];walk_at "m";unfold dG;walk_at "d"
  ·apply AY (k:=0+n) ["_law_kinds","_law_many","_law_row"];walk_at "m";unfold cJ;walk_at "d"
noncomputable def Q3(u:U):Prop:=(((Q2 u/\Ca u 12 "_law_fits" ["_law_kind_here","_law_value_here"] (ay 12))/\Ar 2 (ay 12))/\Ca u 12 "_law_keeps" ["_law_form_here","_law_table"] (av 12))/\Ar 2 (av 12)
theorem e3(q:Q2 u):Q3 u:=⟨⟨⟨⟨q,(eR q 12).1⟩,gE 12⟩,(eR q 12).2⟩,f6 12⟩
noncomputable def Q4(u:U):Prop:=Q3 u/\Ca u 1 "_law_changed" ["_law_form_here","_law_table","_law_some"] (aC bG 3 10)
theorem e4(q:Q3 u):Q4 u:=⟨q,(by ktn_call ["_law_many","_law_rows","_law_key","_law_old","_law_new","_law_there","_law_at"] bG)⟩
noncomputable def Q5(u:U):Prop:=Q4 u/\Ca u 13 "_law_blind" ["_law_form_here","_law_at","_law_one","_law_other","_law_some"] (aC cN 5 8)
theorem e5(q:Q4 u):Q5 u:=⟨q,(by ktn_call ["_law_keys","_law_first","_law_second"] cN)⟩
noncomputable def Q6(u:U):Prop:=Q5 u/\Ca u 1 "_law_class" ["_law_error"] (aC b7 1 2)
theorem e6(q:Q5 u):Q6 u:=⟨q,(by ktn_call ["_law_some"] b7)⟩
noncomputable def Q7(u:U):Prop:=Q6 u/\Ca u 1 "_law_single" ["_law_kind_here"] (aC cT 1 1)
theorem e7(q:Q6 u):Q7 u:=⟨q,(by ktn_call [] cT)⟩
noncomputable def Q8(u:U):Prop:=Q7 u/\Ca u 1 "_law_is_of" ["_law_kind_here","_law_value_here"] (aC bN 2 2)
theorem e8(q:Q7 u):Q8 u:=⟨q,(by ktn_call [] bN)⟩
noncomputable def Q9(u:U):Prop:=Q8 u/\Ca u 2 "_law_due" ["_law_form_here","_law_name","_law_value_here"] (aC cF 3 6)
theorem e9(q:Q8 u):Q9 u:=⟨q,(by ktn_call ["_law_fields","_law_there","_law_at"] cF)⟩
noncomputable def FZ(u:U):Prop:=Q9 u/\Ma u 1 "Step" "view_form" ["self","form"] (aC bP 2 2)
theorem e10(q:Q9 u):FZ u:=⟨q,(by ktn_call [] bP)⟩
noncomputable def GN(u:U):Prop:=FZ u/\Ca u 1 "replaced" ["values","place","others"] (aC cG 3 3)
theorem GK(q:FZ u):GN u:=⟨q,(by ktn_call [] cG)⟩
noncomputable def GW(u:U):Prop:=GN u/\Ca u 1 "in_key" ["form","place"] (aC eY 2 2)
theorem Hh(q:GN u):GW u:=⟨q,(by ktn_call [] eY)⟩
noncomputable def Fw(u:U):Prop:=GW u/\Ca u 2 "with_fields" ["form","place","fields"] (aC cx 3 3)
theorem Hk(q:GW u):Fw u:=⟨q,(by ktn_call [] cx)⟩
noncomputable def FQ(u:U):Prop:=Fw u/\Ca u 1 "second_value" ["kind"] (aC cE 1 1)
theorem HK(q:Fw u):FQ u:=⟨q,(by ktn_call [] cE)⟩
noncomputable def Et(u:U):Prop:=FQ u/\Ca u 1 "kinds_of" ["form"] (aC cX 1 1)
theorem Hx(q:FQ u):Et u:=⟨q,(by ktn_call [] cX)⟩
theorem mK(q:Et u):∀n:Nat,Ca u (1+n) "least" ["kind"] (bS n)
 |0=>by
  rw[bS];exact Bw (by walk_at "a") (by walk_at "b")
 |n+1=>by
  have ih:=mK q n;have c0:=ih;have a0:=k9 n;rw[dS];apply AY (k:=1+n) [];walk_at "m";unfold jr;walk_at "d"
noncomputable def Gs(u:U):Prop:=(Et u/\Ca u 13 "least" ["kind"] (bS 12))/\Ar 1 (bS 12)
theorem Ia(q:Et u):Gs u:=⟨⟨q,(mK q 12)⟩,k9 12⟩
noncomputable def EA(u:U):Prop:=Gs u/\Ca u 14 "least_row" ["form"] (aC dJ 1 1)
theorem HF(q:Gs u):EA u:=⟨q,(by ktn_call [] dJ)⟩
theorem lH(q:EA u):∀n:Nat,Ca u (1+n) "single" ["kind"] (bV n)
 |0=>by
  rw[bV];exact Bw (by walk_at "a") (by walk_at "b")
 |n+1=>by
  have ih:=lH q n;have c0:=ih;have a0:=j6 n;rw[eS];apply AY (k:=1+n) [];walk_at "m";unfold jp;walk_at "d"
noncomputable def Fm(u:U):Prop:=(EA u/\Ca u 13 "single" ["kind"] (bV 12))/\Ar 1 (bV 12)
theorem HI(q:EA u):Fm u:=⟨⟨q,(lH q 12)⟩,j6 12⟩
noncomputable def FL(u:U):Prop:=Fm u/\Ca u 1 "kind_at" ["form","place"] (aC dX 2 2)
theorem HQ(q:Fm u):FL u:=⟨q,(by ktn_call [] dX)⟩
noncomputable def GO(u:U):Prop:=FL u/\Ca u 15 "check_key" ["form","place"] (aC b6 2 6)
theorem e20(q:FL u):GO u:=⟨q,(by ktn_call ["many","kind","row","twin"] b6)⟩
noncomputable def Ff(u:U):Prop:=GO u/\Ca u 1 "is_whole" ["value"] (aC et 1 1)
theorem HA(q:GO u):Ff u:=⟨q,(by ktn_call [] et)⟩
noncomputable def Gw(u:U):Prop:=Ff u/\Ca u 1 "has_parts" ["value","many"] (aC gq 2 2)
theorem Hr(q:Ff u):Gw u:=⟨q,(by ktn_call [] gq)⟩
noncomputable def EY(u:U):Prop:=Gw u/\Ca u 1 "keys_rise" ["many","table"] (aC gz 2 3)
theorem HU(q:Gw u):EY u:=⟨q,(by ktn_call ["keys"] gz)⟩
theorem iR(q:EY u):∀n:Nat,Ca u (1+n) "fits" ["kind","value"] (bT n)/\Ca u (1+n) "keeps" ["form","table"] (bR n)/\Ca u (1+n) "is_row" ["kinds","row"] (bC n)
 |0=>by
  rw[bT];rw[bR];rw[bC];exact⟨Bw (by walk_at "a") (by walk_at "b"),Bw (by walk_at "a") (by walk_at "b"),Bw (by walk_at "a") (by walk_at "b")⟩
 |n+1=>by
  have ih:=iR q n;have c0:=ih.1;have a0:=mM n;have c1:=ih.2.1;have a1:=kW n;have c2:=ih.2.2;have a2:=j9 n;rw[gA];rw[jm];rw[ib];refine⟨?_,?_,?_⟩
  ·apply AY (k:=1+n) [];walk_at "m";unfold oa;walk_at "d"
  ·apply AY (k:=1+n) ["kinds"];walk_at "m";unfold o5;walk_at "d"
  ·apply AY (k:=1+n) [];walk_at "m";unfold kX;walk_at "d"
noncomputable def Fl(u:U):Prop:=(((((EY u/\Ca u 13 "fits" ["kind","value"] (bT 12))/\Ar 2 (bT 12))/\Ca u 13 "keeps" ["form","table"] (bR 12))/\Ar 2 (bR 12))/\Ca u 13 "is_row" ["kinds","row"] (bC 12))/\Ar 2 (bC 12)
theorem HZ(q:EY u):Fl u:=⟨⟨⟨⟨⟨⟨q,(iR q 12).1⟩,mM 12⟩,(iR q 12).2.1⟩,kW 12⟩,(iR q 12).2.2⟩,j9 12⟩
noncomputable def FU(u:U):Prop:=Fl u/\Ca u 1 "names_of" ["form"] (aC eG 1 1)
theorem HW(q:Fl u):FU u:=⟨q,(by ktn_call [] eG)⟩
noncomputable def Gb(u:U):Prop:=FU u/\Ca u 2 "place_of" ["form","name"] (aC cW 2 4)
theorem HH(q:FU u):Gb u:=⟨q,(by ktn_call ["place","other"] cW)⟩
noncomputable def F6(u:U):Prop:=Gb u/\Ma u 16 "Drop" "view_form" ["self","form"] (aC aq 2 4)
theorem Hv(q:Gb u):F6 u:=⟨q,(by ktn_call ["place","kind"] aq)⟩
noncomputable def FJ(u:U):Prop:=F6 u/\Ta u 16 "view_form" ["self","form"] [("Step",(aC bP 2 2)),("Drop",(aC aq 2 4))]
theorem Hm(q:F6 u):FJ u:=⟨q,(by walk_at "t")⟩
noncomputable def Gi(u:U):Prop:=FJ u/\Ca u 17 "_law_refused" ["_law_step","_law_form_here"] (aC bJ 2 4)
theorem Ic(q:FJ u):Gi u:=⟨q,(by ktn_call ["_law_caught","e"] bJ)⟩
noncomputable def GI(u:U):Prop:=Gi u/\Ca u 1 "_law_cell_at" ["_law_script","_law_k"] (aC aF 2 2)
theorem Hu(q:Gi u):GI u:=⟨q,(by ktn_call [] aF)⟩
noncomputable def GJ(u:U):Prop:=GI u/\Ca u 1 "_law_value" ["_law_kind_here","_law_cell"] (aC cn 2 4)
theorem HE(q:GI u):GJ u:=⟨q,(by ktn_call ["_law_good","_law_words_here"] cn)⟩
noncomputable def Gz(u:U):Prop:=GJ u/\Ca u 1 "_law_draw" ["_law_cell","_law_j"] (aC a5 2 3)
theorem Hs(q:GJ u):Gz u:=⟨q,(by ktn_call ["_law_number"] a5)⟩
noncomputable def Gh(u:U):Prop:=Gz u/\Ca u 2 "_law_words" ["_law_cell"] (aC bu 1 7)
theorem HG(q:Gz u):Gh u:=⟨q,(by ktn_call ["_law_letters","_law_many","_law_full","_law_at","_law_first","_law_end"] bu)⟩
noncomputable def Fx(u:U):Prop:=Gh u/\Ca u 3 "_law_plain_kind" ["_law_cell"] (aC bL 1 2)
theorem HL(q:Gh u):Fx u:=⟨q,(by ktn_call ["_law_low"] bL)⟩
noncomputable def Gp(u:U):Prop:=Fx u/\Ca u 2 "_law_names" ["_law_cell","_law_many"] (aC bO 2 10)
theorem Hi(q:Fx u):Gp u:=⟨q,(by ktn_call ["_law_letters","_law_base","_law_long","_law_at","_law_step","_law_names_here","_law_k","_law_sign"] bO)⟩
noncomputable def GV(u:U):Prop:=Gp u/\Ca u 3 "_law_inner" ["_law_cell"] (aC c9 1 4)
theorem HN(q:Gp u):GV u:=⟨q,(by ktn_call ["_law_names_here","_law_low","_law_key"] c9)⟩
noncomputable def Fp(u:U):Prop:=GV u/\Ca u 4 "_law_kind" ["_law_cell","_law_deep"] (aC bw 2 4)
theorem Hg(q:GV u):Fp u:=⟨q,(by ktn_call ["_law_some","_law_low"] bw)⟩
noncomputable def G4(u:U):Prop:=Fp u/\Ca u 5 "_law_form" ["_law_script","_law_names_here"] (aC cZ 2 9)
theorem Hz(q:Fp u):G4 u:=⟨q,(by ktn_call ["_law_cell","_law_many","_law_rest","_law_fields","_law_k","_law_some","_law_kind_here"] cZ)⟩
theorem D6{f:LW}{fd:ML}(F:pZ u.K "law" "law" (top 63) f fd)(q:G4 u):eh u.P u.w u.K u.mg u.base (jd u.P u.w) 18 f fd ["_law_script"] (vx u.K 1 (aC j7 1 9)):=by
 refine Hj ["_law_names_here","_law_form_here","_law_there","_law_at","_law_value_here","_law_name","_law_caught","_law_due_here"] F ?_ ?_
 ·exact⟨rfl,rfl,rfl,by decide +kernel,rfl,by decide +kernel,by decide +kernel⟩
 refine λnd=>⟨λcdv A outer s H E hr hp=>?_⟩
 unfold j7;walk_at "d"
set_option hygiene true
variable{P:L7}{w:L6}{K:Ky}{mg:bK}{base:L8}
theorem uv{C f:LW}{fd:ML}(h1:clsAt K "Drop" C)(hM:Mk K C f)(cl:qv K C)(na:∀g∈(["name","value"]:al),cq K C g)(F:pZ K "__init__" "Drop.__init__" fY f fd)(b:Binds K fd ["self","name","value"] [])(hmg:mg "Drop"=some (.ref C)):oC P w K mg base 1 "Drop" ["self","name","value"] ["name","value"]:=
 u5 (k:=0) h1 hM cl na F b hmg jO rfl (by decide +kernel) (by decide) λcdv A outer s H E=>(rz rfl (pv 0) (pv 1) rfl (uD rfl (pv 0) (pv 2) rfl))
theorem p8{C f:LW}{fd:ML}(h1:clsAt K "Blind" C)(hM:Em K C f)(na:∀g∈(["one","other","change"]:al),cq K C g)(F:pZ K "__init__" "Blind.__init__" fg f fd)(b:Binds K fd ["self","one","other","change"] [])(hmg:mg "Blind"=some (.ref C)):ku P w K mg base 1 "Blind" ["self","one","other","change"] ["one","other","change"]:=
 rH (k:=0) h1 hM na F b hmg jj rfl (by decide +kernel) (by decide) λcdv A outer s H E=>(lq rfl (pv 0) (pv 1) rfl (lq rfl (pv 0) (pv 2) rfl (ux rfl (pv 0) (pv 3) rfl)))
end
theorem all_mk{l:K1}{w:L6}{K:Ky}{h:L8}{mg:bK}{fa:LW}(X:K.In h)(G:h.Ns Mb mg)(hfa:mg "law"=some (.ref fa)){f1 f2:LW}
  (ac0:K2 K Mb "Drop"=some (some (.ref Cl0)))
  (ac1:K2 K Mb "Step"=some (some (.ref Cl1)))
  (a0:KG K (.ref Cl1) "view_form"=some (some (.ref f0)))
  (i0:KL K (.ref f0)=true)
  (l0:Lk K f0 "view_form" "Step.view_form" (inClass (top 37) 1) oc0 od0 kV0 dc0 pm0 an0 cd0 ct0 sl0)
  (c0:KZ K cd0 "Step.view_form"=true)
  (k0:KS K (.ref f0)=true)
  (a1:KG K (.ref Cl0) "view_form"=some (some (.ref f1)))
  (i1:KL K (.ref f1)=true)
  (l1:Lk K f1 "view_form" "Drop.view_form" (inClass (top 39) 2) oc1 od1 kV1 dc1 pm1 an1 cd1 ct1 sl1)
  (c1:KZ K cd1 "Drop.view_form"=true)
  (k1:KS K (.ref f1)=true)
  (a2:K2 K Mb "law"=some (some (.ref f2)))
  (l2:Lk K f2 "law" "law" (top 63) oc2 od2 kV2 dc2 pm2 an2 cd2 ct2 sl2)
  (c2:KZ K cd2 "law"=true)
  (k2:KS K (.ref f2)=true)
  (a3:KG K (.ref Cl0) "__init__"=some (some (.ref f3)))
  (i3:KL K (.ref f3)=true)
  (l3:Lk K f3 "__init__" "Drop.__init__" (inClass (top 39) 0) oc3 od3 kV3 dc3 pm3 an3 cd3 ct3 sl3)
  (c3:KZ K cd3 "Drop.__init__"=true)
  (k3:KS K (.ref f3)=true)
  (p0:KA K Cl0 Str.empty=true)
  (q0:KC K Cl0=true)
  (r0:KN K Cl0=true)
  (s0:KG K (.ref Cl0) "__setattr__"=some (some (.builtin "object.__setattr__")))
  (n0_0:KG K (.ref Cl0) "name"=some none)
  (n0_1:KG K (.ref Cl0) "value"=some none)
  (m0:KP K Cl0=true)
  (kp0:KS K (.ref Cl0)=true)
  (p1:KA K Cl1 Str.empty=true)
  (q1:KC K Cl1=true)
  (r1:KN K Cl1=true)
  (s1:KG K (.ref Cl1) "__setattr__"=some (some (.builtin "object.__setattr__")))
  (xa0:K2 K Mb "Twice"=some (some (.ref Xl0)))
  (xa1:K2 K Mb "NoKind"=some (some (.ref Xl1)))
  (xa2:K2 K Mb "NoField"=some (some (.ref Xl2)))
  (xa3:K2 K Mb "Nothing"=some (some (.ref Xl3)))
  (xa4:K2 K Mb "NoKey"=some (some (.ref Xl4)))
  (xa5:K2 K Mb "TooMany"=some (some (.ref Xl5)))
  (xa6:K2 K Mb "Torn"=some (some (.ref Xl6)))
  (xa7:K2 K Mb "Blind"=some (some (.ref Xl7)))
  (xa8:K2 K Mb "NoForm"=some (some (.ref Xl8)))
  (xa9:K2 K Mb "NoTable"=some (some (.ref Xl9)))
  (xa10:K2 K Mb "Stale"=some (some (.ref Xl10)))
  (xa11:K2 K Mb "NoPane"=some (some (.ref Xl11)))
  (xa12:K2 K Mb "NoText"=some (some (.ref Xl12)))
  (xa13:K2 K Mb "GlassError"=some (some (.ref Xl13)))
  (a4:KG K (.ref Xl7) "__init__"=some (some (.ref f4)))
  (i4:KL K (.ref f4)=true)
  (l4:Lk K f4 "__init__" "Blind.__init__" (inClass (top 11) 0) oc4 od4 kV4 dc4 pm4 an4 cd4 ct4 sl4)
  (c4:KZ K cd4 "Blind.__init__"=true)
  (k4:KS K (.ref f4)=true)
  (xs7:KG K (.ref Xl7) "__setattr__"=some (some (.builtin "object.__setattr__")))
  (xp7:KS K (.ref Xl7)=true)
  (xi7:rk K Xl7 f4=true)
  (xy7:qy K Xl7=true)
  (xd7:KC K Xl7=true)
  (xna7_0:KG K (.ref Xl7) "one"=some none)
  (xna7_1:KG K (.ref Xl7) "other"=some none)
  (xna7_2:KG K (.ref Xl7) "change"=some none)
  (xe4:K6 K Xl4 Dc "ValueError.__new__"=true)
  (xe2:K6 K Xl2 Dc "ValueError.__new__"=true)
  (xe1:K6 K Xl1 Dc "ValueError.__new__"=true)
  (xsg:PySem.W.specialIn K (.builtin "object.__class__") "__get__"=some (some (.builtin "getset_descriptor.__get__")))
  (xtk:PySem.W.takesIn K (.builtin "object.__class__")=some true)
  (xg2:KG K (.ref Xl2) "__getattribute__"=some (some (.builtin "BaseException.__getattribute__")))
  (xn2:KG K (.ref Xl2) "__getattr__"=some none)
  (xf2:KG K (.ref Xl2) "__class__"=some (some (.builtin "object.__class__")))
  (xb2:La K Xl2 (.type "BaseException")=some true)
  (xg1:KG K (.ref Xl1) "__getattribute__"=some (some (.builtin "BaseException.__getattribute__")))
  (xn1:KG K (.ref Xl1) "__getattr__"=some none)
  (xf1:KG K (.ref Xl1) "__class__"=some (some (.builtin "object.__class__")))
  (xb1:La K Xl1 (.type "BaseException")=some true)
  (xg4:KG K (.ref Xl4) "__getattribute__"=some (some (.builtin "BaseException.__getattribute__")))
  (xn4:KG K (.ref Xl4) "__getattr__"=some none)
  (xf4:KG K (.ref Xl4) "__class__"=some (some (.builtin "object.__class__")))
  (xb4:La K Xl4 (.type "BaseException")=some true)
  (xg7:KG K (.ref Xl7) "__getattribute__"=some (some (.builtin "BaseException.__getattribute__")))
  (xn7:KG K (.ref Xl7) "__getattr__"=some none)
  (xf7:KG K (.ref Xl7) "__class__"=some (some (.builtin "object.__class__")))
  (xb7:La K Xl7 (.type "BaseException")=some true)
  (xo0:La K Xl0 (.type "object")=some true)
  (xt0:KQ K (.ref Xl0)=some (.type "type"))
  (xo1:La K Xl1 (.type "object")=some true)
  (xt1:KQ K (.ref Xl1)=some (.type "type"))
  (xo2:La K Xl2 (.type "object")=some true)
  (xt2:KQ K (.ref Xl2)=some (.type "type"))
  (xo3:La K Xl3 (.type "object")=some true)
  (xt3:KQ K (.ref Xl3)=some (.type "type"))
  (xo4:La K Xl4 (.type "object")=some true)
  (xt4:KQ K (.ref Xl4)=some (.type "type"))
  (xo5:La K Xl5 (.type "object")=some true)
  (xt5:KQ K (.ref Xl5)=some (.type "type"))
  (xo6:La K Xl6 (.type "object")=some true)
  (xt6:KQ K (.ref Xl6)=some (.type "type"))
  (xo7:La K Xl7 (.type "object")=some true)
  (xt7:KQ K (.ref Xl7)=some (.type "type"))
  (xo8:La K Xl8 (.type "object")=some true)
  (xt8:KQ K (.ref Xl8)=some (.type "type"))
  (xo9:La K Xl9 (.type "object")=some true)
  (xt9:KQ K (.ref Xl9)=some (.type "type"))
  (xo10:La K Xl10 (.type "object")=some true)
  (xt10:KQ K (.ref Xl10)=some (.type "type"))
  (xo11:La K Xl11 (.type "object")=some true)
  (xt11:KQ K (.ref Xl11)=some (.type "type"))
  (xo12:La K Xl12 (.type "object")=some true)
  (xt12:KQ K (.ref Xl12)=some (.type "type"))
  (xo13:La K Xl13 (.type "object")=some true)
  (xt13:KQ K (.ref Xl13)=some (.type "type"))
  (xw13:Lb K (.ref Xl13) (.type "BaseException")=some true)
  (xm13_2:Lb K (.ref Xl2) (.ref Xl13)=some true)
  (xm13_1:Lb K (.ref Xl1) (.ref Xl13)=some true)
  (xm13_4:Lb K (.ref Xl4) (.ref Xl13)=some true)
  (xm13_7:Lb K (.ref Xl7) (.ref Xl13)=some true)
  (xk0_2:Lb K (.ref Xl2) (.ref Xl0)=some false)
  (vnx0_2:Xl2≠Xl0)
  (xk0_1:Lb K (.ref Xl1) (.ref Xl0)=some false)
  (vnx0_1:Xl1≠Xl0)
  (xk0_4:Lb K (.ref Xl4) (.ref Xl0)=some false)
  (vnx0_4:Xl4≠Xl0)
  (xk0_7:Lb K (.ref Xl7) (.ref Xl0)=some false)
  (vnx0_7:Xl7≠Xl0)
  (xk1_2:Lb K (.ref Xl2) (.ref Xl1)=some false)
  (vnx1_2:Xl2≠Xl1)
  (xk1_1:Lb K (.ref Xl1) (.ref Xl1)=some true)
  (xk1_4:Lb K (.ref Xl4) (.ref Xl1)=some false)
  (vnx1_4:Xl4≠Xl1)
  (xk1_7:Lb K (.ref Xl7) (.ref Xl1)=some false)
  (vnx1_7:Xl7≠Xl1)
  (xk2_2:Lb K (.ref Xl2) (.ref Xl2)=some true)
  (xk2_1:Lb K (.ref Xl1) (.ref Xl2)=some false)
  (vnx2_1:Xl1≠Xl2)
  (xk2_4:Lb K (.ref Xl4) (.ref Xl2)=some false)
  (vnx2_4:Xl4≠Xl2)
  (xk2_7:Lb K (.ref Xl7) (.ref Xl2)=some false)
  (vnx2_7:Xl7≠Xl2)
  (xk3_2:Lb K (.ref Xl2) (.ref Xl3)=some false)
  (vnx3_2:Xl2≠Xl3)
  (xk3_1:Lb K (.ref Xl1) (.ref Xl3)=some false)
  (vnx3_1:Xl1≠Xl3)
  (xk3_4:Lb K (.ref Xl4) (.ref Xl3)=some false)
  (vnx3_4:Xl4≠Xl3)
  (xk3_7:Lb K (.ref Xl7) (.ref Xl3)=some false)
  (vnx3_7:Xl7≠Xl3)
  (xk4_2:Lb K (.ref Xl2) (.ref Xl4)=some false)
  (vnx4_2:Xl2≠Xl4)
  (xk4_1:Lb K (.ref Xl1) (.ref Xl4)=some false)
  (vnx4_1:Xl1≠Xl4)
  (xk4_4:Lb K (.ref Xl4) (.ref Xl4)=some true)
  (xk4_7:Lb K (.ref Xl7) (.ref Xl4)=some false)
  (vnx4_7:Xl7≠Xl4)
  (xk5_2:Lb K (.ref Xl2) (.ref Xl5)=some false)
  (vnx5_2:Xl2≠Xl5)
  (xk5_1:Lb K (.ref Xl1) (.ref Xl5)=some false)
  (vnx5_1:Xl1≠Xl5)
  (xk5_4:Lb K (.ref Xl4) (.ref Xl5)=some false)
  (vnx5_4:Xl4≠Xl5)
  (xk5_7:Lb K (.ref Xl7) (.ref Xl5)=some false)
  (vnx5_7:Xl7≠Xl5)
  (xk6_2:Lb K (.ref Xl2) (.ref Xl6)=some false)
  (vnx6_2:Xl2≠Xl6)
  (xk6_1:Lb K (.ref Xl1) (.ref Xl6)=some false)
  (vnx6_1:Xl1≠Xl6)
  (xk6_4:Lb K (.ref Xl4) (.ref Xl6)=some false)
  (vnx6_4:Xl4≠Xl6)
  (xk6_7:Lb K (.ref Xl7) (.ref Xl6)=some false)
  (vnx6_7:Xl7≠Xl6)
  (xk7_2:Lb K (.ref Xl2) (.ref Xl7)=some false)
  (vnx7_2:Xl2≠Xl7)
  (xk7_1:Lb K (.ref Xl1) (.ref Xl7)=some false)
  (vnx7_1:Xl1≠Xl7)
  (xk7_4:Lb K (.ref Xl4) (.ref Xl7)=some false)
  (vnx7_4:Xl4≠Xl7)
  (xk7_7:Lb K (.ref Xl7) (.ref Xl7)=some true)
  (xk8_2:Lb K (.ref Xl2) (.ref Xl8)=some false)
  (vnx8_2:Xl2≠Xl8)
  (xk8_1:Lb K (.ref Xl1) (.ref Xl8)=some false)
  (vnx8_1:Xl1≠Xl8)
  (xk8_4:Lb K (.ref Xl4) (.ref Xl8)=some false)
  (vnx8_4:Xl4≠Xl8)
  (xk8_7:Lb K (.ref Xl7) (.ref Xl8)=some false)
  (vnx8_7:Xl7≠Xl8)
  (xk9_2:Lb K (.ref Xl2) (.ref Xl9)=some false)
  (vnx9_2:Xl2≠Xl9)
  (xk9_1:Lb K (.ref Xl1) (.ref Xl9)=some false)
  (vnx9_1:Xl1≠Xl9)
  (xk9_4:Lb K (.ref Xl4) (.ref Xl9)=some false)
  (vnx9_4:Xl4≠Xl9)
  (xk9_7:Lb K (.ref Xl7) (.ref Xl9)=some false)
  (vnx9_7:Xl7≠Xl9)
  (xk10_2:Lb K (.ref Xl2) (.ref Xl10)=some false)
  (vnx10_2:Xl2≠Xl10)
  (xk10_1:Lb K (.ref Xl1) (.ref Xl10)=some false)
  (vnx10_1:Xl1≠Xl10)
  (xk10_4:Lb K (.ref Xl4) (.ref Xl10)=some false)
  (vnx10_4:Xl4≠Xl10)
  (xk10_7:Lb K (.ref Xl7) (.ref Xl10)=some false)
  (vnx10_7:Xl7≠Xl10)
  (xk11_2:Lb K (.ref Xl2) (.ref Xl11)=some false)
  (vnx11_2:Xl2≠Xl11)
  (xk11_1:Lb K (.ref Xl1) (.ref Xl11)=some false)
  (vnx11_1:Xl1≠Xl11)
  (xk11_4:Lb K (.ref Xl4) (.ref Xl11)=some false)
  (vnx11_4:Xl4≠Xl11)
  (xk11_7:Lb K (.ref Xl7) (.ref Xl11)=some false)
  (vnx11_7:Xl7≠Xl11)
  (xk12_2:Lb K (.ref Xl2) (.ref Xl12)=some false)
  (vnx12_2:Xl2≠Xl12)
  (xk12_1:Lb K (.ref Xl1) (.ref Xl12)=some false)
  (vnx12_1:Xl1≠Xl12)
  (xk12_4:Lb K (.ref Xl4) (.ref Xl12)=some false)
  (vnx12_4:Xl4≠Xl12)
  (xk12_7:Lb K (.ref Xl7) (.ref Xl12)=some false)
  (vnx12_7:Xl7≠Xl12)
  (xv_ValueError_2:Lb K (.ref Xl2) (.type "ValueError")=some true)
  (xv_ValueError_1:Lb K (.ref Xl1) (.type "ValueError")=some true)
  (xv_ValueError_4:Lb K (.ref Xl4) (.type "ValueError")=some true)
  (xv_ValueError_7:Lb K (.ref Xl7) (.type "ValueError")=some true)
  (dd0:KDs K [("_law_looks",top 59),("_law_look_alike",top 60),("_law_fits",top 49),("_law_keeps",top 50),("_law_changed",top 61),("_law_blind",top 62),("_law_class",top 51),("_law_single",top 53),("_law_is_of",top 57),("_law_due",top 58),("replaced",top 34),("in_key",top 33),("with_fields",top 35),("second_value",top 41),("kinds_of",top 19),("least",top 21),("least_row",top 30),("single",top 20),("kind_at",top 32),("check_key",top 40),("is_whole",top 17),("has_parts",top 18),("keys_rise",top 29),("fits",top 26),("keeps",top 27),("is_row",top 28),("names_of",top 23),("place_of",top 24),("_law_refused",top 52),("_law_cell_at",top 43)])
  (dd1:KDs K [("_law_value",top 56),("_law_draw",top 44),("_law_words",top 46),("_law_plain_kind",top 54),("_law_names",top 45),("_law_inner",top 47),("_law_kind",top 48),("_law_form",top 55)])
  (zz:KZs K ["len","isinstance","int","bool","str","tuple","all","zip","range","list","ValueError","enumerate"]):
  ∃fd:ML,(∀(s:LZ)(v:LU),MM s fd ⟨[v],[]⟩ [("_law_script",v)])/\∀base:L8,K.In base->base.Ns Mb mg->eh l.prog w K mg base (jd l.prog w) 18 fa fd ["_law_script"] (vx K 1 (aC j7 1 9)):=by
 have e:=hfa.symm.trans (Le X G a2);cases e;have F0:=jV (st:=(inClass (top 37) 1)) l0 c0 k0;have F1:=jV (st:=(inClass (top 39) 2)) l1 c1 k1;have F2:=jV (st:=(top 63)) l2 c2 k2;have F3:=jV (st:=(inClass (top 39) 0)) l3 c3 k3;have b3:=F3.binds (ps:=["self","name","value"]) λ_ _ _ _ _ _ us hl=>by obtain⟨u0,u1,u2,rfl⟩:=CQ hl;rfl
 have F4:=jV (st:=(inClass (top 11) 0)) l4 c4 k4;have b4:=F4.binds (ps:=["self","one","other","change"]) λ_ _ _ _ _ _ us hl=>by obtain⟨u0,u1,u2,u3,rfl⟩:=Dh hl;rfl
 have cl0:qv K Cl0:=⟨p0,q0,r0,s0⟩
 have cl1:qv K Cl1:=⟨p1,q1,r1,s1⟩
 have oG:pK K "name" ["Drop"]:=by
  intro c hc C hC;simp only[JH,Km,or_false]at hc;rcases hc with rfl
  ·cases dZ hC ac0;exact⟨cl0,n0_0⟩
 have mn:pK K "value" ["Drop"]:=by
  intro c hc C hC;simp only[JH,Km,or_false]at hc;rcases hc with rfl
  ·cases dZ hC ac0;exact⟨cl0,n0_1⟩
 refine⟨KY "law" "law" (fE (top 63)) (cO (top 63)) (aH (top 63)) .none kV2 dc2 pm2 an2 cd2 ct2,λs v=>.of_eq rfl,λbase _ _=>?_⟩;have E_NoKey:ExcAt K mg "NoKey":=⟨_,xa4,Le X G xa4,xe4⟩
 have E_NoField:ExcAt K mg "NoField":=⟨_,xa2,Le X G xa2,xe2⟩
 have E_NoKind:ExcAt K mg "NoKind":=⟨_,xa1,Le X G xa1,xe1⟩
 have xK2:iB K Xl2:=⟨xg2,xn2,xf2,xsg,xtk,xo2,xb2⟩
 have xK1:iB K Xl1:=⟨xg1,xn1,xf1,xsg,xtk,xo1,xb1⟩
 have xK4:iB K Xl4:=⟨xg4,xn4,xf4,xsg,xtk,xo4,xb4⟩
 have xK7:iB K Xl7:=⟨xg7,xn7,xf7,xsg,xtk,xo7,xb7⟩
 have RI_Blind:=p8 (P:=l.prog) (w:=w) (base:=base) xa7 (CW xi7 (beq_iff_eq.mp i4) ⟨xs7,xy7,xd7⟩ xp7) (by intro g hg;simp only[JH,Km,or_false]at hg;rcases hg with rfl|rfl|rfl<;>first|exact xna7_0|exact xna7_1|exact xna7_2) F4 b4 (Le X G xa7);have fx_change_Blind:mF K "change" ["Blind"]:=jz xa7 xK7 xna7_2 xd7 (lD);have fx_other_Blind:mF K "other" ["Blind"]:=jz xa7 xK7 xna7_1 xd7 (lD);have fx_one_Blind:mF K "one" ["Blind"]:=jz xa7 xK7 xna7_0 xd7 (lD);have T_GlassError:pS K mg "GlassError" ["NoField","NoKind","NoKey","Blind"]:=vA (Le X G xa13) (by
  intro c hc;simp only[JH,Km,or_false]at hc;rcases hc with rfl|rfl|rfl|rfl
  ·exact⟨_,xa2,kB xw13 xm13_2 xo13 xt13⟩
  ·exact⟨_,xa1,kB xw13 xm13_1 xo13 xt13⟩
  ·exact⟨_,xa4,kB xw13 xm13_4 xo13 xt13⟩
  ·exact⟨_,xa7,kB xw13 xm13_7 xo13 xt13⟩)
 have yP:ce K mg "Twice" [("NoField",false),("NoKind",false),("NoKey",false),("Blind",false)]:=⟨_,Le X G xa0,aj xa2 xK2 (aw xk0_2 xo0 xt0 (.inr vnx0_2)) (aj xa1 xK1 (aw xk0_1 xo0 xt0 (.inr vnx0_1)) (aj xa4 xK4 (aw xk0_4 xo0 xt0 (.inr vnx0_4)) (aj xa7 xK7 (aw xk0_7 xo0 xt0 (.inr vnx0_7)) bZ)))⟩
 have xR:ce K mg "NoKind" [("NoField",false),("NoKind",true),("NoKey",false),("Blind",false)]:=⟨_,Le X G xa1,aj xa2 xK2 (aw xk1_2 xo1 xt1 (.inr vnx1_2)) (aj xa1 xK1 (aw xk1_1 xo1 xt1 (.inl rfl)) (aj xa4 xK4 (aw xk1_4 xo1 xt1 (.inr vnx1_4)) (aj xa7 xK7 (aw xk1_7 xo1 xt1 (.inr vnx1_7)) bZ)))⟩
 have ui:ce K mg "NoField" [("NoField",true),("NoKind",false),("NoKey",false),("Blind",false)]:=⟨_,Le X G xa2,aj xa2 xK2 (aw xk2_2 xo2 xt2 (.inl rfl)) (aj xa1 xK1 (aw xk2_1 xo2 xt2 (.inr vnx2_1)) (aj xa4 xK4 (aw xk2_4 xo2 xt2 (.inr vnx2_4)) (aj xa7 xK7 (aw xk2_7 xo2 xt2 (.inr vnx2_7)) bZ)))⟩
 have uI:ce K mg "Nothing" [("NoField",false),("NoKind",false),("NoKey",false),("Blind",false)]:=⟨_,Le X G xa3,aj xa2 xK2 (aw xk3_2 xo3 xt3 (.inr vnx3_2)) (aj xa1 xK1 (aw xk3_1 xo3 xt3 (.inr vnx3_1)) (aj xa4 xK4 (aw xk3_4 xo3 xt3 (.inr vnx3_4)) (aj xa7 xK7 (aw xk3_7 xo3 xt3 (.inr vnx3_7)) bZ)))⟩
 have yD:ce K mg "NoKey" [("NoField",false),("NoKind",false),("NoKey",true),("Blind",false)]:=⟨_,Le X G xa4,aj xa2 xK2 (aw xk4_2 xo4 xt4 (.inr vnx4_2)) (aj xa1 xK1 (aw xk4_1 xo4 xt4 (.inr vnx4_1)) (aj xa4 xK4 (aw xk4_4 xo4 xt4 (.inl rfl)) (aj xa7 xK7 (aw xk4_7 xo4 xt4 (.inr vnx4_7)) bZ)))⟩
 have ug:ce K mg "TooMany" [("NoField",false),("NoKind",false),("NoKey",false),("Blind",false)]:=⟨_,Le X G xa5,aj xa2 xK2 (aw xk5_2 xo5 xt5 (.inr vnx5_2)) (aj xa1 xK1 (aw xk5_1 xo5 xt5 (.inr vnx5_1)) (aj xa4 xK4 (aw xk5_4 xo5 xt5 (.inr vnx5_4)) (aj xa7 xK7 (aw xk5_7 xo5 xt5 (.inr vnx5_7)) bZ)))⟩
 have C8:ce K mg "Torn" [("NoField",false),("NoKind",false),("NoKey",false),("Blind",false)]:=⟨_,Le X G xa6,aj xa2 xK2 (aw xk6_2 xo6 xt6 (.inr vnx6_2)) (aj xa1 xK1 (aw xk6_1 xo6 xt6 (.inr vnx6_1)) (aj xa4 xK4 (aw xk6_4 xo6 xt6 (.inr vnx6_4)) (aj xa7 xK7 (aw xk6_7 xo6 xt6 (.inr vnx6_7)) bZ)))⟩
 have AA:ce K mg "Blind" [("NoField",false),("NoKind",false),("NoKey",false),("Blind",true)]:=⟨_,Le X G xa7,aj xa2 xK2 (aw xk7_2 xo7 xt7 (.inr vnx7_2)) (aj xa1 xK1 (aw xk7_1 xo7 xt7 (.inr vnx7_1)) (aj xa4 xK4 (aw xk7_4 xo7 xt7 (.inr vnx7_4)) (aj xa7 xK7 (aw xk7_7 xo7 xt7 (.inl rfl)) bZ)))⟩
 have yk:ce K mg "NoForm" [("NoField",false),("NoKind",false),("NoKey",false),("Blind",false)]:=⟨_,Le X G xa8,aj xa2 xK2 (aw xk8_2 xo8 xt8 (.inr vnx8_2)) (aj xa1 xK1 (aw xk8_1 xo8 xt8 (.inr vnx8_1)) (aj xa4 xK4 (aw xk8_4 xo8 xt8 (.inr vnx8_4)) (aj xa7 xK7 (aw xk8_7 xo8 xt8 (.inr vnx8_7)) bZ)))⟩
 have uG:ce K mg "NoTable" [("NoField",false),("NoKind",false),("NoKey",false),("Blind",false)]:=⟨_,Le X G xa9,aj xa2 xK2 (aw xk9_2 xo9 xt9 (.inr vnx9_2)) (aj xa1 xK1 (aw xk9_1 xo9 xt9 (.inr vnx9_1)) (aj xa4 xK4 (aw xk9_4 xo9 xt9 (.inr vnx9_4)) (aj xa7 xK7 (aw xk9_7 xo9 xt9 (.inr vnx9_7)) bZ)))⟩
 have zP:ce K mg "Stale" [("NoField",false),("NoKind",false),("NoKey",false),("Blind",false)]:=⟨_,Le X G xa10,aj xa2 xK2 (aw xk10_2 xo10 xt10 (.inr vnx10_2)) (aj xa1 xK1 (aw xk10_1 xo10 xt10 (.inr vnx10_1)) (aj xa4 xK4 (aw xk10_4 xo10 xt10 (.inr vnx10_4)) (aj xa7 xK7 (aw xk10_7 xo10 xt10 (.inr vnx10_7)) bZ)))⟩
 have yg:ce K mg "NoPane" [("NoField",false),("NoKind",false),("NoKey",false),("Blind",false)]:=⟨_,Le X G xa11,aj xa2 xK2 (aw xk11_2 xo11 xt11 (.inr vnx11_2)) (aj xa1 xK1 (aw xk11_1 xo11 xt11 (.inr vnx11_1)) (aj xa4 xK4 (aw xk11_4 xo11 xt11 (.inr vnx11_4)) (aj xa7 xK7 (aw xk11_7 xo11 xt11 (.inr vnx11_7)) bZ)))⟩
 have vL:ce K mg "NoText" [("NoField",false),("NoKind",false),("NoKey",false),("Blind",false)]:=⟨_,Le X G xa12,aj xa2 xK2 (aw xk12_2 xo12 xt12 (.inr vnx12_2)) (aj xa1 xK1 (aw xk12_1 xo12 xt12 (.inr vnx12_1)) (aj xa4 xK4 (aw xk12_4 xo12 xt12 (.inr vnx12_4)) (aj xa7 xK7 (aw xk12_7 xo12 xt12 (.inr vnx12_7)) bZ)))⟩
 have V_ValueError:qa K (.type "ValueError") [("NoField",true),("NoKind",true),("NoKey",true),("Blind",true)]:=aj xa2 xK2 (oi xv_ValueError_2) (aj xa1 xK1 (oi xv_ValueError_1) (aj xa4 xK4 (oi xv_ValueError_4) (aj xa7 xK7 (oi xv_ValueError_7) bZ)));have C3:=uv (P:=l.prog) (w:=w) (base:=base) ac0 ⟨m0,a3,i3,kp0⟩ cl0 (by intro g hg;simp only[JH,Km,or_false]at hg;rcases hg with rfl|rfl<;>first|exact n0_0|exact n0_1) F3 b3 (Le X G ac0)
 let u:U:=⟨l.prog,w,K,mg,base,(0:Nat),(0:Nat)⟩
 have q0:Q0 u:=⟨⟨⟨⟨⟨⟨⟨⟨⟨⟨⟨⟨⟨⟨⟨⟨⟨⟨⟨⟨⟨⟨⟨⟨⟨⟨⟨(EF.of X G (EF.of X G (Zs.of X G zz) dd0) dd1),oG⟩,mn⟩,C3⟩,RI_Blind⟩,fx_change_Blind⟩,fx_other_Blind⟩,fx_one_Blind⟩,E_NoKey⟩,E_NoField⟩,E_NoKind⟩,T_GlassError⟩,yP⟩,xR⟩,ui⟩,uI⟩,yD⟩,ug⟩,C8⟩,AA⟩,yk⟩,uG⟩,zP⟩,yg⟩,vL⟩,V_ValueError⟩,⟨_,_,_,ac1,cl1,⟨a0,i0,k0⟩,F0⟩⟩,⟨_,_,_,ac0,cl0,⟨a1,i1,k1⟩,F1⟩⟩
 exact D6 (u:=u) F2 (Hz (Hg (HN (Hi (HL (HG (Hs (HE (Hu (Ic (Hm (Hv (HH (HW (HZ (HU (Hr (HA (e20 (HQ (HI (HF (Ia (Hx (HK (Hk (Hh (GK (e10 (e9 (e8 (e7 (e6 (e5 (e4 (e3 (e2 (e1 q0))))))))))))))))))))))))))))))))))))))
theorem walk{l:K1}{q:L7}{loose:al}{XP:(bK)->L8->Prop}{YP:L6->L8->Prop}{d:DefRec}{K:Params->Ky}(hn:l.most=some 63)(hdf:d.params.defaults=[])
  (hY:∀(w:L6)(h:L8),YP w h->(K w.params).In h)
  (F:∀ (w:L6) (mg:bK) (fa:LW) (h:L8),(K w.params).In h->h.Ns Mb mg->mg d.name=some (.ref fa) ->
   ∃fd:ML,(∀(s:LZ)(u:LU),MM s fd ⟨[u],[]⟩ [("_law_script",u)])/\∀base:L8,(K w.params).In base->base.Ns Mb mg->eh l.prog w (K w.params) mg base (jd l.prog w) 18 fa fd ["_law_script"] (vx (K w.params) 1 (aC j7 1 9)))
  (math:∀ns:List Int,ns.length<=63->aC j7 1 9 [.lst (ns.map .int)]=.ok (.bl true)):PySem.W.WalkO q loose XP YP l.row.toRowW d [] (λf vs=>PySem.call f vs):=
 L2.Fb (n:=63) (k:=18) (x:="_law_script") (CX:=λw=>jd l.prog w) (sp:=λw=>vx (K w.params) 1 (aC j7 1 9)) hn (by decide) hdf ⟨rfl,by decide,by decide⟩ hY F
  (λw H a ns hl _ hS=>⟨[],[.lst (ns.map .int)],rfl,⟨trivial,λa h=>nomatch h⟩,by rw[AD];exact bn.mpr ⟨.ref a,[],rfl,bz.mpr ⟨a,_,rfl,hS,nS ns⟩,bX.mpr rfl⟩,by rw[math ns hl];exact λv H' _ d=>fN.mp d⟩) λ_ _ _ _ _ z=>by obtain⟨_,_,_,_,_,_,_,_,_,_,_,_,_,_,z⟩:=z;exact z
end Tk31
namespace Tk31
open PySem PySem.Spec L2 TG TD
local macro_rules|`(‹$x›)=>do if x.raw.isOfKind `num then Lean.Macro.throwUnsupported else `(some (S.val $x))
local macro_rules
 |`(tactic| simp! only[$xs,*])=>`(tactic| simp only[dj,sy,tL,rR,ic,de,ge_0,Aw,nY,zR,lF,iM,o9,lm,zZ,zD,zu,yM,Ax,oo,oE,tS,i6,kQ,oJ,kO,sr,oX,oK,kA,lG,jl,om,jw,gh,gQ,gL,oH,kj,gY,kJ,jt,kI,kC,dR,kE,jv,o7,iK,ju,eL,kx,kR,Aq,tQ,zX,yR,yK,nX,km,pB,kz,kD,Ay,zI,Ke,Kf,IG,Je,Ji,Jy,K0,env0,List.replicate,JV,IL,JP,Nat.reduceAdd,Nat.reduceSub,IE,JY,oV,pC,tx,pp,pf,oU,gP,oO,sY,se,sS,o8,i5,iZ,iF,iW,jf,i9,qf,si,su,tq,tK,sj,jg,iS,fm,fq,oB,gX,fF,fU,fK,oy,n5,eF,fM,iV,iY,kh,kN,je,kt,ph,oQ,kS,kH,gN,if_true,if_false,Kg,Kh,Jh,$xs,*])
noncomputable def Up(ws:al):Prop:=ws.Pairwise λx y=>x.cps.toList<y.cps.toList
theorem tH:∀(l:List Nat)(i j:Nat),i<j->j<=l.length->l.take i<l.take j
 |[],i,j,h,hl=>by simp at hl;omega
 |a::l,0,j+1,h,hl=>by
  rw[Jl];exact J0 _ _
 |a::l,i+1,j+1,h,hl=>by
  rw[Jl,Jl,J1];exact .inr ⟨rfl,tH l i j ‹0› (by simpa using hl)⟩
theorem vM:∀(p s t:List Nat)(x y:Nat),x<y->p++x::s<p++y::t
 |[],s,t,x,y,h=>by
  rw[Jy,Jy,J1];exact .inl h
 |a::p,s,t,x,y,h=>by
  rw[Ji,Ji,J1];exact .inr ⟨rfl,vM p s t x y h⟩
theorem qs(c:Int):∃ws:al,ws≠[]/\ws.length<=12/\(∀w∈ws,w.length<=20)/\Up ws/\aC bu 1 7 [.int c]=.ok (.tup (ws.map .str)):=by
 have LL:(("abcdefghijklmnopqrstuvwxyz":Str)).length=26:=by decide +kernel
 have LN:(("abcdefghijklmnopqrstuvwxyz":Str)).cps.toList.Pairwise (·<·):=by decide +kernel
 generalize hL:("abcdefghijklmnopqrstuvwxyz":Str)=L at LL LN;have r8:cV [.int 8]=some (bq 0 8):=dz 8 (by decide);have g3:=λi=>aI (i:=i) (show(0:Int)<3 by decide);have g4:=λi=>aI (i:=i) (show(0:Int)<4 by decide);have g8:=λi=>aI (i:=i) (show(0:Int)<8 by decide);have g12:=λi=>aI (i:=i) (show(0:Int)<12 by decide);have g26:=λi=>aI (i:=i) (show(0:Int)<26 by decide);have d4:=λi=>a8 (i:=i) (show(0:Int)<4 by decide) (show(4:Int)<10^200 by decide);have d7:=λi=>a8 (i:=i) (show(0:Int)<7 by decide) (show(7:Int)<10^200 by decide);have d48:=λi=>a8 (i:=i) (show(0:Int)<48 by decide) (show(48:Int)<10^200 by decide);have d192:=λi=>a8 (i:=i) (show(0:Int)<192 by decide) (show(192:Int)<10^200 by decide);have d1536:=λi=>a8 (i:=i) (show(0:Int)<1536 by decide) (show(1536:Int)<10^200 by decide);have full:∀r:Int,∃x:Str,x.length=8/\f7 (fC (.str "")) (af (cS [none,some 1,some 0] (aT (af (fC (.int 8)) ah)) (gN 0) aU (f2 ai (aa 1) (f2 aW (fR (aC a5 2 3) (af (aa 2) (af (f2 aJ (fC (.int 20)) (aa 0)) ah))) (fC (.int 26))))) ah) [‹.int c›,‹.str L›,‹.int r›,none,none,none,none]=.ok (.str x):=by
  intro r;obtain⟨vs,v1,v2,v3⟩:∃vs:List D,vs.length=(bq 0 8).length/\(∀v∈vs,∃w:Str,v=.str w/\w.length=1)/\mD (inB [none,some 1,some 0] [‹.int c›,‹.str L›,‹.int r›,none,none,none,none]) (gN 0) aU (f2 ai (aa 1) (f2 aW (fR (aC a5 2 3) (af (aa 2) (af (f2 aJ (fC (.int 20)) (aa 0)) ah))) (fC (.int 26)))) (bq 0 8)=.ok vs:=by
   refine gg (λv=>∃w:Str,v=.str w/\w.length=1) _ λd hd=>?_;obtain⟨k,hk,rfl⟩:=fJ hd;obtain⟨q,hq,eq⟩:=gR c (20+(0+(k:Int))) ‹0› ‹0›;obtain⟨y,hy,e1⟩:=oz L ‹0› (q%26) ‹0› ‹0›;refine⟨_,_,rfl,rfl,?_,y,rfl,hy⟩;simp! only[eq,g26,e1]
  obtain⟨ws,rfl,s1⟩:=oS 1 vs v2;rw[IH,bb]at v1;obtain⟨x,hx,ex⟩:=o6 ws ‹0›;refine⟨x,by omega,?_⟩;have f0:=bh (ix:=[none,some 1,some 0]) (G:=aT (af (fC (.int 8)) ah)) (ρ:=[‹.int c›,‹.str L›,‹.int r›,none,none,none,none]) (by simp! only[r8]) (by rw[bb];decide) v3;simp! only[kP,f0,ex]
 obtain⟨r,r1,r2,er⟩:∃r:Nat,1<=r/\r<=12/\(if c%4=1 then 1+c/4%12 else 1+c/4%3)=(r:Int):=by
  by_cases h:c%4=1
  ·exact⟨(1+c/4%12).toNat,by omega,by omega,by rw[if_pos h];omega⟩
  ·exact⟨(1+c/4%3).toNat,by omega,by omega,by rw[if_neg h];omega⟩
 obtain⟨x,hx,ex⟩:=full r;have er1:=dz r ‹0›;obtain⟨T,hT⟩:∃T:bB,T=(ak (cQ (jn (fB (f2 cD (f2 aW (f2 bE (aa 0) (fC (.int 48))) (fC (.int 4))) (fC (.int 1)))) (fB (f2 dm (aa 2) (fC (.int 10))))) (aL (fL cg (af (cS [none,some 3] (aT (af (aa 2) ah)) (gN 0) aU (aK (aa 1) aD (aO (aa 0)))) ah))) aX) (ak (aG 4 (f2 aW (f2 bE (aa 0) (fC (.int 192))) (fC (.int 8)))) (ak (aG 5 (f2 aW (f2 bE (aa 0) (fC (.int 1536))) (f2 eB (fC (.int 27)) (aa 2)))) (ak (aG 6 (f2 aJ (f2 aJ (aa 4) (fC (.int 1))) (f2 aW (f2 bE (aa 0) (fC (.int 7))) (f2 eB (fC (.int 8)) (aa 4))))) (aL (fL cg (af (cS [none,some 3,some 4,some 1,some 5,some 6] (aT (af (aa 2) ah)) (gN 0) aU (f2 aJ (f2 aJ (aK (aa 1) aD (aO (aa 2))) (f2 ai (aa 3) (f2 aJ (aa 4) (aa 0)))) (aK (aa 1) (aO (f2 aJ (aa 2) (fC (.int 1)))) (aO (aa 5))))) ah))))))):=⟨_,rfl⟩
 have rest:∃ws:al,ws≠[]/\ws.length<=12/\(∀w∈ws,w.length<=20)/\Up ws/\T K0 [‹.int c›,‹.str L›,‹.int r›,‹.str x›,none,none,none]=.ok (.tup (ws.map .str)):=by
  rw[hT];by_cases hb:(c/48%4==1&&decide ((r:Int)<10))=true
  ·obtain⟨y,hy⟩:∃y:Nat->Str,y=λk=>(⟨(x.cps.toList.take k).toArray⟩:Str):=⟨_,rfl⟩
   have yl:∀k,(y k).length=min k 8:=λk=>by
    rw[hy];show(x.cps.toList.take k).toArray.size=_
    have:x.cps.size=8:=hx
    rw[IB,IQ,Array.length_toList,this]
   have v3:mD (inB [none,some 3] [‹.int c›,‹.str L›,‹.int r›,‹.str x›,none,none,none]) (gN 0) aU (aK (aa 1) aD (aO (aa 0))) (bq 0 r)=.ok ((List.range r).map λk=>.str (y k)):=by
    rw[dY];refine cU (λk:Nat=>D.int (0+(k:Int))) (λk=>.str (y k)) (List.range r) λk hk=>⟨_,rfl,rfl,?_⟩
    have e1:eU (.str x) none (some (0+(k:Int)))=some (.str (y k)):=by
     have z:eU (.str x) none (some (0+(k:Int)))=if small x.length then some (.str ⟨(cutD x.cps.toList none (some (0+(k:Int)))).toArray⟩)else none:=rfl
     rw[z,cI ‹0›,Int.zero_add,eT,hy];rfl
    simp! only[e1]
   have hr:decide ((r:Int)<10)=true:=(by rw[Jb]at hb;exact hb.2);have hr:=of_decide_eq_true hr;have f0:=bh (ix:=[none,some 3]) (G:=aT (af (aa 2) ah)) (ρ:=[‹.int c›,‹.str L›,‹.int r›,‹.str x›,none,none,none]) (by simp! only[er1]) (by rw[bb];omega) v3;have em:((List.range r).map y).map D.str=(List.range r).map λk=>.str (y k):=(by rw[Kj];rfl);refine⟨(List.range r).map y,λh=>?_,by rw[IH,JA];omega,λw hw'=>?_,?_,?_⟩
   ·have:=congrArg List.length h
    rw[IH,JA]at this;simp at this;omega
   ·obtain⟨k,_,rfl⟩:=List.mem_map.mp hw';rw[yl];omega
   ·refine List.pairwise_map.mpr ((Kn (n:=r)).imp_of_mem λ{i j} hi hj h=>?_)
    have:=List.mem_range.mp hj
    rw[hy];exact tH x.cps.toList i j h (by
     have:x.cps.toList.length=8:=by rw[Array.length_toList];exact hx
     omega)
   rw[em];rw[Jb]at hb;simp! only[d48,g4,hb.1,hb.2,f0]
  ·have hb':(c/48%4==1&&decide ((r:Int)<10))=false:=(by simpa using hb);generalize ha:c/192%8=a;have ha1:0<=a/\a<=7:=(by omega);have m1:=λi=>aI (i:=i) (show(0:Int)<27-r by omega);have m2:=λi=>aI (i:=i) (show(0:Int)<8-a by omega);have b1:=Ki (c/1536) (show 27-(r:Int)≠0 by omega);have b2:=Kk (c/1536) (show 0<27-(r:Int)by omega);generalize hfi:c/1536%(27-(r:Int))=fi at b1 b2;generalize he:a+1+c/7%(8-a)=en;obtain⟨y1,hy1,e1⟩:=eV x ‹0› none (some a);obtain⟨y3,hy3,e3⟩:=eV x ‹0› (some (a+1)) (some en);obtain⟨sg,hsg⟩:∃sg:Nat->Str,sg=λ(j:Nat)=>(⟨#[L.cps.toList.getD (fi+(0+(j:Int))).toNat 0]⟩:Str):=⟨_,rfl⟩
   have sg_len:∀j,(sg j).length=1:=λj=>by rw[hsg];rfl
   have sg_lt:∀i j:Nat,i<j->j<r->L.cps.toList.getD (fi+(0+(i:Int))).toNat 0<L.cps.toList.getD (fi+(0+(j:Int))).toNat 0:=λi j hij hj=>by
    have hl:L.cps.toList.length=26:=(by rw[Array.length_toList];exact LL);have ha:(fi+(0+(i:Int))).toNat<L.cps.toList.length:=(by omega);have hb:(fi+(0+(j:Int))).toNat<L.cps.toList.length:=(by omega);rw[J8,J8,Jr ha,Jr hb,JG,JG];exact List.pairwise_iff_getElem.mp LN _ _ ha hb ‹0›
   have ys:∀j:Nat,(y1++sg j++y3).cps.toList=y1.cps.toList++L.cps.toList.getD (fi+(0+(j:Int))).toNat 0::y3.cps.toList:=λj=>by
    rw[hsg];show((y1.cps++#[L.cps.toList.getD (fi+(0+(j:Int))).toNat 0])++y3.cps).toList=_;simp
   have v3:mD (inB [none,some 3,some 4,some 1,some 5,some 6] [‹.int c›,‹.str L›,‹.int r›,‹.str x›,‹.int a›,‹.int fi›,‹.int en›]) (gN 0) aU (f2 aJ (f2 aJ (aK (aa 1) aD (aO (aa 2))) (f2 ai (aa 3) (f2 aJ (aa 4) (aa 0)))) (aK (aa 1) (aO (f2 aJ (aa 2) (fC (.int 1)))) (aO (aa 5)))) (bq 0 r)=.ok ((List.range r).map λk=>.str (y1++sg k++y3)):=by
    rw[dY];refine cU (λk:Nat=>D.int (0+(k:Int))) (λk=>.str (y1++sg k++y3)) (List.range r) λk hk=>⟨_,rfl,rfl,?_⟩
    have hk:=List.mem_range.mp hk;have e2:ai (.str L) (.int (fi+(0+(k:Int))))=some (.str (sg k)):=(by rw[hsg];exact lY L ‹0› _ ‹0› ‹0›);have sl:=sg_len k;have a1:=eE y1 (sg k) ‹0› ‹0›;have a2:=eE (y1++sg k) y3 (by rw[dD];omega) ‹0›;simp! only[e1,e2,e3,a1,a2]
   have f0:=bh (ix:=[none,some 3,some 4,some 1,some 5,some 6]) (G:=aT (af (aa 2) ah)) (ρ:=[‹.int c›,‹.str L›,‹.int r›,‹.str x›,‹.int a›,‹.int fi›,‹.int en›]) (by simp! only[er1]) (by rw[bb];omega) v3;have em:((List.range r).map λk=>y1++sg k++y3).map D.str=(List.range r).map λk=>.str (y1++sg k++y3):=(by rw[Kj];rfl);refine⟨(List.range r).map λk=>y1++sg k++y3,λh=>?_,by rw[IH,JA];omega,λw hw'=>?_,?_,?_⟩
   ·have:=congrArg List.length h
    rw[IH,JA]at this;simp at this;omega
   ·obtain⟨k,_,rfl⟩:=List.mem_map.mp hw';rw[dD,dD,sg_len];omega
   ·refine List.pairwise_map.mpr ((Kn (n:=r)).imp_of_mem λ{i j} hi hj h=>?_);rw[ys,ys];exact vM _ _ _ _ _ (sg_lt i j h (List.mem_range.mp hj))
   rw[em];cases hx1:(c/48%4==1)with
   |false=>simp! only[d48,g4,hx1,d192,g8,ha,d1536,m1,hfi,m2,d7,he,f0]
   |true=>
    rw[hx1,Kl]at hb';simp! only[d48,g4,hx1,hb',d192,g8,ha,d1536,m1,hfi,m2,d7,he,f0]
 obtain⟨ws,w1,w2,wl,wn,w3⟩:=rest;refine⟨ws,w1,w2,wl,wn,?_⟩;rw[du];unfold bu;rw[<-hT];simp only[K0]at w3;by_cases h4:c%4=1
 ·rw[if_pos h4]at er;simp! only[hL,d4,g3,g4,g12,h4,BEq.rfl,er,ex,w3]
 ·rw[if_neg h4]at er;have h4':(c%4==1)=false:=by simp[h4]
  simp! only[hL,d4,g3,g4,g12,h4',er,ex,w3]
theorem sV:∀{a b:al},a.map D.str=b.map D.str->a=b
 |[],[],_=>rfl
 |x::a,y::b,h=>by
  rw[IG,IG]at h;injection h with h1 h2;injection h1 with h1;rw[h1,sV h2]
 |[],_::_,h=>by cases h
 |_::_,[],h=>by cases h
noncomputable def Rs(k:D):Prop:=∀ws:al,k=.tup [.str "word",.tup (ws.map .str)]->Up ws/\∀w∈ws,w.length<=20
theorem Rs.num{lo hi:Int}:Rs (.tup [.str "number",.int lo,.int hi]):=λws e=>by cases e
theorem Rs.rows{f:D}{b:Bool}:Rs (.tup [.str "rows",f,.bl b]):=λws e=>by cases e
theorem Rs.wrd{ws:al}(h:Up ws)(hl:∀w∈ws,w.length<=20):Rs (.tup [.str "word",.tup (ws.map .str)]):=λus e=>by
 injection e with e;injection e with _ e;injection e with e _;injection e with e;rw[<-sV e];exact⟨h,hl⟩
theorem za(c:Int)(b:Bool):∃k,(b=false->ii k)/\mh 1 k/\Rs k/\aC bw 2 4 [.int c,.bl b]=.ok k:=by
 have p1:=A6;have p2:=A7;have g2:=λi=>aI (i:=i) (show(0:Int)<2 by decide);have g6:=λi=>aI (i:=i) (show(0:Int)<6 by decide);have g10:=λi=>aI (i:=i) (show(0:Int)<10 by decide);have g25:=λi=>aI (i:=i) (show(0:Int)<25 by decide);have g59:=λi=>aI (i:=i) (show(0:Int)<jE by omega);have g259:=λi=>aI (i:=i) (show(0:Int)<2*jE by omega);have m2:hX (.int 2) (.int jE)=some (.int (2*jE)):=gK (by decide) (by decide);have d3:=λi=>a8 (i:=i) (show(0:Int)<3 by decide) (show(3:Int)<10^200 by decide);have d6:=λi=>a8 (i:=i) (show(0:Int)<6 by decide) (show(6:Int)<10^200 by decide);have d25:=λi=>a8 (i:=i) (show(0:Int)<25 by decide) (show(25:Int)<10^200 by decide);have flat:∀k,ii k->Rs k->aC bw 2 4 [.int c,.bl b]=.ok k->∃k,(b=false->ii k)/\mh 1 k/\Rs k/\aC bw 2 4 [.int c,.bl b]=.ok k:=λk h u e=>⟨k,λ_=>h,h.kin,u,e⟩
 by_cases h1:c%6<2
 ·refine flat _ (.inl ⟨c/6%25-12,c/6%25-12+c/6/25%10,by omega,by omega,by omega,rfl⟩) Rs.num ?_;rw[bc];unfold bw;simp! only[d6,g6,decide_eq_true h1,g25,d25,g10,yy]
 ·by_cases h2:c%6=2
  ·have b1:=Ki (c/6) (show 2*jE≠0 by omega);have b2:=Kk (c/6) (show 0<2*jE by omega);have b3:=Ki (c/6/3) (show jE≠0 by omega);have b4:=Kk (c/6/3) (show 0<jE by omega);refine flat _ (.inl ⟨c/6%(2*jE)-jE,c/6%(2*jE)-jE+c/6/3%jE,by omega,by omega,by omega,rfl⟩) Rs.num ?_;rw[bc];unfold bw;simp! only[d6,g6,decide_eq_false h1,(show(c%6==2)=true by simp[h2]),vD,m2,g259,d3,g59,yy]
  ·have h2':(c%6==2)=false:=(by simp[h2]);obtain⟨ws,w1,w2,wl,wu,ew⟩:=qs (c/6);by_cases h5:c%6=5
   ·cases b with
    |true=>
     obtain⟨f,⟨kf,rf,rfl,l1,l2,k1,k2⟩,ef⟩:=xf (c/6);refine⟨_,(λh=>by cases h),.inr ⟨kf,rf,(c/6%2==1),rfl,l1,l2,k1,k2⟩,Rs.rows,?_⟩;rw[bc];unfold bw;simp! only[d6,g6,decide_eq_false h1,h2',(show(c%6==5)=true by simp[h5]),ef,g2,yy]
    |false=>
     refine flat _ (.inr ⟨ws,w1,w2,rfl⟩) (Rs.wrd wu wl) ?_;rw[bc];unfold bw;simp! only[d6,g6,decide_eq_false h1,h2',(show(c%6==5)=true by simp[h5]),ew,vy]
   ·have h5':(c%6==5)=false:=(by simp[h5]);refine flat _ (.inr ⟨ws,w1,w2,rfl⟩) (Rs.wrd wu wl) ?_;rw[bc];unfold bw;simp! only[d6,g6,decide_eq_false h1,h2',h5',ew,vy]
theorem DE(c:Int):∃k,ii k/\Rs k/\aC bL 1 2 [.int c]=.ok k:=by
 have p:=A6;have g2:=λi=>aI (i:=i) (show(0:Int)<2 by decide);have g3:=λi=>aI (i:=i) (show(0:Int)<3 by decide);have g4:=λi=>aI (i:=i) (show(0:Int)<4 by decide);have g6:=λi=>aI (i:=i) (show(0:Int)<6 by decide);have g11:=λi=>aI (i:=i) (show(0:Int)<11 by decide);have gp:=λi=>aI (i:=i) (show(0:Int)<2*jE by omega);have d2:=λi=>a8 (i:=i) (show(0:Int)<2 by decide) (show(2:Int)<10^200 by decide);have d4:=λi=>a8 (i:=i) (show(0:Int)<4 by decide) (show(4:Int)<10^200 by decide);have d7:=λi=>a8 (i:=i) (show(0:Int)<7 by decide) (show(7:Int)<10^200 by decide);have d22:=λi=>a8 (i:=i) (show(0:Int)<22 by decide) (show(22:Int)<10^200 by decide);have mm:=gK (i:=2) (j:=jE) (by decide) (by decide);have l3:∀a b c:D,j0 [a,b,c]=some (.lst [a,b,c]):=λ_ _ _=>nr rfl;rw[du];unfold bL;by_cases h:c%4=1
 ·have h':(c%4==1)=true:=by simp[h]
  obtain⟨y,y1,y2,ey⟩:∃y:Int,0<y/\y<=jE/\ai (.lst [.int 1,.int 3,.int jE]) (.int (c/4%3))=some (.int y):=by
   rcases(show c/4%3=0\/c/4%3=1\/c/4%3=2 by omega)with z|z|z<;>rw[z]
   ·exact⟨1,by decide,by omega,rfl⟩
   ·exact⟨3,by decide,by omega,rfl⟩
   ·exact⟨jE,by omega,by omega,rfl⟩
  have gy:=λi=>aI (i:=i) y1;have q1:=Ki (c/4) (show 2*jE≠0 by omega);have q2:=Kk (c/4) (show 0<2*jE by omega);have q3:=Ki (c/7) (show y≠0 by omega);have q4:=Kk (c/7) y1;refine⟨_,.inl ⟨c/4%(2*jE)-jE,c/4%(2*jE)-jE+c/7%y,by omega,by omega,by omega,rfl⟩,Rs.num,?_⟩;simp! only[g4,h',d4,vD,mm,gp,d7,l3,g3,ey,gy,yy]
 ·have h':(c%4==1)=false:=by simp[h]
  by_cases h2:c%2=0
  ·have h2':(c%2==0)=true:=(by simp[h2]);refine⟨_,.inl ⟨c/2%11-5,c/2%11-5+c/22%6,by omega,by omega,by omega,rfl⟩,Rs.num,?_⟩;simp! only[g4,h',g2,h2',d2,g11,d22,g6,yy]
  ·have h2':(c%2==0)=false:=(by simp[h2]);obtain⟨ws,w1,w2,wl,wu,ew⟩:=qs (c/4);refine⟨_,.inr ⟨ws,w1,w2,rfl⟩,Rs.wrd wu wl,?_⟩;simp! only[g4,h',g2,h2',d4,ew,vy]
noncomputable abbrev stp(nm:Str)(v:D):D:=.obj "Drop" ["name","value"] [.str nm,v]
theorem fQ{nm:Str}{v:D}:uP "name" ["Drop"] (stp nm v)=some (.str nm):=by rfl
theorem lI{nm:Str}{v:D}:uP "value" ["Drop"] (stp nm v)=some v:=by rfl
theorem AV{nm:Str}{v:D}(m:Str)(g1 g2:cB)(fo:FX)(fas:aP)(ρ:ao)(h:fo ρ=.ok (stp nm v))(hm:(["name","value"]:al).contains m=false):j8 m [("Step",g1),("Drop",g2)] fo fas ρ=(fas ρ).bind λas=>g2 (stp nm v::as):=by
 have e:List.lookup ("Drop":Str) [(("Step":Str),g1),(("Drop":Str),g2)]=some g2:=by
  have h1:((("Drop":Str))==(("Step":Str)))=false:=by decide +kernel
  simp[List.lookup,h1]
 unfold j8;rw[h,dj];simp only[e,hm];rfl
theorem gI(c:Str)(f:aP)(k:Ks)(ρ:ao):jJ c f k ρ=kF (f ρ) k ρ λds=>if small ds.length then k.ex ⟨c,[],[]⟩ ρ else un:=nr rfl
theorem gC(f:FX)(k:Ks)(ρ:ao):pM f k ρ=kF (f ρ) k ρ λ_=>k.nx ρ:=nr rfl
theorem rV(cs:al)(i:Nat)(F Fh:bB)(k:Ks)(ρ:ao):wx cs i F Fh k ρ=F {k with ex:=λx ρ1=>if cs.contains x.c=true then Fh (Dn i k) (setV i (.exc x.c x.fs x.vs) ρ1)else un} ρ:=nr rfl
theorem qw(c:Str)(fs:al)(f:aP)(k:Ks)(ρ:ao):ky c fs f k ρ=kF (f ρ) k ρ λds=>if small ds.length&&ds.length==fs.length then k.ex ⟨c,fs,ds⟩ ρ else un:=nr rfl
theorem EB:small (0+1)=true:=by rfl
theorem uZ(kf rf:List D)(ps:dq)(hl:ps.length<=100)(e:kf++rf=ps.map fld)(hn:(ps.map (·.1)).Nodup)(i:Nat)(nm:Str)(k:D)(hi:ps[i]?=some (nm,k)):
  aC cW 2 4 [.tup [.tup kf,.tup rf],.str nm]=.ok (.int i):=by
 have en:=lj kf rf ps hl e;rw[bc];unfold cW;rw[dR,eL];simp! only[en,nJ];have di:(eA 0 (ps.map λp=>D.str p.1))[i]?=some (.tup [.int ((i:Nat):Int),.str nm]):=by
  rw[js,IV,hi,JP];rfl
 refine nF (Q:=λz=>z=.ok (.int i)) (λ_ ρ=>ρ=[‹.tup [.tup kf,.tup rf]›,‹.str nm›,none,none]) _ 0 i _ _ di ?_ rfl ?_
 ·rintro j d ρ k' hj hd rfl;rw[js,IV]at hd;have hil:=c6 hi;have hjl:j<ps.length:=by omega
  rw[Jr hjl]at hd;cases hd;have ne:(ps[j].1==nm)=false:=by
   have h1:=List.pairwise_iff_getElem.mp hn j i (by rw[IH];exact hjl) (by rw[IH];exact hil) hj;rw[Ko,Ko]at h1;have h2:ps[i]=(nm,k):=(by rw[Jr hil]at hi;exact Option.some.inj hi);rw[h2]at h1
   simpa using h1
  refine⟨[‹.tup [.tup kf,.tup rf]›,‹.str nm›,‹.int ((0+j:Nat):Int)›,‹.str ps[j].1›],_,rfl,rfl,?_⟩;simp! only[ne]
 ·rintro ρ k' rfl;refine⟨[‹.tup [.tup kf,.tup rf]›,‹.str nm›,‹.int (i:Int)›,‹.str nm›],rfl,?_⟩;simp! only[BEq.rfl]
theorem qA(kf rf:List D)(ps:dq)(hl:ps.length<=100)(e:kf++rf=ps.map fld)(nm:Str)(hm:nm∉ps.map (·.1)):
  aC cW 2 4 [.tup [.tup kf,.tup rf],.str nm]=.error (some ⟨"NoField",[],[]⟩):=by
 have en:=lj kf rf ps hl e;rw[bc];unfold cW;rw[dR,eL];simp! only[en,nJ];refine gZ (Q:=λz=>z=.error (some ⟨"NoField",[],[]⟩)) (λ_ ρ=>ρ=[‹.tup [.tup kf,.tup rf]›,‹.str nm›,none,none]) ?_ rfl ?_
 ·rintro j d ρ k' hd rfl;rw[js,IV]at hd;have hjl:j<ps.length:=by
   rcases J7 j ps.length with z|z
   ·exact z
   ·rw[J4 z]at hd;cases hd
  rw[Jr hjl]at hd;cases hd;have ne:(ps[j].1==nm)=false:=by
   have:ps[j].1≠nm:=λz=>hm (by rw[<-z];exact Kp (List.getElem_mem hjl))
   simpa using this
  refine⟨[‹.tup [.tup kf,.tup rf]›,‹.str nm›,‹.int ((0+j:Nat):Int)›,‹.str ps[j].1›],_,rfl,rfl,?_⟩;simp! only[ne]
 ·rintro ρ rfl;simp! only[gI,EB]
noncomputable abbrev num(lo hi:Int):D:=.tup [.str "number",.int lo,.int hi]
structure Fo(kf rf:List D)(ps:dq):Prop where
 k1:1<=kf.length
 k8:kf.length<=8
 r8:rf.length<=8
 e:kf++rf=ps.map fld
 hn:(ps.map (·.1)).Nodup
 fk:∀f∈kf,∃nm k,f=.tup [.str nm,k]/\ii k
 fr:∀f∈rf,∃nm k,f=.tup [.str nm,k]/\mh 1 k
 fl:∀(j:Nat)(p:Str×D),ps[j]?=some p->(j<kf.length->ii p.2)/\Rs p.2
section
variable{kf rf:List D}{ps:dq}
theorem Fo.len(h:Fo kf rf ps):kf.length+rf.length=ps.length:=by
 have:=congrArg List.length h.e
 rwa [IZ,IH]at this
theorem Fo.hl(h:Fo kf rf ps):ps.length<=16:=by have:=h.len;have:=h.k8;have:=h.r8;omega
theorem Fo.kin(h:Fo kf rf ps){p:Str×D}(hp:p∈ps):mh 1 p.2:=by
 have:fld p∈kf++rf:=by rw[h.e];exact Kp hp
 rcases List.mem_append.mp this with z|z
 ·obtain⟨nm,k,e,q⟩:=h.fk _ z;cases e;exact q.kin
 ·obtain⟨nm,k,e,q⟩:=h.fr _ z;cases e;exact q
end
noncomputable def ym(k v:D):Prop:=(∀lo hi:Int,k=.tup [.str "number",.int lo,.int hi]->v=.int lo)/\∀(w:Str)(ws:al),k=.tup [.str "word",.tup ((w::ws).map .str)]->v=.str w
theorem ym.num{lo hi:Int}:ym (.tup [.str "number",.int lo,.int hi]) (.int lo):=⟨(λl h e=>by cases e;rfl),(λw ws e=>by cases e)⟩
theorem ym.wrd{w:Str}{ws:al}:ym (.tup [.str "word",.tup ((w::ws).map .str)]) (.str w):=by
 refine⟨(λl h e=>by cases e),λu us e=>?_⟩;injection e with e;injection e with _ e;injection e with e _;injection e with e;rw[IG,IG]at e;injection e with e _
theorem ym.rows{f v:D}{b:Bool}:ym (.tup [.str "rows",f,.bl b]) v:=⟨(λl h e=>by cases e),(λu us e=>by cases e)⟩
noncomputable def LF:Nat->D->D->Prop
 |0,k,v=>ke k v
 |n+1,k,v=>ke k v\/∃(kf rf:List D)(b:Bool)(ps:dq),k=.tup [.str "rows",.tup [.tup kf,.tup rf],.bl b]/\kf++rf=ps.map fld/\ps.length<=20/\((b=false/\v=.tup [])\/(b=true/\∃row,v=.tup [.tup row]/\F2 (λk v=>LF n k v/\ym k v) (ps.map (·.2)) row))
theorem LF.of{n:Nat}{k v:D}(h:ke k v):LF n k v:=by
 cases n with
 |zero=>exact h
 |succ n=>exact .inl h
theorem xN{α:Type}{P:D->D->Prop}(a b:α->D):∀xs:List α,(∀x∈xs,P (a x) (b x))->F2 P (xs.map a) (xs.map b)
 |[],_=>.nil
 |x::xs,h=>.cons (h x Il) (xN a b xs λy hy=>h y (Im _ hy))
theorem uN:∀(n g:Nat)(k:D),n+1<=g->mh n k->∃v,bS g [k]=.ok v/\LF n k v/\ym k v:=by
 have flat:∀(n g:Nat)(k:D),1<=g->ii k->∃v,bS g [k]=.ok v/\LF n k v/\ym k v:=λn g k hg h=>by
  obtain⟨z,rfl⟩:∃z',g=z'+1:=⟨g-1,by omega⟩
  rw[dS,du];unfold jr;rcases h with⟨lo,hi,a1,_,_,rfl⟩|⟨ws,hw,_,rfl⟩
  ·refine⟨.int lo,?_,.of (.inl ⟨lo,hi,lo,rfl,Int.le_refl _,a1,rfl⟩),ym.num⟩;simp! only[BEq.rfl]
  ·cases ws with
   |nil=>exact absurd rfl hw
   |cons w ws=>
    refine⟨.str w,?_,.of (.inr ⟨w::ws,w,rfl,Il,rfl⟩),ym.wrd⟩;simp! only[BEq.rfl,gm]
 intro n
 induction n with
 |zero=>exact λg k hg h=>flat 0 g k ‹0› h
 |succ n ih=>
  intro g k hg h;rcases h with h|⟨kf,rf,b,rfl,h1,h2,h3,h4⟩
  ·exact flat _ g k ‹0› h
  ·obtain⟨ps,e,pl1,q2,_⟩:=xJ h3 h4;obtain⟨z,rfl⟩:∃z',g=z'+1:=⟨g-1,by omega⟩
   rw[dS,du];unfold jr;cases b with
   |false=>
    refine⟨.tup [],?_,.inr ⟨kf,rf,false,ps,rfl,e,by omega,.inl ⟨rfl,rfl⟩⟩,ym.rows⟩;simp! only[BEq.rfl,jK,iG,B7]
   |true=>
    have ko:aC cX 1 1 [.tup [.tup kf,.tup rf]]=.ok (.tup (ps.map (·.2))):=kinds_ok kf rf ps ‹0› e;obtain⟨w,hw⟩:∃w:Str×D->D,∀p∈ps,bS z [p.2]=.ok (w p)/\LF n p.2 (w p)/\ym p.2 (w p):=by
     classical
     have h:=λp (hp:p∈ps)=>ih z p.2 ‹0› (q2 p hp);exact⟨λp=>if hp:p∈ps then(h p hp).choose else .non,λp hp=>by
      show bS z [p.2]=.ok (if hp:p∈ps then(h p hp).choose else .non)/\LF n p.2 (if hp:p∈ps then(h p hp).choose else .non)/\ym p.2 (if hp:p∈ps then(h p hp).choose else .non);rw[dif_pos hp];exact(h p hp).choose_spec⟩
    refine⟨.tup [.tup (ps.map w)],?_,.inr ⟨kf,rf,true,ps,rfl,e,by omega,.inr ⟨rfl,_,rfl,xN _ _ ps λp hp=>(hw p hp).2⟩⟩,ym.rows⟩;have f0:cS [none] (aY (fR (aC cX 1 1) (af (f2 ai (aa 0) (fC (.int 1))) ah))) (gN 0) aU (fR (bS z) (af (aa 0) ah)) [‹.tup [.str "rows",.tup [.tup kf,.tup rf],.bl true]›]=.ok (.lst (ps.map w)):=by
     refine bh (ds:=ps.map (·.2)) ?_ (by rw[IH];omega) ?_
     ·simp! only[ko]
     ·refine cU (λp:Str×D=>p.2) _ ps λp hp=>⟨_,rfl,rfl,?_⟩
      simp! only[(hw p hp).1]
    simp! only[BEq.rfl,jK,iG,f0,EJ]
theorem pc{kf rf:List D}{ps:dq}(h:Fo kf rf ps):∃row,aC dJ 1 1 [.tup [.tup kf,.tup rf]]=.ok (.tup row)/\F2 (λk v=>LF 1 k v/\ym k v) (ps.map (·.2)) row:=by
 have k8:=h.k8;have r8:=h.r8;obtain⟨v,ev,lf,_⟩:=uN 2 12 (.tup [.str "rows",.tup [.tup kf,.tup rf],.bl true]) (by decide) (.inr ⟨kf,rf,true,rfl,h.k1,by omega,h.fk,h.fr⟩);rcases lf with z|⟨kf',rf',b,ps',e,e2,l2,z⟩
 ·rcases z with⟨lo,hi,i,e,_⟩|⟨ws,w,e,_⟩<;>cases e
 ·cases e;rcases z with⟨z,_⟩|⟨_,row,rfl,f⟩
  ·cases z
  ·have:ps'=ps:=by
    have:=e2.symm.trans h.e
    have inj:∀(a b:dq),a.map fld=b.map fld->a=b:=λa b z=>by
     induction a generalizing b with
     |nil=>cases b with|nil=>rfl|cons _ _=>cases z
     |cons x xs ih=>cases b with
      |nil=>cases z
      |cons y ys=>
       rw[IG,IG]at z;injection z with z1 z2;rw[ih ys z2];obtain⟨x1,x2⟩:=x;obtain⟨y1,y2⟩:=y;injection z1 with z1;injection z1 with z1 z3;injection z1 with z1;injection z3 with z3;have z1:x1=y1:=z1;have z3:x2=y2:=z3;rw[z1,z3]
    exact inj _ _ this
   subst this;refine⟨row,?_,f⟩;rw[du];unfold dJ;simp! only[yy,ev]
theorem xI(xs ys:List D):uc [.lst xs,.tup ys]=some (iz xs ys):=nr rfl
theorem pP(n:Nat):fS [.lst ((List.replicate n true).map .bl)]=some (.bl true):=by
 rw[zU];congr;simp
theorem li{kf rf:List D}{ps:dq}(hl:ps.length<=100)(G:aP)(ρ:ao)(hG:G ρ=.ok (ps.map fld)):cS [none,none] G (gT 2 (pj [0,1])) aU (aa 1) ρ=.ok (.lst (ps.map (·.2))):=by
 refine bh hG (by rw[IH];omega) ?_;exact cU fld _ ps λp _=>⟨[‹.str p.1›,‹p.2›],rfl,rfl,rfl⟩
theorem nN(g:Nat){kf rf:List D}{ps:dq}(hl:ps.length<=100)(e:kf++rf=ps.map fld):av (g+1) [.tup [.tup kf,.tup rf],.tup []]=.ok (.bl true):=by
 have len:kf.length+rf.length=ps.length:=by have:=congrArg List.length e;rwa [IZ,IH]at this
 have ad:=cu kf rf ‹0›;rw[e]at ad;have kl:=li (kf:=kf) (rf:=rf) hl (aY (f2 aJ (f2 ai (aa 0) (fC (.int 0))) (f2 ai (aa 0) (fC (.int 1))))) [‹.tup [.tup kf,.tup rf]›,‹.tup []›,none,none,none] (by simp! only[ad]);have t1:jP "tuple" (.tup [])=some (.bl true):=rfl;have r0:cV [.int ((0:Nat)-1:Int)]=some []:=rfl;have f0:∀r:ao,cS [none,some 1,some 3] (aT (af (f2 eB (fL b9 (af (aa 1) ah)) (fC (.int 1))) ah)) (gN 0) aU (f2 dm (aK (f2 ai (aa 1) (aa 0)) aD (aO (aa 2))) (aK (f2 ai (aa 1) (f2 aJ (aa 0) (fC (.int 1)))) aD (aO (aa 2)))) [none,‹.tup []›,‹.lst (ps.map (·.2))›,‹.int kf.length›,none]=.ok (.lst []):=λ_=>bh (ds:=[]) (by simp! only[r0]) (by decide) rfl;have a0:fS [.lst []]=some (.bl true):=rfl;have fn:∀(B:bB)(k:Ks)(ρ:ao),dg (gN 4) B k [] ρ=k.nx ρ:=λ_ _ _=>rfl;rw[bW,bc];unfold cJ;simp! only[kl,t1,fn,f0 [],a0]
theorem jT(g:Nat){kf rf row:List D}{ps:dq}(hl:ps.length<=100)(e:kf++rf=ps.map fld)(hf:F2 (λk v=>ay g [k,v]=.ok (.bl true)) (ps.map (·.2)) row):av (g+1) [.tup [.tup kf,.tup rf],.tup [.tup row]]=.ok (.bl true):=by
 have len:kf.length+rf.length=ps.length:=by have:=congrArg List.length e;rwa [IZ,IH]at this
 have rl:row.length=ps.length:=by rw[<-hf.length,IH]
 have ad:=cu kf rf ‹0›;rw[e]at ad;have kl:=li (kf:=kf) (rf:=rf) hl (aY (f2 aJ (f2 ai (aa 0) (fC (.int 0))) (f2 ai (aa 0) (fC (.int 1))))) [‹.tup [.tup kf,.tup rf]›,‹.tup [.tup row]›,none,none,none] (by simp! only[ad]);have t1:∀xs,jP "tuple" (.tup xs)=some (.bl true):=λ_=>rfl;have r0:cV [.int ((0+1:Nat)-1:Int)]=some []:=rfl;have f0:∀r:ao,cS [none,some 1,some 3] (aT (af (f2 eB (fL b9 (af (aa 1) ah)) (fC (.int 1))) ah)) (gN 0) aU (f2 dm (aK (f2 ai (aa 1) (aa 0)) aD (aO (aa 2))) (aK (f2 ai (aa 1) (f2 aJ (aa 0) (fC (.int 1)))) aD (aO (aa 2)))) [none,‹.tup [.tup row]›,‹.lst (ps.map (·.2))›,‹.int kf.length›,none]=.ok (.lst []):=λ_=>bh (ds:=[]) (by simp! only[r0]) (by decide) rfl;have a0:fS [.lst []]=some (.bl true):=rfl;obtain⟨vs,v1,v2,v3⟩:=qT (ρ:=inB [none,none] [none,‹.tup [.tup row]›,‹.lst (ps.map (·.2))›,‹.int kf.length›,‹.tup row›]) (g:=gT 2 (pj [0,1])) (C:=aU) (Fe:=fR (ay g) (af (aa 0) (af (aa 1) ah))) (iz (ps.map (·.2)) row) (λ_ v=>v=.bl true) (λt d hd=>by
  obtain⟨x,y,hx,hy,rfl⟩:=jo hd;refine⟨[‹x›,‹y›],_,rfl,rfl,?_,rfl⟩;simp! only[hf.get hx hy])
 have ev:vs=(List.replicate vs.length true).map .bl:=by
  apply List.ext_getElem
  ·simp
  ·intro t h1 h2;rw[v2 t _ (Jr h1)];simp
 have f1:=bh (ix:=[none,none]) (G:=qe (af (aa 2) (af (aa 4) ah))) (ρ:=[none,‹.tup [.tup row]›,‹.lst (ps.map (·.2))›,‹.int kf.length›,‹.tup row›]) (by simp! only[xI]) (by rw[eN,IH];omega) v3;rw[ev]at f1;have nn:(((row.length:Int))==(((ps.map (·.2)).length:Nat):Int))=true:=by rw[rl,IH];simp
 rw[bW,bc];unfold cJ;simp! only[kl,t1];refine gZ (Q:=λz=>z=.ok (.bl true)) (λ_ ρ=>ρ=[none,‹.tup [.tup row]›,‹.lst (ps.map (·.2))›,‹.int kf.length›,none]) ?_ rfl ?_
 ·rintro j d ρ k' hd rfl
  have:d=.tup row:=by
   cases j with
   |zero=>cases hd;rfl
   |succ j=>cases hd
  subst this;refine⟨[none,‹.tup [.tup row]›,‹.lst (ps.map (·.2))›,‹.int kf.length›,‹.tup row›],_,rfl,rfl,?_⟩;simp! only[t1,nn,f1,pP]
 ·rintro ρ rfl;simp! only[f0 [],a0]
theorem mO(g:Nat){k v:D}(h:ke k v):ay (g+1) [k,v]=.ok (.bl true):=by
 rw[cK,bc];unfold dG;rcases h with⟨lo,hi,i,rfl,h1,h2,rfl⟩|⟨ws,w,rfl,hw,rfl⟩
 ·have t1:jP "int" (.int i)=some (.bl true):=rfl;have t2:jP "bool" (.int i)=some (.bl false):=rfl;simp! only[BEq.rfl,t1,t2,decide_eq_true h1,decide_eq_true h2];rfl
 ·have t1:jP "str" (.str w)=some (.bl true):=rfl;have c:ws.contains w=true:=List.contains_iff_mem.mpr hw;simp! only[BEq.rfl,gm,t1,pz,c];rfl
theorem DM:∀(n:Nat){k v:D},LF n k v->pl v=true:=by
 have flat:∀{k v:D},ke k v->pl v=true:=λh=>by
  rcases h with⟨_,_,i,_,_,_,rfl⟩|⟨_,w,_,_,rfl⟩
  ·exact BA
  ·exact CI
 intro n
 induction n with
 |zero=>exact λh=>flat h
 |succ n ih=>
  intro k v h;rcases h with h|⟨kf,rf,b,ps,rfl,e,l,⟨rfl,rfl⟩|⟨rfl,row,rfl,f⟩⟩
  ·exact flat h
  ·rfl
  ·rw[a7];refine lA λx hx=>?_;rw[List.mem_singleton.mp hx,a7];exact lA λy hy=>by obtain⟨a,_,q⟩:=f.mem hy;exact ih q.1
theorem nV{n:Nat}{ks row:List D}(f:F2 (LF n) ks row):dk row=true:=lA λy hy=>by obtain⟨a,_,q⟩:=f.mem hy;exact DM n q
theorem CU{row:List D}(h:dk row=true):j3 (.tup [.tup row]) (.tup [])=some (.bl true):=by
 have e:j3 (.tup [.tup row]) (.tup [])=if(pl (.tup [.tup row])&&pl (.tup []))&&(a9 8 (.tup [.tup row])||a9 8 (.tup []))then some (.bl (!pyEq (.tup [.tup row]) (.tup [])))else none:=rfl
 have p:pl (.tup [.tup row])=true:=by
  rw[a7];exact lA λx hx=>by rw[List.mem_singleton.mp hx,a7];exact h
 have p2:pl (.tup [])=true:=rfl;have d:a9 8 (.tup [])=true:=rfl;have q:pyEq (.tup [.tup row]) (.tup [])=false:=by
  rw[pyEq,pyEqL]
  ·intro z;cases z
  ·intro _ _ _ _ _ z;cases z
 rw[e,p,p2,d,q,J2];rfl
theorem sO:∀(n g:Nat){k v:D},2*n+1<=g->LF n k v->ay g [k,v]=.ok (.bl true):=by
 intro n
 induction n with
 |zero=>
  intro g k v hg h;obtain⟨z,rfl⟩:∃z',g=z'+1:=⟨g-1,by omega⟩
  exact mO z h
 |succ n ih=>
  intro g k v hg h;obtain⟨z,rfl⟩:∃z',g=z'+1+1:=⟨g-2,by omega⟩
  rcases h with h|⟨kf,rf,b,ps,rfl,e,l,h⟩
  ·exact mO _ h
  ·rw[cK,bc];unfold dG;rcases h with⟨rfl,rfl⟩|⟨rfl,row,rfl,f⟩
   ·have n1:j3 (.tup []) (.tup [])=some (.bl false):=rfl;simp! only[jK,iG,nN z ‹0› e,B7,n1];rfl
   ·have n1:j3 (.tup [.tup row]) (.tup [])=some (.bl true):=CU (nV (f.imp λ_ _ q=>q.1));simp! only[jK,iG,jT z ‹0› e (f.imp λa b q=>ih z ‹0› q.1),B7,n1];rfl
theorem jC:(("number":Str)==("number":Str))=true:=by decide +kernel
theorem oP:(("word":Str)==("word":Str))=true:=by decide +kernel
theorem ww:(("number":Str)==("rows":Str))=false:=by decide +kernel
theorem tT:(("word":Str)==("rows":Str))=false:=by decide +kernel
noncomputable def sgB:D->Bool
 |.tup [.str _,.int lo,.int hi]=>lo==hi
 |.tup [.str _,.tup ws]=>((ws.length:Int))==1
 |_=>false
theorem jW{k:D}(h:ii k):bV 12 [k]=.ok (.bl (sgB k))/\aC cT 1 1 [k]=.ok (.bl (sgB k)):=by
 rw[eS,du,du];unfold jp cT;rcases h with⟨lo,hi,_,_,_,rfl⟩|⟨ws,_,_,rfl⟩
 ·constructor<;>simp! only[jC]<;>rfl
 ·constructor<;>simp! only[gm,oP]<;>rfl
noncomputable def Va(v:D):Prop:=(∃z:Int,v=.int z)\/∃s:Str,v=.str s
theorem BE(z:Int)(ws:al):sF (.int z) (.tup (ws.map .str))=some (.bl false):=by
 have e:sF (.int z) (.tup (ws.map .str))=if(pl (.int z)&&dk (ws.map .str))&&a9 8 (.int z)then some (.bl (inD (.int z) (ws.map .str)))else none:=rfl
 have p:dk (ws.map D.str)=true:=iO _ (λ_=>rfl) ws;have q:inD (.int z) (ws.map .str)=false:=by
  unfold inD;rw[List.any_map,IC];intro x _
  have:pyEq (.str x) (.int z)=false:=by unfold pyEq;rfl
  show¬pyEq (.str x) (.int z)=true;rw[this];exact Iu
 rw[e,p,q];rfl
theorem yL{k v:D}(h:ii k)(hv:Va v):∃b:Bool,bT 12 [k,v]=.ok (.bl b)/\aC bN 2 2 [k,v]=.ok (.bl b):=by
 rw[gA,bc,bc];unfold oa bN;rcases h with⟨lo,hi,_,_,_,rfl⟩|⟨ws,_,_,rfl⟩<;>rcases hv with⟨z,rfl⟩|⟨s,rfl⟩
 ·have iw:aC et 1 1 [.int z]=.ok (.bl true):=by rfl
  have i1:jP "str" (.int z)=some (.bl false):=rfl;refine⟨decide (lo<=z)&&decide (z<=hi),?_,?_⟩<;>simp! only[jC,iw,i1,Kl]
 ·have iw:aC et 1 1 [.str s]=.ok (.bl false):=by rfl
  have i1:jP "str" (.str s)=some (.bl true):=rfl;refine⟨false,?_,?_⟩<;>simp! only[jC,iw,i1]
 ·have i1:jP "str" (.int z)=some (.bl false):=rfl;refine⟨false,?_,?_⟩<;>simp! only[gm,oP,i1,BE,Ju]
 ·have i1:jP "str" (.str s)=some (.bl true):=rfl;refine⟨ws.contains s,?_,?_⟩<;>simp! only[gm,oP,i1,pz,Kl]
theorem zc{kf rf:List D}{b:Bool}{v:D}:aC bN 2 2 [.tup [.str "rows",.tup [.tup kf,.tup rf],.bl b],v]=.ok (.bl false):=by
 rw[bc];unfold bN;simp! only[jK,iG]
theorem HP(a b c:D):j0 [a,b,c]=some (.lst [a,b,c]):=nr rfl
theorem G6(a b c d e f g h:D):j0 [a,b,c,d,e,f,g,h]=some (.lst [a,b,c,d,e,f,g,h]):=nr rfl
theorem A8{a b c d e f g h:D}(ha:Va a)(hb:Va b)(hc:Va c)(hd:Va d)(he:Va e)(hf:Va f)(hg:Va g)(hh:Va h)(n:Int):∃v,Va v/\ai (.lst [a,b,c,d,e,f,g,h]) (.int (n%8))=some v:=by
 rcases(show n%8=0\/n%8=1\/n%8=2\/n%8=3\/n%8=4\/n%8=5\/n%8=6\/n%8=7 by omega)with z|z|z|z|z|z|z|z<;>rw[z]
 ·exact⟨_,ha,rfl⟩
 ·exact⟨_,hb,rfl⟩
 ·exact⟨_,hc,rfl⟩
 ·exact⟨_,hd,rfl⟩
 ·exact⟨_,he,rfl⟩
 ·exact⟨_,hf,rfl⟩
 ·exact⟨_,hg,rfl⟩
 ·exact⟨_,hh,rfl⟩
theorem yc{k:D}(h:mh 1 k)(hr:Rs k)(c:Int):∃v,Va v/\aC cn 2 4 [k,.int c]=.ok v:=by
 have g3:=λi=>aI (i:=i) (show(0:Int)<3 by decide);have g8:=λi=>aI (i:=i) (show(0:Int)<8 by decide);have d8:=λi=>a8 (i:=i) (show(0:Int)<8 by decide) (show(8:Int)<10^200 by decide);rw[bc];unfold cn;rcases h with(⟨lo,hi,a1,_,_,rfl⟩|⟨ws,w1,w2,rfl⟩)|⟨kf,rf,b,rfl,_⟩
 ·have md:=λz=>aI (i:=z) (show(0:Int)<hi-lo+1 by omega);obtain⟨v,v1,v2⟩:=A8 (.inl ⟨lo+c/8%(hi-lo+1),rfl⟩) (.inl ⟨lo+c/8%(hi-lo+1),rfl⟩) (.inl ⟨lo+c/8%(hi-lo+1),rfl⟩) (.inl ⟨lo+c/8%(hi-lo+1),rfl⟩) (.inl ⟨lo-1,rfl⟩) (.inl ⟨hi+1,rfl⟩) (.inl ⟨hi,rfl⟩) (.inr ⟨"a",rfl⟩) c;refine⟨v,v1,?_⟩;simp! only[ww,jC,d8,md,G6,g8,v2]
 ·obtain⟨wu,wl⟩:=hr ws rfl;obtain⟨us,u,rfl⟩:∃us u,ws=us++[u]:=⟨ws.dropLast,ws.getLast w1,(List.dropLast_concat_getLast w1).symm⟩
  have lp:(0:Int)<(((us++[u]).map D.str).length:Int):=by simp
  have md:=λz=>aI (i:=z) lp;have b1:=Ki (c/8) (show(((us++[u]).map D.str).length:Int)≠0 by omega);have b2:=Kk (c/8) lp;obtain⟨x,ex⟩:∃x:Str,ai (.tup ((us++[u]).map .str)) (.int (c/8%(((us++[u]).map D.str).length:Int)))=some (.str x):=by
   rw[vS,tu,nU b1 (by rw[IH]at b2 ⊢;exact b2)];exact⟨_,rfl⟩
  obtain⟨y,ey⟩:∃y:Str,ai (.tup ((us++[u]).map .str)) (.int 0)=some (.str y):=by
   cases us with
   |nil=>exact⟨u,rfl⟩
   |cons a r=>exact⟨a,by rw[Ji,IG,qf]⟩
  have el:ai (.tup ((us++[u]).map .str)) (.int (-1))=some (.str u):=by
   rw[vS,Jz];exact yY _ _
  have ul:=wl u (Iz _ Il);have la:("a":Str).length=1:=by decide +kernel
  have as:=eE u "a" ‹0› ‹0›;obtain⟨s,_,es⟩:=eV (u++"a") (by rw[dD];omega) none (some 8);have ng:Av (.int 1)=some (.int (-1)):=rfl;obtain⟨v,v1,v2⟩:=A8 (.inr ⟨x,rfl⟩) (.inr ⟨y,rfl⟩) (.inr ⟨u,rfl⟩) (.inr ⟨y,rfl⟩) (.inr ⟨s,rfl⟩) (.inl ⟨0,rfl⟩) (.inr ⟨"",rfl⟩) (.inl ⟨1,rfl⟩) c;generalize (us++[u]).map D.str=ws at *;refine⟨v,v1,?_⟩;simp! only[tT,gm,d8,md,ex,ey,lG,ng,el,as,es,G6,g8,v2]
 ·obtain⟨v,v1,v2⟩:∃v,Va v/\ai (.lst [.int 0,.str "a",.str ""]) (.int (c%3))=some v:=by
   rcases(show c%3=0\/c%3=1\/c%3=2 by omega)with z|z|z<;>rw[z]
   ·exact⟨_,.inl ⟨0,rfl⟩,rfl⟩
   ·exact⟨_,.inr ⟨"a",rfl⟩,rfl⟩
   ·exact⟨_,.inr ⟨"",rfl⟩,rfl⟩
  refine⟨v,v1,?_⟩;simp! only[BEq.rfl,HP,g3,v2]
noncomputable def rp(row:List D)(i:Nat)(v:D):List D:=row.take i++[v]++row.drop (i+1)
noncomputable def DI(v w:D):Prop:=(∃a b:Int,v=.int a/\w=.int b/\a<b)\/∃a b:Str,v=.str a/\w=.str b/\a.cps.toList<b.cps.toList
theorem ud{k v:D}(h:ii k)(hr:Rs k)(hs:sgB k=false)(hf:ym k v):∃w,aC cE 1 1 [k]=.ok w/\ke k w/\DI v w:=by
 rw[du];unfold cE;rcases h with⟨lo,hi,a1,_,_,rfl⟩|⟨ws,w1,_,rfl⟩
 ·have hs:(lo==hi)=false:=hs
  have:lo≠hi:=by simpa using hs
  refine⟨.int (lo+1),?_,.inl ⟨lo,hi,lo+1,rfl,by omega,by omega,rfl⟩,.inl ⟨lo,lo+1,hf.1 lo hi rfl,rfl,by omega⟩⟩;simp! only[jC]
 ·have hs:(((ws.map D.str).length:Int)==1)=false:=hs;cases ws with
  |nil=>exact absurd rfl w1
  |cons a r=>
   cases r with
   |nil=>cases hs
   |cons b r=>
    have up:=(hr _ rfl).1;refine⟨.str b,?_,.inr ⟨_,b,rfl,Im _ Il,rfl⟩,.inr ⟨a,b,hf.2 a _ rfl,rfl,(List.pairwise_cons.mp up).1 b Il⟩⟩;have i1:ai (.tup ((a::b::r).map .str)) (.int 1)=some (.str b):=(by rw[IG,IG,vS];exact oq _ 1);simp! only[gm,i1]
noncomputable abbrev G1(k v:D):Prop:=LF 1 k v/\ym k v
inductive Out(ks:List D)(m i:Nat)(k:D):R D->Int->Prop where
 |field:Out ks m i k (.error (some ⟨"NoField",[],[]⟩)) 0
 |kind:Out ks m i k (.error (some ⟨"NoKind",[],[]⟩)) 1
 |key:Out ks m i k (.error (some ⟨"NoKey",[],[]⟩)) 4
 |blind (row:List D) (v w:D) (f:F2 G1 ks row) (hv:row[i]?=some v) (fw:ke k w) (lt:DI v w) (im:i<m):Out ks m i k (.error (some ⟨"Blind",["one","other","change"],[.tup [.tup row,.tup (rp row i w)],.tup [.tup row],.tup [.tup [.tup (row.take m),.tup row,.non]]]⟩)) 6
 |all (f:D):Out ks m i k (.ok f) 8
theorem Fq:(small 3&&((3:Nat)==3))=true:=by rfl
section
variable{kf rf:List D}{ps:dq}
theorem uz(h:Fo kf rf ps){i:Nat}(h1:kf.length=1):aC b6 2 6 [.tup [.tup kf,.tup rf],.int i]=.error (some ⟨"NoKey",[],[]⟩):=by
 have b:((kf.length:Int)==1)=true:=by rw[h1];rfl
 rw[bc];unfold b6;simp! only[b,gI,EB]
theorem yu(h:Fo kf rf ps){i:Nat}{nm:Str}{k:D}(hi:ps[i]?=some (nm,k))(il:i<kf.length)(h1:kf.length≠1)(hs:sgB k=true):aC b6 2 6 [.tup [.tup kf,.tup rf],.int i]=.ok .non:=by
 have hl:=h.hl;have b:((kf.length:Int)==1)=false:=by simp;omega
 have kp:=jy kf rf ps ‹0› h.e i nm _ hi;have so:=(jW ((h.fl i _ hi).1 il)).1;rw[hs]at so;rw[bc];unfold b6;simp! only[b,kp,so]
theorem xC(h:Fo kf rf ps){i:Nat}{nm:Str}{k:D}(hi:ps[i]?=some (nm,k))(il:i<kf.length)(h1:kf.length≠1)(hs:sgB k=false):∃row v w,F2 G1 (ps.map (·.2)) row/\row[i]?=some v/\ke k w/\DI v w/\aC b6 2 6 [.tup [.tup kf,.tup rf],.int i]=.error (some ⟨"Blind",["one","other","change"],[.tup [.tup row,.tup (rp row i w)],.tup [.tup row],.tup [.tup [.tup (row.take kf.length),.tup row,.non]]]⟩):=by
 have hl:=h.hl;have b:((kf.length:Int)==1)=false:=by simp;omega
 have kp:=jy kf rf ps ‹0› h.e i nm _ hi;obtain⟨fl,rs⟩:=h.fl i _ hi;have fl:=fl il;have so:=(jW fl).1;rw[hs]at so;obtain⟨row,er,f⟩:=pc h;have rl:row.length=ps.length:=by rw[<-f.length,IH]
 have il':=c6 hi;have hv:row[i]?=some row[i]:=Jr ‹0›;have g:=f.get (show(ps.map (·.2))[i]?=some k by rw[IV,hi];rfl) hv;obtain⟨w,ew,fw,lt⟩:=ud fl rs hs g.2;refine⟨row,row[i],w,f,hv,fw,lt,?_⟩;have rp1:aC cG 3 3 [.tup row,.int i,.tup [w]]=.ok (.tup (rp row i w)):=jG row _ i (by simp;omega);rw[bc];unfold b6;simp! only[b,kp,so,er,ew,EJ,vy,yy,rp1,eT,qw,Fq]
noncomputable def due(m i:Nat)(k:D)(bo:Bool):Int:=if(!bo)=true then 1 else if(decide (i<m)&&decide (m=1))=true then 4 else if(decide (i<m)&&!sgB k)=true then 6 else 8
theorem vK(h:Fo kf rf ps)(nm:Str)(v:D){i:Nat}{k:D}(hi:ps[i]?=some (nm,k)){s:Str}(hs:ai k (.int 0)=some (.str s))(bo:Bool)(hb:(s==("rows":Str))=true->bo=false)(hf:(s==("rows":Str))=false->bT 12 [k,v]=.ok (.bl bo)):
  Out (ps.map (·.2)) kf.length i k (aC aq 2 4 [stp nm v,.tup [.tup kf,.tup rf]]) (due kf.length i k bo):=by
 have hl:=h.hl;have len:=h.len;have p1:=uZ kf rf ps ‹0› h.e h.hn i nm k hi;have p3:=jy kf rf ps ‹0› h.e i nm k hi;have ik:=iv kf rf i;have no:bo=false->aC aq 2 4 [stp nm v,.tup [.tup kf,.tup rf]]=.error (some ⟨"NoKind",[],[]⟩):=λz=>by
  rw[bc];unfold aq;cases w:(s==("rows":Str))with
  |true=>simp! only[fQ,p1,p3,hs,w,gI,EB]
  |false=>simp! only[fQ,lI,p1,p3,hs,w,hf w,z,gI,EB]
 unfold due;cases bo with
 |false=>rw[no rfl];exact .kind
 |true=>
  have w:(s==("rows":Str))=false:=by
   cases z:(s==("rows":Str))with
   |false=>rfl
   |true=>cases hb z
  have hf:=hf w;obtain⟨g,wp⟩:∃g,aC cx 3 3 [.tup [.tup kf,.tup rf],.int i,.tup []]=.ok g:=⟨_,vn kf rf _ i (by simp;omega)⟩
  by_cases il:i<kf.length
  ·have dl:decide (i<kf.length)=true:=decide_eq_true il;by_cases h1:kf.length=1
   ·have:aC aq 2 4 [stp nm v,.tup [.tup kf,.tup rf]]=.error (some ⟨"NoKey",[],[]⟩):=by
     have ck:=uz h (i:=i) h1;rw[bc];unfold aq;simp! only[fQ,lI,p1,p3,hs,w,hf,ik,dl,ck,gC]
    rw[this,dl,decide_eq_true h1];exact .key
   ·cases sg:sgB k with
    |true=>
     have:aC aq 2 4 [stp nm v,.tup [.tup kf,.tup rf]]=.ok g:=by
      have ck:=yu h hi il h1 sg;rw[bc];unfold aq;simp! only[fQ,lI,p1,p3,hs,w,hf,ik,dl,ck,gC,B7,wp]
     rw[this,dl,decide_eq_false h1];exact .all g
    |false=>
     obtain⟨row,x,y,f,hv,fw,lt,ck⟩:=xC h hi il h1 sg
     have:aC aq 2 4 [stp nm v,.tup [.tup kf,.tup rf]]=.error (some ⟨"Blind",["one","other","change"],[.tup [.tup row,.tup (rp row i y)],.tup [.tup row],.tup [.tup [.tup (row.take kf.length),.tup row,.non]]]⟩):=by
      rw[bc];unfold aq;simp! only[fQ,lI,p1,p3,hs,w,hf,ik,dl,ck,gC]
     rw[this,dl,decide_eq_false h1];exact .blind row x y f hv fw lt il
  ·have dl:decide (i<kf.length)=false:=decide_eq_false il
   have:aC aq 2 4 [stp nm v,.tup [.tup kf,.tup rf]]=.ok g:=by
    rw[bc];unfold aq;simp! only[fQ,lI,p1,p3,hs,w,hf,ik,dl,B7,wp]
   rw[this,dl];exact .all g
theorem uj(h:Fo kf rf ps)(nm:Str)(v:D)(hm:nm∉ps.map (·.1)):aC aq 2 4 [stp nm v,.tup [.tup kf,.tup rf]]=.error (some ⟨"NoField",[],[]⟩):=by
 have hl:=h.hl;have p1:=qA kf rf ps ‹0› h.e nm hm;rw[bc];unfold aq;simp! only[fQ,p1]
end
noncomputable def GY(a:D)(r:R (List D)):R D:=match a with
 |.lst ys=>r.bind λds=>match ds with
  |[b]=>rO (jX (.lst ys) b)
  |_=>un
 |_=>un
theorem gr(f:FX)(g:aP)(ρ:ao):jH f g ρ=(f ρ).bind λa=>GY a (g ρ):=by
 unfold jH GY;congr
theorem pO(ys:List D)(b:D):GY (.lst ys) (.ok [b])=rO (jX (.lst ys) b):=nr rfl
theorem sG:∀(xs:al)(i:Nat)(q:Str),xs.Nodup->xs[i]?=some q->kc (.str q) (xs.map .str)=some i
 |[],i,q,_,h=>by cases h
 |x::xs,0,q,_,h=>by
  cases h;rw[IG];unfold kc;rw[pyEq,BEq.rfl];rfl
 |x::xs,i+1,q,hn,h=>by
  rw[JL]at h;rw[List.nodup_cons]at hn;have ne:(x==q)=false:=by
   have:x≠q:=λe=>hn.1 (e ▸ IY h)
   simpa using this
  rw[IG];unfold kc;rw[pyEq,ne,sG xs i q hn.2 h];rfl
theorem w6(xs:al)(i:Nat)(q:Str)(hn:xs.Nodup)(h:xs[i]?=some q):jX (.lst (xs.map .str)) (.str q)=some (.int (i:Int)):=by
 have e:jX (.lst (xs.map .str)) (.str q)=if(pl (.str q)&&dk (xs.map .str))&&a9 8 (.str q)then(kc (.str q) (xs.map .str)).map (λ(j:Nat)=>D.int (j:Int))else none:=rfl
 have p:dk (xs.map D.str)=true:=iO _ (λ_=>rfl) xs;rw[e,p,sG xs i q hn h];rfl
theorem DX(w:Str)(ws:al):inD (.str w) (ws.map .str)=ws.contains w:=by
 have h:=pz w ws;have e:sF (.str w) (.tup (ws.map .str))=if(pl (.str w)&&dk (ws.map .str))&&a9 8 (.str w)then some (.bl (inD (.str w) (ws.map .str)))else none:=rfl
 rw[e]at h;split at h
 ·injection h with h;injection h with h
 ·cases h
theorem gW(w:Str)(ws:al):eI (.str w) (.lst (ws.map .str))=some (.bl (!ws.contains w)):=by
 have e:eI (.str w) (.lst (ws.map .str))=if(pl (.str w)&&dk (ws.map .str))&&a9 8 (.str w)then some (.bl (!inD (.str w) (ws.map .str)))else none:=rfl
 have p:dk (ws.map D.str)=true:=iO _ (λ_=>rfl) ws;rw[e,p,DX];rfl
theorem iy(xs:List D):iT [.tup xs]=some (.lst xs):=nr rfl
section
variable{kf rf:List D}{ps:dq}
theorem lQ(h:Fo kf rf ps)(G:aP)(ρ:ao)(hG:G ρ=.ok (ps.map fld)):cS [none] G (gN 0) aU (f2 ai (aa 0) (fC (.int 0))) ρ=.ok (.lst ((ps.map (·.1)).map .str)):=by
 have hl:=h.hl;refine bh hG (by rw[IH];omega) ?_;rw[Kj];refine cU fld _ ps λp _=>⟨[‹fld p›],rfl,rfl,?_⟩
 simp! only[];rfl
theorem AH(h:Fo kf rf ps)(nm:Str)(v:D){i:Nat}{k:D}(hi:ps[i]?=some (nm,k))(bo:Bool)(ho:aC bN 2 2 [k,v]=.ok (.bl bo)):
  aC cF 3 6 [.tup [.tup kf,.tup rf],.str nm,v]=.ok (.int (due kf.length i k bo)):=by
 have hl:=h.hl;have len:=h.len;have ad:=cu kf rf ‹0›;rw[h.e]at ad;have nl:=lQ h (aY (aa 3)) [‹.tup [.tup kf,.tup rf]›,‹.str nm›,‹v›,‹.lst (ps.map fld)›,none,none] (by simp! only[]);have gi:(ps.map (·.1))[i]?=some nm:=by rw[IV,hi];rfl
 have i1:=w6 _ i nm h.hn gi;have c1:(ps.map (·.1)).contains nm=true:=by rw[Kq];exact IY gi
 have f1:ai (.lst (ps.map fld)) (.int (i:Int))=some (.tup [.str nm,k]):=by rw[Cy,oq,IV,hi];rfl
 have dl:decide ((i:Int)<(kf.length:Int))=decide (i<kf.length):=by rw[decide_eq_decide];omega
 have d1:((kf.length:Int)==1)=decide (kf.length=1):=by rw[Bool.eq_iff_iff,beq_iff_eq,decide_eq_true_iff];omega
 rw[iA];unfold cF due;cases bo with
 |false=>simp! only[ad,iy,nl,gW,c1,gr,pO,i1,f1,ho]
 |true=>
  by_cases il:i<kf.length
  ·have so:=(jW ((h.fl i _ hi).1 il)).2;have il:=decide_eq_true il;cases z:decide (kf.length=1)with
   |true=>simp! only[ad,iy,nl,gW,c1,gr,pO,i1,f1,ho,dl,d1,il,z,Bool.and_self]
   |false=>
    cases y:sgB k with
    |true=>
     rw[y]at so;simp! only[ad,iy,nl,gW,c1,gr,pO,i1,f1,ho,dl,d1,il,z,so,y,Ju,Kg]
    |false=>
     rw[y]at so;simp! only[ad,iy,nl,gW,c1,gr,pO,i1,f1,ho,dl,d1,il,z,so,y,Ju,Kh,Bool.and_self]
  ·have il:=decide_eq_false il;simp! only[ad,iy,nl,gW,c1,gr,pO,i1,f1,ho,dl,il,Bool.false_and]
theorem vV(h:Fo kf rf ps)(nm:Str)(v:D)(hm:nm∉ps.map (·.1)):aC cF 3 6 [.tup [.tup kf,.tup rf],.str nm,v]=.ok (.int 0):=by
 have hl:=h.hl;have len:=h.len;have ad:=cu kf rf ‹0›;rw[h.e]at ad;have nl:=lQ h (aY (aa 3)) [‹.tup [.tup kf,.tup rf]›,‹.str nm›,‹v›,‹.lst (ps.map fld)›,none,none] (by simp! only[]);have c:(ps.map (·.1)).contains nm=false:=by rw[<-Bool.not_eq_true,Kq];exact hm
 rw[iA];unfold cF;simp! only[ad,iy,nl,gW,c]
end
section
variable{nm:Str}{v f:D}
theorem refused{c:Str}{fs:al}{vs:List D}(h:aC aq 2 4 [stp nm v,f]=.error (some ⟨c,fs,vs⟩))(hc:(["NoField","NoKind","NoKey","Blind"]:al).contains c=true):aC bJ 2 4 [stp nm v,f]=.ok (.exc c fs vs):=by
 have m1:=λfas ρ=>AV (nm:=nm) (v:=v) "view_form" (aC bP 2 2) (aC aq 2 4) (aa 0) fas (‹stp nm v›::ρ) rfl (by decide +kernel);rw[bc];unfold bJ;simp! only[rV,gC,m1,h,hc,Dn]
theorem pU{g:D}(h:aC aq 2 4 [stp nm v,f]=.ok g):aC bJ 2 4 [stp nm v,f]=.ok .non:=by
 have m1:=λfas ρ=>AV (nm:=nm) (v:=v) "view_form" (aC bP 2 2) (aC aq 2 4) (aa 0) fas (‹stp nm v›::ρ) rfl (by decide +kernel);rw[bc];unfold bJ;simp! only[rV,gC,m1,h]
end
theorem sX:aC b7 1 2 [.exc "NoField" [] []]=.ok (.int 0):=by kernel_rfl
theorem zM:aC b7 1 2 [.exc "NoKind" [] []]=.ok (.int 1):=by kernel_rfl
theorem yC:aC b7 1 2 [.exc "NoKey" [] []]=.ok (.int 4):=by kernel_rfl
theorem zK(a b c:D):aC b7 1 2 [.exc "Blind" ["one","other","change"] [a,b,c]]=.ok (.int 6):=by kernel_rfl
theorem Bk{σ:List Bool}{a b:List D}(h:Sh σ a)(h':Sh σ b):cD (.tup a) (.tup b)=some (.bl (pyEqL a b)):=by
 have n:=xo h h';have e1:j3 (.tup a) (.tup b)=if(pl (.tup a)&&pl (.tup b))&&(a9 8 (.tup a)||a9 8 (.tup b))then some (.bl (!pyEq (.tup a) (.tup b)))else none:=rfl
 have e2:cD (.tup a) (.tup b)=if(pl (.tup a)&&pl (.tup b))&&(a9 8 (.tup a)||a9 8 (.tup b))then some (.bl (pyEq (.tup a) (.tup b)))else none:=rfl
 rw[e1]at n;rw[e2];split at n
 ·rename_i z;rw[if_pos z,pyEq]
 ·cases n
theorem tJ{k v:D}(h:ii k)(l:LF 1 k v):ke k v:=by
 rcases l with l|⟨kf,rf,b,ps,rfl,_⟩
 ·exact l
 ·rcases h with⟨_,_,_,_,_,e⟩|⟨_,_,_,e⟩<;>cases e
theorem gw(n:Nat){k v:D}(h:ke k v):a9 n v=true:=by
 rcases h with⟨_,_,i,_,_,_,rfl⟩|⟨_,w,_,_,rfl⟩<;>cases n<;>rfl
theorem CP{k v:D}(h:LF 1 k v)(n:Nat):a9 (n+2) v=true:=by
 rcases h with h|⟨kf,rf,b,ps,rfl,e,l,⟨rfl,rfl⟩|⟨rfl,row,rfl,f⟩⟩
 ·exact gw _ h
 ·rfl
 ·show([D.tup row].all (a9 (n+1)))=true;rw[Jp,List.all_nil,Jt];show row.all (a9 n)=true;rw[List.all_eq_true];intro y hy;obtain⟨a,_,q⟩:=f.mem hy;exact gw n q.1
theorem jc{ks row:List D}(f:F2 (LF 1) ks row)(n:Nat):a9 (n+3) (.tup row)=true:=by
 show row.all (a9 (n+2))=true;rw[List.all_eq_true];intro y hy;obtain⟨a,_,q⟩:=f.mem hy;exact CP q n
theorem ou:∀(p s t:List D){σ:List Bool}(v w:D),Sh σ p->DI v w->cA (p++v::s) (p++w::t)=some true
 |_,s,t,_,v,w,.nil,h=>by
  rcases h with⟨a,b,rfl,rfl,h⟩|⟨a,b,rfl,rfl,h⟩
  ·show cA (.int a::s) (.int b::t)=_;unfold cA;show(if a=b then cA s t else some (decide (a<b)))=_;rw[if_neg ‹0›,decide_eq_true h]
  ·show cA (.str a::s) (.str b::t)=_;unfold cA;show(if a=b then cA s t else some (decide (a.cps.toList<b.cps.toList)))=_;rw[if_neg (λe=>by rw[e]at h;exact List.lt_irrefl _ h),decide_eq_true h]
 |_,s,t,_,v,w,.int (ds:=p) i hp,h=>by
  show cA (.int i::(p++v::s)) (.int i::(p++w::t))=_;rw[cA];show(if i=i then _ else _)=_;rw[if_pos rfl];exact ou p s t v w hp h
 |_,s,t,_,v,w,.str (ds:=p) i hp,h=>by
  show cA (.str i::(p++v::s)) (.str i::(p++w::t))=_;rw[cA];show(if i=i then _ else _)=_;rw[if_pos rfl];exact ou p s t v w hp h
theorem iX(rows:List (List D))(i:Nat)(x:List D)(hx:∀r∈rows,r.take i++r.drop (i+1)=x)(hl:∀r∈rows,r.length<=100)(px:dk x=true)(dx:a9 8 (.tup x)=true):aC a6 2 5 [.tup (rows.map .tup),.int i]=.ok (.lst (if rows.length=0 then[]else[.tup x])):=by
 have n0:eI (.tup x) (.lst [])=some (.bl true):=by
  have e:eI (.tup x) (.lst [])=if(pl (.tup x)&&dk [])&&a9 8 (.tup x)then some (.bl (!inD (.tup x) []))else none:=rfl
  rw[e,a7,px,dx];rfl
 have n1:eI (.tup x) (.lst [.tup x])=some (.bl false):=by
  have e:eI (.tup x) (.lst [.tup x])=if(pl (.tup x)&&dk [.tup x])&&a9 8 (.tup x)then some (.bl (!inD (.tup x) [.tup x]))else none:=rfl
  have p1:dk [.tup x]=true:=by rw[dk,a7,px];rfl
  have q:inD (.tup x) [.tup x]=true:=by unfold inD;rw[Jx,dW];rfl
  rw[e,a7,px,dx,p1,q];rfl
 have pk:∀(f:bj)(ρ:ao),jF [2] f ρ=zB (f (frz 2 ρ)):=λ_ _=>rfl;have c:((i:Int)+1)=((i+1:Nat):Int):=by omega
 rw[bc];unfold a6;simp! only[DZ];refine gZ (Q:=λz=>z=.ok (.lst (if rows.length=0 then[]else[.tup x]))) (λj ρ=>ρ=[‹.tup (rows.map .tup)›,‹.int i›,some (.own (.lst (if j=0 then[]else[.tup x]))),none,none]) ?_ rfl ?_
 ·rintro j d ρ k' hd rfl;rw[IV]at hd;cases hr:rows[j]? with
  |none=>rw[hr]at hd;cases hd
  |some r=>
   rw[hr]at hd;cases hd;have mr:=IY hr;have lr:=hl r mr;have a1:=cu (r.take i) (r.drop (i+1)) (by rw[IQ,Ja];omega);rw[hx r mr]at a1;refine⟨[‹.tup (rows.map .tup)›,‹.int i›,some (.own (.lst (if j=0 then[]else[.tup x]))),‹.tup r›,none],_,rfl,rfl,?_⟩;by_cases z:j=0
   ·subst z;rw[if_pos rfl,if_neg ‹0›];simp! only[c,eT,iH,a1,pk,n0];rw[lU _ _ _ _ _ (xs:=[]) rfl];simp! only[qZ (xs:=[]) (y:=.tup x) (by decide)]
   ·rw[if_neg z,if_neg ‹0›];simp! only[c,eT,iH,a1,pk,n1]
 ·rintro ρ rfl;rw[IH];simp! only[]
theorem ub(a b i:D)(x:List D)(px:dk x=true)(dx:a9 8 (.tup x)=true)(h1:aC a6 2 5 [a,i]=.ok (.lst [.tup x]))(h2:aC a6 2 5 [b,i]=.ok (.lst [.tup x])):aC bf 3 5 [a,b,i]=.ok (.bl true):=by
 have n1:sF (.tup x) (.lst [.tup x])=some (.bl true):=by
  have e:sF (.tup x) (.lst [.tup x])=if(pl (.tup x)&&dk [.tup x])&&a9 8 (.tup x)then some (.bl (inD (.tup x) [.tup x]))else none:=rfl
  have p1:dk [.tup x]=true:=by rw[dk,a7,px];rfl
  have q:inD (.tup x) [.tup x]=true:=by unfold inD;rw[Jx,dW];rfl
  rw[e,a7,px,dx,p1,q];rfl
 have f0:cS [none,some 4] (aY (aa 3)) (gN 0) (fB (f2 sF (aa 0) (aa 1))) (aa 0) [‹a›,‹b›,‹i›,‹.lst [.tup x]›,‹.lst [.tup x]›]=.ok (.lst [.tup x]):=by
  refine bh (ds:=[()].map λ_=>.tup x) (by simp! only[]) (show 1<=100000 by decide) ?_;refine dA (λ_:Unit=>.tup x) (λ_=>true) (λ_=>.tup x) [()] λ_ _=>⟨_,rfl,?_,rfl⟩
  simp! only[n1]
 rw[iA];unfold bf;simp! only[h1,h2,f0];rfl
theorem ut(a b i:D)(x:List D)(h1:aC a6 2 5 [a,i]=.ok (.lst [.tup x]))(h2:aC a6 2 5 [b,i]=.ok (.lst [])):aC bf 3 5 [a,b,i]=.ok (.bl false):=by
 have c:(((0+1:Nat):Int)==((0:Nat):Int))=false:=by decide
 have c':((([D.tup x].length:Nat):Int)==(([]:List D).length:Int))=false:=by rfl
 rw[iA];unfold bf;simp! only[h1,h2,c,c']
theorem xX(g:GF)(B:bB)(k:Ks)(d:D)(ρ:ao):dg g B k [d] ρ=(rO (g d ρ)).bind λρ1=>B ⟨k.nx,k.nx,k.nx,k.ex⟩ ρ1:=rfl
theorem HB(a:D):j0 [a]=some (.lst [a]):=nr rfl
theorem lh{σ:List Bool}{kf rf:List D}(rows:List (List D))(row:List D)(hl:rows.length<=100)(hs:∀r∈rows,Sh σ (r.take kf.length))(hr:Sh σ (row.take kf.length))(hth:(rows.filter λr=>pyEqL (r.take kf.length) (row.take kf.length))=[row])(hp:dk row=true)(hd:a9 7 (.tup row)=true):
  aC bG 3 10 [.tup [.tup kf,.tup rf],.tup (rows.map .tup),.tup [.tup [.tup (row.take kf.length),.tup row,.non]]]=.ok (.tup ((rows.filter λr=>!pyEqL (r.take kf.length) (row.take kf.length)).map .tup)):=by
 have en:cD (.tup row) .non=some (.bl false):=by
  have e:cD (.tup row) .non=if(pl (.tup row)&&pl .non)&&(a9 8 (.tup row)||a9 8 .non)then some (.bl (pyEq (.tup row) .non))else none:=rfl
  have p:pl .non=true:=rfl;have d:a9 8 .non=true:=rfl;have q:pyEq (.tup row) .non=false:=by unfold pyEq;rfl
  rw[e,a7,hp,p,d,q,J2];rfl
 have nn:j3 (.lst [.tup row]) (.lst [.tup row])=some (.bl false):=by
  have e:j3 (.lst [.tup row]) (.lst [.tup row])=if(pl (.lst [.tup row])&&pl (.lst [.tup row]))&&(a9 8 (.lst [.tup row])||a9 8 (.lst [.tup row]))then some (.bl (!pyEq (.lst [.tup row]) (.lst [.tup row])))else none:=rfl
  have p:pl (.lst [.tup row])=true:=by rw[pl,dk,a7,hp];rfl
  have d:a9 8 (.lst [.tup row])=true:=by
   show[D.tup row].all (a9 7)=true;rw[Jp,hd];rfl
  rw[e,p,d,dW];rfl
 have t0:isNon (.tup row)=false:=rfl;have t1:isNon .non=true:=rfl;have f0:cS [none,some 3,some 5] (aY (aa 4)) (gN 0) (fB (f2 cD (aK (aa 0) aD (aO (aa 1))) (aa 2))) (aa 0) [none,none,‹.tup [.tup [.tup (row.take kf.length),.tup row,.non]]›,‹.int kf.length›,‹.lst (rows.map .tup)›,‹.tup (row.take kf.length)›,‹.tup row›,‹.non›,none,none]=.ok (.lst [.tup row]):=by
  have:=dA (ρ:=inB [none,some 3,some 5] [none,none,‹.tup [.tup [.tup (row.take kf.length),.tup row,.non]]›,‹.int kf.length›,‹.lst (rows.map .tup)›,‹.tup (row.take kf.length)›,‹.tup row›,‹.non›,none,none]) (g:=gN 0) (C:=fB (f2 cD (aK (aa 0) aD (aO (aa 1))) (aa 2))) (Fe:=aa 0) D.tup (λr=>pyEqL (r.take kf.length) (row.take kf.length)) D.tup rows λr hr'=>⟨_,rfl,by simp! only[eT,Bk (hs r hr') hr],rfl⟩
  rw[hth]at this;exact bh (ds:=rows.map .tup) (by simp! only[]) (by rw[IH];omega) this
 have f1:cS [none,some 3,some 5] (aY (aa 4)) (gN 0) (fB (f2 j3 (aK (aa 0) aD (aO (aa 1))) (aa 2))) (aa 0) [none,none,‹.tup [.tup [.tup (row.take kf.length),.tup row,.non]]›,‹.int kf.length›,‹.lst (rows.map .tup)›,‹.tup (row.take kf.length)›,‹.tup row›,‹.non›,‹.lst [.tup row]›,none]=.ok (.lst ((rows.filter λr=>!pyEqL (r.take kf.length) (row.take kf.length)).map .tup)):=
  bh (ds:=rows.map .tup) (by simp! only[]) (by rw[IH];omega) (dA D.tup (λr=>!pyEqL (r.take kf.length) (row.take kf.length)) D.tup rows λr hr'=>⟨_,rfl,by simp! only[eT,xo (hs r hr') hr],rfl⟩)
 have g2:∀ρ:ao,ρ[6]?=some (‹.tup row›)->cS [none] (aY (fP (af (aa 6) ah))) (gN 0) (fB (iQ (aa 0))) (aa 0) ρ=.ok (.lst [.tup row]):=λρ h=>by
  have gv:aa 6 ρ=.ok (.tup row):=by unfold aa lB;rw[h]
  refine bh (ds:=[()].map λ_=>.tup row) (by simp only[gh,lm,iM,gv,dj,lF,HB,de,eF];rfl) (show 1<=100000 by decide) ?_;refine dA (λ_:Unit=>.tup row) (λ_=>true) (λ_=>.tup row) [()] λ_ _=>⟨_,rfl,?_,rfl⟩
  simp! only[t0]
 rw[iA];unfold bG;have un:gT 3 (pj [5,6,7]) (.tup [.tup (row.take kf.length),.tup row,.non]) [none,none,‹.tup [.tup [.tup (row.take kf.length),.tup row,.non]]›,‹.int kf.length›,‹.lst (rows.map .tup)›,none,none,none,none,none]=some [none,none,‹.tup [.tup [.tup (row.take kf.length),.tup row,.non]]›,‹.int kf.length›,‹.lst (rows.map .tup)›,‹.tup (row.take kf.length)›,‹.tup row›,‹.non›,none,none]:=rfl;have fz:∀(x0 x1 x2 x3 x5 x6 x7 x8 x9:Option S)(d:D),frz 4 [x0,x1,x2,x3,‹d›,x5,x6,x7,x8,x9]=[x0,x1,x2,x3,‹d›,x5,x6,x7,x8,x9]:=λ_ _ _ _ _ _ _ _ _ _=>rfl;have f2':=λx0 x1 x2 x3 x4 x5 x7 x8 x9=>g2 [x0,x1,x2,x3,x4,x5,‹.tup row›,x7,x8,x9] rfl;simp! only[iy,xX,un,fz,f0,en,f2',nn,f1,t1]
theorem uE(g:Nat){kf rf row tw:List D}{ps:dq}(hl:ps.length<=100)(e:kf++rf=ps.map fld)(hf:F2 (λk v=>ay g [k,v]=.ok (.bl true)) (ps.map (·.2)) row)(ht:F2 (λk v=>ay g [k,v]=.ok (.bl true)) (ps.map (·.2)) tw)
  (lt:dm (.tup (row.take kf.length)) (.tup (tw.take kf.length))=some (.bl true)):av (g+1) [.tup [.tup kf,.tup rf],.tup [.tup row,.tup tw]]=.ok (.bl true):=by
 have len:kf.length+rf.length=ps.length:=by have:=congrArg List.length e;rwa [IZ,IH]at this
 have ad:=cu kf rf ‹0›;rw[e]at ad;have kl:=li (kf:=kf) (rf:=rf) hl (aY (f2 aJ (f2 ai (aa 0) (fC (.int 0))) (f2 ai (aa 0) (fC (.int 1))))) [‹.tup [.tup kf,.tup rf]›,‹.tup [.tup row,.tup tw]›,none,none,none] (by simp! only[ad]);have t1:∀xs,jP "tuple" (.tup xs)=some (.bl true):=λ_=>rfl;have r0:cV [.int ((0+1+1:Nat)-1:Int)]=some [.int 0]:=rfl;have i0:ai (.tup [.tup row,.tup tw]) (.int 0)=some (.tup row):=rfl;have i1:ai (.tup [.tup row,.tup tw]) (.int (0+1))=some (.tup tw):=rfl;have f0:cS [none,some 1,some 3] (aT (af (f2 eB (fL b9 (af (aa 1) ah)) (fC (.int 1))) ah)) (gN 0) aU (f2 dm (aK (f2 ai (aa 1) (aa 0)) aD (aO (aa 2))) (aK (f2 ai (aa 1) (f2 aJ (aa 0) (fC (.int 1)))) aD (aO (aa 2)))) [none,‹.tup [.tup row,.tup tw]›,‹.lst (ps.map (·.2))›,‹.int kf.length›,none]=.ok (.lst [.bl true]):=by
  refine bh (ds:=[()].map λ_=>.int 0) (by simp! only[r0]) (by decide) ?_;refine cU (λ_:Unit=>.int 0) (λ_=>.bl true) [()] λ_ _=>⟨_,rfl,rfl,?_⟩
  simp! only[i0,i1,eT,lt]
 have a0:fS [.lst [.bl true]]=some (.bl true):=rfl;have f1:∀r:List D,F2 (λk v=>ay g [k,v]=.ok (.bl true)) (ps.map (·.2)) r->∃n,cS [none,none] (qe (af (aa 2) (af (aa 4) ah))) (gT 2 (pj [0,1])) aU (fR (ay g) (af (aa 0) (af (aa 1) ah))) [none,‹.tup [.tup row,.tup tw]›,‹.lst (ps.map (·.2))›,‹.int kf.length›,‹.tup r›]=.ok (.lst ((List.replicate n true).map .bl)):=λr hf=>by
  obtain⟨vs,v1,v2,v3⟩:=qT (ρ:=inB [none,none] [none,‹.tup [.tup row,.tup tw]›,‹.lst (ps.map (·.2))›,‹.int kf.length›,‹.tup r›]) (g:=gT 2 (pj [0,1])) (C:=aU) (Fe:=fR (ay g) (af (aa 0) (af (aa 1) ah))) (iz (ps.map (·.2)) r) (λ_ v=>v=.bl true) (λt d hd=>by
   obtain⟨x,y,hx,hy,rfl⟩:=jo hd;refine⟨[‹x›,‹y›],_,rfl,rfl,?_,rfl⟩;simp! only[hf.get hx hy])
  have ev:vs=(List.replicate vs.length true).map .bl:=by
   apply List.ext_getElem
   ·simp
   ·intro t h1 h2;rw[v2 t _ (Jr h1)];simp
  have f1:=bh (ix:=[none,none]) (G:=qe (af (aa 2) (af (aa 4) ah))) (ρ:=[none,‹.tup [.tup row,.tup tw]›,‹.lst (ps.map (·.2))›,‹.int kf.length›,‹.tup r›]) (by simp! only[xI]) (by rw[eN,IH];omega) v3;rw[ev]at f1;exact⟨_,f1⟩
 rw[bW,bc];unfold cJ;simp! only[kl,t1];refine gZ (Q:=λz=>z=.ok (.bl true)) (λ_ ρ=>ρ=[none,‹.tup [.tup row,.tup tw]›,‹.lst (ps.map (·.2))›,‹.int kf.length›,none]) ?_ rfl ?_
 ·rintro j d ρ k' hd rfl;obtain⟨r,rfl,hr⟩:∃r,d=.tup r/\F2 (λk v=>ay g [k,v]=.ok (.bl true)) (ps.map (·.2)) r:=by
   cases j with
   |zero=>cases hd;exact⟨_,rfl,hf⟩
   |succ j=>cases j with
    |zero=>cases hd;exact⟨_,rfl,ht⟩
    |succ j=>cases hd
  have rl:r.length=ps.length:=by rw[<-hr.length,IH]
  have nn:(((r.length:Int))==(((ps.map (·.2)).length:Nat):Int))=true:=by rw[rl,IH];simp
  obtain⟨n,f1⟩:=f1 r hr;refine⟨[none,‹.tup [.tup row,.tup tw]›,‹.lst (ps.map (·.2))›,‹.int kf.length›,‹.tup r›],_,rfl,rfl,?_⟩;simp! only[t1,nn,f1,pP]
 ·rintro ρ rfl;simp! only[f0,a0]
section
variable{kf rf:List D}{ps:dq}
theorem mid{α:Type}(xs:List α)(i:Nat)(a:α)(h:xs[i]?=some a):xs=xs.take i++a::xs.drop (i+1):=by
 have hl:=c6 h;have e:xs[i]=a:=by rw[Jr hl]at h;exact Option.some.inj h
 rw[<-e,List.getElem_cons_drop,Kr]
theorem pH{α:Type}(p s:List α)(a:α)(m:Nat)(h:p.length<m):(p++a::s).take m=p++a::s.take (m-p.length-1):=by
 rw[List.take_append,JF ‹0›];obtain⟨n,hn⟩:∃n,m-p.length=n+1:=⟨m-p.length-1,by omega⟩
 rw[hn,Jl];rfl
theorem xM(h:Fo kf rf ps){i:Nat}{nm:Str}{k:D}(hi:ps[i]?=some (nm,k)){row:List D}{v w:D}(f:F2 G1 (ps.map (·.2)) row)(hv:row[i]?=some v)(fw:ke k w)(lt:DI v w)(im:i<kf.length):
  aC cN 5 8 [.tup [.tup kf,.tup rf],.int i,.tup [.tup row,.tup (rp row i w)],.tup [.tup row],.tup [.tup [.tup (row.take kf.length),.tup row,.non]]]=.ok (.bl true):=by
 have hl:=h.hl;have len:=h.len;have il:=c6 hi;have rl:row.length=ps.length:=by rw[<-f.length,IH]
 have fr:F2 (LF 1) (ps.map (·.2)) row:=f.imp λ_ _ q=>q.1;have kk:(ps.map (·.2))[i]?=some k:=by rw[IV,hi];rfl
 have ft:F2 (LF 1) (ps.map (·.2)) (rp row i w):=by
  rw[mid _ i k kk];unfold rp;rw[JE];exact(fr.take i).append (.cons (.of fw) (fr.drop (i+1)))
 have tl:(rp row i w).length=ps.length:=by rw[<-ft.length,IH]
 have w1:=fr.imp (S:=λk v=>ay 11 [k,v]=.ok (.bl true)) λk v z=>sO 1 11 (by decide) z;have w2:=ft.imp (S:=λk v=>ay 11 [k,v]=.ok (.bl true)) λk v z=>sO 1 11 (by decide) z;have fk:∀x∈(ps.map (·.2)).take kf.length,ii x:=λx hx=>by
  obtain⟨j,hj,ej⟩:=Jw hx;rw[IQ,IH]at hj;rw[Kt,Ko]at ej;rw[<-ej];exact(h.fl j _ (Jr ‹0›)).1 ‹0›
 obtain⟨σ,hσ⟩:=F2.keySh (kf:=kf) fk;have key:∀r,F2 (LF 1) (ps.map (·.2)) r->Sh σ (r.take kf.length):=λr hr=>by
  refine hσ _ (F2.of (by rw[(hr.take kf.length).length]) λj a b ha hb=>?_);exact tJ (fk a (IY ha)) ((hr.take kf.length).get ha hb)
 have s1:=key _ fr;have s2:=key _ ft;have e1:=mid row i v hv;have pi:(row.take i).length=i:=by rw[IQ];omega
 have t1:row.take kf.length=row.take i++v::(row.drop (i+1)).take (kf.length-i-1):=by
  have:=pH (row.take i) (row.drop (i+1)) v kf.length ‹0›
  rw[<-e1,pi]at this;exact this
 have t2:(rp row i w).take kf.length=row.take i++w::(row.drop (i+1)).take (kf.length-i-1):=by
  have:=pH (row.take i) (row.drop (i+1)) w kf.length ‹0›
  rw[pi]at this;unfold rp;rw[JE];exact this
 have sp:∃τ,Sh τ (row.take i):=by
  have fk':∀x∈(ps.map (·.2)).take i,ii x:=λx hx=>fk x (by
   have:(ps.map (·.2)).take i=((ps.map (·.2)).take kf.length).take i:=(by rw[List.take_take,Kd ‹0›]);rw[this]at hx;exact Ka hx)
  obtain⟨τ,hτ⟩:=F2.keySh (kf:=kf) fk';refine⟨τ,hτ _ (F2.of (by rw[(fr.take i).length]) λj a b ha hb=>?_)⟩;exact tJ (fk' a (IY ha)) ((fr.take i).get ha hb)
 obtain⟨τ,hτ⟩:=sp;have lx:cA (row.take kf.length) ((rp row i w).take kf.length)=some true:=by rw[t1,t2];exact ou _ _ _ v w hτ lt
 have lk:=BK s1 s2;rw[EW.mpr lx]at lk;have ne:row.take kf.length≠(rp row i w).take kf.length:=λz=>by
  rw[<-z,kL s1]at lx;cases lx
 have q1:pyEqL (row.take kf.length) (row.take kf.length)=true:=fT _;have q2:pyEqL ((rp row i w).take kf.length) (row.take kf.length)=false:=by
  cases z:pyEqL ((rp row i w).take kf.length) (row.take kf.length)with
  |false=>rfl
  |true=>exact absurd ((qx s2 s1).mp z).symm ne
 have p1:=nV fr;have p2:=nV ft;have d1:=jc fr 5;have k1:av 12 _=_:=uE 11 ‹0› h.e w1 w2 lk;have k2:av 12 _=_:=jT 11 ‹0› h.e w1;have k3:av 12 _=_:=jT 11 ‹0› h.e w2;have k4:av 12 _=_:=nN 11 (kf:=kf) (rf:=rf) (ps:=ps) ‹0› h.e;have eq1:cD (.tup [.tup row,.tup (rp row i w)]) (.tup [.tup row])=some (.bl false):=by
  have e:cD (.tup [.tup row,.tup (rp row i w)]) (.tup [.tup row])=if(pl (.tup [.tup row,.tup (rp row i w)])&&pl (.tup [.tup row]))&&(a9 8 (.tup [.tup row,.tup (rp row i w)])||a9 8 (.tup [.tup row]))then some (.bl (pyEq (.tup [.tup row,.tup (rp row i w)]) (.tup [.tup row])))else none:=rfl
  have a:pl (.tup [.tup row,.tup (rp row i w)])=true:=by rw[a7,dk,dk,a7,a7,p1,p2];rfl
  have b:pl (.tup [.tup row])=true:=by rw[a7,dk,a7,p1];rfl
  have c:a9 8 (.tup [.tup row])=true:=by
   show[D.tup row].all (a9 7)=true;rw[Jp,jc fr 4];rfl
  have d:pyEq (.tup [.tup row,.tup (rp row i w)]) (.tup [.tup row])=false:=by
   have z:pyEqL [.tup (rp row i w)] []=false:=(by unfold pyEqL;rfl);rw[pyEq,pyEqL,z,Ju]
  rw[e,a,b,c,d,J2];rfl
 obtain⟨x,hx⟩:∃x:List D,x=row.take i++row.drop (i+1):=⟨_,rfl⟩
 have x2:(rp row i w).take i++(rp row i w).drop (i+1)=x:=by
  have a:(rp row i w).take i=row.take i:=by unfold rp;rw[JE];exact List.take_left' pi
  have b:(rp row i w).drop (i+1)=row.drop (i+1):=by unfold rp;exact List.drop_left' (by rw[IZ,pi];rfl)
  rw[a,b,hx]
 have fx:F2 (LF 1) ((ps.map (·.2)).take i++(ps.map (·.2)).drop (i+1)) x:=by rw[hx];exact(fr.take i).append (fr.drop (i+1))
 have px:=nV fx;have dx:=jc fx 5;have two:∀(P:List D->Prop),P row->P (rp row i w)->∀r∈[row,rp row i w],P r:=λP a b r hr=>by
  rcases List.mem_cons.mp hr with z|z
  ·rw[z];exact a
  ·rw[List.mem_singleton.mp z];exact b
 have one:∀(P:List D->Prop)(y:List D),P y->∀r∈[y],P r:=λP y a r hr=>by rw[List.mem_singleton.mp hr];exact a
 have l1:aC a6 2 5 [.tup [.tup row,.tup (rp row i w)],.int i]=.ok (.lst [.tup x]):=iX [row,rp row i w] i x (two _ hx.symm x2) (two (λr=>r.length<=100) ‹0› ‹0›) px dx;have l2:aC a6 2 5 [.tup [.tup row],.int i]=.ok (.lst [.tup x]):=iX [row] i x (one _ _ hx.symm) (one (λr=>r.length<=100) _ ‹0›) px dx;have l3:aC a6 2 5 [.tup [.tup (rp row i w)],.int i]=.ok (.lst [.tup x]):=iX [rp row i w] i x (one _ _ x2) (one (λr=>r.length<=100) _ ‹0›) px dx;have l4:aC a6 2 5 [.tup [],.int i]=.ok (.lst []):=iX [] i x (λ_ h=>nomatch h) (λ_ h=>nomatch h) px dx;have a1:=ub _ _ _ x px dx l1 l2;have a2:=ut _ _ _ x l3 l4;have c1:aC bG 3 10 [.tup [.tup kf,.tup rf],.tup [.tup row,.tup (rp row i w)],.tup [.tup [.tup (row.take kf.length),.tup row,.non]]]=.ok (.tup [.tup (rp row i w)]):=by
  have:=lh (rf:=rf) [row,rp row i w] row (show 2<=100 by decide) (two _ s1 s2) s1 (by rw[J5 (by exact q1),J6 (by rw[q2];exact Iu),Ku]) p1 (jc fr 4)
  rw[J6 (by rw[q1];decide),J5 (by rw[q2];rfl),Ku]at this;exact this
 have c2:aC bG 3 10 [.tup [.tup kf,.tup rf],.tup [.tup row],.tup [.tup [.tup (row.take kf.length),.tup row,.non]]]=.ok (.tup []):=by
  have:=lh (rf:=rf) [row] row (show 1<=100 by decide) (one _ _ s1) s1 (by rw[J5 (by exact q1),Ku]) p1 (jc fr 4)
  rw[J6 (by rw[q1];decide),Ku]at this;exact this
 have tt:∀xs,jP "tuple" (.tup xs)=some (.bl true):=λ_=>rfl;have a0:fS [.lst []]=some (.bl true):=rfl;have a01:fS [.lst [.bl true]]=some (.bl true):=rfl;have r0:cV [.int ((0+1:Nat)-1:Int)]=some []:=rfl;have e3:(((0+1+1+1:Nat):Int)==3)=true:=by decide
 generalize rp row i w=tw at *;generalize hch:D.tup [.tup (row.take kf.length),.tup row,.non]=ch at *;generalize hft:D.tup [.tup kf,.tup rf]=form at *;have v1:cS [none] (aY (aa 4)) (gN 0) aU (df (fe "tuple" (aa 0)) (f2 cD (fL b9 (af (aa 0) ah)) (fC (.int 3)))) [‹form›,‹.int i›,‹.tup [.tup row,.tup tw]›,‹.tup [.tup row]›,‹.tup [ch]›,none,none,none]=.ok (.lst [.bl true]):=by
  refine bh (ds:=[()].map λ_=>ch) (by simp! only[]) (show 1<=100000 by decide) ?_;refine cU (λ_:Unit=>ch) (λ_=>.bl true) [()] λ_ _=>⟨_,rfl,rfl,?_⟩
  rw[<-hch];simp! only[tt,e3];rfl
 have v2:cS [none] (aY (aa 4)) (gN 0) aU (f2 ai (aa 0) (fC (.int 0))) [‹form›,‹.int i›,‹.tup [.tup row,.tup tw]›,‹.tup [.tup row]›,‹.tup [ch]›,none,none,none]=.ok (.lst [.tup (row.take kf.length)]):=by
  refine bh (ds:=[()].map λ_=>ch) (by simp! only[]) (show 1<=100000 by decide) ?_;refine cU (λ_:Unit=>ch) (λ_=>.tup (row.take kf.length)) [()] λ_ _=>⟨_,rfl,rfl,?_⟩
  rw[<-hch];simp! only[]
 have v3:cS [none,some 5] (aT (af (f2 eB (fL b9 (af (aa 5) ah)) (fC (.int 1))) ah)) (gN 0) aU (f2 dm (f2 ai (aa 1) (aa 0)) (f2 ai (aa 1) (f2 aJ (aa 0) (fC (.int 1))))) [‹form›,‹.int i›,‹.tup [.tup row,.tup tw]›,‹.tup [.tup row]›,‹.tup [ch]›,‹.lst [.tup (row.take kf.length)]›,none,none]=.ok (.lst []):=bh (ds:=[]) (by simp! only[r0]) (by decide) rfl;rw[B8];unfold cN;simp! only[k1,k2,eq1,a1,tt,v1,a01,v2,v3,a0,c1,c2,k3,k4,a2]
end
theorem pG{P:Nat->D->Prop}{ws:al}:∀(fs:List D)(o:Nat),(∀(j:Nat)(f:D),fs[j]?=some f->∃k,f=fld (ws.getD (o+j) "",k)/\P (o+j) k)->∃ps:dq,fs=ps.map fld/\∀(j:Nat)(p:Str×D),ps[j]?=some p->p.1=ws.getD (o+j) ""/\P (o+j) p.2
 |[],_,_=>⟨[],rfl,λ_ _ h=>nomatch h⟩
 |f::fs,o,h=>by
  obtain⟨k,e,q⟩:=h 0 f rfl;obtain⟨ps,rfl,q2⟩:=pG fs (o+1) λj f' hf=>by
   obtain⟨k',e',q'⟩:=h (j+1) f' (by rw[JL];exact hf);rw[show o+(j+1)=o+1+j by omega]at e' q';exact⟨k',e',q'⟩
  refine⟨(ws.getD o "",k)::ps,by rw[e];rfl,λj p hp=>?_⟩;cases j with
  |zero=>cases hp;exact⟨rfl,q⟩
  |succ j=>
   rw[JL]at hp;rw[show o+(j+1)=o+1+j by omega];exact q2 j p hp
theorem vQ{ws:al}(hw:ws.length=20):∀j:Nat,j<20->ai (.lst (ws.map .str)) (.int (j:Int))=some (.str (ws.getD j "")):=λj hj=>by
 rw[Cy,oq,IV,Jr ‹0›,J8,Jr ‹0›];rfl
structure Fi(ws:al)(m n:Nat)(ps:dq):Prop where
 len:ps.length=n
 at':∀(j:Nat)(p:Str×D),ps[j]?=some p->p.1=ws.getD j ""/\(j<m->ii p.2)/\mh 1 p.2/\Rs p.2
section
variable{ns:List Int}{ws:al}{m r:Nat}{ps:dq}
theorem Fi.fo(hw:ws.length=20)(hn:ws.Nodup)(m1:1<=m)(m8:m<=8)(r8:r<=8)(F:Fi ws m (m+r) ps):Fo ((ps.take m).map fld) ((ps.drop m).map fld) ps:=by
 have pl:=F.len;have nm:ps.map (·.1)=ws.take (m+r):=by
  apply List.ext_getElem?;intro j;rw[IV];by_cases hj:j<m+r
  ·rw[IW hj,Jr ‹0›,Jr ‹0›]
   have:=(F.at' j ps[j] (Jr ‹0›)).1
   rw[J8,Jr ‹0›]at this;show some ps[j].1=_;rw[this];rfl
  ·rw[J4 ‹0›,J4 (by rw[IQ];omega)];rfl
 refine⟨?_,?_,?_,?_,?_,?_,?_,?_⟩
 ·rw[IH,IQ];omega
 ·rw[IH,IQ];omega
 ·rw[IH,Ja];omega
 ·rw[<-Jz,Kr]
 ·rw[nm];exact hn.sublist (IX _ _)
 ·intro f hf;obtain⟨p,hp,rfl⟩:=List.mem_map.mp hf;obtain⟨j,hj,ej⟩:=Jw hp;rw[IQ]at hj;rw[Kt]at ej;exact⟨p.1,p.2,rfl,(F.at' j p (by rw[<-ej];exact Jr _)).2.1 ‹0›⟩
 ·intro f hf;obtain⟨p,hp,rfl⟩:=List.mem_map.mp hf;obtain⟨j,hj,ej⟩:=Jw (J9 hp);exact⟨p.1,p.2,rfl,(F.at' j p (by rw[<-ej];exact Jr _)).2.2.1⟩
 ·intro j p hp;obtain⟨_,a,_,b⟩:=F.at' j p hp;exact⟨λz=>a (by rw[IH,IQ]at z;omega),b⟩
noncomputable abbrev E(ns:List Int)(ws:al)(m r:Nat)(fs:List D)(a b c:Option S):ao:=[‹.lst (ns.map .int)›,‹.lst (ws.map .str)›,none,‹.int m›,‹.int r›,some (.own (.lst fs)),a,b,c]
end
noncomputable def E9:bB:=(ak (cQ (jn (fB (f2 cD (f2 aW (f2 bE (aa 7) (fC (.int 17))) (fC (.int 4))) (fC (.int 1)))) (fB (f2 cD (f2 ai (aa 8) (fC (.int 0))) (fC (.str "number"))))) (aG 8 (cz (af (fC (.str "number")) (af (f2 ai (aa 8) (fC (.int 1))) (af (f2 ai (aa 8) (fC (.int 1))) ah))))) aX) (ak (vt 5 oN (af (cz (af (f2 ai (aa 1) (aa 6)) (af (aa 8) ah))) ah)) (dN [6,7,8] aX)))
theorem Dl{k:D}(h:mh 1 k):∃s,ai k (.int 0)=some (.str s)/\((s==("number":Str))=true->∃lo hi,lo<=hi/\-Ba<lo/\hi<Ba/\k=num lo hi):=by
 rcases h with(⟨lo,hi,a1,a2,a3,rfl⟩|⟨ws,_,_,rfl⟩)|⟨kf,rf,b,rfl,_⟩
 ·exact⟨_,rfl,λ_=>⟨lo,hi,a1,a2,a3,rfl⟩⟩
 ·exact⟨_,rfl,λz=>by rw[gm]at z;cases z⟩
 ·exact⟨_,rfl,λz=>by rw[jK]at z;cases z⟩
section
variable{ns:List Int}{ws:al}{m r:Nat}
theorem Dy(hw:ws.length=20)(j:Nat)(hj:j<16)(z:Int){k:D}(kn:mh 1 k)(rs:Rs k)(fs:List D)(hf:fs.length<=20):∃k',(ii k->ii k')/\mh 1 k'/\Rs k'/\∀K:Ks,E9 K (E ns ws m r fs (‹.int (j:Int)›) (‹.int z›) (‹k›))=K.nx (E ns ws m r (fs++[fld (ws.getD j "",k')]) none none none):=by
 have g4:=λi=>aI (i:=i) (show(0:Int)<4 by decide);have d17:=λi=>a8 (i:=i) (show(0:Int)<17 by decide) (show(17:Int)<10^200 by decide);have nat:=vQ hw j ‹0›;obtain⟨s,hs,hk⟩:=Dl kn;have ap:=λy=>qZ (xs:=fs) (y:=y) ‹0›;unfold E9;cases b1:(z/17%4==1)with
 |false=>
  refine⟨k,id,kn,rs,λK=>?_⟩;simp! only[E,d17,g4,b1];rw[lU _ _ _ _ _ (xs:=fs) rfl];simp! only[nat,vy,ap]
 |true=>
  cases b2:(s==("number":Str))with
  |false=>
   refine⟨k,id,kn,rs,λK=>?_⟩;simp! only[E,d17,g4,b1,hs,b2];rw[lU _ _ _ _ _ (xs:=fs) rfl];simp! only[nat,vy,ap]
  |true=>
   obtain⟨lo,hi,a1,a2,a3,rfl⟩:=hk b2;have fl:ii (num lo lo):=.inl ⟨lo,lo,by omega,by omega,by omega,rfl⟩;refine⟨num lo lo,λ_=>fl,fl.kin,Rs.num,λK=>?_⟩;simp! only[E,d17,g4,b1,jC,yy];rw[lU _ _ _ _ _ (xs:=fs) rfl];simp! only[nat,vy,ap]
end
theorem zN(ns:List Int)(ws:al)(hw:ws.length=20)(hn:ws.Nodup):∃(kf rf:List D)(ps:dq),Fo kf rf ps/\(∀(j:Nat)(p:Str×D),ps[j]?=some p->p.1=ws.getD j "")/\aC cZ 2 9 [.lst (ns.map .int),.lst (ws.map .str)]=.ok (.tup [.tup kf,.tup rf]):=by
 obtain⟨c1,e1⟩:=TD.Fd ns 1 (by decide);obtain⟨c2,e2⟩:=TD.Fd ns 2 (by decide);have g3:=λi=>aI (i:=i) (show(0:Int)<3 by decide);have g4:=λi=>aI (i:=i) (show(0:Int)<4 by decide);have g8:=λi=>aI (i:=i) (show(0:Int)<8 by decide);have g9:=λi=>aI (i:=i) (show(0:Int)<9 by decide);have d3:=λi=>a8 (i:=i) (show(0:Int)<3 by decide) (show(3:Int)<10^200 by decide);have d11:=λi=>a8 (i:=i) (show(0:Int)<11 by decide) (show(11:Int)<10^200 by decide);have d12:=λi=>a8 (i:=i) (show(0:Int)<12 by decide) (show(12:Int)<10^200 by decide);have d13:=λi=>a8 (i:=i) (show(0:Int)<13 by decide) (show(13:Int)<10^200 by decide);have d96:=λi=>a8 (i:=i) (show(0:Int)<96 by decide) (show(96:Int)<10^200 by decide);have d768:=λi=>a8 (i:=i) (show(0:Int)<768 by decide) (show(768:Int)<10^200 by decide);obtain⟨T,hT⟩:∃T:bB,T=(ak (lu (aT (af (f2 aJ (aa 3) (aa 4)) ah)) (gN 6) (ak (aG 7 (fR (aC a5 2 3) (af (fR (aC aF 2 2) (af (aa 0) (af (fC (.int 2)) ah))) (af (aa 6) ah)))) (ak (aG 8 (fR (aC bw 2 4) (af (aa 7) (af (f2 DJ (aa 6) (aa 3)) ah)))) (ak (cQ (fB (f2 cD (f2 aW (f2 bE (aa 7) (fC (.int 11))) (fC (.int 4))) (fC (.int 1)))) (aG 8 (fR (aC bL 1 2) (af (f2 bE (aa 7) (fC (.int 13))) ah))) aX) E9)))) (mq 5 (aL (cz (af (fL cg (af (aK (aa 5) aD (aO (aa 3))) ah)) (af (fL cg (af (aK (aa 5) (aO (aa 3)) aD) ah)) ah)))))):=⟨_,rfl⟩
 have key:∀m r:Nat,1<=m->m<=8->r<=8->∃(kf rf:List D)(ps:dq),Fo kf rf ps/\(∀(j:Nat)(p:Str×D),ps[j]?=some p->p.1=ws.getD j "")/\T K0 (E ns ws m r [] none none none)=.ok (.tup [.tup kf,.tup rf]):=by
  intro m r m1 m8 r8;have rn:cV [.int ((m:Int)+(r:Int))]=some (bq 0 (m+r)):=dz (m+r) ‹0›;rw[hT,dR,eL];have b2:=λj hj z k (kn:mh 1 k) rs fs hf=>Dy (ns:=ns) (m:=m) (r:=r) hw j hj z (k:=k) kn rs fs hf;generalize E9=TT at b2;simp! only[E,rn];refine gZ (Q:=λz=>∃(kf rf:List D)(ps:dq),Fo kf rf ps/\(∀(j:Nat)(p:Str×D),ps[j]?=some p->p.1=ws.getD j "")/\z=.ok (.tup [.tup kf,.tup rf]))
   (λj ρ=>∃fs:List D,fs.length=j/\(∀(j:Nat)(f:D),fs[j]?=some f->∃k,f=fld (ws.getD (0+j) "",k)/\(0+j<m->ii k)/\mh 1 k/\Rs k)/\ρ=E ns ws m r fs none none none) ?_ ?_ ?_
  ·rintro j d ρ k' hd ⟨fs,u1,u2,rfl⟩;have hj:=c6 hd;rw[bb]at hj;have hdi:d=.int (j:Int):=by
    rw[dY,IV,JC hj]at hd;cases hd;simp
   subst hdi;obtain⟨z,hz,ez⟩:=gR c2 (j:Int) ‹0› ‹0›;obtain⟨k0,k1,k2,k3,ek⟩:=za z (decide ((m:Int)<=(j:Int)));obtain⟨kp,p1,p2,ep⟩:=DE (z/13);have app:∀k,(j<m->ii k)->mh 1 k->Rs k->∀(j':Nat)(f:D),(fs++[fld (ws.getD j "",k)])[j']?=some f->∃k,f=fld (ws.getD (0+j') "",k)/\(0+j'<m->ii k)/\mh 1 k/\Rs k:=λk a1 a2 a3 j' f hf=>by
    rcases J7 j' fs.length with q|q
    ·rw[IU q]at hf;exact u2 j' f hf
    ·rw[IR q]at hf
     have:j'=j:=by
      have:=c6 hf
      simp at this;omega
     subst this;rw[show j'-fs.length=0 by omega]at hf;cases hf;exact⟨k,by rw[JP],λhj'=>a1 ‹0›,a2,a3⟩
   have fl0:j<m->ii k0:=λhj'=>k1 (by simp;omega);cases c11:(z/11%4==1)with
   |true=>
    obtain⟨k,q1,q2,q3,q4⟩:=b2 j ‹0› z kp p1.kin p2 fs ‹0›;simp only[E]at q4;refine⟨_,_,rfl,⟨fs++[fld (ws.getD j "",k)],by simp;omega,app k (λ_=>q1 p1) q2 q3,rfl⟩,?_⟩;simp! only[E,e2,ez,ek,d11,g4,c11,d13,ep,q4]
   |false=>
    obtain⟨k,q1,q2,q3,q4⟩:=b2 j ‹0› z k0 k2 k3 fs ‹0›;simp only[E]at q4;refine⟨_,_,rfl,⟨fs++[fld (ws.getD j "",k)],by simp;omega,app k (λh=>q1 (fl0 h)) q2 q3,rfl⟩,?_⟩;simp! only[E,e2,ez,ek,d11,g4,c11,q4]
  ·exact⟨[],rfl,(λj f h=>by cases h),rfl⟩
  ·rintro ρ' ⟨fs,u1,u2,rfl⟩;rw[bb]at u1;obtain⟨ps,rfl,q⟩:=pG (P:=λj k=>(j<m->ii k)/\mh 1 k/\Rs k) (ws:=ws) fs 0 u2;rw[IH]at u1;have F:Fi ws m (m+r) ps:=⟨u1,λj p hp=>by have:=q j p hp;rwa [JP]at this⟩
   refine⟨_,_,ps,F.fo hw hn m1 m8 r8,λj p hp=>(F.at' j p hp).1,?_⟩;simp! only[E,eT,iH,vy,Kb,List.map_drop]
 have fin:∀a b:Int,1<=a->a<=8->0<=b->b<=8->∃(kf rf:List D)(ps:dq),Fo kf rf ps/\(∀(j:Nat)(p:Str×D),ps[j]?=some p->p.1=ws.getD j "")/\T K0 [‹.lst (ns.map .int)›,‹.lst (ws.map .str)›,none,‹.int a›,‹.int b›,some (.own (.lst [])),none,none,none]=.ok (.tup [.tup kf,.tup rf]):=λa b h1 h2 h3 h4=>by
  obtain⟨m,rfl⟩:=Kv (show 0<=a by omega);obtain⟨r,rfl⟩:=Kv h3;exact key m r ‹0› ‹0› ‹0›
 have body:cZ=ak (aG 2 (fR (aC aF 2 2) (af (aa 0) (af (fC (.int 1)) ah)))) (ak (aG 3 (f2 aJ (fC (.int 1)) (f2 aW (aa 2) (fC (.int 3))))) (ak (aG 4 (f2 aW (f2 bE (aa 2) (fC (.int 3))) (fC (.int 4)))) (ak (cQ (fB (f2 cD (f2 aW (f2 bE (aa 2) (fC (.int 12))) (fC (.int 8))) (fC (.int 1)))) (ak (aG 3 (f2 aJ (fC (.int 1)) (f2 aW (f2 bE (aa 2) (fC (.int 96))) (fC (.int 8))))) (aG 4 (f2 aW (f2 bE (aa 2) (fC (.int 768))) (fC (.int 9))))) aX) (ak (kd 5 (fP ah)) (dN [2] T))))):=by rw[hT];rfl
 rw[bc,body];by_cases h1:c1/12%8=1
 ·have x1:(c1/12%8==1)=true:=by simp[h1]
  obtain⟨kf,rf,ps,a1,a2,ef⟩:=fin (1+c1/96%8) (c1/768%9) ‹0› ‹0› ‹0› ‹0›;refine⟨kf,rf,ps,a1,a2,?_⟩;simp only[K0]at ef;simp! only[e1,g3,d3,g4,d12,g8,x1,d96,d768,g9,DZ,ef]
 ·have x1:(c1/12%8==1)=false:=by simp[h1]
  obtain⟨kf,rf,ps,a1,a2,ef⟩:=fin (1+c1%3) (c1/3%4) ‹0› ‹0› ‹0› ‹0›;refine⟨kf,rf,ps,a1,a2,?_⟩;simp only[K0]at ef;simp! only[e1,g3,d3,g4,d12,g8,x1,DZ,ef]
noncomputable def ni:bB:=(ak (aG 7 (fR (aC bJ 2 4) (af (fNew "Drop" ["name","value"] (af (aa 6) (af (aa 5) ah))) (af (aa 2) ah)))) (ak (aG 8 (fR (aC cF 3 6) (af (aa 2) (af (aa 6) (af (aa 5) ah))))) (ak (cQ (fB (f2 cD (aa 8) (fC (.int 8)))) (aL (pJ (aa 7))) aX) (ak (cQ (fB (f2 j3 (fR (aC b7 1 2) (af (aa 7) ah)) (aa 8))) (aL (fC (.bl false))) aX) (aL (qO (f2 dm (aa 8) (fC (.int 6))) (fR (aC cN 5 8) (af (aa 2) (af (aa 4) (af (f1 (fZ "one" ["Blind"]) (aa 7)) (af (f1 (fZ "other" ["Blind"]) (aa 7)) (af (f1 (fZ "change" ["Blind"]) (aa 7)) ah))))))))))))
theorem Br(a b c:D):fZ "one" ["Blind"] (.exc "Blind" ["one","other","change"] [a,b,c])=some a:=by kernel_rfl
theorem C1(a b c:D):fZ "other" ["Blind"] (.exc "Blind" ["one","other","change"] [a,b,c])=some b:=by kernel_rfl
theorem BF(a b c:D):fZ "change" ["Blind"] (.exc "Blind" ["one","other","change"] [a,b,c])=some c:=by kernel_rfl
theorem zv:(("rows":Str)==("rows":Str))=true:=by decide +kernel
section
variable{kf rf:List D}{ps:dq}
theorem C9(fas:aP)(ρ:ao):fNew "Drop" ["name","value"] fas ρ=(fas ρ).bind λas=>if as.length=2 then .ok (.obj "Drop" ["name","value"] as)else un:=rfl
theorem yj(h:Fo kf rf ps)(nm:Str){v:D}(hv:Va v){i:Nat}{k:D}(hi:ps[i]?=some (nm,k))(x0 x1 x3:Option S):ni K0 [x0,x1,‹.tup [.tup kf,.tup rf]›,x3,‹.int i›,‹v›,‹.str nm›,none,none]=.ok (.bl true):=by
 obtain⟨s,bo,hs,hb,hf,ho⟩:∃(s:Str)(bo:Bool),ai k (.int 0)=some (.str s)/\((s==("rows":Str))=true->bo=false)/\((s==("rows":Str))=false->bT 12 [k,v]=.ok (.bl bo))/\aC bN 2 2 [k,v]=.ok (.bl bo):=by
  rcases h.kin (IY hi)with fl|⟨kf',rf',b,e,_⟩
  ·have fl:ii k:=fl;obtain⟨bo,a1,a2⟩:=yL fl hv;rcases fl with⟨lo,hi,_,_,_,rfl⟩|⟨ws,_,_,rfl⟩
   ·exact⟨"number",bo,rfl,(λz=>by rw[ww]at z;cases z),λ_=>a1,a2⟩
   ·exact⟨"word",bo,rfl,(λz=>by rw[tT]at z;cases z),λ_=>a1,a2⟩
  ·have e:k=.tup [.str "rows",.tup [.tup kf',.tup rf'],.bl b]:=e;subst e;exact⟨"rows",false,rfl,λ_=>rfl,(λz=>by rw[zv]at z;cases z),zc⟩
 have ed:=AH h nm v hi bo ho;have vo:=vK h nm v hi hs bo hb hf;generalize due kf.length i k bo=d at ed vo;have n0:isNon .non=true:=rfl;generalize hw:aC aq 2 4 [stp nm v,.tup [.tup kf,.tup rf]]=w at vo;unfold ni;cases vo with
 |field=>
  have e1:=refused hw (by decide +kernel);simp! only[ed,C9,e1,sX,(show((0:Int)==8)=false by decide),BEq.rfl,(show decide ((0:Int)<6)=true by decide)]
 |kind=>
  have e1:=refused hw (by decide +kernel);simp! only[ed,C9,e1,zM,(show((1:Int)==8)=false by decide),BEq.rfl,(show decide ((1:Int)<6)=true by decide)]
 |key=>
  have e1:=refused hw (by decide +kernel);simp! only[ed,C9,e1,yC,(show((4:Int)==8)=false by decide),BEq.rfl,(show decide ((4:Int)<6)=true by decide)]
 |blind row x y f hx fw lt im=>
  have e1:=refused hw (by decide +kernel);have bk:=xM h hi f hx fw lt im;simp! only[ed,C9,e1,zK,(show((6:Int)==8)=false by decide),BEq.rfl,(show decide ((6:Int)<6)=false by decide),Br,C1,BF,bk]
 |all g=>
  have e1:=pU hw;simp! only[ed,C9,e1,BEq.rfl,n0]
theorem t9(h:Fo kf rf ps)(nm:Str)(v:D)(i:Nat)(hm:nm∉ps.map (·.1))(x0 x1 x3:Option S):ni K0 [x0,x1,‹.tup [.tup kf,.tup rf]›,x3,‹.int i›,‹v›,‹.str nm›,none,none]=.ok (.bl true):=by
 have e1:=refused (uj h nm v hm) (by decide +kernel);have ed:=vV h nm v hm;unfold ni;simp! only[ed,C9,e1,sX,(show((0:Int)==8)=false by decide),BEq.rfl,(show decide ((0:Int)<6)=true by decide)]
end
theorem math(ns:List Int)(hl:ns.length<=63):aC j7 1 9 [.lst (ns.map .int)]=.ok (.bl true):=by
 obtain⟨c0,e0⟩:=TD.Fd ns 0 (by decide);obtain⟨c3,e3⟩:=TD.Fd ns 3 (by decide);obtain⟨c4,e4⟩:=TD.Fd ns 4 (by decide);obtain⟨y,_,ey⟩:=gR c4 6 (by decide) (by decide);obtain⟨ws,w1,_,wn,ew⟩:=TD.xU c0 20 (by decide);have wn:=wn (by decide);have ew':aC bO 2 10 [.int c0,.int 20]=.ok (.lst (ws.map .str)):=ew;obtain⟨kf,rf,ps,F,nmj,ef⟩:=zN ns ws w1 wn;have g2:=λi=>aI (i:=i) (show(0:Int)<2 by decide);have g8:=λi=>aI (i:=i) (show(0:Int)<8 by decide);have d16:=λi=>a8 (i:=i) (show(0:Int)<16 by decide) (show(16:Int)<10^200 by decide);have d32:=λi=>a8 (i:=i) (show(0:Int)<32 by decide) (show(32:Int)<10^200 by decide);have n17:ai (.lst (ws.map .str)) (.int 17)=some (.str (ws.getD 17 "")):=vQ w1 17 ‹0›;have len:=F.len;have pl16:=F.hl;have k1:=F.k1;have ad:=cu kf rf ‹0›;rw[F.e]at ad;have nl:=lQ F (aY (f2 aJ (f2 ai (aa 2) (fC (.int 0))) (f2 ai (aa 2) (fC (.int 1))))) [‹.lst (ns.map .int)›,‹.lst (ws.map .str)›,‹.tup [.tup kf,.tup rf]›,none,none,none,none,none,none] (by simp! only[ad]);have lp:(0:Int)<(((ps.map (·.1)).map D.str).length:Int):=by rw[IH,IH];omega
 have gt:=λz=>aI (i:=z) lp;have gk:=λz=>aI (i:=z) (show(0:Int)<(kf.length:Int)by omega);have b1:=Ki c3 (show(((ps.map (·.1)).map D.str).length:Int)≠0 by omega);have b2:=Kk c3 lp;have miss:ws.getD 17 ""∉ps.map (·.1):=λz=>by
  obtain⟨p,hp,e⟩:=List.mem_map.mp z;obtain⟨j,hj,ej⟩:=Jw hp
  have:=nmj j p (by rw[Jr hj,ej])
  rw[e]at this;rw[J8,J8,Jr ‹0›,Jr ‹0›]at this
  have:=(Ip wn).mp (show ws[17]=ws[j]from this)
  omega
 obtain⟨T,hT⟩:∃T:bB,T=(ak (aG 5 (fR (aC cn 2 4) (af (f2 ai (f2 ai (f2 aJ (f2 ai (aa 2) (fC (.int 0))) (f2 ai (aa 2) (fC (.int 1)))) (aa 4)) (fC (.int 1))) (af (fR (aC a5 2 3) (af (fR (aC aF 2 2) (af (aa 0) (af (fC (.int 4)) ah))) (af (fC (.int 6)) ah))) ah)))) (ak (aG 6 (f2 ai (aa 3) (aa 4))) (ak (cQ (fB (f2 cD (f2 aW (f2 bE (fR (aC aF 2 2) (af (aa 0) (af (fC (.int 3)) ah))) (fC (.int 32))) (fC (.int 8))) (fC (.int 1)))) (aG 6 (f2 ai (aa 1) (fC (.int 17)))) aX) ni))):=⟨_,rfl⟩
 have tl:∀i:Nat,i<ps.length->T K0 [‹.lst (ns.map .int)›,‹.lst (ws.map .str)›,‹.tup [.tup kf,.tup rf]›,‹.lst ((ps.map (·.1)).map .str)›,‹.int i›,none,none,none,none]=.ok (.bl true):=λi il=>by
  have hit:ps[i]?=some (ps[i].1,ps[i].2):=Jr il;have f1:ai (.tup (ps.map fld)) (.int (i:Int))=some (.tup [.str ps[i].1,ps[i].2]):=by rw[vS,oq,IV,hit];rfl
  have f3:ai (.lst ((ps.map (·.1)).map .str)) (.int (i:Int))=some (.str ps[i].1):=by rw[Cy,oq,IV,IV,hit];rfl
  obtain⟨v,hv,ev⟩:=yc (F.kin (IY hit)) (F.fl i _ hit).2 y;have th:=λx0 x1 x3=>yj F ps[i].1 hv hit x0 x1 x3;have tm:=λx0 x1 x3=>t9 F (ws.getD 17 "") v i miss x0 x1 x3;rw[hT];generalize ni=TB at th tm;generalize ws.getD 17 ""=w17 at n17 tm;have ev:aC cn 2 4 [ps[i].2,.int y]=.ok v:=ev;simp only[K0]at th tm;cases z:(c3/32%8==1)with
  |true=>simp! only[ad,f1,e4,ey,ev,f3,e3,d32,g8,z,n17,tm]
  |false=>simp! only[ad,f1,e4,ey,ev,f3,e3,d32,g8,z,th]
 have body:j7=ak (aG 1 (fR (aC bO 2 10) (af (fR (aC aF 2 2) (af (aa 0) (af (fC (.int 0)) ah))) (af (fC (.int 20)) ah)))) (ak (aG 2 (fR (aC cZ 2 9) (af (aa 0) (af (aa 1) ah)))) (ak (aG 3 (cS [none] (aY (f2 aJ (f2 ai (aa 2) (fC (.int 0))) (f2 ai (aa 2) (fC (.int 1))))) (gN 0) aU (f2 ai (aa 0) (fC (.int 0))))) (ak (aG 4 (f2 aW (fR (aC aF 2 2) (af (aa 0) (af (fC (.int 3)) ah))) (fL b9 (af (aa 3) ah)))) (ak (cQ (fB (f2 cD (f2 aW (f2 bE (fR (aC aF 2 2) (af (aa 0) (af (fC (.int 3)) ah))) (fC (.int 16))) (fC (.int 2))) (fC (.int 1)))) (aG 4 (f2 aW (aa 4) (fL b9 (af (f2 ai (aa 2) (fC (.int 0))) ah)))) aX) T)))):=by rw[hT];rfl
 rw[du,body];simp only[K0]at tl;have pl:(((ps.map (·.1)).map D.str).length:Int)=(ps.length:Int):=by rw[IH,IH]
 cases z:(c3/16%2==1)with
 |false=>
  obtain⟨i,ei⟩:=Kv b1;have ti:=tl i ‹0›;simp only[<-ei]at ti;simp! only[e0,ew',ef,nl,e3,gt,d16,g2,z,ti]
 |true=>
  have b3:=Ki (c3%(((ps.map (·.1)).map D.str).length:Int)) (show(kf.length:Int)≠0 by omega);have b4:=Kk (c3%(((ps.map (·.1)).map D.str).length:Int)) (show(0:Int)<(kf.length:Int)by omega);obtain⟨i,ei⟩:=Kv b3;have ti:=tl i ‹0›;simp only[<-ei]at ti;simp! only[e0,ew',ef,nl,e3,gt,gk,d16,g2,z,ti]
end Tk31
open PySem PySem.W PyProof.Rows
theorem PySem.W.Fast.tw2835414325480374870 : True := trivial
theorem PySem.W.Fast.tw3565849252150500001 : True := trivial
theorem PySem.W.Fast.tw8803408792349754125 : True := trivial
theorem PySem.W.Fast.tw2875246779782819781 : True := trivial
theorem PySem.W.Fast.tw16142753386258396755 : True := trivial
theorem PySem.W.Fast.tw16778535027653874370 : True := trivial
theorem PySem.W.Fast.tw16223567299490268699 : True := trivial
theorem PySem.W.Fast.tw16380279388612268791 : True := trivial
theorem PySem.W.Fast.tw5232135940481471250 : True := trivial
theorem PySem.W.Fast.tw4489657028348557070 : True := trivial
theorem PySem.W.Fast.tw13238890639210153120 : True := trivial
theorem PySem.W.Fast.tw16815072192833866366 : True := trivial
theorem PySem.W.Fast.tw14039261197130951504 : True := trivial
theorem PySem.W.Fast.tw5473547421278951006 : True := trivial
theorem PySem.W.Fast.tw10712156821749156083 : True := trivial
theorem PySem.W.Fast.tw5805177835679186816 : True := trivial
theorem PySem.W.Fast.tw1012812674990981750 : True := trivial
theorem PySem.W.Fast.tw18354110259480422875 : True := trivial
theorem PySem.W.Fast.tw8730197574281038411 : True := trivial
theorem PySem.W.Fast.tw6045124291518102577 : True := trivial
theorem PySem.W.Fast.tw11297881607729343238 : True := trivial
theorem PySem.W.Fast.tw963096965183591841 : True := trivial
theorem PySem.W.Fast.tw11808727129987406246 : True := trivial
theorem PySem.W.Fast.tw16415032886757247083 : True := trivial
theorem PySem.W.Fast.tw4767153732732600644 : True := trivial
theorem PySem.W.Fast.tw7589004554184284870 : True := trivial
theorem PySem.W.Fast.tw498084318855154722 : True := trivial
theorem PySem.W.Fast.tw15009415828247504001 : True := trivial
theorem PySem.W.Fast.tw2090513913738631298 : True := trivial
theorem PySem.W.Fast.tw11489485042093035258 : True := trivial
theorem PySem.W.Fast.tw6995028628229622272 : True := trivial
theorem PySem.W.Fast.tw5277096067106479801 : True := trivial
theorem PySem.W.Fast.tw5702284475843536851 : True := trivial
theorem PySem.W.Fast.tw17677348121630903583 : True := trivial
theorem PySem.W.Fast.tw15703573660789733515 : True := trivial
theorem PySem.W.Fast.tw4453136438351327083 : True := trivial
theorem PySem.W.Fast.tw6062950917030158787 : True := trivial
theorem PySem.W.Fast.tw6259134072876618024 : True := trivial
theorem PySem.W.Fast.tw2284693117725294242 : True := trivial
theorem PySem.W.Fast.tw17956748263593641346 : True := trivial
theorem PySem.W.Fast.tw2856914565193597129 : True := trivial
theorem PySem.W.Fast.tw14359827889913441333 : True := trivial
theorem PySem.W.Fast.tw6013738270840024758 : True := trivial
theorem PySem.W.Fast.tw4386406007621138919 : True := trivial
theorem PySem.W.Fast.tw8283925128364851124 : True := trivial
theorem PySem.W.Fast.tw8524668264627970902 : True := trivial
theorem PySem.W.Fast.tw14219391184356414878 : True := trivial
theorem PySem.W.Fast.tw13047169279163080215 : True := trivial
theorem PySem.W.Fast.tw15679089876581756162 : True := trivial
theorem PySem.W.Fast.tw18309903645191057841 : True := trivial
theorem PySem.W.Fast.tw16991042514943174430 : True := trivial
theorem PySem.W.Fast.tw4785399312840896811 : True := trivial
theorem PySem.W.Fast.tw2830211267290536570 : True := trivial
theorem PySem.W.Fast.tw1314291210806597044 : True := trivial
theorem PySem.W.Fast.tw3159327379245468637 : True := trivial
theorem PySem.W.Fast.tw15956258333478583548 : True := trivial
theorem PySem.W.Fast.tw3410934075854781145 : True := trivial
theorem PySem.W.Fast.tw6679276193833926784 : True := trivial
theorem PySem.W.Fast.tw780266488323557067 : True := trivial
theorem PySem.W.Fast.tw11460338603327740511 : True := trivial
theorem PySem.W.Fast.tw9627815527869203348 : True := trivial
theorem PySem.W.Fast.tw12275953863281963434 : True := trivial
theorem PySem.W.Fast.tw13816993664776806491 : True := trivial
theorem PySem.W.Fast.tw64119731480599234 : True := trivial
theorem PySem.W.Fast.tw7729667503169187602 : True := trivial
theorem PySem.W.Fast.tw11682382275478663774 : True := trivial
theorem PySem.W.Fast.tw3498402058530259803 : True := trivial
theorem PySem.W.Fast.tw62182560544892695 : True := trivial
theorem PySem.W.Fast.tw16407459797919181718 : True := trivial
theorem PySem.W.Fast.tw13744608627110589959 : True := trivial
theorem PySem.W.Fast.tw16135903823361458128 : True := trivial
theorem PySem.W.Fast.tw8362900157355994800 : True := trivial
theorem PySem.W.Fast.tw13673627675423263446 : True := trivial
theorem PySem.W.Fast.tw8160865099303115757 : True := trivial
theorem PySem.W.Fast.tw3727504575973713023 : True := trivial
theorem PySem.W.Fast.tw9120261328465870055 : True := trivial
theorem PySem.W.Fast.tw7071639329260632745 : True := trivial
theorem PySem.W.Fast.tw14051265082792325857 : True := trivial
theorem PySem.W.Fast.tw18043885330185192835 : True := trivial
theorem PySem.W.Fast.tw10988161999137390487 : True := trivial
theorem PySem.W.Fast.tw16689072556417113090 : True := trivial
theorem PySem.W.Fast.tw6413298552523175182 : True := trivial
theorem PySem.W.Fast.tw16915526172900094523 : True := trivial
theorem PySem.W.Fast.tw2854053567030223580 : True := trivial
theorem PySem.W.Fast.tw8676484057006333116 : True := trivial
theorem PySem.W.Fast.tw3183245817066605131 : True := trivial
theorem PySem.W.Fast.tw3032004167189232652 : True := trivial
theorem PySem.W.Fast.tw16820501187059443527 : True := trivial
theorem PySem.W.Fast.tw733313284090600527 : True := trivial
theorem PySem.W.Fast.tw15364637990881557636 : True := trivial
theorem PySem.W.Fast.tw5980535879423957532 : True := trivial
theorem PySem.W.Fast.tw2414563633883036313 : True := trivial
theorem PySem.W.Fast.tw9882807794713214547 : True := trivial
theorem PySem.W.Fast.tw579254118488232871 : True := trivial
theorem PySem.W.Fast.tw10527205643107835678 : True := trivial
theorem PySem.W.Fast.tw5853440413211230690 : True := trivial
theorem PySem.W.Fast.tw1702598338378135743 : True := trivial
theorem PySem.W.Fast.tw12415587532880364733 : True := trivial
theorem PySem.W.Fast.tw10618112119683105898 : True := trivial
theorem PySem.W.Fast.tw17562888099873501100 : True := trivial
theorem PySem.W.Fast.tw6659444178715528639 : True := trivial
theorem PySem.W.Fast.tw13270382506058045579 : True := trivial
theorem PySem.W.Fast.tw1097208582833411826 : True := trivial
theorem PySem.W.Fast.tw9440018671396786972 : True := trivial
theorem PySem.W.Fast.tw12594511508236419574 : True := trivial
theorem PySem.W.Fast.tw11732026898404834715 : True := trivial
theorem PySem.W.Fast.tw4541390108172035777 : True := trivial
theorem PySem.W.Fast.tw11416341066063741141 : True := trivial
theorem PySem.W.Fast.tw13005584654499142951 : True := trivial
theorem PySem.W.Fast.tw7710862847228307780 : True := trivial
theorem PySem.W.Fast.tw6995733213536426319 : True := trivial
theorem PySem.W.Fast.tw17046604906178414667 : True := trivial
theorem PySem.W.Fast.tw9428100555013483081 : True := trivial
theorem PySem.W.Fast.tw15382616956637786394 : True := trivial
theorem PySem.W.Fast.tw5776443217921747501 : True := trivial
theorem PySem.W.Fast.tw16251859575873616038 : True := trivial
theorem PySem.W.Fast.tw6500637948710083008 : True := trivial
theorem PySem.W.Fast.tw14066687060581980182 : True := trivial
theorem PySem.W.Fast.tw5713830942787457854 : True := trivial
theorem PySem.W.Fast.tw4471083568159541968 : True := trivial
theorem PySem.W.Fast.tw14697755813013270840 : True := trivial
theorem PySem.W.Fast.tw14681373221385347229 : True := trivial
theorem PySem.W.Fast.tw11218950809275127042 : True := trivial
theorem PySem.W.Fast.tw1318785087683541656 : True := trivial
theorem PySem.W.Fast.tw5713807290113142630 : True := trivial
theorem PySem.W.Fast.tw6000213040440238153 : True := trivial
theorem PySem.W.Fast.tw1207814993784456336 : True := trivial
theorem PySem.W.Fast.tw6753043767151391504 : True := trivial
theorem PySem.W.Fast.tw2623876955289298587 : True := trivial
set_option maxRecDepth 100000 in
set_option maxHeartbeats 0 in
theorem PySem.Challenge.cw_twoglass_k31_drops_refused_holds : PySem.Challenge.rw_twoglass_k31_drops_refused.Holds := by
  w_on; o_law; k_head; (case hw => w_witness2)
  k_fill
  refine Tk31.walk (l := PySem.Challenge.rw_twoglass_k31_drops_refused) rfl rfl (fun w h Y => PySem.W.kIn_of Y) ?F Tk31.math
  case F =>
    intro w mg fa h KX G hmg
    refine' Tk31.all_mk KX G hmg ?ac0 ?ac1 ?a0 ?i0 ?l0 ?c0 ?k0 ?a1 ?i1 ?l1 ?c1 ?k1 ?a2 ?l2 ?c2 ?k2 ?a3 ?i3 ?l3 ?c3 ?k3 ?p0 ?q0 ?r0 ?s0 ?n0_0 ?n0_1 ?m0 ?kp0 ?p1 ?q1 ?r1 ?s1 ?xa0 ?xa1 ?xa2 ?xa3 ?xa4 ?xa5 ?xa6 ?xa7 ?xa8 ?xa9 ?xa10 ?xa11 ?xa12 ?xa13 ?a4 ?i4 ?l4 ?c4 ?k4 ?xs7 ?xp7 ?xi7 ?xy7 ?xd7 ?xna7_0 ?xna7_1 ?xna7_2 ?xe4 ?xe2 ?xe1 ?xsg ?xtk ?xg2 ?xn2 ?xf2 ?xb2 ?xg1 ?xn1 ?xf1 ?xb1 ?xg4 ?xn4 ?xf4 ?xb4 ?xg7 ?xn7 ?xf7 ?xb7 ?xo0 ?xt0 ?xo1 ?xt1 ?xo2 ?xt2 ?xo3 ?xt3 ?xo4 ?xt4 ?xo5 ?xt5 ?xo6 ?xt6 ?xo7 ?xt7 ?xo8 ?xt8 ?xo9 ?xt9 ?xo10 ?xt10 ?xo11 ?xt11 ?xo12 ?xt12 ?xo13 ?xt13 ?xw13 ?xm13_2 ?xm13_1 ?xm13_4 ?xm13_7 ?xk0_2 ?vnx0_2 ?xk0_1 ?vnx0_1 ?xk0_4 ?vnx0_4 ?xk0_7 ?vnx0_7 ?xk1_2 ?vnx1_2 ?xk1_1 ?xk1_4 ?vnx1_4 ?xk1_7 ?vnx1_7 ?xk2_2 ?xk2_1 ?vnx2_1 ?xk2_4 ?vnx2_4 ?xk2_7 ?vnx2_7 ?xk3_2 ?vnx3_2 ?xk3_1 ?vnx3_1 ?xk3_4 ?vnx3_4 ?xk3_7 ?vnx3_7 ?xk4_2 ?vnx4_2 ?xk4_1 ?vnx4_1 ?xk4_4 ?xk4_7 ?vnx4_7 ?xk5_2 ?vnx5_2 ?xk5_1 ?vnx5_1 ?xk5_4 ?vnx5_4 ?xk5_7 ?vnx5_7 ?xk6_2 ?vnx6_2 ?xk6_1 ?vnx6_1 ?xk6_4 ?vnx6_4 ?xk6_7 ?vnx6_7 ?xk7_2 ?vnx7_2 ?xk7_1 ?vnx7_1 ?xk7_4 ?vnx7_4 ?xk7_7 ?xk8_2 ?vnx8_2 ?xk8_1 ?vnx8_1 ?xk8_4 ?vnx8_4 ?xk8_7 ?vnx8_7 ?xk9_2 ?vnx9_2 ?xk9_1 ?vnx9_1 ?xk9_4 ?vnx9_4 ?xk9_7 ?vnx9_7 ?xk10_2 ?vnx10_2 ?xk10_1 ?vnx10_1 ?xk10_4 ?vnx10_4 ?xk10_7 ?vnx10_7 ?xk11_2 ?vnx11_2 ?xk11_1 ?vnx11_1 ?xk11_4 ?vnx11_4 ?xk11_7 ?vnx11_7 ?xk12_2 ?vnx12_2 ?xk12_1 ?vnx12_1 ?xk12_4 ?vnx12_4 ?xk12_7 ?vnx12_7 ?xv_ValueError_2 ?xv_ValueError_1 ?xv_ValueError_4 ?xv_ValueError_7 ?dd0 ?dd1 ?zz
    (case ac0 => k_is)
    (case ac1 => k_is)
    (case a0 => k_is)
    (case i0 => k_is)
    (case l0 => delta TX.Lk; k_is)
    (case c0 => k_is)
    (case k0 => k_is)
    (case a1 => k_is)
    (case i1 => k_is)
    (case l1 => delta TX.Lk; k_is)
    (case c1 => k_is)
    (case k1 => k_is)
    (case a2 => k_is)
    (case l2 => delta TX.Lk; k_is)
    (case c2 => k_is)
    (case k2 => k_is)
    (case a3 => k_is)
    (case i3 => k_is)
    (case l3 => delta TX.Lk; k_is)
    (case c3 => k_is)
    (case k3 => k_is)
    (case p0 => k_is)
    (case q0 => k_is)
    (case r0 => k_is)
    (case s0 => k_is)
    (case n0_0 => k_is)
    (case n0_1 => k_is)
    (case m0 => k_is)
    (case kp0 => k_is)
    (case p1 => k_is)
    (case q1 => k_is)
    (case r1 => k_is)
    (case s1 => k_is)
    (case xa0 => k_is)
    (case xa1 => k_is)
    (case xa2 => k_is)
    (case xa3 => k_is)
    (case xa4 => k_is)
    (case xa5 => k_is)
    (case xa6 => k_is)
    (case xa7 => k_is)
    (case xa8 => k_is)
    (case xa9 => k_is)
    (case xa10 => k_is)
    (case xa11 => k_is)
    (case xa12 => k_is)
    (case xa13 => k_is)
    (case a4 => k_is)
    (case i4 => k_is)
    (case l4 => delta TX.Lk; k_is)
    (case c4 => k_is)
    (case k4 => k_is)
    (case xs7 => k_is)
    (case xp7 => k_is)
    (case xi7 => kernel_rfl)
    (case xy7 => kernel_rfl)
    (case xd7 => k_is)
    (case xna7_0 => k_is)
    (case xna7_1 => k_is)
    (case xna7_2 => k_is)
    (case xe4 => k_exc)
    (case xe2 => k_exc)
    (case xe1 => k_exc)
    (case xsg => k_is)
    (case xtk => k_is)
    (case xg2 => k_is)
    (case xn2 => k_is)
    (case xf2 => k_is)
    (case xb2 => k_is)
    (case xg1 => k_is)
    (case xn1 => k_is)
    (case xf1 => k_is)
    (case xb1 => k_is)
    (case xg4 => k_is)
    (case xn4 => k_is)
    (case xf4 => k_is)
    (case xb4 => k_is)
    (case xg7 => k_is)
    (case xn7 => k_is)
    (case xf7 => k_is)
    (case xb7 => k_is)
    (case xo0 => k_is)
    (case xt0 => k_is)
    (case xo1 => k_is)
    (case xt1 => k_is)
    (case xo2 => k_is)
    (case xt2 => k_is)
    (case xo3 => k_is)
    (case xt3 => k_is)
    (case xo4 => k_is)
    (case xt4 => k_is)
    (case xo5 => k_is)
    (case xt5 => k_is)
    (case xo6 => k_is)
    (case xt6 => k_is)
    (case xo7 => k_is)
    (case xt7 => k_is)
    (case xo8 => k_is)
    (case xt8 => k_is)
    (case xo9 => k_is)
    (case xt9 => k_is)
    (case xo10 => k_is)
    (case xt10 => k_is)
    (case xo11 => k_is)
    (case xt11 => k_is)
    (case xo12 => k_is)
    (case xt12 => k_is)
    (case xo13 => k_is)
    (case xt13 => k_is)
    (case xw13 => k_is)
    (case xm13_2 => k_is)
    (case xm13_1 => k_is)
    (case xm13_4 => k_is)
    (case xm13_7 => k_is)
    (case xk0_2 => k_is)
    (case vnx0_2 => decide)
    (case xk0_1 => k_is)
    (case vnx0_1 => decide)
    (case xk0_4 => k_is)
    (case vnx0_4 => decide)
    (case xk0_7 => k_is)
    (case vnx0_7 => decide)
    (case xk1_2 => k_is)
    (case vnx1_2 => decide)
    (case xk1_1 => k_is)
    (case xk1_4 => k_is)
    (case vnx1_4 => decide)
    (case xk1_7 => k_is)
    (case vnx1_7 => decide)
    (case xk2_2 => k_is)
    (case xk2_1 => k_is)
    (case vnx2_1 => decide)
    (case xk2_4 => k_is)
    (case vnx2_4 => decide)
    (case xk2_7 => k_is)
    (case vnx2_7 => decide)
    (case xk3_2 => k_is)
    (case vnx3_2 => decide)
    (case xk3_1 => k_is)
    (case vnx3_1 => decide)
    (case xk3_4 => k_is)
    (case vnx3_4 => decide)
    (case xk3_7 => k_is)
    (case vnx3_7 => decide)
    (case xk4_2 => k_is)
    (case vnx4_2 => decide)
    (case xk4_1 => k_is)
    (case vnx4_1 => decide)
    (case xk4_4 => k_is)
    (case xk4_7 => k_is)
    (case vnx4_7 => decide)
    (case xk5_2 => k_is)
    (case vnx5_2 => decide)
    (case xk5_1 => k_is)
    (case vnx5_1 => decide)
    (case xk5_4 => k_is)
    (case vnx5_4 => decide)
    (case xk5_7 => k_is)
    (case vnx5_7 => decide)
    (case xk6_2 => k_is)
    (case vnx6_2 => decide)
    (case xk6_1 => k_is)
    (case vnx6_1 => decide)
    (case xk6_4 => k_is)
    (case vnx6_4 => decide)
    (case xk6_7 => k_is)
    (case vnx6_7 => decide)
    (case xk7_2 => k_is)
    (case vnx7_2 => decide)
    (case xk7_1 => k_is)
    (case vnx7_1 => decide)
    (case xk7_4 => k_is)
    (case vnx7_4 => decide)
    (case xk7_7 => k_is)
    (case xk8_2 => k_is)
    (case vnx8_2 => decide)
    (case xk8_1 => k_is)
    (case vnx8_1 => decide)
    (case xk8_4 => k_is)
    (case vnx8_4 => decide)
    (case xk8_7 => k_is)
    (case vnx8_7 => decide)
    (case xk9_2 => k_is)
    (case vnx9_2 => decide)
    (case xk9_1 => k_is)
    (case vnx9_1 => decide)
    (case xk9_4 => k_is)
    (case vnx9_4 => decide)
    (case xk9_7 => k_is)
    (case vnx9_7 => decide)
    (case xk10_2 => k_is)
    (case vnx10_2 => decide)
    (case xk10_1 => k_is)
    (case vnx10_1 => decide)
    (case xk10_4 => k_is)
    (case vnx10_4 => decide)
    (case xk10_7 => k_is)
    (case vnx10_7 => decide)
    (case xk11_2 => k_is)
    (case vnx11_2 => decide)
    (case xk11_1 => k_is)
    (case vnx11_1 => decide)
    (case xk11_4 => k_is)
    (case vnx11_4 => decide)
    (case xk11_7 => k_is)
    (case vnx11_7 => decide)
    (case xk12_2 => k_is)
    (case vnx12_2 => decide)
    (case xk12_1 => k_is)
    (case vnx12_1 => decide)
    (case xk12_4 => k_is)
    (case vnx12_4 => decide)
    (case xk12_7 => k_is)
    (case vnx12_7 => decide)
    (case xv_ValueError_2 => k_is)
    (case xv_ValueError_1 => k_is)
    (case xv_ValueError_4 => k_is)
    (case xv_ValueError_7 => k_is)
    case dd0|dd1 => (repeat (refine' TX.KDs.mk (TX.KD.mk ?a ?l ?c ?k) ?_;(case a|l|c|k => first|delta TX.Lk;k_is|k_is)));trivial
    case zz => (repeat (refine TX.KZs.mk (by k_is) ?_));trivial
